import Derived.Test.YtfpoiikhhjdpdaaGreatJ20
import Derived.Test.YtfpoiikhhjdpdaaGreatJ18
/- The document's block: one statement of it, by itself: a log gets a record. -/
namespace Go.Proofs.YtfpoiikhhjdpdaaGreat
open Go.RowKit
set_option linter.unusedVariables false
attribute [local go_sem ↓] Go.wp_at_zero Go.wp_at_succ
set_option maxRecDepth 100000 in
set_option maxHeartbeats 2000000 in
theorem reg14 (yb g2 cap2 nn kk r cb l2 capl2 : Nat) (p2 : Option Addr) (SC : C4) (xs : List Value) (w : World) (Q : Exit → Act → World → Prop) (t1 t3 t4 t5 t6 t7 t8 t9 t10 t12 t14 t15 t16 t17 t18 t19 t20 t21 t22 t23 t24 t25 t26 t27 t28 t29 t30 t31 t32 t33 t34 t35 t36 t37 t38 t39 t40 t41 t42 t43 t44 t45 t46 t47 t48 t49 t50 t51 t52 t53 t54 t55 t56 t57 t58 t59 t60 t61 t62 t63 t64 t65 t66 t67 t68 t69 t70 t71 t72 t73 t74 t75 t76 t77 t78 t79 t80 t81 t82 t83 t84 t85 t86 t87 t88 t89 t90 t91 t92 t93 t94 t95 t96 t97 t98 t99 t100 t101 t102 t103 t104 t105 t106 t107 t108 t109 t110 t111 t112 t113 t114 t115 t116 t117 t118 t119 t120 t121 : Value)
    (hki : (kk : Int) < (nn : Int)) (hk6 : kk < 6) (q4 : w.cell? ⟨yb, 4, none⟩ = some (.slice (some ⟨g2, 0, none⟩) nn cap2)) (q3 : w.cell? ⟨g2, kk * 4 + 3, none⟩ = some (.slice p2 l2 capl2)) (hf2 : w.frozen? ⟨g2, kk * 4 + 3, none⟩ = false) (hlt : yb < w.heap.size) (hg2 : g2 < w.heap.size)
    (s0 : w.cell? ⟨cb, 0, none⟩ = some (.int .u8 SC.b0)) (s1 : w.cell? ⟨cb, 1, none⟩ = some (.int .u8 SC.b1)) (s2 : w.cell? ⟨cb, 2, none⟩ = some (.int .u8 SC.b2)) (s3 : w.cell? ⟨cb, 3, none⟩ = some (.int .u8 SC.b3)) (hsl : cb < w.heap.size)
    (hown : w.ownsRow 0 92 5 (.slice p2 l2 capl2) l2 xs) (hl28 : l2 < 8) (hneg : (Value.slice p2 l2 capl2).ownBlock ≠ some g2) (hyn : (Value.slice p2 l2 capl2).ownBlock ≠ some yb) (hcn : (Value.slice p2 l2 capl2).ownBlock ≠ some cb) (hgy : g2 ≠ yb) (hgc : g2 ≠ cb)
    (h : ∀ (g5 c5 : Nat) (w5 : World) (v72 v73 v74 v75 v76 v77 v78 v79 v80 v81 v82 v83 v84 v85 v86 v87 v88 v89 v90 v91 : Value), w5.ownsRow 0 92 5 (.slice (some ⟨g5, 0, none⟩) (l2 + 1) c5) (l2 + 1) (xs ++ Rec.cells ⟨r, SC⟩) → Lies (w.alloc (.cells #[.int .i64 r, .int .u8 SC.b0, .int .u8 SC.b1, .int .u8 SC.b2, .int .u8 SC.b3] 92)).drew w5 (.slice p2 l2 capl2) (.slice (some ⟨g5, 0, none⟩) (l2 + 1) c5) →
      Q .normal { tmps := #[.pointer (some ⟨yb, 0, none⟩), t1, .int .i64 r, t3, t4, t5, t6, t7, t8, t9, t10, .int .i64 kk, t12, .pointer (some ⟨cb, 0, none⟩), t14, t15, t16, t17, t18, t19, t20, t21, t22, t23, t24, t25, t26, t27, t28, t29, t30, t31, t32, t33, t34, t35, t36, t37, t38, t39, t40, t41, t42, t43, t44, t45, t46, t47, t48, t49, t50, t51, t52, t53, t54, t55, t56, t57, t58, t59, t60, t61, t62, t63, t64, t65, t66, t67, t68, t69, t70, t71, v72, v73, v74, v75, v76, v77, v78, v79, v80, v81, v82, v83, v84, v85, v86, v87, v88, v89, v90, v91, t92, t93, t94, t95, t96, t97, t98, t99, t100, t101, t102, t103, t104, t105, t106, t107, t108, t109, t110, t111, t112, t113, t114, t115, t116, t117, t118, t119, t120, t121], defers := [] } (w5.setCell ⟨g2, kk * 4 + 3, none⟩ (.slice (some ⟨g5, 0, none⟩) (l2 + 1) c5))) :
    Code.wp Tryz.prog (Code.region 14 #[{ dst := some 72, op := Op.move (Operand.tmp 0), type := 59, pos := "state.go:180", after := #[], guard := none }, { dst := some 73, op := Op.nilCheck (Operand.tmp 72), type := 0, pos := "state.go:180", after := #[{ on := 0, ground := Ground.data }], guard := none }, { dst := some 74, op := Op.fieldAddr 107 (Operand.tmp 73) 1, type := 0, pos := "state.go:180", after := #[{ on := 1, ground := Ground.data }], guard := none }, { dst := some 75, op := Op.load 105 (Operand.tmp 74), type := 105, pos := "state.go:180", after := #[{ on := 2, ground := Ground.data }], guard := none }, { dst := some 76, op := Op.move (Operand.tmp 11), type := 3, pos := "state.go:180", after := #[], guard := none }, { dst := some 77, op := Op.move (Operand.tmp 0), type := 59, pos := "state.go:180", after := #[], guard := none }, { dst := some 78, op := Op.nilCheck (Operand.tmp 77), type := 0, pos := "state.go:180", after := #[{ on := 5, ground := Ground.data }], guard := none }, { dst := some 79, op := Op.fieldAddr 107 (Operand.tmp 78) 1, type := 0, pos := "state.go:180", after := #[{ on := 6, ground := Ground.data }], guard := none }, { dst := some 80, op := Op.load 105 (Operand.tmp 79), type := 105, pos := "state.go:180", after := #[{ on := 7, ground := Ground.data }], guard := none }, { dst := some 81, op := Op.move (Operand.tmp 11), type := 3, pos := "state.go:180", after := #[], guard := none }, { dst := some 82, op := Op.indexAddr 105 (Operand.tmp 80) (Operand.tmp 81), type := 0, pos := "state.go:180", after := #[{ on := 8, ground := Ground.data }, { on := 9, ground := Ground.data }], guard := none }, { dst := some 83, op := Op.fieldAddr 111 (Operand.tmp 82) 3, type := 0, pos := "state.go:180", after := #[{ on := 10, ground := Ground.data }], guard := none }, { dst := some 84, op := Op.load 46 (Operand.tmp 83), type := 46, pos := "state.go:180", after := #[{ on := 11, ground := Ground.data }], guard := none }, { dst := some 85, op := Op.move (Operand.tmp 2), type := 3, pos := "state.go:180", after := #[], guard := none }, { dst := some 86, op := Op.load 75 (Operand.tmp 13), type := 75, pos := "state.go:180", after := #[], guard := none }, { dst := some 87, op := Op.build 92 #[(0, Operand.tmp 85), (1, Operand.tmp 86)], type := 92, pos := "state.go:180", after := #[{ on := 13, ground := Ground.data }, { on := 14, ground := Ground.data }], guard := none }, { dst := some 88, op := Op.buildSlice 46 1 #[(0, Operand.tmp 87)], type := 46, pos := "state.go:180", after := #[{ on := 15, ground := Ground.data }], guard := none }, { dst := some 89, op := Op.call { callee := Callee.builtin Builtin.append, args := #[Operand.tmp 84, Operand.tmp 88], argTypes := #[46, 46] }, type := 46, pos := "state.go:180", after := #[{ on := 12, ground := Ground.data }, { on := 16, ground := Ground.data }], guard := none }, { dst := some 90, op := Op.indexAddr 105 (Operand.tmp 75) (Operand.tmp 76), type := 0, pos := "state.go:180", after := #[{ on := 3, ground := Ground.data }, { on := 4, ground := Ground.data }, { on := 0, ground := Ground.phase }, { on := 1, ground := Ground.phase }, { on := 2, ground := Ground.phase }, { on := 3, ground := Ground.phase }, { on := 4, ground := Ground.phase }, { on := 5, ground := Ground.phase }, { on := 6, ground := Ground.phase }, { on := 7, ground := Ground.phase }, { on := 8, ground := Ground.phase }, { on := 9, ground := Ground.phase }, { on := 10, ground := Ground.phase }, { on := 11, ground := Ground.phase }, { on := 12, ground := Ground.phase }, { on := 13, ground := Ground.phase }, { on := 14, ground := Ground.phase }, { on := 15, ground := Ground.phase }, { on := 16, ground := Ground.phase }, { on := 17, ground := Ground.phase }], guard := none }, { dst := some 91, op := Op.fieldAddr 111 (Operand.tmp 90) 3, type := 0, pos := "state.go:180", after := #[{ on := 18, ground := Ground.data }, { on := 0, ground := Ground.phase }, { on := 1, ground := Ground.phase }, { on := 2, ground := Ground.phase }, { on := 3, ground := Ground.phase }, { on := 4, ground := Ground.phase }, { on := 5, ground := Ground.phase }, { on := 6, ground := Ground.phase }, { on := 7, ground := Ground.phase }, { on := 8, ground := Ground.phase }, { on := 9, ground := Ground.phase }, { on := 10, ground := Ground.phase }, { on := 11, ground := Ground.phase }, { on := 12, ground := Ground.phase }, { on := 13, ground := Ground.phase }, { on := 14, ground := Ground.phase }, { on := 15, ground := Ground.phase }, { on := 16, ground := Ground.phase }, { on := 17, ground := Ground.phase }], guard := none }, { dst := none, op := Op.store 46 (Operand.tmp 91) (Operand.tmp 89), type := 0, pos := "state.go:180", after := #[{ on := 19, ground := Ground.data }, { on := 17, ground := Ground.data }, { on := 17, ground := Ground.chain }, { on := 0, ground := Ground.phase }, { on := 1, ground := Ground.phase }, { on := 2, ground := Ground.phase }, { on := 3, ground := Ground.phase }, { on := 4, ground := Ground.phase }, { on := 5, ground := Ground.phase }, { on := 6, ground := Ground.phase }, { on := 7, ground := Ground.phase }, { on := 8, ground := Ground.phase }, { on := 9, ground := Ground.phase }, { on := 10, ground := Ground.phase }, { on := 11, ground := Ground.phase }, { on := 12, ground := Ground.phase }, { on := 13, ground := Ground.phase }, { on := 14, ground := Ground.phase }, { on := 15, ground := Ground.phase }, { on := 16, ground := Ground.phase }, { on := 17, ground := Ground.phase }], guard := none }] true) Q { tmps := #[.pointer (some ⟨yb, 0, none⟩), t1, .int .i64 r, t3, t4, t5, t6, t7, t8, t9, t10, .int .i64 kk, t12, .pointer (some ⟨cb, 0, none⟩), t14, t15, t16, t17, t18, t19, t20, t21, t22, t23, t24, t25, t26, t27, t28, t29, t30, t31, t32, t33, t34, t35, t36, t37, t38, t39, t40, t41, t42, t43, t44, t45, t46, t47, t48, t49, t50, t51, t52, t53, t54, t55, t56, t57, t58, t59, t60, t61, t62, t63, t64, t65, t66, t67, t68, t69, t70, t71, t72, t73, t74, t75, t76, t77, t78, t79, t80, t81, t82, t83, t84, t85, t86, t87, t88, t89, t90, t91, t92, t93, t94, t95, t96, t97, t98, t99, t100, t101, t102, t103, t104, t105, t106, t107, t108, t109, t110, t111, t112, t113, t114, t115, t116, t117, t118, t119, t120, t121], defers := [] } w := by
  have HQ : Hid (∀ (g5 c5 : Nat) (w5 : World) (v72 v73 v74 v75 v76 v77 v78 v79 v80 v81 v82 v83 v84 v85 v86 v87 v88 v89 v90 v91 : Value), w5.ownsRow 0 92 5 (.slice (some ⟨g5, 0, none⟩) (l2 + 1) c5) (l2 + 1) (xs ++ Rec.cells ⟨r, SC⟩) → Lies (w.alloc (.cells #[.int .i64 r, .int .u8 SC.b0, .int .u8 SC.b1, .int .u8 SC.b2, .int .u8 SC.b3] 92)).drew w5 (.slice p2 l2 capl2) (.slice (some ⟨g5, 0, none⟩) (l2 + 1) c5) →
      Q .normal { tmps := #[.pointer (some ⟨yb, 0, none⟩), t1, .int .i64 r, t3, t4, t5, t6, t7, t8, t9, t10, .int .i64 kk, t12, .pointer (some ⟨cb, 0, none⟩), t14, t15, t16, t17, t18, t19, t20, t21, t22, t23, t24, t25, t26, t27, t28, t29, t30, t31, t32, t33, t34, t35, t36, t37, t38, t39, t40, t41, t42, t43, t44, t45, t46, t47, t48, t49, t50, t51, t52, t53, t54, t55, t56, t57, t58, t59, t60, t61, t62, t63, t64, t65, t66, t67, t68, t69, t70, t71, v72, v73, v74, v75, v76, v77, v78, v79, v80, v81, v82, v83, v84, v85, v86, v87, v88, v89, v90, v91, t92, t93, t94, t95, t96, t97, t98, t99, t100, t101, t102, t103, t104, t105, t106, t107, t108, t109, t110, t111, t112, t113, t114, t115, t116, t117, t118, t119, t120, t121], defers := [] } (w5.setCell ⟨g2, kk * 4 + 3, none⟩ (.slice (some ⟨g5, 0, none⟩) (l2 + 1) c5))) := h
  have HC5 : Hid (∀ j u, (Rec.cells ⟨r, SC⟩)[j]? = some u → (w.alloc (.cells #[.int .i64 r, .int .u8 SC.b0, .int .u8 SC.b1, .int .u8 SC.b2, .int .u8 SC.b3] 92)).drew.cell? ((⟨w.heap.size, 0, none⟩ : Addr).add j) = some u) := by
    have h1 := heap_alloc_new w (.cells #[.int .i64 r, .int .u8 SC.b0, .int .u8 SC.b1, .int .u8 SC.b2, .int .u8 SC.b3] 92)
    exact World.news_of_block (w := (w.alloc (.cells #[.int .i64 r, .int .u8 SC.b0, .int .u8 SC.b1, .int .u8 SC.b2, .int .u8 SC.b3] 92)).drew) h1
  have HONE : Hid (∀ u ∈ Rec.cells ⟨r, SC⟩, u.oneCell' = true) := by
    intro u hu
    simp [Rec.cells] at hu
    rcases hu with rfl | rfl | rfl | rfl | rfl <;> rfl
  have HOW5 : Hid ((w.alloc (.cells #[.int .i64 r, .int .u8 SC.b0, .int .u8 SC.b1, .int .u8 SC.b2, .int .u8 SC.b3] 92)).ownsRow 0 92 5 (.slice p2 l2 capl2) l2 xs) := hown.alloc _
  have HF : Hid (∀ (w5 : World) (v' : Value), Lies (w.alloc (.cells #[.int .i64 r, .int .u8 SC.b0, .int .u8 SC.b1, .int .u8 SC.b2, .int .u8 SC.b3] 92)).drew w5 (.slice p2 l2 capl2) v' → w5.cell? ⟨g2, kk * 4 + 3, none⟩ = some (.slice p2 l2 capl2) ∧ w5.frozen? ⟨g2, kk * 4 + 3, none⟩ = false ∧ w5.cell? ⟨yb, 4, none⟩ = some (.slice (some ⟨g2, 0, none⟩) nn cap2) ∧ yb < w5.heap.size ∧ g2 < w5.heap.size ∧ w5.cell? ⟨cb, 0, none⟩ = some (.int .u8 SC.b0) ∧ w5.cell? ⟨cb, 1, none⟩ = some (.int .u8 SC.b1) ∧ w5.cell? ⟨cb, 2, none⟩ = some (.int .u8 SC.b2) ∧ w5.cell? ⟨cb, 3, none⟩ = some (.int .u8 SC.b3)) := fun w5 v' hl5 => by
    obtain ⟨k1, k2, k3, k4, k5⟩ := hl5.kept
    have hb0 : Below w.heap.size w (w.alloc (.cells #[.int .i64 r, .int .u8 SC.b0, .int .u8 SC.b1, .int .u8 SC.b2, .int .u8 SC.b3] 92)).drew := ((Below.refl _ _).alloc (Nat.le_refl _) _).drew
    have hs0 := hb0.size
    have bg : w5.heap[g2]? = w.heap[g2]? := (k5 g2 (by omega) hneg).trans (hb0.block g2 hg2)
    have bc : w5.heap[cb]? = w.heap[cb]? := (k5 cb (by omega) hcn).trans (hb0.block cb hsl)
    have by' : w5.heap[yb]? = w.heap[yb]? := (k5 yb (by omega) hyn).trans (hb0.block yb hlt)
    exact ⟨(World.cell?_of_block bg).trans q3, (World.frozen?_of_block bg).trans hf2, (World.cell?_of_block by').trans q4, by omega, by omega, (World.cell?_of_block bc).trans s0, (World.cell?_of_block bc).trans s1, (World.cell?_of_block bc).trans s2, (World.cell?_of_block bc).trans s3⟩
  clear h hown hneg hyn hcn
  refine wp_region_noPanic ?_
  refine wp_region_held_drew (S := (fun W : World => W.cell? ⟨yb, 4, none⟩ = some (.slice (some ⟨g2, 0, none⟩) nn cap2) ∧ W.cell? ⟨cb, 0, none⟩ = some (.int .u8 SC.b0) ∧ W.cell? ⟨cb, 1, none⟩ = some (.int .u8 SC.b1) ∧ W.cell? ⟨cb, 2, none⟩ = some (.int .u8 SC.b2) ∧ W.cell? ⟨cb, 3, none⟩ = some (.int .u8 SC.b3))) (by kernel_rfl) ⟨q4, s0, s1, s2, s3⟩ (fun hHeld => ?_)
  refine wpAnyH_take (i := 0) (v := ?_) rfl (by kernel_rfl) (by kernel_rfl) (by kernel_rfl) (fun _ _ _ h => h) (Or.inl ⟨by rfl, ?_⟩) (by assumption) ?_
  rotate_left
  · intro w hSw
    try dsimp only at hSw
    first
      | (go_simp; done)
      | (go_simp; with_reducible rfl)
      | with_reducible rfl
  simp only [List.getElem_toArray, List.getElem_cons_zero, Act.put, List.setIfInBounds_toArray, List.set_cons_zero, List.set_cons_succ]
  refine wpAnyH_take (i := 1) (v := ?_) rfl (by kernel_rfl) (by kernel_rfl) (by kernel_rfl) (fun _ _ _ h => h) (Or.inl ⟨by rfl, ?_⟩) (by assumption) ?_
  rotate_left
  · intro w hSw
    try dsimp only at hSw
    first
      | (go_simp; done)
      | (go_simp; with_reducible rfl)
      | with_reducible rfl
  simp only [List.getElem_toArray, List.getElem_cons_zero, List.getElem_cons_succ, Act.put, List.setIfInBounds_toArray, List.set_cons_zero, List.set_cons_succ]
  refine wpAnyH_take (i := 2) (v := ?_) rfl (by kernel_rfl) (by kernel_rfl) (by kernel_rfl) (fun _ _ _ h => h) (Or.inl ⟨by rfl, ?_⟩) (by assumption) ?_
  rotate_left
  · intro w hSw
    try dsimp only at hSw
    first
      | (go_simp; done)
      | (go_simp; with_reducible rfl)
      | with_reducible rfl
  simp only [List.getElem_toArray, List.getElem_cons_zero, List.getElem_cons_succ, Act.put, List.setIfInBounds_toArray, List.set_cons_zero, List.set_cons_succ]
  refine wpAnyH_take (i := 3) (v := ?_) rfl (by kernel_rfl) (by kernel_rfl) (by kernel_rfl) (fun _ _ _ h => h) (Or.inl ⟨by rfl, ?_⟩) (by assumption) ?_
  rotate_left
  · intro w hSw
    try dsimp only at hSw
    first
      | (go_simp; done)
      | (go_simp; with_reducible rfl)
      | with_reducible rfl
  simp only [List.getElem_toArray, List.getElem_cons_zero, List.getElem_cons_succ, Act.put, List.setIfInBounds_toArray, List.set_cons_zero, List.set_cons_succ]
  refine wpAnyH_take (i := 4) (v := ?_) rfl (by kernel_rfl) (by kernel_rfl) (by kernel_rfl) (fun _ _ _ h => h) (Or.inl ⟨by rfl, ?_⟩) (by assumption) ?_
  rotate_left
  · intro w hSw
    try dsimp only at hSw
    first
      | (go_simp; done)
      | (go_simp; with_reducible rfl)
      | with_reducible rfl
  simp only [List.getElem_toArray, List.getElem_cons_zero, List.getElem_cons_succ, Act.put, List.setIfInBounds_toArray, List.set_cons_zero, List.set_cons_succ]
  refine wpAnyH_take (i := 5) (v := ?_) rfl (by kernel_rfl) (by kernel_rfl) (by kernel_rfl) (fun _ _ _ h => h) (Or.inl ⟨by rfl, ?_⟩) (by assumption) ?_
  rotate_left
  · intro w hSw
    try dsimp only at hSw
    first
      | (go_simp; done)
      | (go_simp; with_reducible rfl)
      | with_reducible rfl
  simp only [List.getElem_toArray, List.getElem_cons_zero, List.getElem_cons_succ, Act.put, List.setIfInBounds_toArray, List.set_cons_zero, List.set_cons_succ]
  refine wpAnyH_take (i := 6) (v := ?_) rfl (by kernel_rfl) (by kernel_rfl) (by kernel_rfl) (fun _ _ _ h => h) (Or.inl ⟨by rfl, ?_⟩) (by assumption) ?_
  rotate_left
  · intro w hSw
    try dsimp only at hSw
    first
      | (go_simp; done)
      | (go_simp; with_reducible rfl)
      | with_reducible rfl
  simp only [List.getElem_toArray, List.getElem_cons_zero, List.getElem_cons_succ, Act.put, List.setIfInBounds_toArray, List.set_cons_zero, List.set_cons_succ]
  refine wpAnyH_take (i := 7) (v := ?_) rfl (by kernel_rfl) (by kernel_rfl) (by kernel_rfl) (fun _ _ _ h => h) (Or.inl ⟨by rfl, ?_⟩) (by assumption) ?_
  rotate_left
  · intro w hSw
    try dsimp only at hSw
    first
      | (go_simp; done)
      | (go_simp; with_reducible rfl)
      | with_reducible rfl
  simp only [List.getElem_toArray, List.getElem_cons_zero, List.getElem_cons_succ, Act.put, List.setIfInBounds_toArray, List.set_cons_zero, List.set_cons_succ]
  refine wpAnyH_take (i := 8) (v := ?_) rfl (by kernel_rfl) (by kernel_rfl) (by kernel_rfl) (fun _ _ _ h => h) (Or.inl ⟨by rfl, ?_⟩) (by assumption) ?_
  rotate_left
  · intro w hSw
    try dsimp only at hSw
    first
      | (go_simp; done)
      | (go_simp; with_reducible rfl)
      | with_reducible rfl
  simp only [List.getElem_toArray, List.getElem_cons_zero, List.getElem_cons_succ, Act.put, List.setIfInBounds_toArray, List.set_cons_zero, List.set_cons_succ]
  refine wpAnyH_take (i := 9) (v := ?_) rfl (by kernel_rfl) (by kernel_rfl) (by kernel_rfl) (fun _ _ _ h => h) (Or.inl ⟨by rfl, ?_⟩) (by assumption) ?_
  rotate_left
  · intro w hSw
    try dsimp only at hSw
    first
      | (go_simp; done)
      | (go_simp; with_reducible rfl)
      | with_reducible rfl
  simp only [List.getElem_toArray, List.getElem_cons_zero, List.getElem_cons_succ, Act.put, List.setIfInBounds_toArray, List.set_cons_zero, List.set_cons_succ]
  refine wpAnyH_take (i := 10) (v := ?_) rfl (by kernel_rfl) (by kernel_rfl) (by kernel_rfl) (fun _ _ _ h => h) (Or.inl ⟨by rfl, ?_⟩) (by assumption) ?_
  rotate_left
  · intro w hSw
    try dsimp only at hSw
    first
      | (go_simp; done)
      | (go_simp; with_reducible rfl)
      | with_reducible rfl
  simp only [List.getElem_toArray, List.getElem_cons_zero, List.getElem_cons_succ, Act.put, List.setIfInBounds_toArray, List.set_cons_zero, List.set_cons_succ]
  refine wpAnyH_take (i := 11) (v := ?_) rfl (by kernel_rfl) (by kernel_rfl) (by kernel_rfl) (fun _ _ _ h => h) (Or.inl ⟨by rfl, ?_⟩) (by assumption) ?_
  rotate_left
  · intro w hSw
    try dsimp only at hSw
    first
      | (go_simp; done)
      | (go_simp; with_reducible rfl)
      | with_reducible rfl
  simp only [List.getElem_toArray, List.getElem_cons_zero, List.getElem_cons_succ, Act.put, List.setIfInBounds_toArray, List.set_cons_zero, List.set_cons_succ]
  refine wpAnyH_take (i := 13) (v := ?_) rfl (by kernel_rfl) (by kernel_rfl) (by kernel_rfl) (fun _ _ _ h => h) (Or.inl ⟨by rfl, ?_⟩) (by assumption) ?_
  rotate_left
  · intro w hSw
    try dsimp only at hSw
    first
      | (go_simp; done)
      | (go_simp; with_reducible rfl)
      | with_reducible rfl
  simp only [List.getElem_toArray, List.getElem_cons_zero, List.getElem_cons_succ, Act.put, List.setIfInBounds_toArray, List.set_cons_zero, List.set_cons_succ]
  refine wpAnyH_take (i := 14) (v := ?_) rfl (by kernel_rfl) (by kernel_rfl) (by kernel_rfl) (fun _ _ _ h => h) (Or.inl ⟨by rfl, ?_⟩) (by assumption) ?_
  rotate_left
  · intro w hSw
    try dsimp only at hSw
    first
      | (go_simp; done)
      | (go_simp; with_reducible rfl)
      | with_reducible rfl
  simp only [List.getElem_toArray, List.getElem_cons_zero, List.getElem_cons_succ, Act.put, List.setIfInBounds_toArray, List.set_cons_zero, List.set_cons_succ]
  refine wpAnyH_take (i := 15) (v := ?_) rfl (by kernel_rfl) (by kernel_rfl) (by kernel_rfl) (fun _ _ _ h => h) (Or.inl ⟨by rfl, ?_⟩) (by assumption) ?_
  rotate_left
  · intro w hSw
    try dsimp only at hSw
    first
      | (go_simp; done)
      | (go_simp; with_reducible rfl)
      | with_reducible rfl
  simp only [List.getElem_toArray, List.getElem_cons_zero, List.getElem_cons_succ, Act.put, List.setIfInBounds_toArray, List.set_cons_zero, List.set_cons_succ]
  refine wpAnyH_ready (rs := [12, 16]) (by kernel_rfl) (by simp) ?_
  refine AllReadyH.cons rfl (fun K hK => ?_) ?_
  · simp only [List.getElem_toArray, List.getElem_cons_zero, List.getElem_cons_succ]
    go_simp
    refine hK.out _ _ ?_ (fun hHeld => ?_)
    · assumption
    clear hK K
    refine wpAnyH_ready (rs := [16]) (by kernel_rfl) (by simp) ?_
    refine AllReadyH.cons rfl (fun K hK => ?_) ?_
    · simp only [List.getElem_toArray, List.getElem_cons_zero, List.getElem_cons_succ]
      go_simp
      refine hK.out _ _ ?_ (fun hHeld => ?_)
      · try dsimp only
        go_keep
      clear hK K
      refine wpAnyH_ready (rs := [17]) (by kernel_rfl) (by simp) ?_
      refine AllReadyH.cons rfl (fun K hK => ?_) ?_
      · refine step_append2 appRec (by rfl) _ _ (by rfl) 0 (.slice p2 l2 capl2) l2 xs (by rfl) (by exact HOW5.out) ⟨w.heap.size, 0, none⟩ 1 1 (Rec.cells ⟨r, SC⟩) (by rfl) (by rfl) (by exact HC5.out) HONE.out (by omega) (by simp only [maxLen]; omega) (by omega) (Nat.zero_le _) ?_
        intro g5 c5 w5 hown5 hl5
        obtain ⟨t1, t2, t3, t4, t5, t60, t61, t62, t63⟩ := HF.out w5 _ hl5
        have HO5 : Hid (w5.ownsRow 0 92 5 (.slice (some ⟨g5, 0, none⟩) (l2 + 1) c5) (l2 + 1) (xs ++ Rec.cells ⟨r, SC⟩)) := hown5
        have HL5 : Hid (Lies (w.alloc (.cells #[.int .i64 r, .int .u8 SC.b0, .int .u8 SC.b1, .int .u8 SC.b2, .int .u8 SC.b3] 92)).drew w5 (.slice p2 l2 capl2) (.slice (some ⟨g5, 0, none⟩) (l2 + 1) c5)) := hl5
        clear hown5 hl5
        refine hK.out _ _ ⟨t3, t60, t61, t62, t63⟩ (fun hHeld => ?_)
        clear hK K
        simp only [List.getElem_toArray, List.getElem_cons_zero, List.getElem_cons_succ, Act.put, List.setIfInBounds_toArray, List.set_cons_zero, List.set_cons_succ]
        refine wpAnyH_take (i := 18) (v := ?_) rfl (by kernel_rfl) (by kernel_rfl) (by kernel_rfl) (fun _ _ _ h => h) (Or.inl ⟨by rfl, ?_⟩) (by assumption) ?_
        rotate_left
        · intro w hSw
          try dsimp only at hSw
          first
            | (go_simp; done)
            | (go_simp; with_reducible rfl)
            | with_reducible rfl
        simp only [List.getElem_toArray, List.getElem_cons_zero, List.getElem_cons_succ, Act.put, List.setIfInBounds_toArray, List.set_cons_zero, List.set_cons_succ]
        refine wpAnyH_take (i := 19) (v := ?_) rfl (by kernel_rfl) (by kernel_rfl) (by kernel_rfl) (fun _ _ _ h => h) (Or.inl ⟨by rfl, ?_⟩) (by assumption) ?_
        rotate_left
        · intro w hSw
          try dsimp only at hSw
          first
            | (go_simp; done)
            | (go_simp; with_reducible rfl)
            | with_reducible rfl
        simp only [List.getElem_toArray, List.getElem_cons_zero, List.getElem_cons_succ, Act.put, List.setIfInBounds_toArray, List.set_cons_zero, List.set_cons_succ]
        refine wpAnyH_ready (rs := [20]) (by kernel_rfl) (by simp) ?_
        refine AllReadyH.cons rfl (fun K hK => ?_) ?_
        · simp only [List.getElem_toArray, List.getElem_cons_zero, List.getElem_cons_succ]
          go_simp
          refine hK.out _ _ ?_ (fun hHeld => ?_)
          · try dsimp only
            go_keep
          clear hK K
          refine wpAnyH_done (by kernel_rfl) ?_ _
          refine NoPanic.normal ?_
          exact HQ.out g5 c5 w5 _ _ _ _ _ _ _ _ _ _ _ _ _ _ _ _ _ _ _ _ HO5.out HL5.out
        exact AllReadyH.nil
      exact AllReadyH.nil
    exact AllReadyH.nil
  refine AllReadyH.cons rfl (fun K hK => ?_) ?_
  · simp only [List.getElem_toArray, List.getElem_cons_zero, List.getElem_cons_succ]
    go_simp
    refine hK.out _ _ ?_ (fun hHeld => ?_)
    · try dsimp only
      go_keep
    clear hK K
    refine wpAnyH_ready (rs := [12]) (by kernel_rfl) (by simp) ?_
    refine AllReadyH.cons rfl (fun K hK => ?_) ?_
    · simp only [List.getElem_toArray, List.getElem_cons_zero, List.getElem_cons_succ]
      go_simp
      refine hK.out _ _ ?_ (fun hHeld => ?_)
      · assumption
      clear hK K
      refine wpAnyH_ready (rs := [17]) (by kernel_rfl) (by simp) ?_
      refine AllReadyH.cons rfl (fun K hK => ?_) ?_
      · refine step_append2 appRec (by rfl) _ _ (by rfl) 0 (.slice p2 l2 capl2) l2 xs (by rfl) (by exact HOW5.out) ⟨w.heap.size, 0, none⟩ 1 1 (Rec.cells ⟨r, SC⟩) (by rfl) (by rfl) (by exact HC5.out) HONE.out (by omega) (by simp only [maxLen]; omega) (by omega) (Nat.zero_le _) ?_
        intro g5 c5 w5 hown5 hl5
        obtain ⟨t1, t2, t3, t4, t5, t60, t61, t62, t63⟩ := HF.out w5 _ hl5
        have HO5 : Hid (w5.ownsRow 0 92 5 (.slice (some ⟨g5, 0, none⟩) (l2 + 1) c5) (l2 + 1) (xs ++ Rec.cells ⟨r, SC⟩)) := hown5
        have HL5 : Hid (Lies (w.alloc (.cells #[.int .i64 r, .int .u8 SC.b0, .int .u8 SC.b1, .int .u8 SC.b2, .int .u8 SC.b3] 92)).drew w5 (.slice p2 l2 capl2) (.slice (some ⟨g5, 0, none⟩) (l2 + 1) c5)) := hl5
        clear hown5 hl5
        refine hK.out _ _ ⟨t3, t60, t61, t62, t63⟩ (fun hHeld => ?_)
        clear hK K
        simp only [List.getElem_toArray, List.getElem_cons_zero, List.getElem_cons_succ, Act.put, List.setIfInBounds_toArray, List.set_cons_zero, List.set_cons_succ]
        refine wpAnyH_take (i := 18) (v := ?_) rfl (by kernel_rfl) (by kernel_rfl) (by kernel_rfl) (fun _ _ _ h => h) (Or.inl ⟨by rfl, ?_⟩) (by assumption) ?_
        rotate_left
        · intro w hSw
          try dsimp only at hSw
          first
            | (go_simp; done)
            | (go_simp; with_reducible rfl)
            | with_reducible rfl
        simp only [List.getElem_toArray, List.getElem_cons_zero, List.getElem_cons_succ, Act.put, List.setIfInBounds_toArray, List.set_cons_zero, List.set_cons_succ]
        refine wpAnyH_take (i := 19) (v := ?_) rfl (by kernel_rfl) (by kernel_rfl) (by kernel_rfl) (fun _ _ _ h => h) (Or.inl ⟨by rfl, ?_⟩) (by assumption) ?_
        rotate_left
        · intro w hSw
          try dsimp only at hSw
          first
            | (go_simp; done)
            | (go_simp; with_reducible rfl)
            | with_reducible rfl
        simp only [List.getElem_toArray, List.getElem_cons_zero, List.getElem_cons_succ, Act.put, List.setIfInBounds_toArray, List.set_cons_zero, List.set_cons_succ]
        refine wpAnyH_ready (rs := [20]) (by kernel_rfl) (by simp) ?_
        refine AllReadyH.cons rfl (fun K hK => ?_) ?_
        · simp only [List.getElem_toArray, List.getElem_cons_zero, List.getElem_cons_succ]
          go_simp
          refine hK.out _ _ ?_ (fun hHeld => ?_)
          · try dsimp only
            go_keep
          clear hK K
          refine wpAnyH_done (by kernel_rfl) ?_ _
          refine NoPanic.normal ?_
          exact HQ.out g5 c5 w5 _ _ _ _ _ _ _ _ _ _ _ _ _ _ _ _ _ _ _ _ HO5.out HL5.out
        exact AllReadyH.nil
      exact AllReadyH.nil
    exact AllReadyH.nil
  exact AllReadyH.nil
end Go.Proofs.YtfpoiikhhjdpdaaGreat
