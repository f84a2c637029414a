import Derived.Test.YtfpoiikhhjdpdaaGreatJ20
import Derived.Test.YtfpoiikhhjdpdaaGreatJ19
import Derived.Test.YtfpoiikhhjdpdaaGreatJ07
/- The document: blank, New. -/
namespace Go.Proofs.YtfpoiikhhjdpdaaGreat
open Go.RowKit
set_option linter.unusedVariables false
attribute [local go_sem ↓] Go.wp_at_zero Go.wp_at_succ
theorem appBool : AppInfo 108 4 1 1 := by
  have h : (Tryz.prog.info? 4).map (fun i => (i.zero, i.size, i.bytes)) = some (some (.bool false), 1, 1) := by kernel_rfl
  obtain ⟨i, h1, h2, h3, h4⟩ := info_of h
  exact ⟨i, _, Tryz.underlying108, h1, h2, h3, h4, rfl, by omega⟩
theorem appCell : AppInfo 109 75 4 4 := by
  have h : (Tryz.prog.info? 75).map (fun i => (i.zero, i.size, i.bytes)) = some (some (.agg #[.int .u8 0, .int .u8 0, .int .u8 0, .int .u8 0]), 4, 4) := by kernel_rfl
  obtain ⟨i, h1, h2, h3, h4⟩ := info_of h
  exact ⟨i, _, Tryz.underlying109, h1, h2, h3, h4, rfl, by omega⟩
theorem appDrive : AppInfo 105 111 4 80 := by
  have h : (Tryz.prog.info? 111).map (fun i => (i.zero, i.size, i.bytes)) = some (some (.agg #[.bool false, .slice none 0 0, .slice none 0 0, .slice none 0 0]), 4, 80) := by kernel_rfl
  obtain ⟨i, h1, h2, h3, h4⟩ := info_of h
  exact ⟨i, _, Tryz.underlying105, h1, h2, h3, h4, rfl, by omega⟩
theorem range_snoc (k : Nat) (v : Value) : (List.range ((k + 1) * 1)).map (fun _ => v) = (List.range (k * 1)).map (fun _ => v) ++ [v] := by
  rw [Nat.mul_one, Nat.mul_one, List.range_succ, List.map_append]; rfl
theorem range_snoc4 (k : Nat) (v : Value) : (List.range ((k + 1) * 4)).map (fun _ => v) = (List.range (k * 4)).map (fun _ => v) ++ [v, v, v, v] := by
  rw [show (k + 1) * 4 = k * 4 + 1 + 1 + 1 + 1 by omega, List.range_succ, List.range_succ, List.range_succ, List.range_succ]
  simp
/-- What is under way in blank. -/
structure BlankTo (w : World) (H R : Nat) (bt : Bool) (k : Nat) (v1 v2 : Value) : Prop where
  res : w.rowIs H 111 4 (box4F (.bool false) (.slice none 0 0) (.slice none 0 0) (.slice none 0 0))
  box : w.rowIs (H + 1) 111 4 (box4F (.bool false) v1 v2 (.slice none 0 0))
  own1 : w.ownsRow (H + 2) 4 1 v1 k ((List.range (k * 1)).map (fun _ => Value.bool bt))
  own2 : w.ownsRow (H + 2) 75 4 v2 k ((List.range (k * 4)).map (fun _ => Value.int .u8 0))
  ap : ∀ g, v1.ownBlock = some g → v2.ownBlock ≠ some g
theorem BlankTo.step1 {w w5 : World} {H R k : Nat} {bt : Bool} {v1 v2 v' : Value} {o : Obj} (h : BlankTo w H R bt k v1 v2) (ho : w5.ownsRow (H + 2) 4 1 v' (k + 1) ((List.range (k * 1)).map (fun _ => Value.bool bt) ++ [.bool bt])) (hl : Lies (w.alloc o) w5 v1 v') :
    let W := w5.setCell ⟨H + 1, 1, none⟩ v'
    W.rowIs H 111 4 (box4F (.bool false) (.slice none 0 0) (.slice none 0 0) (.slice none 0 0)) ∧ W.rowIs (H + 1) 111 4 (box4F (.bool false) v' v2 (.slice none 0 0)) ∧ W.ownsRow (H + 2) 4 1 v' (k + 1) ((List.range ((k + 1) * 1)).map (fun _ => Value.bool bt)) ∧ W.ownsRow (H + 2) 75 4 v2 k ((List.range (k * 4)).map (fun _ => Value.int .u8 0)) ∧ (∀ g, v'.ownBlock = some g → v2.ownBlock ≠ some g) ∧ (Below H w (w.alloc o) → H ≤ w.heap.size → Below H w W) ∧ w5.cell? ⟨H + 1, 1, none⟩ = some v1 ∧ w5.frozen? ⟨H + 1, 1, none⟩ = false ∧ H + 1 < w5.heap.size := by
  obtain ⟨k1, k2, k3, k4, k5⟩ := hl.kept
  have hal := below_al w o
  have hb1 := h.box.lt
  have hne : ∀ b, b < H + 2 → b < w.heap.size → w5.heap[b]? = w.heap[b]? := fun b hb hw => (k5 b (Nat.lt_of_lt_of_le hw hal.size) (fun e => by have := (World.ownsRow.lt h.own1 b e).1; omega)).trans (hal.block b hw)
  have hset : ∀ b, b ≠ H + 1 → (w5.setCell ⟨H + 1, 1, none⟩ v').heap[b]? = w5.heap[b]? := fun b hb => Below.heap_setCell _ _ _ _ hb
  have hx5 : w5.rowIs (H + 1) 111 4 (box4F (.bool false) v1 v2 (.slice none 0 0)) := h.box.of_block (hne _ (by omega) hb1)
  refine ⟨?_, ?_, ?_, ?_, ?_, ?_, hx5.cell (i := 1) (by omega), hx5.frozen 1, hx5.lt⟩
  · exact h.res.of_block ((hset H (by omega)).trans (hne H (by omega) h.res.lt))
  · refine (hx5.set 1 v').congr (fun j hj => ?_)
    have : j = 0 ∨ j = 1 ∨ j = 2 ∨ j = 3 := by omega
    rcases this with rfl | rfl | rfl | rfl <;> rfl
  · rw [range_snoc]
    exact own_block ho (fun g hg => hset g (by have := (World.ownsRow.lt ho g hg).1; omega))
  · refine own_block h.own2 (fun g hg => ?_)
    have h2 := World.ownsRow.lt h.own2 g hg
    rw [hset g (by omega), k5 g (Nat.lt_of_lt_of_le h2.2 hal.size) (fun e => h.ap g e hg), hal.block g h2.2]
  · intro g hg hg2
    rcases hl.block hg with h1 | h1
    · exact h.ap g h1 hg2
    · have := (World.ownsRow.lt h.own2 g hg2).2; have := hal.size; omega
  · intro hb hH
    exact (hb.trans ⟨k1, k2, k3, k4, fun b hb2 => k5 b (by have := hal.size; omega) (fun e => by have := (World.ownsRow.lt h.own1 b e).1; omega)⟩).setCell (by show H ≤ H + 1; omega) _
theorem BlankTo.step2 {w w5 : World} {H R k : Nat} {bt : Bool} {v1 v2 v' : Value} {o : Obj} (hres : w.rowIs H 111 4 (box4F (.bool false) (.slice none 0 0) (.slice none 0 0) (.slice none 0 0))) (hbox : w.rowIs (H + 1) 111 4 (box4F (.bool false) v1 v2 (.slice none 0 0))) (hown1 : w.ownsRow (H + 2) 4 1 v1 (k + 1) ((List.range ((k + 1) * 1)).map (fun _ => Value.bool bt))) (hown2 : w.ownsRow (H + 2) 75 4 v2 k ((List.range (k * 4)).map (fun _ => Value.int .u8 0))) (hap : ∀ g, v1.ownBlock = some g → v2.ownBlock ≠ some g)
    (ho : w5.ownsRow (H + 2) 75 4 v' (k + 1) ((List.range (k * 4)).map (fun _ => Value.int .u8 0) ++ [.int .u8 0, .int .u8 0, .int .u8 0, .int .u8 0])) (hl : Lies (w.alloc o) w5 v2 v') :
    let W := w5.setCell ⟨H + 1, 2, none⟩ v'
    BlankTo W H R bt (k + 1) v1 v' ∧ (Below H w (w.alloc o) → H ≤ w.heap.size → Below H w W) ∧ w5.cell? ⟨H + 1, 2, none⟩ = some v2 ∧ w5.frozen? ⟨H + 1, 2, none⟩ = false ∧ H + 1 < w5.heap.size := by
  obtain ⟨k1, k2, k3, k4, k5⟩ := hl.kept
  have hal := below_al w o
  have hb1 := hbox.lt
  have hne : ∀ b, b < H + 2 → b < w.heap.size → w5.heap[b]? = w.heap[b]? := fun b hb hw => (k5 b (Nat.lt_of_lt_of_le hw hal.size) (fun e => by have := (World.ownsRow.lt hown2 b e).1; omega)).trans (hal.block b hw)
  have hset : ∀ b, b ≠ H + 1 → (w5.setCell ⟨H + 1, 2, none⟩ v').heap[b]? = w5.heap[b]? := fun b hb => Below.heap_setCell _ _ _ _ hb
  have hx5 : w5.rowIs (H + 1) 111 4 (box4F (.bool false) v1 v2 (.slice none 0 0)) := hbox.of_block (hne _ (by omega) hb1)
  refine ⟨⟨?_, ?_, ?_, ?_, ?_⟩, ?_, hx5.cell (i := 2) (by omega), hx5.frozen 2, hx5.lt⟩
  · exact hres.of_block ((hset H (by omega)).trans (hne H (by omega) hres.lt))
  · refine (hx5.set 2 v').congr (fun j hj => ?_)
    have : j = 0 ∨ j = 1 ∨ j = 2 ∨ j = 3 := by omega
    rcases this with rfl | rfl | rfl | rfl <;> rfl
  · refine own_block hown1 (fun g hg => ?_)
    have h2 := World.ownsRow.lt hown1 g hg
    rw [hset g (by omega), k5 g (Nat.lt_of_lt_of_le h2.2 hal.size) (fun e => hap g hg e), hal.block g h2.2]
  · rw [range_snoc4]
    exact own_block ho (fun g hg => hset g (by have := (World.ownsRow.lt ho g hg).1; omega))
  · intro g hg hg2
    rcases hl.block hg2 with h1 | h1
    · exact hap g hg h1
    · have := (World.ownsRow.lt hown1 g hg).2; have := hal.size; omega
  · intro hb hH
    exact (hb.trans ⟨k1, k2, k3, k4, fun b hb2 => k5 b (by have := hal.size; omega) (fun e => by have := (World.ownsRow.lt hown2 b e).1; omega)⟩).setCell (by show H ≤ H + 1; omega) _
set_option maxRecDepth 100000 in
set_option maxHeartbeats 1000000 in
theorem rblank_any (R : Nat) (bt : Bool) (w : World) (hR : R ≤ 6) (hR1 : 1 ≤ R) :
    Calls Tryz.prog 63 #[.int .i64 R, .bool bt] w fun e w' => ∃ v1 v2, e = .returned (.agg #[.bool false, v1, v2, .slice none 0 0]) ∧ w'.ownsRow w.heap.size 4 1 v1 R ((List.range (R * 1)).map (fun _ => Value.bool bt)) ∧ w'.ownsRow w.heap.size 75 4 v2 R ((List.range (R * 4)).map (fun _ => Value.int .u8 0)) ∧ (∀ g, v1.ownBlock = some g → v2.ownBlock ≠ some g) ∧ Below w.heap.size w w' := by
  have HB0 : Hid (BlankTo ((w.alloc (.cells #[.bool false, .slice none 0 0, .slice none 0 0, .slice none 0 0] 111)).alloc (.cells #[.bool false, .slice none 0 0, .slice none 0 0, .slice none 0 0] 111)) w.heap.size R bt 0 (.slice none 0 0) (.slice none 0 0)) := (show BlankTo _ _ _ _ _ _ _ from ⟨(box4F_row w _ _ _ _ _ _ rfl).alloc _, box4F_row _ _ _ _ _ _ _ (by simp), World.ownsRow_nil _ _ _ _, World.ownsRow_nil _ _ _ _, fun g hg => (by cases hg)⟩)
  have HW0 : Hid (Below w.heap.size w ((w.alloc (.cells #[.bool false, .slice none 0 0, .slice none 0 0, .slice none 0 0] 111)).alloc (.cells #[.bool false, .slice none 0 0, .slice none 0 0, .slice none 0 0] 111))) := ((Below.refl _ _).alloc (Nat.le_refl _) _).alloc (by simp) _
  go_enter Tryz.func63, Tryz.ntmps63
  go_wp2_with fail
  generalize (w.alloc (.cells #[.bool false, .slice none 0 0, .slice none 0 0, .slice none 0 0] 111)).alloc (.cells #[.bool false, .slice none 0 0, .slice none 0 0, .slice none 0 0] 111) = wb at *
  generalize hH : w.heap.size = H at *
  have HHH : Hid (w.heap.size = H) := hH
  clear hH
  go_loopw [6] (fun c wr => ∃ (k : Nat) (v1 v2 : Value), k ≤ R ∧ c = .int .i64 k ∧ Hid (BlankTo wr H R bt k v1 v2) ∧ Hid (Below H w wr)) (fun c _ => R - (intOf c).toNat)
  case atStart => exact ⟨0, _, _, by omega, rfl, HB0, HW0⟩
  case round =>
    clear HB0 HW0
    obtain ⟨k, v1, v2, hk, rfl, hto, hbel⟩ := hrel
    obtain ⟨p1, c1, rfl⟩ := own_wid hto.out.own1
    obtain ⟨p2, c2, rfl⟩ := own_wid hto.out.own2
    have x0 : wr.cell? ⟨H + 1, 0, none⟩ = some (.bool false) := hto.out.box.cell (i := 0) (by omega)
    have x1 : wr.cell? ⟨H + 1, 1, none⟩ = some (.slice p1 k c1) := hto.out.box.cell (i := 1) (by omega)
    have x2 : wr.cell? ⟨H + 1, 2, none⟩ = some (.slice p2 k c2) := hto.out.box.cell (i := 2) (by omega)
    have x3 : wr.cell? ⟨H + 1, 3, none⟩ = some (.slice none 0 0) := hto.out.box.cell (i := 3) (by omega)
    have hxl := hto.out.box.lt
    have hHs : H ≤ wr.heap.size := by omega
    by_cases hlt : k < R
    · have hki : (k : Int) < (R : Int) := by omega
      have HO1 : Hid ((wr.alloc (Obj.cells #[.bool bt] 4)).ownsRow (H + 2) 4 1 (.slice p1 k c1) k ((List.range (k * 1)).map (fun _ => Value.bool bt))) := hto.out.own1.alloc _
      have HN1 : Hid (∀ (j : Nat) (u : Value), [Value.bool bt][j]? = some u → (wr.alloc (Obj.cells #[.bool bt] 4)).cell? ((⟨wr.heap.size, 0, none⟩ : Addr).add j) = some u) := cell_one_new _ _ _
      have hone : ∀ u ∈ [Value.bool bt], u.oneCell' = true := by simp [Value.oneCell']
      have hl1 : ((List.range (k * 1)).map (fun _ => Value.bool bt)).length = k := by simp
      generalize hys : (List.range (k * 1)).map (fun _ => Value.bool bt) = ys at *
      have HYS : Hid ((List.range (k * 1)).map (fun _ => Value.bool bt) = ys) := hys
      clear hys
      go_wp2_with (at_builtin; go_must (refine wpl_append2 appBool (by rfl) _ _ (by rfl) (H + 2) (.slice p1 k c1) k ys (by rfl) HO1.out ⟨wr.heap.size, 0, none⟩ 1 1 [.bool bt] (by rfl) (by rfl) HN1.out hone (by omega) (by simp only [maxLen]; omega) (by omega) (by simp; omega) ?_))
      intro g5 c5 w5 ho5 hl5
      rw [← HYS.out] at ho5
      obtain ⟨t1, t2, t3, t4, t5, t6, t7, t8, t9⟩ := hto.out.step1 ho5 hl5
      have HT : Hid ((w5.setCell ⟨H + 1, 1, none⟩ (.slice (some ⟨g5, 0, none⟩) (k + 1) c5)).rowIs H 111 4 (box4F (.bool false) (.slice none 0 0) (.slice none 0 0) (.slice none 0 0)) ∧ (w5.setCell ⟨H + 1, 1, none⟩ (.slice (some ⟨g5, 0, none⟩) (k + 1) c5)).rowIs (H + 1) 111 4 (box4F (.bool false) (.slice (some ⟨g5, 0, none⟩) (k + 1) c5) (.slice p2 k c2) (.slice none 0 0)) ∧ (w5.setCell ⟨H + 1, 1, none⟩ (.slice (some ⟨g5, 0, none⟩) (k + 1) c5)).ownsRow (H + 2) 4 1 (.slice (some ⟨g5, 0, none⟩) (k + 1) c5) (k + 1) ((List.range ((k + 1) * 1)).map (fun _ => Value.bool bt)) ∧ (w5.setCell ⟨H + 1, 1, none⟩ (.slice (some ⟨g5, 0, none⟩) (k + 1) c5)).ownsRow (H + 2) 75 4 (.slice p2 k c2) k ((List.range (k * 4)).map (fun _ => Value.int .u8 0)) ∧ (∀ g, (Value.slice (some ⟨g5, 0, none⟩) (k + 1) c5).ownBlock = some g → (Value.slice p2 k c2).ownBlock ≠ some g) ∧ Below H w (w5.setCell ⟨H + 1, 1, none⟩ (.slice (some ⟨g5, 0, none⟩) (k + 1) c5))) := ⟨t1, t2, t3, t4, t5, hbel.out.trans (t6 ((below_al wr _).mono hHs) hHs)⟩
      have y2 : (w5.setCell ⟨H + 1, 1, none⟩ (.slice (some ⟨g5, 0, none⟩) (k + 1) c5)).cell? ⟨H + 1, 2, none⟩ = some (.slice p2 k c2) := t2.cell (i := 2) (by omega)
      have hyl := t2.lt
      clear t1 t2 t3 t4 t5 t6 ho5 hl5 HO1 HN1 hone x0 x1 x2 x3 hto hbel hl1 HYS
      have HO2 : Hid (((w5.setCell ⟨H + 1, 1, none⟩ (.slice (some ⟨g5, 0, none⟩) (k + 1) c5)).alloc (Obj.cells #[.int .u8 0, .int .u8 0, .int .u8 0, .int .u8 0] 75)).ownsRow (H + 2) 75 4 (.slice p2 k c2) k ((List.range (k * 4)).map (fun _ => Value.int .u8 0))) := HT.out.2.2.2.1.alloc _
      have HN2 : Hid (∀ (j : Nat) (u : Value), [Value.int .u8 0, .int .u8 0, .int .u8 0, .int .u8 0][j]? = some u → ((w5.setCell ⟨H + 1, 1, none⟩ (.slice (some ⟨g5, 0, none⟩) (k + 1) c5)).alloc (Obj.cells #[.int .u8 0, .int .u8 0, .int .u8 0, .int .u8 0] 75)).cell? ((⟨(w5.setCell ⟨H + 1, 1, none⟩ (.slice (some ⟨g5, 0, none⟩) (k + 1) c5)).heap.size, 0, none⟩ : Addr).add j) = some u) := World.news_of_block (w := (w5.setCell ⟨H + 1, 1, none⟩ (.slice (some ⟨g5, 0, none⟩) (k + 1) c5)).alloc (Obj.cells #[.int .u8 0, .int .u8 0, .int .u8 0, .int .u8 0] 75)) (heap_alloc_new (w5.setCell ⟨H + 1, 1, none⟩ (.slice (some ⟨g5, 0, none⟩) (k + 1) c5)) _)
      have hone2 : ∀ u ∈ [Value.int .u8 0, .int .u8 0, .int .u8 0, .int .u8 0], u.oneCell' = true := by simp [Value.oneCell']
      have hl2 : ((List.range (k * 4)).map (fun _ => Value.int .u8 0)).length = k * 4 := by simp
      have hszz : (w5.setCell ⟨H + 1, 1, none⟩ (.slice (some ⟨g5, 0, none⟩) (k + 1) c5)).heap.size = w5.heap.size := by simp [World.setCell]
      generalize hzs : (List.range (k * 4)).map (fun _ => Value.int .u8 0) = zs at *
      have HZS : Hid ((List.range (k * 4)).map (fun _ => Value.int .u8 0) = zs) := hzs
      clear hzs
      go_wp2_with (at_builtin; go_must (refine wpl_append2 appCell (by rfl) _ _ (by rfl) (H + 2) (.slice p2 k c2) k zs (by rfl) HO2.out ⟨w5.heap.size, 0, none⟩ 1 1 [.int .u8 0, .int .u8 0, .int .u8 0, .int .u8 0] (by rfl) (by rfl) (by rw [← hszz]; exact HN2.out) hone2 (by omega) (by simp only [maxLen]; omega) (by omega) (by simp; omega) ?_))
      intro g6 c6 w6 ho6 hl6
      rw [← HZS.out] at ho6
      have HTT := HT.out
      rw [← HZS.out] at HTT
      obtain ⟨u1, u2, u3, u4, u5⟩ := BlankTo.step2 (R := R) HTT.1 HTT.2.1 HTT.2.2.1 HTT.2.2.2.1 HTT.2.2.2.2.1 ho6 hl6
      have HU1 : Hid (BlankTo (w6.setCell ⟨H + 1, 2, none⟩ (.slice (some ⟨g6, 0, none⟩) (k + 1) c6)) H R bt (k + 1) (.slice (some ⟨g5, 0, none⟩) (k + 1) c5) (.slice (some ⟨g6, 0, none⟩) (k + 1) c6)) := u1
      have HU2 : Hid (Below H w (w6.setCell ⟨H + 1, 2, none⟩ (.slice (some ⟨g6, 0, none⟩) (k + 1) c6))) := HTT.2.2.2.2.2.trans (u2 ((below_al _ _).mono (by omega)) (by omega))
      clear u1 u2 HTT HT ho6 hl6 HO2 HN2 hone2 y2 hyl HZS hl2
      go_wp2_with fail
      exact ⟨⟨k + 1, _, _, by omega, by go_num, HU1, HU2⟩, by simp [intOf]; omega⟩
    · have hke : k = R := by omega
      have hki : ¬ ((k : Int) < (R : Int)) := by omega
      have r0 : wr.cell? ⟨H, 0, none⟩ = some (.bool false) := hto.out.res.cell (i := 0) (by omega)
      have r1 : wr.cell? ⟨H, 1, none⟩ = some (.slice none 0 0) := hto.out.res.cell (i := 1) (by omega)
      have r2 : wr.cell? ⟨H, 2, none⟩ = some (.slice none 0 0) := hto.out.res.cell (i := 2) (by omega)
      have r3 : wr.cell? ⟨H, 3, none⟩ = some (.slice none 0 0) := hto.out.res.cell (i := 3) (by omega)
      have f0 := hto.out.res.frozen 0
      have f1 := hto.out.res.frozen 1
      have f2 := hto.out.res.frozen 2
      have f3 := hto.out.res.frozen 3
      have hrl := hto.out.res.lt
      have hset : ∀ b, b ≠ H → ((((wr.setCell ⟨H, 0, none⟩ (.bool false)).setCell ⟨H, 1, none⟩ (.slice p1 k c1)).setCell ⟨H, 2, none⟩ (.slice p2 k c2)).setCell ⟨H, 3, none⟩ (.slice none 0 0)).heap[b]? = wr.heap[b]? := fun b hb => by
        rw [Below.heap_setCell _ _ _ _ hb, Below.heap_setCell _ _ _ _ hb, Below.heap_setCell _ _ _ _ hb, Below.heap_setCell _ _ _ _ hb]
      have HF : Hid (((((wr.setCell ⟨H, 0, none⟩ (.bool false)).setCell ⟨H, 1, none⟩ (.slice p1 k c1)).setCell ⟨H, 2, none⟩ (.slice p2 k c2)).setCell ⟨H, 3, none⟩ (.slice none 0 0)).ownsRow w.heap.size 4 1 (.slice p1 k c1) R ((List.range (R * 1)).map (fun _ => Value.bool bt)) ∧ ((((wr.setCell ⟨H, 0, none⟩ (.bool false)).setCell ⟨H, 1, none⟩ (.slice p1 k c1)).setCell ⟨H, 2, none⟩ (.slice p2 k c2)).setCell ⟨H, 3, none⟩ (.slice none 0 0)).ownsRow w.heap.size 75 4 (.slice p2 k c2) R ((List.range (R * 4)).map (fun _ => Value.int .u8 0)) ∧ (∀ g, (Value.slice p1 k c1).ownBlock = some g → (Value.slice p2 k c2).ownBlock ≠ some g) ∧ Below w.heap.size w ((((wr.setCell ⟨H, 0, none⟩ (.bool false)).setCell ⟨H, 1, none⟩ (.slice p1 k c1)).setCell ⟨H, 2, none⟩ (.slice p2 k c2)).setCell ⟨H, 3, none⟩ (.slice none 0 0))) := (show _ ∧ _ by
        rw [HHH.out]
        have h1 := hto.out.own1
        have h2 := hto.out.own2
        refine ⟨?_, ?_, hto.out.ap, below_set4 hbel.out (Nat.le_refl _) _ _ _ _⟩
        · have h3 := ownsRow_base (base' := H) (own_block h1 (fun g hg => hset g (by have := (World.ownsRow.lt h1 g hg).1; omega))) (fun g hg => by have := (World.ownsRow.lt h1 g hg).1; omega)
          rw [hke] at h3 ⊢; exact h3
        · have h3 := ownsRow_base (base' := H) (own_block h2 (fun g hg => hset g (by have := (World.ownsRow.lt h2 g hg).1; omega))) (fun g hg => by have := (World.ownsRow.lt h2 g hg).1; omega)
          rw [hke] at h3 ⊢; exact h3)
      clear hto hbel hset hke
      go_wp2_with fail
      exact bodyPost_ret (v := .agg #[.bool false, .slice p1 k c1, .slice p2 k c2, .slice none 0 0]) (by simp [results, Tryz.results63, go_sem, r0, r1, r2, r3]) rfl ⟨_, _, rfl, (by have h := HF.out; rw [Nat.mul_one] at h; exact h)⟩
def shBad (a b c d : Int) : Bool := decide (a < 1) || decide (4 < a) || decide (b < 1) || decide (2 < b) || decide (c < 1) || decide (6 < c) || decide (d < 1) || decide (8 < d)
theorem shBad_eq (a b c d : Int) : shBad a b c d = !shapeB a b c d := by
  unfold shBad shapeB
  by_cases h : (1 ≤ a ∧ a ≤ 4) ∧ (1 ≤ b ∧ b ≤ 2) ∧ (1 ≤ c ∧ c ≤ 6) ∧ (1 ≤ d ∧ d ≤ 8)
  · obtain ⟨⟨a1, a2⟩, ⟨b1, b2⟩, ⟨c1, c2⟩, ⟨d1, d2⟩⟩ := h
    rw [decide_eq_false (by omega : ¬ a < 1), decide_eq_false (by omega : ¬ 4 < a), decide_eq_false (by omega : ¬ b < 1), decide_eq_false (by omega : ¬ 2 < b), decide_eq_false (by omega : ¬ c < 1), decide_eq_false (by omega : ¬ 6 < c), decide_eq_false (by omega : ¬ d < 1), decide_eq_false (by omega : ¬ 8 < d), decide_eq_true (⟨a1, a2⟩ : 1 ≤ a ∧ a ≤ 4), decide_eq_true (⟨b1, b2⟩ : 1 ≤ b ∧ b ≤ 2), decide_eq_true (⟨c1, c2⟩ : 1 ≤ c ∧ c ≤ 6), decide_eq_true (⟨d1, d2⟩ : 1 ≤ d ∧ d ≤ 8)]
    rfl
  · cases h1 : decide (1 ≤ a ∧ a ≤ 4) <;> cases h2 : decide (1 ≤ b ∧ b ≤ 2) <;> cases h3 : decide (1 ≤ c ∧ c ≤ 6) <;> cases h4 : decide (1 ≤ d ∧ d ≤ 8) <;> simp only [decide_eq_true_eq, decide_eq_false_iff_not] at h1 h2 h3 h4 <;> simp <;> omega
set_option maxRecDepth 100000 in
set_option maxHeartbeats 2000000 in
theorem rNew_no (a b c d : Int) (w : World) (h : shapeB a b c d = false) :
    Calls Tryz.prog 24 #[.agg #[.int .i64 a, .int .i64 b, .int .i64 c, .int .i64 d]] w fun e w' => e = .returned (.tuple #[.pointer none, .int .i64 2]) ∧ Below w.heap.size w w' := by
  have HW : Hid (Below w.heap.size w (w.alloc (.cells #[.int .i64 a, .int .i64 b, .int .i64 c, .int .i64 d] 55))) := below_al _ _
  by_cases h0 : a < 1
  · have g0 : decide (a < 1) = true := by simpa using h0
    clear h
    go_enter Tryz.func24, Tryz.ntmps24
    go_wp2_with fail
    go_ret2
    exact ⟨rfl, HW.out⟩
  have g0 : decide (a < 1) = false := by simpa using h0
  by_cases h1 : 4 < a
  · have g1 : decide (4 < a) = true := by simpa using h1
    clear h
    go_enter Tryz.func24, Tryz.ntmps24
    go_wp2_with fail
    go_ret2
    exact ⟨rfl, HW.out⟩
  have g1 : decide (4 < a) = false := by simpa using h1
  by_cases h2 : b < 1
  · have g2 : decide (b < 1) = true := by simpa using h2
    clear h
    go_enter Tryz.func24, Tryz.ntmps24
    go_wp2_with fail
    go_ret2
    exact ⟨rfl, HW.out⟩
  have g2 : decide (b < 1) = false := by simpa using h2
  by_cases h3 : 2 < b
  · have g3 : decide (2 < b) = true := by simpa using h3
    clear h
    go_enter Tryz.func24, Tryz.ntmps24
    go_wp2_with fail
    go_ret2
    exact ⟨rfl, HW.out⟩
  have g3 : decide (2 < b) = false := by simpa using h3
  by_cases h4 : c < 1
  · have g4 : decide (c < 1) = true := by simpa using h4
    clear h
    go_enter Tryz.func24, Tryz.ntmps24
    go_wp2_with fail
    go_ret2
    exact ⟨rfl, HW.out⟩
  have g4 : decide (c < 1) = false := by simpa using h4
  by_cases h5 : 6 < c
  · have g5 : decide (6 < c) = true := by simpa using h5
    clear h
    go_enter Tryz.func24, Tryz.ntmps24
    go_wp2_with fail
    go_ret2
    exact ⟨rfl, HW.out⟩
  have g5 : decide (6 < c) = false := by simpa using h5
  by_cases h6 : d < 1
  · have g6 : decide (d < 1) = true := by simpa using h6
    clear h
    go_enter Tryz.func24, Tryz.ntmps24
    go_wp2_with fail
    go_ret2
    exact ⟨rfl, HW.out⟩
  have g6 : decide (d < 1) = false := by simpa using h6
  by_cases h7 : 8 < d
  · have g7 : decide (8 < d) = true := by simpa using h7
    clear h
    go_enter Tryz.func24, Tryz.ntmps24
    go_wp2_with fail
    go_ret2
    exact ⟨rfl, HW.out⟩
  have g7 : decide (8 < d) = false := by simpa using h7
  exfalso
  have hb : shBad a b c d = true := by rw [shBad_eq, h]; rfl
  unfold shBad at hb
  rw [g0, g1, g2, g3, g4, g5, g6, g7] at hb
  cases hb
theorem newAb_ok (a b c d : Nat) (h : shapeB a b c d = true) : (newAb a b c d).ok := newSt_ok a b c d h
theorem z_at (j : Nat) (hj : j < 4) : C4.zero.at j = 0 := by
  have : j = 0 ∨ j = 1 ∨ j = 2 ∨ j = 3 := by omega
  rcases this with rfl | rfl | rfl | rfl <;> rfl
/-- What is under way in New. -/
structure NewTo (w : World) (yb a b c d k : Nat) (V : Nat → Value) : Prop where
  row : w.rowIs yb 107 8 (rv (newAb a b c d) V (-1) false)
  dr : w.ownsRow (yb + 1) 111 4 (V 0) k ((List.range (k * 4)).map (drF (newAb a b c d) V))
  bt : ∀ j, j < k → w.ownsRow (yb + 1) 4 1 (V (1 + 3 * j)) c ((List.range (c * 1)).map (fun _ => Value.bool true))
  ce : ∀ j, j < k → w.ownsRow (yb + 1) 75 4 (V (2 + 3 * j)) c ((List.range (c * 4)).map (fun _ => Value.int .u8 0))
  lg : ∀ j, j < k → V (3 + 3 * j) = .slice none 0 0
  ap2 : ∀ i j g, i < 1 + 3 * k → j < 1 + 3 * k → i ≠ j → (V i).ownBlock = some g → (V j).ownBlock ≠ some g
theorem NewTo.lt {w : World} {yb a b c d k : Nat} {V : Nat → Value} (h : NewTo w yb a b c d k V) (i g : Nat) (hi : i < 1 + 3 * k) (hg : (V i).ownBlock = some g) : yb + 1 ≤ g ∧ g < w.heap.size := by
  by_cases h0 : i = 0
  · subst h0; exact World.ownsRow.lt h.dr g hg
  · have hj : (i - 1) / 3 < k := by omega
    have : (i - 1) % 3 = 0 ∨ (i - 1) % 3 = 1 ∨ (i - 1) % 3 = 2 := by omega
    rcases this with e | e | e
    · rw [show i = 1 + 3 * ((i - 1) / 3) by omega] at hg; exact World.ownsRow.lt (h.bt _ hj) g hg
    · rw [show i = 2 + 3 * ((i - 1) / 3) by omega] at hg; exact World.ownsRow.lt (h.ce _ hj) g hg
    · rw [show i = 3 + 3 * ((i - 1) / 3) by omega, h.lg _ hj] at hg; cases hg
def newV (V : Nat → Value) (k : Nat) (v v1 v2 : Value) (i : Nat) : Value := if i = 0 then v else if i = 1 + 3 * k then v1 else if i = 2 + 3 * k then v2 else if i = 3 + 3 * k then .slice none 0 0 else V i
theorem newV_old (V : Nat → Value) (k : Nat) (v v1 v2 : Value) (i : Nat) (h0 : i ≠ 0) (hi : i < 1 + 3 * k) : newV V k v v1 v2 i = V i := by
  unfold newV
  rw [if_neg h0, if_neg (by omega), if_neg (by omega), if_neg (by omega)]
theorem NewTo.step {w w3 W w5 : World} {yb a b c d k : Nat} {V : Nat → Value} {v1 v2 v' : Value} (h : NewTo w yb a b c d k V) (k3 : Below w.heap.size w w3) (o1 : w3.ownsRow w.heap.size 4 1 v1 c ((List.range (c * 1)).map (fun _ => Value.bool true))) (o2 : w3.ownsRow w.heap.size 75 4 v2 c ((List.range (c * 4)).map (fun _ => Value.int .u8 0))) (hap : ∀ g, v1.ownBlock = some g → v2.ownBlock ≠ some g)
    (kW : Below w3.heap.size w3 W) (ho : w5.ownsRow (yb + 1) 111 4 v' (k + 1) ((List.range (k * 4)).map (drF (newAb a b c d) V) ++ [.bool false, v1, v2, .slice none 0 0])) (hl : Lies W w5 (V 0) v') :
    NewTo (w5.setCell ⟨yb, 4, none⟩ v') yb a b c d (k + 1) (newV V k v' v1 v2) ∧ Below (yb + 1) w w5 ∧ w5.cell? ⟨yb, 4, none⟩ = some (V 0) ∧ w5.frozen? ⟨yb, 4, none⟩ = false ∧ yb < w5.heap.size := by
  obtain ⟨q1, q2, q3, q4, q5⟩ := hl.kept
  have hyl := h.row.lt
  have s3 := k3.size
  have sW := kW.size
  have hv0 : ∀ g, (V 0).ownBlock = some g → yb + 1 ≤ g ∧ g < w.heap.size := fun g hg => World.ownsRow.lt h.dr g hg
  have hb1 : ∀ g, v1.ownBlock = some g → w.heap.size ≤ g ∧ g < w3.heap.size := fun g hg => World.ownsRow.lt o1 g hg
  have hb2 : ∀ g, v2.ownBlock = some g → w.heap.size ≤ g ∧ g < w3.heap.size := fun g hg => World.ownsRow.lt o2 g hg
  have hold : ∀ g, g < w.heap.size → (V 0).ownBlock ≠ some g → w5.heap[g]? = w.heap[g]? := fun g hg hn => (q5 g (by omega) hn).trans ((kW.block g (by omega)).trans (k3.block g hg))
  have hnew : ∀ g, w.heap.size ≤ g → g < w3.heap.size → w5.heap[g]? = w3.heap[g]? := fun g hg hg3 => (q5 g (by omega) (fun e => by have := (hv0 g e).2; omega)).trans (kW.block g hg3)
  have hset : ∀ g, g ≠ yb → (w5.setCell ⟨yb, 4, none⟩ v').heap[g]? = w5.heap[g]? := fun g hg => Below.heap_setCell _ _ _ _ hg
  have hrow5 : w5.rowIs yb 107 8 (rv (newAb a b c d) V (-1) false) := h.row.of_block (hold yb hyl (fun e => by have := (hv0 yb e).1; omega))
  have hvl : ∀ g, v'.ownBlock = some g → (V 0).ownBlock = some g ∨ w3.heap.size ≤ g := fun g hg => by
    rcases hl.block hg with h1 | h1
    · exact .inl h1
    · exact .inr (by omega)
  have hvb : ∀ g, v'.ownBlock = some g → yb + 1 ≤ g := fun g hg => (World.ownsRow.lt ho g hg).1
  refine ⟨⟨?_, ?_, ?_, ?_, ?_, ?_⟩, ⟨q1.trans (kW.os.trans k3.os), q2.trans (kW.tape.trans k3.tape), q3.trans (kW.output.trans k3.output), by omega, fun g hg => hold g (by omega) (fun e => by have := (hv0 g e).1; omega)⟩, hrow5.cell (i := 4) (by omega), hrow5.frozen 4, hrow5.lt⟩
  · refine (hrow5.set 4 v').congr (fun j hj => ?_)
    have : j = 0 ∨ j = 1 ∨ j = 2 ∨ j = 3 ∨ j = 4 ∨ j = 5 ∨ j = 6 ∨ j = 7 := by omega
    rcases this with rfl | rfl | rfl | rfl | rfl | rfl | rfl | rfl <;> rfl
  · have e : (List.range ((k + 1) * 4)).map (drF (newAb a b c d) (newV V k v' v1 v2)) = (List.range (k * 4)).map (drF (newAb a b c d) V) ++ [.bool false, v1, v2, .slice none 0 0] := by
      apply List.ext_getElem?
      intro j
      by_cases hj : j < k * 4
      · rw [List.getElem?_append_left (by simpa using hj), List.getElem?_map, List.getElem?_map, List.getElem?_range hj, List.getElem?_range (by omega)]
        show some _ = some _
        unfold drF
        by_cases e0 : j % 4 = 0
        · rw [if_pos e0, if_pos e0]
        · rw [if_neg e0, if_neg e0, newV_old _ _ _ _ _ _ (by omega) (by omega)]
      · rw [List.getElem?_append_right (by simp; omega), List.length_map, List.length_range, List.getElem?_map]
        by_cases hj2 : j < (k + 1) * 4
        · rw [List.getElem?_range hj2]
          have : j = k * 4 ∨ j = k * 4 + 1 ∨ j = k * 4 + 2 ∨ j = k * 4 + 3 := by omega
          rcases this with e | e | e | e
          · rw [e, Nat.sub_self]; show some (drF _ _ (k * 4)) = some (Value.bool false); unfold drF; rw [if_pos (by omega)]; rfl
          · rw [e, show k * 4 + 1 - k * 4 = 1 by omega]; show some (drF _ _ (k * 4 + 1)) = some v1; unfold drF newV; rw [if_neg (by omega), if_neg (by omega), if_pos (by omega)]
          · rw [e, show k * 4 + 2 - k * 4 = 2 by omega]; show some (drF _ _ (k * 4 + 2)) = some v2; unfold drF newV; rw [if_neg (by omega), if_neg (by omega), if_neg (by omega), if_pos (by omega)]
          · rw [e, show k * 4 + 3 - k * 4 = 3 by omega]; show some (drF _ _ (k * 4 + 3)) = some (Value.slice none 0 0); unfold drF newV; rw [if_neg (by omega), if_neg (by omega), if_neg (by omega), if_neg (by omega), if_pos (by omega)]
        · rw [List.getElem?_eq_none (show (List.range ((k + 1) * 4)).length ≤ j by simp; omega), List.getElem?_eq_none (by simp; omega)]
          rfl
    show World.ownsRow _ _ _ _ v' _ _
    rw [e]
    exact own_block ho (fun g hg => hset g (by have := hvb g hg; omega))
  · intro j hj
    by_cases e : j = k
    · subst e
      have e1 : newV V j v' v1 v2 (1 + 3 * j) = v1 := by unfold newV; rw [if_neg (by omega), if_pos rfl]
      rw [e1]
      exact ownsRow_base (own_block o1 (fun g hg => (hset g (by have := (hb1 g hg).1; omega)).trans (hnew g (hb1 g hg).1 (hb1 g hg).2))) (fun g hg => by have := (hb1 g hg).1; omega)
    · rw [newV_old _ _ _ _ _ _ (by omega) (by omega)]
      have h2 := h.bt j (by omega)
      exact own_block h2 (fun g hg => (hset g (by have := (World.ownsRow.lt h2 g hg).1; omega)).trans (hold g (World.ownsRow.lt h2 g hg).2 (fun e2 => h.ap2 0 (1 + 3 * j) g (by omega) (by omega) (by omega) e2 hg)))
  · intro j hj
    by_cases e : j = k
    · subst e
      have e1 : newV V j v' v1 v2 (2 + 3 * j) = v2 := by unfold newV; rw [if_neg (by omega), if_neg (by omega), if_pos rfl]
      rw [e1]
      exact ownsRow_base (own_block o2 (fun g hg => (hset g (by have := (hb2 g hg).1; omega)).trans (hnew g (hb2 g hg).1 (hb2 g hg).2))) (fun g hg => by have := (hb2 g hg).1; omega)
    · rw [newV_old _ _ _ _ _ _ (by omega) (by omega)]
      have h2 := h.ce j (by omega)
      exact own_block h2 (fun g hg => (hset g (by have := (World.ownsRow.lt h2 g hg).1; omega)).trans (hold g (World.ownsRow.lt h2 g hg).2 (fun e2 => h.ap2 0 (2 + 3 * j) g (by omega) (by omega) (by omega) e2 hg)))
  · intro j hj
    by_cases e : j = k
    · subst e
      unfold newV; rw [if_neg (by omega), if_neg (by omega), if_neg (by omega), if_pos rfl]
    · rw [newV_old _ _ _ _ _ _ (by omega) (by omega)]; exact h.lg j (by omega)
  · have cls : ∀ i g, i < 1 + 3 * (k + 1) → (newV V k v' v1 v2 i).ownBlock = some g → (i = 0 ∧ v'.ownBlock = some g) ∨ (i = 1 + 3 * k ∧ v1.ownBlock = some g) ∨ (i = 2 + 3 * k ∧ v2.ownBlock = some g) ∨ (i ≠ 0 ∧ i < 1 + 3 * k ∧ (V i).ownBlock = some g) := fun i g hi hg => by
      unfold newV at hg
      by_cases e0 : i = 0
      · rw [if_pos e0] at hg; exact .inl ⟨e0, hg⟩
      · rw [if_neg e0] at hg
        by_cases e1 : i = 1 + 3 * k
        · rw [if_pos e1] at hg; exact .inr (.inl ⟨e1, hg⟩)
        · rw [if_neg e1] at hg
          by_cases e2 : i = 2 + 3 * k
          · rw [if_pos e2] at hg; exact .inr (.inr (.inl ⟨e2, hg⟩))
          · rw [if_neg e2] at hg
            by_cases e3 : i = 3 + 3 * k
            · rw [if_pos e3] at hg; cases hg
            · rw [if_neg e3] at hg; exact .inr (.inr (.inr ⟨e0, by omega, hg⟩))
    have hV : ∀ i g, i < 1 + 3 * k → (V i).ownBlock = some g → g < w.heap.size := fun i g hi hg => (h.lt i g hi hg).2
    have hv'c : ∀ g, v'.ownBlock = some g → (V 0).ownBlock = some g ∧ g < w.heap.size ∨ w3.heap.size ≤ g := fun g hg => by
      rcases hvl g hg with h1 | h1
      · exact .inl ⟨h1, (hv0 g h1).2⟩
      · exact .inr h1
    intro i j g hi hj hij hgi hgj
    rcases cls i g hi hgi with ⟨ei, gi⟩ | ⟨ei, gi⟩ | ⟨ei, gi⟩ | ⟨ei0, ei, gi⟩ <;> rcases cls j g hj hgj with ⟨ej, gj⟩ | ⟨ej, gj⟩ | ⟨ej, gj⟩ | ⟨ej0, ej, gj⟩
    · omega
    · have := hb1 g gj; rcases hv'c g gi with h1 | h1 <;> omega
    · have := hb2 g gj; rcases hv'c g gi with h1 | h1 <;> omega
    · have := hV j g ej gj
      rcases hv'c g gi with h1 | h1
      · exact h.ap2 0 j g (by omega) ej (by omega) h1.1 gj
      · omega
    · have := hb1 g gi; rcases hv'c g gj with h1 | h1 <;> omega
    · omega
    · exact hap g gi gj
    · have := hb1 g gi; have := hV j g ej gj; omega
    · have := hb2 g gi; rcases hv'c g gj with h1 | h1 <;> omega
    · exact hap g gj gi
    · omega
    · have := hb2 g gi; have := hV j g ej gj; omega
    · have := hV i g ei gi
      rcases hv'c g gj with h1 | h1
      · exact h.ap2 i 0 g ei (by omega) (by omega) gi h1.1
      · omega
    · have := hb1 g gj; have := hV i g ei gi; omega
    · have := hb2 g gj; have := hV i g ei gi; omega
    · exact h.ap2 i j g ei ej hij gi gj
theorem NewTo.done {w : World} {yb a b c d : Nat} {V : Nat → Value} (h : NewTo w yb a b c d (a + b) V) (hok : (newAb a b c d).ok) : RefIn w yb (newAb a b c d) V (-1) false := by
  refine ⟨hok, h.row, ?_, ?_, ?_, ?_, ?_, ?_⟩
  · exact ownsRow_base0 h.dr
  · intro j hj
    exact ownsRow_base0 (h.bt j hj)
  · intro j hj
    have h2 := ownsRow_base0 (h.ce j hj)
    have h3 : OwnFn w 75 4 (V (2 + 3 * j)) c (fun _ => Value.int .u8 0) := h2
    exact h3.congr (fun i hi => by show Value.int .u8 0 = .int .u8 (C4.zero.at (i % 4) : Nat); rw [z_at _ (by omega)]; rfl)
  · intro j hj
    show LogAt w (V (3 + 3 * j)) []
    rw [h.lg j hj]
    exact World.ownsRow_nil _ _ _ _
  · intro i hi e
    have := (h.lt i yb hi e).1
    omega
  · exact fun i j g hi hj => h.ap2 i j g hi hj
set_option maxRecDepth 100000 in
set_option maxHeartbeats 2000000 in
theorem rNew_ok (a b c d : Nat) (w : World) (h : shapeB a b c d = true) :
    Calls Tryz.prog 24 #[.agg #[.int .i64 a, .int .i64 b, .int .i64 c, .int .i64 d]] w fun e w' => ∃ yb V, e = .returned (.tuple #[.pointer (some ⟨yb, 0, none⟩), .int .i64 0]) ∧ RefIn w' yb (newAb a b c d) V (-1) false ∧ (∀ k, RFoot yb (newAb a b c d) V k → w.heap.size ≤ k) ∧ Below w.heap.size w w' := by
  have HOK : Hid (newAb a b c d).ok := newAb_ok a b c d h
  have hs : 1 ≤ a ∧ a ≤ 4 ∧ 1 ≤ b ∧ b ≤ 2 ∧ 1 ≤ c ∧ c ≤ 6 ∧ 1 ≤ d ∧ d ≤ 8 := ⟨HOK.out.D1, HOK.out.D4, HOK.out.P1, HOK.out.P2, HOK.out.R1, HOK.out.R6, HOK.out.M1, HOK.out.M8⟩
  clear h
  obtain ⟨a1, a2, b1, b2, c1, c2, d1, d2⟩ := hs
  have g0 : decide ((a : Int) < 1) = false := by simp only [decide_eq_false_iff_not]; omega
  have g1 : decide (4 < (a : Int)) = false := by simp only [decide_eq_false_iff_not]; omega
  have g2 : decide ((b : Int) < 1) = false := by simp only [decide_eq_false_iff_not]; omega
  have g3 : decide (2 < (b : Int)) = false := by simp only [decide_eq_false_iff_not]; omega
  have g4 : decide ((c : Int) < 1) = false := by simp only [decide_eq_false_iff_not]; omega
  have g5 : decide (6 < (c : Int)) = false := by simp only [decide_eq_false_iff_not]; omega
  have g6 : decide ((d : Int) < 1) = false := by simp only [decide_eq_false_iff_not]; omega
  have g7 : decide (8 < (d : Int)) = false := by simp only [decide_eq_false_iff_not]; omega
  have HS0 : Hid (((w.alloc (.cells #[.int .i64 a, .int .i64 b, .int .i64 c, .int .i64 d] 55)).alloc (.cells #[.int .i64 a, .int .i64 b, .int .i64 c, .int .i64 d, .slice none 0 0, .int .i64 0, .int .i64 (-1), .bool false] 107)).rowIs w.heap.size 55 4 (box4F (.int .i64 a) (.int .i64 b) (.int .i64 c) (.int .i64 d))) := (box4F_row w _ _ _ _ _ _ rfl).alloc _
  have HN0 : Hid (NewTo ((w.alloc (.cells #[.int .i64 a, .int .i64 b, .int .i64 c, .int .i64 d] 55)).alloc (.cells #[.int .i64 a, .int .i64 b, .int .i64 c, .int .i64 d, .slice none 0 0, .int .i64 0, .int .i64 (-1), .bool false] 107)) (w.heap.size + 1) a b c d 0 (fun _ => .slice none 0 0)) := (show NewTo _ _ _ _ _ _ _ _ from ⟨by
      have e : (w.alloc (.cells #[.int .i64 a, .int .i64 b, .int .i64 c, .int .i64 d] 55)).heap.size = w.heap.size + 1 := by simp
      rw [← e]
      refine World.rowIs_alloc _ _ _ _ ?_
      intro i hi
      have hi' : i < 8 := hi
      have : i = 0 ∨ i = 1 ∨ i = 2 ∨ i = 3 ∨ i = 4 ∨ i = 5 ∨ i = 6 ∨ i = 7 := by omega
      rcases this with rfl | rfl | rfl | rfl | rfl | rfl | rfl | rfl <;> rfl, World.ownsRow_nil _ _ _ _, fun j hj => (by omega), fun j hj => (by omega), fun j hj => (by omega), fun i j g hi hj hij hg => (by cases hg)⟩)
  have HW0 : Hid (Below w.heap.size w ((w.alloc (.cells #[.int .i64 a, .int .i64 b, .int .i64 c, .int .i64 d] 55)).alloc (.cells #[.int .i64 a, .int .i64 b, .int .i64 c, .int .i64 d, .slice none 0 0, .int .i64 0, .int .i64 (-1), .bool false] 107))) := ((Below.refl _ _).alloc (Nat.le_refl _) _).alloc (by simp) _
  go_enter Tryz.func24, Tryz.ntmps24
  go_wp2_with fail
  generalize (w.alloc (.cells #[.int .i64 a, .int .i64 b, .int .i64 c, .int .i64 d] 55)).alloc (.cells #[.int .i64 a, .int .i64 b, .int .i64 c, .int .i64 d, .slice none 0 0, .int .i64 0, .int .i64 (-1), .bool false] 107) = wb at *
  clear g0 g1 g2 g3 g4 g5 g6 g7
  generalize hyb : w.heap.size + 1 = yb at *
  have HYB : Hid (w.heap.size + 1 = yb) := hyb
  clear hyb
  go_loopw [5, 6] (fun ci _ wr => ∃ (k : Nat) (V : Nat → Value), k ≤ a + b ∧ ci = .int .i64 k ∧ Hid (NewTo wr (yb) a b c d k V) ∧ Hid (wr.rowIs w.heap.size 55 4 (box4F (.int .i64 a) (.int .i64 b) (.int .i64 c) (.int .i64 d))) ∧ Hid (Below w.heap.size w wr)) (fun ci _ _ => a + b - (intOf ci).toNat)
  case atStart => exact ⟨0, _, by omega, rfl, HN0, HS0, HW0⟩
  case round =>
    clear HN0 HS0 HW0
    obtain ⟨k, V, hk, rfl, hto, hsh, hbel⟩ := hrel
    have x0 : wr.cell? ⟨w.heap.size, 0, none⟩ = some (.int .i64 a) := hsh.out.cell (i := 0) (by omega)
    have x1 : wr.cell? ⟨w.heap.size, 1, none⟩ = some (.int .i64 b) := hsh.out.cell (i := 1) (by omega)
    have x2 : wr.cell? ⟨w.heap.size, 2, none⟩ = some (.int .i64 c) := hsh.out.cell (i := 2) (by omega)
    have hsl := hsh.out.lt
    have hyl := hto.out.row.lt
    have y4 : wr.cell? ⟨yb, 4, none⟩ = some (V 0) := hto.out.row.cell (i := 4) (by omega)
    by_cases hlt : k < a + b
    · have hki : (k : Int) < (a : Int) + (b : Int) := by omega
      have HBL : Hid (∀ W, Below wr.heap.size wr W → Calls Tryz.prog 63 #[.int .i64 c, .bool true] W fun e w' => ∃ v1 v2, e = .returned (.agg #[.bool false, v1, v2, .slice none 0 0]) ∧ w'.ownsRow W.heap.size 4 1 v1 c ((List.range (c * 1)).map (fun _ => Value.bool true)) ∧ w'.ownsRow W.heap.size 75 4 v2 c ((List.range (c * 4)).map (fun _ => Value.int .u8 0)) ∧ (∀ g, v1.ownBlock = some g → v2.ownBlock ≠ some g) ∧ Below W.heap.size W w') := fun W _ => rblank_any c true W c2 c1
      obtain ⟨p0, q0, e0⟩ := own_wid hto.out.dr
      rw [e0] at y4
      have HE0 : Hid (V 0 = .slice p0 k q0) := e0
      clear e0
      go_wp2_with fail
      refine (HBL.out wr (Below.refl _ _)).mono ?_
      rintro e w3 ⟨v1, v2, rfl, o1, o2, hap, k3⟩
      obtain ⟨p1, q1, rfl⟩ := own_wid o1
      obtain ⟨p2, q2, rfl⟩ := own_wid o2
      have z4 := below_cell' k3 y4
      have hyl3 := Nat.lt_of_lt_of_le hyl k3.size
      have HT : Hid (∀ (W : World) (g5 c5 : Nat) (w5 : World), Below w3.heap.size w3 W → w5.ownsRow (yb + 1) 111 4 (.slice (some ⟨g5, 0, none⟩) (k + 1) c5) (k + 1) ((List.range (k * 4)).map (drF (newAb a b c d) V) ++ [Value.bool false, .slice p1 c q1, .slice p2 c q2, .slice none 0 0]) → Lies W w5 (.slice p0 k q0) (.slice (some ⟨g5, 0, none⟩) (k + 1) c5) → NewTo (w5.setCell ⟨yb, 4, none⟩ (.slice (some ⟨g5, 0, none⟩) (k + 1) c5)) (yb) a b c d (k + 1) (newV V k (.slice (some ⟨g5, 0, none⟩) (k + 1) c5) (.slice p1 c q1) (.slice p2 c q2)) ∧ (w5.setCell ⟨yb, 4, none⟩ (.slice (some ⟨g5, 0, none⟩) (k + 1) c5)).rowIs w.heap.size 55 4 (box4F (.int .i64 a) (.int .i64 b) (.int .i64 c) (.int .i64 d)) ∧ Below w.heap.size w (w5.setCell ⟨yb, 4, none⟩ (.slice (some ⟨g5, 0, none⟩) (k + 1) c5)) ∧ w5.cell? ⟨yb, 4, none⟩ = some (.slice p0 k q0) ∧ w5.frozen? ⟨yb, 4, none⟩ = false ∧ yb < w5.heap.size) := fun W g5 c5 w5 kW ho hl => by
        obtain ⟨t1, t2, t3, t4, t5⟩ := hto.out.step k3 o1 o2 hap kW ho (by rw [HE0.out]; exact hl)
        rw [HE0.out] at t3
        refine ⟨t1, (hsh.out.of_block (t2.block _ (by have := HYB.out; omega))).setOther (by show w.heap.size ≠ yb; have := HYB.out; omega) _, (hbel.out.trans (t2.mono (by have := HYB.out; omega))).setCell (by show w.heap.size ≤ yb; have := HYB.out; omega) _, t3, t4, t5⟩
      have HOW : Hid (w3.ownsRow (yb + 1) 111 4 (.slice p0 k q0) k ((List.range (k * 4)).map (drF (newAb a b c d) V))) := (show World.ownsRow _ _ _ _ _ _ _ by
        have h2 := hto.out.dr
        rw [HE0.out] at h2
        exact own_block h2 (fun g hg => k3.block g (World.ownsRow.lt h2 g hg).2))
      have hln : ((List.range (k * 4)).map (drF (newAb a b c d) V)).length = k * 4 := by simp
      have hone : ∀ u ∈ [Value.bool false, .slice p1 c q1, .slice p2 c q2, .slice none 0 0], u.oneCell' = true := by simp [Value.oneCell']
      have hs3 : yb < w3.heap.size := hyl3
      generalize (List.range (k * 4)).map (drF (newAb a b c d) V) = ds at *
      have hk6 : k < 6 := by omega
      clear HBL o1 o2 hap k3 y4 x0 x1 x2 hto hsh hbel hyl hsl
      have HC5 : Hid (∀ j u, [Value.bool false, .slice p1 c q1, .slice p2 c q2, .slice none 0 0][j]? = some u → ((w3.alloc (Obj.cells #[.bool false, .slice p1 c q1, .slice p2 c q2, .slice none 0 0] 111)).alloc (Obj.cells #[.bool false, .slice p1 c q1, .slice p2 c q2, .slice none 0 0] 111)).drew.cell? ((⟨w3.heap.size + 1, 0, none⟩ : Addr).add j) = some u) := by
        have h1 := heap_alloc_new (w3.alloc (Obj.cells #[.bool false, .slice p1 c q1, .slice p2 c q2, .slice none 0 0] 111)) (Obj.cells #[.bool false, .slice p1 c q1, .slice p2 c q2, .slice none 0 0] 111)
        rw [show (w3.alloc (Obj.cells #[.bool false, .slice p1 c q1, .slice p2 c q2, .slice none 0 0] 111)).heap.size = w3.heap.size + 1 by simp] at h1
        exact World.news_of_block (w := ((w3.alloc (Obj.cells #[.bool false, .slice p1 c q1, .slice p2 c q2, .slice none 0 0] 111)).alloc (Obj.cells #[.bool false, .slice p1 c q1, .slice p2 c q2, .slice none 0 0] 111)).drew) h1
      have HKW : Hid (Below w3.heap.size w3 ((w3.alloc (Obj.cells #[.bool false, .slice p1 c q1, .slice p2 c q2, .slice none 0 0] 111)).alloc (Obj.cells #[.bool false, .slice p1 c q1, .slice p2 c q2, .slice none 0 0] 111)).drew) := (((Below.refl _ _).alloc (Nat.le_refl _) _).alloc (by simp) _).drew
      go_wp2_with fail
      go_region_law
        ((refine step_append2 appDrive (by rfl) _ _ (by rfl) (yb + 1) (.slice p0 k q0) k ds (by rfl) (by exact (HOW.out.alloc _).alloc _) ⟨w3.heap.size + 1, 0, none⟩ 1 1 [Value.bool false, .slice p1 c q1, .slice p2 c q2, .slice none 0 0] (by rfl) (by rfl) (by exact HC5.out) hone (by omega) (by simp only [maxLen]; omega) (by omega) (by simp <;> omega) ?_; intro g5 c5 w5 ho5 hl5; obtain ⟨t1, t2, t3, t4, t5, t6⟩ := HT.out _ g5 c5 w5 HKW.out ho5 hl5; have HT1 : Hid (NewTo (w5.setCell ⟨yb, 4, none⟩ (.slice (some ⟨g5, 0, none⟩) (k + 1) c5)) (yb) a b c d (k + 1) (newV V k (.slice (some ⟨g5, 0, none⟩) (k + 1) c5) (.slice p1 c q1) (.slice p2 c q2))) := t1; have HT2 : Hid ((w5.setCell ⟨yb, 4, none⟩ (.slice (some ⟨g5, 0, none⟩) (k + 1) c5)).rowIs w.heap.size 55 4 (box4F (.int .i64 a) (.int .i64 b) (.int .i64 c) (.int .i64 d))) := t2; have HT3 : Hid (Below w.heap.size w (w5.setCell ⟨yb, 4, none⟩ (.slice (some ⟨g5, 0, none⟩) (k + 1) c5))) := t3; clear t1 t2 t3 ho5 hl5))
      all_goals
        go_wp2_with fail
        exact ⟨⟨k + 1, _, by omega, by go_num, HT1, HT2, HT3⟩, by simp [intOf]; omega⟩
    · have hke : k = a + b := by omega
      have hki : ¬ ((k : Int) < (a : Int) + (b : Int)) := by omega
      have HF : Hid (RefIn wr (yb) (newAb a b c d) V (-1) false ∧ ∀ q, RFoot (yb) (newAb a b c d) V q → w.heap.size ≤ q) := (show _ ∧ _ by
        have h2 := hto.out
        rw [hke] at h2
        refine ⟨h2.done HOK.out, fun q hq => ?_⟩
        rcases hq with h3 | ⟨i, hi, h3⟩
        · have := HYB.out; omega
        · have := (h2.lt i q hi h3).1; have := HYB.out; omega)
      clear hto hsh hke
      go_wp2_with fail
      go_ret2
      exact ⟨yb, rfl, V, HF.out.1, HF.out.2, hbel.out⟩
end Go.Proofs.YtfpoiikhhjdpdaaGreat
