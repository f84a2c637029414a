import Derived.Test.YtfpoiikhhjdpdaaGreatJ28
/- hoardlaw.moved: Fail, Replace, Rebuild. -/
namespace Go.Proofs.YtfpoiikhhjdpdaaGreat
open Go.RowKit
set_option linter.unusedVariables false
attribute [local go_sem ↓] Go.wp_at_zero Go.wp_at_succ
set_option maxRecDepth 100000 in
set_option maxHeartbeats 1000000 in
theorem moved_fail (pb x y : Nat) (q : PSt) (M N : Nat) (o : OpV) (w : World) (hk : o.k = 11) (hb0 : w.cell? ⟨pb, 0, none⟩ = some (.pointer (some ⟨x, 0, none⟩))) (hb1 : w.cell? ⟨pb, 1, none⟩ = some (.pointer (some ⟨y, 0, none⟩))) (hnp : ¬ PFoot x y q pb) (p : PairAt w x y q M)
    (hX : ∀ W, Below w.heap.size w W → Calls Tryz.prog 46 #[.pointer (some ⟨x, 0, none⟩), .int .i64 o.b] W fun e w1 => ∃ z : Int, e = .returned (.int .i64 z) ∧ XPost 47 #[.pointer (some ⟨y, 0, none⟩), .int .i64 o.b] W x y q N (.int .i64 z) w1) :
    Calls Tryz.prog 16 #[o.val, .pointer (some ⟨pb, 0, none⟩)] w fun e w' => e = .returned (.bool true) ∧ ∃ q', PTurn w w' x y q q' N := by
  obtain ⟨k, a0, b0, c0, d0, e0, s0⟩ := o
  simp only at hk hX
  subst hk
  have HX : Hid (∀ W, Below w.heap.size w W → W.cell? ⟨pb, 1, none⟩ = some (.pointer (some ⟨y, 0, none⟩)) → W.cell? ⟨w.heap.size, 2, none⟩ = some (.int .i64 b0) → Calls Tryz.prog 46 #[.pointer (some ⟨x, 0, none⟩), .int .i64 b0] W fun e w1 => ∃ z : Int, e = .returned (.int .i64 z) ∧ Hid (XPost 47 #[.pointer (some ⟨y, 0, none⟩), .int .i64 b0] w x y q N (.int .i64 z) w1) ∧ w1.cell? ⟨pb, 0, none⟩ = some (.pointer (some ⟨x, 0, none⟩)) ∧ w1.cell? ⟨pb, 1, none⟩ = some (.pointer (some ⟨y, 0, none⟩)) ∧ w1.cell? ⟨w.heap.size, 2, none⟩ = some (.int .i64 b0)) := fun W hW h1 h2 => by
    refine (hX W hW).mono ?_
    rintro e w1 ⟨z, he, hx⟩
    obtain ⟨hx1, hx2⟩ := hx.pre hW
    have hnb : ¬ FootD x q.s pb := fun hf => hnp (.inl hf)
    have hnw : ¬ FootD x q.s w.heap.size := fun hf => by have := p.lt (.inl hf); omega
    exact ⟨z, he, hx1, hx2.cell (p := ⟨pb, 0, none⟩) hnb (below_cell' hW hb0), hx2.cell (p := ⟨pb, 1, none⟩) hnb h1, hx2.cell (p := ⟨w.heap.size, 2, none⟩) hnw h2⟩
  have HY : Hid (∀ v w2, Hid (XPost 47 #[.pointer (some ⟨y, 0, none⟩), .int .i64 b0] w x y q N v w2) → w2.cell? ⟨pb, 1, none⟩ = some (.pointer (some ⟨y, 0, none⟩)) → w2.cell? ⟨w.heap.size, 2, none⟩ = some (.int .i64 b0) → ∀ W, W.heap = w2.heap → W.os = w2.os → W.tape = w2.tape → W.output = w2.output → Calls Tryz.prog 47 #[.pointer (some ⟨y, 0, none⟩), .int .i64 b0] W fun e w3 => e = .returned v ∧ Hid (∃ q', PTurn w w3 x y q q' N) ∧ w3.cell? ⟨pb, 1, none⟩ = some (.pointer (some ⟨y, 0, none⟩)) ∧ w3.cell? ⟨w.heap.size, 2, none⟩ = some (.int .i64 b0)) := fun v w2 hx c1 c2 W hh ho ht hp => by
    refine (hx.out.goK p hh ho ht hp).mono ?_
    rintro e w3 ⟨rfl, hq, hk⟩
    have hnb : ¬ RFoot y q.a q.V pb := fun hf => hnp (.inr hf)
    have hnw : ¬ RFoot y q.a q.V w.heap.size := fun hf => by have := p.lt (.inr hf); omega
    exact ⟨rfl, hq, hk.cell (p := ⟨pb, 1, none⟩) hnb (by rw [cell_of_heap hh]; exact c1), hk.cell (p := ⟨w.heap.size, 2, none⟩) hnw (by rw [cell_of_heap hh]; exact c2)⟩
  have HP : Hid (PairAt w x y q M) := p
  have hpl := block_lt_of_cell hb0
  simp only at hpl
  clear hX p hnp
  unfold OpV.val
  go_enter Tryz.func16, Tryz.ntmps16
  have HWA : Hid (Below w.heap.size w (w.alloc (Obj.cells #[.int .i64 11, .int .i64 a0, .int .i64 b0, .int .i64 c0, .int .i64 d0, .int .i64 e0, .string s0] 35)).drew) := (below_al _ _).drew
  have HWC : Hid ((w.alloc (Obj.cells #[.int .i64 11, .int .i64 a0, .int .i64 b0, .int .i64 c0, .int .i64 d0, .int .i64 e0, .string s0] 35)).drew.cell? ⟨pb, 1, none⟩ = some (.pointer (some ⟨y, 0, none⟩)) ∧ (w.alloc (Obj.cells #[.int .i64 11, .int .i64 a0, .int .i64 b0, .int .i64 c0, .int .i64 d0, .int .i64 e0, .string s0] 35)).drew.cell? ⟨w.heap.size, 2, none⟩ = some (.int .i64 b0)) := ⟨below_cell' HWA.out hb1, by simp [go_sem]⟩
  go_wp2_with fail
  go_region_held3 (fun W => W.cell? ⟨pb, 0, none⟩ = some (.pointer (some ⟨x, 0, none⟩)) ∧ W.cell? ⟨pb, 1, none⟩ = some (.pointer (some ⟨y, 0, none⟩)) ∧ W.cell? ⟨w.heap.size, 2, none⟩ = some (.int .i64 b0)) (go_keep) (first | (go_at_call 46; refine (HX.out _ HWA.out HWC.out.1 HWC.out.2).mono ?_; rintro e w2 ⟨rz, rfl, hxp, t0, t1, t2⟩))
  all_goals
    clear HX
    go_wp2_with fail
    go_region_held3 (fun W => W.cell? ⟨pb, 1, none⟩ = some (.pointer (some ⟨y, 0, none⟩)) ∧ W.cell? ⟨w.heap.size, 2, none⟩ = some (.int .i64 b0)) (go_keep) (first | (go_at_call 47; refine (HY.out _ w2 hxp t1 t2 _ (by rfl) (by rfl) (by rfl) (by rfl)).mono ?_; rintro e w3 ⟨rfl, hq, u1, u2⟩))
    all_goals
      go_wp2_with fail
      go_ret
      exact ⟨by simp, hq.out⟩
set_option maxRecDepth 100000 in
set_option maxHeartbeats 1000000 in
theorem moved_replace (pb x y : Nat) (q : PSt) (M N : Nat) (o : OpV) (w : World) (hk : o.k = 12) (hb0 : w.cell? ⟨pb, 0, none⟩ = some (.pointer (some ⟨x, 0, none⟩))) (hb1 : w.cell? ⟨pb, 1, none⟩ = some (.pointer (some ⟨y, 0, none⟩))) (hnp : ¬ PFoot x y q pb) (p : PairAt w x y q M)
    (hX : ∀ W, Below w.heap.size w W → Calls Tryz.prog 48 #[.pointer (some ⟨x, 0, none⟩), .int .i64 o.b] W fun e w1 => ∃ z : Int, e = .returned (.int .i64 z) ∧ XPost 49 #[.pointer (some ⟨y, 0, none⟩), .int .i64 o.b] W x y q N (.int .i64 z) w1) :
    Calls Tryz.prog 16 #[o.val, .pointer (some ⟨pb, 0, none⟩)] w fun e w' => e = .returned (.bool true) ∧ ∃ q', PTurn w w' x y q q' N := by
  obtain ⟨k, a0, b0, c0, d0, e0, s0⟩ := o
  simp only at hk hX
  subst hk
  have HX : Hid (∀ W, Below w.heap.size w W → W.cell? ⟨pb, 1, none⟩ = some (.pointer (some ⟨y, 0, none⟩)) → W.cell? ⟨w.heap.size, 2, none⟩ = some (.int .i64 b0) → Calls Tryz.prog 48 #[.pointer (some ⟨x, 0, none⟩), .int .i64 b0] W fun e w1 => ∃ z : Int, e = .returned (.int .i64 z) ∧ Hid (XPost 49 #[.pointer (some ⟨y, 0, none⟩), .int .i64 b0] w x y q N (.int .i64 z) w1) ∧ w1.cell? ⟨pb, 0, none⟩ = some (.pointer (some ⟨x, 0, none⟩)) ∧ w1.cell? ⟨pb, 1, none⟩ = some (.pointer (some ⟨y, 0, none⟩)) ∧ w1.cell? ⟨w.heap.size, 2, none⟩ = some (.int .i64 b0)) := fun W hW h1 h2 => by
    refine (hX W hW).mono ?_
    rintro e w1 ⟨z, he, hx⟩
    obtain ⟨hx1, hx2⟩ := hx.pre hW
    have hnb : ¬ FootD x q.s pb := fun hf => hnp (.inl hf)
    have hnw : ¬ FootD x q.s w.heap.size := fun hf => by have := p.lt (.inl hf); omega
    exact ⟨z, he, hx1, hx2.cell (p := ⟨pb, 0, none⟩) hnb (below_cell' hW hb0), hx2.cell (p := ⟨pb, 1, none⟩) hnb h1, hx2.cell (p := ⟨w.heap.size, 2, none⟩) hnw h2⟩
  have HY : Hid (∀ v w2, Hid (XPost 49 #[.pointer (some ⟨y, 0, none⟩), .int .i64 b0] w x y q N v w2) → w2.cell? ⟨pb, 1, none⟩ = some (.pointer (some ⟨y, 0, none⟩)) → w2.cell? ⟨w.heap.size, 2, none⟩ = some (.int .i64 b0) → ∀ W, W.heap = w2.heap → W.os = w2.os → W.tape = w2.tape → W.output = w2.output → Calls Tryz.prog 49 #[.pointer (some ⟨y, 0, none⟩), .int .i64 b0] W fun e w3 => e = .returned v ∧ Hid (∃ q', PTurn w w3 x y q q' N) ∧ w3.cell? ⟨pb, 1, none⟩ = some (.pointer (some ⟨y, 0, none⟩)) ∧ w3.cell? ⟨w.heap.size, 2, none⟩ = some (.int .i64 b0)) := fun v w2 hx c1 c2 W hh ho ht hp => by
    refine (hx.out.goK p hh ho ht hp).mono ?_
    rintro e w3 ⟨rfl, hq, hk⟩
    have hnb : ¬ RFoot y q.a q.V pb := fun hf => hnp (.inr hf)
    have hnw : ¬ RFoot y q.a q.V w.heap.size := fun hf => by have := p.lt (.inr hf); omega
    exact ⟨rfl, hq, hk.cell (p := ⟨pb, 1, none⟩) hnb (by rw [cell_of_heap hh]; exact c1), hk.cell (p := ⟨w.heap.size, 2, none⟩) hnw (by rw [cell_of_heap hh]; exact c2)⟩
  have HP : Hid (PairAt w x y q M) := p
  have hpl := block_lt_of_cell hb0
  simp only at hpl
  clear hX p hnp
  unfold OpV.val
  go_enter Tryz.func16, Tryz.ntmps16
  have HWA : Hid (Below w.heap.size w (w.alloc (Obj.cells #[.int .i64 12, .int .i64 a0, .int .i64 b0, .int .i64 c0, .int .i64 d0, .int .i64 e0, .string s0] 35)).drew) := (below_al _ _).drew
  have HWC : Hid ((w.alloc (Obj.cells #[.int .i64 12, .int .i64 a0, .int .i64 b0, .int .i64 c0, .int .i64 d0, .int .i64 e0, .string s0] 35)).drew.cell? ⟨pb, 1, none⟩ = some (.pointer (some ⟨y, 0, none⟩)) ∧ (w.alloc (Obj.cells #[.int .i64 12, .int .i64 a0, .int .i64 b0, .int .i64 c0, .int .i64 d0, .int .i64 e0, .string s0] 35)).drew.cell? ⟨w.heap.size, 2, none⟩ = some (.int .i64 b0)) := ⟨below_cell' HWA.out hb1, by simp [go_sem]⟩
  go_wp2_with fail
  go_region_held3 (fun W => W.cell? ⟨pb, 0, none⟩ = some (.pointer (some ⟨x, 0, none⟩)) ∧ W.cell? ⟨pb, 1, none⟩ = some (.pointer (some ⟨y, 0, none⟩)) ∧ W.cell? ⟨w.heap.size, 2, none⟩ = some (.int .i64 b0)) (go_keep) (first | (go_at_call 48; refine (HX.out _ HWA.out HWC.out.1 HWC.out.2).mono ?_; rintro e w2 ⟨rz, rfl, hxp, t0, t1, t2⟩))
  all_goals
    clear HX
    go_wp2_with fail
    go_region_held3 (fun W => W.cell? ⟨pb, 1, none⟩ = some (.pointer (some ⟨y, 0, none⟩)) ∧ W.cell? ⟨w.heap.size, 2, none⟩ = some (.int .i64 b0)) (go_keep) (first | (go_at_call 49; refine (HY.out _ w2 hxp t1 t2 _ (by rfl) (by rfl) (by rfl) (by rfl)).mono ?_; rintro e w3 ⟨rfl, hq, u1, u2⟩))
    all_goals
      go_wp2_with fail
      go_ret
      exact ⟨by simp, hq.out⟩
set_option maxRecDepth 100000 in
set_option maxHeartbeats 1000000 in
theorem moved_rebuild (pb x y : Nat) (q : PSt) (M N : Nat) (o : OpV) (w : World) (hk : o.k = 13) (hb0 : w.cell? ⟨pb, 0, none⟩ = some (.pointer (some ⟨x, 0, none⟩))) (hb1 : w.cell? ⟨pb, 1, none⟩ = some (.pointer (some ⟨y, 0, none⟩))) (hnp : ¬ PFoot x y q pb) (p : PairAt w x y q M)
    (hX : ∀ W, Below w.heap.size w W → Calls Tryz.prog 50 #[.pointer (some ⟨x, 0, none⟩), .int .i64 o.b, .int .i64 o.c] W fun e w1 => ∃ k z : Int, e = .returned (.tuple #[.int .i64 k, .int .i64 z]) ∧ XPost 51 #[.pointer (some ⟨y, 0, none⟩), .int .i64 o.b, .int .i64 o.c] W x y q N (.tuple #[.int .i64 k, .int .i64 z]) w1) :
    Calls Tryz.prog 16 #[o.val, .pointer (some ⟨pb, 0, none⟩)] w fun e w' => e = .returned (.bool true) ∧ ∃ q', PTurn w w' x y q q' N := by
  obtain ⟨k, a0, b0, c0, d0, e0, s0⟩ := o
  simp only at hk hX
  subst hk
  have HX : Hid (∀ W, Below w.heap.size w W → W.cell? ⟨pb, 1, none⟩ = some (.pointer (some ⟨y, 0, none⟩)) → W.cell? ⟨w.heap.size, 2, none⟩ = some (.int .i64 b0) → W.cell? ⟨w.heap.size, 3, none⟩ = some (.int .i64 c0) → Calls Tryz.prog 50 #[.pointer (some ⟨x, 0, none⟩), .int .i64 b0, .int .i64 c0] W fun e w1 => ∃ k z : Int, e = .returned (.tuple #[.int .i64 k, .int .i64 z]) ∧ Hid (XPost 51 #[.pointer (some ⟨y, 0, none⟩), .int .i64 b0, .int .i64 c0] w x y q N (.tuple #[.int .i64 k, .int .i64 z]) w1) ∧ w1.cell? ⟨pb, 0, none⟩ = some (.pointer (some ⟨x, 0, none⟩)) ∧ w1.cell? ⟨pb, 1, none⟩ = some (.pointer (some ⟨y, 0, none⟩)) ∧ w1.cell? ⟨w.heap.size, 2, none⟩ = some (.int .i64 b0) ∧ w1.cell? ⟨w.heap.size, 3, none⟩ = some (.int .i64 c0)) := fun W hW h1 h2 h3 => by
    refine (hX W hW).mono ?_
    rintro e w1 ⟨k, z, he, hx⟩
    obtain ⟨hx1, hx2⟩ := hx.pre hW
    have hnb : ¬ FootD x q.s pb := fun hf => hnp (.inl hf)
    have hnw : ¬ FootD x q.s w.heap.size := fun hf => by have := p.lt (.inl hf); omega
    exact ⟨k, z, he, hx1, hx2.cell (p := ⟨pb, 0, none⟩) hnb (below_cell' hW hb0), hx2.cell (p := ⟨pb, 1, none⟩) hnb h1, hx2.cell (p := ⟨w.heap.size, 2, none⟩) hnw h2, hx2.cell (p := ⟨w.heap.size, 3, none⟩) hnw h3⟩
  have HY : Hid (∀ v w2, Hid (XPost 51 #[.pointer (some ⟨y, 0, none⟩), .int .i64 b0, .int .i64 c0] w x y q N v w2) → w2.cell? ⟨pb, 1, none⟩ = some (.pointer (some ⟨y, 0, none⟩)) → w2.cell? ⟨w.heap.size, 2, none⟩ = some (.int .i64 b0) → w2.cell? ⟨w.heap.size, 3, none⟩ = some (.int .i64 c0) → ∀ W, W.heap = w2.heap → W.os = w2.os → W.tape = w2.tape → W.output = w2.output → Calls Tryz.prog 51 #[.pointer (some ⟨y, 0, none⟩), .int .i64 b0, .int .i64 c0] W fun e w3 => e = .returned v ∧ Hid (∃ q', PTurn w w3 x y q q' N) ∧ w3.cell? ⟨pb, 1, none⟩ = some (.pointer (some ⟨y, 0, none⟩)) ∧ w3.cell? ⟨w.heap.size, 2, none⟩ = some (.int .i64 b0) ∧ w3.cell? ⟨w.heap.size, 3, none⟩ = some (.int .i64 c0)) := fun v w2 hx c1 c2 c3 W hh ho ht hp => by
    refine (hx.out.goK p hh ho ht hp).mono ?_
    rintro e w3 ⟨rfl, hq, hk⟩
    have hnb : ¬ RFoot y q.a q.V pb := fun hf => hnp (.inr hf)
    have hnw : ¬ RFoot y q.a q.V w.heap.size := fun hf => by have := p.lt (.inr hf); omega
    exact ⟨rfl, hq, hk.cell (p := ⟨pb, 1, none⟩) hnb (by rw [cell_of_heap hh]; exact c1), hk.cell (p := ⟨w.heap.size, 2, none⟩) hnw (by rw [cell_of_heap hh]; exact c2), hk.cell (p := ⟨w.heap.size, 3, none⟩) hnw (by rw [cell_of_heap hh]; exact c3)⟩
  have HP : Hid (PairAt w x y q M) := p
  have hpl := block_lt_of_cell hb0
  simp only at hpl
  clear hX p hnp
  unfold OpV.val
  go_enter Tryz.func16, Tryz.ntmps16
  have HWA : Hid (Below w.heap.size w (w.alloc (Obj.cells #[.int .i64 13, .int .i64 a0, .int .i64 b0, .int .i64 c0, .int .i64 d0, .int .i64 e0, .string s0] 35)).drew) := (below_al _ _).drew
  have HWC : Hid ((w.alloc (Obj.cells #[.int .i64 13, .int .i64 a0, .int .i64 b0, .int .i64 c0, .int .i64 d0, .int .i64 e0, .string s0] 35)).drew.cell? ⟨pb, 1, none⟩ = some (.pointer (some ⟨y, 0, none⟩)) ∧ (w.alloc (Obj.cells #[.int .i64 13, .int .i64 a0, .int .i64 b0, .int .i64 c0, .int .i64 d0, .int .i64 e0, .string s0] 35)).drew.cell? ⟨w.heap.size, 2, none⟩ = some (.int .i64 b0) ∧ (w.alloc (Obj.cells #[.int .i64 13, .int .i64 a0, .int .i64 b0, .int .i64 c0, .int .i64 d0, .int .i64 e0, .string s0] 35)).drew.cell? ⟨w.heap.size, 3, none⟩ = some (.int .i64 c0)) := ⟨below_cell' HWA.out hb1, by simp [go_sem], by simp [go_sem]⟩
  go_wp2_with fail
  go_region_held3 (fun W => W.cell? ⟨pb, 0, none⟩ = some (.pointer (some ⟨x, 0, none⟩)) ∧ W.cell? ⟨pb, 1, none⟩ = some (.pointer (some ⟨y, 0, none⟩)) ∧ W.cell? ⟨w.heap.size, 2, none⟩ = some (.int .i64 b0) ∧ W.cell? ⟨w.heap.size, 3, none⟩ = some (.int .i64 c0)) (go_keep) (first | (go_at_call 50; refine (HX.out _ HWA.out HWC.out.1 HWC.out.2.1 HWC.out.2.2).mono ?_; rintro e w2 ⟨rk, rz, rfl, hxp, t0, t1, t2, t3⟩))
  all_goals
    clear HX
    go_wp2_with fail
    go_region_held3 (fun W => W.cell? ⟨pb, 1, none⟩ = some (.pointer (some ⟨y, 0, none⟩)) ∧ W.cell? ⟨w.heap.size, 2, none⟩ = some (.int .i64 b0) ∧ W.cell? ⟨w.heap.size, 3, none⟩ = some (.int .i64 c0)) (go_keep) (first | (go_at_call 51; refine (HY.out _ w2 hxp t1 t2 t3 _ (by rfl) (by rfl) (by rfl) (by rfl)).mono ?_; rintro e w3 ⟨rfl, hq, u1, u2, u3⟩))
    all_goals
      go_wp2_with fail
      go_ret
      exact ⟨by simp, hq.out⟩
end Go.Proofs.YtfpoiikhhjdpdaaGreat
