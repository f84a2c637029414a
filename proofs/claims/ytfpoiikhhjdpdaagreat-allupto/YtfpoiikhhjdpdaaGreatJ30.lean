import Derived.Test.YtfpoiikhhjdpdaaGreatJ29
/- hoardlaw.asked: Cell. -/
namespace Go.Proofs.YtfpoiikhhjdpdaaGreat
open Go.RowKit
set_option linter.unusedVariables false
attribute [local go_sem ↓] Go.wp_at_zero Go.wp_at_succ
set_option maxRecDepth 100000 in
set_option maxHeartbeats 1000000 in
theorem asked_cell (tb pb x y : Nat) (q : PSt) (N : Nat) (o : OpV) (w : World) (hk : o.k = 8) (hb0 : w.cell? ⟨pb, 0, none⟩ = some (.pointer (some ⟨x, 0, none⟩))) (hb1 : w.cell? ⟨pb, 1, none⟩ = some (.pointer (some ⟨y, 0, none⟩))) (p : PairAt w x y q N) :
    Calls Tryz.prog 15 #[.pointer (some ⟨tb, 0, none⟩), o.val, .pointer (some ⟨pb, 0, none⟩)] w fun e w' => e = .returned (.bool true) ∧ Below w.heap.size w w' := by
  obtain ⟨k, a0, b0, c0, d0, e0, s0⟩ := o
  simp only at hk
  subst hk
  obtain ⟨X, rz, hXY⟩ := pair_cell w x y q N b0 c0 p
  have HX : Hid (∀ W, Below w.heap.size w W → Calls Tryz.prog 33 #[.pointer (some ⟨x, 0, none⟩), .int .i64 b0, .int .i64 c0] W fun e w1 => e = .returned (.tuple #[.agg #[.int .u8 X.b0, .int .u8 X.b1, .int .u8 X.b2, .int .u8 X.b3], .int .i64 rz]) ∧ Below W.heap.size W w1) := fun W hW => (hXY W hW).1
  have HY : Hid (∀ W, Below w.heap.size w W → Calls Tryz.prog 34 #[.pointer (some ⟨y, 0, none⟩), .int .i64 b0, .int .i64 c0] W fun e w1 => e = .returned (.tuple #[.agg #[.int .u8 X.b0, .int .u8 X.b1, .int .u8 X.b2, .int .u8 X.b3], .int .i64 rz]) ∧ Below W.heap.size W w1) := fun W hW => (hXY W hW).2
  have hpl : pb < w.heap.size := block_lt_of_cell hb0
  clear hXY p
  unfold OpV.val
  go_enter Tryz.func15, Tryz.ntmps15
  have HWA : Hid (Below w.heap.size w (w.alloc (Obj.cells #[.int .i64 8, .int .i64 a0, .int .i64 b0, .int .i64 c0, .int .i64 d0, .int .i64 e0, .string s0] 35))) := below_al _ _
  have HWC : Hid (ACells pb x y w.heap.size b0 c0 (w.alloc (Obj.cells #[.int .i64 8, .int .i64 a0, .int .i64 b0, .int .i64 c0, .int .i64 d0, .int .i64 e0, .string s0] 35))) := ⟨below_cell' HWA.out hb0, below_cell' HWA.out hb1, by simp [go_sem], by simp [go_sem]⟩
  go_upto_region 17 with fail
  obtain ⟨t0, t1, t2, t3⟩ := HWC.out
  have HL0 : Hid (w.heap.size ≤ (w.alloc (Obj.cells #[.int .i64 8, .int .i64 a0, .int .i64 b0, .int .i64 c0, .int .i64 d0, .int .i64 e0, .string s0] 35)).heap.size) := HWA.out.size
  generalize (w.alloc (Obj.cells #[.int .i64 8, .int .i64 a0, .int .i64 b0, .int .i64 c0, .int .i64 d0, .int .i64 e0, .string s0] 35)) = W0 at *
  go_cut [20, 21] (fun s16 s17 wx => ∃ cb, s16 = .pointer (some ⟨cb, 0, none⟩) ∧ s17 = .int .i64 rz ∧ BoxAt wx cb X ∧ Below W0.heap.size W0 wx)
  case first =>
    have n1 := World.new_ne W0 _ t0
    have n2 := World.new_ne W0 _ t2
    go_region_held3 (fun W => W.cell? ⟨pb, 0, none⟩ = some (.pointer (some ⟨x, 0, none⟩)) ∧ W.cell? ⟨w.heap.size, 2, none⟩ = some (.int .i64 b0) ∧ W.cell? ⟨w.heap.size, 3, none⟩ = some (.int .i64 c0)) (go_keep) (first | (go_at_call 33; refine (HX.out _ (by repeat (first | exact HWA.out | refine Below.drew ?_ | refine Below.alloc ?_ HL0.out _))).mono ?_; rintro e w3 ⟨rfl, k3⟩; (have g0 : w3.cell? ⟨pb, 0, none⟩ = some (.pointer (some ⟨x, 0, none⟩)) := below_cell' k3 (below_cell' (by repeat (first | exact Below.refl _ _ | refine Below.drew ?_ | refine Below.alloc ?_ (Nat.le_refl _) _)) t0)); (have g2 : w3.cell? ⟨w.heap.size, 2, none⟩ = some (.int .i64 b0) := below_cell' k3 (below_cell' (by repeat (first | exact Below.refl _ _ | refine Below.drew ?_ | refine Below.alloc ?_ (Nat.le_refl _) _)) t2)); (have g3 : w3.cell? ⟨w.heap.size, 3, none⟩ = some (.int .i64 c0) := below_cell' k3 (below_cell' (by repeat (first | exact Below.refl _ _ | refine Below.drew ?_ | refine Below.alloc ?_ (Nat.le_refl _) _)) t3)); (try (have hB9 : BoxAt w3 W0.heap.size C4.zero := (BoxAt.new0 W0 _ rfl).below (below_from k3 rfl rfl rfl rfl); obtain ⟨z0, z1, z2, z3⟩ := hB9.cells; obtain ⟨q0, q1, q2, q3⟩ := hB9.frz; have HB9 : Hid (BoxAt w3 W0.heap.size C4.zero) := hB9; clear hB9)); have K3 : Hid (Below W0.heap.size W0 w3) := (by first | exact below_from k3 rfl rfl rfl rfl | exact ((below_al W0 (.cells #[.int .u8 0, .int .u8 0, .int .u8 0, .int .u8 0] 75)).drew).trans (k3.mono (below_al W0 (.cells #[.int .u8 0, .int .u8 0, .int .u8 0, .int .u8 0] 75)).size)); clear k3))
    all_goals
      go_wp2_with fail
      go_meet
      first
        | exact ⟨W0.heap.size, rfl, rfl, HB9.out.set X, below_set4 K3.out (Nat.le_refl _) _ _ _ _⟩
        | exact ⟨w3.heap.size, rfl, rfl, BoxAt.new w3 X _ rfl, K3.out.alloc K3.out.size _⟩
  case rest =>
    obtain ⟨cb, rfl, rfl, hd3, hbw⟩ := hcut
    have HD1 : Hid (BoxAt wc cb X) := hd3
    have HWB : Hid (Below w.heap.size w wc) := HWA.out.trans (hbw.mono HL0.out)
    have HCC : Hid (ACells pb x y w.heap.size b0 c0 wc) := HWC.out.below hbw
    clear hd3 hbw t0 t1 t2 t3 HWA HWC HL0 HX
    generalize hWW : wc = W0' at *
    clear hWW
    clear wc W0
    rename World => W0
    obtain ⟨t0, t1, t2, t3⟩ := HCC.out
    obtain ⟨f0, f1, f2, f3⟩ := HD1.out.cells
    have HL0 : Hid (w.heap.size ≤ W0.heap.size) := HWB.out.size
    go_upto_region 18 with fail
    go_cut [22, 23] (fun s18 s19 wx => ∃ cb, s18 = .pointer (some ⟨cb, 0, none⟩) ∧ s19 = .int .i64 rz ∧ BoxAt wx cb X ∧ Below W0.heap.size W0 wx)
    case first =>
      have n1 := World.new_ne W0 _ t1
      have n2 := World.new_ne W0 _ t2
      go_region_held3 (fun W => W.cell? ⟨pb, 1, none⟩ = some (.pointer (some ⟨y, 0, none⟩)) ∧ W.cell? ⟨w.heap.size, 2, none⟩ = some (.int .i64 b0) ∧ W.cell? ⟨w.heap.size, 3, none⟩ = some (.int .i64 c0)) (go_keep) (first | (go_at_call 34; refine (HY.out _ (by repeat (first | exact HWB.out | refine Below.drew ?_ | refine Below.alloc ?_ HL0.out _))).mono ?_; rintro e w3 ⟨rfl, k3⟩; (have g0 : w3.cell? ⟨pb, 1, none⟩ = some (.pointer (some ⟨y, 0, none⟩)) := below_cell' k3 (below_cell' (by repeat (first | exact Below.refl _ _ | refine Below.drew ?_ | refine Below.alloc ?_ (Nat.le_refl _) _)) t1)); (have g2 : w3.cell? ⟨w.heap.size, 2, none⟩ = some (.int .i64 b0) := below_cell' k3 (below_cell' (by repeat (first | exact Below.refl _ _ | refine Below.drew ?_ | refine Below.alloc ?_ (Nat.le_refl _) _)) t2)); (have g3 : w3.cell? ⟨w.heap.size, 3, none⟩ = some (.int .i64 c0) := below_cell' k3 (below_cell' (by repeat (first | exact Below.refl _ _ | refine Below.drew ?_ | refine Below.alloc ?_ (Nat.le_refl _) _)) t3)); (try (have hB9 : BoxAt w3 W0.heap.size C4.zero := (BoxAt.new0 W0 _ rfl).below (below_from k3 rfl rfl rfl rfl); obtain ⟨z0, z1, z2, z3⟩ := hB9.cells; obtain ⟨q0, q1, q2, q3⟩ := hB9.frz; have HB9 : Hid (BoxAt w3 W0.heap.size C4.zero) := hB9; clear hB9)); have K3 : Hid (Below W0.heap.size W0 w3) := (by first | exact below_from k3 rfl rfl rfl rfl | exact ((below_al W0 (.cells #[.int .u8 0, .int .u8 0, .int .u8 0, .int .u8 0] 75)).drew).trans (k3.mono (below_al W0 (.cells #[.int .u8 0, .int .u8 0, .int .u8 0, .int .u8 0] 75)).size)); clear k3))
      all_goals
        go_wp2_with fail
        go_meet
        first
          | exact ⟨W0.heap.size, rfl, rfl, HB9.out.set X, below_set4 K3.out (Nat.le_refl _) _ _ _ _⟩
          | exact ⟨w3.heap.size, rfl, rfl, BoxAt.new w3 X _ rfl, K3.out.alloc K3.out.size _⟩
    case rest =>
      obtain ⟨cb2, rfl, rfl, hd3, hbw⟩ := hcut
      have HWB2 : Hid (Below w.heap.size w wc) := HWB.out.trans (hbw.mono HL0.out)
      obtain ⟨h0, h1, h2, h3⟩ := (HD1.out.below hbw).cells
      obtain ⟨i0, i1, i2, i3⟩ := hd3.cells
      clear hd3 hbw t0 t1 t2 t3 f0 f1 f2 f3 HCC HD1 HL0 HY
      have HSM : Hid (∀ W, Calls Tryz.prog 35 #[.agg #[.int .u8 X.b0, .int .u8 X.b1, .int .u8 X.b2, .int .u8 X.b3], .agg #[.int .u8 X.b0, .int .u8 X.b1, .int .u8 X.b2, .int .u8 X.b3]] W fun e w' => e = .returned (.bool true) ∧ Below W.heap.size W w') := fun W => lsameCell_eq X W
      go_wp2_with (go_at_call 35; go_must (refine (HSM.out _).mono ?_))
      rintro e w5 ⟨rfl, k5⟩
      have HWB3 : Hid (Below w.heap.size w w5) := HWB2.out.trans (k5.mono HWB2.out.size)
      clear k5 h0 h1 h2 h3 i0 i1 i2 i3
      go_wp2_with fail
      go_ret
      exact ⟨by simp, HWB3.out⟩
end Go.Proofs.YtfpoiikhhjdpdaaGreat
