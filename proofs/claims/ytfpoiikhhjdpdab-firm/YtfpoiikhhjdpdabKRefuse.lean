/- hoardkeep: refused. -/
import Derived.Test.YtfpoiikhhjdpdabWorld
import Derived.Deep.DeepCutAuto
namespace Go.Proofs.Ytfpoiikhhjdpdab
open Go.RowKit
set_option linter.unusedVariables false
attribute [local go_sem ↓] Go.wp_at_zero Go.wp_at_succ
set_option maxRecDepth 100000 in
set_option maxHeartbeats 1000000 in
theorem Log_noq (hb : Nat) (s : St) (d : Int) (w : World) (h : HoardAt w hb s) (hd : isParityB s d = false) :
    Calls Try.prog 35 #[.pointer (some ⟨hb, 0, none⟩), .int .i64 d] w fun e w' => e = .returned (.tuple #[.slice none 0 0, .int .i64 6]) ∧ ∃ q, w' = w.drewN q := by
  have hdn := h.downAt
  replace h := h.toHoardIn
  have hlt0 := h.row.lt
  have HIP : Hid (Calls Try.prog 60 #[.pointer (some ⟨hb, 0, none⟩), .int .i64 d] w fun e w' => e = .returned (.bool false) ∧ ∃ n, w' = w.drewN n) := (show Calls _ _ _ _ _ by have := isParity_any hb s d w h; rw [hd] at this; exact this)
  clear h
  go_enter Try.func35, Try.ntmps35
  go_wp2_with fail
  refine HIP.out.mono ?_
  rintro e w1 ⟨rfl, q, rfl⟩
  go_wp2_with fail
  go_ret2
  exact ⟨rfl, q, rfl⟩
set_option maxRecDepth 100000 in
set_option maxHeartbeats 1000000 in
theorem Merge_argq (hb : Nat) (s : St) (d : Nat) (n : Int) (w : World) (h : HoardAt w hb s) (hd : isParityB s d = true) (hls : s.lost d = false) (hn : n < 1) :
    Calls Try.prog 53 #[.pointer (some ⟨hb, 0, none⟩), .int .i64 d, .int .i64 n] w fun e w' => e = .returned (.tuple #[.int .i64 0, .int .i64 1]) ∧ ∃ q, w' = w.drewN q := by
  have hdn := h.downAt
  replace h := h.toHoardIn
  have hlt0 := h.row.lt
  have hD := h.ok.D4
  have hP := h.ok.P2
  have hd1 := hd
  simp only [isParityB, decide_eq_true_eq] at hd1
  have hd6 : d < 6 := by omega
  have hdi : (d : Int) < 6 := by omega
  have HIP : Hid (Calls Try.prog 60 #[.pointer (some ⟨hb, 0, none⟩), .int .i64 d] w fun e w' => e = .returned (.bool true) ∧ ∃ n, w' = w.drewN n) := (show Calls _ _ _ _ _ by have := isParity_any hb s d w h; rw [hd] at this; exact this)
  have HLA : Hid (∀ q, (w.drewN q).cell? ⟨hb, 4 + d * 32, none⟩ = some (.bool false) ∧ hb < (w.drewN q).heap.size) := fun q => by
    have h1 := (h.drewN q).lostAt d hd6
    rw [hls] at h1
    exact ⟨h1, (h.drewN q).row.lt⟩
  clear h
  go_enter Try.func53, Try.ntmps53
  go_wp2_with fail
  refine HIP.out.mono ?_
  rintro e w1 ⟨rfl, q, rfl⟩
  obtain ⟨l1, l2⟩ := HLA.out q
  go_wp2_with fail
  go_ret2
  exact ⟨rfl, q, rfl⟩
set_option maxRecDepth 100000 in
set_option maxHeartbeats 4000000 in
theorem refused_in {w0 : World} (kb bb hb : Nat) (s : St) (f : Nat → Nat) (V : Nat → Value) (lo : Nat → Bool) (bu : Nat → Nat → Bool) (odd : Int) (w : World) (h : KeepAt w0 w kb bb hb s f V lo bu) (hl : ∀ d, d < s.D + s.P → s.lost d = false) (ho : -9223372036854775808 ≤ odd ∧ odd ≤ 9223372036854775807) (hin : 0 ≤ odd ∧ odd ≤ ((s.D * s.R * 4 : Nat) : Int)) :
    Calls Try.prog 34 #[.pointer (some ⟨kb, 0, none⟩), .int .i64 odd] w fun e w' => e = .returned (.bool true) ∧ Below w.heap.size w w' := by
  obtain ⟨hs96, hs4⟩ := h.size
  have hD := h.hoard.ok.D4
  have hD1 := h.hoard.ok.D1
  have hP := h.hoard.ok.P2
  have hP1 := h.hoard.ok.P1
  have hR := h.hoard.ok.R6
  have hDR : ((s.D * s.R * 4 : Nat) : Int) = (s.D : Int) * s.R * 4 := by simp
  have HH : Hid (KeepAt w0 w kb bb hb s f V lo bu) := h
  have HLO : Hid (∀ d, d < s.D + s.P → s.lost d = false) := hl
  have HHB : Hid (∀ a n : Int, (a < 0 ∨ n < 0 ∨ (s.D : Int) * s.R * 4 < a ∨ (s.D : Int) * s.R * 4 < a + n) → hasB s a n = false) := fun a n hx => by simp only [hasB, decide_eq_false_iff_not]; omega
  generalize hN : s.D * s.R * 4 = N at *
  have hin2 : 0 ≤ odd ∧ odd ≤ (N : Int) := by omega
  clear hin
  obtain ⟨o, hoo2⟩ : ∃ o : Int, (N : Int) + 1 = o := ⟨_, rfl⟩
  have hob : -9223372036854775808 ≤ o ∧ o ≤ 9223372036854775807 ∧ (o < 0 ∨ (N : Int) < o) := by omega
  have HR1 : Hid (∀ W, HoardAt W hb s → Calls Try.prog 21 #[.pointer (some ⟨hb, 0, none⟩), .int .i64 o, .int .i64 1] W fun e w' => e = .returned (.tuple #[.slice none 0 0, .int .i64 4]) ∧ Below W.heap.size W w') := fun W hW => Read_no hb s o 1 W hW ⟨hob.1, hob.2.1⟩ (HHB.out o 1 (by omega))
  have HR2 : Hid (∀ W, HoardAt W hb s → Calls Try.prog 21 #[.pointer (some ⟨hb, 0, none⟩), .int .i64 1, .int .i64 9223372036854775807] W fun e w' => e = .returned (.tuple #[.slice none 0 0, .int .i64 4]) ∧ Below W.heap.size W w') := fun W hW => Read_no hb s 1 9223372036854775807 W hW (by omega) (HHB.out _ _ (by omega))
  have HR3 : Hid (∀ W, HoardAt W hb s → Calls Try.prog 21 #[.pointer (some ⟨hb, 0, none⟩), .int .i64 0, .int .i64 (-1)] W fun e w' => e = .returned (.tuple #[.slice none 0 0, .int .i64 4]) ∧ Below W.heap.size W w') := fun W hW => Read_no hb s 0 (-1) W hW (by omega) (HHB.out _ _ (by omega))
  have HW4 : Hid (∀ (W : World) (p : Option Addr) (cp : Nat), HoardAt W hb s → Calls Try.prog 22 #[.pointer (some ⟨hb, 0, none⟩), .int .i64 o, .slice p 1 cp] W fun e w' => e = .returned (.int .i64 4) ∧ Below W.heap.size W w') := fun W p cp hW => Write_no hb s o p 1 cp W hW ⟨hob.1, hob.2.1⟩ (HHB.out o 1 (by omega))
  have HW5 : Hid (∀ (W : World) (p : Option Addr) (cp : Nat), HoardAt W hb s → Calls Try.prog 22 #[.pointer (some ⟨hb, 0, none⟩), .int .i64 N, .slice p 1 cp] W fun e w' => e = .returned (.int .i64 4) ∧ Below W.heap.size W w') := fun W p cp hW => Write_no hb s N p 1 cp W hW (by omega) (HHB.out _ _ (by omega))
  have HW6 : Hid (∀ W, HoardAt W hb s → Calls Try.prog 22 #[.pointer (some ⟨hb, 0, none⟩), .int .i64 (-1), .slice none 0 0] W fun e w' => e = .returned (.int .i64 4) ∧ Below W.heap.size W w') := fun W hW => Write_no hb s (-1) none 0 0 W hW (by omega) (HHB.out _ _ (by omega))
  obtain ⟨dn, hdn⟩ : ∃ dn : Nat, s.D + s.P = dn := ⟨_, rfl⟩
  have hwd : IntKind.i64.wrap ((s.D : Int) + (s.P : Int)) = (dn : Int) := by rw [show (s.D : Int) + (s.P : Int) = (dn : Int) by omega]; exact wrap_i64_small _ (by omega) (by omega)
  have HD7 : Hid (∀ W, HoardAt W hb s → Calls Try.prog 14 #[.pointer (some ⟨hb, 0, none⟩), .int .i64 dn] W fun e w' => e = .returned (.tuple #[.agg #[.bool false, .int .i64 0, .int .i64 0], .int .i64 6]) ∧ Below W.heap.size W w') := fun W hW => Drive_no hb s dn W hW (by simp only [isDriveB, decide_eq_false_iff_not]; omega)
  have HC8 : Hid (∀ W, HoardAt W hb s → Calls Try.prog 16 #[.pointer (some ⟨hb, 0, none⟩), .int .i64 (-1), .int .i64 0] W fun e w' => e = .returned (.tuple #[.agg #[.int .u8 0, .int .u8 0, .int .u8 0, .int .u8 0], .int .i64 6]) ∧ Below W.heap.size W w') := fun W hW => Cell_no hb s (-1) 0 W hW (by simp only [isDriveB, decide_eq_false_iff_not]; omega)
  have HC9 : Hid (∀ W, HoardAt W hb s → Calls Try.prog 16 #[.pointer (some ⟨hb, 0, none⟩), .int .i64 0, .int .i64 s.R] W fun e w' => e = .returned (.tuple #[.agg #[.int .u8 0, .int .u8 0, .int .u8 0, .int .u8 0], .int .i64 1]) ∧ Below W.heap.size W w') := fun W hW => Cell_arg hb s 0 s.R W hW (by omega) (by simp only [isRowB, decide_eq_false_iff_not]; omega)
  have hwl : IntKind.i64.wrap ((s.D : Int) - 1) = (s.D : Int) - 1 := wrap_i64_small _ (by omega) (by omega)
  have HL10 : Hid (∀ (W : World) (z : Int), z = (s.D : Int) - 1 → HoardAt W hb s → Calls Try.prog 35 #[.pointer (some ⟨hb, 0, none⟩), .int .i64 z] W fun e w' => e = .returned (.tuple #[.slice none 0 0, .int .i64 6]) ∧ ∃ q, w' = W.drewN q) := fun W z hz hW => Log_noq hb s z W hW (by simp only [isParityB, decide_eq_false_iff_not]; omega)
  have HM11 : Hid (∀ W, HoardAt W hb s → Calls Try.prog 53 #[.pointer (some ⟨hb, 0, none⟩), .int .i64 dn, .int .i64 1] W fun e w' => e = .returned (.tuple #[.int .i64 0, .int .i64 6]) ∧ Below W.heap.size W w') := fun W hW => Merge_no hb s dn 1 W hW (by simp only [isParityB, decide_eq_false_iff_not]; omega)
  have HM12 : Hid (∀ W, HoardAt W hb s → Calls Try.prog 53 #[.pointer (some ⟨hb, 0, none⟩), .int .i64 s.D, .int .i64 0] W fun e w' => e = .returned (.tuple #[.int .i64 0, .int .i64 1]) ∧ ∃ q, w' = W.drewN q) := fun W hW => Merge_argq hb s s.D 0 W hW (by simp only [isParityB, decide_eq_true_eq]; omega) (HLO.out s.D (by omega)) (by omega)
  have HM13 : Hid (∀ W, HoardAt W hb s → Calls Try.prog 53 #[.pointer (some ⟨hb, 0, none⟩), .int .i64 0, .int .i64 1] W fun e w' => e = .returned (.tuple #[.int .i64 0, .int .i64 6]) ∧ Below W.heap.size W w') := fun W hW => Merge_no hb s 0 1 W hW (by simp only [isParityB, decide_eq_false_iff_not]; omega)
  have HRW : Hid (∀ W, Below w.heap.size w W → W.cell? ⟨kb, 0, none⟩ = some (.pointer (some ⟨hb, 0, none⟩)) ∧ W.cell? ⟨kb, 1, none⟩ = some (.int .i64 s.D) ∧ W.cell? ⟨kb, 3, none⟩ = some (.int .i64 s.R) ∧ kb < W.heap.size ∧ HoardAt W hb s) := fun W k => by
    have h1 := HH.out.of_below k
    obtain ⟨c0, c1, _, c3, _⟩ := h1.cells
    exact ⟨c0, c1, c3, h1.row.lt, h1.hoard⟩
  obtain ⟨c0, c1, c2, c3, _, c5, _⟩ := h.cells
  rw [hN] at c5
  have hlt := h.row.lt
  have hNi : (N : Int) ≤ 96 := by omega
  clear h hl hN hdn hDR
  go_enter Try.func34, Try.ntmps34
  go_wp2_with fail
  go_quiet (fail)
  have b0 : Below w.heap.size w (w.drewN nq) := below_drewN (Below.refl _ _) nq
  clear c0 c1 c2 c3 c5 hlt
  generalize w.drewN nq = v0 at *
  obtain ⟨c0, c1, c3, hlt, hh⟩ := HRW.out _ b0
  have HHA : Hid (HoardAt v0 hb s) := hh
  clear hh
  have hi1 : decide (0 ≤ odd) = true := by simpa using hin2.1
  have hi2 : decide (odd ≤ (N : Int)) = true := by simpa using hin2.2
  clear hin2 ho
  go_wp2_with fail
  refine (HR1.out _ HHA.out).mono ?_
  rintro e w1 ⟨rfl, k⟩
  have b1 : Below w.heap.size w w1 := b0.trans (k.mono b0.size)
  clear k c0 c1 c3 hlt HHA b0
  obtain ⟨c0, c1, c3, hlt, hh⟩ := HRW.out _ b1
  have HHA : Hid (HoardAt w1 hb s) := hh
  clear hh
  go_wp2_with fail
  generalize w1 = v1 at *
  refine (HR2.out _ HHA.out).mono ?_
  rintro e w2 ⟨rfl, k⟩
  have b2 : Below w.heap.size w w2 := b1.trans (k.mono b1.size)
  clear k c0 c1 c3 hlt HHA b1
  obtain ⟨c0, c1, c3, hlt, hh⟩ := HRW.out _ b2
  have HHA : Hid (HoardAt w2 hb s) := hh
  clear hh
  go_wp2_with fail
  generalize w2 = v2 at *
  refine (HR3.out _ HHA.out).mono ?_
  rintro e w3 ⟨rfl, k⟩
  have b3 : Below w.heap.size w w3 := b2.trans (k.mono b2.size)
  clear k c0 c1 c3 hlt HHA b2
  obtain ⟨c0, c1, c3, hlt, hh⟩ := HRW.out _ b3
  have HHA : Hid (HoardAt w3 hb s) := hh
  clear hh
  go_wp2_with fail
  generalize w3 = v3 at *
  refine (HW4.out _ _ _ (HHA.out.below (by repeat (first | exact Below.refl _ _ | refine Below.drew ?_ | refine Below.alloc ?_ (by first | omega | (simp <;> omega)) _)))).mono ?_
  rintro e w4 ⟨rfl, k⟩
  have b4 : Below w.heap.size w w4 := b3.trans ((Below.trans (by repeat (first | exact Below.refl _ _ | refine Below.drew ?_ | refine Below.alloc ?_ (by first | omega | (simp <;> omega)) _)) (k.mono (by first | omega | (simp <;> omega))) : Below v3.heap.size v3 w4).mono b3.size)
  clear k c0 c1 c3 hlt HHA b3
  obtain ⟨c0, c1, c3, hlt, hh⟩ := HRW.out _ b4
  have HHA : Hid (HoardAt w4 hb s) := hh
  clear hh
  go_wp2_with fail
  generalize w4 = v4 at *
  refine (HW5.out _ _ _ (HHA.out.below (by repeat (first | exact Below.refl _ _ | refine Below.drew ?_ | refine Below.alloc ?_ (by first | omega | (simp <;> omega)) _)))).mono ?_
  rintro e w5 ⟨rfl, k⟩
  have b5 : Below w.heap.size w w5 := b4.trans ((Below.trans (by repeat (first | exact Below.refl _ _ | refine Below.drew ?_ | refine Below.alloc ?_ (by first | omega | (simp <;> omega)) _)) (k.mono (by first | omega | (simp <;> omega))) : Below v4.heap.size v4 w5).mono b4.size)
  clear k c0 c1 c3 hlt HHA b4
  obtain ⟨c0, c1, c3, hlt, hh⟩ := HRW.out _ b5
  have HHA : Hid (HoardAt w5 hb s) := hh
  clear hh
  go_wp2_with fail
  generalize w5 = v5 at *
  refine (HW6.out _ HHA.out).mono ?_
  rintro e w6 ⟨rfl, k⟩
  have b6 : Below w.heap.size w w6 := b5.trans (k.mono b5.size)
  clear k c0 c1 c3 hlt HHA b5
  obtain ⟨c0, c1, c3, hlt, hh⟩ := HRW.out _ b6
  have HHA : Hid (HoardAt w6 hb s) := hh
  clear hh
  go_wp2_with fail
  generalize w6 = v6 at *
  refine (HD7.out _ HHA.out).mono ?_
  rintro e w7 ⟨rfl, k⟩
  have b7 : Below w.heap.size w w7 := b6.trans (k.mono b6.size)
  clear k c0 c1 c3 hlt HHA b6
  replace b7 : Below w.heap.size w (w7.alloc (.cells #[.bool false, .int .i64 0, .int .i64 0] 42)) := b7.alloc b7.size _
  obtain ⟨c0, c1, c3, hlt, hh⟩ := HRW.out _ b7
  have HHA : Hid (HoardAt (w7.alloc (.cells #[.bool false, .int .i64 0, .int .i64 0] 42)) hb s) := hh
  clear hh
  go_wp2_with fail
  generalize (w7.alloc (.cells #[.bool false, .int .i64 0, .int .i64 0] 42)) = v7 at *
  refine (HC8.out _ HHA.out).mono ?_
  rintro e w8 ⟨rfl, k⟩
  have b8 : Below w.heap.size w w8 := b7.trans (k.mono b7.size)
  clear k c0 c1 c3 hlt HHA b7
  replace b8 : Below w.heap.size w (w8.alloc (.cells #[.int .u8 0, .int .u8 0, .int .u8 0, .int .u8 0] 48)) := b8.alloc b8.size _
  obtain ⟨c0, c1, c3, hlt, hh⟩ := HRW.out _ b8
  have HHA : Hid (HoardAt (w8.alloc (.cells #[.int .u8 0, .int .u8 0, .int .u8 0, .int .u8 0] 48)) hb s) := hh
  clear hh
  go_wp2_with fail
  generalize (w8.alloc (.cells #[.int .u8 0, .int .u8 0, .int .u8 0, .int .u8 0] 48)) = v8 at *
  have hs8 := b8.size
  have HHB8 : Hid (HoardAt (v8.alloc (.cells #[.int .u8 0, .int .u8 0, .int .u8 0, .int .u8 0] 48)) hb s) := HHA.out.below ((Below.refl _ _).alloc (Nat.le_refl _) _)
  have b8a : Hid (Below w.heap.size w (v8.alloc (.cells #[.int .u8 0, .int .u8 0, .int .u8 0, .int .u8 0] 48))) := b8.alloc hs8 _
  go_cut [21, 22] (fun _ s22 wx => s22 = .int .i64 1 ∧ Below w.heap.size w wx)
  case first =>
    go_region_with ((go_at_call 16; go_must (refine (HC9.out _ (by first | exact HHA.out.heap rfl | exact HHB8.out.heap rfl)).mono ?_); rintro e w9 ⟨rfl, k⟩; (try (have hB9 : BoxAt w9 v8.heap.size C4.zero := (BoxAt.new0 v8 _ rfl).below (below_from k rfl rfl rfl rfl); obtain ⟨z0, z1, z2, z3⟩ := hB9.cells; obtain ⟨q0, q1, q2, q3⟩ := hB9.frz; have hzl := hB9.lt; clear hB9)); have b9 : Below w.heap.size w w9 := (by first | exact b8.trans ((below_from (w := v8) k rfl rfl rfl rfl).mono hs8) | exact b8a.out.trans ((below_from (w := v8.alloc (.cells #[.int .u8 0, .int .u8 0, .int .u8 0, .int .u8 0] 48)) k rfl rfl rfl rfl).mono b8a.out.size)); have hs9 := b9.size; clear k))
    all_goals (go_wp2_with fail; go_meet; exact ⟨rfl, (by repeat (first | exact b9 | refine Below.setCell ?_ (by first | omega | (simp <;> omega)) _ | refine Below.drew ?_ | refine Below.alloc ?_ (by first | omega | (simp <;> omega)) _))⟩)
  case rest =>
  obtain ⟨rfl, b9⟩ := hcut
  clear c0 c1 c3 hlt HHA b8 hs8
  obtain ⟨c0, c1, c3, hlt, hh⟩ := HRW.out _ b9
  have HHA : Hid (HoardAt wc hb s) := hh
  clear hh
  go_wp2_with fail
  generalize wc = v9 at *
  go_quiet ((go_at_call 35; exact Calls.quiet_of (HL10.out _ _ (by first | rfl | omega | (rw [hwl])) (HHA.out.drewN _))))
  have b10 : Below w.heap.size w (v9.drewN nq) := below_drewN b9 nq
  clear c0 c1 c3 hlt HHA b9
  obtain ⟨c0, c1, c3, hlt, hh⟩ := HRW.out _ b10
  have HHA : Hid (HoardAt (v9.drewN nq) hb s) := hh
  clear hh
  generalize v9.drewN nq = v10 at *
  go_wp2_with fail
  refine (HM11.out _ HHA.out).mono ?_
  rintro e w11 ⟨rfl, k⟩
  have b11 : Below w.heap.size w w11 := b10.trans (k.mono b10.size)
  clear k c0 c1 c3 hlt HHA b10
  obtain ⟨c0, c1, c3, hlt, hh⟩ := HRW.out _ b11
  have HHA : Hid (HoardAt w11 hb s) := hh
  clear hh
  go_wp2_with fail
  generalize w11 = v11 at *
  go_quiet ((go_at_call 53; exact Calls.quiet_of (HM12.out _ (HHA.out.drewN _))))
  have b12 : Below w.heap.size w (v11.drewN nq) := below_drewN b11 nq
  clear c0 c1 c3 hlt HHA b11
  obtain ⟨c0, c1, c3, hlt, hh⟩ := HRW.out _ b12
  have HHA : Hid (HoardAt (v11.drewN nq) hb s) := hh
  clear hh
  generalize v11.drewN nq = v12 at *
  go_wp2_with fail
  refine (HM13.out _ HHA.out).mono ?_
  rintro e w13 ⟨rfl, k⟩
  have b13 : Below w.heap.size w w13 := b12.trans (k.mono b12.size)
  clear k c0 c1 c3 hlt HHA b12
  obtain ⟨c0, c1, c3, hlt, hh⟩ := HRW.out _ b13
  have HHA : Hid (HoardAt w13 hb s) := hh
  clear hh
  go_wp2_with fail
  generalize w13 = v13 at *
  go_ret
  exact ⟨rfl, b13⟩
set_option maxRecDepth 100000 in
set_option maxHeartbeats 4000000 in
theorem refused_above {w0 : World} (kb bb hb : Nat) (s : St) (f : Nat → Nat) (V : Nat → Value) (lo : Nat → Bool) (bu : Nat → Nat → Bool) (odd : Int) (w : World) (h : KeepAt w0 w kb bb hb s f V lo bu) (hl : ∀ d, d < s.D + s.P → s.lost d = false) (ho : -9223372036854775808 ≤ odd ∧ odd ≤ 9223372036854775807) (hin : ((s.D * s.R * 4 : Nat) : Int) < odd) :
    Calls Try.prog 34 #[.pointer (some ⟨kb, 0, none⟩), .int .i64 odd] w fun e w' => e = .returned (.bool true) ∧ Below w.heap.size w w' := by
  obtain ⟨hs96, hs4⟩ := h.size
  have hD := h.hoard.ok.D4
  have hD1 := h.hoard.ok.D1
  have hP := h.hoard.ok.P2
  have hP1 := h.hoard.ok.P1
  have hR := h.hoard.ok.R6
  have hDR : ((s.D * s.R * 4 : Nat) : Int) = (s.D : Int) * s.R * 4 := by simp
  have HH : Hid (KeepAt w0 w kb bb hb s f V lo bu) := h
  have HLO : Hid (∀ d, d < s.D + s.P → s.lost d = false) := hl
  have HHB : Hid (∀ a n : Int, (a < 0 ∨ n < 0 ∨ (s.D : Int) * s.R * 4 < a ∨ (s.D : Int) * s.R * 4 < a + n) → hasB s a n = false) := fun a n hx => by simp only [hasB, decide_eq_false_iff_not]; omega
  generalize hN : s.D * s.R * 4 = N at *
  have hin2 : (N : Int) < odd := by omega
  clear hin
  obtain ⟨o, hoo⟩ : ∃ o : Int, o = odd := ⟨_, rfl⟩
  subst hoo
  have hob : -9223372036854775808 ≤ o ∧ o ≤ 9223372036854775807 ∧ (o < 0 ∨ (N : Int) < o) := by omega
  have HR1 : Hid (∀ W, HoardAt W hb s → Calls Try.prog 21 #[.pointer (some ⟨hb, 0, none⟩), .int .i64 o, .int .i64 1] W fun e w' => e = .returned (.tuple #[.slice none 0 0, .int .i64 4]) ∧ Below W.heap.size W w') := fun W hW => Read_no hb s o 1 W hW ⟨hob.1, hob.2.1⟩ (HHB.out o 1 (by omega))
  have HR2 : Hid (∀ W, HoardAt W hb s → Calls Try.prog 21 #[.pointer (some ⟨hb, 0, none⟩), .int .i64 1, .int .i64 9223372036854775807] W fun e w' => e = .returned (.tuple #[.slice none 0 0, .int .i64 4]) ∧ Below W.heap.size W w') := fun W hW => Read_no hb s 1 9223372036854775807 W hW (by omega) (HHB.out _ _ (by omega))
  have HR3 : Hid (∀ W, HoardAt W hb s → Calls Try.prog 21 #[.pointer (some ⟨hb, 0, none⟩), .int .i64 0, .int .i64 (-1)] W fun e w' => e = .returned (.tuple #[.slice none 0 0, .int .i64 4]) ∧ Below W.heap.size W w') := fun W hW => Read_no hb s 0 (-1) W hW (by omega) (HHB.out _ _ (by omega))
  have HW4 : Hid (∀ (W : World) (p : Option Addr) (cp : Nat), HoardAt W hb s → Calls Try.prog 22 #[.pointer (some ⟨hb, 0, none⟩), .int .i64 o, .slice p 1 cp] W fun e w' => e = .returned (.int .i64 4) ∧ Below W.heap.size W w') := fun W p cp hW => Write_no hb s o p 1 cp W hW ⟨hob.1, hob.2.1⟩ (HHB.out o 1 (by omega))
  have HW5 : Hid (∀ (W : World) (p : Option Addr) (cp : Nat), HoardAt W hb s → Calls Try.prog 22 #[.pointer (some ⟨hb, 0, none⟩), .int .i64 N, .slice p 1 cp] W fun e w' => e = .returned (.int .i64 4) ∧ Below W.heap.size W w') := fun W p cp hW => Write_no hb s N p 1 cp W hW (by omega) (HHB.out _ _ (by omega))
  have HW6 : Hid (∀ W, HoardAt W hb s → Calls Try.prog 22 #[.pointer (some ⟨hb, 0, none⟩), .int .i64 (-1), .slice none 0 0] W fun e w' => e = .returned (.int .i64 4) ∧ Below W.heap.size W w') := fun W hW => Write_no hb s (-1) none 0 0 W hW (by omega) (HHB.out _ _ (by omega))
  obtain ⟨dn, hdn⟩ : ∃ dn : Nat, s.D + s.P = dn := ⟨_, rfl⟩
  have hwd : IntKind.i64.wrap ((s.D : Int) + (s.P : Int)) = (dn : Int) := by rw [show (s.D : Int) + (s.P : Int) = (dn : Int) by omega]; exact wrap_i64_small _ (by omega) (by omega)
  have HD7 : Hid (∀ W, HoardAt W hb s → Calls Try.prog 14 #[.pointer (some ⟨hb, 0, none⟩), .int .i64 dn] W fun e w' => e = .returned (.tuple #[.agg #[.bool false, .int .i64 0, .int .i64 0], .int .i64 6]) ∧ Below W.heap.size W w') := fun W hW => Drive_no hb s dn W hW (by simp only [isDriveB, decide_eq_false_iff_not]; omega)
  have HC8 : Hid (∀ W, HoardAt W hb s → Calls Try.prog 16 #[.pointer (some ⟨hb, 0, none⟩), .int .i64 (-1), .int .i64 0] W fun e w' => e = .returned (.tuple #[.agg #[.int .u8 0, .int .u8 0, .int .u8 0, .int .u8 0], .int .i64 6]) ∧ Below W.heap.size W w') := fun W hW => Cell_no hb s (-1) 0 W hW (by simp only [isDriveB, decide_eq_false_iff_not]; omega)
  have HC9 : Hid (∀ W, HoardAt W hb s → Calls Try.prog 16 #[.pointer (some ⟨hb, 0, none⟩), .int .i64 0, .int .i64 s.R] W fun e w' => e = .returned (.tuple #[.agg #[.int .u8 0, .int .u8 0, .int .u8 0, .int .u8 0], .int .i64 1]) ∧ Below W.heap.size W w') := fun W hW => Cell_arg hb s 0 s.R W hW (by omega) (by simp only [isRowB, decide_eq_false_iff_not]; omega)
  have hwl : IntKind.i64.wrap ((s.D : Int) - 1) = (s.D : Int) - 1 := wrap_i64_small _ (by omega) (by omega)
  have HL10 : Hid (∀ (W : World) (z : Int), z = (s.D : Int) - 1 → HoardAt W hb s → Calls Try.prog 35 #[.pointer (some ⟨hb, 0, none⟩), .int .i64 z] W fun e w' => e = .returned (.tuple #[.slice none 0 0, .int .i64 6]) ∧ ∃ q, w' = W.drewN q) := fun W z hz hW => Log_noq hb s z W hW (by simp only [isParityB, decide_eq_false_iff_not]; omega)
  have HM11 : Hid (∀ W, HoardAt W hb s → Calls Try.prog 53 #[.pointer (some ⟨hb, 0, none⟩), .int .i64 dn, .int .i64 1] W fun e w' => e = .returned (.tuple #[.int .i64 0, .int .i64 6]) ∧ Below W.heap.size W w') := fun W hW => Merge_no hb s dn 1 W hW (by simp only [isParityB, decide_eq_false_iff_not]; omega)
  have HM12 : Hid (∀ W, HoardAt W hb s → Calls Try.prog 53 #[.pointer (some ⟨hb, 0, none⟩), .int .i64 s.D, .int .i64 0] W fun e w' => e = .returned (.tuple #[.int .i64 0, .int .i64 1]) ∧ ∃ q, w' = W.drewN q) := fun W hW => Merge_argq hb s s.D 0 W hW (by simp only [isParityB, decide_eq_true_eq]; omega) (HLO.out s.D (by omega)) (by omega)
  have HM13 : Hid (∀ W, HoardAt W hb s → Calls Try.prog 53 #[.pointer (some ⟨hb, 0, none⟩), .int .i64 0, .int .i64 1] W fun e w' => e = .returned (.tuple #[.int .i64 0, .int .i64 6]) ∧ Below W.heap.size W w') := fun W hW => Merge_no hb s 0 1 W hW (by simp only [isParityB, decide_eq_false_iff_not]; omega)
  have HRW : Hid (∀ W, Below w.heap.size w W → W.cell? ⟨kb, 0, none⟩ = some (.pointer (some ⟨hb, 0, none⟩)) ∧ W.cell? ⟨kb, 1, none⟩ = some (.int .i64 s.D) ∧ W.cell? ⟨kb, 3, none⟩ = some (.int .i64 s.R) ∧ kb < W.heap.size ∧ HoardAt W hb s) := fun W k => by
    have h1 := HH.out.of_below k
    obtain ⟨c0, c1, _, c3, _⟩ := h1.cells
    exact ⟨c0, c1, c3, h1.row.lt, h1.hoard⟩
  obtain ⟨c0, c1, c2, c3, _, c5, _⟩ := h.cells
  rw [hN] at c5
  have hlt := h.row.lt
  have hNi : (N : Int) ≤ 96 := by omega
  clear h hl hN hdn hDR
  go_enter Try.func34, Try.ntmps34
  go_wp2_with fail
  go_quiet (fail)
  have b0 : Below w.heap.size w (w.drewN nq) := below_drewN (Below.refl _ _) nq
  clear c0 c1 c2 c3 c5 hlt
  generalize w.drewN nq = v0 at *
  obtain ⟨c0, c1, c3, hlt, hh⟩ := HRW.out _ b0
  have HHA : Hid (HoardAt v0 hb s) := hh
  clear hh
  have hi1 : decide (0 ≤ o) = true := by simp only [decide_eq_true_eq]; omega
  have hi2 : decide (o ≤ (N : Int)) = false := by simp only [decide_eq_false_iff_not]; omega
  clear hin2 ho
  go_wp2_with fail
  refine (HR1.out _ HHA.out).mono ?_
  rintro e w1 ⟨rfl, k⟩
  have b1 : Below w.heap.size w w1 := b0.trans (k.mono b0.size)
  clear k c0 c1 c3 hlt HHA b0
  obtain ⟨c0, c1, c3, hlt, hh⟩ := HRW.out _ b1
  have HHA : Hid (HoardAt w1 hb s) := hh
  clear hh
  go_wp2_with fail
  generalize w1 = v1 at *
  refine (HR2.out _ HHA.out).mono ?_
  rintro e w2 ⟨rfl, k⟩
  have b2 : Below w.heap.size w w2 := b1.trans (k.mono b1.size)
  clear k c0 c1 c3 hlt HHA b1
  obtain ⟨c0, c1, c3, hlt, hh⟩ := HRW.out _ b2
  have HHA : Hid (HoardAt w2 hb s) := hh
  clear hh
  go_wp2_with fail
  generalize w2 = v2 at *
  refine (HR3.out _ HHA.out).mono ?_
  rintro e w3 ⟨rfl, k⟩
  have b3 : Below w.heap.size w w3 := b2.trans (k.mono b2.size)
  clear k c0 c1 c3 hlt HHA b2
  obtain ⟨c0, c1, c3, hlt, hh⟩ := HRW.out _ b3
  have HHA : Hid (HoardAt w3 hb s) := hh
  clear hh
  go_wp2_with fail
  generalize w3 = v3 at *
  refine (HW4.out _ _ _ (HHA.out.below (by repeat (first | exact Below.refl _ _ | refine Below.drew ?_ | refine Below.alloc ?_ (by first | omega | (simp <;> omega)) _)))).mono ?_
  rintro e w4 ⟨rfl, k⟩
  have b4 : Below w.heap.size w w4 := b3.trans ((Below.trans (by repeat (first | exact Below.refl _ _ | refine Below.drew ?_ | refine Below.alloc ?_ (by first | omega | (simp <;> omega)) _)) (k.mono (by first | omega | (simp <;> omega))) : Below v3.heap.size v3 w4).mono b3.size)
  clear k c0 c1 c3 hlt HHA b3
  obtain ⟨c0, c1, c3, hlt, hh⟩ := HRW.out _ b4
  have HHA : Hid (HoardAt w4 hb s) := hh
  clear hh
  go_wp2_with fail
  generalize w4 = v4 at *
  refine (HW5.out _ _ _ (HHA.out.below (by repeat (first | exact Below.refl _ _ | refine Below.drew ?_ | refine Below.alloc ?_ (by first | omega | (simp <;> omega)) _)))).mono ?_
  rintro e w5 ⟨rfl, k⟩
  have b5 : Below w.heap.size w w5 := b4.trans ((Below.trans (by repeat (first | exact Below.refl _ _ | refine Below.drew ?_ | refine Below.alloc ?_ (by first | omega | (simp <;> omega)) _)) (k.mono (by first | omega | (simp <;> omega))) : Below v4.heap.size v4 w5).mono b4.size)
  clear k c0 c1 c3 hlt HHA b4
  obtain ⟨c0, c1, c3, hlt, hh⟩ := HRW.out _ b5
  have HHA : Hid (HoardAt w5 hb s) := hh
  clear hh
  go_wp2_with fail
  generalize w5 = v5 at *
  refine (HW6.out _ HHA.out).mono ?_
  rintro e w6 ⟨rfl, k⟩
  have b6 : Below w.heap.size w w6 := b5.trans (k.mono b5.size)
  clear k c0 c1 c3 hlt HHA b5
  obtain ⟨c0, c1, c3, hlt, hh⟩ := HRW.out _ b6
  have HHA : Hid (HoardAt w6 hb s) := hh
  clear hh
  go_wp2_with fail
  generalize w6 = v6 at *
  refine (HD7.out _ HHA.out).mono ?_
  rintro e w7 ⟨rfl, k⟩
  have b7 : Below w.heap.size w w7 := b6.trans (k.mono b6.size)
  clear k c0 c1 c3 hlt HHA b6
  replace b7 : Below w.heap.size w (w7.alloc (.cells #[.bool false, .int .i64 0, .int .i64 0] 42)) := b7.alloc b7.size _
  obtain ⟨c0, c1, c3, hlt, hh⟩ := HRW.out _ b7
  have HHA : Hid (HoardAt (w7.alloc (.cells #[.bool false, .int .i64 0, .int .i64 0] 42)) hb s) := hh
  clear hh
  go_wp2_with fail
  generalize (w7.alloc (.cells #[.bool false, .int .i64 0, .int .i64 0] 42)) = v7 at *
  refine (HC8.out _ HHA.out).mono ?_
  rintro e w8 ⟨rfl, k⟩
  have b8 : Below w.heap.size w w8 := b7.trans (k.mono b7.size)
  clear k c0 c1 c3 hlt HHA b7
  replace b8 : Below w.heap.size w (w8.alloc (.cells #[.int .u8 0, .int .u8 0, .int .u8 0, .int .u8 0] 48)) := b8.alloc b8.size _
  obtain ⟨c0, c1, c3, hlt, hh⟩ := HRW.out _ b8
  have HHA : Hid (HoardAt (w8.alloc (.cells #[.int .u8 0, .int .u8 0, .int .u8 0, .int .u8 0] 48)) hb s) := hh
  clear hh
  go_wp2_with fail
  generalize (w8.alloc (.cells #[.int .u8 0, .int .u8 0, .int .u8 0, .int .u8 0] 48)) = v8 at *
  have hs8 := b8.size
  have HHB8 : Hid (HoardAt (v8.alloc (.cells #[.int .u8 0, .int .u8 0, .int .u8 0, .int .u8 0] 48)) hb s) := HHA.out.below ((Below.refl _ _).alloc (Nat.le_refl _) _)
  have b8a : Hid (Below w.heap.size w (v8.alloc (.cells #[.int .u8 0, .int .u8 0, .int .u8 0, .int .u8 0] 48))) := b8.alloc hs8 _
  go_cut [21, 22] (fun _ s22 wx => s22 = .int .i64 1 ∧ Below w.heap.size w wx)
  case first =>
    go_region_with ((go_at_call 16; go_must (refine (HC9.out _ (by first | exact HHA.out.heap rfl | exact HHB8.out.heap rfl)).mono ?_); rintro e w9 ⟨rfl, k⟩; (try (have hB9 : BoxAt w9 v8.heap.size C4.zero := (BoxAt.new0 v8 _ rfl).below (below_from k rfl rfl rfl rfl); obtain ⟨z0, z1, z2, z3⟩ := hB9.cells; obtain ⟨q0, q1, q2, q3⟩ := hB9.frz; have hzl := hB9.lt; clear hB9)); have b9 : Below w.heap.size w w9 := (by first | exact b8.trans ((below_from (w := v8) k rfl rfl rfl rfl).mono hs8) | exact b8a.out.trans ((below_from (w := v8.alloc (.cells #[.int .u8 0, .int .u8 0, .int .u8 0, .int .u8 0] 48)) k rfl rfl rfl rfl).mono b8a.out.size)); have hs9 := b9.size; clear k))
    all_goals (go_wp2_with fail; go_meet; exact ⟨rfl, (by repeat (first | exact b9 | refine Below.setCell ?_ (by first | omega | (simp <;> omega)) _ | refine Below.drew ?_ | refine Below.alloc ?_ (by first | omega | (simp <;> omega)) _))⟩)
  case rest =>
  obtain ⟨rfl, b9⟩ := hcut
  clear c0 c1 c3 hlt HHA b8 hs8
  obtain ⟨c0, c1, c3, hlt, hh⟩ := HRW.out _ b9
  have HHA : Hid (HoardAt wc hb s) := hh
  clear hh
  go_wp2_with fail
  generalize wc = v9 at *
  go_quiet ((go_at_call 35; exact Calls.quiet_of (HL10.out _ _ (by first | rfl | omega | (rw [hwl])) (HHA.out.drewN _))))
  have b10 : Below w.heap.size w (v9.drewN nq) := below_drewN b9 nq
  clear c0 c1 c3 hlt HHA b9
  obtain ⟨c0, c1, c3, hlt, hh⟩ := HRW.out _ b10
  have HHA : Hid (HoardAt (v9.drewN nq) hb s) := hh
  clear hh
  generalize v9.drewN nq = v10 at *
  go_wp2_with fail
  refine (HM11.out _ HHA.out).mono ?_
  rintro e w11 ⟨rfl, k⟩
  have b11 : Below w.heap.size w w11 := b10.trans (k.mono b10.size)
  clear k c0 c1 c3 hlt HHA b10
  obtain ⟨c0, c1, c3, hlt, hh⟩ := HRW.out _ b11
  have HHA : Hid (HoardAt w11 hb s) := hh
  clear hh
  go_wp2_with fail
  generalize w11 = v11 at *
  go_quiet ((go_at_call 53; exact Calls.quiet_of (HM12.out _ (HHA.out.drewN _))))
  have b12 : Below w.heap.size w (v11.drewN nq) := below_drewN b11 nq
  clear c0 c1 c3 hlt HHA b11
  obtain ⟨c0, c1, c3, hlt, hh⟩ := HRW.out _ b12
  have HHA : Hid (HoardAt (v11.drewN nq) hb s) := hh
  clear hh
  generalize v11.drewN nq = v12 at *
  go_wp2_with fail
  refine (HM13.out _ HHA.out).mono ?_
  rintro e w13 ⟨rfl, k⟩
  have b13 : Below w.heap.size w w13 := b12.trans (k.mono b12.size)
  clear k c0 c1 c3 hlt HHA b12
  obtain ⟨c0, c1, c3, hlt, hh⟩ := HRW.out _ b13
  have HHA : Hid (HoardAt w13 hb s) := hh
  clear hh
  go_wp2_with fail
  generalize w13 = v13 at *
  go_ret
  exact ⟨rfl, b13⟩
set_option maxRecDepth 100000 in
set_option maxHeartbeats 4000000 in
theorem refused_below {w0 : World} (kb bb hb : Nat) (s : St) (f : Nat → Nat) (V : Nat → Value) (lo : Nat → Bool) (bu : Nat → Nat → Bool) (odd : Int) (w : World) (h : KeepAt w0 w kb bb hb s f V lo bu) (hl : ∀ d, d < s.D + s.P → s.lost d = false) (ho : -9223372036854775808 ≤ odd ∧ odd ≤ 9223372036854775807) (hin : odd < 0) :
    Calls Try.prog 34 #[.pointer (some ⟨kb, 0, none⟩), .int .i64 odd] w fun e w' => e = .returned (.bool true) ∧ Below w.heap.size w w' := by
  obtain ⟨hs96, hs4⟩ := h.size
  have hD := h.hoard.ok.D4
  have hD1 := h.hoard.ok.D1
  have hP := h.hoard.ok.P2
  have hP1 := h.hoard.ok.P1
  have hR := h.hoard.ok.R6
  have hDR : ((s.D * s.R * 4 : Nat) : Int) = (s.D : Int) * s.R * 4 := by simp
  have HH : Hid (KeepAt w0 w kb bb hb s f V lo bu) := h
  have HLO : Hid (∀ d, d < s.D + s.P → s.lost d = false) := hl
  have HHB : Hid (∀ a n : Int, (a < 0 ∨ n < 0 ∨ (s.D : Int) * s.R * 4 < a ∨ (s.D : Int) * s.R * 4 < a + n) → hasB s a n = false) := fun a n hx => by simp only [hasB, decide_eq_false_iff_not]; omega
  generalize hN : s.D * s.R * 4 = N at *
  have hin2 : odd < 0 := by omega
  clear hin
  obtain ⟨o, hoo⟩ : ∃ o : Int, o = odd := ⟨_, rfl⟩
  subst hoo
  have hob : -9223372036854775808 ≤ o ∧ o ≤ 9223372036854775807 ∧ (o < 0 ∨ (N : Int) < o) := by omega
  have HR1 : Hid (∀ W, HoardAt W hb s → Calls Try.prog 21 #[.pointer (some ⟨hb, 0, none⟩), .int .i64 o, .int .i64 1] W fun e w' => e = .returned (.tuple #[.slice none 0 0, .int .i64 4]) ∧ Below W.heap.size W w') := fun W hW => Read_no hb s o 1 W hW ⟨hob.1, hob.2.1⟩ (HHB.out o 1 (by omega))
  have HR2 : Hid (∀ W, HoardAt W hb s → Calls Try.prog 21 #[.pointer (some ⟨hb, 0, none⟩), .int .i64 1, .int .i64 9223372036854775807] W fun e w' => e = .returned (.tuple #[.slice none 0 0, .int .i64 4]) ∧ Below W.heap.size W w') := fun W hW => Read_no hb s 1 9223372036854775807 W hW (by omega) (HHB.out _ _ (by omega))
  have HR3 : Hid (∀ W, HoardAt W hb s → Calls Try.prog 21 #[.pointer (some ⟨hb, 0, none⟩), .int .i64 0, .int .i64 (-1)] W fun e w' => e = .returned (.tuple #[.slice none 0 0, .int .i64 4]) ∧ Below W.heap.size W w') := fun W hW => Read_no hb s 0 (-1) W hW (by omega) (HHB.out _ _ (by omega))
  have HW4 : Hid (∀ (W : World) (p : Option Addr) (cp : Nat), HoardAt W hb s → Calls Try.prog 22 #[.pointer (some ⟨hb, 0, none⟩), .int .i64 o, .slice p 1 cp] W fun e w' => e = .returned (.int .i64 4) ∧ Below W.heap.size W w') := fun W p cp hW => Write_no hb s o p 1 cp W hW ⟨hob.1, hob.2.1⟩ (HHB.out o 1 (by omega))
  have HW5 : Hid (∀ (W : World) (p : Option Addr) (cp : Nat), HoardAt W hb s → Calls Try.prog 22 #[.pointer (some ⟨hb, 0, none⟩), .int .i64 N, .slice p 1 cp] W fun e w' => e = .returned (.int .i64 4) ∧ Below W.heap.size W w') := fun W p cp hW => Write_no hb s N p 1 cp W hW (by omega) (HHB.out _ _ (by omega))
  have HW6 : Hid (∀ W, HoardAt W hb s → Calls Try.prog 22 #[.pointer (some ⟨hb, 0, none⟩), .int .i64 (-1), .slice none 0 0] W fun e w' => e = .returned (.int .i64 4) ∧ Below W.heap.size W w') := fun W hW => Write_no hb s (-1) none 0 0 W hW (by omega) (HHB.out _ _ (by omega))
  obtain ⟨dn, hdn⟩ : ∃ dn : Nat, s.D + s.P = dn := ⟨_, rfl⟩
  have hwd : IntKind.i64.wrap ((s.D : Int) + (s.P : Int)) = (dn : Int) := by rw [show (s.D : Int) + (s.P : Int) = (dn : Int) by omega]; exact wrap_i64_small _ (by omega) (by omega)
  have HD7 : Hid (∀ W, HoardAt W hb s → Calls Try.prog 14 #[.pointer (some ⟨hb, 0, none⟩), .int .i64 dn] W fun e w' => e = .returned (.tuple #[.agg #[.bool false, .int .i64 0, .int .i64 0], .int .i64 6]) ∧ Below W.heap.size W w') := fun W hW => Drive_no hb s dn W hW (by simp only [isDriveB, decide_eq_false_iff_not]; omega)
  have HC8 : Hid (∀ W, HoardAt W hb s → Calls Try.prog 16 #[.pointer (some ⟨hb, 0, none⟩), .int .i64 (-1), .int .i64 0] W fun e w' => e = .returned (.tuple #[.agg #[.int .u8 0, .int .u8 0, .int .u8 0, .int .u8 0], .int .i64 6]) ∧ Below W.heap.size W w') := fun W hW => Cell_no hb s (-1) 0 W hW (by simp only [isDriveB, decide_eq_false_iff_not]; omega)
  have HC9 : Hid (∀ W, HoardAt W hb s → Calls Try.prog 16 #[.pointer (some ⟨hb, 0, none⟩), .int .i64 0, .int .i64 s.R] W fun e w' => e = .returned (.tuple #[.agg #[.int .u8 0, .int .u8 0, .int .u8 0, .int .u8 0], .int .i64 1]) ∧ Below W.heap.size W w') := fun W hW => Cell_arg hb s 0 s.R W hW (by omega) (by simp only [isRowB, decide_eq_false_iff_not]; omega)
  have hwl : IntKind.i64.wrap ((s.D : Int) - 1) = (s.D : Int) - 1 := wrap_i64_small _ (by omega) (by omega)
  have HL10 : Hid (∀ (W : World) (z : Int), z = (s.D : Int) - 1 → HoardAt W hb s → Calls Try.prog 35 #[.pointer (some ⟨hb, 0, none⟩), .int .i64 z] W fun e w' => e = .returned (.tuple #[.slice none 0 0, .int .i64 6]) ∧ ∃ q, w' = W.drewN q) := fun W z hz hW => Log_noq hb s z W hW (by simp only [isParityB, decide_eq_false_iff_not]; omega)
  have HM11 : Hid (∀ W, HoardAt W hb s → Calls Try.prog 53 #[.pointer (some ⟨hb, 0, none⟩), .int .i64 dn, .int .i64 1] W fun e w' => e = .returned (.tuple #[.int .i64 0, .int .i64 6]) ∧ Below W.heap.size W w') := fun W hW => Merge_no hb s dn 1 W hW (by simp only [isParityB, decide_eq_false_iff_not]; omega)
  have HM12 : Hid (∀ W, HoardAt W hb s → Calls Try.prog 53 #[.pointer (some ⟨hb, 0, none⟩), .int .i64 s.D, .int .i64 0] W fun e w' => e = .returned (.tuple #[.int .i64 0, .int .i64 1]) ∧ ∃ q, w' = W.drewN q) := fun W hW => Merge_argq hb s s.D 0 W hW (by simp only [isParityB, decide_eq_true_eq]; omega) (HLO.out s.D (by omega)) (by omega)
  have HM13 : Hid (∀ W, HoardAt W hb s → Calls Try.prog 53 #[.pointer (some ⟨hb, 0, none⟩), .int .i64 0, .int .i64 1] W fun e w' => e = .returned (.tuple #[.int .i64 0, .int .i64 6]) ∧ Below W.heap.size W w') := fun W hW => Merge_no hb s 0 1 W hW (by simp only [isParityB, decide_eq_false_iff_not]; omega)
  have HRW : Hid (∀ W, Below w.heap.size w W → W.cell? ⟨kb, 0, none⟩ = some (.pointer (some ⟨hb, 0, none⟩)) ∧ W.cell? ⟨kb, 1, none⟩ = some (.int .i64 s.D) ∧ W.cell? ⟨kb, 3, none⟩ = some (.int .i64 s.R) ∧ kb < W.heap.size ∧ HoardAt W hb s) := fun W k => by
    have h1 := HH.out.of_below k
    obtain ⟨c0, c1, _, c3, _⟩ := h1.cells
    exact ⟨c0, c1, c3, h1.row.lt, h1.hoard⟩
  obtain ⟨c0, c1, c2, c3, _, c5, _⟩ := h.cells
  rw [hN] at c5
  have hlt := h.row.lt
  have hNi : (N : Int) ≤ 96 := by omega
  clear h hl hN hdn hDR
  go_enter Try.func34, Try.ntmps34
  go_wp2_with fail
  go_quiet (fail)
  have b0 : Below w.heap.size w (w.drewN nq) := below_drewN (Below.refl _ _) nq
  clear c0 c1 c2 c3 c5 hlt
  generalize w.drewN nq = v0 at *
  obtain ⟨c0, c1, c3, hlt, hh⟩ := HRW.out _ b0
  have HHA : Hid (HoardAt v0 hb s) := hh
  clear hh
  have hi1 : decide (0 ≤ o) = false := by simp only [decide_eq_false_iff_not]; omega
  clear hin2 ho
  go_wp2_with fail
  refine (HR1.out _ HHA.out).mono ?_
  rintro e w1 ⟨rfl, k⟩
  have b1 : Below w.heap.size w w1 := b0.trans (k.mono b0.size)
  clear k c0 c1 c3 hlt HHA b0
  obtain ⟨c0, c1, c3, hlt, hh⟩ := HRW.out _ b1
  have HHA : Hid (HoardAt w1 hb s) := hh
  clear hh
  go_wp2_with fail
  generalize w1 = v1 at *
  refine (HR2.out _ HHA.out).mono ?_
  rintro e w2 ⟨rfl, k⟩
  have b2 : Below w.heap.size w w2 := b1.trans (k.mono b1.size)
  clear k c0 c1 c3 hlt HHA b1
  obtain ⟨c0, c1, c3, hlt, hh⟩ := HRW.out _ b2
  have HHA : Hid (HoardAt w2 hb s) := hh
  clear hh
  go_wp2_with fail
  generalize w2 = v2 at *
  refine (HR3.out _ HHA.out).mono ?_
  rintro e w3 ⟨rfl, k⟩
  have b3 : Below w.heap.size w w3 := b2.trans (k.mono b2.size)
  clear k c0 c1 c3 hlt HHA b2
  obtain ⟨c0, c1, c3, hlt, hh⟩ := HRW.out _ b3
  have HHA : Hid (HoardAt w3 hb s) := hh
  clear hh
  go_wp2_with fail
  generalize w3 = v3 at *
  refine (HW4.out _ _ _ (HHA.out.below (by repeat (first | exact Below.refl _ _ | refine Below.drew ?_ | refine Below.alloc ?_ (by first | omega | (simp <;> omega)) _)))).mono ?_
  rintro e w4 ⟨rfl, k⟩
  have b4 : Below w.heap.size w w4 := b3.trans ((Below.trans (by repeat (first | exact Below.refl _ _ | refine Below.drew ?_ | refine Below.alloc ?_ (by first | omega | (simp <;> omega)) _)) (k.mono (by first | omega | (simp <;> omega))) : Below v3.heap.size v3 w4).mono b3.size)
  clear k c0 c1 c3 hlt HHA b3
  obtain ⟨c0, c1, c3, hlt, hh⟩ := HRW.out _ b4
  have HHA : Hid (HoardAt w4 hb s) := hh
  clear hh
  go_wp2_with fail
  generalize w4 = v4 at *
  refine (HW5.out _ _ _ (HHA.out.below (by repeat (first | exact Below.refl _ _ | refine Below.drew ?_ | refine Below.alloc ?_ (by first | omega | (simp <;> omega)) _)))).mono ?_
  rintro e w5 ⟨rfl, k⟩
  have b5 : Below w.heap.size w w5 := b4.trans ((Below.trans (by repeat (first | exact Below.refl _ _ | refine Below.drew ?_ | refine Below.alloc ?_ (by first | omega | (simp <;> omega)) _)) (k.mono (by first | omega | (simp <;> omega))) : Below v4.heap.size v4 w5).mono b4.size)
  clear k c0 c1 c3 hlt HHA b4
  obtain ⟨c0, c1, c3, hlt, hh⟩ := HRW.out _ b5
  have HHA : Hid (HoardAt w5 hb s) := hh
  clear hh
  go_wp2_with fail
  generalize w5 = v5 at *
  refine (HW6.out _ HHA.out).mono ?_
  rintro e w6 ⟨rfl, k⟩
  have b6 : Below w.heap.size w w6 := b5.trans (k.mono b5.size)
  clear k c0 c1 c3 hlt HHA b5
  obtain ⟨c0, c1, c3, hlt, hh⟩ := HRW.out _ b6
  have HHA : Hid (HoardAt w6 hb s) := hh
  clear hh
  go_wp2_with fail
  generalize w6 = v6 at *
  refine (HD7.out _ HHA.out).mono ?_
  rintro e w7 ⟨rfl, k⟩
  have b7 : Below w.heap.size w w7 := b6.trans (k.mono b6.size)
  clear k c0 c1 c3 hlt HHA b6
  replace b7 : Below w.heap.size w (w7.alloc (.cells #[.bool false, .int .i64 0, .int .i64 0] 42)) := b7.alloc b7.size _
  obtain ⟨c0, c1, c3, hlt, hh⟩ := HRW.out _ b7
  have HHA : Hid (HoardAt (w7.alloc (.cells #[.bool false, .int .i64 0, .int .i64 0] 42)) hb s) := hh
  clear hh
  go_wp2_with fail
  generalize (w7.alloc (.cells #[.bool false, .int .i64 0, .int .i64 0] 42)) = v7 at *
  refine (HC8.out _ HHA.out).mono ?_
  rintro e w8 ⟨rfl, k⟩
  have b8 : Below w.heap.size w w8 := b7.trans (k.mono b7.size)
  clear k c0 c1 c3 hlt HHA b7
  replace b8 : Below w.heap.size w (w8.alloc (.cells #[.int .u8 0, .int .u8 0, .int .u8 0, .int .u8 0] 48)) := b8.alloc b8.size _
  obtain ⟨c0, c1, c3, hlt, hh⟩ := HRW.out _ b8
  have HHA : Hid (HoardAt (w8.alloc (.cells #[.int .u8 0, .int .u8 0, .int .u8 0, .int .u8 0] 48)) hb s) := hh
  clear hh
  go_wp2_with fail
  generalize (w8.alloc (.cells #[.int .u8 0, .int .u8 0, .int .u8 0, .int .u8 0] 48)) = v8 at *
  have hs8 := b8.size
  have HHB8 : Hid (HoardAt (v8.alloc (.cells #[.int .u8 0, .int .u8 0, .int .u8 0, .int .u8 0] 48)) hb s) := HHA.out.below ((Below.refl _ _).alloc (Nat.le_refl _) _)
  have b8a : Hid (Below w.heap.size w (v8.alloc (.cells #[.int .u8 0, .int .u8 0, .int .u8 0, .int .u8 0] 48))) := b8.alloc hs8 _
  go_cut [21, 22] (fun _ s22 wx => s22 = .int .i64 1 ∧ Below w.heap.size w wx)
  case first =>
    go_region_with ((go_at_call 16; go_must (refine (HC9.out _ (by first | exact HHA.out.heap rfl | exact HHB8.out.heap rfl)).mono ?_); rintro e w9 ⟨rfl, k⟩; (try (have hB9 : BoxAt w9 v8.heap.size C4.zero := (BoxAt.new0 v8 _ rfl).below (below_from k rfl rfl rfl rfl); obtain ⟨z0, z1, z2, z3⟩ := hB9.cells; obtain ⟨q0, q1, q2, q3⟩ := hB9.frz; have hzl := hB9.lt; clear hB9)); have b9 : Below w.heap.size w w9 := (by first | exact b8.trans ((below_from (w := v8) k rfl rfl rfl rfl).mono hs8) | exact b8a.out.trans ((below_from (w := v8.alloc (.cells #[.int .u8 0, .int .u8 0, .int .u8 0, .int .u8 0] 48)) k rfl rfl rfl rfl).mono b8a.out.size)); have hs9 := b9.size; clear k))
    all_goals (go_wp2_with fail; go_meet; exact ⟨rfl, (by repeat (first | exact b9 | refine Below.setCell ?_ (by first | omega | (simp <;> omega)) _ | refine Below.drew ?_ | refine Below.alloc ?_ (by first | omega | (simp <;> omega)) _))⟩)
  case rest =>
  obtain ⟨rfl, b9⟩ := hcut
  clear c0 c1 c3 hlt HHA b8 hs8
  obtain ⟨c0, c1, c3, hlt, hh⟩ := HRW.out _ b9
  have HHA : Hid (HoardAt wc hb s) := hh
  clear hh
  go_wp2_with fail
  generalize wc = v9 at *
  go_quiet ((go_at_call 35; exact Calls.quiet_of (HL10.out _ _ (by first | rfl | omega | (rw [hwl])) (HHA.out.drewN _))))
  have b10 : Below w.heap.size w (v9.drewN nq) := below_drewN b9 nq
  clear c0 c1 c3 hlt HHA b9
  obtain ⟨c0, c1, c3, hlt, hh⟩ := HRW.out _ b10
  have HHA : Hid (HoardAt (v9.drewN nq) hb s) := hh
  clear hh
  generalize v9.drewN nq = v10 at *
  go_wp2_with fail
  refine (HM11.out _ HHA.out).mono ?_
  rintro e w11 ⟨rfl, k⟩
  have b11 : Below w.heap.size w w11 := b10.trans (k.mono b10.size)
  clear k c0 c1 c3 hlt HHA b10
  obtain ⟨c0, c1, c3, hlt, hh⟩ := HRW.out _ b11
  have HHA : Hid (HoardAt w11 hb s) := hh
  clear hh
  go_wp2_with fail
  generalize w11 = v11 at *
  go_quiet ((go_at_call 53; exact Calls.quiet_of (HM12.out _ (HHA.out.drewN _))))
  have b12 : Below w.heap.size w (v11.drewN nq) := below_drewN b11 nq
  clear c0 c1 c3 hlt HHA b11
  obtain ⟨c0, c1, c3, hlt, hh⟩ := HRW.out _ b12
  have HHA : Hid (HoardAt (v11.drewN nq) hb s) := hh
  clear hh
  generalize v11.drewN nq = v12 at *
  go_wp2_with fail
  refine (HM13.out _ HHA.out).mono ?_
  rintro e w13 ⟨rfl, k⟩
  have b13 : Below w.heap.size w w13 := b12.trans (k.mono b12.size)
  clear k c0 c1 c3 hlt HHA b12
  obtain ⟨c0, c1, c3, hlt, hh⟩ := HRW.out _ b13
  have HHA : Hid (HoardAt w13 hb s) := hh
  clear hh
  go_wp2_with fail
  generalize w13 = v13 at *
  go_ret
  exact ⟨rfl, b13⟩
theorem refused_any {w0 : World} (kb bb hb : Nat) (s : St) (f : Nat → Nat) (V : Nat → Value) (lo : Nat → Bool) (bu : Nat → Nat → Bool) (odd : Int) (w : World) (h : KeepAt w0 w kb bb hb s f V lo bu) (hl : ∀ d, d < s.D + s.P → s.lost d = false) (ho : -9223372036854775808 ≤ odd ∧ odd ≤ 9223372036854775807) :
    Calls Try.prog 34 #[.pointer (some ⟨kb, 0, none⟩), .int .i64 odd] w fun e w' => e = .returned (.bool true) ∧ Below w.heap.size w w' := by
  by_cases h1 : odd < 0
  · exact refused_below kb bb hb s f V lo bu odd w h hl ho h1
  · by_cases h2 : odd ≤ ((s.D * s.R * 4 : Nat) : Int)
    · exact refused_in kb bb hb s f V lo bu odd w h hl ho ⟨by omega, h2⟩
    · exact refused_above kb bb hb s f V lo bu odd w h hl ho (by omega)
end Go.Proofs.Ytfpoiikhhjdpdab
