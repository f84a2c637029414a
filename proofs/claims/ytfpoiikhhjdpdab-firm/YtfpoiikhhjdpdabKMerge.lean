/- hoardkeep: records are merged. -/
import Derived.Test.YtfpoiikhhjdpdabPure
namespace Go.Proofs.Ytfpoiikhhjdpdab
open Go.RowKit
set_option linter.unusedVariables false
attribute [local go_sem ↓] Go.wp_at_zero Go.wp_at_succ
set_option maxRecDepth 100000 in
set_option maxHeartbeats 2000000 in
theorem kmerge_foot {w0 : World} (kb bb hb : Nat) (s : St) (f : Nat → Nat) (V : Nat → Value) (lo : Nat → Bool) (bu : Nat → Nat → Bool) (p n : Int) (w : World) (h : KeepAt w0 w kb bb hb s f V lo bu) (hi : KInv s f lo bu) (hp : -9223372036854775808 ≤ p ∧ p ≤ 9223372036854775807) (hn : -9223372036854775808 ≤ n ∧ n ≤ 9223372036854775807) :
    Calls Try.prog 38 #[.pointer (some ⟨kb, 0, none⟩), .int .i64 p, .int .i64 n] w fun e w' => e = .returned (.bool true) ∧ ∃ s' : St, KInv s' f lo bu ∧ s'.steps = s.steps ∧ SameAb s s' ∧ KeepAt w0 w' kb bb hb s' f V lo bu ∧ Kept (KFoot kb bb hb s V) w w' ∧ (∀ k, Foot hb s' k → Foot hb s k ∨ w.heap.size ≤ k) ∧ (lo (s.D + pickN p s.P) = false → s'.toAb = abMerge s.toAb (s.D + pickN p s.P) (1 + pickN n 10)) := by
  have hD := h.hoard.ok.D4
  have hP := h.hoard.ok.P2
  have hP1 := h.hoard.ok.P1
  have hM8 := h.hoard.ok.M8
  have p1 := pickN_lt p s.P (by omega)
  have p2 := pickN_lt n 10 (by omega)
  have A : Hid (∀ W, Calls Try.prog 11 #[.int .i64 p, .int .i64 s.P] W fun e w' => e = .returned (.int .i64 (pickN p s.P : Nat)) ∧ w' = W) := fun W => kpick_any p s.P W (by omega) (by omega) hp
  have B : Hid (∀ W, Calls Try.prog 11 #[.int .i64 n, .int .i64 10] W fun e w' => e = .returned (.int .i64 (pickN n 10 : Nat)) ∧ w' = W) := fun W => kpick_any n 10 W (by omega) (by omega) hn
  have HK : Hid (KeepAt w0 w kb bb hb s f V lo bu) := h
  have HI : Hid (KInv s f lo bu) := hi
  obtain ⟨c0, c1, c2, c3, c4, c5, c6, c7⟩ := h.cells
  have hlt := h.row.lt
  generalize pickN p s.P = x at *
  generalize pickN n 10 = y at *
  obtain ⟨g0, q0, e0, l0, _, hg0⟩ := h.lostAt (s.D + x) (by omega)
  rw [e0] at c6
  have E0 : Hid (V 0 = .slice (some ⟨g0, 0, none⟩) (s.D + s.P) q0) := e0
  have hlo : s.lost (s.D + x) = lo (s.D + x) := hi.lost _ (by omega)
  have HPAR : Hid (isParityB s ((s.D + x : Nat) : Int) = true) := (show _ = _ by simp only [isParityB, decide_eq_true_eq]; omega)
  have hlen := h.hoard.ok.len (s.D + x)
  clear h hi e0 hp hn
  generalize hdd : s.D + x = dd at *
  have hddi : (dd : Int) < (s.D : Int) + s.P := by omega
  have hdd6 : dd < s.D + s.P := by omega
  have hdx : (s.D : Int) + x = (dd : Int) := by omega
  have hddg : s.D ≤ dd := by omega
  clear hdd
  cases hl : lo dd
  · rw [hl] at hlo l0
    have HMG : Hid (∀ W, HoardAt W hb s → Calls Try.prog 53 #[.pointer (some ⟨hb, 0, none⟩), .int .i64 dd, .int .i64 (1 + (y : Int))] W fun e w' => ∃ s', e = .returned (.tuple #[.int .i64 (min (1 + y) (s.recs dd).length : Nat), .int .i64 0]) ∧ s'.toAb = abMerge s.toAb dd (1 + y) ∧ Went hb s W s' w') := fun W hW => by
      have h1 := Merge_ok hb s dd (1 + y) W hW HPAR.out hlo (by omega) (by omega)
      rw [show ((1 + y : Nat) : Int) = 1 + (y : Int) by omega] at h1
      exact h1
    have hm1 : min (1 + y) (s.recs dd).length ≤ 1 + y := by omega
    have hm2 : min (1 + y) (s.recs dd).length ≤ s.M := by omega
    generalize min (1 + y) (s.recs dd).length = mm at *
    have hm1i : (mm : Int) ≤ 1 + (y : Int) := by omega
    have hm2i : (mm : Int) ≤ (s.M : Int) := by omega
    clear hlen
    go_enter Try.func38, Try.ntmps38
    go_wp2_with fail
    go_region_with ((go_at_call 11; go_must (refine (A.out _).mono ?_); rintro e W ⟨rfl, rfl⟩))
    all_goals
      go_wp2_with ((go_at_call 11; go_must (refine (B.out _).mono ?_); rintro e W ⟨rfl, rfl⟩))
      refine (HMG.out _ (HK.out.hoard.heap (by rfl))).mono ?_
      rintro e w2 ⟨s2, rfl, hab, hwent⟩
      have k0 : KeepAt w0 w.drew kb bb hb s f V lo bu := HK.out.of_below (Below.refl _ _).drew
      have hI2 : KInv s2 f lo bu := by rw [hab]; exact HI.out.merge dd (1 + y) hddg
      have hp2 := apply_props s.toAb dd ((s.recs dd).take (1 + y))
      have i1 : s2.D = s.D := by show s2.toAb.D = _; rw [hab]; exact hp2.1.D
      have i2 : s2.P = s.P := by show s2.toAb.P = _; rw [hab]; exact hp2.1.P
      have i3 : s2.R = s.R := by show s2.toAb.R = _; rw [hab]; exact hp2.1.R
      have i4 : s2.M = s.M := by show s2.toAb.M = _; rw [hab]; exact hp2.1.M
      have i5 : s2.steps = s.steps := by show s2.toAb.steps = _; rw [hab]; exact hp2.2.2.2.2
      have i6 : s2.brk = s.brk := hwent.brk
      have hK2 := k0.went hwent i1 i2 i3 i4
      have hkp : Kept (KFoot kb bb hb s V) w w2 := ((Kept.refl _ _).drew).trans' hwent.kept (fun i hi => .inl (.inr (.inr (.inl hi))))
      obtain ⟨_, _, _, _, d4, _, d6, _⟩ := hK2.cells
      obtain ⟨g1, q1, e1, l1, _, hg1⟩ := hK2.lostAt dd (by rw [i1, i2]; exact hdd6)
      rw [e1] at d6
      rw [hl] at l1
      rw [i4] at d4
      rw [i1, i2] at d6
      have hltk := hK2.row.lt
      have HF : Hid (∃ s' : St, KInv s' f lo bu ∧ s'.steps = s.steps ∧ SameAb s s' ∧ KeepAt w0 w2 kb bb hb s' f V lo bu ∧ Kept (KFoot kb bb hb s V) w w2 ∧ (∀ k, Foot hb s' k → Foot hb s k ∨ w.heap.size ≤ k) ∧ (lo dd = false → s'.toAb = abMerge s.toAb dd (1 + y))) := ⟨s2, hI2, i5, ⟨i1, i2, i3, i4, i6⟩, hK2, hkp, hwent.foot, fun _ => hab⟩
      have hdpi : (dd : Int) < ((s.D + s.P : Nat) : Int) := by omega
      clear k0 hI2 hp2 i1 i2 i3 i4 i5 i6 hK2 hkp hwent hab c0 c1 c2 c3 c4 c5 c6 c7 l0 e1
      generalize s.D + s.P = DP at *
      go_wp2_with fail
      go_ret
      obtain ⟨s', g1, g2, g3, g4, g5, g6, g7⟩ := HF.out
      exact ⟨rfl, s', g1, g2, g3, g4, g5, g6, fun _ => g7 hl⟩
  · rw [hl] at hlo l0
    have HMG : Hid (∀ W, HoardAt W hb s → Calls Try.prog 53 #[.pointer (some ⟨hb, 0, none⟩), .int .i64 dd, .int .i64 (1 + (y : Int))] W fun e w' => e = .returned (.tuple #[.int .i64 0, .int .i64 7]) ∧ Below W.heap.size W w') := fun W hW => Merge_lost hb s dd _ W hW HPAR.out hlo
    clear hlen
    go_enter Try.func38, Try.ntmps38
    go_wp2_with fail
    go_region_with ((go_at_call 11; go_must (refine (A.out _).mono ?_); rintro e W ⟨rfl, rfl⟩))
    all_goals
      go_wp2_with ((go_at_call 11; go_must (refine (B.out _).mono ?_); rintro e W ⟨rfl, rfl⟩))
      refine (HMG.out _ (HK.out.hoard.heap (by rfl))).mono ?_
      rintro e w2 ⟨rfl, k2⟩
      have K2 : Below w.heap.size w w2 := below_from k2 rfl rfl rfl rfl
      have hK2 := HK.out.of_below K2
      obtain ⟨_, _, _, _, _, _, d6, _⟩ := hK2.cells
      obtain ⟨g1, q1, e1, l1, _, hg1⟩ := hK2.lostAt dd hdd6
      rw [e1] at d6
      rw [hl] at l1
      have hltk := hK2.row.lt
      have HF : Hid (∃ s' : St, KInv s' f lo bu ∧ s'.steps = s.steps ∧ SameAb s s' ∧ KeepAt w0 w2 kb bb hb s' f V lo bu ∧ Kept (KFoot kb bb hb s V) w w2 ∧ (∀ k, Foot hb s' k → Foot hb s k ∨ w.heap.size ≤ k) ∧ (lo dd = false → s'.toAb = abMerge s.toAb dd (1 + y))) := ⟨s, HI.out, rfl, SameAb.refl _, hK2, Kept.of_below K2, fun _ hk => .inl hk, fun hx => by rw [hl] at hx; cases hx⟩
      have hdpi : (dd : Int) < ((s.D + s.P : Nat) : Int) := by omega
      clear hK2 c0 c1 c2 c3 c4 c5 c6 c7 l0 e1 k2
      generalize s.D + s.P = DP at *
      go_wp2_with fail
      go_ret
      obtain ⟨s', g1, g2, g3, g4, g5, g6, _⟩ := HF.out
      exact ⟨rfl, s', g1, g2, g3, g4, g5, g6, fun hx => by cases hx⟩
theorem kmerge_any {w0 : World} (kb bb hb : Nat) (s : St) (f : Nat → Nat) (V : Nat → Value) (lo : Nat → Bool) (bu : Nat → Nat → Bool) (p n : Int) (w : World) (h : KeepAt w0 w kb bb hb s f V lo bu) (hi : KInv s f lo bu) (hp : -9223372036854775808 ≤ p ∧ p ≤ 9223372036854775807) (hn : -9223372036854775808 ≤ n ∧ n ≤ 9223372036854775807) :
    Calls Try.prog 38 #[.pointer (some ⟨kb, 0, none⟩), .int .i64 p, .int .i64 n] w fun e w' => e = .returned (.bool true) ∧ ∃ s' : St, KInv s' f lo bu ∧ s'.steps = s.steps ∧ SameAb s s' ∧ KeepAt w0 w' kb bb hb s' f V lo bu ∧ Kept (KFoot kb bb hb s V) w w' :=
  (kmerge_foot kb bb hb s f V lo bu p n w h hi hp hn).mono fun _ _ ⟨h1, s', h2, h3, h4, h5, h6, _⟩ => ⟨h1, s', h2, h3, h4, h5, h6⟩
end Go.Proofs.Ytfpoiikhhjdpdab
