/- hoardkeep: cells are rebuilt. -/
import Derived.Test.YtfpoiikhhjdpdabPure
namespace Go.Proofs.Ytfpoiikhhjdpdab
open Go.RowKit
set_option linter.unusedVariables false
attribute [local go_sem ↓] Go.wp_at_zero Go.wp_at_succ
def buR (bu : Nat → Nat → Bool) (d n : Nat) : Nat → (Nat → Nat → Bool) × Nat
  | 0 => (bu, 0)
  | k + 1 => if (buR bu d n k).2 < n then (setBu (buR bu d n k).1 d k true, (buR bu d n k).2 + if (buR bu d n k).1 d k then 0 else 1) else buR bu d n k
theorem buR_le (bu : Nat → Nat → Bool) (d n k : Nat) : (buR bu d n k).2 ≤ k := by
  induction k with
  | zero => exact Nat.le_refl _
  | succ k ih =>
    simp only [buR]
    split
    · simp only; split <;> omega
    · omega
theorem buR_stop (bu : Nat → Nat → Bool) (d n k j : Nat) (h : ¬ (buR bu d n k).2 < n) : buR bu d n (k + j) = buR bu d n k := by
  induction j with
  | zero => rfl
  | succ j ih =>
    rw [show k + (j + 1) = (k + j) + 1 by omega]
    simp only [buR]
    rw [ih, if_neg h]
theorem setBu_same (bu : Nat → Nat → Bool) (d r : Nat) (h : bu d r = true) : setBu bu d r true = bu := by
  funext d' r'
  unfold setBu
  split
  · rename_i e; rw [e.1, e.2, h]
  · rfl
theorem KInv.run {s : St} {f : Nat → Nat} {lo : Nat → Bool} {bu : Nat → Nat → Bool} (h : KInv s f lo bu) (d n : Nat) (hd : d < s.D + s.P) (hl : lo d = false) (k : Nat) (hk : k ≤ s.R) : KInv (rbRun s d n k).1 f lo (buR bu d n k).1 ∧ (rbRun s d n k).2 = (buR bu d n k).2 := by
  induction k with
  | zero => exact ⟨h, rfl⟩
  | succ k ih =>
    obtain ⟨i1, i2⟩ := ih (by omega)
    have hsh := rbRun_shape s d n k
    have hst := i1.step d k (by rw [hsh.D, hsh.P]; exact hd) (by rw [hsh.R]; omega) hl
    simp only [rbRun, buR]
    by_cases hc : (buR bu d n k).2 < n
    · rw [if_pos hc, if_pos (by rw [i2]; omega)]
      refine ⟨hst.2, ?_⟩
      simp only
      rw [hst.1, i2]
      cases (buR bu d n k).1 d k <;> rfl
    · rw [if_neg hc, if_neg (by rw [i2]; omega)]
      exact ⟨i1, i2⟩
theorem rbS_steps (s : St) (d r : Nat) : (rbS s d r).steps = s.steps := by unfold rbS; split <;> rfl
theorem rbRun_steps (s : St) (d : Nat) (n : Int) (k : Nat) : (rbRun s d n k).1.steps = s.steps := by
  induction k with
  | zero => rfl
  | succ k ih =>
    simp only [rbRun]
    split
    · simp only; rw [rbS_steps, ih]
    · exact ih
set_option maxRecDepth 100000 in
set_option maxHeartbeats 4000000 in
theorem krebuild_any {w0 : World} (kb bb hb : Nat) (s : St) (f : Nat → Nat) (V : Nat → Value) (lo : Nat → Bool) (bu : Nat → Nat → Bool) (d n : Nat) (w : World) (h : KeepAt w0 w kb bb hb s f V lo bu) (hi : KInv s f lo bu) (hd : d < s.D + s.P) (hn : 1 ≤ n) (hn8 : n ≤ 8) :
    Calls Try.prog 63 #[.pointer (some ⟨kb, 0, none⟩), .int .i64 d, .int .i64 n] w fun e w' => e = .returned (.bool true) ∧ ∃ (s' : St) (bu' : Nat → Nat → Bool), KInv s' f lo bu' ∧ s'.steps = s.steps ∧ SameAb s s' ∧ KeepAt w0 w' kb bb hb s' f V lo bu' ∧ Kept (KFoot kb bb hb s V) w w' := by
  have hD := h.hoard.ok.D4
  have hP := h.hoard.ok.P2
  have hR := h.hoard.ok.R6
  have HK : Hid (KeepAt w0 w kb bb hb s f V lo bu) := h
  have HI : Hid (KInv s f lo bu) := hi
  obtain ⟨c0, c1, c2, c3, c4, c5, c6, c7⟩ := h.cells
  have hlt := h.row.lt
  have hlo : s.lost d = lo d := hi.lost d hd
  have hdi : (d : Int) < ((s.D + s.P : Nat) : Int) := by omega
  clear h
  cases hl : lo d
  · rw [hl] at hlo
    have HRB : Hid (∀ W, HoardAt W hb s → Calls Try.prog 15 #[.pointer (some ⟨hb, 0, none⟩), .int .i64 d, .int .i64 n] W fun e w' => e = .returned (.tuple #[.int .i64 ((rbRun s d n s.R).2 : Nat), .int .i64 0]) ∧ Went hb s W (rbRun s d n s.R).1 w') := fun W hW => Rebuild_ok hb s d n W hW hd hlo (by omega) (by omega)
    have HRUN : Hid (KInv (rbRun s d n s.R).1 f lo (buR bu d n s.R).1 ∧ (rbRun s d n s.R).2 = (buR bu d n s.R).2) := hi.run d n hd hl s.R (Nat.le_refl _)
    have HSH : Hid (SameShape s (rbRun s d n s.R).1) := rbRun_shape s d n s.R
    have HST : Hid ((rbRun s d n s.R).1.steps = s.steps) := rbRun_steps s d n s.R
    have HBR : Hid ((rbRun s d n s.R).1.brk = s.brk) := (rbRun_aux s d n s.R).2
    have hrl := rbRun_le s d n s.R
    clear hi
    generalize hs2 : (rbRun s d n s.R).1 = s2 at *
    generalize hkn : (rbRun s d n s.R).2 = kn at *
    clear hs2 hkn
    go_enter Try.func63, Try.ntmps63
    go_wp2_with fail
    refine (HRB.out _ HK.out.hoard).mono ?_
    rintro e w2 ⟨rfl, hwent⟩
    have hK2 := HK.out.went hwent HSH.out.D HSH.out.P HSH.out.R HSH.out.M
    have hkp : Kept (KFoot kb bb hb s V) w w2 := hwent.kept.mono (fun i hi => .inr (.inr (.inl hi)))
    obtain ⟨_, d1, d2, d3, _, _, d6, d7⟩ := hK2.cells
    obtain ⟨g1, q1, e1, l1, _, hg1⟩ := hK2.lostAt d (by rw [HSH.out.D, HSH.out.P]; exact hd)
    rw [e1] at d6
    rw [hl] at l1
    rw [HSH.out.D, HSH.out.P] at d6
    have hltk := hK2.row.lt
    have HK2 : Hid (KeepAt w0 w2 kb bb hb s2 f V lo bu) := hK2
    have HKP : Hid (Kept (KFoot kb bb hb s V) w w2) := hkp
    clear hK2 hkp hwent c0 c1 c2 c3 c4 c5 c6 c7 e1 d1 d2 d3 d7
    generalize hDP : s.D + s.P = DP at *
    have HDP : Hid (s.D + s.P = DP) := hDP
    clear hDP
    go_wp2_with fail
    clear d6 l1 hg1
    go_loopw [9, 10] (fun mk r wr => ∃ (k m : Nat), k ≤ s.R ∧ m ≤ k ∧ r = .int .i64 k ∧ mk = .int .i64 m ∧ Hid ((buR bu d n k).2 = m) ∧ Hid (KeepAt w0 wr kb bb hb s2 f V lo (buR bu d n k).1) ∧ Hid (Kept (KFoot kb bb hb s V) w wr)) (fun _ r _ => s.R - (intOf r).toNat)
    case atStart => exact ⟨0, 0, by omega, by omega, rfl, rfl, rfl, HK2, HKP⟩
    case round =>
      clear HK2 HKP
      obtain ⟨k, m, hk, hmk, rfl, rfl, hm, hKr, hPr⟩ := hrel
      obtain ⟨_, _, _, d3, _, _, _, d7⟩ := hKr.out.cells
      rw [HSH.out.R] at d3
      have hltr := hKr.out.row.lt
      by_cases hlt2 : k < s.R
      · have hlti : (k : Int) < (s.R : Int) := by omega
        by_cases hmn : m < n
        · have hmni : (m : Int) < (n : Int) := by omega
          obtain ⟨g1, q1, g2, q2, e1, l1, e2, l2, f2, hg1, hg2⟩ := hKr.out.builtAt d k (by rw [HSH.out.D, HSH.out.P, HDP.out]; omega) (by rw [HSH.out.R]; exact hlt2)
          rw [HSH.out.R] at l1 e2
          rw [e1, HSH.out.D, HSH.out.P, HDP.out] at d7
          have HN : Hid (buR bu d n (k + 1) = (setBu (buR bu d n k).1 d k true, m + if (buR bu d n k).1 d k then 0 else 1)) := (show _ = _ by simp only [buR]; rw [if_pos (by rw [hm.out]; exact hmn), hm.out])
          have HSET : Hid (∀ W, KeepAt w0 W kb bb hb s2 f V lo (buR bu d n k).1 → KeepAt w0 (W.setCell ⟨g2, k, none⟩ (.bool true)) kb bb hb s2 f V lo (setBu (buR bu d n k).1 d k true)) := fun W hW => hW.setBuilt d k (by rw [HSH.out.D, HSH.out.P, HDP.out]; omega) (by rw [HSH.out.R]; exact hlt2) true g2 q2 (by rw [HSH.out.R]; exact e2)
          have HG2 : Hid (KFoot kb bb hb s V g2) := .inr (.inr (.inr ⟨2 + d, by rw [HDP.out]; omega, by rw [e2]; rfl⟩))
          have HSAME : Hid ((buR bu d n k).1 d k = true → setBu (buR bu d n k).1 d k true = (buR bu d n k).1) := setBu_same _ d k
          generalize (buR bu d n k).1 = B at *
          clear e1 e2
          cases hBk : B d k
          · rw [hBk] at l2
            rw [hBk] at HN
            go_wp2_with fail
            refine ⟨⟨k + 1, m + 1, by omega, by omega, by go_num, by go_num, (show _ = _ by rw [HN.out]; rfl), ?_, hPr.out.setCell (.inl HG2.out) _⟩, by simp [intOf]; omega⟩
            rw [HN.out]
            exact HSET.out _ hKr.out
          · rw [hBk] at l2
            rw [hBk] at HN
            go_wp2_with fail
            refine ⟨⟨k + 1, m, by omega, by omega, by go_num, rfl, (show _ = _ by rw [HN.out]; rfl), ?_, hPr⟩, by simp [intOf]; omega⟩
            rw [HN.out]
            show KeepAt w0 _ kb bb _ s2 f V lo (setBu B d k true)
            rw [HSAME.out hBk]; exact hKr.out
        · have hmi : decide ((m : Int) < (n : Int)) = false := by simp; omega
          have hmnat : decide (m < n) = false := by simp; omega
          have HE : Hid (buR bu d n s.R = buR bu d n k) := by
            have := buR_stop bu d n k (s.R - k) (by rw [hm.out]; exact hmn)
            rw [show k + (s.R - k) = s.R by omega] at this
            exact this
          have HEQ : Hid (kn = m) := (show _ = _ by rw [HRUN.out.2, HE.out, hm.out])
          have hknm : ((kn : Int) == (m : Int)) = true := by rw [HEQ.out]; simp
          clear d7
          go_wp2_with fail
          go_ret
          refine ⟨by rfl, s2, (buR bu d n k).1, ?_, HST.out, ⟨HSH.out.D, HSH.out.P, HSH.out.R, HSH.out.M, HBR.out⟩, hKr.out, hPr.out⟩
          rw [← HE.out]; exact HRUN.out.1
      · have hke : k = s.R := by omega
        have HKE : Hid (k = s.R) := hke
        have hlti : ¬ ((k : Int) < (s.R : Int)) := by omega
        have HEQ : Hid (kn = m) := (show _ = _ by rw [HRUN.out.2, ← HKE.out, hm.out])
        have hknm : ((kn : Int) == (m : Int)) = true := by rw [HEQ.out]; simp
        clear d7 hke
        go_wp2_with fail
        go_ret
        refine ⟨by rfl, s2, (buR bu d n k).1, ?_, HST.out, ⟨HSH.out.D, HSH.out.P, HSH.out.R, HSH.out.M, HBR.out⟩, hKr.out, hPr.out⟩
        rw [HKE.out]; exact HRUN.out.1
  · rw [hl] at hlo
    have HRB : Hid (∀ W, HoardAt W hb s → Calls Try.prog 15 #[.pointer (some ⟨hb, 0, none⟩), .int .i64 d, .int .i64 n] W fun e w' => e = .returned (.tuple #[.int .i64 0, .int .i64 7]) ∧ Below W.heap.size W w') := fun W hW => Rebuild_lost hb s d n W hW hd hlo
    clear hi
    go_enter Try.func63, Try.ntmps63
    go_wp2_with fail
    refine (HRB.out _ HK.out.hoard).mono ?_
    rintro e w2 ⟨rfl, k2⟩
    have hK2 := HK.out.of_below k2
    obtain ⟨_, _, _, _, _, _, d6, _⟩ := hK2.cells
    obtain ⟨g1, q1, e1, l1, _, hg1⟩ := hK2.lostAt d hd
    rw [e1] at d6
    rw [hl] at l1
    have hltk := hK2.row.lt
    have HK2 : Hid (KeepAt w0 w2 kb bb hb s f V lo bu) := hK2
    have HB2 : Hid (Below w.heap.size w w2) := k2
    clear hK2 k2 c0 c1 c2 c3 c4 c5 c6 c7 e1
    generalize s.D + s.P = DP at *
    go_wp2_with fail
    go_ret
    exact ⟨rfl, s, bu, HI.out, rfl, SameAb.refl _, HK2.out, Kept.of_below HB2.out⟩
end Go.Proofs.Ytfpoiikhhjdpdab
