/- hoardkeep: a drive is replaced, rebuilt. -/
import Derived.Test.YtfpoiikhhjdpdabKDrive
namespace Go.Proofs.Ytfpoiikhhjdpdab
open Go.RowKit
set_option linter.unusedVariables false
attribute [local go_sem ↓] Go.wp_at_zero Go.wp_at_succ
set_option maxRecDepth 100000 in
set_option maxHeartbeats 4000000 in
theorem kdrive_replace {w0 : World} (kb bb hb : Nat) (s : St) (f : Nat → Nat) (V : Nat → Value) (lo : Nat → Bool) (bu : Nat → Nat → Bool) (a b : Int) (S : ByteArray) (w : World) (h : KeepAt w0 w kb bb hb s f V lo bu) (hi : KInv s f lo bu) (ha : -9223372036854775808 ≤ a ∧ a ≤ 9223372036854775807) :
    Calls Try.prog 39 #[.pointer (some ⟨kb, 0, none⟩), .agg #[.int .i64 4, .int .i64 a, .int .i64 b, .string S]] w fun e w' => e = .returned (.bool true) ∧ Moved w0 w w' kb bb hb s f V := by
  have hD := h.hoard.ok.D4
  have hD1 := h.hoard.ok.D1
  have hP := h.hoard.ok.P2
  have p1 := pickN_lt a (s.D + s.P) (by omega)
  have A : Hid (∀ W, Calls Try.prog 11 #[.int .i64 a, .int .i64 ((s.D + s.P : Nat) : Int)] W fun e w' => e = .returned (.int .i64 (pickN a (s.D + s.P) : Nat)) ∧ w' = W) := fun W => kpick_any a _ W (by omega) (by omega) ha
  have HK : Hid (KeepAt w0 w kb bb hb s f V lo bu) := h
  have HI : Hid (KInv s f lo bu) := hi
  obtain ⟨c0, c1, c2, c3, c4, c5, c6, c7⟩ := h.cells
  have hlt := h.row.lt
  generalize pickN a (s.D + s.P) = d at *
  obtain ⟨g0, q0, e0, l0, f0, hg0⟩ := h.lostAt d p1
  rw [e0] at c6
  have E0 : Hid (V 0 = .slice (some ⟨g0, 0, none⟩) (s.D + s.P) q0) := e0
  have hlo : s.lost d = lo d := hi.lost d p1
  have hdi : (d : Int) < ((s.D + s.P : Nat) : Int) := by omega
  have HPD : Hid (d < s.D + s.P) := p1
  clear h hi e0 ha p1
  generalize hDP : s.D + s.P = DP at *
  have HDP : Hid (s.D + s.P = DP) := hDP
  have HPQ : Hid (d < s.D + s.P) := (show _ < _ by rw [hDP]; exact HPD.out)
  clear hDP
  go_enter Try.func39, Try.ntmps39
  go_wp2_with fail
  go_region_with ((go_at_call 11; go_must (refine (A.out _).mono ?_); rintro e W ⟨rfl, rfl⟩))
  all_goals
    have K1 : Below w.heap.size w (w.alloc (.cells #[.int .i64 4, .int .i64 a, .int .i64 b, .string S] 30)).drew := ((Below.refl _ _).alloc (Nat.le_refl _) _).drew
    have b0 : (w.alloc (.cells #[.int .i64 4, .int .i64 a, .int .i64 b, .string S] 30)).drew.cell? ⟨w.heap.size, 0, none⟩ = some (.int .i64 4) := by simp [go_sem]
    have hsz : w.heap.size < (w.alloc (.cells #[.int .i64 4, .int .i64 a, .int .i64 b, .string S] 30)).drew.heap.size := by simp
    generalize (w.alloc (.cells #[.int .i64 4, .int .i64 a, .int .i64 b, .string S] 30)).drew = w1 at *
    have hK1 := HK.out.of_below K1
    cases hl : lo d
    · rw [hl] at hlo
      have HRP : Hid (∀ W, HoardAt W hb s → Calls Try.prog 13 #[.pointer (some ⟨hb, 0, none⟩), .int .i64 d] W fun e w' => e = .returned (.int .i64 7) ∧ Below W.heap.size W w') := fun W hW => Replace_live hb s d W hW HPQ.out hlo
      obtain ⟨d0, _, _, _, _, _, _, _⟩ := hK1.cells
      have hltk1 := hK1.row.lt
      have HH1 : Hid (HoardAt w1 hb s) := hK1.hoard
      clear hK1 c0 c1 c2 c3 c4 c5 c6 c7 l0
      go_wp2_with fail
      refine (HRP.out _ HH1.out).mono ?_
      rintro e w2 ⟨rfl, k2⟩
      have K2 : Below w.heap.size w w2 := K1.trans (k2.mono K1.size)
      have hK2 := HK.out.of_below K2
      obtain ⟨_, _, _, _, _, _, d6, _⟩ := hK2.cells
      obtain ⟨g1, q1, e1, l1, f1, hg1⟩ := hK2.lostAt d HPQ.out
      rw [e1, HDP.out] at d6
      rw [hl] at l1
      have hltk := hK2.row.lt
      have HMV : Hid (Moved w0 w w2 kb bb hb s f V) := ⟨s, f, lo, bu, HI.out, by omega, SameAb.refl _, hK2⟩
      clear hK2 e1 k2 b0 K1 d0
      go_wp2_with fail
      go_ret
      exact ⟨rfl, HMV.out⟩
    · rw [hl] at hlo
      have HRP : Hid (∀ W, HoardAt W hb s → Calls Try.prog 13 #[.pointer (some ⟨hb, 0, none⟩), .int .i64 d] W fun e w' => e = .returned (.int .i64 0) ∧ Went hb s W (s.newDrive d false s.R) w') := fun W hW => Replace_ok hb s d W hW HPQ.out hlo
      have HIN : Hid (KInv (s.newDrive d false s.R) f (setLo lo d false) (bu0 bu s.R d)) := HI.out.replace d HPQ.out hl
      obtain ⟨d0, _, _, _, _, _, _, _⟩ := hK1.cells
      have hltk1 := hK1.row.lt
      have HK1 : Hid (KeepAt w0 w1 kb bb hb s f V lo bu) := hK1
      clear hK1 c0 c1 c2 c3 c4 c5 c6 c7 l0
      go_wp2_with fail
      refine (HRP.out _ HK1.out.hoard).mono ?_
      rintro e w2 ⟨rfl, hwent⟩
      have hK2 := HK1.out.went hwent rfl rfl rfl rfl
      generalize hs2 : s.newDrive d false s.R = s2 at *
      have HS2 : Hid (s2.D = s.D ∧ s2.P = s.P ∧ s2.R = s.R ∧ s2.M = s.M ∧ s2.steps = s.steps) := by rw [← hs2]; exact ⟨rfl, rfl, rfl, rfl, rfl⟩
      have HB2 : Hid (s2.brk = s.brk) := (show _ = _ by rw [← hs2]; rfl)
      clear hs2
      obtain ⟨g2, q2, e2, l2, f2, hg2⟩ := hK2.lostAt d (by rw [HS2.out.1, HS2.out.2.1]; exact HPQ.out)
      obtain ⟨_, _, _, _, _, _, x6, _⟩ := hK2.cells
      rw [e2, HS2.out.1, HS2.out.2.1, HDP.out] at x6
      rw [hl] at l2
      have hltk2 := hK2.row.lt
      have HK3 : Hid (KeepAt w0 (w2.setCell ⟨g2, d, none⟩ (.bool false)) kb bb hb s2 f V (setLo lo d false) bu) := hK2.setLost d (by rw [HS2.out.1, HS2.out.2.1]; exact HPQ.out) false g2 q2 e2
      clear hK2 hwent e2 b0 d0 K1
      go_wp2_with fail
      clear x6 l2 f2
      go_loopw [9] (fun r wr => ∃ k : Nat, k ≤ s.R ∧ r = .int .i64 k ∧ Hid (KeepAt w0 wr kb bb hb s2 f V (setLo lo d false) (bu0 bu k d))) (fun r _ => s.R - (intOf r).toNat)
      case atStart =>
        refine ⟨0, by omega, rfl, ?_⟩
        have : bu0 bu 0 d = bu := by funext d' r'; unfold bu0; rw [if_neg (by omega)]
        rw [this]; exact HK3
      case round =>
        clear HK3
        obtain ⟨k, hk, rfl, hKr⟩ := hrel
        obtain ⟨_, _, _, d3, _, _, _, d7⟩ := hKr.out.cells
        rw [HS2.out.2.2.1] at d3
        have hltr := hKr.out.row.lt
        have hR6 : s.R ≤ 6 := HK.out.hoard.ok.R6
        by_cases hlt2 : k < s.R
        · have hlti : (k : Int) < (s.R : Int) := by omega
          obtain ⟨g3, q3, g4, q4, e3, l3, e4, l4, f4, hg3, hg4⟩ := hKr.out.builtAt d k (by rw [HS2.out.1, HS2.out.2.1]; exact HPQ.out) (by rw [HS2.out.2.2.1]; exact hlt2)
          rw [HS2.out.2.2.1] at l3
          rw [e3, HS2.out.1, HS2.out.2.1, HDP.out] at d7
          have HSET : Hid (∀ W, KeepAt w0 W kb bb hb s2 f V (setLo lo d false) (bu0 bu k d) → KeepAt w0 (W.setCell ⟨g4, k, none⟩ (.bool false)) kb bb hb s2 f V (setLo lo d false) (bu0 bu (k + 1) d)) := fun W hW => by
            have h1 := hW.setBuilt d k (by rw [HS2.out.1, HS2.out.2.1]; exact HPQ.out) (by rw [HS2.out.2.2.1]; exact hlt2) false g4 q4 e4
            have h2 : setBu (bu0 bu k d) d k false = bu0 bu (k + 1) d := by
              funext d' r'
              unfold setBu bu0
              by_cases e : d' = d
              · by_cases e2 : r' = k
                · rw [if_pos ⟨e, e2⟩, if_pos ⟨e, by omega⟩]
                · rw [if_neg (fun h => e2 h.2)]
                  by_cases e5 : r' < k
                  · rw [if_pos ⟨e, e5⟩, if_pos ⟨e, by omega⟩]
                  · rw [if_neg (fun h => e5 h.2), if_neg (by omega)]
              · rw [if_neg (fun h => e h.1), if_neg (fun h => e h.1), if_neg (fun h => e h.1)]
            rw [h2] at h1; exact h1
          clear e3 e4
          generalize bu0 bu k d d k = bv at *
          go_wp2_with fail
          exact ⟨⟨k + 1, by omega, by go_num, HSET.out _ hKr.out⟩, by simp [intOf]; omega⟩
        · have hke : k = s.R := by omega
          have HKE : Hid (k = s.R) := hke
          have hlti : ¬ ((k : Int) < (s.R : Int)) := by omega
          clear hke d7
          go_wp2_with fail
          go_ret
          refine ⟨rfl, s2, f, setLo lo d false, bu0 bu s.R d, HIN.out, by rw [HS2.out.2.2.2.2]; omega, ⟨HS2.out.1, HS2.out.2.1, HS2.out.2.2.1, HS2.out.2.2.2.1, HB2.out⟩, ?_⟩
          rw [← HKE.out]; exact hKr.out
set_option maxRecDepth 100000 in
set_option maxHeartbeats 4000000 in
theorem kdrive_rebuild {w0 : World} (kb bb hb : Nat) (s : St) (f : Nat → Nat) (V : Nat → Value) (lo : Nat → Bool) (bu : Nat → Nat → Bool) (a b : Int) (S : ByteArray) (w : World) (h : KeepAt w0 w kb bb hb s f V lo bu) (hi : KInv s f lo bu) (ha : -9223372036854775808 ≤ a ∧ a ≤ 9223372036854775807) (hbb : -9223372036854775808 ≤ b ∧ b ≤ 9223372036854775807) :
    Calls Try.prog 39 #[.pointer (some ⟨kb, 0, none⟩), .agg #[.int .i64 5, .int .i64 a, .int .i64 b, .string S]] w fun e w' => e = .returned (.bool true) ∧ Moved w0 w w' kb bb hb s f V := by
  have hD := h.hoard.ok.D4
  have hD1 := h.hoard.ok.D1
  have hP := h.hoard.ok.P2
  have p1 := pickN_lt a (s.D + s.P) (by omega)
  have A : Hid (∀ W, Calls Try.prog 11 #[.int .i64 a, .int .i64 ((s.D + s.P : Nat) : Int)] W fun e w' => e = .returned (.int .i64 (pickN a (s.D + s.P) : Nat)) ∧ w' = W) := fun W => kpick_any a _ W (by omega) (by omega) ha
  have HK : Hid (KeepAt w0 w kb bb hb s f V lo bu) := h
  have HI : Hid (KInv s f lo bu) := hi
  obtain ⟨c0, c1, c2, c3, c4, c5, c6, c7⟩ := h.cells
  have hlt := h.row.lt
  generalize pickN a (s.D + s.P) = d at *
  obtain ⟨g0, q0, e0, l0, f0, hg0⟩ := h.lostAt d p1
  rw [e0] at c6
  have E0 : Hid (V 0 = .slice (some ⟨g0, 0, none⟩) (s.D + s.P) q0) := e0
  have hlo : s.lost d = lo d := hi.lost d p1
  have p2 := pickN_lt b 8 (by omega)
  have B : Hid (∀ W, Calls Try.prog 11 #[.int .i64 b, .int .i64 8] W fun e w' => e = .returned (.int .i64 (pickN b 8 : Nat)) ∧ w' = W) := fun W => kpick_any b 8 W (by omega) (by omega) hbb
  have HRB : Hid (∀ W, KeepAt w0 W kb bb hb s f V lo bu → Calls Try.prog 63 #[.pointer (some ⟨kb, 0, none⟩), .int .i64 d, .int .i64 (1 + (pickN b 8 : Nat) : Int)] W fun e w' => e = .returned (.bool true) ∧ ∃ (s' : St) (bu' : Nat → Nat → Bool), KInv s' f lo bu' ∧ s'.steps = s.steps ∧ SameAb s s' ∧ KeepAt w0 w' kb bb hb s' f V lo bu' ∧ Kept (KFoot kb bb hb s V) W w') := fun W hW => by
    have h1 := krebuild_any kb bb hb s f V lo bu d (1 + pickN b 8) W hW hi p1 (by omega) (by omega)
    rw [show ((1 + pickN b 8 : Nat) : Int) = 1 + (pickN b 8 : Nat) by omega] at h1
    exact h1
  generalize pickN b 8 = y at *
  have hdi : (d : Int) < ((s.D + s.P : Nat) : Int) := by omega
  have HPD : Hid (d < s.D + s.P) := p1
  clear h hi e0 ha hbb p1
  generalize hDP : s.D + s.P = DP at *
  have HDP : Hid (s.D + s.P = DP) := hDP
  have HPQ : Hid (d < s.D + s.P) := (show _ < _ by rw [hDP]; exact HPD.out)
  clear hDP
  go_enter Try.func39, Try.ntmps39
  go_wp2_with fail
  go_region_with ((go_at_call 11; go_must (refine (A.out _).mono ?_); rintro e W ⟨rfl, rfl⟩))
  all_goals
    have K1 : Below w.heap.size w (w.alloc (.cells #[.int .i64 5, .int .i64 a, .int .i64 b, .string S] 30)).drew := ((Below.refl _ _).alloc (Nat.le_refl _) _).drew
    have b2 : (w.alloc (.cells #[.int .i64 5, .int .i64 a, .int .i64 b, .string S] 30)).drew.cell? ⟨w.heap.size, 2, none⟩ = some (.int .i64 b) := by simp [go_sem]
    have b0 : (w.alloc (.cells #[.int .i64 5, .int .i64 a, .int .i64 b, .string S] 30)).drew.cell? ⟨w.heap.size, 0, none⟩ = some (.int .i64 5) := by simp [go_sem]
    have hsz : w.heap.size < (w.alloc (.cells #[.int .i64 5, .int .i64 a, .int .i64 b, .string S] 30)).drew.heap.size := by simp
    generalize (w.alloc (.cells #[.int .i64 5, .int .i64 a, .int .i64 b, .string S] 30)).drew = w1 at *
    have hK1 := HK.out.of_below K1
    clear c0 c1 c2 c3 c4 c5 c6 c7 l0
    have HK1 : Hid (KeepAt w0 w1 kb bb hb s f V lo bu) := hK1
    clear hK1
    go_wp2_with ((go_at_call 11; go_must (refine (B.out _).mono ?_); rintro e W ⟨rfl, rfl⟩))
    refine (HRB.out _ HK1.out).mono ?_
    rintro e w3 ⟨rfl, s3, bu3, hI3, hs3, hsh3, hK3, _⟩
    have HF : Hid (Moved w0 w w3 kb bb hb s f V) := ⟨s3, f, lo, bu3, hI3, by omega, hsh3, hK3⟩
    clear hI3 hs3 hsh3 hK3
    go_wp2_with fail
    go_ret
    exact ⟨rfl, HF.out⟩
end Go.Proofs.Ytfpoiikhhjdpdab
