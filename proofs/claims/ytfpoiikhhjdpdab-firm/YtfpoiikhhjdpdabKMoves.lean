/- hoardkeep: is a cell there, may a drive be lost, records are merged. -/
import Derived.Test.YtfpoiikhhjdpdabPure
namespace Go.Proofs.Ytfpoiikhhjdpdab
open Go.RowKit
set_option linter.unusedVariables false
set_option linter.unusedSimpArgs false
attribute [local go_sem ↓] Go.wp_at_zero Go.wp_at_succ
set_option maxRecDepth 100000 in
set_option maxHeartbeats 2000000 in
theorem there_any {w0 : World} (kb bb hb : Nat) (s : St) (f : Nat → Nat) (V : Nat → Value) (lo : Nat → Bool) (bu : Nat → Nat → Bool) (d r : Nat) (w : World) (h : KeepAt w0 w kb bb hb s f V lo bu) (hd : d < s.D + s.P) (hr : r < s.R) :
    Calls Try.prog 84 #[.pointer (some ⟨kb, 0, none⟩), .int .i64 d, .int .i64 r] w fun e w' => e = .returned (.bool (!lo d && bu d r)) ∧ w' = w := by
  obtain ⟨_, _, _, _, _, _, c6, c7⟩ := h.cells
  obtain ⟨g0, q0, e0, l0, _, hg0⟩ := h.lostAt d hd
  obtain ⟨g1, q1, g2, q2, e1, l1, _, l2, _, hg1, hg2⟩ := h.builtAt d r hd hr
  rw [e0] at c6
  rw [e1] at c7
  have hdi : (d : Int) < ((s.D + s.P : Nat) : Int) := by omega
  have hri : (r : Int) < (s.R : Int) := by omega
  have hlt := h.row.lt
  clear h e0 e1 hd hr
  generalize s.D + s.P = DP at *
  cases hl : lo d
  · rw [hl] at l0
    go_enter Try.func84, Try.ntmps84
    go_wp2_with fail
    go_ret
    exact ⟨by simp, rfl⟩
  · rw [hl] at l0
    go_enter Try.func84, Try.ntmps84
    go_wp2_with fail
    go_ret
    exact ⟨rfl, rfl⟩
set_option maxRecDepth 100000 in
set_option maxHeartbeats 8000000 in
theorem spares_any {w0 : World} (kb bb hb : Nat) (s : St) (f : Nat → Nat) (V : Nat → Value) (lo : Nat → Bool) (bu : Nat → Nat → Bool) (d : Nat) (w : World) (h : KeepAt w0 w kb bb hb s f V lo bu) :
    Calls Try.prog 62 #[.pointer (some ⟨kb, 0, none⟩), .int .i64 d] w fun e w' => e = .returned (.bool (spB s.D s.P lo bu d s.R)) ∧ Below w.heap.size w w' := by
  have hD := h.hoard.ok.D4
  have hP := h.hoard.ok.P2
  have hR := h.hoard.ok.R6
  have HK : Hid (KeepAt w0 w kb bb hb s f V lo bu) := h
  clear h
  go_enter Try.func62, Try.ntmps62
  go_wp2_with fail
  go_loopw [5, 6, 7, 8, 9] (fun r _ _ _ _ wr => ∃ m : Nat, m ≤ s.R ∧ r = .int .i64 m ∧ Hid (spB s.D s.P lo bu d m = true) ∧ Below w.heap.size w wr) (fun r _ _ _ _ _ => s.R - (intOf r).toNat)
  case atStart => exact ⟨0, by omega, rfl, rfl, Below.refl _ _⟩
  case round =>
    obtain ⟨m, hm, rfl, hsp, hbel⟩ := hrel
    have hK1 := HK.out.of_below hbel
    obtain ⟨_, c1, c2, c3, _⟩ := hK1.cells
    by_cases hlt : m < s.R
    · have hlti : (m : Int) < (s.R : Int) := by omega
      have HB : Hid (Below w.heap.size w wr) := hbel
      have HK1 : Hid (KeepAt w0 wr kb bb hb s f V lo bu) := hK1
      clear hK1 hbel
      go_wp2_with fail
      go_loopw [6, 7, 8, 9] (fun a b k _ wi => ∃ j q : Nat, j ≤ s.D + s.P ∧ k = .int .i64 j ∧ a = .int .i64 (mC (thB lo bu d m) s.D j : Nat) ∧ b = .int .i64 (pC (thB lo bu d m) s.D j : Nat) ∧ wi = wr.drewN q) (fun _ _ k _ _ => s.D + s.P - (intOf k).toNat)
      case atStart => exact ⟨0, 0, by omega, rfl, rfl, rfl, rfl⟩
      case round =>
        obtain ⟨j, q, hj, rfl, rfl, rfl, rfl⟩ := hrel
        have hml := mC_le (thB lo bu d m) s.D j
        have hpl := pC_le (thB lo bu d m) s.D j
        have hK2 := HK1.out.of_below (below_drewN (Below.refl _ _) q)
        obtain ⟨_, e1, e2, _⟩ := hK2.cells
        by_cases hjl : j < s.D + s.P
        · have hji : (j : Int) < (s.D : Int) + s.P := by omega
          have HTH : Hid (∀ q, Calls Try.prog 84 #[.pointer (some ⟨kb, 0, none⟩), .int .i64 j, .int .i64 m] (wr.drewN q) fun e w' => e = .returned (.bool (!lo j && bu j m)) ∧ w' = wr.drewN q) := fun q => there_any kb bb hb s f V lo bu j m _ (HK1.out.of_below (below_drewN (Below.refl _ _) q)) hjl hlt
          have HM : Hid (mC (thB lo bu d m) s.D (j + 1) = mC (thB lo bu d m) s.D j + if j < s.D ∧ thB lo bu d m j = false then 1 else 0) := rfl
          have HP : Hid (pC (thB lo bu d m) s.D (j + 1) = pC (thB lo bu d m) s.D j + if s.D ≤ j ∧ thB lo bu d m j = true then 1 else 0) := rfl
          have HT : Hid (thB lo bu d m j = ((!lo j && bu j m) && decide (j ≠ d))) := rfl
          generalize mC (thB lo bu d m) s.D j = x at *
          generalize pC (thB lo bu d m) s.D j = y at *
          generalize (!lo j && bu j m) = t at *
          clear e1 e2
          cases t
          · by_cases hjD : j < s.D
            · have hjDi : (j : Int) < (s.D : Int) := by omega
              have HM2 : Hid (mC (thB lo bu d m) s.D (j + 1) = x + 1) := (show _ = _ by rw [HM.out, HT.out]; simp [hjD])
              have HP2 : Hid (pC (thB lo bu d m) s.D (j + 1) = y) := (show _ = _ by rw [HP.out, HT.out]; simp [hjD])
              obtain ⟨_, c1q, c2q, _⟩ := hK2.cells
              clear hK2
              go_wp2_with fail
              go_quiet (fail)
              go_wp2_with fail
              refine (HTH.out _).mono ?_
              rintro e w2 ⟨rfl, rfl⟩
              go_wp2_with fail
              exact ⟨⟨j + 1, _, by omega, by go_num, by first | (rw [HM2.out]; done) | (rw [HM2.out]; go_num), by first | (rw [HP2.out]; done) | (rw [HP2.out]; go_num), rfl⟩, by simp [intOf]; omega⟩
            · have hjDi : ¬ ((j : Int) < (s.D : Int)) := by omega
              have hjDj : (s.D : Int) ≤ (j : Int) := by omega
              have HM2 : Hid (mC (thB lo bu d m) s.D (j + 1) = x) := (show _ = _ by rw [HM.out, HT.out]; simp [hjD])
              have HP2 : Hid (pC (thB lo bu d m) s.D (j + 1) = y) := (show _ = _ by rw [HP.out, HT.out]; simp [hjD])
              obtain ⟨_, c1q, c2q, _⟩ := hK2.cells
              clear hK2
              go_wp2_with fail
              go_quiet (fail)
              go_wp2_with fail
              refine (HTH.out _).mono ?_
              rintro e w2 ⟨rfl, rfl⟩
              go_wp2_with fail
              exact ⟨⟨j + 1, _, by omega, by go_num, by first | (rw [HM2.out]; done) | (rw [HM2.out]; go_num), by first | (rw [HP2.out]; done) | (rw [HP2.out]; go_num), rfl⟩, by simp [intOf]; omega⟩
          · by_cases hjd : j = d
            · by_cases hjD : j < s.D
              · have hjDi : (j : Int) < (s.D : Int) := by omega
                have hne : ((j : Int) != (d : Int)) = false := by rw [hjd]; simp
                have HDD : decide (j ≠ d) = false := by simp [hjd]
                have HM2 : Hid (mC (thB lo bu d m) s.D (j + 1) = x + 1) := (show _ = _ by rw [HM.out, HT.out, HDD]; simp [hjD])
                have HP2 : Hid (pC (thB lo bu d m) s.D (j + 1) = y) := (show _ = _ by rw [HP.out, HT.out, HDD]; simp [hjD])
                clear hjd HDD
                obtain ⟨_, c1q, c2q, _⟩ := hK2.cells
                clear hK2
                go_wp2_with fail
                go_quiet (fail)
                go_wp2_with fail
                refine (HTH.out _).mono ?_
                rintro e w2 ⟨rfl, rfl⟩
                go_wp2_with fail
                exact ⟨⟨j + 1, _, by omega, by go_num, by first | (rw [HM2.out]; done) | (rw [HM2.out]; go_num), by first | (rw [HP2.out]; done) | (rw [HP2.out]; go_num), rfl⟩, by simp [intOf]; omega⟩
              · have hjDi : ¬ ((j : Int) < (s.D : Int)) := by omega
                have hjDj : (s.D : Int) ≤ (j : Int) := by omega
                have hne : ((j : Int) != (d : Int)) = false := by rw [hjd]; simp
                have HDD : decide (j ≠ d) = false := by simp [hjd]
                have HM2 : Hid (mC (thB lo bu d m) s.D (j + 1) = x) := (show _ = _ by rw [HM.out, HT.out, HDD]; simp [hjD])
                have HP2 : Hid (pC (thB lo bu d m) s.D (j + 1) = y) := (show _ = _ by rw [HP.out, HT.out, HDD]; simp [hjD])
                clear hjd HDD
                obtain ⟨_, c1q, c2q, _⟩ := hK2.cells
                clear hK2
                go_wp2_with fail
                go_quiet (fail)
                go_wp2_with fail
                refine (HTH.out _).mono ?_
                rintro e w2 ⟨rfl, rfl⟩
                go_wp2_with fail
                exact ⟨⟨j + 1, _, by omega, by go_num, by first | (rw [HM2.out]; done) | (rw [HM2.out]; go_num), by first | (rw [HP2.out]; done) | (rw [HP2.out]; go_num), rfl⟩, by simp [intOf]; omega⟩
            · by_cases hjD : j < s.D
              · have hjDi : (j : Int) < (s.D : Int) := by omega
                have hne : ((j : Int) != (d : Int)) = true := by rw [bne_iff_ne]; omega
                have HDD : decide (j ≠ d) = true := by simp [hjd]
                have HM2 : Hid (mC (thB lo bu d m) s.D (j + 1) = x) := (show _ = _ by rw [HM.out, HT.out, HDD]; simp [hjD])
                have HP2 : Hid (pC (thB lo bu d m) s.D (j + 1) = y) := (show _ = _ by rw [HP.out, HT.out, HDD]; simp [hjD])
                clear hjd HDD
                obtain ⟨_, c1q, c2q, _⟩ := hK2.cells
                clear hK2
                go_wp2_with fail
                go_quiet (fail)
                go_wp2_with fail
                refine (HTH.out _).mono ?_
                rintro e w2 ⟨rfl, rfl⟩
                go_wp2_with fail
                exact ⟨⟨j + 1, _, by omega, by go_num, by first | (rw [HM2.out]; done) | (rw [HM2.out]; go_num), by first | (rw [HP2.out]; done) | (rw [HP2.out]; go_num), rfl⟩, by simp [intOf]; omega⟩
              · have hjDi : ¬ ((j : Int) < (s.D : Int)) := by omega
                have hjDj : (s.D : Int) ≤ (j : Int) := by omega
                have hne : ((j : Int) != (d : Int)) = true := by rw [bne_iff_ne]; omega
                have HDD : decide (j ≠ d) = true := by simp [hjd]
                have HM2 : Hid (mC (thB lo bu d m) s.D (j + 1) = x) := (show _ = _ by rw [HM.out, HT.out, HDD]; simp [hjD])
                have HP2 : Hid (pC (thB lo bu d m) s.D (j + 1) = y + 1) := (show _ = _ by rw [HP.out, HT.out, HDD]; simp [hjD])
                clear hjd HDD
                obtain ⟨_, c1q, c2q, _⟩ := hK2.cells
                clear hK2
                go_wp2_with fail
                go_quiet (fail)
                go_wp2_with fail
                refine (HTH.out _).mono ?_
                rintro e w2 ⟨rfl, rfl⟩
                go_wp2_with fail
                exact ⟨⟨j + 1, _, by omega, by go_num, by first | (rw [HM2.out]; done) | (rw [HM2.out]; go_num), by first | (rw [HP2.out]; done) | (rw [HP2.out]; go_num), rfl⟩, by simp [intOf]; omega⟩
        · have hje : j = s.D + s.P := by omega
          have HJE : Hid (s.D + s.P = j) := hje.symm
          have hji : ¬ ((j : Int) < (s.D : Int) + s.P) := by omega
          have HSP : Hid (spB s.D s.P lo bu d (m + 1) = (spB s.D s.P lo bu d m && decide (mC (thB lo bu d m) s.D j ≤ pC (thB lo bu d m) s.D j))) := (show _ = _ by simp only [spB]; rw [HJE.out])
          generalize mC (thB lo bu d m) s.D j = x at *
          generalize pC (thB lo bu d m) s.D j = y at *
          clear hK2
          by_cases hxy : x ≤ y
          · have HS2 : Hid (spB s.D s.P lo bu d (m + 1) = true) := (show _ = _ by rw [HSP.out, hsp.out, decide_eq_true hxy]; rfl)
            have hxyi : ¬ ((y : Int) < (x : Int)) := by omega
            go_wp2_with fail
            go_quiet (fail)
            go_wp2_with fail
            exact ⟨⟨m + 1, by omega, by go_num, HS2, below_drewN HB.out _⟩, by simp [intOf]; omega⟩
          · have HS2 : Hid (spB s.D s.P lo bu d s.R = false) := by
              have h1 : spB s.D s.P lo bu d (m + 1) = false := by rw [HSP.out, decide_eq_false hxy]; simp
              have : ∀ i, spB s.D s.P lo bu d (m + 1 + i) = false := by
                intro i
                induction i with
                | zero => exact h1
                | succ i ih => show spB s.D s.P lo bu d (m + 1 + i + 1) = false; simp only [spB]; rw [ih]; rfl
              have h2 := this (s.R - (m + 1))
              rw [show m + 1 + (s.R - (m + 1)) = s.R by omega] at h2
              exact h2
            have hxyi : (y : Int) < (x : Int) := by omega
            go_wp2_with fail
            go_quiet (fail)
            go_wp2_with fail
            go_ret
            exact ⟨by rw [HS2.out]; rfl, below_drewN HB.out _⟩
    · have hme : m = s.R := by omega
      have HME : Hid (s.R = m) := hme.symm
      have hlti : ¬ ((m : Int) < (s.R : Int)) := by omega
      clear hK1
      go_wp2_with fail
      go_ret
      exact ⟨by rw [HME.out, hsp.out]; rfl, hbel⟩
end Go.Proofs.Ytfpoiikhhjdpdab
