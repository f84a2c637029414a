/- The document's product and quotient. -/
import Derived.Test.YtfpoiikhhjdpdaaGreatFieldWalks
namespace Go.Proofs.YtfpoiikhhjdpdaaGreat
open Go.RowKit
set_option maxRecDepth 100000 in
set_option maxHeartbeats 400000 in
theorem rmul_any (a b : Nat) (w : World) (ha : a < 256) (hb : b < 256) :
    Calls Tryz.prog 20 #[.int .u8 a, .int .u8 b] w fun e w' => e = .returned (.int .u8 (Hd.mul a b : Nat)) ∧ w' = w := by
  have HE : Hid (Hd.rred 8 (Hd.rsum 8 a b) = Hd.mul a b) := Hd.rmul_eq a b ha hb
  have hml := Hd.mul_lt a b ha
  go_enter Tryz.func20, Tryz.ntmps20
  go_wp2
  go_loop [5, 6] (fun n i => ∃ k m : Nat, k ≤ 8 ∧ i = .int .i64 k ∧ m < 65536 ∧ Hid (m = Hd.rsum k a b) ∧ n = .int .i64 m) (fun _ i => 8 - (intOf i).toNat)
  case atStart => exact ⟨0, 0, by omega, rfl, by omega, (show Hid _ from rfl), rfl⟩
  case round =>
    obtain ⟨k, m, hk, rfl, hm, hq, rfl⟩ := hrel
    by_cases hlt : k < 8
    · have hbit := i64_bit_nat b k (by omega)
      have hlm := rsum_lt (k + 1) a b ha (by omega)
      have h1 : 2 ^ k ≤ 2 ^ 7 := Nat.pow_le_pow_right (by omega) (by omega)
      have h2 : a * 2 ^ k < 256 * 2 ^ 7 := Nat.lt_of_le_of_lt (Nat.mul_le_mul_left a h1) (by omega)
      have h3 : (a : Int) * 2 ^ k = ((a * 2 ^ k : Nat) : Int) := by simp
      cases hc : b.testBit k
      · have HQ : Hid (m = Hd.rsum (k + 1) a b) := (show _ = _ by simp only [Hd.rsum, hc, Hd.msk, cond_false, Nat.xor_zero]; exact hq.out)
        clear hq hlm h1 h2
        rw [hc] at hbit
        simp only [cond_false] at hbit
        clear hc h3
        go_wp2
        exact ⟨⟨k + 1, m, by omega, by go_num, hm, HQ, rfl⟩, by simp [intOf]; omega⟩
      · have HQ : Hid (m ^^^ a * 2 ^ k = Hd.rsum (k + 1) a b) := (show _ = _ by simp only [Hd.rsum, hc, Hd.msk, cond_true]; rw [← hq.out])
        have hl : m ^^^ a * 2 ^ k < 65536 := by rw [HQ.out]; exact hlm
        have hx := i64_xor_nat m (a * 2 ^ k) hm (by omega)
        rw [← h3] at hx
        have hw64 : wrap64 ((a : Int) * 2 ^ k) = (a : Int) * 2 ^ k := (by unfold wrap64; rw [h3]; omega)
        have hk1 : k + 1 ≤ 8 := by omega
        clear hq hlm h1 h2 h3
        rw [hc] at hbit
        simp only [cond_true] at hbit
        clear hc
        go_wp2
        clear hw64
        exact ⟨⟨k + 1, _, hk1, by go_num, hl, HQ, rfl⟩, by clear hx hbit; simp [intOf]; omega⟩
    · have hk8 : k = 8 := by omega
      subst hk8
      have HR : Hid (Hd.rred 8 m = Hd.mul a b) := (show _ = _ by rw [← HE.out, ← hq.out])
      clear hq HE
      go_wp2
      go_loop [5, 7] (fun n i => ∃ k m : Nat, k ≤ 8 ∧ i = .int .i64 ((k : Int) - 1) ∧ m < 65536 ∧ Hid (Hd.rred k m = Hd.mul a b) ∧ n = .int .i64 m) (fun _ i => (intOf i + 1).toNat)
      case atStart => exact ⟨8, m, by omega, rfl, by omega, HR, rfl⟩
      case round =>
        clear HR hm
        obtain ⟨k, m, hk, rfl, hm, hq, rfl⟩ := hrel
        cases k with
        | zero =>
          have hz : Hd.mul a b = m := hq.out.symm
          go_wp2
          go_ret
          exact ⟨rfl, rfl⟩
        | succ j =>
          have hbit := i64_bit_nat m (j + 8) hm
          have hl := red_step_lt m j hm (by omega)
          have e1 : ((j + 1 : Nat) : Int) - 1 = (j : Int) := by omega
          rw [e1]
          cases hc : m.testBit (j + 8)
          · have HQ : Hid (Hd.rred j m = Hd.mul a b) := by
              show _ = _
              have := hq.out
              simpa only [Hd.rred, hc, Hd.msk, cond_false, Nat.xor_zero] using this
            clear hq
            rw [hc] at hbit
            simp only [cond_false] at hbit
            clear hc e1
            go_wp2
            exact ⟨⟨j, m, by omega, rfl, hm, HQ, rfl⟩, by simp [intOf]⟩
          · have HQ : Hid (Hd.rred j (m ^^^ 285 * 2 ^ j) = Hd.mul a b) := by
              show _ = _
              have := hq.out
              simpa only [Hd.rred, hc, Hd.msk, cond_true] using this
            have h1 : 2 ^ j ≤ 2 ^ 7 := Nat.pow_le_pow_right (by omega) (by omega)
            have h3 : (285 : Int) * 2 ^ j = ((285 * 2 ^ j : Nat) : Int) := by simp
            have hx := i64_xor_nat m (285 * 2 ^ j) hm (by omega)
            rw [← h3] at hx
            have h5 : 0 ≤ (285 : Int) * 2 ^ j := by rw [h3]; omega
            have h6 : (285 : Int) * 2 ^ j < 65536 := by rw [h3]; omega
            clear hq h1 h3
            rw [hc] at hbit
            simp only [cond_true] at hbit
            clear hc e1
            go_wp2
            exact ⟨⟨j, _, by omega, rfl, hl, HQ, rfl⟩, by simp [intOf]⟩

/- The document's quotient: by trying. -/
set_option maxRecDepth 100000 in
set_option maxHeartbeats 400000 in
theorem rdiv_any (a b : Nat) (w : World) (ha : a < 256) (hb : b < 256) (h0 : 0 < b) :
    Calls Tryz.prog 22 #[.int .u8 a, .int .u8 b] w fun e w' => e = .returned (.int .u8 (Hd.div a b : Nat)) ∧ w' = w := by
  have HU : Hid (∀ x, x < 256 → Hd.mul x b = a → x = Hd.div a b) := fun x hx h => Hd.div_unique a b x hb (by omega) hx h
  have HV : Hid (Hd.mul (Hd.div a b) b = a) := Hd.div_mul a b ha hb (by omega)
  have hdl := Hd.div_lt a b ha
  go_enter Tryz.func22, Tryz.ntmps22
  go_wp2
  go_loop [5] (fun n => ∃ k : Nat, k ≤ Hd.div a b ∧ n = .int .i64 k) (fun n => 256 - (intOf n).toNat)
  case atStart => exact ⟨0, by omega, rfl⟩
  case round =>
    obtain ⟨k, hk, rfl⟩ := hrel
    have hk2 : k < 256 := by omega
    by_cases hc : Hd.mul k b = a
    · have hkd := HU.out k hk2 hc
      have hc2 : (((Hd.mul k b : Nat) : Int) == (a : Int)) = true := by rw [hc]; simp
      clear hc HU HV
      have HK : Hid (k = Hd.div a b) := hkd
      clear hkd
      go_wp2_with (go_at_call 20; refine (rmul_any _ _ _ hk2 hb).mono ?_; rintro e w' ⟨rfl, rfl⟩)
      go_ret
      exact ⟨by rw [← HK.out]; rfl, rfl⟩
    · have hne : k ≠ Hd.div a b := fun e => hc (by rw [e]; exact HV.out)
      have hlt : k < Hd.div a b := by omega
      have hc2 : (((Hd.mul k b : Nat) : Int) == (a : Int)) = false := by
        rw [beq_eq_false_iff_ne]; intro h; exact hc (by omega)
      clear hc hne HU HV
      go_wp2_with (go_at_call 20; refine (rmul_any _ _ _ hk2 hb).mono ?_; rintro e w' ⟨rfl, rfl⟩)
      exact ⟨⟨k + 1, by omega, by go_num⟩, by simp [intOf]; omega⟩
end Go.Proofs.YtfpoiikhhjdpdaaGreat
