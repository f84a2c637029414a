/- The walks of the field's functions: the program's (Mul, Div) and the document's. -/
import Derived.Test.YtbjaiojajmdilaaProg
import Derived.Test.YtbjaiojajmdilaaMath
import Derived.WalkKit
import Derived.WalkSpells
namespace Go.Proofs.Ytbjaiojajmdilaa

open Go.RowKit
theorem wrap_i64_small (n : Int) (h0 : 0 ≤ n) (h : n < 65536) : IntKind.i64.wrap n = n := by
  have h1 : n % 18446744073709551616 = n := by omega
  have h2 : ¬ (9223372036854775808 ≤ n) := by omega
  simp [IntKind.wrap, IntKind.bits, IntKind.signed, h1, h2]
theorem ofInt_i64 (a : Nat) (ha : a < 65536) : (BitVec.ofInt 64 (a : Int)).toNat = a := by
  rw [BitVec.ofInt_natCast, BitVec.toNat_ofNat]; exact Nat.mod_eq_of_lt (by omega)
theorem i64_xor_nat (a b : Nat) (ha : a < 65536) (hb : b < 65536) : bits .xor .i64 (a : Int) (b : Int) = ((a ^^^ b : Nat) : Int) := by
  have hx : a ^^^ b < 65536 := Nat.xor_lt_two_pow (n := 16) ha hb
  show IntKind.i64.wrap ((BitVec.ofInt 64 (a : Int) ^^^ BitVec.ofInt 64 (b : Int)).toNat : Int) = _
  rw [BitVec.toNat_xor, ofInt_i64 a ha, ofInt_i64 b hb, wrap_i64_small _ (by omega) (by omega)]
theorem i64_and_nat (a b : Nat) (ha : a < 65536) (hb : b < 65536) : bits .and .i64 (a : Int) (b : Int) = ((a &&& b : Nat) : Int) := by
  have hx : a &&& b < 65536 := Nat.and_lt_two_pow (n := 16) _ hb
  show IntKind.i64.wrap ((BitVec.ofInt 64 (a : Int) &&& BitVec.ofInt 64 (b : Int)).toNat : Int) = _
  rw [BitVec.toNat_and, ofInt_i64 a ha, ofInt_i64 b hb, wrap_i64_small _ (by omega) (by omega)]
theorem i64_bit_nat (a k : Nat) (ha : a < 65536) : bits .and .i64 ((a : Int) / 2 ^ k) 1 = ((bif a.testBit k then 1 else 0 : Nat) : Int) := by
  have hd : a / 2 ^ k < 65536 := Nat.lt_of_le_of_lt (Nat.div_le_self _ _) ha
  have h0 : ((a : Int) / 2 ^ k) = ((a / 2 ^ k : Nat) : Int) := by simp
  rw [h0, show (1 : Int) = ((1 : Nat) : Int) from rfl, i64_and_nat _ _ hd (by omega), Nat.and_one_is_mod, Nat.testBit_eq_decide_div_mod_eq]
  have hm : a / 2 ^ k % 2 = 0 ∨ a / 2 ^ k % 2 = 1 := by omega
  rcases hm with h | h <;> simp [h]
theorem tw_big (a : Nat) (h : a < 256) (h' : 255 < (a : Int) * 2) : Hd.tw a = ((a * 2) ^^^ 285) % 256 := by
  have : ∀ a, a < 256 → 255 < a * 2 → Hd.tw a = ((a * 2) ^^^ 285) % 256 := by decide +kernel
  exact this a h (by omega)
theorem tw_small (a : Nat) (h : (a : Int) * 2 ≤ 255) : Hd.tw a = a * 2 := by
  have : ∀ a, a < 128 → Hd.tw a = a * 2 := by decide +kernel
  exact this a (by omega)

set_option maxHeartbeats 400000 in
theorem twice_any (a : Nat) (w : World) (h : a < 256) :
    Calls Try.prog 52 #[.int .u8 a] w fun e w' => e = .returned (.int .u8 (Hd.tw a : Nat)) ∧ w' = w := by
  go_enter Try.func52, Try.ntmps52
  go_wp2
  · rename_i h'
    go_ret
    refine ⟨?_, rfl⟩
    rw [tw_big a h h']
    have := i64_xor_nat (a * 2) 285 (by omega) (by omega)
    rw [show ((a * 2 : Nat) : Int) = (a : Int) * 2 by omega] at this
    rw [show (285 : Int) = ((285 : Nat) : Int) from rfl, this]
    rfl
  · rename_i h'
    go_ret
    exact ⟨by rw [tw_small a h']; rfl, rfl⟩

theorem mulTo_odd (n a b s : Nat) (h : b % 2 = 1) : Hd.mulTo n (Hd.tw a) (b / 2) ^^^ (s ^^^ a) = Hd.mulTo (n + 1) a b ^^^ s := by
  simp only [Hd.mulTo, Hd.msk, Nat.testBit_zero, h, decide_true, cond_true]
  rw [Nat.xor_comm s a, ← Nat.xor_assoc, Nat.xor_comm _ a]
theorem mulTo_even (n a b : Nat) (h : b % 2 = 0) : Hd.mulTo n (Hd.tw a) (b / 2) = Hd.mulTo (n + 1) a b := by
  simp [Hd.mulTo, Hd.msk, Nat.testBit_zero, h]

set_option maxHeartbeats 400000 in
theorem fmul_any (a b : Nat) (w : World) (ha : a < 256) (hb : b < 256) :
    Calls Try.prog 32 #[.int .u8 a, .int .u8 b] w fun e w' => e = .returned (.int .u8 (Hd.mul a b : Nat)) ∧ w' = w := by
  go_enter Try.func32, Try.ntmps32
  go_wp2
  go_loop [0, 1, 5] (fun x y s => ∃ n a' b' s' : Nat, a' < 256 ∧ b' < 2 ^ n ∧ n ≤ 8 ∧ s' < 256 ∧ Hid (Hd.mulTo n a' b' ^^^ s' = Hd.mul a b) ∧ x = .int .u8 a' ∧ y = .int .u8 b' ∧ s = .int .u8 s') (fun _ y _ => (intOf y).toNat)
  case atStart => exact ⟨8, a, b, 0, ha, hb, by omega, by omega, (show Hid _ from Nat.xor_zero _), rfl, rfl, rfl⟩
  case round =>
    obtain ⟨n, a', b', s', ha', hb', hn, hs', hq, rfl, rfl, rfl⟩ := hrel
    have hb8 : b' < 256 := Nat.lt_of_lt_of_le hb' (Nat.pow_le_pow_right (by omega) hn : 2 ^ n ≤ 2 ^ 8)
    by_cases hz : b' = 0
    · subst hz
      go_wp2
      go_ret
      have := hq.out
      rw [Hd.mulTo_zero, Nat.zero_xor] at this
      exact ⟨by rw [this]; rfl, rfl⟩
    · cases n with
      | zero => simp at hb'; omega
      | succ n =>
        have hp : b' / 2 < 2 ^ n := by rw [Nat.pow_succ] at hb'; omega
        have hpos : 0 < b' := by omega
        clear hb' hz
        by_cases ho : b' % 2 = 1
        · have HQ : Hid (Hd.mulTo n (Hd.tw a') (b' / 2) ^^^ (s' ^^^ a') = Hd.mul a b) := (show _ = _ by rw [mulTo_odd n a' b' s' ho]; exact hq.out)
          clear hq
          have hx := u8_xor_nat s' a' hs' ha'
          have hl := Hd.xor_lt s' a' hs' ha'
          have ht := Hd.tw_lt a' ha'
          go_wp2_with (go_at_call 52; refine (twice_any _ _ ha').mono ?_; rintro e w' ⟨rfl, rfl⟩)
          exact ⟨⟨n, _, b' / 2, _, ht, hp, by omega, hl, HQ, rfl, by go_num, rfl⟩, by simp [intOf]; omega⟩
        · have HQ : Hid (Hd.mulTo n (Hd.tw a') (b' / 2) ^^^ s' = Hd.mul a b) := (show _ = _ by rw [mulTo_even n a' b' (by omega)]; exact hq.out)
          clear hq
          have ht := Hd.tw_lt a' ha'
          have ho' : b' % 2 = 0 := by omega
          clear ho
          go_wp2_with (go_at_call 52; refine (twice_any _ _ ha').mono ?_; rintro e w' ⟨rfl, rfl⟩)
          exact ⟨⟨n, _, b' / 2, _, ht, hp, by omega, hs', HQ, rfl, by go_num, rfl⟩, by simp [intOf]; omega⟩

set_option maxHeartbeats 400000 in
theorem Mul_any (a b : Nat) (w : World) (ha : a < 256) (hb : b < 256) :
    Calls Try.prog 13 #[.int .u8 a, .int .u8 b] w fun e w' => e = .returned (.int .u8 (Hd.mul a b : Nat)) ∧ w' = w := by
  go_enter Try.func13, Try.ntmps13
  go_wp2_with (go_at_call 32; refine (fmul_any _ _ _ ha hb).mono ?_; rintro e w' ⟨rfl, rfl⟩)
  go_ret
  exact ⟨rfl, rfl⟩

set_option maxHeartbeats 400000 in
theorem fdiv_any (a b : Nat) (w : World) (ha : a < 256) (hb : b < 256) :
    Calls Try.prog 33 #[.int .u8 a, .int .u8 b] w fun e w' => e = .returned (.int .u8 (Hd.div a b : Nat)) ∧ w' = w := by
  go_enter Try.func33, Try.ntmps33
  go_wp2
  go_loop [0, 5, 6] (fun x p i => ∃ k a' p' : Nat, a' < 256 ∧ p' < 256 ∧ k ≤ 7 ∧ Hid (Hd.divTo (7 - k) a' p' = Hd.div a b) ∧ x = .int .u8 a' ∧ p = .int .u8 p' ∧ i = .int .i64 k) (fun _ _ i => 7 - (intOf i).toNat)
  case atStart => exact ⟨0, a, b, ha, hb, by omega, (show Hid _ from rfl), rfl, rfl, rfl⟩
  case round =>
    obtain ⟨k, a', p', ha', hp', hk, hq, rfl, rfl, rfl⟩ := hrel
    by_cases hlt : k < 7
    · have h1 := Hd.mul_lt p' p' hp'
      have h2 := Hd.mul_lt a' (Hd.mul p' p') ha'
      have HQ : Hid (Hd.divTo (7 - (k + 1)) (Hd.mul a' (Hd.mul p' p')) (Hd.mul p' p') = Hd.div a b) := by
        have := hq.out
        rw [show 7 - k = (7 - (k + 1)) + 1 by omega] at this
        exact this
      clear hq
      go_wp2_with fail
      refine (fmul_any _ _ _ hp' hp').mono ?_
      rintro e w' ⟨rfl, rfl⟩
      go_wp2_with fail
      refine (fmul_any _ _ _ ha' h1).mono ?_
      rintro e w' ⟨rfl, rfl⟩
      go_wp2_with fail
      exact ⟨⟨k + 1, _, _, h2, h1, by omega, HQ, rfl, rfl, by go_num⟩, by simp [intOf]; omega⟩
    · have hk7 : k = 7 := by omega
      subst hk7
      go_wp2
      go_ret
      have := hq.out
      simp only [Nat.sub_self, Hd.divTo] at this
      exact ⟨by rw [this]; rfl, rfl⟩

set_option maxHeartbeats 400000 in
theorem Div_zero (a : Nat) (w : World) :
    Calls Try.prog 14 #[.int .u8 a, .int .u8 0] w fun e w' => e = .returned (.tuple #[.int .u8 0, .int .i64 1]) ∧ w' = w := by
  go_enter Try.func14, Try.ntmps14
  go_wp2_with fail
  go_ret2
  exact ⟨rfl, rfl⟩
set_option maxHeartbeats 400000 in
theorem Div_any (a b : Nat) (w : World) (ha : a < 256) (hb : b < 256) (h0 : 0 < b) :
    Calls Try.prog 14 #[.int .u8 a, .int .u8 b] w fun e w' => e = .returned (.tuple #[.int .u8 (Hd.div a b : Nat), .int .i64 0]) ∧ w' = w := by
  go_enter Try.func14, Try.ntmps14
  go_wp2_with (go_at_call 33; refine (fdiv_any _ _ _ ha hb).mono ?_; rintro e w' ⟨rfl, rfl⟩)
  go_ret2
  exact ⟨rfl, rfl⟩

/- The document's product. -/
theorem rsum_lt (n a b : Nat) (ha : a < 256) (hn : n ≤ 8) : Hd.rsum n a b < 65536 := by
  induction n with
  | zero => simp [Hd.rsum]
  | succ n ih =>
    simp only [Hd.rsum]
    refine Nat.xor_lt_two_pow (n := 16) (ih (by omega)) ?_
    have h1 : 2 ^ n ≤ 2 ^ 7 := Nat.pow_le_pow_right (by omega) (by omega)
    have h2 : a * 2 ^ n < 256 * 2 ^ 7 := Nat.lt_of_le_of_lt (Nat.mul_le_mul_left a h1) (by omega)
    cases b.testBit n
    · simp [Hd.msk]
    · simp only [Hd.msk, cond_true]; omega
theorem red_step_lt (n i : Nat) (hn : n < 65536) (hi : i < 8) : n ^^^ 285 * 2 ^ i < 65536 := by
  have h1 : 2 ^ i ≤ 2 ^ 7 := Nat.pow_le_pow_right (by omega) (by omega)
  exact Nat.xor_lt_two_pow (n := 16) hn (by omega)
theorem pow_cast (k : Nat) : ((2 : Int) ^ k) = ((2 ^ k : Nat) : Int) := by simp

set_option maxRecDepth 100000 in
set_option maxHeartbeats 400000 in
theorem rmul_any (a b : Nat) (w : World) (ha : a < 256) (hb : b < 256) :
    Calls Try.prog 63 #[.int .u8 a, .int .u8 b] w fun e w' => e = .returned (.int .u8 (Hd.mul a b : Nat)) ∧ w' = w := by
  have HE : Hid (Hd.rred 8 (Hd.rsum 8 a b) = Hd.mul a b) := Hd.rmul_eq a b ha hb
  have hml := Hd.mul_lt a b ha
  go_enter Try.func63, Try.ntmps63
  go_wp2
  go_loop [5, 6] (fun n i => ∃ k m : Nat, k ≤ 8 ∧ i = .int .i64 k ∧ m < 65536 ∧ Hid (m = Hd.rsum k a b) ∧ n = .int .i64 m) (fun _ i => 8 - (intOf i).toNat)
  case atStart => exact ⟨0, 0, by omega, rfl, by omega, (show Hid _ from rfl), rfl⟩
  case round =>
    obtain ⟨k, m, hk, rfl, hm, hq, rfl⟩ := hrel
    by_cases hlt : k < 8
    · have hbit := i64_bit_nat b k (by omega)
      have hlm := rsum_lt (k + 1) a b ha (by omega)
      have h1 : 2 ^ k ≤ 2 ^ 7 := Nat.pow_le_pow_right (by omega) (by omega)
      have h2 : a * 2 ^ k < 256 * 2 ^ 7 := Nat.lt_of_le_of_lt (Nat.mul_le_mul_left a h1) (by omega)
      have h3 : (a : Int) * 2 ^ k = ((a * 2 ^ k : Nat) : Int) := by simp
      cases hc : b.testBit k
      · have HQ : Hid (m = Hd.rsum (k + 1) a b) := (show _ = _ by simp only [Hd.rsum, hc, Hd.msk, cond_false, Nat.xor_zero]; exact hq.out)
        clear hq hlm h1 h2
        rw [hc] at hbit
        simp only [cond_false] at hbit
        clear hc h3
        go_wp2
        exact ⟨⟨k + 1, m, by omega, by go_num, hm, HQ, rfl⟩, by simp [intOf]; omega⟩
      · have HQ : Hid (m ^^^ a * 2 ^ k = Hd.rsum (k + 1) a b) := (show _ = _ by simp only [Hd.rsum, hc, Hd.msk, cond_true]; rw [← hq.out])
        have hl : m ^^^ a * 2 ^ k < 65536 := by rw [HQ.out]; exact hlm
        have hx := i64_xor_nat m (a * 2 ^ k) hm (by omega)
        rw [← h3] at hx
        have hw64 : wrap64 ((a : Int) * 2 ^ k) = (a : Int) * 2 ^ k := (by unfold wrap64; rw [h3]; omega)
        have hk1 : k + 1 ≤ 8 := by omega
        clear hq hlm h1 h2 h3
        rw [hc] at hbit
        simp only [cond_true] at hbit
        clear hc
        go_wp2
        clear hw64
        exact ⟨⟨k + 1, _, hk1, by go_num, hl, HQ, rfl⟩, by clear hx hbit; simp [intOf]; omega⟩
    · have hk8 : k = 8 := by omega
      subst hk8
      have HR : Hid (Hd.rred 8 m = Hd.mul a b) := (show _ = _ by rw [← HE.out, ← hq.out])
      clear hq HE
      go_wp2
      go_loop [5, 7] (fun n i => ∃ k m : Nat, k ≤ 8 ∧ i = .int .i64 ((k : Int) - 1) ∧ m < 65536 ∧ Hid (Hd.rred k m = Hd.mul a b) ∧ n = .int .i64 m) (fun _ i => (intOf i + 1).toNat)
      case atStart => exact ⟨8, m, by omega, rfl, by omega, HR, rfl⟩
      case round =>
        clear HR hm
        obtain ⟨k, m, hk, rfl, hm, hq, rfl⟩ := hrel
        cases k with
        | zero =>
          have hz : Hd.mul a b = m := hq.out.symm
          go_wp2
          go_ret
          exact ⟨rfl, rfl⟩
        | succ j =>
          have hbit := i64_bit_nat m (j + 8) hm
          have hl := red_step_lt m j hm (by omega)
          have e1 : ((j + 1 : Nat) : Int) - 1 = (j : Int) := by omega
          rw [e1]
          cases hc : m.testBit (j + 8)
          · have HQ : Hid (Hd.rred j m = Hd.mul a b) := by
              show _ = _
              have := hq.out
              simpa only [Hd.rred, hc, Hd.msk, cond_false, Nat.xor_zero] using this
            clear hq
            rw [hc] at hbit
            simp only [cond_false] at hbit
            clear hc e1
            go_wp2
            exact ⟨⟨j, m, by omega, rfl, hm, HQ, rfl⟩, by simp [intOf]⟩
          · have HQ : Hid (Hd.rred j (m ^^^ 285 * 2 ^ j) = Hd.mul a b) := by
              show _ = _
              have := hq.out
              simpa only [Hd.rred, hc, Hd.msk, cond_true] using this
            have h1 : 2 ^ j ≤ 2 ^ 7 := Nat.pow_le_pow_right (by omega) (by omega)
            have h3 : (285 : Int) * 2 ^ j = ((285 * 2 ^ j : Nat) : Int) := by simp
            have hx := i64_xor_nat m (285 * 2 ^ j) hm (by omega)
            rw [← h3] at hx
            have h5 : 0 ≤ (285 : Int) * 2 ^ j := by rw [h3]; omega
            have h6 : (285 : Int) * 2 ^ j < 65536 := by rw [h3]; omega
            clear hq h1 h3
            rw [hc] at hbit
            simp only [cond_true] at hbit
            clear hc e1
            go_wp2
            exact ⟨⟨j, _, by omega, rfl, hl, HQ, rfl⟩, by simp [intOf]⟩

/- The document's quotient: by trying. -/
set_option maxRecDepth 100000 in
set_option maxHeartbeats 400000 in
theorem rdiv_any (a b : Nat) (w : World) (ha : a < 256) (hb : b < 256) (h0 : 0 < b) :
    Calls Try.prog 64 #[.int .u8 a, .int .u8 b] w fun e w' => e = .returned (.int .u8 (Hd.div a b : Nat)) ∧ w' = w := by
  have HU : Hid (∀ x, x < 256 → Hd.mul x b = a → x = Hd.div a b) := fun x hx h => Hd.div_unique a b x hb (by omega) hx h
  have HV : Hid (Hd.mul (Hd.div a b) b = a) := Hd.div_mul a b ha hb (by omega)
  have hdl := Hd.div_lt a b ha
  go_enter Try.func64, Try.ntmps64
  go_wp2
  go_loop [5] (fun n => ∃ k : Nat, k ≤ Hd.div a b ∧ n = .int .i64 k) (fun n => 256 - (intOf n).toNat)
  case atStart => exact ⟨0, by omega, rfl⟩
  case round =>
    obtain ⟨k, hk, rfl⟩ := hrel
    have hk2 : k < 256 := by omega
    by_cases hc : Hd.mul k b = a
    · have hkd := HU.out k hk2 hc
      have hc2 : (((Hd.mul k b : Nat) : Int) == (a : Int)) = true := by rw [hc]; simp
      clear hc HU HV
      have HK : Hid (k = Hd.div a b) := hkd
      clear hkd
      go_wp2_with (go_at_call 63; refine (rmul_any _ _ _ hk2 hb).mono ?_; rintro e w' ⟨rfl, rfl⟩)
      go_ret
      exact ⟨by rw [← HK.out]; rfl, rfl⟩
    · have hne : k ≠ Hd.div a b := fun e => hc (by rw [e]; exact HV.out)
      have hlt : k < Hd.div a b := by omega
      have hc2 : (((Hd.mul k b : Nat) : Int) == (a : Int)) = false := by
        rw [beq_eq_false_iff_ne]; intro h; exact hc (by omega)
      clear hc hne HU HV
      go_wp2_with (go_at_call 63; refine (rmul_any _ _ _ hk2 hb).mono ?_; rintro e w' ⟨rfl, rfl⟩)
      exact ⟨⟨k + 1, by omega, by go_num⟩, by simp [intOf]; omega⟩
end Go.Proofs.Ytbjaiojajmdilaa
