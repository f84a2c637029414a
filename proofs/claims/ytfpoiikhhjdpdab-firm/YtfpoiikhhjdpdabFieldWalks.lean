/- The walks of the field's functions: the program's (Mul, Div) and the document's. -/
import Derived.Test.YtfpoiikhhjdpdabProg
import Derived.Test.YtfpoiikhhjdpdabMath
import Derived.WalkKit
import Derived.WalkSpells
namespace Go.Proofs.Ytfpoiikhhjdpdab

open Go.RowKit
theorem wrap_i64_small (n : Int) (h0 : 0 ≤ n) (h : n < 65536) : IntKind.i64.wrap n = n := by
  have h1 : n % 18446744073709551616 = n := by omega
  have h2 : ¬ (9223372036854775808 ≤ n) := by omega
  simp [IntKind.wrap, IntKind.bits, IntKind.signed, h1, h2]
theorem ofInt_i64 (a : Nat) (ha : a < 65536) : (BitVec.ofInt 64 (a : Int)).toNat = a := by
  rw [BitVec.ofInt_natCast, BitVec.toNat_ofNat]; exact Nat.mod_eq_of_lt (by omega)
theorem i64_xor_nat (a b : Nat) (ha : a < 65536) (hb : b < 65536) : bits .xor .i64 (a : Int) (b : Int) = ((a ^^^ b : Nat) : Int) := by
  have hx : a ^^^ b < 65536 := Nat.xor_lt_two_pow (n := 16) ha hb
  show IntKind.i64.wrap ((BitVec.ofInt 64 (a : Int) ^^^ BitVec.ofInt 64 (b : Int)).toNat : Int) = _
  rw [BitVec.toNat_xor, ofInt_i64 a ha, ofInt_i64 b hb, wrap_i64_small _ (by omega) (by omega)]
theorem i64_and_nat (a b : Nat) (ha : a < 65536) (hb : b < 65536) : bits .and .i64 (a : Int) (b : Int) = ((a &&& b : Nat) : Int) := by
  have hx : a &&& b < 65536 := Nat.and_lt_two_pow (n := 16) _ hb
  show IntKind.i64.wrap ((BitVec.ofInt 64 (a : Int) &&& BitVec.ofInt 64 (b : Int)).toNat : Int) = _
  rw [BitVec.toNat_and, ofInt_i64 a ha, ofInt_i64 b hb, wrap_i64_small _ (by omega) (by omega)]
theorem i64_bit_nat (a k : Nat) (ha : a < 65536) : bits .and .i64 ((a : Int) / 2 ^ k) 1 = ((bif a.testBit k then 1 else 0 : Nat) : Int) := by
  have hd : a / 2 ^ k < 65536 := Nat.lt_of_le_of_lt (Nat.div_le_self _ _) ha
  have h0 : ((a : Int) / 2 ^ k) = ((a / 2 ^ k : Nat) : Int) := by simp
  rw [h0, show (1 : Int) = ((1 : Nat) : Int) from rfl, i64_and_nat _ _ hd (by omega), Nat.and_one_is_mod, Nat.testBit_eq_decide_div_mod_eq]
  have hm : a / 2 ^ k % 2 = 0 ∨ a / 2 ^ k % 2 = 1 := by omega
  rcases hm with h | h <;> simp [h]
theorem tw_big (a : Nat) (h : a < 256) (h' : 255 < (a : Int) * 2) : Hd.tw a = ((a * 2) ^^^ 285) % 256 := by
  have : ∀ a, a < 256 → 255 < a * 2 → Hd.tw a = ((a * 2) ^^^ 285) % 256 := by decide +kernel
  exact this a h (by omega)
theorem tw_small (a : Nat) (h : (a : Int) * 2 ≤ 255) : Hd.tw a = a * 2 := by
  have : ∀ a, a < 128 → Hd.tw a = a * 2 := by decide +kernel
  exact this a (by omega)

set_option maxHeartbeats 400000 in
theorem twice_any (a : Nat) (w : World) (h : a < 256) :
    Calls Try.prog 85 #[.int .u8 a] w fun e w' => e = .returned (.int .u8 (Hd.tw a : Nat)) ∧ w' = w := by
  go_enter Try.func85, Try.ntmps85
  go_wp2
  · rename_i h'
    go_ret
    refine ⟨?_, rfl⟩
    rw [tw_big a h h']
    have := i64_xor_nat (a * 2) 285 (by omega) (by omega)
    rw [show ((a * 2 : Nat) : Int) = (a : Int) * 2 by omega] at this
    rw [show (285 : Int) = ((285 : Nat) : Int) from rfl, this]
    rfl
  · rename_i h'
    go_ret
    exact ⟨by rw [tw_small a h']; rfl, rfl⟩

theorem mulTo_odd (n a b s : Nat) (h : b % 2 = 1) : Hd.mulTo n (Hd.tw a) (b / 2) ^^^ (s ^^^ a) = Hd.mulTo (n + 1) a b ^^^ s := by
  simp only [Hd.mulTo, Hd.msk, Nat.testBit_zero, h, decide_true, cond_true]
  rw [Nat.xor_comm s a, ← Nat.xor_assoc, Nat.xor_comm _ a]
theorem mulTo_even (n a b : Nat) (h : b % 2 = 0) : Hd.mulTo n (Hd.tw a) (b / 2) = Hd.mulTo (n + 1) a b := by
  simp [Hd.mulTo, Hd.msk, Nat.testBit_zero, h]

set_option maxHeartbeats 400000 in
theorem fmul_any (a b : Nat) (w : World) (ha : a < 256) (hb : b < 256) :
    Calls Try.prog 67 #[.int .u8 a, .int .u8 b] w fun e w' => e = .returned (.int .u8 (Hd.mul a b : Nat)) ∧ w' = w := by
  go_enter Try.func67, Try.ntmps67
  go_wp2
  go_loop [0, 1, 5] (fun x y s => ∃ n a' b' s' : Nat, a' < 256 ∧ b' < 2 ^ n ∧ n ≤ 8 ∧ s' < 256 ∧ Hid (Hd.mulTo n a' b' ^^^ s' = Hd.mul a b) ∧ x = .int .u8 a' ∧ y = .int .u8 b' ∧ s = .int .u8 s') (fun _ y _ => (intOf y).toNat)
  case atStart => exact ⟨8, a, b, 0, ha, hb, by omega, by omega, (show Hid _ from Nat.xor_zero _), rfl, rfl, rfl⟩
  case round =>
    obtain ⟨n, a', b', s', ha', hb', hn, hs', hq, rfl, rfl, rfl⟩ := hrel
    have hb8 : b' < 256 := Nat.lt_of_lt_of_le hb' (Nat.pow_le_pow_right (by omega) hn : 2 ^ n ≤ 2 ^ 8)
    by_cases hz : b' = 0
    · subst hz
      go_wp2
      go_ret
      have := hq.out
      rw [Hd.mulTo_zero, Nat.zero_xor] at this
      exact ⟨by rw [this]; rfl, rfl⟩
    · cases n with
      | zero => simp at hb'; omega
      | succ n =>
        have hp : b' / 2 < 2 ^ n := by rw [Nat.pow_succ] at hb'; omega
        have hpos : 0 < b' := by omega
        clear hb' hz
        by_cases ho : b' % 2 = 1
        · have HQ : Hid (Hd.mulTo n (Hd.tw a') (b' / 2) ^^^ (s' ^^^ a') = Hd.mul a b) := (show _ = _ by rw [mulTo_odd n a' b' s' ho]; exact hq.out)
          clear hq
          have hx := u8_xor_nat s' a' hs' ha'
          have hl := Hd.xor_lt s' a' hs' ha'
          have ht := Hd.tw_lt a' ha'
          go_wp2_with (go_at_call 85; refine (twice_any _ _ ha').mono ?_; rintro e w' ⟨rfl, rfl⟩)
          exact ⟨⟨n, _, b' / 2, _, ht, hp, by omega, hl, HQ, rfl, by go_num, rfl⟩, by simp [intOf]; omega⟩
        · have HQ : Hid (Hd.mulTo n (Hd.tw a') (b' / 2) ^^^ s' = Hd.mul a b) := (show _ = _ by rw [mulTo_even n a' b' (by omega)]; exact hq.out)
          clear hq
          have ht := Hd.tw_lt a' ha'
          have ho' : b' % 2 = 0 := by omega
          clear ho
          go_wp2_with (go_at_call 85; refine (twice_any _ _ ha').mono ?_; rintro e w' ⟨rfl, rfl⟩)
          exact ⟨⟨n, _, b' / 2, _, ht, hp, by omega, hs', HQ, rfl, by go_num, rfl⟩, by simp [intOf]; omega⟩

set_option maxHeartbeats 400000 in
theorem Mul_any (a b : Nat) (w : World) (ha : a < 256) (hb : b < 256) :
    Calls Try.prog 46 #[.int .u8 a, .int .u8 b] w fun e w' => e = .returned (.int .u8 (Hd.mul a b : Nat)) ∧ w' = w := by
  go_enter Try.func46, Try.ntmps46
  go_wp2_with (go_at_call 67; refine (fmul_any _ _ _ ha hb).mono ?_; rintro e w' ⟨rfl, rfl⟩)
  go_ret
  exact ⟨rfl, rfl⟩

set_option maxHeartbeats 400000 in
theorem fdiv_any (a b : Nat) (w : World) (ha : a < 256) (hb : b < 256) :
    Calls Try.prog 86 #[.int .u8 a, .int .u8 b] w fun e w' => e = .returned (.int .u8 (Hd.div a b : Nat)) ∧ w' = w := by
  go_enter Try.func86, Try.ntmps86
  go_wp2
  go_loop [0, 5, 6] (fun x p i => ∃ k a' p' : Nat, a' < 256 ∧ p' < 256 ∧ k ≤ 7 ∧ Hid (Hd.divTo (7 - k) a' p' = Hd.div a b) ∧ x = .int .u8 a' ∧ p = .int .u8 p' ∧ i = .int .i64 k) (fun _ _ i => 7 - (intOf i).toNat)
  case atStart => exact ⟨0, a, b, ha, hb, by omega, (show Hid _ from rfl), rfl, rfl, rfl⟩
  case round =>
    obtain ⟨k, a', p', ha', hp', hk, hq, rfl, rfl, rfl⟩ := hrel
    by_cases hlt : k < 7
    · have h1 := Hd.mul_lt p' p' hp'
      have h2 := Hd.mul_lt a' (Hd.mul p' p') ha'
      have HQ : Hid (Hd.divTo (7 - (k + 1)) (Hd.mul a' (Hd.mul p' p')) (Hd.mul p' p') = Hd.div a b) := by
        have := hq.out
        rw [show 7 - k = (7 - (k + 1)) + 1 by omega] at this
        exact this
      clear hq
      go_wp2_with fail
      refine (fmul_any _ _ _ hp' hp').mono ?_
      rintro e w' ⟨rfl, rfl⟩
      go_wp2_with fail
      refine (fmul_any _ _ _ ha' h1).mono ?_
      rintro e w' ⟨rfl, rfl⟩
      go_wp2_with fail
      exact ⟨⟨k + 1, _, _, h2, h1, by omega, HQ, rfl, rfl, by go_num⟩, by simp [intOf]; omega⟩
    · have hk7 : k = 7 := by omega
      subst hk7
      go_wp2
      go_ret
      have := hq.out
      simp only [Nat.sub_self, Hd.divTo] at this
      exact ⟨by rw [this]; rfl, rfl⟩

theorem rsum_lt (n a b : Nat) (ha : a < 256) (hn : n ≤ 8) : Hd.rsum n a b < 65536 := by
  induction n with
  | zero => simp [Hd.rsum]
  | succ n ih =>
    simp only [Hd.rsum]
    refine Nat.xor_lt_two_pow (n := 16) (ih (by omega)) ?_
    have h1 : 2 ^ n ≤ 2 ^ 7 := Nat.pow_le_pow_right (by omega) (by omega)
    have h2 : a * 2 ^ n < 256 * 2 ^ 7 := Nat.lt_of_le_of_lt (Nat.mul_le_mul_left a h1) (by omega)
    cases b.testBit n
    · simp [Hd.msk]
    · simp only [Hd.msk, cond_true]; omega
theorem red_step_lt (n i : Nat) (hn : n < 65536) (hi : i < 8) : n ^^^ 285 * 2 ^ i < 65536 := by
  have h1 : 2 ^ i ≤ 2 ^ 7 := Nat.pow_le_pow_right (by omega) (by omega)
  exact Nat.xor_lt_two_pow (n := 16) hn (by omega)
theorem pow_cast (k : Nat) : ((2 : Int) ^ k) = ((2 ^ k : Nat) : Int) := by simp
end Go.Proofs.Ytfpoiikhhjdpdab
