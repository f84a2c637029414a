/- Plain mathematics of the field (DOC.md, Words and P3): the product is linear in both arguments; all else by its basis. -/
namespace Hd
def msk (c : Bool) (x : Nat) : Nat := bif c then x else 0
theorem msk_xor (c : Bool) (x y : Nat) : msk c (x ^^^ y) = msk c x ^^^ msk c y := by cases c <;> simp [msk]
theorem msk_bxor (c d : Bool) (x : Nat) : msk (c ^^ d) x = msk c x ^^^ msk d x := by cases c <;> cases d <;> simp [msk]
theorem msk_zero (c : Bool) : msk c 0 = 0 := by cases c <;> rfl
theorem x4 (a b c d : Nat) : (a ^^^ b) ^^^ (c ^^^ d) = (a ^^^ c) ^^^ (b ^^^ d) := by
  rw [Nat.xor_assoc, Nat.xor_assoc, ← Nat.xor_assoc b, Nat.xor_comm b c, Nat.xor_assoc c]
theorem xmul (a b n : Nat) : (a ^^^ b) * 2 ^ n = a * 2 ^ n ^^^ b * 2 ^ n := by
  rw [← Nat.shiftLeft_eq, ← Nat.shiftLeft_eq, ← Nat.shiftLeft_eq, Nat.shiftLeft_xor_distrib]
theorem xmul2 (a b : Nat) : 2 * (a ^^^ b) = 2 * a ^^^ 2 * b := by
  have := xmul a b 1; simp only [Nat.pow_one] at this; rw [Nat.mul_comm, this, Nat.mul_comm a, Nat.mul_comm b]
theorem xdiv2 (a b : Nat) : (a ^^^ b) / 2 = a / 2 ^^^ b / 2 := by
  apply Nat.eq_of_testBit_eq; intro i; simp [Nat.testBit_div_two]
def tw (a : Nat) : Nat := (2 * a) ^^^ msk (a.testBit 7) 285
theorem tw_xor (a b : Nat) : tw (a ^^^ b) = tw a ^^^ tw b := by
  unfold tw; rw [xmul2, Nat.testBit_xor, msk_bxor, x4]
theorem tw_zero : tw 0 = 0 := rfl
def mulTo : Nat → Nat → Nat → Nat
  | 0, _, _ => 0
  | n + 1, a, b => msk (b.testBit 0) a ^^^ mulTo n (tw a) (b / 2)
def mul (a b : Nat) : Nat := mulTo 8 a b
theorem mulTo_left (n a a' b : Nat) : mulTo n (a ^^^ a') b = mulTo n a b ^^^ mulTo n a' b := by
  induction n generalizing a a' b with
  | zero => simp [mulTo]
  | succ n ih => simp only [mulTo]; rw [tw_xor, ih, msk_xor, x4]
theorem mulTo_right (n a b b' : Nat) : mulTo n a (b ^^^ b') = mulTo n a b ^^^ mulTo n a b' := by
  induction n generalizing a b b' with
  | zero => simp [mulTo]
  | succ n ih => simp only [mulTo]; rw [xdiv2, ih, Nat.testBit_xor, msk_bxor, x4]
theorem mulTo_zero (n a : Nat) : mulTo n a 0 = 0 := by
  induction n generalizing a with
  | zero => rfl
  | succ n ih => simp [mulTo, ih, msk]
theorem mulTo_zero_left (n b : Nat) : mulTo n 0 b = 0 := by
  induction n generalizing b with
  | zero => rfl
  | succ n ih => simp [mulTo, ih, msk_zero, tw_zero]
theorem mul_left (a a' b : Nat) : mul (a ^^^ a') b = mul a b ^^^ mul a' b := mulTo_left 8 a a' b
theorem mul_right (a b b' : Nat) : mul a (b ^^^ b') = mul a b ^^^ mul a b' := mulTo_right 8 a b b'
theorem mul_zero (a : Nat) : mul a 0 = 0 := mulTo_zero 8 a
theorem zero_mul (a : Nat) : mul 0 a = 0 := mulTo_zero_left 8 a
theorem top_bit (n a : Nat) (h : a < 2 ^ (n + 1)) (h' : 2 ^ n ≤ a) : a ^^^ 2 ^ n < 2 ^ n := by
  apply Nat.lt_pow_two_of_testBit
  intro i hi
  rw [Nat.testBit_xor]
  by_cases e : i = n
  · subst e
    have : a.testBit i = true := by
      rw [Nat.testBit_eq_decide_div_mod_eq]
      have : a / 2 ^ i = 1 := by
        have h1 : a / 2 ^ i < 2 := Nat.div_lt_of_lt_mul (by rw [Nat.pow_succ] at h; omega)
        have h2 : 0 < a / 2 ^ i := Nat.div_pos h' (Nat.two_pow_pos i)
        omega
      simp [this]
    simp [this, Nat.testBit_two_pow_self]
  · have h1 : a.testBit i = false := Nat.testBit_lt_two_pow (Nat.lt_of_lt_of_le h (Nat.pow_le_pow_right (by omega) (by omega)))
    have h2 : (2 ^ n).testBit i = false := Nat.testBit_two_pow_of_ne (fun h => e h.symm)
    simp [h1, h2]
theorem lin_ind (P : Nat → Prop) (h0 : P 0) (hx : ∀ a b, P a → P b → P (a ^^^ b)) (hb : ∀ i, i < 8 → P (2 ^ i)) (a : Nat) (ha : a < 256) : P a := by
  have key : ∀ n, n ≤ 8 → ∀ a, a < 2 ^ n → P a := by
    intro n
    induction n with
    | zero => intro _ a ha; have : a = 0 := by simpa using ha
              rw [this]; exact h0
    | succ n ih =>
      intro hn a ha
      by_cases h : a < 2 ^ n
      · exact ih (by omega) a h
      · have h1 := hx _ _ (ih (by omega) _ (top_bit n a ha (by omega))) (hb n (by omega))
        rwa [Nat.xor_assoc, Nat.xor_self, Nat.xor_zero] at h1
  exact key 8 (Nat.le_refl _) a ha
theorem mul_comm (a b : Nat) (ha : a < 256) (hb : b < 256) : mul a b = mul b a := by
  refine lin_ind (fun a => mul a b = mul b a) (by simp only [mul_zero, zero_mul]) (fun x y hx hy => by simp only [mul_left, mul_right, hx, hy]) ?_ a ha
  intro i hi
  refine lin_ind (fun b => mul (2 ^ i) b = mul b (2 ^ i)) (by simp only [mul_zero, zero_mul]) (fun x y hx hy => by simp only [mul_left, mul_right, hx, hy]) ?_ b hb
  have : ∀ i, i < 8 → ∀ j, j < 8 → mul (2 ^ i) (2 ^ j) = mul (2 ^ j) (2 ^ i) := by decide +kernel
  exact this i hi
theorem mul_assoc (a b c : Nat) (ha : a < 256) (hb : b < 256) (hc : c < 256) : mul (mul a b) c = mul a (mul b c) := by
  refine lin_ind (fun a => mul (mul a b) c = mul a (mul b c)) (by simp only [zero_mul]) (fun x y hx hy => by simp only [mul_left, hx, hy]) ?_ a ha
  intro i hi
  refine lin_ind (fun b => mul (mul (2 ^ i) b) c = mul (2 ^ i) (mul b c)) (by simp only [mul_zero, zero_mul]) (fun x y hx hy => by simp only [mul_left, mul_right, hx, hy]) ?_ b hb
  intro j hj
  refine lin_ind (fun c => mul (mul (2 ^ i) (2 ^ j)) c = mul (2 ^ i) (mul (2 ^ j) c)) (by simp only [mul_zero]) (fun x y hx hy => by simp only [mul_right, hx, hy]) ?_ c hc
  have : ∀ i, i < 8 → ∀ j, j < 8 → ∀ k, k < 8 → mul (mul (2 ^ i) (2 ^ j)) (2 ^ k) = mul (2 ^ i) (mul (2 ^ j) (2 ^ k)) := by decide +kernel
  exact this i hi j hj
theorem mul_one (a : Nat) (ha : a < 256) : mul a 1 = a := by
  refine lin_ind (fun a => mul a 1 = a) (zero_mul 1) (fun x y hx hy => by simp only [mul_left, hx, hy]) ?_ a ha
  decide +kernel
theorem one_mul (a : Nat) (ha : a < 256) : mul 1 a = a := by rw [mul_comm 1 a (by omega) ha, mul_one a ha]
theorem tw_lt (a : Nat) (ha : a < 256) : tw a < 256 := by
  have : ∀ a, a < 256 → tw a < 256 := by decide +kernel
  exact this a ha
theorem xor_lt (a b : Nat) (ha : a < 256) (hb : b < 256) : a ^^^ b < 256 := Nat.xor_lt_two_pow (n := 8) ha hb
theorem msk_lt (c : Bool) (a : Nat) (ha : a < 256) : msk c a < 256 := by cases c <;> simp [msk, ha]
theorem mulTo_lt (n a b : Nat) (ha : a < 256) : mulTo n a b < 256 := by
  induction n generalizing a b with
  | zero => simp [mulTo]
  | succ n ih => simp only [mulTo]; exact xor_lt _ _ (msk_lt _ _ ha) (ih _ _ (tw_lt _ ha))
theorem mul_lt (a b : Nat) (ha : a < 256) : mul a b < 256 := mulTo_lt 8 a b ha
/- the quotient -/
def divTo : Nat → Nat → Nat → Nat
  | 0, a, _ => a
  | n + 1, a, p => divTo n (mul a (mul p p)) (mul p p)
def div (a b : Nat) : Nat := divTo 7 a b
theorem divTo_lt (n a p : Nat) (ha : a < 256) : divTo n a p < 256 := by
  induction n generalizing a p with
  | zero => simpa [divTo] using ha
  | succ n ih => simp only [divTo]; exact ih _ _ (mul_lt _ _ ha)
theorem divTo_eq (n a p : Nat) (ha : a < 256) (hp : p < 256) : divTo n a p = mul a (divTo n 1 p) := by
  induction n generalizing a p with
  | zero => simp only [divTo]; rw [mul_one a ha]
  | succ n ih =>
    have hpp : mul p p < 256 := mul_lt _ _ hp
    simp only [divTo]
    rw [ih _ _ (mul_lt _ _ ha) hpp, ih (mul 1 (mul p p)) _ (mul_lt _ _ (by omega)) hpp, one_mul _ hpp]
    exact mul_assoc _ _ _ ha hpp (divTo_lt _ _ _ (by omega))
theorem div_lt (a b : Nat) (ha : a < 256) : div a b < 256 := divTo_lt 7 a b ha
theorem inv_mul (b : Nat) (hb : b < 256) (h0 : b ≠ 0) : mul (div 1 b) b = 1 := by
  have : ∀ b, b < 256 → b ≠ 0 → mul (div 1 b) b = 1 := by decide +kernel
  exact this b hb h0
theorem div_mul (a b : Nat) (ha : a < 256) (hb : b < 256) (h0 : b ≠ 0) : mul (div a b) b = a := by
  have h1 : div 1 b < 256 := div_lt 1 b (by omega)
  rw [show div a b = mul a (div 1 b) from divTo_eq 7 a b ha hb, mul_assoc a _ b ha h1 hb, inv_mul b hb h0, mul_one a ha]
theorem mul_div (a b : Nat) (ha : a < 256) (hb : b < 256) (h0 : b ≠ 0) : div (mul a b) b = a := by
  have h1 : div 1 b < 256 := div_lt 1 b (by omega)
  rw [show div (mul a b) b = mul (mul a b) (div 1 b) from divTo_eq 7 _ b (mul_lt _ _ ha) hb, mul_assoc a b _ ha hb h1, mul_comm b _ hb h1, inv_mul b hb h0, mul_one a ha]
theorem div_unique (a b x : Nat) (hb : b < 256) (h0 : b ≠ 0) (hx : x < 256) (h : mul x b = a) : x = div a b := by
  rw [← h, mul_div x b hx hb h0]
/- the document's way -/
def rsum : Nat → Nat → Nat → Nat
  | 0, _, _ => 0
  | n + 1, a, b => rsum n a b ^^^ msk (b.testBit n) (a * 2 ^ n)
def rred : Nat → Nat → Nat
  | 0, n => n
  | i + 1, n => rred i (n ^^^ msk (n.testBit (i + 8)) (285 * 2 ^ i))
theorem rsum_left (n a a' b : Nat) : rsum n (a ^^^ a') b = rsum n a b ^^^ rsum n a' b := by
  induction n with
  | zero => simp [rsum]
  | succ n ih => simp only [rsum]; rw [xmul, ih, msk_xor, x4]
theorem rsum_right (n a b b' : Nat) : rsum n a (b ^^^ b') = rsum n a b ^^^ rsum n a b' := by
  induction n with
  | zero => simp [rsum]
  | succ n ih => simp only [rsum]; rw [ih, Nat.testBit_xor, msk_bxor, x4]
theorem rred_xor (i n m : Nat) : rred i (n ^^^ m) = rred i n ^^^ rred i m := by
  induction i generalizing n m with
  | zero => rfl
  | succ i ih => simp only [rred]; rw [← ih, Nat.testBit_xor, msk_bxor, x4]
theorem rred_zero (i : Nat) : rred i 0 = 0 := by
  induction i with
  | zero => rfl
  | succ i ih => simp [rred, ih, msk]
theorem rsum_zero (n a : Nat) : rsum n a 0 = 0 := by
  induction n with
  | zero => rfl
  | succ n ih => simp [rsum, ih, msk]
theorem rsum_zero_left (n b : Nat) : rsum n 0 b = 0 := by
  induction n with
  | zero => rfl
  | succ n ih => simp [rsum, ih, msk_zero]
theorem rmul_eq (a b : Nat) (ha : a < 256) (hb : b < 256) : rred 8 (rsum 8 a b) = mul a b := by
  refine lin_ind (fun a => rred 8 (rsum 8 a b) = mul a b) (by simp only [rsum_zero_left, rred_zero, zero_mul]) (fun x y hx hy => by simp only [rsum_left, rred_xor, mul_left, hx, hy]) ?_ a ha
  intro i hi
  refine lin_ind (fun b => rred 8 (rsum 8 (2 ^ i) b) = mul (2 ^ i) b) (by simp only [rsum_zero, rred_zero, mul_zero]) (fun x y hx hy => by simp only [rsum_right, rred_xor, mul_right, hx, hy]) ?_ b hb
  have : ∀ i, i < 8 → ∀ j, j < 8 → rred 8 (rsum 8 (2 ^ i) (2 ^ j)) = mul (2 ^ i) (2 ^ j) := by decide +kernel
  exact this i hi
end Hd
