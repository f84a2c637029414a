/- What the cells of a row want of one another; what is missing is found. -/
import Derived.Test.YtfpoiikhhjdpdabHolds
namespace Go.Proofs.Ytfpoiikhhjdpdab
open Go.RowKit
set_option linter.unusedVariables false
theorem C4.xor_assoc (a b c : C4) : (a.xor b).xor c = a.xor (b.xor c) := by
  simp only [C4.xor, Nat.xor_assoc]
theorem C4.xor_comm (a b : C4) : a.xor b = b.xor a := by
  simp only [C4.xor, Nat.xor_comm]
theorem C4.xor_self (a : C4) : a.xor a = C4.zero := by
  simp only [C4.xor, Nat.xor_self]; rfl
theorem C4.zero_xor (a : C4) : C4.zero.xor a = a := by
  simp only [C4.xor, C4.zero, Nat.zero_xor]
theorem C4.xor_zero (a : C4) : a.xor C4.zero = a := by
  simp only [C4.xor, C4.zero, Nat.xor_zero]
theorem C4.scale_xor (n : Nat) (a b : C4) : (a.xor b).scale n = (a.scale n).xor (b.scale n) := by
  simp only [C4.xor, C4.scale, Hd.mul_right]
theorem C4.scale_scale (m n : Nat) (a : C4) (hm : m < 256) (hn : n < 256) (ha : a.ok) : (a.scale n).scale m = a.scale (Hd.mul m n) := by
  obtain ⟨h0, h1, h2, h3⟩ := ha
  simp only [C4.scale]
  rw [Hd.mul_assoc m n _ hm hn h0, Hd.mul_assoc m n _ hm hn h1, Hd.mul_assoc m n _ hm hn h2, Hd.mul_assoc m n _ hm hn h3]
theorem C4.scale_add (m n : Nat) (a : C4) : (a.scale m).xor (a.scale n) = a.scale (m ^^^ n) := by
  simp only [C4.scale, C4.xor, Hd.mul_left]
theorem C4.scale_one (a : C4) (ha : a.ok) : a.scale 1 = a := by
  obtain ⟨h0, h1, h2, h3⟩ := ha
  simp only [C4.scale]
  rw [Hd.one_mul _ h0, Hd.one_mul _ h1, Hd.one_mul _ h2, Hd.one_mul _ h3]
theorem C4.scale_inv (n : Nat) (a : C4) (hn : n < 256) (h0 : n ≠ 0) (ha : a.ok) : (a.scale n).scale (Hd.div 1 n) = a := by
  rw [C4.scale_scale _ _ a (Hd.div_lt _ _ (by omega)) hn ha, Hd.inv_mul n hn h0, C4.scale_one a ha]
theorem C4.scale_zero_left (a : C4) : a.scale 0 = C4.zero := by
  simp only [C4.scale, Hd.zero_mul]; rfl
/-- The block of data drive d in row r, as the bytes say. -/
def blkC (D : Nat) (f : Nat → Nat) (d r : Nat) : C4 := C4.mk4 (fun i => f ((r * D + d) * 4 + i))
theorem blkC_ok {D : Nat} {f : Nat → Nat} (hf : ∀ i, f i < 256) (d r : Nat) : (blkC D f d r).ok := ⟨hf _, hf _, hf _, hf _⟩
/-- What the equation of parity drive d wants, of the first k data cells. -/
def wsum (s : Ab) (f : Nat → Nat) (d r : Nat) : Nat → C4
  | 0 => C4.zero
  | k + 1 => (wsum s f d r k).xor ((blkC s.D f k r).scale (wgt s d k))
/-- Of the missing ones among them. -/
def lsum (s : Ab) (f : Nat → Nat) (d r : Nat) (l : List Nat) : C4 := l.foldl (fun c k => c.xor ((blkC s.D f k r).scale (wgt s d k))) C4.zero
theorem lsum_snoc (s : Ab) (f : Nat → Nat) (d r : Nat) (l : List Nat) (k : Nat) : lsum s f d r (l ++ [k]) = (lsum s f d r l).xor ((blkC s.D f k r).scale (wgt s d k)) := by
  unfold lsum; rw [List.foldl_append]; rfl
/-- In a row: the available data cells are their blocks. -/
def RowData (s : Ab) (f : Nat → Nat) (r : Nat) : Prop := ∀ d, d < s.D → avB s d r = true → s.cell d r = blkC s.D f d r
def RowPar (s : Ab) (f : Nat → Nat) (r : Nat) : Prop := ∀ d, s.D ≤ d → d < s.D + s.P → avB s d r = true → valC s d r = wsum s f d r s.D
theorem msum_eq {s : Ab} {f : Nat → Nat} {r : Nat} (hd : RowData s f r) (d : Nat) (k : Nat) (hk : k ≤ s.D) : msum s d r k = (valC s d r).xor ((wsum s f d r k).xor (lsum s f d r (missL s r k))) := by
  induction k with
  | zero => simp only [msum, wsum, missL]; show _ = _; rw [show lsum s f d r [] = C4.zero from rfl, C4.xor_zero, C4.xor_zero]
  | succ k ih =>
    have ih := ih (by omega)
    simp only [msum, wsum, missL]
    cases hav : avB s k r
    · simp only [Bool.false_eq_true, if_false]
      rw [lsum_snoc, ih]
      congr 1
      rw [C4.xor_assoc, ← C4.xor_assoc ((blkC s.D f k r).scale (wgt s d k)), C4.xor_comm ((blkC s.D f k r).scale (wgt s d k)) (lsum s f d r (missL s r k)), C4.xor_assoc, C4.xor_self, C4.xor_zero]
    · simp only [if_true]
      rw [ih, hd k (by omega) hav, C4.xor_assoc]
      congr 1
      rw [C4.xor_assoc, C4.xor_assoc]
      congr 1
      rw [C4.xor_comm]
theorem msum_par {s : Ab} {f : Nat → Nat} {r : Nat} (hd : RowData s f r) (hp : RowPar s f r) (d : Nat) (h1 : s.D ≤ d) (h2 : d < s.D + s.P) (hav : avB s d r = true) : msum s d r s.D = lsum s f d r (missL s r s.D) := by
  rw [msum_eq hd d s.D (Nat.le_refl _), hp d h1 h2 hav, ← C4.xor_assoc, C4.xor_self, C4.zero_xor]
theorem missL_mem (s : Ab) (r k c : Nat) : c ∈ missL s r k ↔ c < k ∧ avB s c r = false := by
  induction k with
  | zero => simp [missL]
  | succ k ih =>
    simp only [missL]
    cases hav : avB s k r
    · simp only [Bool.false_eq_true, if_false, List.mem_append, List.mem_singleton, ih]
      constructor
      · rintro (⟨h1, h2⟩ | rfl)
        · exact ⟨by omega, h2⟩
        · exact ⟨by omega, hav⟩
      · rintro ⟨h1, h2⟩
        by_cases e : c = k
        · exact .inr e
        · exact .inl ⟨by omega, h2⟩
    · simp only [if_true, ih]
      constructor
      · rintro ⟨h1, h2⟩; exact ⟨by omega, h2⟩
      · rintro ⟨h1, h2⟩
        refine ⟨?_, h2⟩
        by_cases e : c = k
        · subst e; rw [hav] at h2; simp at h2
        · omega
theorem missL_nodup (s : Ab) (r k : Nat) : (missL s r k).Nodup := by
  induction k with
  | zero => simp [missL]
  | succ k ih =>
    simp only [missL]
    split
    · exact ih
    · rw [List.nodup_append]
      refine ⟨ih, by simp, ?_⟩
      intro a ha b hb
      have := ((missL_mem s r k a).1 ha).1
      simp at hb
      omega
theorem parL_mem (s : Ab) (r k d : Nat) : d ∈ parL s r k ↔ s.D ≤ d ∧ d < s.D + k ∧ avB s d r = true := by
  induction k with
  | zero => simp [parL]; omega
  | succ k ih =>
    simp only [parL]
    cases hav : avB s (s.D + k) r
    · simp only [Bool.false_eq_true, if_false, ih]
      constructor
      · rintro ⟨h1, h2, h3⟩; exact ⟨h1, by omega, h3⟩
      · rintro ⟨h1, h2, h3⟩
        refine ⟨h1, ?_, h3⟩
        by_cases e : d = s.D + k
        · subst e; rw [hav] at h3; simp at h3
        · omega
    · simp only [if_true, List.mem_append, List.mem_singleton, ih]
      constructor
      · rintro (⟨h1, h2, h3⟩ | rfl)
        · exact ⟨h1, by omega, h3⟩
        · exact ⟨by omega, by omega, hav⟩
      · rintro ⟨h1, h2, h3⟩
        by_cases e : d = s.D + k
        · exact .inr e
        · exact .inl ⟨h1, by omega, h3⟩
theorem parL_two (s : Ab) (r : Nat) (h : (parL s r s.P).length = 2) (hP : s.P ≤ 2) : parL s r s.P = [s.D, s.D + 1] := by
  have hl := parL_len s r s.P
  have hp : s.P = 2 := by omega
  rw [hp] at h ⊢
  simp only [parL, List.nil_append, Nat.add_zero] at h ⊢
  cases h0 : avB s s.D r <;> cases h1 : avB s (s.D + 1) r <;> simp [h0, h1] at h ⊢
theorem wgt_ne (s : Ab) (d c : Nat) : wgt s d c ≠ 0 := by
  unfold wgt
  split
  · omega
  · have := Nat.pow_pos (n := c) (show 0 < 2 by omega); omega
theorem two_times (s : Ab) (c o : Nat) (hc : c < 4) (ho : o < 4) (hne : c ≠ o) : times2 s c o s.D (s.D + 1) ≠ 0 := by
  unfold times2
  have e1 : ∀ x, wgt s s.D x = 1 := fun x => by unfold wgt; rw [if_pos rfl]
  have e2 : ∀ x, wgt s (s.D + 1) x = 2 ^ x := fun x => by unfold wgt; rw [if_neg (by omega)]
  rw [e1, e1, e2, e2]
  have : ∀ c, c < 4 → ∀ o, o < 4 → c ≠ o → Hd.mul (2 ^ o) 1 ^^^ Hd.mul 1 (2 ^ c) ≠ 0 := by decide +kernel
  exact this c hc o ho hne
/-- What is missing is found. -/
theorem holdC_eq {s : Ab} {f : Nat → Nat} {r : Nat} (hok : s.ok) (hf : ∀ i, f i < 256) (hd : RowData s f r) (hp : RowPar s f r) (hg : goneB s r = false) (c : Nat) (hc : c < s.D) : holdC s c r = blkC s.D f c r := by
  unfold holdC
  cases hav : avB s c r
  · simp only [Bool.false_eq_true, if_false]
    have hmem : c ∈ missL s r s.D := (missL_mem s r s.D c).2 ⟨hc, hav⟩
    have hnd := missL_nodup s r s.D
    have hD := hok.D4
    have hP := hok.P2
    have hpl := parL_len s r s.P
    have hle : (missL s r s.D).length ≤ (parL s r s.P).length := by
      simp only [goneB, decide_eq_false_iff_not] at hg; omega
    have hbo := fun k => blkC_ok (D := s.D) hf k r
    have hpar : ∀ d ∈ parL s r s.P, msum s d r s.D = lsum s f d r (missL s r s.D) := fun d hd' => by
      obtain ⟨h1, h2, h3⟩ := (parL_mem s r s.P d).1 hd'
      exact msum_par hd hp d h1 h2 h3
    have hmlt : ∀ x ∈ missL s r s.D, x < 4 := fun x hx => by have := ((missL_mem s r s.D x).1 hx).1; omega
    have hp2 := parL_two s r
    unfold holdM
    generalize missL s r s.D = m at *
    match m, hmem, hnd, hle, hpar, hmlt with
    | [x], hmem, hnd, hle, hpar, hmlt =>
      have hx : c = x := by simpa using hmem
      subst hx
      rw [if_pos ⟨rfl, by simpa using hle⟩]
      have h0 : (parL s r s.P).getD 0 0 ∈ parL s r s.P := by
        have h1 : 0 < (parL s r s.P).length := by simp at hle; omega
        rw [List.getD_eq_getElem?_getD, List.getElem?_eq_getElem h1]
        exact List.getElem_mem h1
      unfold solve1
      rw [hpar _ h0]
      show ((C4.zero.xor ((blkC s.D f c r).scale (wgt s _ c))).scale _) = _
      rw [C4.zero_xor, C4.scale_inv _ _ (wgt_lt s _ c (by omega)) (wgt_ne s _ c) (hbo c)]
    | [x, y], hmem, hnd, hle, hpar, hmlt =>
      have h2 : (parL s r s.P).length = 2 := by simp at hle; omega
      have hpe := hp2 h2 hP
      rw [if_neg (by simp), if_pos ⟨rfl, h2⟩]
      rw [hpe]
      show solve2 s c (if x = c then y else x) r s.D (s.D + 1) = _
      have m0 := hpar s.D (by rw [hpe]; simp)
      have m1 := hpar (s.D + 1) (by rw [hpe]; simp)
      have hxy : x ≠ y := by simpa using hnd
      have hx4 := hmlt x (by simp)
      have hy4 := hmlt y (by simp)
      have key : ∀ a b : Nat, a < 4 → b < 4 → a ≠ b → lsum s f s.D r [x, y] = ((blkC s.D f a r).scale (wgt s s.D a)).xor ((blkC s.D f b r).scale (wgt s s.D b)) → lsum s f (s.D + 1) r [x, y] = ((blkC s.D f a r).scale (wgt s (s.D + 1) a)).xor ((blkC s.D f b r).scale (wgt s (s.D + 1) b)) → solve2 s a b r s.D (s.D + 1) = blkC s.D f a r := by
        intro a b ha hb hab e0 e1
        have t0 := two_times s a b ha hb hab
        have l := fun d c (hc : c < 4) => wgt_lt s d c hc
        have hsum : (C4.scale (wgt s (s.D + 1) b) ((C4.scale (wgt s s.D a) (blkC s.D f a r)).xor (C4.scale (wgt s s.D b) (blkC s.D f b r)))).xor (C4.scale (wgt s s.D b) ((C4.scale (wgt s (s.D + 1) a) (blkC s.D f a r)).xor (C4.scale (wgt s (s.D + 1) b) (blkC s.D f b r)))) = C4.scale (times2 s a b s.D (s.D + 1)) (blkC s.D f a r) := by
          rw [C4.scale_xor, C4.scale_xor, C4.scale_scale _ _ _ (l _ b hb) (l _ a ha) (hbo a), C4.scale_scale _ _ _ (l _ b hb) (l _ b hb) (hbo b), C4.scale_scale _ _ _ (l _ b hb) (l _ a ha) (hbo a), C4.scale_scale _ _ _ (l _ b hb) (l _ b hb) (hbo b)]
          rw [Hd.mul_comm (wgt s s.D b) (wgt s (s.D + 1) b) (l _ b hb) (l _ b hb)]
          rw [C4.xor_assoc, C4.xor_comm (C4.scale (Hd.mul (wgt s (s.D + 1) b) (wgt s s.D b)) (blkC s.D f b r)), C4.xor_assoc, C4.xor_self, C4.xor_zero, C4.scale_add]
          rfl
        unfold solve2
        rw [m0, m1, e0, e1, hsum]
        exact C4.scale_inv _ _ (Hd.xor_lt _ _ (Hd.mul_lt _ _ (l _ b hb)) (Hd.mul_lt _ _ (l _ b hb))) t0 (hbo a)
      have e : ∀ d, lsum s f d r [x, y] = ((blkC s.D f x r).scale (wgt s d x)).xor ((blkC s.D f y r).scale (wgt s d y)) := fun d => by
        show (C4.zero.xor _).xor _ = _
        rw [C4.zero_xor]
      rcases List.mem_cons.1 hmem with h | h
      · subst h
        rw [if_pos rfl]
        exact key c y hx4 hy4 hxy (e _) (e _)
      · have h : c = y := by simpa using h
        subst h
        rw [if_neg hxy]
        exact key c x hy4 hx4 (fun e => hxy e.symm) (by rw [e, C4.xor_comm]) (by rw [e, C4.xor_comm])
    | x :: y :: z :: t, hmem, hnd, hle, hpar, hmlt => simp at hle; omega
  · simp only [if_true]
    exact hd c hc hav
end Go.Proofs.Ytfpoiikhhjdpdab
