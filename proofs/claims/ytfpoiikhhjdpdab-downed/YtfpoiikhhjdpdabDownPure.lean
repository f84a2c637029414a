/- A write that is broken off, in plain mathematics, where all drives are live. -/
import Derived.Test.YtfpoiikhhjdpdabCounts
import Derived.Test.YtfpoiikhhjdpdabWorld
namespace Go.Proofs.Ytfpoiikhhjdpdab
open Go.RowKit
set_option linter.unusedVariables false
theorem KInv.same {a : Ab} {f : Nat → Nat} {lo : Nat → Bool} {bu : Nat → Nat → Bool} (h : KInv a f lo bu) (n : Nat) (b : Option Nat) : KInv { a with steps := n, brk := b } f lo bu := by
  refine ⟨⟨⟨h.inv.ok.D1, h.inv.ok.D4, h.inv.ok.P1, h.inv.ok.P2, h.inv.ok.R1, h.inv.ok.R6, h.inv.ok.M1, h.inv.ok.M8, h.inv.ok.cells, h.inv.ok.len, h.inv.ok.recs, h.inv.ok.data⟩, h.inv.bound, h.inv.data, fun r hr d h1 h2 ha => ?_, h.inv.recs⟩, h.lost, h.built, fun r hr => ?_⟩
  · have := h.inv.par r hr d h1 h2 ha
    rw [show wsum { a with steps := n, brk := b } f d r a.D = wsum a f d r a.D from wsum_congr (a := a) (b := { a with steps := n, brk := b }) rfl a.D (fun _ _ => rfl)]
    exact this
  · exact (goneB_congr (a := a) (b := { a with steps := n, brk := b }) rfl rfl (fun _ => rfl)).trans (h.good r hr)
theorem KInv.blocksL {a : Ab} {f : Nat → Nat} {bu : Nat → Nat → Bool} (h : KInv a f (fun _ => false) bu) (hb : ∀ d r, bu d r = true) (fr n : Nat) (g : Nat → Nat) (hg : ∀ i, i < n → g i < 256) (m : Nat) (hm : fr / 4 + m ≤ a.D * a.R) : KInv (abBlocks a fr n g m) (fBs f fr n g m) (fun _ => false) bu := by
  obtain ⟨i1, i2, i3, i4, i5⟩ := h.inv.blocks fr n g hg m hm h.good
  have hl := blocks_live h.inv (h.live hb) fr n g hg m hm h.good
  refine ⟨i1, fun d hd => ?_, fun d r hd hr hlo => ?_, fun r hr => i5 r (by rw [← i2.R]; exact hr)⟩
  · rw [i2.D, i2.P] at hd
    rw [i3]; exact h.lost d hd
  · have := hl d r hd hr
    unfold avB at this
    rw [hb]
    simp at this
    simp [this.2]
theorem chL_more (f : Nat → Nat) (a n : Nat) (g : Nat → Nat) (m k : Nat) : (chL f a n g (m + k)).take (chL f a n g m).length = chL f a n g m := by
  induction k with
  | zero => rw [Nat.add_zero, List.take_length]
  | succ k ih =>
    have hle : (chL f a n g m).length ≤ (chL f a n g (m + k)).length := by
      have := congrArg List.length ih
      rw [List.length_take] at this
      omega
    rw [show m + (k + 1) = m + k + 1 by omega]
    simp only [chL]
    split
    · rw [List.take_append_of_le_length hle]; exact ih
    · exact ih
theorem chL_succ_true (f : Nat → Nat) (a n : Nat) (g : Nat → Nat) (m : Nat) (h : chB f a n g (a / 4 + m) = true) : chL f a n g (m + 1) = chL f a n g m ++ [a / 4 + m] := by simp only [chL]; rw [h]; rfl
theorem brkHit_inv {a : Ab} {n j : Nat} (h : brkHit a n = some j) : a.brk = some (a.steps + j) ∧ j < n := by
  unfold brkHit at h
  cases hb : a.brk with
  | none => rw [hb] at h; cases h
  | some k =>
    rw [hb] at h
    by_cases hc : a.steps ≤ k ∧ k < a.steps + n
    · have h : some (k - a.steps) = some j := by rw [← h]; exact (if_pos hc).symm
      have h := Option.some.inj h
      exact ⟨by congr 1; omega, by omega⟩
    · have h : none = some j := by rw [← h]; exact (if_neg hc).symm
      cases h
theorem brkHit_not {a : Ab} {n : Nat} (h : brkHit a n = none) (i : Nat) (hi : i < n) : a.brk ≠ some (a.steps + i) := by
  intro hb
  rw [brkHit_some hb hi] at h
  cases h
/-- Where the break comes. -/
theorem hit_some {a : Ab} {f : Nat → Nat} {bu : Nat → Nat → Bool} (h : KInv a f (fun _ => false) bu) (hb : ∀ d r, bu d r = true) (fr n : Nat) (g : Nat → Nat) (hg : ∀ i, i < n → g i < 256) (m : Nat) (hm : fr / 4 + m < a.D * a.R) (N j : Nat) (hbk : a.brk = some (a.steps + N))
    (hj : brkHit (abBlocks a fr n g m) (blockN (abBlocks a fr n g m) (fr / 4 + m) fr n g) = some j) :
    chB f fr n g (fr / 4 + m) = true ∧ N = (chL f fr n g m).length * (3 + a.P) + j ∧ j < 3 + a.P := by
  have hc := (blocks_count h.inv (h.live hb) fr n g hg m (by omega) h.good).1
  have hn := blockN_live h.inv (h.live hb) fr n g hg m hm h.good
  obtain ⟨h1, h2⟩ := brkHit_inv hj
  rw [blocks_brk a fr n g h.inv.ok.D1 m, hbk, hc] at h1
  have h1 := Option.some.inj h1
  rw [hn] at h2
  cases hcb : chB f fr n g (fr / 4 + m)
  · rw [hcb] at h2
    simp at h2
  · rw [hcb] at h2
    simp only [if_true] at h2
    exact ⟨rfl, by omega, h2⟩
theorem hit_none {a : Ab} {f : Nat → Nat} {bu : Nat → Nat → Bool} (h : KInv a f (fun _ => false) bu) (hb : ∀ d r, bu d r = true) (fr n : Nat) (g : Nat → Nat) (hg : ∀ i, i < n → g i < 256) (mb : Nat) (hm : fr / 4 + mb ≤ a.D * a.R) (N : Nat) (hbk : a.brk = some (a.steps + N))
    (hj : ∀ m, m < mb → brkHit (abBlocks a fr n g m) (blockN (abBlocks a fr n g m) (fr / 4 + m) fr n g) = none) : (chL f fr n g mb).length * (3 + a.P) ≤ N := by
  induction mb with
  | zero => simp [chL]
  | succ m ih =>
    have ih := ih (by omega) (fun m' hm' => hj m' (by omega))
    have hc := (blocks_count h.inv (h.live hb) fr n g hg m (by omega) h.good).1
    have hn := blockN_live h.inv (h.live hb) fr n g hg m (by omega) h.good
    have hh := fun i hi => brkHit_not (hj m (by omega)) i hi
    rw [blocks_brk a fr n g h.inv.ok.D1 m, hbk, hc, hn] at hh
    cases hcb : chB f fr n g (fr / 4 + m)
    · have e2 : chL f fr n g (m + 1) = chL f fr n g m := by simp only [chL]; rw [hcb]; rfl
      rw [e2]; exact ih
    · rw [hcb] at hh
      simp only [if_true] at hh
      rw [chL_succ_true f fr n g m hcb, List.length_append, List.length_singleton, Nat.add_mul]
      by_cases hlt : N < (chL f fr n g m).length * (3 + a.P) + (3 + a.P)
      · exact absurd (by congr 1; omega) (hh (N - (chL f fr n g m).length * (3 + a.P)) (by omega))
      · omega
/-- The bytes with some blocks of a write. -/
def fLay (f : Nat → Nat) (a n : Nat) (g : Nat → Nat) (L : List Nat) (i : Nat) : Nat := if (a ≤ i ∧ i < a + n) ∧ L.contains (i / 4) = true then g (i - a) else f i
theorem chL_in (f : Nat → Nat) (a n : Nat) (g : Nat → Nat) (m x : Nat) : x ∈ chL f a n g m ↔ a / 4 ≤ x ∧ x < a / 4 + m ∧ chB f a n g x = true := by
  induction m with
  | zero => simp [chL]; omega
  | succ m ih =>
    simp only [chL]
    cases hc : chB f a n g (a / 4 + m)
    · simp only [Bool.false_eq_true, if_false]
      rw [ih]
      constructor
      · rintro ⟨h1, h2, h3⟩; exact ⟨h1, by omega, h3⟩
      · rintro ⟨h1, h2, h3⟩
        refine ⟨h1, ?_, h3⟩
        by_cases e : x = a / 4 + m
        · rw [e, hc] at h3; simp at h3
        · omega
    · simp only [if_true]
      rw [List.mem_append, ih]
      constructor
      · rintro (⟨h1, h2, h3⟩ | h1)
        · exact ⟨h1, by omega, h3⟩
        · simp at h1; subst h1; exact ⟨by omega, by omega, hc⟩
      · rintro ⟨h1, h2, h3⟩
        by_cases e : x = a / 4 + m
        · right; simp [e]
        · left; exact ⟨h1, by omega, h3⟩
theorem fLay_eq (f : Nat → Nat) (a n : Nat) (g : Nat → Nat) (m : Nat) : fLay f a n g (chL f a n g m) = fBs f a n g m := by
  funext i
  unfold fLay fBs
  by_cases h1 : a ≤ i ∧ i < a + n
  · by_cases h2 : i / 4 < a / 4 + m
    · rw [if_pos (show i / 4 < a / 4 + m ∧ a ≤ i ∧ i < a + n from ⟨h2, h1⟩)]
      cases hc : (chL f a n g m).contains (i / 4)
      · have hn : ¬ (i / 4 ∈ chL f a n g m) := by
          intro hm
          rw [List.contains_iff_mem.2 hm] at hc; simp at hc
        rw [chL_in] at hn
        have hcb : chB f a n g (i / 4) = false := by
          cases e : chB f a n g (i / 4)
          · rfl
          · exact absurd ⟨by omega, h2, e⟩ hn
        unfold chB at hcb
        rw [chTo_false] at hcb
        have := hcb (i % 4) (by omega)
        unfold chAt at this
        rw [decide_eq_true (by omega)] at this
        simp at this
        rw [show i / 4 * 4 + i % 4 = i by omega] at this
        rw [if_neg (show ¬ ((a ≤ i ∧ i < a + n) ∧ false = true) from fun hh => Bool.noConfusion hh.2)]
        exact this.symm
      · rw [if_pos (show (a ≤ i ∧ i < a + n) ∧ true = true from ⟨h1, rfl⟩)]
    · rw [if_neg (show ¬ (i / 4 < a / 4 + m ∧ a ≤ i ∧ i < a + n) from fun hh => h2 hh.1)]
      rw [if_neg]
      rintro ⟨_, hc⟩
      have := (chL_in f a n g m (i / 4)).1 (List.contains_iff_mem.1 hc)
      exact h2 this.2.1
  · rw [if_neg (show ¬ ((a ≤ i ∧ i < a + n) ∧ (chL f a n g m).contains (i / 4) = true) from fun hh => h1 hh.1), if_neg (show ¬ (i / 4 < a / 4 + m ∧ a ≤ i ∧ i < a + n) from fun hh => h1 hh.2)]
/-- How many blocks a write that is broken off behind N steps has made. -/
def madeN (P ln N : Nat) : Nat := if N < ln * (3 + P) then (N + (3 + P) - 1) / (3 + P) else ln
structure Fin (s : Ab) (f : Nat → Nat) (bu : Nat → Nat → Bool) (x n : Nat) (g : Nat → Nat) (L : List Nat) (N : Nat) (a : Ab) : Prop where
  same : a.D = s.D ∧ a.P = s.P ∧ a.R = s.R ∧ a.M = s.M
  inv : KInv a (fLay f x n g (L.take (madeN s.P L.length N))) (fun _ => false) bu
  steps : a.steps = s.steps + min N (L.length * (3 + s.P))
theorem made_le (P ln N : Nat) (hP : P = 1 ∨ P = 2) : madeN P ln N ≤ ln := by
  unfold madeN
  split
  · rename_i h
    rcases hP with rfl | rfl <;> omega
  · exact Nat.le_refl _
theorem fin_down {s : Ab} {f : Nat → Nat} {bu : Nat → Nat → Bool} (h : KInv s f (fun _ => false) bu) (hb : ∀ d r, bu d r = true) (x n : Nat) (g : Nat → Nat) (hg : ∀ i, i < n → g i < 256) (hn : x + n ≤ s.D * s.R * 4) (N m j : Nat)
    (hbk : s.brk = some (s.steps + N)) (hm : m < blkEnd x n - x / 4) (hj : brkHit (abBlocks s x n g m) (blockN (abBlocks s x n g m) (x / 4 + m) x n g) = some j) :
    N < (chL f x n g (blkEnd x n - x / 4)).length * (3 + s.P) ∧ Fin s f bu x n g (chL f x n g (blkEnd x n - x / 4)) N (abDown (abBlocks s x n g m) (x / 4 + m) x n g j) := by
  have he : x / 4 + (blkEnd x n - x / 4) ≤ s.D * s.R := by unfold blkEnd; split <;> omega
  obtain ⟨h1, h2, h3⟩ := hit_some h hb x n g hg m (by omega) N j hbk hj
  have e1 := chL_succ_true f x n g m h1
  have t0 := chL_more f x n g m (blkEnd x n - x / 4 - m)
  have t1 := chL_more f x n g (m + 1) (blkEnd x n - x / 4 - (m + 1))
  rw [show m + (blkEnd x n - x / 4 - m) = blkEnd x n - x / 4 by omega] at t0
  rw [show m + 1 + (blkEnd x n - x / 4 - (m + 1)) = blkEnd x n - x / 4 by omega] at t1
  have l1 : (chL f x n g (m + 1)).length = (chL f x n g m).length + 1 := by rw [e1, List.length_append]; rfl
  have l2 : (chL f x n g (m + 1)).length ≤ (chL f x n g (blkEnd x n - x / 4)).length := by
    have := congrArg List.length t1
    rw [List.length_take] at this
    omega
  have hP1 := h.inv.ok.P1
  have hP2 := h.inv.ok.P2
  have hP : s.P = 1 ∨ s.P = 2 := by omega
  have hlt : N < (chL f x n g (blkEnd x n - x / 4)).length * (3 + s.P) := by
    have : ((chL f x n g m).length + 1) * (3 + s.P) ≤ (chL f x n g (blkEnd x n - x / 4)).length * (3 + s.P) := Nat.mul_le_mul_right _ (by omega)
    rw [Nat.add_mul] at this
    omega
  have hc := (blocks_count h.inv (h.live hb) x n g hg m (by omega) h.good).1
  have i2 := (h.inv.blocks x n g hg m (by omega) h.good).2.1
  have i3 := (h.inv.blocks x n g hg (m + 1) (by omega) h.good).2.1
  refine ⟨hlt, ?_⟩
  unfold abDown
  by_cases hj0 : j = 0
  · subst hj0
    rw [if_pos rfl]
    have hmd : madeN s.P (chL f x n g (blkEnd x n - x / 4)).length N = (chL f x n g m).length := by
      unfold madeN
      rw [if_pos hlt, h2]
      rcases hP with e | e <;> rw [e] <;> omega
    refine ⟨⟨i2.D, i2.P, i2.R, i2.M⟩, ?_, ?_⟩
    · rw [hmd, t0, fLay_eq]
      exact (h.blocksL hb x n g hg m (by omega)).same _ none
    · show (abBlocks s x n g m).steps = _
      rw [hc]; omega
  · rw [if_neg hj0]
    have hmd : madeN s.P (chL f x n g (blkEnd x n - x / 4)).length N = (chL f x n g (m + 1)).length := by
      unfold madeN
      rw [if_pos hlt, h2, l1]
      rcases hP with e | e
      · rw [e] at h3 ⊢; omega
      · rw [e] at h3 ⊢; omega
    refine ⟨⟨i3.D, i3.P, i3.R, i3.M⟩, ?_, ?_⟩
    · rw [hmd, t1, fLay_eq]
      exact (h.blocksL hb x n g hg (m + 1) (by omega)).same _ none
    · show (abBlocks s x n g m).steps + j = _
      rw [hc]; omega
theorem fin_ok {s : Ab} {f : Nat → Nat} {bu : Nat → Nat → Bool} (h : KInv s f (fun _ => false) bu) (hb : ∀ d r, bu d r = true) (x n : Nat) (g : Nat → Nat) (hg : ∀ i, i < n → g i < 256) (hn : x + n ≤ s.D * s.R * 4) (N : Nat)
    (hbk : s.brk = some (s.steps + N)) (hj : ∀ m, m < blkEnd x n - x / 4 → brkHit (abBlocks s x n g m) (blockN (abBlocks s x n g m) (x / 4 + m) x n g) = none) :
    (chL f x n g (blkEnd x n - x / 4)).length * (3 + s.P) ≤ N ∧ Fin s f bu x n g (chL f x n g (blkEnd x n - x / 4)) N (abWrite s x n g) := by
  have he : x / 4 + (blkEnd x n - x / 4) ≤ s.D * s.R := by unfold blkEnd; split <;> omega
  have hle := hit_none h hb x n g hg (blkEnd x n - x / 4) he N hbk hj
  have hc := (blocks_count h.inv (h.live hb) x n g hg (blkEnd x n - x / 4) he h.good).1
  have i2 := (h.inv.blocks x n g hg (blkEnd x n - x / 4) he h.good).2.1
  refine ⟨hle, ⟨i2.D, i2.P, i2.R, i2.M⟩, ?_, ?_⟩
  · have hmd : madeN s.P (chL f x n g (blkEnd x n - x / 4)).length N = (chL f x n g (blkEnd x n - x / 4)).length := by
      unfold madeN; rw [if_neg (by omega)]
    rw [hmd, List.take_length, fLay_eq]
    exact h.blocksL hb x n g hg _ he
  · show (abBlocks s x n g (blkEnd x n - x / 4)).steps = _
    rw [hc]; omega
/-- The hoard goes on, whatever becomes of a break. -/
theorem KeepAt.wentIn {w0 w w' : World} {kb bb hb : Nat} {s s' : St} {f : Nat → Nat} {V : Nat → Value} {lo : Nat → Bool} {bu : Nat → Nat → Bool} (h : KeepAt w0 w kb bb hb s f V lo bu) (k : WentIn hb s w s' w') (hu : s'.aux = aux0) (h1 : s'.D = s.D) (h2 : s'.P = s.P) (h3 : s'.R = s.R) (h4 : s'.M = s.M) : KeepAt w0 w' kb bb hb s' f V lo bu := by
  have hX : keepX s' V lo bu = keepX s V lo bu := by funext i; unfold keepX; rw [h1, h2, h3]
  have hkv : kv hb s' bb (V 0) (V 1) = kv hb s bb (V 0) (V 1) := by funext i; unfold kv; rw [h1, h2, h3, h4]
  refine ⟨?_, ?_, ?_, h.bound, ⟨k.at', hu⟩, ?_, ?_, ?_⟩
  · rw [hX, h1, h2]
    have hf := h.fam.kept k.kept (fun i g hi hg hs => h.fam.out i g hi hg (.inr (.inr hs)))
    refine ⟨hf.own, hf.apart, fun i g hi hg hB => ?_⟩
    rcases hB with rfl | rfl | hB
    · exact h.fam.out i _ hi hg (.inl rfl)
    · exact h.fam.out i _ hi hg (.inr (.inl rfl))
    · rcases k.foot g hB with h5 | h5
      · exact h.fam.out i g hi hg (.inr (.inr h5))
      · have := h.fam.lt hi hg; omega
  · rw [hkv]; exact k.kept.row h.ne.2.1 h.row
  · rw [h1, h3]; exact k.kept.row h.ne.2.2 h.bytes
  · refine ⟨h.ne.1, fun hh => ?_, fun hh => ?_⟩
    · rcases k.foot _ hh with h5 | h5
      · exact h.ne.2.1 h5
      · have := h.row.lt; omega
    · rcases k.foot _ hh with h5 | h5
      · exact h.ne.2.2 h5
      · have := h.bytes.lt; omega
  · rw [h1, h2]
    refine ⟨h.low.1, h.low.2.1, fun g hg => ?_, h.low.2.2.2⟩
    rcases k.foot g hg with h5 | h5
    · exact h.low.2.2.1 g h5
    · have := h.below.size; omega
  · exact h.below.trans ⟨k.kept.os, k.kept.tape, k.kept.output, k.kept.size, fun g hg => k.kept.block g (Nat.lt_of_lt_of_le hg h.below.size) (fun hs => by have := h.low.2.2.1 g hs; omega)⟩
end Go.Proofs.Ytfpoiikhhjdpdab
