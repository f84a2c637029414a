/- What a write costs where all drives are live: steps, records. -/
import Derived.Test.YtfpoiikhhjdpdabPure
namespace Go.Proofs.Ytfpoiikhhjdpdab
open Go.RowKit
set_option linter.unusedVariables false
/-- Every cell is available. -/
def Live (a : Ab) : Prop := ∀ d r, d < a.D + a.P → r < a.R → avB a d r = true
theorem KInv.live {a : Ab} {f : Nat → Nat} {bu : Nat → Nat → Bool} (h : KInv a f (fun _ => false) bu) (hb : ∀ d r, bu d r = true) : Live a := fun d r hd hr => by
  rw [h.av d r hd hr, hb]; rfl
theorem parL_live (a : Ab) (r m : Nat) (h : ∀ k, k < m → avB a (a.D + k) r = true) : (parL a r m).length = m := by
  induction m with
  | zero => rfl
  | succ m ih =>
    simp only [parL]
    rw [if_pos (h m (by omega)), List.length_append, ih (fun k hk => h k (by omega))]
    rfl
theorem cost_live {a : Ab} (h : Live a) (c r : Nat) (hc : c < a.D) (hr : r < a.R) : costN a c r = 3 + a.P := by
  unfold costN takersL
  have hl : a.lost c = false := av_lost (h c r (by omega) hr)
  rw [hl, List.length_append, parL_live a r a.P (fun k hk => h _ r (by omega) hr)]
  simp
  omega
theorem noted_recs_at (a : Ab) (c row : Nat) (x : C4) (k d : Nat) (h1 : a.D ≤ d) (h2 : d < a.D + k) (hav : ∀ j, j < k → avB a (a.D + j) row = true) :
    (abNoted a c row x k).recs d = (if (a.recs d).length < a.M then a.recs d else (a.recs d).drop 1) ++ [⟨row, x.scale (wgt a d c)⟩] := by
  induction k with
  | zero => omega
  | succ k ih =>
    simp only [abNoted]
    rw [if_pos (hav k (by omega))]
    show (abNote _ _ _).recs d = _
    have np := note_props (abNoted a c row x k) (a.D + k) ⟨row, x.scale (wgt a (a.D + k) c)⟩
    have nd := noted_props a c row x k
    by_cases e : d = a.D + k
    · rw [e, np.2.2.2.2.2.2, nd.2.2.2.2.2 (a.D + k) (.inr (Nat.le_refl _)), nd.1.M]
    · rw [np.2.2.2.2.2.1 d e, ih (by omega) (fun j hj => hav j (by omega))]
/-- A block that changes. -/
theorem block_live {a : Ab} (hl : Live a) (b fr n : Nat) (g : Nat → Nat) (hb : b < a.D * a.R) (hD : 1 ≤ a.D) (he : (abNew a b fr n g).beq (holdC a (b % a.D) (b / a.D)) = false) :
    (abBlock a b fr n g).steps = a.steps + (3 + a.P) ∧ (∀ d, a.D ≤ d → d < a.D + a.P → ∃ c, (abBlock a b fr n g).recs d = (if (a.recs d).length < a.M then a.recs d else (a.recs d).drop 1) ++ [⟨b / a.D, c⟩]) := by
  have hc : b % a.D < a.D := Nat.mod_lt b (by omega)
  have hr : b / a.D < a.R := Nat.div_lt_of_lt_mul hb
  have hpar : ∀ k, k < a.P → avB a (a.D + k) (b / a.D) = true := fun k hk => hl _ _ (by omega) hr
  have hlo : a.lost (b % a.D) = false := av_lost (hl (b % a.D) (b / a.D) (by omega) hr)
  unfold abBlock
  rw [he]
  simp only [Bool.false_eq_true, if_false]
  have np := noted_props a (b % a.D) (b / a.D) ((holdC a (b % a.D) (b / a.D)).xor (abNew a b fr n g)) a.P
  have nr := fun d h1 h2 => noted_recs_at a (b % a.D) (b / a.D) ((holdC a (b % a.D) (b / a.D)).xor (abNew a b fr n g)) a.P d h1 h2 hpar
  generalize abNoted a (b % a.D) (b / a.D) ((holdC a (b % a.D) (b / a.D)).xor (abNew a b fr n g)) a.P = A at *
  have hA : A.lost (b % a.D) = false := by rw [np.2.1]; exact hlo
  refine ⟨?_, fun d h1 h2 => ?_⟩
  · unfold abLaid
    rw [hA]
    show A.steps + 1 + 1 = _
    rw [np.2.2.2.1]
    unfold parN
    rw [parL_live a _ a.P hpar]
    omega
  · refine ⟨((holdC a (b % a.D) (b / a.D)).xor (abNew a b fr n g)).scale (wgt a d (b % a.D)), ?_⟩
    show (abLaid A _ _ _).recs d = _
    rw [(laid_props A _ _ _).2.2]
    exact nr d h1 h2
theorem blocks_live {a : Ab} {f : Nat → Nat} (h : AInv a f) (hl : Live a) (fr n : Nat) (g : Nat → Nat) (hg : ∀ i, i < n → g i < 256) (m : Nat) (hm : fr / 4 + m ≤ a.D * a.R) (hgood : ∀ r, r < a.R → goneB a r = false) : Live (abBlocks a fr n g m) := by
  obtain ⟨_, i2, _, i4, _⟩ := h.blocks fr n g hg m hm hgood
  intro d r hd hr
  rw [i2.D, i2.P] at hd
  rw [i2.R] at hr
  exact i4 d r (hl d r hd hr)
/-- Whether the m-th block changes. -/
theorem blocks_ch {a : Ab} {f : Nat → Nat} (h : AInv a f) (fr n : Nat) (g : Nat → Nat) (hg : ∀ i, i < n → g i < 256) (m : Nat) (hm : fr / 4 + m < a.D * a.R) (hgood : ∀ r, r < a.R → goneB a r = false) :
    (abNew (abBlocks a fr n g m) (fr / 4 + m) fr n g).beq (holdC (abBlocks a fr n g m) ((fr / 4 + m) % (abBlocks a fr n g m).D) ((fr / 4 + m) / (abBlocks a fr n g m).D)) = !(chB f fr n g (fr / 4 + m)) := by
  obtain ⟨i1, i2, i3, i4, i5⟩ := h.blocks fr n g hg m (by omega) hgood
  have hD1 := h.ok.D1
  have hrow : (fr / 4 + m) / a.D < a.R := Nat.div_lt_of_lt_mul hm
  have hcol : (fr / 4 + m) % a.D < a.D := Nat.mod_lt _ (by omega)
  have hh := i1.holds ((fr / 4 + m) / a.D) (by rw [i2.R]; exact hrow) (i5 _ hrow) ((fr / 4 + m) % a.D) (by rw [i2.D]; exact hcol)
  have hc := chB_iff (abBlocks a fr n g m) (fr / 4 + m) fr n g (fBs f fr n g m) (by rw [i2.D]; omega) (by rw [i2.D] at hh ⊢; exact hh)
  rw [hc, chB_congr (f' := f) fr n g (fr / 4 + m) (fun i hi => by unfold fBs; rw [if_neg (by omega)])]
theorem blockN_live {a : Ab} {f : Nat → Nat} (h : AInv a f) (hl : Live a) (fr n : Nat) (g : Nat → Nat) (hg : ∀ i, i < n → g i < 256) (m : Nat) (hm : fr / 4 + m < a.D * a.R) (hgood : ∀ r, r < a.R → goneB a r = false) :
    blockN (abBlocks a fr n g m) (fr / 4 + m) fr n g = if chB f fr n g (fr / 4 + m) then 3 + a.P else 0 := by
  have i2 := (h.blocks fr n g hg m (by omega) hgood).2.1
  have hl1 := blocks_live h hl fr n g hg m (by omega) hgood
  have hD1 := h.ok.D1
  unfold blockN
  rw [blocks_ch h fr n g hg m hm hgood]
  cases chB f fr n g (fr / 4 + m)
  · rfl
  · simp only [Bool.not_true, Bool.false_eq_true, if_false, if_true]
    rw [cost_live hl1 _ _ (Nat.mod_lt _ (by rw [i2.D]; omega)) (by rw [i2.D, i2.R]; exact Nat.div_lt_of_lt_mul hm), i2.P]
theorem blocks_count {a : Ab} {f : Nat → Nat} (h : AInv a f) (hl : Live a) (fr n : Nat) (g : Nat → Nat) (hg : ∀ i, i < n → g i < 256) (m : Nat) (hm : fr / 4 + m ≤ a.D * a.R) (hgood : ∀ r, r < a.R → goneB a r = false) :
    (abBlocks a fr n g m).steps = a.steps + (chL f fr n g m).length * (3 + a.P) ∧
    (∀ d, a.D ≤ d → d < a.D + a.P → ((abBlocks a fr n g m).recs d).length = min ((a.recs d).length + (chL f fr n g m).length) a.M) ∧
    (∀ d, a.D ≤ d → d < a.D + a.P → ∀ x, (chL f fr n g m).getLast? = some x → ∃ r, ((abBlocks a fr n g m).recs d).getLast? = some r ∧ r.row = x / a.D) := by
  have hM := h.ok.len
  have hM1 := h.ok.M1
  induction m with
  | zero =>
    refine ⟨?_, fun d _ _ => ?_, fun d _ _ x hx => ?_⟩
    · show a.steps = a.steps + 0 * _; omega
    · show (a.recs d).length = min ((a.recs d).length + 0) a.M
      have := hM d; omega
    · simp [chL] at hx
  | succ m ih =>
    obtain ⟨h1, h2, h3⟩ := ih (by omega)
    have inv := (h.blocks fr n g hg m (by omega) hgood).2.1
    have hl1 := blocks_live h hl fr n g hg m (by omega) hgood
    have hbeq := blocks_ch h fr n g hg m (by omega) hgood
    have hdef : abBlocks a fr n g (m + 1) = abBlock (abBlocks a fr n g m) (fr / 4 + m) fr n g := rfl
    rw [hdef]
    generalize hA : abBlocks a fr n g m = A at *
    cases hc : chB f fr n g (fr / 4 + m)
    · rw [hc, Bool.not_false] at hbeq
      have e1 : abBlock A (fr / 4 + m) fr n g = A := by unfold abBlock; rw [hbeq]; rfl
      have e2 : chL f fr n g (m + 1) = chL f fr n g m := by simp only [chL]; rw [hc]; rfl
      rw [e1, e2]
      exact ⟨h1, h2, h3⟩
    · rw [hc, Bool.not_true] at hbeq
      have e2 : chL f fr n g (m + 1) = chL f fr n g m ++ [fr / 4 + m] := by simp only [chL]; rw [hc]; rfl
      have bl := block_live hl1 (fr / 4 + m) fr n g (by rw [inv.D, inv.R]; omega) (by rw [inv.D]; exact h.ok.D1) hbeq
      rw [e2, List.length_append]
      refine ⟨?_, fun d hd1 hd2 => ?_, fun d hd1 hd2 x hx => ?_⟩
      · rw [bl.1, h1, inv.P]
        simp only [List.length_singleton, Nat.add_mul]
        omega
      · obtain ⟨c, hcc⟩ := bl.2 d (by rw [inv.D]; exact hd1) (by rw [inv.D, inv.P]; exact hd2)
        rw [hcc]
        have h4 := h2 d hd1 hd2
        rw [List.length_append, inv.M]
        simp only [List.length_singleton]
        split
        · omega
        · rw [List.length_drop]; omega
      · rw [List.getLast?_append] at hx
        simp at hx
        subst hx
        obtain ⟨c, hcc⟩ := bl.2 d (by rw [inv.D]; exact hd1) (by rw [inv.D, inv.P]; exact hd2)
        refine ⟨_, by rw [hcc, List.getLast?_append]; rfl, ?_⟩
        show (fr / 4 + m) / A.D = _
        rw [inv.D]
end Go.Proofs.Ytfpoiikhhjdpdab
