/- What a write does, in plain mathematics: bytes, steps, records. -/
import Derived.Test.YtbjaiojajmdilaaKWrite
namespace Go.Proofs.Ytbjaiojajmdilaa
set_option linter.unusedVariables false
def abByte (a : Ab) (i : Nat) : Nat := (a.cell (i / 4 % a.D) (i / 4 / a.D)).at (i % 4)
theorem apply_cell (a : Ab) (d : Nat) (l : List Rec) (c r : Nat) (h : c ≠ d) : (abApply a d l).cell c r = a.cell c r := by
  induction l generalizing a with
  | nil => rfl
  | cons x l ih =>
    show (abApply (a.setCell d x.row ((a.cell d x.row).xor x.c)) d l).cell c r = _
    rw [ih]
    simp only [Ab.setCell]
    rw [if_neg (fun e => h e.1)]
theorem apply_recs (a : Ab) (d : Nat) (l : List Rec) : (abApply a d l).recs = a.recs := by
  induction l generalizing a with
  | nil => rfl
  | cons x l ih => exact ih (a.setCell d x.row ((a.cell d x.row).xor x.c))
theorem note_cell (a : Ab) (d : Nat) (x : Rec) (c r : Nat) (h : c ≠ d) : (abNote a d x).cell c r = a.cell c r := by
  unfold abNote
  split
  · rfl
  · exact apply_cell a d _ c r h
theorem note_recs_other (a : Ab) (d : Nat) (x : Rec) (d' : Nat) (h : d' ≠ d) : (abNote a d x).recs d' = a.recs d' := by
  unfold abNote
  split
  · simp only [Ab.setLog]; rw [if_neg h]
  · simp only [Ab.setLog]; rw [if_neg h, apply_recs]
theorem note_recs_same (a : Ab) (d : Nat) (x : Rec) : (abNote a d x).recs d = (if (a.recs d).length < a.M then a.recs d else (a.recs d).drop 1) ++ [x] := by
  unfold abNote
  split
  · simp [Ab.setLog]
  · simp [Ab.setLog]
theorem noted_cell (a : Ab) (c row : Nat) (x : C4) (k : Nat) (c' r' : Nat) (h : c' < a.D) : (abNoted a c row x k).cell c' r' = a.cell c' r' := by
  induction k with
  | zero => rfl
  | succ k ih =>
    show (abNote (abNoted a c row x k) (a.D + k) _).cell c' r' = _
    rw [note_cell _ _ _ _ _ (by omega), ih]
theorem noted_recs_other (a : Ab) (c row : Nat) (x : C4) (k d : Nat) (h : d < a.D ∨ a.D + k ≤ d) : (abNoted a c row x k).recs d = a.recs d := by
  induction k with
  | zero => rfl
  | succ k ih =>
    show (abNote (abNoted a c row x k) (a.D + k) _).recs d = _
    rw [note_recs_other _ _ _ _ (by omega), ih (by omega)]
theorem noted_recs (a : Ab) (c row : Nat) (x : C4) (k d : Nat) (h : a.D ≤ d) (h2 : d < a.D + k) : (abNoted a c row x k).recs d = (if (a.recs d).length < a.M then a.recs d else (a.recs d).drop 1) ++ [⟨row, x.scale (wgtD a.D d c)⟩] := by
  induction k with
  | zero => omega
  | succ k ih =>
    show (abNote (abNoted a c row x k) (a.D + k) _).recs d = _
    by_cases e : d = a.D + k
    · subst e
      rw [note_recs_same, noted_recs_other _ _ _ _ _ _ (by omega), (abNoted_inv a c row x k).2.2.2.1]
    · rw [note_recs_other _ _ _ _ e, ih (by omega)]
theorem block_cell (a : Ab) (b fr n : Nat) (f : Nat → Nat) (c r : Nat) (h : c < a.D) : (abBlock a b fr n f).cell c r = if c = b % a.D ∧ r = b / a.D then abNew a b fr n f else a.cell c r := by
  unfold abBlock
  cases hh : (abNew a b fr n f).beq (a.cell (b % a.D) (b / a.D))
  · show (if c = b % a.D ∧ r = b / a.D then abNew a b fr n f else (abNoted _ _ _ _ _).cell c r) = _
    rw [noted_cell _ _ _ _ _ _ _ h]
  · show a.cell c r = _
    by_cases e : c = b % a.D ∧ r = b / a.D
    · rw [if_pos e, (C4.beq_iff _ _).1 hh, e.1, e.2]
    · rw [if_neg e]
theorem divmod_eq (D x y : Nat) (hD : 0 < D) : (x % D = y % D ∧ x / D = y / D) ↔ x = y := by
  constructor
  · intro ⟨h1, h2⟩
    rw [← Nat.div_add_mod x D, ← Nat.div_add_mod y D, h1, h2]
  · intro h; subst h; exact ⟨rfl, rfl⟩
theorem block_byte (a : Ab) (b fr n : Nat) (f : Nat → Nat) (i : Nat) (hD : 0 < a.D) : abByte (abBlock a b fr n f) i = if i / 4 = b then layN (abByte a) fr n f i else abByte a i := by
  unfold abByte
  rw [(abBlock_inv a b fr n f).1, block_cell _ _ _ _ _ _ _ (Nat.mod_lt _ hD)]
  by_cases e : i / 4 = b
  · rw [if_pos ((divmod_eq a.D _ _ hD).2 e), if_pos e]
    unfold abNew C4.overlay
    rw [C4.at_mk4 _ _ (by omega)]
    unfold ovl layN
    by_cases h : fr ≤ i ∧ i < fr + n
    · rw [if_pos (by omega), if_pos h]
      congr 1
      omega
    · rw [if_neg (by omega), if_neg h]
      show _ = (a.cell (i / 4 % a.D) (i / 4 / a.D)).at (i % 4)
      rw [e]
  · rw [if_neg (fun h => e ((divmod_eq a.D _ _ hD).1 h)), if_neg e]
theorem layN_idem (f : Nat → Nat) (fr n : Nat) (g : Nat → Nat) (i : Nat) (f' : Nat → Nat) (h : f' i = f i) : layN f' fr n g i = layN f fr n g i := by
  unfold layN; split
  · rfl
  · exact h
theorem blocks_byte (a : Ab) (fr n : Nat) (f : Nat → Nat) (m i : Nat) (hD : 0 < a.D) : abByte (abBlocks a fr n f m) i = if fr / 4 ≤ i / 4 ∧ i / 4 < fr / 4 + m then layN (abByte a) fr n f i else abByte a i := by
  induction m with
  | zero => rw [if_neg (by omega)]; rfl
  | succ m ih =>
    show abByte (abBlock (abBlocks a fr n f m) (fr / 4 + m) fr n f) i = _
    rw [block_byte _ _ _ _ _ _ (by rw [(abBlocks_inv a fr n f m).1]; exact hD)]
    by_cases e : i / 4 = fr / 4 + m
    · rw [if_pos e, if_pos (by omega)]
      exact layN_idem _ _ _ _ _ _ (by rw [ih, if_neg (by omega)])
    · rw [if_neg e, ih]
      by_cases h : fr / 4 ≤ i / 4 ∧ i / 4 < fr / 4 + m
      · rw [if_pos h, if_pos (by omega)]
      · rw [if_neg h, if_neg (by omega)]
theorem write_byte (a : Ab) (fr n : Nat) (f : Nat → Nat) (i : Nat) (hD : 0 < a.D) : abByte (abWrite a fr n f) i = layN (abByte a) fr n f i := by
  unfold abWrite
  rw [blocks_byte _ _ _ _ _ _ hD]
  split
  · rfl
  · rename_i h
    unfold layN
    rw [if_neg (by omega)]
theorem chTo_false (f : Nat → Nat) (a n : Nat) (g : Nat → Nat) (b j : Nat) : chTo f a n g b j = false ↔ ∀ i, i < j → chAt f a n g b i = false := by
  induction j with
  | zero => simp [chTo]
  | succ j ih =>
    simp only [chTo, Bool.or_eq_false_iff, ih]
    constructor
    · intro ⟨h1, h2⟩ i hi
      by_cases e : i = j
      · subst e; exact h2
      · exact h1 i (by omega)
    · intro h
      exact ⟨fun i hi => h i (by omega), h j (by omega)⟩
/-- A block is made different just if its new bytes are not its old ones. -/
theorem chB_iff (a : Ab) (b fr n : Nat) (g : Nat → Nat) (f : Nat → Nat) (hD : 0 < a.D) (hf : ∀ i, i / 4 = b → f i = abByte a i) : (abNew a b fr n g).beq (a.cell (b % a.D) (b / a.D)) = !(chB f fr n g b) := by
  have key : abNew a b fr n g = a.cell (b % a.D) (b / a.D) ↔ chB f fr n g b = false := by
    unfold chB
    rw [chTo_false]
    have hb : ∀ j, j < 4 → f (b * 4 + j) = (a.cell (b % a.D) (b / a.D)).at j := by
      intro j hj
      rw [hf _ (by omega)]
      unfold abByte
      rw [show (b * 4 + j) / 4 = b by omega, show (b * 4 + j) % 4 = j by omega]
    constructor
    · intro h j hj
      have h1 : (abNew a b fr n g).at j = (a.cell (b % a.D) (b / a.D)).at j := by rw [h]
      unfold abNew C4.overlay at h1
      rw [C4.at_mk4 _ _ hj] at h1
      unfold ovl at h1
      unfold chAt
      by_cases hr : fr ≤ b * 4 + j ∧ b * 4 + j < fr + n
      · rw [if_pos (by omega)] at h1
        rw [decide_eq_true hr, hb j hj, ← h1]
        have : ((b : Int) * 4 - fr + j).toNat = b * 4 + j - fr := by omega
        rw [this]; simp
      · rw [decide_eq_false hr]; rfl
    · intro h
      apply C4.ext'
      intro j hj
      unfold abNew C4.overlay
      rw [C4.at_mk4 _ _ hj]
      unfold ovl
      split
      · rename_i hr
        have h1 := h j hj
        unfold chAt at h1
        rw [decide_eq_true (by omega), Bool.true_and] at h1
        have h2 : g (b * 4 + j - fr) = f (b * 4 + j) := by simpa using h1
        have : ((b : Int) * 4 - fr + j).toNat = b * 4 + j - fr := by omega
        rw [this, h2, hb j hj]
      · rfl
  cases hc : chB f fr n g b
  · exact (C4.beq_iff _ _).2 (key.2 hc)
  · rw [Bool.not_true, Bool.eq_false_iff]
    intro h
    have := key.1 ((C4.beq_iff _ _).1 h)
    rw [hc] at this; cases this
/-- Steps and records of a write, by the blocks that it makes different. -/
theorem blocks_count (a : Ab) (fr n : Nat) (g : Nat → Nat) (f : Nat → Nat) (m : Nat) (hD : 0 < a.D) (hf : ∀ i, fr / 4 ≤ i / 4 → i / 4 < fr / 4 + m → f i = abByte a i) (hM : ∀ d, (a.recs d).length ≤ a.M) (hM1 : 1 ≤ a.M) :
    (abBlocks a fr n g m).steps = a.steps + (chL f fr n g m).length * (3 + a.P) ∧
    (∀ d, a.D ≤ d → d < a.D + a.P → ((abBlocks a fr n g m).recs d).length = min ((a.recs d).length + (chL f fr n g m).length) a.M) ∧
    (∀ d, a.D ≤ d → d < a.D + a.P → ∀ x, (chL f fr n g m).getLast? = some x → ∃ r, ((abBlocks a fr n g m).recs d).getLast? = some r ∧ r.row = x / a.D) := by
  induction m with
  | zero =>
    refine ⟨?_, fun d _ _ => ?_, fun d _ _ x hx => ?_⟩
    · show a.steps = a.steps + 0 * _; omega
    · show (a.recs d).length = min ((a.recs d).length + 0) a.M
      have := hM d; omega
    · simp [chL] at hx
  | succ m ih =>
    obtain ⟨h1, h2, h3⟩ := ih (fun i hi1 hi2 => hf i hi1 (by omega))
    have inv := abBlocks_inv a fr n g m
    have hbeq := chB_iff (abBlocks a fr n g m) (fr / 4 + m) fr n g f (by rw [inv.1]; exact hD) (by
      intro i hi
      rw [hf i (by omega) (by omega), blocks_byte a fr n g m i hD, if_neg (by omega)])
    have hdef : abBlocks a fr n g (m + 1) = abBlock (abBlocks a fr n g m) (fr / 4 + m) fr n g := rfl
    rw [hdef]
    generalize hA : abBlocks a fr n g m = A at *
    cases hc : chB f fr n g (fr / 4 + m)
    · rw [hc, Bool.not_false] at hbeq
      have e1 : abBlock A (fr / 4 + m) fr n g = A := by unfold abBlock; rw [hbeq]; rfl
      have e2 : chL f fr n g (m + 1) = chL f fr n g m := by simp only [chL]; rw [hc]; rfl
      rw [e1, e2]
      exact ⟨h1, h2, h3⟩
    · rw [hc, Bool.not_true] at hbeq
      have e2 : chL f fr n g (m + 1) = chL f fr n g m ++ [fr / 4 + m] := by simp only [chL]; rw [hc]; rfl
      have e1 : abBlock A (fr / 4 + m) fr n g = ((abNoted A ((fr / 4 + m) % A.D) ((fr / 4 + m) / A.D) ((A.cell ((fr / 4 + m) % A.D) ((fr / 4 + m) / A.D)).xor (abNew A (fr / 4 + m) fr n g)) A.P).setCell ((fr / 4 + m) % A.D) ((fr / 4 + m) / A.D) (abNew A (fr / 4 + m) fr n g)).addSteps 2 := by
        unfold abBlock; rw [hbeq]; rfl
      rw [e1, e2, List.length_append]
      refine ⟨?_, fun d hd1 hd2 => ?_, fun d hd1 hd2 x hx => ?_⟩
      · show (abNoted A _ _ _ A.P).steps + 2 = _
        rw [(abNoted_inv A _ _ _ A.P).2.2.2.2, h1, inv.2.1]
        simp only [List.length_singleton, Nat.add_mul]
        omega
      · show ((abNoted A _ _ _ A.P).recs d).length = _
        rw [noted_recs A _ _ _ _ _ (by rw [inv.1]; exact hd1) (by rw [inv.1, inv.2.1]; exact hd2)]
        have h4 := h2 d hd1 hd2
        rw [List.length_append, inv.2.2.2.1]
        simp only [List.length_singleton]
        split
        · omega
        · rw [List.length_drop]; omega
      · rw [List.getLast?_append] at hx
        simp at hx
        subst hx
        refine ⟨⟨(fr / 4 + m) / A.D, ((A.cell ((fr / 4 + m) % A.D) ((fr / 4 + m) / A.D)).xor (abNew A (fr / 4 + m) fr n g)).scale (wgtD A.D d ((fr / 4 + m) % A.D))⟩, ?_, ?_⟩
        · show ((abNoted A _ _ _ A.P).recs d).getLast? = _
          rw [noted_recs A _ _ _ _ _ (by rw [inv.1]; exact hd1) (by rw [inv.1, inv.2.1]; exact hd2), List.getLast?_append]
          rfl
        · show (fr / 4 + m) / A.D = _
          rw [inv.1]
end Go.Proofs.Ytbjaiojajmdilaa
