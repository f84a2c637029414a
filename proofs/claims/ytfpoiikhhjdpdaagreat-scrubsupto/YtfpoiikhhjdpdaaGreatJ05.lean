import Derived.Test.YtfpoiikhhjdpdaaGreatJ04
/- The drives that take in a block's change, one after another. -/
namespace Go.Proofs.YtfpoiikhhjdpdaaGreat
open Go.RowKit
set_option linter.unusedVariables false
def takersL (a : Ab) (c r : Nat) : List Nat := parL a r a.P ++ (if a.lost c then [] else [c])
def abTake (a : Ab) (c r : Nat) (nw x : C4) (d : Nat) : Ab := if d = c then a.layC c r nw else abNote a d ⟨r, x.scale (wgt a d c)⟩
def abTakes (a : Ab) (c r : Nat) (nw x : C4) (l : List Nat) : Ab := l.foldl (fun a d => abTake a c r nw x d) a
theorem abTakes_snoc (a : Ab) (c r : Nat) (nw x : C4) (l : List Nat) (d : Nat) : abTakes a c r nw x (l ++ [d]) = abTake (abTakes a c r nw x l) c r nw x d := by
  unfold abTakes; rw [List.foldl_append]; rfl
theorem abTakes_app (a : Ab) (c r : Nat) (nw x : C4) (l m : List Nat) : abTakes a c r nw x (l ++ m) = abTakes (abTakes a c r nw x l) c r nw x m := by
  unfold abTakes; rw [List.foldl_append]
theorem apply_steps (a : Ab) (n d : Nat) (l : List Rec) : abApply (a.addSteps n) d l = (abApply a d l).addSteps n := by
  induction l generalizing a with
  | nil => rfl
  | cons x l ih => exact ih (a.setCell d x.row ((a.cell d x.row).xor x.c))
theorem note_addSteps (a : Ab) (n d : Nat) (x : Rec) : abNote (a.addSteps n) d x = (abNote a d x).addSteps n := by
  unfold abNote
  show (if (a.recs d).length < a.M then _ else _) = _
  split
  · rfl
  · show (abApply (a.addSteps n) d _).setLog d _ = _
    rw [apply_steps]; rfl
theorem take_addSteps (a : Ab) (n c r : Nat) (nw x : C4) (d : Nat) : abTake (a.addSteps n) c r nw x d = (abTake a c r nw x d).addSteps n := by
  unfold abTake
  split
  · rfl
  · exact note_addSteps a n d _
theorem takes_addSteps (a : Ab) (n c r : Nat) (nw x : C4) (l : List Nat) : abTakes (a.addSteps n) c r nw x l = (abTakes a c r nw x l).addSteps n := by
  induction l generalizing a with
  | nil => rfl
  | cons d l ih => show abTakes (abTake (a.addSteps n) c r nw x d) c r nw x l = _; rw [take_addSteps]; exact ih _
/-- The same for the break. -/
def Ab.setBrk (a : Ab) (b : Option Nat) : Ab := { a with brk := b }
theorem apply_brk (a : Ab) (n : Option Nat) (d : Nat) (l : List Rec) : abApply (a.setBrk n) d l = (abApply a d l).setBrk n := by
  induction l generalizing a with
  | nil => rfl
  | cons x l ih => exact ih (a.setCell d x.row ((a.cell d x.row).xor x.c))
theorem take_brk (a : Ab) (n : Option Nat) (c r : Nat) (nw x : C4) (d : Nat) : abTake (a.setBrk n) c r nw x d = (abTake a c r nw x d).setBrk n := by
  unfold abTake
  split
  · rfl
  · unfold abNote
    show (if (a.recs d).length < a.M then _ else _) = _
    split
    · rfl
    · show (abApply (a.setBrk n) d _).setLog d _ = _
      rw [apply_brk]; rfl
theorem takes_brk (a : Ab) (n : Option Nat) (c r : Nat) (nw x : C4) (l : List Nat) : abTakes (a.setBrk n) c r nw x l = (abTakes a c r nw x l).setBrk n := by
  induction l generalizing a with
  | nil => rfl
  | cons d l ih => show abTakes (abTake (a.setBrk n) c r nw x d) c r nw x l = _; rw [take_brk]; exact ih _
theorem take_props (a : Ab) (c r : Nat) (nw x : C4) (d : Nat) : SameAb a (abTake a c r nw x d) ∧ (abTake a c r nw x d).lost = a.lost ∧ (abTake a c r nw x d).steps = a.steps ∧ (abTake a c r nw x d).brk = a.brk := by
  unfold abTake
  split
  · exact ⟨⟨rfl, rfl, rfl, rfl, rfl⟩, rfl, rfl, rfl⟩
  · have := note_props a d ⟨r, x.scale (wgt a d c)⟩
    refine ⟨this.1, this.2.1, this.2.2.2.1, ?_⟩
    unfold abNote
    split
    · rfl
    · show (abApply a d _).brk = _
      have : ∀ (l : List Rec) (a : Ab), (abApply a d l).brk = a.brk := by
        intro l
        induction l with
        | nil => intro a; rfl
        | cons y l ih => intro a; exact ih (a.setCell d y.row ((a.cell d y.row).xor y.c))
      exact this _ a
theorem takes_props (a : Ab) (c r : Nat) (nw x : C4) (l : List Nat) : SameAb a (abTakes a c r nw x l) ∧ (abTakes a c r nw x l).lost = a.lost ∧ (abTakes a c r nw x l).steps = a.steps ∧ (abTakes a c r nw x l).brk = a.brk := by
  induction l generalizing a with
  | nil => exact ⟨SameAb.refl a, rfl, rfl, rfl⟩
  | cons d l ih =>
    have h1 := take_props a c r nw x d
    have h2 := ih (abTake a c r nw x d)
    exact ⟨h1.1.trans h2.1, h2.2.1.trans h1.2.1, h2.2.2.1.trans h1.2.2.1, h2.2.2.2.trans h1.2.2.2⟩
theorem noted_takes (a : Ab) (c row : Nat) (nw x : C4) (k : Nat) (hc : c < a.D) : abNoted a c row x k = (abTakes a c row nw x (parL a row k)).addSteps (1 + (parL a row k).length) := by
  induction k with
  | zero => rfl
  | succ k ih =>
    simp only [abNoted, parL]
    split
    · rw [abTakes_snoc, ih, note_addSteps]
      have e1 : abTake (abTakes a c row nw x (parL a row k)) c row nw x (a.D + k) = abNote (abTakes a c row nw x (parL a row k)) (a.D + k) ⟨row, x.scale (wgt a (a.D + k) c)⟩ := by
        unfold abTake
        rw [if_neg (by omega)]
        have : wgt (abTakes a c row nw x (parL a row k)) (a.D + k) c = wgt a (a.D + k) c := by unfold wgt; rw [(takes_props a c row nw x _).1.D]
        rw [this]
      rw [e1, List.length_append]
      simp only [Ab.addSteps, List.length_singleton]
      congr 1
    · exact ih
/-- How many steps a block's change costs. -/
def costN (a : Ab) (c r : Nat) : Nat := 2 + (takersL a c r).length
theorem block_takes (a : Ab) (b fr n : Nat) (g : Nat → Nat) (hD : 1 ≤ a.D) (he : ¬ (abNew a b fr n g = holdC a (b % a.D) (b / a.D))) :
    abBlock a b fr n g = (abTakes a (b % a.D) (b / a.D) (abNew a b fr n g) ((holdC a (b % a.D) (b / a.D)).xor (abNew a b fr n g)) (takersL a (b % a.D) (b / a.D))).addSteps (costN a (b % a.D) (b / a.D)) := by
  unfold abBlock
  rw [if_neg (fun hh => he ((C4.beq_iff _ _).1 hh))]
  have hc : b % a.D < a.D := Nat.mod_lt _ (by omega)
  rw [noted_takes a (b % a.D) (b / a.D) (abNew a b fr n g) _ a.P hc]
  generalize abNew a b fr n g = nw
  generalize (holdC a (b % a.D) (b / a.D)).xor nw = x
  generalize b % a.D = c at *
  generalize b / a.D = r
  unfold abLaid takersL costN takersL
  have hl : ((abTakes a c r nw x (parL a r a.P)).addSteps (1 + (parL a r a.P).length)).lost c = a.lost c := by
    show (abTakes a c r nw x (parL a r a.P)).lost c = _
    rw [(takes_props a c r nw x _).2.1]
  rw [hl]
  cases a.lost c
  · simp only [Bool.false_eq_true, if_false]
    rw [abTakes_snoc, List.length_append]
    show _ = (abTake (abTakes a c r nw x (parL a r a.P)) c r nw x c).addSteps _
    unfold abTake
    rw [if_pos rfl]
    simp only [Ab.addSteps, Ab.layC, Ab.setCell, Ab.setUb, List.length_singleton]
    congr 1
    omega
  · simp only [if_true, List.append_nil]
    simp only [Ab.addSteps]
    congr 1
    omega
/-- The break comes while so many steps are done: before the j-th of them, counted from 0. -/
def brkHit (a : Ab) (n : Nat) : Option Nat := match a.brk with
  | none => none
  | some k => if a.steps ≤ k ∧ k < a.steps + n then some (k - a.steps) else none
/-- How many steps block b costs. -/
def blockN (a : Ab) (b fr n : Nat) (g : Nat → Nat) : Nat := if (abNew a b fr n g).beq (holdC a (b % a.D) (b / a.D)) then 0 else costN a (b % a.D) (b / a.D)
/-- A block at whose step j the hoard goes down, as it is behind Mount. -/
def abDown (a : Ab) (b fr n : Nat) (g : Nat → Nat) (j : Nat) : Ab := if j = 0 then a.setBrk none else { abBlock a b fr n g with steps := a.steps + j, brk := none }
end Go.Proofs.YtfpoiikhhjdpdaaGreat
