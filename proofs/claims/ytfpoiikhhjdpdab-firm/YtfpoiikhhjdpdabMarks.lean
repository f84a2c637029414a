/- What the calls do to a hoard, in plain mathematics; what stays true: each available cell is what the bytes want. -/
import Derived.Test.YtfpoiikhhjdpdabCodes
import Derived.Test.YtfpoiikhhjdpdabPSum
namespace Go.Proofs.Ytfpoiikhhjdpdab
open Go.RowKit
set_option linter.unusedVariables false
def Ab.setCell (a : Ab) (d r : Nat) (c : C4) : Ab := { a with cell := fun d' r' => if d' = d ∧ r' = r then c else a.cell d' r' }
def Ab.setUb (a : Ab) (d r : Nat) (b : Bool) : Ab := { a with ub := fun d' r' => if d' = d ∧ r' = r then b else a.ub d' r' }
def Ab.layC (a : Ab) (d r : Nat) (c : C4) : Ab := (a.setCell d r c).setUb d r false
def Ab.setLog (a : Ab) (d : Nat) (l : List Rec) : Ab := { a with recs := fun d' => if d' = d then l else a.recs d' }
def Ab.addSteps (a : Ab) (n : Nat) : Ab := { a with steps := a.steps + n }
def Ab.newDrive (s : Ab) (d : Nat) (lo : Bool) (n : Nat) : Ab :=
  { s with lost := fun d' => if d' = d then lo else s.lost d', ub := fun d' r => if d' = d then decide (r < n) else s.ub d' r, cell := fun d' r => if d' = d then C4.zero else s.cell d' r, recs := fun d' => if d' = d then [] else s.recs d' }
def abApply (a : Ab) (d : Nat) (l : List Rec) : Ab := l.foldl (fun a r => a.setCell d r.row ((a.cell d r.row).xor r.c)) a
def abMerge (a : Ab) (d n : Nat) : Ab := (abApply a d ((a.recs d).take n)).setLog d ((a.recs d).drop n)
def abNote (a : Ab) (d : Nat) (r : Rec) : Ab := if (a.recs d).length < a.M then a.setLog d (a.recs d ++ [r]) else (abApply a d ((a.recs d).take 1)).setLog d ((a.recs d).drop 1 ++ [r])
/-- Two hoards of one shape. -/
structure SameAb (a b : Ab) : Prop where
  D : b.D = a.D
  P : b.P = a.P
  R : b.R = a.R
  M : b.M = a.M
  brk : b.brk = a.brk
theorem SameAb.refl (a : Ab) : SameAb a a := ⟨rfl, rfl, rfl, rfl, rfl⟩
theorem SameAb.trans {a b c : Ab} (h : SameAb a b) (k : SameAb b c) : SameAb a c := ⟨k.D.trans h.D, k.P.trans h.P, k.R.trans h.R, k.M.trans h.M, k.brk.trans h.brk⟩
theorem apply_props (a : Ab) (d : Nat) (l : List Rec) : SameAb a (abApply a d l) ∧ (abApply a d l).lost = a.lost ∧ (abApply a d l).ub = a.ub ∧ (abApply a d l).recs = a.recs ∧ (abApply a d l).steps = a.steps := by
  induction l generalizing a with
  | nil => exact ⟨SameAb.refl a, rfl, rfl, rfl, rfl⟩
  | cons x l ih =>
    have := ih (a.setCell d x.row ((a.cell d x.row).xor x.c))
    exact ⟨⟨this.1.D, this.1.P, this.1.R, this.1.M, this.1.brk⟩, this.2⟩
theorem apply_cell (a : Ab) (d : Nat) (l : List Rec) (d' r : Nat) : (abApply a d l).cell d' r = if d' = d then recSum r l (a.cell d r) else a.cell d' r := by
  induction l generalizing a with
  | nil => show a.cell d' r = _; split
           · rename_i h; rw [h]; rfl
           · rfl
  | cons x l ih =>
    show (abApply (a.setCell d x.row ((a.cell d x.row).xor x.c)) d l).cell d' r = _
    rw [ih]
    by_cases e : d' = d
    · rw [if_pos e, if_pos e]
      show recSum r l (if d = d ∧ r = x.row then _ else _) = recSum r l (if x.row = r then _ else _)
      by_cases e2 : x.row = r
      · rw [if_pos e2, if_pos ⟨rfl, e2.symm⟩, e2]
      · rw [if_neg e2, if_neg (fun h => e2 h.2.symm)]
    · rw [if_neg e, if_neg e]
      show (if d' = d ∧ r = x.row then _ else _) = _
      rw [if_neg (fun h => e h.1)]
theorem recSum_append (r : Nat) (l m : List Rec) (c : C4) : recSum r (l ++ m) c = recSum r m (recSum r l c) := by
  unfold recSum; rw [List.foldl_append]
theorem recSum_one (r : Nat) (x : Rec) (c : C4) : recSum r [x] c = if x.row = r then c.xor x.c else c := rfl
theorem recSum_none (r : Nat) (l : List Rec) (c : C4) (h : ∀ x ∈ l, x.row ≠ r) : recSum r l c = c := by
  induction l generalizing c with
  | nil => rfl
  | cons x l ih =>
    show recSum r l (if x.row = r then c.xor x.c else c) = c
    rw [if_neg (h x (List.mem_cons_self ..))]
    exact ih c (fun y hy => h y (List.mem_cons_of_mem _ hy))
theorem merge_val (a : Ab) (d n d' r : Nat) : valC (abMerge a d n) d' r = valC a d' r := by
  unfold valC abMerge
  show recSum r (if d' = d then (a.recs d).drop n else (abApply a d _).recs d') ((abApply a d _).cell d' r) = _
  rw [apply_cell, (apply_props a d _).2.2.2.1]
  by_cases e : d' = d
  · subst e
    rw [if_pos rfl, if_pos rfl, ← recSum_append, List.take_append_drop]
  · rw [if_neg e, if_neg e]
theorem note_val (a : Ab) (d : Nat) (x : Rec) (d' r : Nat) : valC (abNote a d x) d' r = if d' = d ∧ x.row = r then (valC a d' r).xor x.c else valC a d' r := by
  by_cases e : d' = d
  · subst e
    have key : valC (abNote a d' x) d' r = recSum r [x] (valC a d' r) := by
      unfold abNote
      split
      · unfold valC
        show recSum r (if d' = d' then a.recs d' ++ [x] else _) (a.cell d' r) = _
        rw [if_pos rfl, recSum_append]
      · unfold valC
        show recSum r (if d' = d' then (a.recs d').drop 1 ++ [x] else _) ((abApply a d' _).cell d' r) = _
        rw [if_pos rfl, recSum_append, apply_cell, if_pos rfl, ← recSum_append r _ ((a.recs d').drop 1), List.take_append_drop]
    rw [key, recSum_one]
    by_cases e2 : x.row = r
    · rw [if_pos e2, if_pos ⟨rfl, e2⟩]
    · rw [if_neg e2, if_neg (fun h => e2 h.2)]
  · rw [if_neg (fun h => e h.1)]
    unfold abNote
    split
    · unfold valC
      show recSum r (if d' = d then _ else a.recs d') (a.cell d' r) = _
      rw [if_neg e]
    · unfold valC
      show recSum r (if d' = d then _ else (abApply a d _).recs d') ((abApply a d _).cell d' r) = _
      rw [if_neg e, apply_cell, if_neg e, (apply_props a d _).2.2.2.1]
theorem note_props (a : Ab) (d : Nat) (x : Rec) : SameAb a (abNote a d x) ∧ (abNote a d x).lost = a.lost ∧ (abNote a d x).ub = a.ub ∧ (abNote a d x).steps = a.steps ∧ (∀ d' r, d' ≠ d → (abNote a d x).cell d' r = a.cell d' r) ∧ (∀ d', d' ≠ d → (abNote a d x).recs d' = a.recs d') ∧ ((abNote a d x).recs d = (if (a.recs d).length < a.M then a.recs d else (a.recs d).drop 1) ++ [x]) := by
  unfold abNote
  split
  · refine ⟨⟨rfl, rfl, rfl, rfl, rfl⟩, rfl, rfl, rfl, fun _ _ _ => rfl, fun d' h => ?_, ?_⟩
    · simp only [Ab.setLog]; rw [if_neg h]
    · simp only [Ab.setLog, if_true]
  · have hp := apply_props a d ((a.recs d).take 1)
    refine ⟨⟨hp.1.D, hp.1.P, hp.1.R, hp.1.M, hp.1.brk⟩, hp.2.1, hp.2.2.1, hp.2.2.2.2, fun d' r h => ?_, fun d' h => ?_, ?_⟩
    · show (abApply a d _).cell d' r = _
      rw [apply_cell, if_neg h]
    · simp only [Ab.setLog]; rw [if_neg h, hp.2.2.2.1]
    · simp only [Ab.setLog, if_true]
theorem recs_cell_ok {a : Ab} (h : a.ok) (d : Nat) (l : List Rec) (hl : ∀ x ∈ l, x.c.ok) (d' r : Nat) : ((abApply a d l).cell d' r).ok := by
  rw [apply_cell]
  split
  · exact recSum_ok (h.cells d r) hl
  · exact h.cells d' r
theorem merge_ok {a : Ab} (h : a.ok) (d n : Nat) : (abMerge a d n).ok := by
  have hp := apply_props a d ((a.recs d).take n)
  have e : ∀ d', (abMerge a d n).recs d' = if d' = d then (a.recs d).drop n else a.recs d' := fun d' => by
    unfold abMerge; simp only [Ab.setLog]; rw [hp.2.2.2.1]
  refine ⟨hp.1.D ▸ h.D1, hp.1.D ▸ h.D4, hp.1.P ▸ h.P1, hp.1.P ▸ h.P2, hp.1.R ▸ h.R1, hp.1.R ▸ h.R6, hp.1.M ▸ h.M1, hp.1.M ▸ h.M8, fun d' r => ?_, fun d' => ?_, fun d' x hx => ?_, fun d' hd' => ?_⟩
  · exact recs_cell_ok h d _ (fun x hx => (h.recs d x (List.mem_of_mem_take hx)).2) d' r
  · rw [e, show (abMerge a d n).M = a.M from hp.1.M]
    split
    · rename_i hd; have := h.len d; rw [List.length_drop]; omega
    · exact h.len d'
  · rw [e] at hx
    rw [show (abMerge a d n).R = a.R from hp.1.R]
    split at hx
    · exact h.recs d x (List.mem_of_mem_drop hx)
    · exact h.recs d' x hx
  · rw [e]
    have hd2 : d' < a.D := by rw [← hp.1.D]; exact hd'
    split
    · rename_i hd; rw [← hd, h.data d' hd2, List.drop_nil]
    · exact h.data d' hd2
theorem note_ok {a : Ab} (h : a.ok) (d : Nat) (x : Rec) (hd : a.D ≤ d) (hx : x.row < a.R) (hc : x.c.ok) : (abNote a d x).ok := by
  have hp := note_props a d x
  have hM1 := h.M1
  refine ⟨hp.1.D ▸ h.D1, hp.1.D ▸ h.D4, hp.1.P ▸ h.P1, hp.1.P ▸ h.P2, hp.1.R ▸ h.R1, hp.1.R ▸ h.R6, hp.1.M ▸ h.M1, hp.1.M ▸ h.M8, fun d' r => ?_, fun d' => ?_, fun d' y hy => ?_, fun d' hd' => ?_⟩
  · unfold abNote
    split
    · exact h.cells d' r
    · exact recs_cell_ok h d _ (fun x hx => (h.recs d x (List.mem_of_mem_take hx)).2) d' r
  · rw [hp.1.M]
    by_cases e : d' = d
    · subst e
      rw [hp.2.2.2.2.2.2, List.length_append]
      have := h.len d'
      split
      · simp; omega
      · rw [List.length_drop]; simp; omega
    · rw [hp.2.2.2.2.2.1 d' e]; exact h.len d'
  · rw [hp.1.R]
    by_cases e : d' = d
    · subst e
      rw [hp.2.2.2.2.2.2] at hy
      rcases List.mem_append.1 hy with hy | hy
      · split at hy
        · exact h.recs d' y hy
        · exact h.recs d' y (List.mem_of_mem_drop hy)
      · have : y = x := by simpa using hy
        subst this; exact ⟨hx, hc⟩
    · rw [hp.2.2.2.2.2.1 d' e] at hy; exact h.recs d' y hy
  · have hd2 : d' < a.D := by rw [← hp.1.D]; exact hd'
    rw [hp.2.2.2.2.2.1 d' (by omega)]; exact h.data d' hd2
/- Availability. -/
theorem avB_congr {a b : Ab} (h1 : b.lost = a.lost) (h2 : b.ub = a.ub) (d r : Nat) : avB b d r = avB a d r := by unfold avB; rw [h1, h2]
theorem missL_mono {a b : Ab} {r : Nat} (h : ∀ d, avB a d r = true → avB b d r = true) (k : Nat) : (missL b r k).length ≤ (missL a r k).length := by
  induction k with
  | zero => exact Nat.le_refl _
  | succ k ih =>
    simp only [missL]
    cases ha : avB a k r
    · cases hb : avB b k r
      · simp; exact ih
      · simp; omega
    · rw [h k ha]; simp; exact ih
theorem parL_mono {a b : Ab} {r : Nat} (hD : b.D = a.D) (h : ∀ d, avB a d r = true → avB b d r = true) (k : Nat) : (parL a r k).length ≤ (parL b r k).length := by
  induction k with
  | zero => exact Nat.le_refl _
  | succ k ih =>
    simp only [parL, hD]
    cases ha : avB a (a.D + k) r
    · cases hb : avB b (a.D + k) r
      · simp; exact ih
      · simp; omega
    · rw [h _ ha]; simp; exact ih
theorem goneB_mono {a b : Ab} {r : Nat} (hD : b.D = a.D) (hP : b.P = a.P) (h : ∀ d, avB a d r = true → avB b d r = true) (hg : goneB a r = false) : goneB b r = false := by
  simp only [goneB, decide_eq_false_iff_not] at hg ⊢
  have h1 := missL_mono h a.D
  have h2 := parL_mono hD h a.P
  rw [hD, hP]; omega
/-- What is true of a hoard whose bytes are f. -/
structure AInv (a : Ab) (f : Nat → Nat) : Prop where
  ok : a.ok
  bound : ∀ i, f i < 256
  data : ∀ r, r < a.R → RowData a f r
  par : ∀ r, r < a.R → RowPar a f r
  recs : ∀ d, ∀ x ∈ a.recs d, avB a d x.row = true
theorem wsum_congr {a b : Ab} {f g : Nat → Nat} {r d : Nat} (hD : b.D = a.D) (k : Nat) (h : ∀ c, c < k → blkC a.D g c r = blkC a.D f c r) : wsum b g d r k = wsum a f d r k := by
  induction k with
  | zero => rfl
  | succ k ih =>
    simp only [wsum]
    rw [ih (fun c hc => h c (by omega)), hD, h k (by omega), show wgt b d k = wgt a d k by unfold wgt; rw [hD]]
/-- The same hoard, other words for the same bytes. -/
theorem AInv.congr {a : Ab} {f g : Nat → Nat} (h : AInv a f) (hg : ∀ i, g i < 256) (he : ∀ c r, c < a.D → r < a.R → blkC a.D g c r = blkC a.D f c r) : AInv a g := by
  refine ⟨h.ok, hg, fun r hr d hd hav => ?_, fun r hr d h1 h2 hav => ?_, h.recs⟩
  · rw [h.data r hr d hd hav, he d r hd hr]
  · rw [h.par r hr d h1 h2 hav]; exact (wsum_congr rfl a.D (fun c hc => he c r hc hr)).symm
theorem AInv.holds {a : Ab} {f : Nat → Nat} (h : AInv a f) (r : Nat) (hr : r < a.R) (hg : goneB a r = false) (c : Nat) (hc : c < a.D) : holdC a c r = blkC a.D f c r := holdC_eq h.ok h.bound (h.data r hr) (h.par r hr) hg c hc
/-- Records are merged. -/
theorem AInv.merge {a : Ab} {f : Nat → Nat} (h : AInv a f) (d n : Nat) (hd : a.D ≤ d) : AInv (abMerge a d n) f := by
  have hp := apply_props a d ((a.recs d).take n)
  have hav : ∀ d' r, avB (abMerge a d n) d' r = avB a d' r := fun d' r => avB_congr hp.2.1 hp.2.2.1 d' r
  have hD : (abMerge a d n).D = a.D := hp.1.D
  have hP : (abMerge a d n).P = a.P := hp.1.P
  have hR : (abMerge a d n).R = a.R := hp.1.R
  refine ⟨merge_ok h.ok d n, h.bound, fun r hr d' hd' ha => ?_, fun r hr d' h1 h2 ha => ?_, fun d' x hx => ?_⟩
  · rw [hD] at hd' ⊢; rw [hR] at hr; rw [hav] at ha
    show (abApply a d _).cell d' r = _
    rw [apply_cell, if_neg (by omega)]; exact h.data r hr d' hd' ha
  · rw [hD] at h1 h2; rw [hP] at h2; rw [hR] at hr; rw [hav] at ha
    rw [merge_val, h.par r hr d' h1 h2 ha]
    rw [show (abMerge a d n).D = a.D from hD]; exact (wsum_congr hD a.D (fun _ _ => rfl)).symm
  · rw [hav]
    unfold abMerge at hx
    simp only [Ab.setLog] at hx
    split at hx
    · rename_i e; rw [e]; exact h.recs d x (List.mem_of_mem_drop hx)
    · rw [hp.2.2.2.1] at hx; exact h.recs d' x hx
theorem newDrive_ok {a : Ab} (h : a.ok) (d : Nat) (lo : Bool) (n : Nat) : (a.newDrive d lo n).ok := by
  refine ⟨h.D1, h.D4, h.P1, h.P2, h.R1, h.R6, h.M1, h.M8, fun d' r => ?_, fun d' => ?_, fun d' => ?_, fun d' hd' => ?_⟩
  · simp only [Ab.newDrive]; split
    · exact C4.zero_ok
    · exact h.cells d' r
  · simp only [Ab.newDrive]; split
    · simp
    · exact h.len d'
  · simp only [Ab.newDrive]; split
    · simp
    · exact h.recs d'
  · simp only [Ab.newDrive] at hd' ⊢; split
    · rfl
    · exact h.data d' hd'
theorem newDrive_av (a : Ab) (d : Nat) (lo : Bool) (n d' r : Nat) : avB (a.newDrive d lo n) d' r = if d' = d then (!lo && !decide (r < n)) else avB a d' r := by
  unfold avB Ab.newDrive
  by_cases e : d' = d
  · simp only [e, if_true]
  · simp only [e, if_false]
/-- A drive comes new: none of its cells is available. -/
theorem AInv.newDrive {a : Ab} {f : Nat → Nat} (h : AInv a f) (d : Nat) (lo : Bool) (n : Nat) (hn : lo = true ∨ n = a.R) : AInv (a.newDrive d lo n) f := by
  have hno : ∀ r, r < a.R → avB (a.newDrive d lo n) d r = false := fun r hr => by
    rw [newDrive_av, if_pos rfl]
    rcases hn with rfl | rfl
    · rfl
    · rw [decide_eq_true hr]; simp
  have hav : ∀ d' r, d' ≠ d → avB (a.newDrive d lo n) d' r = avB a d' r := fun d' r e => by rw [newDrive_av, if_neg e]
  refine ⟨newDrive_ok h.ok d lo n, h.bound, fun r hr d' hd' ha => ?_, fun r hr d' h1 h2 ha => ?_, fun d' x hx => ?_⟩
  · by_cases e : d' = d
    · subst e; rw [hno r hr] at ha; simp at ha
    · rw [hav d' r e] at ha
      show (if d' = d then _ else a.cell d' r) = _
      rw [if_neg e]; exact h.data r hr d' hd' ha
  · by_cases e : d' = d
    · subst e; rw [hno r hr] at ha; simp at ha
    · rw [hav d' r e] at ha
      have : valC (a.newDrive d lo n) d' r = valC a d' r := by
        unfold valC Ab.newDrive
        simp only [e, if_false]
      rw [this, h.par r hr d' h1 h2 ha]; exact (wsum_congr (a := a) (b := a.newDrive d lo n) rfl a.D (fun _ _ => rfl)).symm
  · simp only [Ab.newDrive] at hx
    split at hx
    · simp at hx
    · rename_i e; rw [hav d' _ e]; exact h.recs d' x hx
theorem lay_av (a : Ab) (d r : Nat) (c : C4) (d' r' : Nat) : avB (a.layC d r c) d' r' = if d' = d ∧ r' = r then !a.lost d else avB a d' r' := by
  unfold avB Ab.layC Ab.setUb Ab.setCell
  by_cases e : d' = d ∧ r' = r
  · simp only [e, and_self, if_true]; simp
  · simp only [e, if_false]
theorem lay_ok {a : Ab} (h : a.ok) (d r : Nat) (c : C4) (hc : c.ok) : (a.layC d r c).ok := by
  refine ⟨h.D1, h.D4, h.P1, h.P2, h.R1, h.R6, h.M1, h.M8, fun d' r' => ?_, h.len, h.recs, h.data⟩
  show (if d' = d ∧ r' = r then c else a.cell d' r').ok
  split
  · exact hc
  · exact h.cells d' r'
theorem lay_av_mono (a : Ab) (d r : Nat) (c : C4) (hl : a.lost d = false) (d' r' : Nat) (h : avB a d' r' = true) : avB (a.layC d r c) d' r' = true := by
  rw [lay_av]
  split
  · rw [hl]; rfl
  · exact h
theorem psum_eq {a : Ab} {f : Nat → Nat} {r : Nat} (h : ∀ c, c < a.D → holdC a c r = blkC a.D f c r) (d k : Nat) (hk : k ≤ a.D) : psum a d r k = wsum a f d r k := by
  induction k with
  | zero => rfl
  | succ k ih => simp only [psum, wsum]; rw [ih (by omega), h k (by omega)]
/-- A cell is built. -/
def abRbC (a : Ab) (d r : Nat) : C4 := if a.D ≤ d then psum a d r a.D else holdC a d r
theorem AInv.build {a : Ab} {f : Nat → Nat} (h : AInv a f) (d r : Nat) (hd : d < a.D + a.P) (hr : r < a.R) (hl : a.lost d = false) (hav : avB a d r = false) (hg : goneB a r = false) : AInv (a.layC d r (abRbC a d r)) f := by
  have hh := h.holds r hr hg
  have hco : (abRbC a d r).ok := by
    unfold abRbC; split
    · exact psum_ok a d r a.D h.ok.D4
    · exact holdC_ok h.ok d r
  have hval : ∀ d' r', ¬ (d' = d ∧ r' = r) → valC (a.layC d r (abRbC a d r)) d' r' = valC a d' r' := fun d' r' e => by
    unfold valC
    show recSum r' (a.recs d') (if d' = d ∧ r' = r then _ else a.cell d' r') = _
    rw [if_neg e]
  refine ⟨lay_ok h.ok d r _ hco, h.bound, fun r' hr' d' hd' ha => ?_, fun r' hr' d' h1 h2 ha => ?_, fun d' x hx => ?_⟩
  · show (if d' = d ∧ r' = r then _ else a.cell d' r') = _
    by_cases e : d' = d ∧ r' = r
    · rw [if_pos e]
      obtain ⟨rfl, rfl⟩ := e
      unfold abRbC
      rw [if_neg (by have : d' < a.D := hd'; omega)]
      exact hh d' hd'
    · rw [if_neg e]
      rw [lay_av, if_neg e] at ha
      exact h.data r' hr' d' hd' ha
  · by_cases e : d' = d ∧ r' = r
    · obtain ⟨rfl, rfl⟩ := e
      have h1' : a.D ≤ d' := h1
      have : valC (a.layC d' r' (abRbC a d' r')) d' r' = abRbC a d' r' := by
        unfold valC
        show recSum r' (a.recs d') (if d' = d' ∧ r' = r' then _ else _) = _
        rw [if_pos ⟨rfl, rfl⟩]
        refine recSum_none r' _ _ (fun x hx e => ?_)
        have := h.recs d' x hx
        rw [e, hav] at this; simp at this
      rw [this]
      have e2 : abRbC a d' r' = wsum a f d' r' a.D := by
        unfold abRbC
        rw [if_pos h1', psum_eq hh d' a.D (Nat.le_refl _)]
      rw [e2]
      exact (wsum_congr (a := a) (b := a.layC d' r' _) rfl a.D (fun _ _ => rfl)).symm
    · rw [hval d' r' e]
      rw [lay_av, if_neg e] at ha
      rw [h.par r' hr' d' h1 h2 ha]
      exact (wsum_congr (a := a) (b := a.layC d r _) rfl a.D (fun _ _ => rfl)).symm
  · exact lay_av_mono a d r _ hl d' _ (h.recs d' x hx)
end Go.Proofs.Ytfpoiikhhjdpdab
