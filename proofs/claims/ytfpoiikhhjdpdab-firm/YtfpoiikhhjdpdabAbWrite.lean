/- A write, in plain mathematics. -/
import Derived.Test.YtfpoiikhhjdpdabMarks
namespace Go.Proofs.Ytfpoiikhhjdpdab
open Go.RowKit
set_option linter.unusedVariables false
def C4.beq (x y : C4) : Bool := x.b0 == y.b0 && x.b1 == y.b1 && x.b2 == y.b2 && x.b3 == y.b3
theorem C4.beq_iff (x y : C4) : x.beq y = true ↔ x = y := by
  obtain ⟨x0, x1, x2, x3⟩ := x
  obtain ⟨y0, y1, y2, y3⟩ := y
  simp [C4.beq, and_assoc]
/-- The first k parity drives have got their record, those whose cell is available. -/
def abNoted (a : Ab) (c row : Nat) (x : C4) : Nat → Ab
  | 0 => a.addSteps 1
  | k + 1 => if avB a (a.D + k) row then (abNote (abNoted a c row x k) (a.D + k) ⟨row, x.scale (wgt a (a.D + k) c)⟩).addSteps 1 else abNoted a c row x k
def abNew (a : Ab) (b fr n : Nat) (g : Nat → Nat) : C4 := (holdC a (b % a.D) (b / a.D)).overlay ((b : Int) * 4 - fr) n g
def abLaid (a : Ab) (c row : Nat) (x : C4) : Ab := if a.lost c then a else (a.layC c row x).addSteps 1
def abBlock (a : Ab) (b fr n : Nat) (g : Nat → Nat) : Ab :=
  if (abNew a b fr n g).beq (holdC a (b % a.D) (b / a.D)) then a
  else (abLaid (abNoted a (b % a.D) (b / a.D) ((holdC a (b % a.D) (b / a.D)).xor (abNew a b fr n g)) a.P) (b % a.D) (b / a.D) (abNew a b fr n g)).addSteps 1
def abBlocks (a : Ab) (fr n : Nat) (g : Nat → Nat) : Nat → Ab
  | 0 => a
  | m + 1 => abBlock (abBlocks a fr n g m) (fr / 4 + m) fr n g
def abWrite (a : Ab) (fr n : Nat) (g : Nat → Nat) : Ab := abBlocks a fr n g (blkEnd fr n - fr / 4)
theorem steps_ok {a : Ab} (h : a.ok) (n : Nat) : (a.addSteps n).ok := ⟨h.D1, h.D4, h.P1, h.P2, h.R1, h.R6, h.M1, h.M8, h.cells, h.len, h.recs, h.data⟩
/-- How many of the first k parity cells of the row are available. -/
def parN (a : Ab) (row k : Nat) : Nat := (parL a row k).length
theorem noted_props (a : Ab) (c row : Nat) (x : C4) (k : Nat) : SameAb a (abNoted a c row x k) ∧ (abNoted a c row x k).lost = a.lost ∧ (abNoted a c row x k).ub = a.ub ∧ (abNoted a c row x k).steps = a.steps + 1 + parN a row k ∧ (∀ d r, d < a.D ∨ a.D + k ≤ d → (abNoted a c row x k).cell d r = a.cell d r) ∧ (∀ d, d < a.D ∨ a.D + k ≤ d → (abNoted a c row x k).recs d = a.recs d) := by
  induction k with
  | zero => exact ⟨⟨rfl, rfl, rfl, rfl, rfl⟩, rfl, rfl, rfl, fun _ _ _ => rfl, fun _ _ => rfl⟩
  | succ k ih =>
    obtain ⟨i1, i2, i3, i4, i5, i6⟩ := ih
    simp only [abNoted, parN, parL]
    cases hav : avB a (a.D + k) row
    · simp only [Bool.false_eq_true, if_false]
      exact ⟨i1, i2, i3, i4, fun d r h => i5 d r (by omega), fun d h => i6 d (by omega)⟩
    · simp only [if_true]
      have hp := note_props (abNoted a c row x k) (a.D + k) ⟨row, x.scale (wgt a (a.D + k) c)⟩
      refine ⟨⟨hp.1.D.trans i1.D, hp.1.P.trans i1.P, hp.1.R.trans i1.R, hp.1.M.trans i1.M, hp.1.brk.trans i1.brk⟩, hp.2.1.trans i2, hp.2.2.1.trans i3, ?_, fun d r h => ?_, fun d h => ?_⟩
      · show (abNote _ _ _).steps + 1 = _
        rw [hp.2.2.2.1, i4, List.length_append]; simp only [parN, List.length_singleton]; omega
      · show (abNote _ _ _).cell d r = _
        rw [hp.2.2.2.2.1 d r (by omega), i5 d r (by omega)]
      · show (abNote _ _ _).recs d = _
        rw [hp.2.2.2.2.2.1 d (by omega), i6 d (by omega)]
theorem noted_ok {a : Ab} (h : a.ok) (c row : Nat) (x : C4) (k : Nat) (hc : c < 4) (hr : row < a.R) (hx : x.ok) : (abNoted a c row x k).ok := by
  induction k with
  | zero => exact steps_ok h 1
  | succ k ih =>
    have hp := noted_props a c row x k
    simp only [abNoted]
    split
    · exact steps_ok (note_ok ih _ _ (by rw [hp.1.D]; omega) (by rw [hp.1.R]; exact hr) (C4.scale_ok (wgt_lt a _ c hc))) 1
    · exact ih
/-- The values behind the notes. -/
theorem noted_val (a : Ab) (c row : Nat) (x : C4) (k d r : Nat) : valC (abNoted a c row x k) d r = if a.D ≤ d ∧ d < a.D + k ∧ avB a d row = true ∧ r = row then (valC a d r).xor (x.scale (wgt a d c)) else valC a d r := by
  induction k with
  | zero => rw [if_neg (by omega)]; rfl
  | succ k ih =>
    simp only [abNoted]
    cases hav : avB a (a.D + k) row
    · simp only [Bool.false_eq_true, if_false]
      rw [ih]
      by_cases e : d = a.D + k
      · subst e
        rw [if_neg (by omega), if_neg (by rw [hav]; simp)]
      · by_cases h : a.D ≤ d ∧ d < a.D + k ∧ avB a d row = true ∧ r = row
        · rw [if_pos h, if_pos ⟨h.1, by omega, h.2.2⟩]
        · rw [if_neg h, if_neg (fun h' => h ⟨h'.1, by omega, h'.2.2⟩)]
    · simp only [if_true]
      show valC (abNote _ _ _) d r = _
      rw [note_val, ih]
      by_cases e : d = a.D + k
      · subst e
        have hn : ¬ (a.D ≤ a.D + k ∧ a.D + k < a.D + k ∧ avB a (a.D + k) row = true ∧ r = row) := by omega
        rw [if_neg hn]
        by_cases e2 : row = r
        · subst e2
          rw [if_pos ⟨rfl, rfl⟩, if_pos ⟨by omega, by omega, hav, rfl⟩]
        · rw [if_neg (fun h => e2 h.2), if_neg (fun h => e2 h.2.2.2.symm)]
      · rw [if_neg (fun h => e h.1)]
        by_cases h : a.D ≤ d ∧ d < a.D + k ∧ avB a d row = true ∧ r = row
        · rw [if_pos h, if_pos ⟨h.1, by omega, h.2.2⟩]
        · rw [if_neg h, if_neg (fun h' => h ⟨h'.1, by omega, h'.2.2⟩)]
theorem noted_recs (a : Ab) (c row : Nat) (x : C4) (k d : Nat) (y : Rec) (hy : y ∈ (abNoted a c row x k).recs d) : y ∈ a.recs d ∨ (y.row = row ∧ avB a d row = true) := by
  induction k with
  | zero => exact .inl hy
  | succ k ih =>
    simp only [abNoted] at hy
    cases hav : avB a (a.D + k) row
    · rw [hav] at hy; simp only [Bool.false_eq_true, if_false] at hy; exact ih hy
    · rw [hav] at hy; simp only [if_true] at hy
      have hy : y ∈ (abNote (abNoted a c row x k) (a.D + k) ⟨row, x.scale (wgt a (a.D + k) c)⟩).recs d := hy
      have hp := note_props (abNoted a c row x k) (a.D + k) ⟨row, x.scale (wgt a (a.D + k) c)⟩
      by_cases e : d = a.D + k
      · subst e
        rw [hp.2.2.2.2.2.2] at hy
        rcases List.mem_append.1 hy with hy | hy
        · refine ih ?_
          split at hy
          · exact hy
          · exact List.mem_of_mem_drop hy
        · have : y = ⟨row, x.scale (wgt a (a.D + k) c)⟩ := by simpa using hy
          subst this; exact .inr ⟨rfl, hav⟩
      · rw [hp.2.2.2.2.2.1 d e] at hy; exact ih hy
/-- The bytes behind a write of block b: of n bytes g from byte fr on. -/
def fB (f : Nat → Nat) (b fr n : Nat) (g : Nat → Nat) (i : Nat) : Nat := if i / 4 = b ∧ fr ≤ i ∧ i < fr + n then g (i - fr) else f i
theorem blkC_at (D : Nat) (f : Nat → Nat) (d r i : Nat) (hi : i < 4) : (blkC D f d r).at i = f ((r * D + d) * 4 + i) := C4.at_mk4 _ i hi
theorem blk_new (D : Nat) (f : Nat → Nat) (b fr n : Nat) (g : Nat → Nat) (hD : 0 < D) : blkC D (fB f b fr n g) (b % D) (b / D) = (blkC D f (b % D) (b / D)).overlay ((b : Int) * 4 - fr) n g := by
  have hb : b / D * D + b % D = b := Nat.div_add_mod' b D
  refine C4.ext' (fun i hi => ?_)
  rw [blkC_at _ _ _ _ _ hi, hb]
  unfold C4.overlay
  rw [C4.at_mk4 _ i hi]
  unfold ovl fB
  rw [blkC_at _ _ _ _ _ hi, hb]
  by_cases h : fr ≤ b * 4 + i ∧ b * 4 + i < fr + n
  · rw [if_pos ⟨by omega, h⟩, if_pos (by omega)]
    congr 1; omega
  · rw [if_neg (fun hh => h hh.2), if_neg (by omega)]
theorem blk_other (D : Nat) (f : Nat → Nat) (b fr n : Nat) (g : Nat → Nat) (c r : Nat) (hc : c < D) (h : ¬ (c = b % D ∧ r = b / D)) : blkC D (fB f b fr n g) c r = blkC D f c r := by
  refine C4.ext' (fun i hi => ?_)
  rw [blkC_at _ _ _ _ _ hi, blkC_at _ _ _ _ _ hi]
  unfold fB
  rw [if_neg]
  rintro ⟨h1, _⟩
  have h2 : r * D + c = b := by omega
  refine h ⟨?_, ?_⟩
  · rw [← h2, Nat.add_comm, Nat.add_mul_mod_self_right]; exact (Nat.mod_eq_of_lt hc).symm
  · rw [← h2, Nat.add_comm, Nat.add_mul_div_right _ _ (by omega), Nat.div_eq_of_lt hc]; omega
theorem wsum_upd (a : Ab) (f f' : Nat → Nat) (d r c k : Nat) (h : ∀ c', c' < k → c' ≠ c → blkC a.D f' c' r = blkC a.D f c' r) : wsum a f' d r k = if c < k then (wsum a f d r k).xor (((blkC a.D f c r).xor (blkC a.D f' c r)).scale (wgt a d c)) else wsum a f d r k := by
  induction k with
  | zero => rw [if_neg (by omega)]; rfl
  | succ k ih =>
    have ih := ih (fun c' h1 h2 => h c' (by omega) h2)
    simp only [wsum]
    by_cases e : c = k
    · subst e
      rw [if_neg (by omega)] at ih
      rw [if_pos (by omega), ih, C4.scale_xor, C4.xor_assoc]
      congr 1
      rw [← C4.xor_assoc, C4.xor_self, C4.zero_xor]
    · rw [ih, h k (by omega) (fun hh => e hh.symm)]
      by_cases h1 : c < k
      · rw [if_pos h1, if_pos (by omega), C4.xor_assoc, C4.xor_assoc]
        congr 1
        rw [C4.xor_comm]
      · rw [if_neg h1, if_neg (by omega)]
theorem fB_bound {f : Nat → Nat} {b fr n : Nat} {g : Nat → Nat} (hf : ∀ i, f i < 256) (hg : ∀ i, i < n → g i < 256) (i : Nat) : fB f b fr n g i < 256 := by
  unfold fB
  split
  · exact hg _ (by omega)
  · exact hf i
theorem overlay_ok {c : C4} {st : Int} {n : Nat} {f : Nat → Nat} (hc : c.ok) (hf : ∀ i, i < n → f i < 256) : (c.overlay st n f).ok := by
  refine C4.ok_of (fun i hi => ?_)
  unfold C4.overlay
  rw [C4.at_mk4 _ i hi]
  unfold ovl
  split
  · exact hf _ (by omega)
  · exact C4.at_lt hc i
theorem laid_props (a : Ab) (c row : Nat) (x : C4) : SameAb a (abLaid a c row x) ∧ (abLaid a c row x).lost = a.lost ∧ (abLaid a c row x).recs = a.recs := by
  unfold abLaid
  split
  · exact ⟨SameAb.refl a, rfl, rfl⟩
  · exact ⟨⟨rfl, rfl, rfl, rfl, rfl⟩, rfl, rfl⟩
theorem laid_av (a : Ab) (c row : Nat) (x : C4) (d r : Nat) : avB (abLaid a c row x) d r = if d = c ∧ r = row ∧ a.lost c = false then true else avB a d r := by
  unfold abLaid
  cases hl : a.lost c
  · simp only [Bool.false_eq_true, if_false, and_true]
    show avB (a.layC c row x) d r = _
    rw [lay_av, hl]; rfl
  · simp only [if_true]
    rw [if_neg (by simp)]
theorem laid_cell (a : Ab) (c row : Nat) (x : C4) (d r : Nat) : (abLaid a c row x).cell d r = if d = c ∧ r = row ∧ a.lost c = false then x else a.cell d r := by
  unfold abLaid
  cases hl : a.lost c
  · simp only [Bool.false_eq_true, if_false, and_true]; rfl
  · simp only [if_true]; rw [if_neg (by simp)]
theorem av_lost {a : Ab} {d r : Nat} (h : avB a d r = true) : a.lost d = false := by
  unfold avB at h
  simp at h; exact h.1
/-- A block is written. -/
theorem AInv.block {a : Ab} {f : Nat → Nat} (h : AInv a f) (b fr n : Nat) (g : Nat → Nat) (hg : ∀ i, i < n → g i < 256) (hb : b < a.D * a.R) (hgood : goneB a (b / a.D) = false) : AInv (abBlock a b fr n g) (fB f b fr n g) := by
  have hD1 := h.ok.D1
  have hD4 := h.ok.D4
  have hc : b % a.D < a.D := Nat.mod_lt b (by omega)
  have hr : b / a.D < a.R := Nat.div_lt_of_lt_mul hb
  have hold := h.holds (b / a.D) hr hgood (b % a.D) hc
  have hnew : abNew a b fr n g = blkC a.D (fB f b fr n g) (b % a.D) (b / a.D) := by
    unfold abNew; rw [hold, blk_new _ _ _ _ _ _ (by omega)]
  have hfb := fB_bound (b := b) (fr := fr) h.bound hg
  unfold abBlock
  split
  · rename_i e
    have e := (C4.beq_iff _ _).1 e
    refine h.congr hfb (fun c r hc' hr' => ?_)
    by_cases ec : c = b % a.D ∧ r = b / a.D
    · obtain ⟨rfl, rfl⟩ := ec
      rw [← hnew, e, hold]
    · exact blk_other _ _ _ _ _ _ _ _ hc' ec
  · have hnok : (abNew a b fr n g).ok := by rw [hnew]; exact blkC_ok hfb _ _
    have hook : (holdC a (b % a.D) (b / a.D)).ok := holdC_ok h.ok _ _
    have hother := fun c r hc' (e : ¬ (c = b % a.D ∧ r = b / a.D)) => blk_other a.D f b fr n g c r hc' e
    rw [hold] at hook
    rw [hold]
    generalize hcc : b % a.D = c at *
    generalize hrr : b / a.D = row at *
    generalize hx : (blkC a.D f c row).xor (abNew a b fr n g) = x
    have hxo : x.ok := by rw [← hx]; exact C4.xor_ok hook hnok
    have np := noted_props a c row x a.P
    have nv := noted_val a c row x a.P
    have nr := noted_recs a c row x a.P
    have no := noted_ok h.ok c row x a.P (by omega) hr hxo
    generalize abNoted a c row x a.P = a1 at *
    have lp := laid_props a1 c row (abNew a b fr n g)
    have lav := laid_av a1 c row (abNew a b fr n g)
    have lc := laid_cell a1 c row (abNew a b fr n g)
    have lo : (abLaid a1 c row (abNew a b fr n g)).ok := by
      unfold abLaid; split
      · exact no
      · exact steps_ok (lay_ok no c row _ hnok) 1
    generalize abLaid a1 c row (abNew a b fr n g) = a2 at *
    have hD : a2.D = a.D := lp.1.D.trans np.1.D
    have hP : a2.P = a.P := lp.1.P.trans np.1.P
    have hR : a2.R = a.R := lp.1.R.trans np.1.R
    have hl1 : a1.lost = a.lost := np.2.1
    have hav1 : ∀ d r, avB a1 d r = avB a d r := fun d r => avB_congr np.2.1 np.2.2.1 d r
    have hav : ∀ d r, avB (a2.addSteps 1) d r = if d = c ∧ r = row ∧ a.lost c = false then true else avB a d r := fun d r => by
      show avB a2 d r = _
      rw [lav, hl1, hav1]
    refine ⟨steps_ok lo 1, hfb, fun r hr' d hd ha => ?_, fun r hr' d h1 h2 ha => ?_, fun d y hy => ?_⟩
    · show a2.cell d r = blkC a2.D _ d r
      have hd : d < a.D := by rw [← hD]; exact hd
      have hr' : r < a.R := by rw [← hR]; exact hr'
      rw [lc, hl1, hD]
      rw [hav] at ha
      by_cases e : d = c ∧ r = row ∧ a.lost c = false
      · rw [if_pos e]
        obtain ⟨rfl, rfl, _⟩ := e
        exact hnew
      · rw [if_neg e] at ha ⊢
        rw [np.2.2.2.2.1 d r (.inl hd), h.data r hr' d hd ha]
        refine (hother d r hd (fun ec => e ⟨ec.1, ec.2, ?_⟩)).symm
        rw [← ec.1]; exact av_lost ha
    · have h1 : a.D ≤ d := by rw [← hD]; exact h1
      have h2 : d < a.D + a.P := by have h2 : d < a2.D + a2.P := h2; rw [hD, hP] at h2; exact h2
      have hr' : r < a.R := by rw [← hR]; exact hr'
      rw [hav, if_neg (by omega)] at ha
      have hval : valC (a2.addSteps 1) d r = valC a1 d r := by
        unfold valC
        show recSum r (a2.recs d) (a2.cell d r) = _
        rw [lp.2.2, lc, if_neg (by omega)]
      rw [hval, nv]
      have hw : wsum (a2.addSteps 1) (fB f b fr n g) d r (a2.addSteps 1).D = wsum a (fB f b fr n g) d r a.D := by
        show wsum (a2.addSteps 1) _ d r a2.D = _
        rw [hD]
        exact wsum_congr (a := a) (b := a2.addSteps 1) hD a.D (fun _ _ => rfl)
      rw [hw]
      by_cases er : r = row
      · subst er
        rw [if_pos ⟨h1, h2, ha, rfl⟩, h.par r hr' d h1 h2 ha, wsum_upd a f (fB f b fr n g) d r c a.D (fun c' h1 h2 => hother c' r h1 (fun ec => h2 ec.1)), if_pos hc, ← hnew, hx]
      · rw [if_neg (fun hh => er hh.2.2.2), h.par r hr' d h1 h2 ha]
        exact (wsum_congr (a := a) (b := a) rfl a.D (fun c' hc' => hother c' r hc' (fun ec => er ec.2))).symm
    · have hy : y ∈ a2.recs d := hy
      rw [lp.2.2] at hy
      rw [hav]
      split
      · rfl
      · rcases nr d y hy with h3 | ⟨h3, h4⟩
        · exact h.recs d y h3
        · rw [h3]; exact h4
theorem block_mono (a : Ab) (b fr n : Nat) (g : Nat → Nat) : SameAb a (abBlock a b fr n g) ∧ (abBlock a b fr n g).lost = a.lost ∧ ∀ d r, avB (abBlock a b fr n g) d r = if d = b % a.D ∧ r = b / a.D ∧ a.lost (b % a.D) = false ∧ (abNew a b fr n g).beq (holdC a (b % a.D) (b / a.D)) = false then true else avB a d r := by
  unfold abBlock
  cases he : (abNew a b fr n g).beq (holdC a (b % a.D) (b / a.D))
  · simp only [Bool.false_eq_true, if_false, and_true]
    have np := noted_props a (b % a.D) (b / a.D) ((holdC a (b % a.D) (b / a.D)).xor (abNew a b fr n g)) a.P
    have lp := laid_props (abNoted a (b % a.D) (b / a.D) ((holdC a (b % a.D) (b / a.D)).xor (abNew a b fr n g)) a.P) (b % a.D) (b / a.D) (abNew a b fr n g)
    refine ⟨⟨lp.1.D.trans np.1.D, lp.1.P.trans np.1.P, lp.1.R.trans np.1.R, lp.1.M.trans np.1.M, lp.1.brk.trans np.1.brk⟩, lp.2.1.trans np.2.1, fun d r => ?_⟩
    show avB (abLaid _ _ _ _) d r = _
    rw [laid_av, np.2.1, avB_congr np.2.1 np.2.2.1]
  · rw [if_pos rfl]
    exact ⟨SameAb.refl a, rfl, fun d r => by rw [if_neg (fun h => Bool.noConfusion h.2.2.2)]⟩
theorem block_av (a : Ab) (b fr n : Nat) (g : Nat → Nat) (d r : Nat) (h : avB a d r = true) : avB (abBlock a b fr n g) d r = true := by
  rw [(block_mono a b fr n g).2.2]
  split
  · rfl
  · exact h
theorem block_good (a : Ab) (b fr n : Nat) (g : Nat → Nat) (r : Nat) (h : goneB a r = false) : goneB (abBlock a b fr n g) r = false :=
  goneB_mono (block_mono a b fr n g).1.D (block_mono a b fr n g).1.P (fun d hd => block_av a b fr n g d r hd) h
/-- The bytes behind the first m blocks of a write. -/
def fBs (f : Nat → Nat) (fr n : Nat) (g : Nat → Nat) (m i : Nat) : Nat := if i / 4 < fr / 4 + m ∧ fr ≤ i ∧ i < fr + n then g (i - fr) else f i
theorem fBs_succ (f : Nat → Nat) (fr n : Nat) (g : Nat → Nat) (m : Nat) : fB (fBs f fr n g m) (fr / 4 + m) fr n g = fBs f fr n g (m + 1) := by
  funext i
  unfold fB fBs
  by_cases h1 : fr ≤ i ∧ i < fr + n
  · by_cases h2 : i / 4 < fr / 4 + m
    · rw [if_neg (by omega), if_pos ⟨h2, h1⟩, if_pos ⟨by omega, h1⟩]
    · by_cases h3 : i / 4 = fr / 4 + m
      · rw [if_pos ⟨h3, h1⟩, if_pos ⟨by omega, h1⟩]
      · rw [if_neg (by omega), if_neg (by omega), if_neg (by omega)]
  · rw [if_neg (fun h => h1 h.2), if_neg (fun h => h1 h.2), if_neg (fun h => h1 h.2)]
theorem AInv.blocks {a : Ab} {f : Nat → Nat} (h : AInv a f) (fr n : Nat) (g : Nat → Nat) (hg : ∀ i, i < n → g i < 256) (m : Nat) (hm : fr / 4 + m ≤ a.D * a.R) (hgood : ∀ r, r < a.R → goneB a r = false) :
    AInv (abBlocks a fr n g m) (fBs f fr n g m) ∧ SameAb a (abBlocks a fr n g m) ∧ (abBlocks a fr n g m).lost = a.lost ∧ (∀ d r, avB a d r = true → avB (abBlocks a fr n g m) d r = true) ∧ ∀ r, r < a.R → goneB (abBlocks a fr n g m) r = false := by
  induction m with
  | zero =>
    refine ⟨?_, SameAb.refl a, rfl, fun _ _ h => h, hgood⟩
    have : fBs f fr n g 0 = f := by
      funext i; unfold fBs; rw [if_neg (by omega)]
    rw [this]; exact h
  | succ m ih =>
    obtain ⟨i1, i2, i3, i4, i5⟩ := ih (by omega)
    have bm := block_mono (abBlocks a fr n g m) (fr / 4 + m) fr n g
    have hlt : fr / 4 + m < a.D * a.R := by omega
    refine ⟨?_, i2.trans bm.1, bm.2.1.trans i3, fun d r hd => block_av _ _ _ _ _ d r (i4 d r hd), fun r hr => block_good _ _ _ _ _ r (i5 r hr)⟩
    have := i1.block (fr / 4 + m) fr n g hg (by rw [i2.D, i2.R]; exact hlt) (by rw [i2.D]; exact i5 _ (Nat.div_lt_of_lt_mul hlt))
    rw [fBs_succ] at this
    exact this
/-- A write: the bytes are those that were written. -/
def fW (f : Nat → Nat) (fr n : Nat) (g : Nat → Nat) (i : Nat) : Nat := if fr ≤ i ∧ i < fr + n then g (i - fr) else f i
theorem AInv.write {a : Ab} {f : Nat → Nat} (h : AInv a f) (fr n : Nat) (g : Nat → Nat) (hg : ∀ i, i < n → g i < 256) (hn : fr + n ≤ a.D * a.R * 4) (hgood : ∀ r, r < a.R → goneB a r = false) :
    AInv (abWrite a fr n g) (fW f fr n g) ∧ SameAb a (abWrite a fr n g) ∧ (abWrite a fr n g).lost = a.lost ∧ (∀ d r, avB a d r = true → avB (abWrite a fr n g) d r = true) ∧ ∀ r, r < a.R → goneB (abWrite a fr n g) r = false := by
  have he : fr / 4 + (blkEnd fr n - fr / 4) ≤ a.D * a.R := by unfold blkEnd; split <;> omega
  have := h.blocks fr n g hg (blkEnd fr n - fr / 4) he hgood
  have e : fBs f fr n g (blkEnd fr n - fr / 4) = fW f fr n g := by
    funext i
    unfold fBs fW
    by_cases h1 : fr ≤ i ∧ i < fr + n
    · have h2 : i / 4 < fr / 4 + (blkEnd fr n - fr / 4) := by unfold blkEnd; rw [if_neg (by omega)]; omega
      rw [if_pos h1, if_pos ⟨h2, h1⟩]
    · rw [if_neg h1, if_neg (fun h => h1 h.2)]
  rw [e] at this
  exact this
end Go.Proofs.Ytfpoiikhhjdpdab
