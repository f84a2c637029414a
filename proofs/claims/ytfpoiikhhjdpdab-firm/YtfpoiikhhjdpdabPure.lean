/- What the moves do to a world of hoardkeep, in plain mathematics. -/
import Derived.Test.YtfpoiikhhjdpdabKWrite
import Derived.Test.YtfpoiikhhjdpdabBlank
namespace Go.Proofs.Ytfpoiikhhjdpdab
set_option linter.unusedVariables false
theorem chTo_false (f : Nat → Nat) (a n : Nat) (g : Nat → Nat) (b j : Nat) : chTo f a n g b j = false ↔ ∀ i, i < j → chAt f a n g b i = false := by
  induction j with
  | zero => simp [chTo]
  | succ j ih =>
    simp only [chTo, Bool.or_eq_false_iff, ih]
    constructor
    · intro ⟨h1, h2⟩ i hi
      by_cases e : i = j
      · subst e; exact h2
      · exact h1 i (by omega)
    · intro h
      exact ⟨fun i hi => h i (by omega), h j (by omega)⟩
/-- A block is made different just if its new bytes are not its old ones. -/
theorem chB_iff (a : Ab) (b fr n : Nat) (g : Nat → Nat) (f : Nat → Nat) (hD : 0 < a.D) (hh : holdC a (b % a.D) (b / a.D) = blkC a.D f (b % a.D) (b / a.D)) : (abNew a b fr n g).beq (holdC a (b % a.D) (b / a.D)) = !(chB f fr n g b) := by
  have key : abNew a b fr n g = holdC a (b % a.D) (b / a.D) ↔ chB f fr n g b = false := by
    unfold chB
    rw [chTo_false]
    have hb : ∀ j, j < 4 → f (b * 4 + j) = (holdC a (b % a.D) (b / a.D)).at j := by
      intro j hj
      rw [hh, blkC_at _ _ _ _ _ hj, Nat.div_add_mod']
    constructor
    · intro h j hj
      have h1 : (abNew a b fr n g).at j = (holdC a (b % a.D) (b / a.D)).at j := by rw [h]
      unfold abNew C4.overlay at h1
      rw [C4.at_mk4 _ _ hj] at h1
      unfold ovl at h1
      unfold chAt
      by_cases hr : fr ≤ b * 4 + j ∧ b * 4 + j < fr + n
      · rw [if_pos (by omega)] at h1
        rw [decide_eq_true hr, hb j hj, ← h1]
        have : ((b : Int) * 4 - fr + j).toNat = b * 4 + j - fr := by omega
        rw [this]; simp
      · rw [decide_eq_false hr]; rfl
    · intro h
      apply C4.ext'
      intro j hj
      unfold abNew C4.overlay
      rw [C4.at_mk4 _ _ hj]
      unfold ovl
      split
      · rename_i hr
        have h1 := h j hj
        unfold chAt at h1
        rw [decide_eq_true (by omega), Bool.true_and] at h1
        have h2 : g (b * 4 + j - fr) = f (b * 4 + j) := by simpa using h1
        have : ((b : Int) * 4 - fr + j).toNat = b * 4 + j - fr := by omega
        rw [this, h2, hb j hj]
      · rfl
  cases hc : chB f fr n g b
  · exact (C4.beq_iff _ _).2 (key.2 hc)
  · rw [Bool.not_true, Bool.eq_false_iff]
    intro h
    have := key.1 ((C4.beq_iff _ _).1 h)
    rw [hc] at this; cases this
theorem chTo_congr {f f' : Nat → Nat} (fr n : Nat) (g : Nat → Nat) (b j : Nat) (hj : j ≤ 4) (h : ∀ i, i / 4 = b → f i = f' i) : chTo f fr n g b j = chTo f' fr n g b j := by
  induction j with
  | zero => rfl
  | succ j ih =>
    simp only [chTo]
    rw [ih (by omega)]
    unfold chAt
    rw [h (b * 4 + j) (by omega)]
theorem chB_congr {f f' : Nat → Nat} (fr n : Nat) (g : Nat → Nat) (b : Nat) (h : ∀ i, i / 4 = b → f i = f' i) : chB f fr n g b = chB f' fr n g b := chTo_congr fr n g b 4 (by omega) h
theorem block_ub (a : Ab) (b fr n : Nat) (g : Nat → Nat) (d r : Nat) : (abBlock a b fr n g).ub d r = if d = b % a.D ∧ r = b / a.D ∧ a.lost (b % a.D) = false ∧ (abNew a b fr n g).beq (holdC a (b % a.D) (b / a.D)) = false then false else a.ub d r := by
  unfold abBlock
  cases he : (abNew a b fr n g).beq (holdC a (b % a.D) (b / a.D))
  · simp only [Bool.false_eq_true, if_false, and_true]
    have np := noted_props a (b % a.D) (b / a.D) ((holdC a (b % a.D) (b / a.D)).xor (abNew a b fr n g)) a.P
    unfold abLaid
    rw [np.2.1]
    cases hl : a.lost (b % a.D)
    · simp only [Bool.false_eq_true, if_false, and_true]
      show (if d = b % a.D ∧ r = b / a.D then false else (abNoted _ _ _ _ _).ub d r) = _
      rw [np.2.2.1]
    · simp only [if_true]
      rw [if_neg (by simp)]
      show (abNoted _ _ _ _ _).ub d r = _
      rw [np.2.2.1]
  · rw [if_pos rfl, if_neg (fun h => Bool.noConfusion h.2.2.2)]
theorem blocks_ub {a : Ab} {f : Nat → Nat} (h : AInv a f) (fr n : Nat) (g : Nat → Nat) (hg : ∀ i, i < n → g i < 256) (m : Nat) (hm : fr / 4 + m ≤ a.D * a.R) (hgood : ∀ r, r < a.R → goneB a r = false) (d r : Nat) :
    (abBlocks a fr n g m).ub d r = if a.lost d = false ∧ d < a.D ∧ (chL f fr n g m).contains (r * a.D + d) = true then false else a.ub d r := by
  induction m with
  | zero => rw [if_neg (by simp [chL])]; rfl
  | succ m ih =>
    have ih := ih (by omega)
    obtain ⟨i1, i2, i3, i4, i5⟩ := h.blocks fr n g hg m (by omega) hgood
    have hD1 := h.ok.D1
    have hlt : fr / 4 + m < a.D * a.R := by omega
    show (abBlock (abBlocks a fr n g m) (fr / 4 + m) fr n g).ub d r = _
    rw [block_ub, ih, i2.D, i3]
    have hrow : (fr / 4 + m) / a.D < a.R := Nat.div_lt_of_lt_mul hlt
    have hcol : (fr / 4 + m) % a.D < a.D := Nat.mod_lt _ (by omega)
    have hh := i1.holds ((fr / 4 + m) / a.D) (by rw [i2.R]; exact hrow) (i5 _ hrow) ((fr / 4 + m) % a.D) (by rw [i2.D]; exact hcol)
    have hc := chB_iff (abBlocks a fr n g m) (fr / 4 + m) fr n g (fBs f fr n g m) (by rw [i2.D]; omega) (by rw [i2.D] at hh ⊢; exact hh)
    rw [i2.D] at hc
    rw [hc, chB_congr (f' := f) fr n g (fr / 4 + m) (fun i hi => by unfold fBs; rw [if_neg (by omega)])]
    simp only [chL]
    rcases Bool.eq_false_or_eq_true (chB f fr n g (fr / 4 + m)) with hb | hb
    case inr => simp only [hb, Bool.not_false, Bool.true_eq_false, and_false, if_false, Bool.false_eq_true]
    case inl =>
      simp only [hb, Bool.not_true, and_true, if_true]
      by_cases e : d = (fr / 4 + m) % a.D ∧ r = (fr / 4 + m) / a.D ∧ a.lost ((fr / 4 + m) % a.D) = false
      · rw [if_pos e]
        obtain ⟨rfl, rfl, e3⟩ := e
        have hcn : (chL f fr n g m ++ [fr / 4 + m]).contains ((fr / 4 + m) / a.D * a.D + (fr / 4 + m) % a.D) = true := by
          rw [List.contains_append, Nat.div_add_mod']
          simp
        rw [if_pos ⟨e3, hcol, hcn⟩]
      · rw [if_neg e]
        by_cases hl : a.lost d = false ∧ d < a.D
        · have hne : ¬ (r * a.D + d = fr / 4 + m) := by
            intro hx
            refine e ⟨?_, ?_, ?_⟩
            · rw [← hx, Nat.add_comm, Nat.add_mul_mod_self_right]; exact (Nat.mod_eq_of_lt hl.2).symm
            · rw [← hx, Nat.add_comm, Nat.add_mul_div_right _ _ (by omega), Nat.div_eq_of_lt hl.2]; omega
            · rw [← hx, Nat.add_comm, Nat.add_mul_mod_self_right, Nat.mod_eq_of_lt hl.2]; exact hl.1
          have : (chL f fr n g m ++ [fr / 4 + m]).contains (r * a.D + d) = (chL f fr n g m).contains (r * a.D + d) := by
            rw [List.contains_append]; simp [hne]
          rw [this]
        · rw [if_neg (fun hx => hl ⟨hx.1, hx.2.1⟩), if_neg (fun hx => hl ⟨hx.1, hx.2.1⟩)]
theorem chL_end (f : Nat → Nat) (a n : Nat) (g : Nat → Nat) : chL f a n g ((a + n + 3) / 4 - a / 4) = chL f a n g (blkEnd a n - a / 4) := by
  by_cases h : n = 0
  · subst h
    have e : blkEnd a 0 - a / 4 = 0 := by unfold blkEnd; rw [if_pos rfl]; omega
    have e2 : ∀ m, chL f a 0 g m = [] := by
      intro m
      induction m with
      | zero => rfl
      | succ m ih =>
        simp only [chL]
        have : chB f a 0 g (a / 4 + m) = false := by
          unfold chB; rw [chTo_false]
          intro i hi
          unfold chAt
          rw [decide_eq_false (by omega)]; rfl
        rw [this, ih]; rfl
    rw [e2, e2]
  · have : (a + n + 3) / 4 - a / 4 = blkEnd a n - a / 4 := by unfold blkEnd; rw [if_neg h]; omega
    rw [this]
/-- What is true of a world of hoardkeep: its hoard is what its lists say. -/
structure KInv (a : Ab) (f : Nat → Nat) (lo : Nat → Bool) (bu : Nat → Nat → Bool) : Prop where
  inv : AInv a f
  lost : ∀ d, d < a.D + a.P → a.lost d = lo d
  built : ∀ d r, d < a.D + a.P → r < a.R → lo d = false → a.ub d r = !bu d r
  good : ∀ r, r < a.R → goneB a r = false
theorem KInv.av {a : Ab} {f : Nat → Nat} {lo : Nat → Bool} {bu : Nat → Nat → Bool} (h : KInv a f lo bu) (d r : Nat) (hd : d < a.D + a.P) (hr : r < a.R) : avB a d r = (!lo d && bu d r) := by
  unfold avB
  rw [h.lost d hd]
  cases hl : lo d
  · rw [h.built d r hd hr hl]; simp
  · rfl
theorem layN_fW (f : Nat → Nat) (a n : Nat) (g : Nat → Nat) : layN f a n g = fW f a n g := rfl
theorem KInv.write {a : Ab} {f : Nat → Nat} {lo : Nat → Bool} {bu : Nat → Nat → Bool} (h : KInv a f lo bu) (fr n : Nat) (g : Nat → Nat) (hg : ∀ i, i < n → g i < 256) (hn : fr + n ≤ a.D * a.R * 4) : KInv (abWrite a fr n g) (layN f fr n g) lo (buL a.D bu (chL f fr n g ((fr + n + 3) / 4 - fr / 4))) := by
  obtain ⟨i1, i2, i3, i4, i5⟩ := h.inv.write fr n g hg hn h.good
  have he : fr / 4 + (blkEnd fr n - fr / 4) ≤ a.D * a.R := by unfold blkEnd; split <;> omega
  refine ⟨i1, fun d hd => ?_, fun d r hd hr hl => ?_, fun r hr => i5 r (by rw [← i2.R]; exact hr)⟩
  · rw [i3]; rw [i2.D, i2.P] at hd; exact h.lost d hd
  · rw [i2.D, i2.P] at hd
    rw [i2.R] at hr
    rw [chL_end]
    show (abBlocks a fr n g (blkEnd fr n - fr / 4)).ub d r = _
    rw [blocks_ub h.inv fr n g hg _ he h.good d r, h.lost d hd, hl, h.built d r hd hr hl]
    unfold buL
    by_cases hdD : d < a.D
    · cases hc : (chL f fr n g (blkEnd fr n - fr / 4)).contains (r * a.D + d)
      · rw [if_neg (by simp)]; simp
      · rw [if_pos ⟨rfl, hdD, rfl⟩]; simp [hdD]
    · rw [if_neg (fun hx => hdD hx.2.1)]; simp [hdD]
theorem goneB_congr {a b : Ab} {r : Nat} (hD : b.D = a.D) (hP : b.P = a.P) (h : ∀ d, avB b d r = avB a d r) : goneB b r = goneB a r := by
  have h1 := missL_mono (a := a) (b := b) (r := r) (fun d hd => by rw [h]; exact hd) a.D
  have h2 := missL_mono (a := b) (b := a) (r := r) (fun d hd => by rw [← h]; exact hd) a.D
  have h3 := parL_mono (a := a) (b := b) (r := r) hD (fun d hd => by rw [h]; exact hd) a.P
  have h4 := parL_mono (a := b) (b := a) (r := r) hD.symm (fun d hd => by rw [← h]; exact hd) a.P
  unfold goneB
  rw [hD, hP, show (missL b r a.D).length = (missL a r a.D).length by omega, show (parL b r a.P).length = (parL a r a.P).length by omega]
theorem KInv.merge {a : Ab} {f : Nat → Nat} {lo : Nat → Bool} {bu : Nat → Nat → Bool} (h : KInv a f lo bu) (d n : Nat) (hd : a.D ≤ d) : KInv (abMerge a d n) f lo bu := by
  have hp := apply_props a d ((a.recs d).take n)
  have e1 : (abMerge a d n).lost = a.lost := hp.2.1
  have e2 : (abMerge a d n).ub = a.ub := hp.2.2.1
  have hD : (abMerge a d n).D = a.D := hp.1.D
  have hP : (abMerge a d n).P = a.P := hp.1.P
  have hR : (abMerge a d n).R = a.R := hp.1.R
  refine ⟨h.inv.merge d n hd, fun d' hd' => ?_, fun d' r hd' hr hl => ?_, fun r hr => ?_⟩
  · rw [e1]; rw [hD, hP] at hd'; exact h.lost d' hd'
  · rw [e2]; rw [hD, hP] at hd'; rw [hR] at hr; exact h.built d' r hd' hr hl
  · rw [goneB_congr hD hP (fun d' => avB_congr e1 e2 d' r)]; rw [hR] at hr; exact h.good r hr
/- Which drive may be lost. -/
def mC (p : Nat → Bool) (D : Nat) : Nat → Nat
  | 0 => 0
  | k + 1 => mC p D k + if k < D ∧ p k = false then 1 else 0
def pC (p : Nat → Bool) (D : Nat) : Nat → Nat
  | 0 => 0
  | k + 1 => pC p D k + if D ≤ k ∧ p k = true then 1 else 0
theorem mC_le (p : Nat → Bool) (D k : Nat) : mC p D k ≤ k := by
  induction k with
  | zero => exact Nat.le_refl _
  | succ k ih => simp only [mC]; split <;> omega
theorem pC_le (p : Nat → Bool) (D k : Nat) : pC p D k ≤ k := by
  induction k with
  | zero => exact Nat.le_refl _
  | succ k ih => simp only [pC]; split <;> omega
theorem mC_eq {a : Ab} {r : Nat} {p : Nat → Bool} (k : Nat) (hk : k ≤ a.D) (h : ∀ d, d < k → avB a d r = p d) : mC p a.D k = (missL a r k).length := by
  induction k with
  | zero => rfl
  | succ k ih =>
    simp only [mC, missL]
    rw [ih (by omega) (fun d hd => h d (by omega)), h k (by omega)]
    cases hp : p k
    · rw [if_pos ⟨by omega, rfl⟩]; simp
    · rw [if_neg (by simp)]; simp
theorem mC_more (p : Nat → Bool) (D j : Nat) : mC p D (D + j) = mC p D D := by
  induction j with
  | zero => rfl
  | succ j ih => show mC p D (D + j + 1) = _; simp only [mC]; rw [if_neg (by omega), ih]; rfl
theorem pC_low (p : Nat → Bool) (D k : Nat) (hk : k ≤ D) : pC p D k = 0 := by
  induction k with
  | zero => rfl
  | succ k ih => simp only [pC]; rw [if_neg (by omega), ih (by omega)]
theorem pC_eq {a : Ab} {r : Nat} {p : Nat → Bool} (j : Nat) (h : ∀ d, a.D ≤ d → d < a.D + j → avB a d r = p d) : pC p a.D (a.D + j) = (parL a r j).length := by
  induction j with
  | zero => exact pC_low p a.D a.D (Nat.le_refl _)
  | succ j ih =>
    show pC p a.D (a.D + j + 1) = _
    simp only [pC, parL]
    rw [ih (fun d h1 h2 => h d h1 (by omega)), h (a.D + j) (by omega) (by omega)]
    cases hp : p (a.D + j)
    · rw [if_neg (by simp)]; simp
    · rw [if_pos ⟨by omega, rfl⟩]; simp
def thB (lo : Nat → Bool) (bu : Nat → Nat → Bool) (d r k : Nat) : Bool := (!lo k && bu k r) && decide (k ≠ d)
/-- Without drive d nothing is gone in the rows below m. -/
def spB (D P : Nat) (lo : Nat → Bool) (bu : Nat → Nat → Bool) (d : Nat) : Nat → Bool
  | 0 => true
  | m + 1 => spB D P lo bu d m && decide (mC (thB lo bu d m) D (D + P) ≤ pC (thB lo bu d m) D (D + P))
theorem spB_all {D P : Nat} {lo : Nat → Bool} {bu : Nat → Nat → Bool} {d m : Nat} (h : spB D P lo bu d m = true) : ∀ r, r < m → mC (thB lo bu d r) D (D + P) ≤ pC (thB lo bu d r) D (D + P) := by
  induction m with
  | zero => intro r hr; omega
  | succ m ih =>
    simp only [spB, Bool.and_eq_true, decide_eq_true_eq] at h
    intro r hr
    by_cases e : r = m
    · subst e; exact h.2
    · exact ih h.1 r (by omega)
theorem KInv.fail {a : Ab} {f : Nat → Nat} {lo : Nat → Bool} {bu : Nat → Nat → Bool} (h : KInv a f lo bu) (d : Nat) (hd : d < a.D + a.P) (hs : spB a.D a.P lo bu d a.R = true) : KInv (a.newDrive d true 0) f (setLo lo d true) bu := by
  refine ⟨h.inv.newDrive d true 0 (.inl rfl), fun d' hd' => ?_, fun d' r hd' hr hl => ?_, fun r hr => ?_⟩
  · show (if d' = d then true else a.lost d') = if d' = d then true else lo d'
    split
    · rfl
    · exact h.lost d' hd'
  · unfold setLo at hl
    by_cases e : d' = d
    · rw [if_pos e] at hl; simp at hl
    · rw [if_neg e] at hl
      show (if d' = d then _ else a.ub d' r) = _
      rw [if_neg e]; exact h.built d' r hd' hr hl
  · have hr : r < a.R := hr
    have hx := spB_all hs r hr
    have hav : ∀ d', d' < a.D + a.P → avB (a.newDrive d true 0) d' r = thB lo bu d r d' := fun d' hd' => by
      rw [newDrive_av]
      unfold thB
      by_cases e : d' = d
      · rw [if_pos e]; simp [e]
      · rw [if_neg e, h.av d' r hd' hr]; simp [e]
    have h1 := mC_eq (a := a.newDrive d true 0) (r := r) (p := thB lo bu d r) a.D (Nat.le_refl _) (fun d' hd' => hav d' (by omega))
    have h2 := pC_eq (a := a.newDrive d true 0) (r := r) (p := thB lo bu d r) a.P (fun d' _ hd' => hav d' hd')
    have h3 := mC_more (thB lo bu d r) a.D a.P
    simp only [goneB, decide_eq_false_iff_not]
    show ¬ (parL (a.newDrive d true 0) r a.P).length < (missL (a.newDrive d true 0) r a.D).length
    rw [← h1, ← h2]
    show ¬ pC (thB lo bu d r) a.D (a.D + a.P) < mC (thB lo bu d r) a.D a.D
    omega
/-- A blank drive in the place of a lost one. -/
def bu0 (bu : Nat → Nat → Bool) (R d : Nat) : Nat → Nat → Bool := fun d' r => if d' = d ∧ r < R then false else bu d' r
theorem KInv.replace {a : Ab} {f : Nat → Nat} {lo : Nat → Bool} {bu : Nat → Nat → Bool} (h : KInv a f lo bu) (d : Nat) (hd : d < a.D + a.P) (hl : lo d = true) : KInv (a.newDrive d false a.R) f (setLo lo d false) (bu0 bu a.R d) := by
  refine ⟨h.inv.newDrive d false a.R (.inr rfl), fun d' hd' => ?_, fun d' r hd' hr hl' => ?_, fun r hr => ?_⟩
  · show (if d' = d then false else a.lost d') = if d' = d then false else lo d'
    split
    · rfl
    · exact h.lost d' hd'
  · have hr : r < a.R := hr
    show (if d' = d then decide (r < a.R) else a.ub d' r) = !(if d' = d ∧ r < a.R then false else bu d' r)
    by_cases e : d' = d
    · rw [if_pos e, if_pos ⟨e, hr⟩, decide_eq_true hr]; rfl
    · rw [if_neg e, if_neg (fun hx => e hx.1)]
      unfold setLo at hl'
      rw [if_neg e] at hl'
      exact h.built d' r hd' hr hl'
  · have hr : r < a.R := hr
    have hx : ∀ d', avB (a.newDrive d false a.R) d' r = avB a d' r := by
      intro d'
      rw [newDrive_av]
      by_cases e : d' = d
      · rw [if_pos e, decide_eq_true hr, e]
        unfold avB
        rw [h.lost d hd, hl]; rfl
      · rw [if_neg e]
    rw [goneB_congr (a := a) (b := a.newDrive d false a.R) rfl rfl hx]
    exact h.good r hr
/-- A row of a drive is gone through. -/
theorem KInv.step {s : St} {f : Nat → Nat} {lo : Nat → Bool} {bu : Nat → Nat → Bool} (h : KInv s f lo bu) (d r : Nat) (hd : d < s.D + s.P) (hr : r < s.R) (hl : lo d = false) : rbB s d r = !bu d r ∧ KInv (rbS s d r) f lo (setBu bu d r true) := by
  have hav := h.av d r hd hr
  rw [hl] at hav
  have hg := h.good r hr
  have e1 : rbB s d r = !bu d r := by
    unfold rbB; rw [hav, hg]; simp
  refine ⟨e1, ?_⟩
  unfold rbS
  rw [e1]
  cases hb : bu d r
  · simp only [Bool.not_false, if_true]
    rw [hb] at hav
    have hlo : s.lost d = false := by rw [h.lost d hd]; exact hl
    have hi := h.inv.build d r hd hr hlo (by simpa using hav) hg
    have hmono : ∀ d' r', avB s d' r' = true → avB (s.toAb.layC d r (abRbC s d r)) d' r' = true := fun d' r' hx => lay_av_mono s.toAb d r _ hlo d' r' hx
    refine ⟨hi, fun d' hd' => h.lost d' hd', fun d' r' hd' hr' hl' => ?_, fun r' hr' => goneB_mono (a := s.toAb) (b := s.toAb.layC d r (abRbC s d r)) rfl rfl (fun d' hx => hmono d' r' hx) (h.good r' hr')⟩
    show (if d' = d ∧ r' = r then false else s.ub d' r') = !(if d' = d ∧ r' = r then true else bu d' r')
    by_cases e : d' = d ∧ r' = r
    · rw [if_pos e, if_pos e]; rfl
    · rw [if_neg e, if_neg e]; exact h.built d' r' hd' hr' hl'
  · simp only [Bool.not_true, Bool.false_eq_true, if_false]
    refine ⟨h.inv, h.lost, fun d' r' hd' hr' hl' => ?_, h.good⟩
    unfold setBu
    by_cases e : d' = d ∧ r' = r
    · rw [if_pos e]
      obtain ⟨rfl, rfl⟩ := e
      rw [h.built d' r' hd' hr' hl', hb]
    · rw [if_neg e]; exact h.built d' r' hd' hr' hl'
/-- The bytes are what is held. -/
theorem KInv.bytes {a : Ab} {f : Nat → Nat} {lo : Nat → Bool} {bu : Nat → Nat → Bool} (h : KInv a f lo bu) (i : Nat) (hi : i < a.D * a.R * 4) : byteAt a i = f i := by
  have hD1 := h.inv.ok.D1
  have hlt : i / 4 < a.D * a.R := by omega
  have hr : i / 4 / a.D < a.R := Nat.div_lt_of_lt_mul hlt
  have hc : i / 4 % a.D < a.D := Nat.mod_lt _ (by omega)
  unfold byteAt
  rw [h.inv.holds _ hr (h.good _ hr) _ hc, blkC_at _ _ _ _ _ (by omega), Nat.div_add_mod']
  congr 1; omega
end Go.Proofs.Ytfpoiikhhjdpdab
