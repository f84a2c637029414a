/- Drives that are lost, replaced and rebuilt, in plain mathematics. -/
import Derived.Test.YtfpoiikhhjdpdabBeyondPure
import Derived.Test.YtfpoiikhhjdpdabKRebuild
namespace Go.Proofs.Ytfpoiikhhjdpdab
open Go.RowKit
set_option linter.unusedVariables false
/-- c drives from first on were lost; i of them are there again. -/
def loR (first n c i : Nat) (d : Nat) : Bool := lostTo first n c d && !lostTo first n i d
set_option maxRecDepth 100000 in
theorem enough : ∀ D, D < 5 → ∀ P, P < 3 → ∀ first, first < D + P → ∀ c, c < P + 1 → ∀ i, i < c + 1 → mC (fun d => !loR first (D + P) c i d) D D ≤ pC (fun d => !loR first (D + P) c i d) D (D + P) := by decide +kernel
theorem loR_zero (first n c : Nat) : loR first n c 0 = lostTo first n c := by
  funext d; unfold loR; show (lostTo first n c d && !false) = _; simp
theorem loR_end (first n c : Nat) : loR first n c c = fun _ => false := by
  funext d; unfold loR; cases lostTo first n c d <;> rfl
theorem lostTo_has (first n c i : Nat) (h : i < c) : lostTo first n c ((first + i) % n) = true := by
  induction c with
  | zero => omega
  | succ c ih =>
    simp only [lostTo]
    by_cases e : i = c
    · subst e; rw [decide_eq_true rfl, Bool.or_true]
    · rw [ih (by omega), Bool.true_or]
theorem loR_new (first n c i : Nat) (h : i < c) (hn : c ≤ n) : loR first n c i ((first + i) % n) = true := by
  unfold loR
  rw [lostTo_has first n c i h, lostTo_new first n i (by omega)]; rfl
theorem loR_next (first n c i : Nat) (h : i < c) : setLo (loR first n c i) ((first + i) % n) false = loR first n c (i + 1) := by
  funext d
  unfold setLo loR
  by_cases e : d = (first + i) % n
  · rw [if_pos e]; simp only [lostTo]; rw [decide_eq_true e]; simp
  · rw [if_neg e]; simp only [lostTo]; rw [decide_eq_false e, Bool.or_false]
def bu1 : Nat → Nat → Bool := fun _ _ => true
/-- The hoard without k drives, as many as there are parity drives at the most. -/
theorem lose_inv {s : St} {f : Nat → Nat} {bu : Nat → Nat → Bool} (h : KInv s f (fun _ => false) bu) (hb : ∀ d r, bu d r = true) (first k : Nat) (hf : first < s.D + s.P) (hk : k ≤ s.P) : KInv (stLose s first (s.D + s.P) k) f (lostTo first (s.D + s.P) k) bu1 := by
  have hp := lose_props s first (s.D + s.P) k
  have h1 := h.inv.ok.D4
  have h2 := h.inv.ok.P2
  have hD : (stLose s first (s.D + s.P) k).toAb.D = s.D := hp.1
  have hP : (stLose s first (s.D + s.P) k).toAb.P = s.P := hp.2.1
  have hR : (stLose s first (s.D + s.P) k).toAb.R = s.R := hp.2.2.1
  refine ⟨?_, fun d hd => ?_, fun d r hd hr hl => ?_, fun r hr => ?_⟩
  · clear hp hD hP hR hk
    induction k with
    | zero => exact h.inv
    | succ k ih => exact ih.newDrive _ true 0 (.inl rfl)
  · rw [hD, hP] at hd
    have := hp.2.2.2.2.1 d
    rw [show s.lost d = false from h.lost d hd, Bool.or_false] at this
    exact this
  · rw [hD, hP] at hd
    rw [hR] at hr
    have := (hp.2.2.2.2.2 d r hl).1
    have h3 := h.built d r hd hr rfl
    rw [hb] at h3
    exact this.trans h3
  · rw [hR] at hr
    unfold goneB
    rw [decide_eq_false_iff_not]
    have e1 := mC_eq (a := (stLose s first (s.D + s.P) k).toAb) (r := r) (p := fun d => !lostTo first (s.D + s.P) k d) s.D (by rw [hD]; exact Nat.le_refl _) (fun d hd => lose_av h hb first _ _ d r (by omega) hr)
    have e2 := pC_eq (a := (stLose s first (s.D + s.P) k).toAb) (r := r) (p := fun d => !lostTo first (s.D + s.P) k d) s.P (fun d h1 h2 => lose_av h hb first _ _ d r (by rw [hD] at h2; exact h2) hr)
    rw [hD] at e1 e2 ⊢
    rw [hP, ← e1, ← e2]
    have := enough s.D (by omega) s.P (by omega) first hf k (by omega) 0 (by omega)
    rw [loR_zero] at this
    omega
theorem buR_full (R d n k : Nat) (hk : k ≤ R) (hn : R ≤ n) : buR (bu0 bu1 R d) d n k = (fun d' r => if d' = d ∧ k ≤ r ∧ r < R then false else true, k) := by
  induction k with
  | zero =>
    simp only [buR]
    congr 1
    funext d' r
    show (if d' = d ∧ r < R then false else true) = _
    by_cases h : d' = d ∧ r < R
    · rw [if_pos h, if_pos ⟨h.1, Nat.zero_le _, h.2⟩]
    · rw [if_neg h, if_neg (fun x => h ⟨x.1, x.2.2⟩)]
  | succ k ih =>
    simp only [buR]
    rw [ih (by omega)]
    have hk' : k < R := by omega
    simp only [show k < n by omega, hk', Nat.le_refl, and_self, if_true, Bool.false_eq_true, if_false]
    congr 1
    funext d' r
    unfold setBu
    by_cases h : d' = d ∧ r = k
    · rw [if_pos h, if_neg (fun x => by omega)]
    · rw [if_neg h]
      show (if d' = d ∧ k ≤ r ∧ r < R then false else true) = _
      by_cases h2 : d' = d ∧ k ≤ r ∧ r < R
      · rw [if_pos h2, if_pos ⟨h2.1, by
          have : r ≠ k := fun e => h ⟨h2.1, e⟩
          omega, h2.2.2⟩]
      · rw [if_neg h2, if_neg (fun x => h2 ⟨x.1, by omega, x.2.2⟩)]
theorem rbS_recs (s : St) (d r : Nat) : (rbS s d r).recs = s.recs := by unfold rbS; split <;> rfl
theorem rbRun_recs (s : St) (d : Nat) (n : Int) (k : Nat) : (rbRun s d n k).1.recs = s.recs := by
  induction k with
  | zero => rfl
  | succ k ih =>
    simp only [rbRun]
    split
    · simp only; rw [rbS_recs, ih]
    · exact ih
theorem rbRun_ub (s : St) (d : Nat) (n : Int) (k r : Nat) (h : k ≤ r) : (rbRun s d n k).1.ub d r = s.ub d r := by
  induction k with
  | zero => rfl
  | succ k ih =>
    simp only [rbRun]
    split
    · simp only
      rw [← ih (by omega)]
      unfold rbS
      split
      · show (if d = d ∧ r = k then false else (rbRun s d n k).1.ub d r) = _
        rw [if_neg (fun x => by omega)]
      · rfl
    · exact ih (by omega)
theorem ubCount_of (a : Ab) (d R k : Nat) (h : ∀ r, r < k → a.ub d r = decide (r < R)) : ubCount a d k = min k R := by
  induction k with
  | zero => show 0 = _; omega
  | succ k ih =>
    simp only [ubCount]
    rw [ih (fun r hr => h r (by omega)), h k (by omega)]
    by_cases e : k < R
    · rw [decide_eq_true e, if_pos rfl]; omega
    · rw [decide_eq_false e]; simp; omega
theorem ubCount_none (a : Ab) (d k : Nat) (h : ∀ r, r < k → a.ub d r = false) : ubCount a d k = 0 := by
  have := ubCount_of a d 0 k (fun r hr => by rw [h r hr, decide_eq_false (by omega)])
  omega
/-- A lost drive is replaced, and rebuilt whole. -/
def stBack (t : St) (d : Nat) : St := (rbRun (t.newDrive d false t.R) d 6 t.R).1
structure Back (t : St) (f : Nat → Nat) (lo : Nat → Bool) (d : Nat) : Prop where
  inv : KInv (stBack t d) f (setLo lo d false) bu1
  count : (rbRun (t.newDrive d false t.R) d 6 t.R).2 = t.R
  ub0 : ubCount (t.newDrive d false t.R).toAb d 6 = t.R
  ub1 : ubCount (stBack t d).toAb d 6 = 0
  recs : (stBack t d).recs d = []
  recs0 : (t.newDrive d false t.R).recs d = []
  lost : (stBack t d).lost d = false
  same : SameShape t (stBack t d)
  cell : ∀ r, r < t.R → (stBack t d).cell d r = if d < t.D then blkC t.D f d r else wsum t f d r t.D
  av : ∀ r, r < t.R → avB (stBack t d) d r = true
theorem back_of {t : St} {f : Nat → Nat} {lo : Nat → Bool} (h : KInv t f lo bu1) (d : Nat) (hd : d < t.D + t.P) (hl : lo d = true) : Back t f lo d := by
  have hR := h.inv.ok.R6
  have h1 : KInv (t.newDrive d false t.R) f (setLo lo d false) (bu0 bu1 t.R d) := h.replace d hd hl
  have hlo : setLo lo d false d = false := by unfold setLo; rw [if_pos rfl]
  have hrun := h1.run d 6 hd hlo t.R (Nat.le_refl _)
  rw [buR_full t.R d 6 t.R (Nat.le_refl _) hR] at hrun
  have hall : (fun d' r => if d' = d ∧ t.R ≤ r ∧ r < t.R then false else true) = bu1 := by
    funext d' r
    rw [if_neg (by omega)]; rfl
  rw [hall] at hrun
  have hsh := rbRun_shape (t.newDrive d false t.R) d 6 t.R
  have hsame : SameShape t (stBack t d) := ⟨hsh.D, hsh.P, hsh.R, hsh.M⟩
  have hinv : KInv (stBack t d) f (setLo lo d false) bu1 := hrun.1
  have hrc : (stBack t d).recs d = [] := by
    show (rbRun _ d 6 t.R).1.recs d = []
    rw [rbRun_recs]
    show (if d = d then [] else t.recs d) = []
    rw [if_pos rfl]
  have hav : ∀ r, r < t.R → avB (stBack t d) d r = true := fun r hr => by
    rw [hinv.av d r (by rw [show (stBack t d).toAb.D = t.D from hsame.D, show (stBack t d).toAb.P = t.P from hsame.P]; exact hd) (by rw [show (stBack t d).toAb.R = t.R from hsame.R]; exact hr), hlo]
    rfl
  refine ⟨hinv, hrun.2, ?_, ?_, hrc, ?_, ?_, hsame, fun r hr => ?_, hav⟩
  · have := ubCount_of (t.newDrive d false t.R).toAb d t.R 6 (fun r _ => by
      show (if d = d then decide (r < t.R) else _) = _
      rw [if_pos rfl])
    omega
  · refine ubCount_none _ _ _ (fun r hr => ?_)
    by_cases e : r < t.R
    · have := hav r e
      unfold avB at this
      simp at this
      exact this.2
    · show (rbRun (t.newDrive d false t.R) d 6 t.R).1.ub d r = false
      rw [rbRun_ub _ _ _ _ _ (by omega)]
      show (if d = d then decide (r < t.R) else _) = _
      rw [if_pos rfl, decide_eq_false e]
  · show (if d = d then [] else t.recs d) = []
    rw [if_pos rfl]
  · have := hinv.lost d (by rw [show (stBack t d).toAb.D = t.D from hsame.D, show (stBack t d).toAb.P = t.P from hsame.P]; exact hd)
    rw [hlo] at this
    exact this
  · by_cases e : d < t.D
    · rw [if_pos e]
      have := hinv.inv.data r (by rw [show (stBack t d).toAb.R = t.R from hsame.R]; exact hr) d (by rw [show (stBack t d).toAb.D = t.D from hsame.D]; exact e) (hav r hr)
      rw [show (stBack t d).toAb.D = t.D from hsame.D] at this
      exact this
    · rw [if_neg e]
      have := hinv.inv.par r (by rw [show (stBack t d).toAb.R = t.R from hsame.R]; exact hr) d (by rw [show (stBack t d).toAb.D = t.D from hsame.D]; omega) (by rw [show (stBack t d).toAb.D = t.D from hsame.D, show (stBack t d).toAb.P = t.P from hsame.P]; exact hd) (hav r hr)
      unfold valC at this
      rw [show (stBack t d).toAb.recs d = [] from hrc] at this
      rw [show (stBack t d).toAb.D = t.D from hsame.D] at this
      rw [show (stBack t d).cell d r = wsum (stBack t d).toAb f d r t.D from this]
      exact wsum_congr (a := t.toAb) (b := (stBack t d).toAb) hsame.D t.D (fun c _ => rfl)
end Go.Proofs.Ytfpoiikhhjdpdab
