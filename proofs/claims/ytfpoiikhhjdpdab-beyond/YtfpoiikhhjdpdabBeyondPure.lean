/- One drive too many is lost, in plain mathematics. -/
import Derived.Test.YtfpoiikhhjdpdabCounts
import Derived.Test.YtfpoiikhhjdpdabKMoves
import Derived.Test.YtfpoiikhhjdpdabRead
namespace Go.Proofs.Ytfpoiikhhjdpdab
open Go.RowKit
set_option linter.unusedVariables false
/-- Of n drives the k from first on, round and round. -/
def lostTo (first n : Nat) : Nat → Nat → Bool
  | 0, _ => false
  | k + 1, d => lostTo first n k d || decide (d = (first + k) % n)
/-- The hoard without them. -/
def stLose (s : St) (first n : Nat) : Nat → St
  | 0 => s
  | k + 1 => (stLose s first n k).newDrive ((first + k) % n) true 0
theorem lose_props (s : St) (first n k : Nat) : (stLose s first n k).D = s.D ∧ (stLose s first n k).P = s.P ∧ (stLose s first n k).R = s.R ∧ (stLose s first n k).M = s.M ∧ (∀ d, (stLose s first n k).lost d = (lostTo first n k d || s.lost d)) ∧ (∀ d r, lostTo first n k d = false → (stLose s first n k).ub d r = s.ub d r ∧ (stLose s first n k).cell d r = s.cell d r) := by
  induction k with
  | zero => exact ⟨rfl, rfl, rfl, rfl, fun _ => rfl, fun _ _ _ => ⟨rfl, rfl⟩⟩
  | succ k ih =>
    obtain ⟨h1, h2, h3, h4, h5, h6⟩ := ih
    refine ⟨h1, h2, h3, h4, fun d => ?_, fun d r h => ?_⟩
    · show (if d = (first + k) % n then true else (stLose s first n k).lost d) = _
      simp only [lostTo]
      by_cases e : d = (first + k) % n
      · rw [if_pos e, decide_eq_true e, Bool.or_true, Bool.true_or]
      · rw [if_neg e, decide_eq_false e, Bool.or_false]; exact h5 d
    · simp only [lostTo, Bool.or_eq_false_iff, decide_eq_false_iff_not] at h
      have h7 := h6 d r h.1
      refine ⟨?_, ?_⟩
      · show (if d = (first + k) % n then _ else (stLose s first n k).ub d r) = _
        rw [if_neg h.2]; exact h7.1
      · show (if d = (first + k) % n then _ else (stLose s first n k).cell d r) = _
        rw [if_neg h.2]; exact h7.2
theorem lostTo_new (first n k : Nat) (hk : k < n) : lostTo first n k ((first + k) % n) = false := by
  have key : ∀ j, j ≤ k → lostTo first n j ((first + k) % n) = false := by
    intro j
    induction j with
    | zero => intro _; rfl
    | succ j ih =>
      intro hj
      simp only [lostTo]
      rw [ih (by omega), Bool.false_or, decide_eq_false_iff_not]
      intro e
      have h1 : (first + k) % n = (first + j) % n := e
      have h2 := Nat.div_add_mod (first + k) n
      have h3 := Nat.div_add_mod (first + j) n
      rw [h1] at h2
      have h4 : n * ((first + k) / n) = n * ((first + j) / n) + (k - j) := by omega
      have h5 : k - j < n := by omega
      have h6 : (n * ((first + k) / n)) % n = (n * ((first + j) / n) + (k - j)) % n := by rw [h4]
      rw [Nat.mul_mod_right, Nat.mul_add_mod, Nat.mod_eq_of_lt h5] at h6
      omega
  exact key k (Nat.le_refl _)
theorem lose_av {s : St} {f : Nat → Nat} {bu : Nat → Nat → Bool} (h : KInv s f (fun _ => false) bu) (hb : ∀ d r, bu d r = true) (first n k d r : Nat) (hd : d < s.D + s.P) (hr : r < s.R) : avB (stLose s first n k) d r = !lostTo first n k d := by
  have hp := lose_props s first n k
  have hl := h.lost d hd
  unfold avB
  rw [hp.2.2.2.2.1 d, show s.lost d = false from hl, Bool.or_false]
  cases hx : lostTo first n k d
  · have := h.live hb d r hd hr
    unfold avB at this
    rw [(hp.2.2.2.2.2 d r hx).1]
    simp at this
    simp [this.2]
  · rfl
theorem too_many : ∀ D, D < 5 → ∀ P, P < 3 → ∀ first, first < D → 1 ≤ P → pC (fun d => !lostTo first (D + P) (P + 1) d) D (D + P) < mC (fun d => !lostTo first (D + P) (P + 1) d) D D := by decide
theorem lose_gone {s : St} {f : Nat → Nat} {bu : Nat → Nat → Bool} (h : KInv s f (fun _ => false) bu) (hb : ∀ d r, bu d r = true) (first r : Nat) (hf : first < s.D) (hr : r < s.R) : goneB (stLose s first (s.D + s.P) (s.P + 1)).toAb r = true := by
  have hp := lose_props s first (s.D + s.P) (s.P + 1)
  have h1 := h.inv.ok.D4
  have h2 := h.inv.ok.P2
  have h3 := h.inv.ok.P1
  have hD : (stLose s first (s.D + s.P) (s.P + 1)).toAb.D = s.D := hp.1
  have hP : (stLose s first (s.D + s.P) (s.P + 1)).toAb.P = s.P := hp.2.1
  unfold goneB
  rw [decide_eq_true_eq]
  have e1 := mC_eq (a := (stLose s first (s.D + s.P) (s.P + 1)).toAb) (r := r) (p := fun d => !lostTo first (s.D + s.P) (s.P + 1) d) s.D (by rw [hD]; exact Nat.le_refl _) (fun d hd => lose_av h hb first _ _ d r (by omega) hr)
  have e2 := pC_eq (a := (stLose s first (s.D + s.P) (s.P + 1)).toAb) (r := r) (p := fun d => !lostTo first (s.D + s.P) (s.P + 1) d) s.P (fun d h1 h2 => lose_av h hb first _ _ d r (by rw [hD] at h2; exact h2) hr)
  rw [hD] at e1 e2 ⊢
  rw [hP, ← e1, ← e2]
  exact too_many s.D (by omega) s.P (by omega) first hf h3
theorem any_one (t : Ab) (a n q : Nat) (h1 : a / 4 = q) (h2 : (a + n - 1) / 4 = q) (hn : 1 ≤ n) : anyGone t a (blkEnd a n - a / 4) = blkGone t q := by
  have : blkEnd a n - a / 4 = 1 := by unfold blkEnd; rw [if_neg (by omega)]; omega
  rw [this]
  simp only [anyGone, Bool.false_or]
  rw [h1]; rfl
theorem lose_blk {s : St} {f : Nat → Nat} {bu : Nat → Nat → Bool} (h : KInv s f (fun _ => false) bu) (hb : ∀ d r, bu d r = true) (first j m : Nat) (hf : first < s.D) (hj : j < s.D) (hm : m < s.R) : blkGone (stLose s first (s.D + s.P) (s.P + 1)).toAb (m * s.D + j) = lostTo first (s.D + s.P) (s.P + 1) j := by
  have hD : (stLose s first (s.D + s.P) (s.P + 1)).toAb.D = s.D := (lose_props s first (s.D + s.P) (s.P + 1)).1
  have e1 : (m * s.D + j) % s.D = j := by rw [Nat.add_comm, Nat.add_mul_mod_self_right]; exact Nat.mod_eq_of_lt hj
  have e2 : (m * s.D + j) / s.D = m := by rw [Nat.add_comm, Nat.add_mul_div_right _ _ (by omega), Nat.div_eq_of_lt hj]; omega
  unfold blkGone
  rw [hD, e1, e2, lose_av h hb first _ _ j m (by omega) hm, lose_gone h hb first m hf hm]
  simp
theorem lose_byte {s : St} {f : Nat → Nat} {bu : Nat → Nat → Bool} (h : KInv s f (fun _ => false) bu) (hb : ∀ d r, bu d r = true) (first j m i : Nat) (hj : j < s.D) (hm : m < s.R) (hl : lostTo first (s.D + s.P) (s.P + 1) j = false) (hi : i < 4) : byteAt (stLose s first (s.D + s.P) (s.P + 1)).toAb ((m * s.D + j) * 4 + i) = (blkC s.D f j m).at i := by
  have hp := lose_props s first (s.D + s.P) (s.P + 1)
  have hD : (stLose s first (s.D + s.P) (s.P + 1)).toAb.D = s.D := hp.1
  have e1 : (m * s.D + j) % s.D = j := by rw [Nat.add_comm, Nat.add_mul_mod_self_right]; exact Nat.mod_eq_of_lt hj
  have e2 : (m * s.D + j) / s.D = m := by rw [Nat.add_comm, Nat.add_mul_div_right _ _ (by omega), Nat.div_eq_of_lt hj]; omega
  unfold byteAt
  rw [hD, show ((m * s.D + j) * 4 + i) / 4 = m * s.D + j by omega, show ((m * s.D + j) * 4 + i) % 4 = i by omega, e1, e2]
  have hav : avB (stLose s first (s.D + s.P) (s.P + 1)).toAb j m = true := by rw [lose_av h hb first _ _ j m (by omega) hm, hl]; rfl
  unfold holdC
  rw [hav, if_pos rfl, (hp.2.2.2.2.2 j m hl).2]
  have := h.inv.data m hm j hj (h.live hb j m (by omega) hm)
  rw [this]
end Go.Proofs.Ytfpoiikhhjdpdab
