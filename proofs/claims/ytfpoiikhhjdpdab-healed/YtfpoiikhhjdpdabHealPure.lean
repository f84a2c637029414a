/- One cell that went bad: what the equations say, and which drive explains it. -/
import Derived.Test.YtfpoiikhhjdpdabScrub
import Derived.Test.YtfpoiikhhjdpdabPure
namespace Go.Proofs.Ytfpoiikhhjdpdab
set_option linter.unusedVariables false
/-- The hoard with one cell off by e. -/
def stBad (s : St) (d r : Nat) (e : C4) : St := s.setCell d r ((s.cell d r).xor e)
theorem bad_cell (s : St) (d r : Nat) (e : C4) (d' r' : Nat) : (stBad s d r e).cell d' r' = if d' = d ∧ r' = r then (s.cell d r).xor e else s.cell d' r' := rfl
theorem set_same (s : St) (d r : Nat) (c : C4) (h : c = s.cell d r) : s.setCell d r c = s := by
  have : (fun d' r' => if d' = d ∧ r' = r then c else s.cell d' r') = s.cell := by
    funext d' r'
    split
    · rename_i hh; rw [h, hh.1, hh.2]
    · rfl
  show ({ s with cell := fun d' r' => if d' = d ∧ r' = r then c else s.cell d' r' } : St) = s
  rw [this]
theorem set_set (s : St) (d r : Nat) (c c' : C4) : (s.setCell d r c).setCell d r c' = s.setCell d r c' := by
  have : (fun d' r' => if d' = d ∧ r' = r then c' else (s.setCell d r c).cell d' r') = (fun d' r' => if d' = d ∧ r' = r then c' else s.cell d' r') := by
    funext d' r'
    split
    · rfl
    · rename_i hh
      show (if d' = d ∧ r' = r then c else s.cell d' r') = _
      rw [if_neg hh]
  show ({ s with cell := fun d' r' => if d' = d ∧ r' = r then c' else (s.setCell d r c).cell d' r' } : St) = _
  rw [this]
  rfl
theorem bad_zero (s : St) (d r : Nat) : stBad s d r C4.zero = s := set_same s d r _ (C4.xor_zero _)
theorem bad_here (s : St) (d r : Nat) (e : C4) : (stBad s d r e).cell d r = (s.cell d r).xor e := by rw [bad_cell, if_pos ⟨rfl, rfl⟩]
theorem xor_put (c e : C4) (i v : Nat) (hi : i < 4) : (c.xor e).put i ((c.xor e).at i ^^^ v) = c.xor (e.put i (e.at i ^^^ v)) := by
  apply C4.ext'
  intro j hj
  rw [C4.at_put _ _ _ _ hj, C4.at_xor, C4.at_xor, C4.at_xor, C4.at_put _ _ _ _ hj]
  split
  · rename_i h; subst h; rw [Nat.xor_assoc]
  · rfl
theorem bad_put (s : St) (d r : Nat) (e : C4) (i v : Nat) (hi : i < 4) : (stBad s d r e).setCell d r (((stBad s d r e).cell d r).put i (((stBad s d r e).cell d r).at i ^^^ v)) = stBad s d r (e.put i (e.at i ^^^ v)) := by
  rw [bad_here, xor_put _ _ _ _ hi]
  exact set_set s d r _ _
theorem xor_back (c e : C4) : (c.xor e).xor e = c := by rw [C4.xor_assoc, C4.xor_self, C4.xor_zero]
theorem bad_mend (s : St) (d r : Nat) (e : C4) : (stBad s d r e).setCell d r (((stBad s d r e).cell d r).xor e) = s := by
  rw [bad_here, xor_back]
  show (s.setCell d r _).setCell d r (s.cell d r) = s
  rw [set_set]
  exact set_same s d r _ rfl
theorem recSum_xor (r : Nat) (l : List Rec) (c e : C4) : recSum r l (c.xor e) = (recSum r l c).xor e := by
  induction l generalizing c with
  | nil => rfl
  | cons x l ih =>
    show recSum r l (if x.row = r then (c.xor e).xor x.c else c.xor e) = (recSum r l (if x.row = r then c.xor x.c else c)).xor e
    split
    · rw [C4.xor_assoc, C4.xor_comm e, ← C4.xor_assoc, ih]
    · exact ih c
theorem bad_val (s : St) (d r : Nat) (e : C4) (p k : Nat) : valC (stBad s d r e) p k = if p = d ∧ k = r then (valC s p k).xor e else valC s p k := by
  unfold valC
  rw [bad_cell]
  show recSum k (s.recs p) _ = _
  split
  · rename_i h
    obtain ⟨rfl, rfl⟩ := h
    rw [recSum_xor]
  · rfl
theorem bad_av (s : St) (d r : Nat) (e : C4) (d' r' : Nat) : avB (stBad s d r e) d' r' = avB s d' r' := rfl
/-- In other rows nothing has changed. -/
theorem bad_msum_other (s : St) (d r : Nat) (e : C4) (p k : Nat) (hk : k ≠ r) (n : Nat) : msum (stBad s d r e) p k n = msum s p k n := by
  induction n with
  | zero =>
    show valC _ _ _ = valC _ _ _
    rw [bad_val, if_neg (fun h => hk h.2)]
  | succ n ih =>
    have hc : (stBad s d r e).toAb.cell n k = s.cell n k := by
      show (stBad s d r e).cell n k = _
      rw [bad_cell, if_neg (fun h => hk h.2)]
    simp only [msum]
    rw [ih, bad_av, hc]
    rfl
theorem bad_msum (s : St) (d r : Nat) (e : C4) (p : Nat) (hav : ∀ c, c < s.D → avB s c r = true) (hp : s.D ≤ p) (n : Nat) (hn : n ≤ s.D) :
    msum (stBad s d r e) p r n = (msum s p r n).xor (if d < n then e.scale (wgt s p d) else if d = p then e else C4.zero) := by
  induction n with
  | zero =>
    show valC _ _ _ = (valC s p r).xor _
    rw [bad_val, if_neg (Nat.not_lt_zero _)]
    by_cases h : p = d
    · rw [if_pos ⟨h, rfl⟩, if_pos h.symm]
    · rw [if_neg (fun hh => h hh.1), if_neg (fun hh => h hh.symm), C4.xor_zero]
  | succ n ih =>
    have hw : wgt (stBad s d r e).toAb p n = wgt s.toAb p n := rfl
    simp only [msum]
    rw [bad_av, hav n (by omega), if_pos rfl, if_pos rfl, ih (by omega), hw]
    by_cases h : n = d
    · subst h
      have hc : (stBad s n r e).toAb.cell n r = (s.cell n r).xor e := bad_here s n r e
      rw [hc, if_neg (Nat.lt_irrefl _), if_pos (Nat.lt_succ_self _), if_neg (show ¬ n = p by omega), C4.xor_zero, C4.scale_xor, ← C4.xor_assoc]
    · have hc : (stBad s d r e).toAb.cell n r = s.cell n r := by
        show (stBad s d r e).cell n r = _
        rw [bad_cell, if_neg (fun hh => h hh.1)]
      rw [hc]
      by_cases h2 : d < n
      · rw [if_pos h2, if_pos (show d < n + 1 by omega), C4.xor_assoc, C4.xor_comm (e.scale _), ← C4.xor_assoc]
      · rw [if_neg h2, if_neg (show ¬ d < n + 1 by omega)]
        split
        · rw [C4.xor_assoc, C4.xor_comm e, ← C4.xor_assoc]
        · rw [C4.xor_zero, C4.xor_zero]
theorem bad_gap (s : St) (d r : Nat) (e : C4) (he : e.ok) (p : Nat) (hav : ∀ c, c < s.D → avB s c r = true) (hp : s.D ≤ p) (h0 : msum s p r s.D = C4.zero) :
    msum (stBad s d r e) p r s.D = e.scale (shareN s p d) := by
  rw [bad_msum s d r e p hav hp s.D (Nat.le_refl _), h0, C4.zero_xor]
  unfold shareN
  split
  · rfl
  · split
    · rw [C4.scale_one e he]
    · rw [C4.scale_zero_left]
/-- All is live and built, and the bytes are f. -/
structure Sound (s : St) (f : Nat → Nat) (bu : Nat → Nat → Bool) : Prop where
  inv : KInv s f (fun _ => false) bu
  bu : ∀ d r, bu d r = true
theorem Sound.av {s : St} {f : Nat → Nat} {bu : Nat → Nat → Bool} (h : Sound s f bu) (d r : Nat) (hd : d < s.D + s.P) (hr : r < s.R) : avB s d r = true := by
  rw [h.inv.av d r hd hr, h.bu]; rfl
theorem Sound.gap {s : St} {f : Nat → Nat} {bu : Nat → Nat → Bool} (h : Sound s f bu) (p r : Nat) (h1 : s.D ≤ p) (h2 : p < s.D + s.P) (hr : r < s.R) : msum s p r s.D = C4.zero := by
  have hm : missL s r s.D = [] := by
    cases hc : missL s r s.D with
    | nil => rfl
    | cons x l =>
      have := (missL_mem s r s.D x).1 (by rw [hc]; exact List.mem_cons_self)
      rw [h.av x r (by omega) hr] at this
      cases this.2
  rw [msum_par (h.inv.inv.data r hr) (h.inv.inv.par r hr) p h1 h2 (h.av p r h2 hr), hm]
  rfl
theorem Sound.whole {s : St} {f : Nat → Nat} {bu : Nat → Nat → Bool} (h : Sound s f bu) (d r : Nat) (e : C4) (k : Nat) (hk : k < s.R) : wholeB (stBad s d r e) k = true :=
  (wholeTo_iff _ _ _).2 (fun d' hd' => by rw [bad_av]; exact h.av d' k hd' hk)
theorem Sound.fine {s : St} {f : Nat → Nat} {bu : Nat → Nat → Bool} (h : Sound s f bu) (d r : Nat) (e : C4) (k : Nat) (hk : k < s.R) (hne : k ≠ r ∨ e = C4.zero) : eqHoldB (stBad s d r e) k = true := by
  refine (eqTo_iff _ _ _).2 (fun p hp => ?_)
  have hp' : p < s.P := hp
  rcases hne with h1 | h1
  · show msum (stBad s d r e) (s.D + p) k s.D = _
    rw [bad_msum_other s d r e _ k h1]
    exact h.gap (s.D + p) k (by omega) (by omega) hk
  · subst h1
    rw [bad_zero]
    exact h.gap (s.D + p) k (by omega) (by omega) hk
theorem share_self (s : Ab) (d : Nat) : (d < s.D → shareN s s.D d = 1) ∧ (s.D ≤ d → shareN s d d = 1) := by
  constructor
  · intro h; unfold shareN wgt; rw [if_pos h, if_pos rfl]
  · intro h; unfold shareN; rw [if_neg (by omega), if_pos rfl]
theorem Sound.bgap {s : St} {f : Nat → Nat} {bu : Nat → Nat → Bool} (h : Sound s f bu) (d r : Nat) (e : C4) (he : e.ok) (p : Nat) (h1 : s.D ≤ p) (h2 : p < s.D + s.P) (hr : r < s.R) : msum (stBad s d r e) p r s.D = e.scale (shareN s p d) :=
  bad_gap s d r e he p (fun c hc => h.av c r (by omega) hr) h1 (h.gap p r h1 h2 hr)
theorem Sound.mendC_eq {s : St} {f : Nat → Nat} {bu : Nat → Nat → Bool} (h : Sound s f bu) (hP : 1 ≤ s.P) (d r : Nat) (e : C4) (he : e.ok) (x : Nat) (hx : x < s.D + s.P) (hr : r < s.R) : mendC (stBad s d r e) x r = if s.D ≤ x then e.scale (shareN s x d) else e.scale (shareN s s.D d) := by
  unfold mendC
  show (if s.D ≤ x then msum (stBad s d r e) x r s.D else msum (stBad s d r e) s.D r s.D) = _
  split
  · exact h.bgap d r e he x (by omega) hx hr
  · exact h.bgap d r e he s.D (by omega) (by omega) hr
theorem Sound.mend_self {s : St} {f : Nat → Nat} {bu : Nat → Nat → Bool} (h : Sound s f bu) (hP : 1 ≤ s.P) (d r : Nat) (e : C4) (he : e.ok) (hd : d < s.D + s.P) (hr : r < s.R) : mendC (stBad s d r e) d r = e := by
  rw [h.mendC_eq hP d r e he d hd hr]
  split
  · rename_i h1; rw [(share_self s d).2 h1, C4.scale_one e he]
  · rename_i h1; rw [(share_self s d).1 (by omega), C4.scale_one e he]
theorem Sound.bad {s : St} {f : Nat → Nat} {bu : Nat → Nat → Bool} (h : Sound s f bu) (hP : 1 ≤ s.P) (d r : Nat) (e : C4) (he : e.ok) (hne : e ≠ C4.zero) (hd : d < s.D + s.P) (hr : r < s.R) : eqHoldB (stBad s d r e) r = false := by
  have : ¬ (eqHoldB (stBad s d r e) r = true) := by
    intro hh
    have h1 := (eqTo_iff _ _ _).1 hh
    have h2 : ∀ p, s.D ≤ p → p < s.D + s.P → e.scale (shareN s p d) = C4.zero := fun p hp1 hp2 => by
      have h3 : msum (stBad s d r e) (s.D + (p - s.D)) r s.D = C4.zero := h1 (p - s.D) (show p - s.D < s.P by omega)
      rw [show s.D + (p - s.D) = p by omega, h.bgap d r e he p hp1 hp2 hr] at h3
      exact h3
    by_cases hdD : d < s.D
    · have := h2 s.D (by omega) (by omega)
      rw [(share_self s d).1 hdD, C4.scale_one e he] at this
      exact hne this
    · have := h2 d (by omega) hd
      rw [(share_self s d).2 (by omega), C4.scale_one e he] at this
      exact hne this
  simpa using this
theorem scale_zero_inv {e : C4} (he : e.ok) {n : Nat} (hn : n < 256) (h0 : n ≠ 0) (h : e.scale n = C4.zero) : e = C4.zero := by
  have := C4.scale_inv n e hn h0 he
  rw [h] at this
  rw [← this]
  apply C4.ext'
  intro i hi
  rw [C4.at_scale]
  have hz : C4.zero.at i = 0 := by unfold C4.at C4.zero; split <;> try rfl
                                   split <;> try rfl
                                   split <;> rfl
  rw [hz]
  exact Hd.mul_zero _
theorem pow_ne : ∀ c, c < 4 → ∀ o, o < 4 → c ≠ o → 2 ^ c ^^^ 2 ^ o ≠ 0 ∧ 2 ^ c ^^^ 2 ^ o < 256 := by decide
/-- Of one parity drive every drive explains it. -/
theorem Sound.all_one {s : St} {f : Nat → Nat} {bu : Nat → Nat → Bool} (h : Sound s f bu) (hP : s.P = 1) (d r : Nat) (e : C4) (he : e.ok) (hd : d < s.D + s.P) (hr : r < s.R) (x : Nat) (hx : x < s.D + s.P) : explB (stBad s d r e) x r = true := by
  have sh : ∀ y, y < s.D + s.P → shareN s s.D y = 1 := fun y hy => by
    by_cases h1 : y < s.D
    · exact (share_self s y).1 h1
    · have : y = s.D := by omega
      subst this; exact (share_self s s.D).2 (Nat.le_refl _)
  refine (exTo_iff _ _ _ _).2 (fun p hp => ?_)
  have hp' : p < s.P := hp
  have hp0 : p = 0 := by omega
  subst hp0
  show msum (stBad s d r e) s.D r s.D = (mendC (stBad s d r e) x r).scale (shareN s s.D x)
  rw [h.bgap d r e he s.D (by omega) (by omega) hr, sh d hd, sh x hx, h.mendC_eq (by omega) d r e he x hx hr]
  have hxD : (if s.D ≤ x then e.scale (shareN s x d) else e.scale (shareN s s.D d)) = e := by
    split
    · have : x = s.D := by omega
      subst this; rw [sh d hd, C4.scale_one e he]
    · rw [sh d hd, C4.scale_one e he]
  rw [hxD]
/-- Of two parity drives its own alone does. -/
theorem Sound.own_alone {s : St} {f : Nat → Nat} {bu : Nat → Nat → Bool} (h : Sound s f bu) (hP : s.P = 2) (hD : s.D ≤ 4) (d r : Nat) (e : C4) (he : e.ok) (hne : e ≠ C4.zero) (hd : d < s.D + s.P) (hr : r < s.R) (x : Nat) (hx : x < s.D + s.P) : explB (stBad s d r e) x r = decide (x = d) := by
  have hgap := fun p h1 h2 => h.bgap d r e he p h1 h2 hr
  by_cases hxd : x = d
  · subst hxd
    rw [decide_eq_true rfl]
    refine (exTo_iff _ _ _ _).2 (fun p hp => ?_)
    have hp' : p < s.P := hp
    show msum (stBad s x r e) (s.D + p) r s.D = (mendC (stBad s x r e) x r).scale (shareN s (s.D + p) x)
    rw [hgap (s.D + p) (by omega) (by omega), h.mend_self (by omega) x r e he hd hr]
  · rw [decide_eq_false hxd]
    have : ¬ (explB (stBad s d r e) x r = true) := by
      intro hh
      have h1 := (exTo_iff _ _ _ _).1 hh
      have q : ∀ p, s.D ≤ p → p < s.D + s.P → e.scale (shareN s p d) = (mendC (stBad s d r e) x r).scale (shareN s p x) := fun p hp1 hp2 => by
        have h3 : msum (stBad s d r e) (s.D + (p - s.D)) r s.D = (mendC (stBad s d r e) x r).scale (shareN s (s.D + (p - s.D)) x) := h1 (p - s.D) (show p - s.D < s.P by omega)
        rw [show s.D + (p - s.D) = p by omega, hgap p hp1 hp2] at h3
        exact h3
      rw [h.mendC_eq (by omega) d r e he x hx hr] at q
      have q0 := q s.D (by omega) (by omega)
      have q1 := q (s.D + 1) (by omega) (by omega)
      have one := C4.scale_one e he
      have zr := C4.scale_zero_left
      have w1 : ∀ y, y < s.D → shareN s (s.D + 1) y = 2 ^ y := fun y hy => by unfold shareN wgt; rw [if_pos hy, if_neg (by omega)]
      have p0 : ∀ y, s.D ≤ y → ∀ p, p ≠ y → shareN s p y = 0 := fun y hy p hp => by unfold shareN; rw [if_neg (by omega), if_neg (fun e => hp e.symm)]
      have zs : ∀ n, C4.zero.scale n = C4.zero := fun n => by
        rw [← zr e]
        apply C4.ext'
        intro i _
        rw [C4.at_scale, C4.at_scale, Hd.zero_mul, Hd.mul_zero]
      by_cases hdD : d < s.D
      · rw [(share_self s d).1 hdD, one] at q0 q1
        rw [w1 d hdD] at q1
        have h2d : 2 ^ d < 256 := Nat.lt_of_le_of_lt (Nat.pow_le_pow_right (by omega) (by omega) : 2 ^ d ≤ 2 ^ 4) (by omega)
        have h2n : 2 ^ d ≠ 0 := Nat.pos_iff_ne_zero.1 (Nat.pow_pos (by omega))
        by_cases hxD : x < s.D
        · rw [if_neg (by omega), w1 x hxD] at q1
          have h3 : e.scale (2 ^ d ^^^ 2 ^ x) = C4.zero := by rw [← C4.scale_add, q1, C4.xor_self]
          have h4 := pow_ne d (by omega) x (by omega) (fun e => hxd e.symm)
          exact hne (scale_zero_inv he h4.2 h4.1 h3)
        · by_cases hx0 : x = s.D
          · subst hx0
            rw [p0 s.D (Nat.le_refl _) (s.D + 1) (by omega), zr] at q1
            exact hne (scale_zero_inv he h2d h2n q1)
          · rw [p0 x (by omega) s.D (fun e => hx0 e.symm), zr] at q0
            exact hne q0
      · by_cases hd0 : d = s.D
        · subst hd0
          rw [(share_self s s.D).2 (Nat.le_refl _), one] at q0 q1
          rw [p0 s.D (Nat.le_refl _) (s.D + 1) (by omega), zr] at q1
          by_cases hxD : x < s.D
          · rw [if_neg (by omega), w1 x hxD] at q1
            have h2d : 2 ^ x < 256 := Nat.lt_of_le_of_lt (Nat.pow_le_pow_right (by omega) (by omega) : 2 ^ x ≤ 2 ^ 4) (by omega)
            have h2n : 2 ^ x ≠ 0 := Nat.pos_iff_ne_zero.1 (Nat.pow_pos (by omega))
            exact hne (scale_zero_inv he h2d h2n q1.symm)
          · rw [p0 x (by omega) s.D (by omega), zr] at q0
            exact hne q0
        · have hd1 : d = s.D + 1 := by omega
          subst hd1
          rw [(share_self s (s.D + 1)).2 (by omega), one, p0 (s.D + 1) (by omega) s.D (by omega), zr] at q1
          by_cases hxD : s.D ≤ x
          · rw [if_pos hxD, p0 (s.D + 1) (by omega) x (by omega), zr, zs] at q1
            exact hne q1
          · rw [if_neg hxD, zs] at q1
            exact hne q1
    simpa using this
theorem explL_all (a : Ab) (r n : Nat) (h : ∀ x, x < n → explB a x r = true) : (explL a r n).length = n := by
  induction n with
  | zero => rfl
  | succ n ih =>
    simp only [explL]
    rw [h n (by omega), if_pos rfl, List.length_append, ih (fun x hx => h x (by omega))]
    rfl
theorem explL_one (a : Ab) (r d n : Nat) (h : ∀ x, x < n → explB a x r = decide (x = d)) : explL a r n = if d < n then [d] else [] := by
  induction n with
  | zero => rfl
  | succ n ih =>
    simp only [explL]
    rw [h n (by omega), ih (fun x hx => h x (by omega))]
    by_cases e : n = d
    · subst e
      rw [if_neg (Nat.lt_irrefl _), if_pos (Nat.lt_succ_self _)]
      simp
    · rw [decide_eq_false e]
      simp only [Bool.false_eq_true, if_false]
      by_cases h2 : d < n
      · rw [if_pos h2, if_pos (show d < n + 1 by omega)]
      · rw [if_neg h2, if_neg (show ¬ d < n + 1 by omega)]
end Go.Proofs.Ytfpoiikhhjdpdab
