/- The hoard without its lists' places: what its calls do; Write and Merge. -/
import Derived.Test.YtbjaiojajmdilaaBlocks
namespace Go.Proofs.Ytbjaiojajmdilaa
open Go.RowKit
set_option linter.unusedVariables false
attribute [local go_sem ↓] Go.wp_at_zero Go.wp_at_succ
structure Ab where
  D : Nat
  P : Nat
  R : Nat
  M : Nat
  cell : Nat → Nat → C4
  recs : Nat → List Rec
  steps : Nat
def St.ab (s : St) : Ab := ⟨s.D, s.P, s.R, s.M, s.cell, s.recs, s.steps⟩
def Ab.setCell (a : Ab) (d r : Nat) (c : C4) : Ab := { a with cell := fun d' r' => if d' = d ∧ r' = r then c else a.cell d' r' }
def Ab.setLog (a : Ab) (d : Nat) (l : List Rec) : Ab := { a with recs := fun d' => if d' = d then l else a.recs d' }
def Ab.addSteps (a : Ab) (n : Nat) : Ab := { a with steps := a.steps + n }
def abApply (a : Ab) (d : Nat) (l : List Rec) : Ab := l.foldl (fun a r => a.setCell d r.row ((a.cell d r.row).xor r.c)) a
def abNote (a : Ab) (d : Nat) (r : Rec) : Ab := if (a.recs d).length < a.M then a.setLog d (a.recs d ++ [r]) else (abApply a d ((a.recs d).take 1)).setLog d ((a.recs d).drop 1 ++ [r])
def abMerge (a : Ab) (d n : Nat) : Ab := (abApply a d ((a.recs d).take n)).setLog d ((a.recs d).drop n)
def wgtD (D d c : Nat) : Nat := if d = D then 1 else 2 ^ c
def abNoted (a : Ab) (c row : Nat) (x : C4) : Nat → Ab
  | 0 => a.addSteps 1
  | k + 1 => (abNote (abNoted a c row x k) (a.D + k) ⟨row, x.scale (wgtD a.D (a.D + k) c)⟩).addSteps 1
def abNew (a : Ab) (b fr n : Nat) (f : Nat → Nat) : C4 := (a.cell (b % a.D) (b / a.D)).overlay ((b : Int) * 4 - fr) n f
def C4.beq (x y : C4) : Bool := x.b0 == y.b0 && x.b1 == y.b1 && x.b2 == y.b2 && x.b3 == y.b3
theorem C4.beq_iff (x y : C4) : x.beq y = true ↔ x = y := by
  obtain ⟨x0, x1, x2, x3⟩ := x
  obtain ⟨y0, y1, y2, y3⟩ := y
  simp [C4.beq, and_assoc]
def abBlock (a : Ab) (b fr n : Nat) (f : Nat → Nat) : Ab :=
  bif (abNew a b fr n f).beq (a.cell (b % a.D) (b / a.D)) then a
  else ((abNoted a (b % a.D) (b / a.D) ((a.cell (b % a.D) (b / a.D)).xor (abNew a b fr n f)) a.P).setCell (b % a.D) (b / a.D) (abNew a b fr n f)).addSteps 2
def abBlocks (a : Ab) (fr n : Nat) (f : Nat → Nat) : Nat → Ab
  | 0 => a
  | m + 1 => abBlock (abBlocks a fr n f m) (fr / 4 + m) fr n f
def abWrite (a : Ab) (fr n : Nat) (f : Nat → Nat) : Ab := abBlocks a fr n f ((fr + n + 3) / 4 - fr / 4)
theorem ab_apply (s : St) (d : Nat) (l : List Rec) : (applyRecs s d l).ab = abApply s.ab d l := by
  induction l generalizing s with
  | nil => rfl
  | cons r l ih => exact ih (applyRec s d r)
theorem ab_note (s : St) (d : Nat) (r : Rec) (v : Value) : (noteS s d r v).ab = abNote s.ab d r := by
  unfold noteS abNote
  by_cases h : (s.recs d).length < s.M
  · rw [if_pos h, if_pos (show (s.ab.recs d).length < s.ab.M from h)]; rfl
  · rw [if_neg h, if_neg (show ¬ (s.ab.recs d).length < s.ab.M from h)]
    have : ∀ (t : St) l v, (t.setLog d l v).ab = t.ab.setLog d l := fun _ _ _ => rfl
    rw [this, ab_apply]; rfl
theorem ab_noted {s : St} {c row : Nat} {x : C4} {k : Nat} {s' : St} (h : notedTo s c row x k s') : s'.ab = abNoted s.ab c row x k := by
  induction k generalizing s' with
  | zero => rw [notedTo] at h; subst h; rfl
  | succ k ih =>
    obtain ⟨s1, v, h1, rfl⟩ := h
    have e := ih h1
    have e2 : (abNoted s.ab c row x (k + 1)) = (abNote (abNoted s.ab c row x k) (s.D + k) ⟨row, x.scale (wgt s (s.D + k) c)⟩).addSteps 1 := rfl
    have e3 : ∀ (t : St) (n : Nat), t.steps = n → (t.setSteps (n + 1)).ab = t.ab.addSteps 1 := by
      intro t n h; subst h; rfl
    rw [e2, ← e, ← ab_note s1 (s.D + k) ⟨row, x.scale (wgt s (s.D + k) c)⟩ v]
    exact e3 _ _ (noteS_inv _ _ _ _).2.2.2.2
theorem abNoted_inv (a : Ab) (c row : Nat) (x : C4) (k : Nat) : (abNoted a c row x k).D = a.D ∧ (abNoted a c row x k).P = a.P ∧ (abNoted a c row x k).R = a.R ∧ (abNoted a c row x k).M = a.M ∧ (abNoted a c row x k).steps = a.steps + 1 + k := by
  have key : ∀ (a : Ab) d l, (abApply a d l).D = a.D ∧ (abApply a d l).P = a.P ∧ (abApply a d l).R = a.R ∧ (abApply a d l).M = a.M ∧ (abApply a d l).steps = a.steps := by
    intro a d l
    induction l generalizing a with
    | nil => exact ⟨rfl, rfl, rfl, rfl, rfl⟩
    | cons r l ih => exact ih (a.setCell d r.row ((a.cell d r.row).xor r.c))
  have keyn : ∀ (a : Ab) d r, (abNote a d r).D = a.D ∧ (abNote a d r).P = a.P ∧ (abNote a d r).R = a.R ∧ (abNote a d r).M = a.M ∧ (abNote a d r).steps = a.steps := by
    intro a d r
    unfold abNote
    split
    · exact ⟨rfl, rfl, rfl, rfl, rfl⟩
    · exact key a d _
  induction k with
  | zero => exact ⟨rfl, rfl, rfl, rfl, rfl⟩
  | succ k ih =>
    obtain ⟨a1, a2, a3, a4, a5⟩ := ih
    obtain ⟨b1, b2, b3, b4, b5⟩ := keyn (abNoted a c row x k) (a.D + k) ⟨row, x.scale (wgtD a.D (a.D + k) c)⟩
    exact ⟨b1.trans a1, b2.trans a2, b3.trans a3, b4.trans a4, by show (abNote _ _ _).steps + 1 = _; rw [b5, a5]; omega⟩
theorem abBlock_inv (a : Ab) (b fr n : Nat) (f : Nat → Nat) : (abBlock a b fr n f).D = a.D ∧ (abBlock a b fr n f).P = a.P ∧ (abBlock a b fr n f).R = a.R ∧ (abBlock a b fr n f).M = a.M ∧ (abBlock a b fr n f).steps ≤ a.steps + 3 + a.P := by
  unfold abBlock
  cases hh : (abNew a b fr n f).beq (a.cell (b % a.D) (b / a.D))
  · obtain ⟨a1, a2, a3, a4, a5⟩ := abNoted_inv a (b % a.D) (b / a.D) ((a.cell (b % a.D) (b / a.D)).xor (abNew a b fr n f)) a.P
    exact ⟨a1, a2, a3, a4, by show (abNoted _ _ _ _ _).steps + 2 ≤ _; rw [a5]; omega⟩
  · exact ⟨rfl, rfl, rfl, rfl, by show a.steps ≤ _; omega⟩
theorem abBlocks_inv (a : Ab) (fr n : Nat) (f : Nat → Nat) (m : Nat) : (abBlocks a fr n f m).D = a.D ∧ (abBlocks a fr n f m).P = a.P ∧ (abBlocks a fr n f m).R = a.R ∧ (abBlocks a fr n f m).M = a.M ∧ (abBlocks a fr n f m).steps ≤ a.steps + m * (3 + a.P) := by
  induction m with
  | zero => exact ⟨rfl, rfl, rfl, rfl, by show a.steps ≤ _; omega⟩
  | succ m ih =>
    obtain ⟨a1, a2, a3, a4, a5⟩ := ih
    obtain ⟨b1, b2, b3, b4, b5⟩ := abBlock_inv (abBlocks a fr n f m) (fr / 4 + m) fr n f
    exact ⟨b1.trans a1, b2.trans a2, b3.trans a3, b4.trans a4, by show (abBlock _ _ _ _ _).steps ≤ _; rw [a2] at b5; rw [Nat.add_mul]; omega⟩
theorem overlay_ok {c : C4} {st : Int} {n : Nat} {f : Nat → Nat} (hc : c.ok) (hf : ∀ i, i < n → f i < 256) : (c.overlay st n f).ok := by
  apply C4.ok_of
  intro i hi
  rw [C4.overlay, C4.at_mk4 _ _ hi]
  unfold ovl
  split
  · exact hf _ (by omega)
  · exact C4.at_lt hc i
theorem BytesAt.kept {S : Nat → Prop} {w w' : World} {a : Option Addr} {n : Nat} {f : Nat → Nat} (h : BytesAt w a n f) (hk : Kept S w w') (hS : ∀ b o, a = some ⟨b, o, none⟩ → ¬ S b) : BytesAt w' a n f := by
  intro i hi
  obtain ⟨b, o, e, hc, hl⟩ := h i hi
  exact ⟨b, o, e, hk.cell (p := ⟨b, _, none⟩) (hS b o e) hc, hl⟩
/-- One block. -/
theorem writeBlock_any (hb : Nat) (s : St) (b a : Nat) (p : Option Addr) (n cap : Nat) (f : Nat → Nat) (w : World) (h : HoardAt w hb s) (hd : BytesAt w p n f) (hbl : b < s.D * s.R) (ha : a ≤ 96) (hn : n ≤ 96) (hst : s.steps ≤ 4611686018427387904) :
    Calls Try.prog 55 #[.pointer (some ⟨hb, 0, none⟩), .int .i64 b, .int .i64 a, .slice p n cap] w fun e w' => ∃ s', e = .returned (.tuple #[]) ∧ s'.ab = abBlock s.ab b a n f ∧ Went hb s w s' w' := by
  by_cases he : (s.cell (b % s.D) (b / s.D)).overlay (b * 4 - a) n f = s.cell (b % s.D) (b / s.D)
  · refine (writeBlock_same hb s b a p n cap f w h hd hbl ha hn he).mono fun e w' ⟨h1, h2⟩ => ⟨s, h1, ?_, Went.below h h2⟩
    have : (abNew s.ab b a n f).beq (s.ab.cell (b % s.ab.D) (b / s.ab.D)) = true := (C4.beq_iff _ _).2 he
    unfold abBlock; rw [this]; rfl
  · refine (writeBlock_diff hb s b a p n cap f w h hd hbl ha hn hst he (overlay_ok (h.ok.cells _ _) (fun i hi => (hd i hi).choose_spec.choose_spec.2.2))).mono fun e w' ⟨s1, h1, h2, h3⟩ => ⟨_, h1, ?_, h3⟩
    have : (abNew s.ab b a n f).beq (s.ab.cell (b % s.ab.D) (b / s.ab.D)) = false := by
      rw [Bool.eq_false_iff]; intro hh; exact he ((C4.beq_iff _ _).1 hh)
    have e := ab_noted h2
    unfold abBlock; rw [this]
    show _ = Ab.addSteps (Ab.setCell (abNoted s.ab (b % s.D) (b / s.D) ((s.cell (b % s.D) (b / s.D)).xor ((s.cell (b % s.D) (b / s.D)).overlay (b * 4 - a) n f)) s.P) (b % s.D) (b / s.D) ((s.cell (b % s.D) (b / s.D)).overlay (b * 4 - a) n f)) 2
    rw [← e]
    rfl
set_option maxRecDepth 100000 in
set_option maxHeartbeats 1000000 in
theorem Write_no (hb : Nat) (s : St) (a : Int) (p : Option Addr) (n cap : Nat) (w : World) (h : HoardAt w hb s) (ha : -9223372036854775808 ≤ a ∧ a ≤ 9223372036854775807) (hh : hasB s a n = false) :
    Calls Try.prog 35 #[.pointer (some ⟨hb, 0, none⟩), .int .i64 a, .slice p n cap] w fun e w' => e = .returned (.int .i64 4) ∧ Below w.heap.size w w' := by
  go_enter Try.func35, Try.ntmps35
  go_wp2_with fail
  refine (hasBytes_any hb s a n _ h ha).mono ?_
  rintro e w1 ⟨rfl, q, rfl⟩
  go_wp2_with fail
  go_ret
  exact ⟨rfl, below_drewN (Below.refl _ _) _⟩
set_option maxRecDepth 100000 in
set_option maxHeartbeats 1000000 in
theorem Write_ok (hb : Nat) (s : St) (a : Nat) (p : Option Addr) (n cap : Nat) (f : Nat → Nat) (w : World) (h : HoardAt w hb s) (hh : hasB s a n = true) (hd : BytesAt w p n f) (hF : ∀ b o, p = some ⟨b, o, none⟩ → ¬ Foot hb s b) (hFl : ∀ b o, p = some ⟨b, o, none⟩ → 0 < n → b < w.heap.size) (hst : s.steps ≤ 2305843009213693952) :
    Calls Try.prog 35 #[.pointer (some ⟨hb, 0, none⟩), .int .i64 a, .slice p n cap] w fun e w' => ∃ s', e = .returned (.int .i64 0) ∧ s'.ab = abWrite s.ab a n f ∧ Went hb s w s' w' := by
  have hal := all_le s h.ok
  have hh1 := hh
  simp only [hasB, decide_eq_true_eq] at hh1
  have han : a + n ≤ 96 := by omega
  have HAN : Hid (a + n ≤ s.D * s.R * 4) := (show _ ≤ _ by
    have h2 := hh1.2.2
    have : ((s.D * s.R : Nat) : Int) = (s.D : Int) * s.R := by simp
    omega)
  have hP := h.ok.P2
  have HH : Hid (HoardAt w hb s) := h
  have HD : Hid (BytesAt w p n f) := hd
  have HF : Hid (∀ b o, p = some ⟨b, o, none⟩ → ¬ Foot hb s b) := hF
  clear h hd hF hh1 hal hFl
  go_enter Try.func35, Try.ntmps35
  go_wp2_with fail
  refine (hasBytes_any hb s a n _ HH.out (by omega)).mono ?_
  rintro e w1 ⟨rfl, q, rfl⟩
  have k1 : Went hb s w s (w.drewN q) := Went.below HH.out (below_drewN (Below.refl _ _) q)
  generalize w.drewN q = w1 at *
  go_wp2_with fail
  go_loopw [8] (fun j wr => ∃ (m bb : Nat) (s1 : St), m ≤ (a + n + 3) / 4 - a / 4 ∧ Hid (bb = a / 4 + m) ∧ bb ≤ 24 ∧ j = .int .i64 bb ∧ Hid (s1.ab = abBlocks s.ab a n f m) ∧ Went hb s w s1 wr) (fun j _ => 25 - (intOf j).toNat)
  case atStart => exact ⟨0, a / 4, s, by omega, rfl, by omega, by go_num, rfl, k1⟩
  case round =>
    obtain ⟨m, bb, s1, hm, hbb, hb24, rfl, hab, hw⟩ := hrel
    have hbe := hbb.out
    by_cases hlt : bb * 4 < a + n
    · have hinv := abBlocks_inv s.ab a n f m
      rw [← hab.out] at hinv
      have i1 : s1.D = s.D := hinv.1
      have i2 : s1.R = s.R := hinv.2.2.1
      have i3 : s1.steps ≤ s.steps + m * (3 + s.P) := hinv.2.2.2.2
      have hm25 : m ≤ 25 := by omega
      have hms : m * (3 + s.P) ≤ 25 * 5 := Nat.mul_le_mul hm25 (by omega)
      have hbs : s1.steps ≤ 4611686018427387904 := by omega
      have hdr : bb < s1.D * s1.R := by rw [i1, i2]; have := HAN.out; omega
      have hbb23 : bb < 24 := by omega
      have HDR : Hid (bb < s1.D * s1.R) := hdr
      have HBS : Hid (s1.steps ≤ 4611686018427387904) := hbs
      have hmn : m + 1 ≤ (a + n + 3) / 4 - a / 4 := by omega
      clear hinv i1 i2 i3 hms hbs hdr hbe k1
      go_wp2_with fail
      refine (writeBlock_any hb s1 bb a p n cap f wr hw.at' (HD.out.kept hw.kept HF.out) HDR.out (by omega) (by omega) HBS.out).mono ?_
      rintro e w2 ⟨s2, rfl, hab2, hw2⟩
      go_wp2_with fail
      refine ⟨⟨m + 1, bb + 1, s2, hmn, (show bb + 1 = _ by have := hbb.out; omega), by omega, by go_num, ?_, hw.trans hw2⟩, by simp [intOf]; omega⟩
      show s2.ab = abBlock (abBlocks s.ab a n f m) (a / 4 + m) a n f
      rw [hab2, hab.out, hbb.out]
    · have hmm : m = (a + n + 3) / 4 - a / 4 := by omega
      have HMM : Hid (m = (a + n + 3) / 4 - a / 4) := hmm
      have hlt' : ¬ ((bb : Int) * 4 < (a : Int) + n) := by omega
      clear hmm k1 hbe
      go_wp2_with fail
      go_ret
      have e1 : s1.ab = abWrite s.ab a n f := by rw [hab.out, abWrite, ← HMM.out]
      first | exact ⟨s1, rfl, e1, hw⟩ | exact ⟨rfl, s1, e1, hw⟩
set_option maxRecDepth 100000 in
set_option maxHeartbeats 1000000 in
theorem Merge_no (hb : Nat) (s : St) (d n : Int) (w : World) (h : HoardAt w hb s) (hd : isParityB s d = false) :
    Calls Try.prog 26 #[.pointer (some ⟨hb, 0, none⟩), .int .i64 d, .int .i64 n] w fun e w' => e = .returned (.tuple #[.int .i64 0, .int .i64 6]) ∧ Below w.heap.size w w' := by
  go_enter Try.func26, Try.ntmps26
  go_wp2_with fail
  refine (isParity_b hb s d _ h).mono ?_
  rintro e w1 ⟨rfl, k1, h1⟩
  go_wp2_with fail
  go_ret2
  exact ⟨rfl, k1⟩
set_option maxRecDepth 100000 in
set_option maxHeartbeats 1000000 in
theorem Merge_arg (hb : Nat) (s : St) (d n : Int) (w : World) (h : HoardAt w hb s) (hd : isParityB s d = true) (hn : n < 1) :
    Calls Try.prog 26 #[.pointer (some ⟨hb, 0, none⟩), .int .i64 d, .int .i64 n] w fun e w' => e = .returned (.tuple #[.int .i64 0, .int .i64 1]) ∧ Below w.heap.size w w' := by
  go_enter Try.func26, Try.ntmps26
  go_wp2_with fail
  refine (isParity_b hb s d _ h).mono ?_
  rintro e w1 ⟨rfl, k1, h1⟩
  go_wp2_with fail
  go_ret2
  exact ⟨rfl, k1⟩
set_option maxRecDepth 100000 in
set_option maxHeartbeats 1000000 in
theorem Merge_ok (hb : Nat) (s : St) (d n : Nat) (w : World) (h : HoardAt w hb s) (hd : isParityB s d = true) (hn : 1 ≤ n) (hn2 : n ≤ 9223372036854775807) :
    Calls Try.prog 26 #[.pointer (some ⟨hb, 0, none⟩), .int .i64 d, .int .i64 n] w fun e w' => ∃ s', e = .returned (.tuple #[.int .i64 (min n (s.recs d).length : Nat), .int .i64 0]) ∧ s'.ab = abMerge s.ab d n ∧ Went hb s w s' w' := by
  have hd1 := hd
  simp only [isParityB, decide_eq_true_eq] at hd1
  have hD := h.ok.D4
  have hP := h.ok.P2
  have hd6 : d < 6 := by omega
  have hdi : (d : Int) < 6 := by omega
  have hpd : s.D ≤ d := by omega
  generalize hmn : min n (s.recs d).length = mn at *
  have HMN : Hid (min n (s.recs d).length = mn) := hmn
  have HH : Hid (HoardAt w hb s) := h
  clear h hd1 hmn
  go_enter Try.func26, Try.ntmps26
  go_wp2_with fail
  refine (isParity_b hb s d _ HH.out).mono ?_
  rintro e w1 ⟨rfl, k1, h1⟩
  go_wp2_with fail
  refine (dmerge_any hb s d n _ h1 hd6 hpd (by omega) (by omega)).mono ?_
  rw [HMN.out]
  rintro e w2 ⟨v, rfl, h2, k2, f2⟩
  have ww : Went hb s w ((applyRecs s d ((s.recs d).take n)).setLog d ((s.recs d).drop n) v) w2 := (Went.below HH.out k1).trans ⟨h2, k2.mono (fun i hi => .inl hi), fun k hk => by
    rcases foot_setLog hk with h3 | h3
    · exact .inl (foot_apply h3)
    · exact .inr (f2 k h3)⟩
  have e1 : ((applyRecs s d ((s.recs d).take n)).setLog d ((s.recs d).drop n) v).ab = abMerge s.ab d n := by
    have : ∀ (t : St) l v, (t.setLog d l v).ab = t.ab.setLog d l := fun _ _ _ => rfl
    rw [this, ab_apply]; rfl
  have WW : Hid (Went hb s w ((applyRecs s d ((s.recs d).take n)).setLog d ((s.recs d).drop n) v) w2) := ww
  have E1 : Hid (((applyRecs s d ((s.recs d).take n)).setLog d ((s.recs d).drop n) v).ab = abMerge s.ab d n) := e1
  clear ww e1 h2 k2 f2 h1
  go_wp2_with fail
  go_ret2
  first | exact ⟨_, rfl, E1.out, WW.out⟩ | exact ⟨rfl, _, E1.out, WW.out⟩
end Go.Proofs.Ytbjaiojajmdilaa
