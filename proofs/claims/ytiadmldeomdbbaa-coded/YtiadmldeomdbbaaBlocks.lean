/- A block is written. -/
import Derived.Test.YtiadmldeomdbbaaAbWrite
import Derived.Test.YtiadmldeomdbbaaLays
namespace Go.Proofs.Ytiadmldeomdbbaa
open Go.RowKit
set_option linter.unusedVariables false
attribute [local go_sem ↓] Go.wp_at_zero Go.wp_at_succ
theorem ab_apply (s : St) (d : Nat) (l : List Rec) : (applyRecs s d l).toAb = abApply s.toAb d l := by
  induction l generalizing s with
  | nil => rfl
  | cons r l ih => exact ih (applyRec s d r)
theorem ab_note (s : St) (d : Nat) (r : Rec) (v : Value) : (noteS s d r v).toAb = abNote s.toAb d r := by
  unfold noteS abNote
  by_cases h : (s.recs d).length < s.M
  · rw [if_pos h, if_pos h]; rfl
  · rw [if_neg h, if_neg h]
    show (applyRecs s d _).toAb.setLog d _ = _
    rw [ab_apply]
theorem ab_merge (s : St) (d n : Nat) (v : Value) : ((applyRecs s d ((s.recs d).take n)).setLog d ((s.recs d).drop n) v).toAb = abMerge s.toAb d n := by
  show (applyRecs s d _).toAb.setLog d _ = _
  rw [ab_apply]; rfl
theorem noteS_steps (s : St) (d : Nat) (r : Rec) (v : Value) : (noteS s d r v).steps = s.steps := by
  have := (note_props s.toAb d r).2.2.2.1
  rw [← ab_note s d r v] at this; exact this
theorem eqCell (a b c d x y z t : Int) (w : World) : (Op.equalIn 10000 57 (.agg #[.int .u8 a, .int .u8 b, .int .u8 c, .int .u8 d]) (.agg #[.int .u8 x, .int .u8 y, .int .u8 z, .int .u8 t])).run Try.prog w = .ok (a == x && b == y && c == z && d == t) w := by
  have u3 := Try.underlying5
  have a3 := Try.isAgg5
  have z3 := Try.sizeOf5
  rw [show (10000 : Nat) = 9999 + 1 from rfl, Op.equalIn]
  simp only [Sem.run_bind, run_underlying Try.underlying57, Result.andThen_ok]
  simp only [Std.Legacy.Range.forIn_eq_forIn_range', Std.Legacy.Range.size, Nat.sub_zero, Nat.add_sub_cancel, Nat.div_one, List.range'_succ, List.range'_zero, List.forIn_cons, List.forIn_nil]
  go_simp
  by_cases h1 : a = x <;> by_cases h2 : b = y <;> by_cases h3 : c = z <;> by_cases h4 : d = t <;> simp [h1, h2, h3, h4]
set_option maxRecDepth 100000 in
set_option maxHeartbeats 2000000 in
theorem writeBlock_same (hb : Nat) (s : St) (b a : Nat) (p : Option Addr) (n cap : Nat) (f : Nat → Nat) (w : World) (h : HoardAt w hb s) (hd : BytesAt w p n f) (hbl : b < s.D * s.R) (ha : a ≤ 96) (hn : n ≤ 96)
    (he : abNew s b a n f = holdC s (b % s.D) (b / s.D)) :
    Calls Try.prog 49 #[.pointer (some ⟨hb, 0, none⟩), .int .i64 b, .int .i64 a, .slice p n cap] w fun e w' => e = .returned (.tuple #[]) ∧ Below w.heap.size w w' := by
  have hD := h.ok.D4
  have hD1 := h.ok.D1
  have hR := h.ok.R6
  have hb24 : b < 24 := Nat.lt_of_lt_of_le hbl (Nat.mul_le_mul hD hR)
  have hc4 : b % s.D < 4 := by have := Nat.mod_lt b (show 0 < s.D by omega); omega
  have hr6 : b / s.D < 6 := by
    have : b / s.D < s.R := Nat.div_lt_of_lt_mul hbl
    omega
  have HH : Hid (HoardAt w hb s) := h
  have HD : Hid (BytesAt w p n f) := hd
  have HE : Hid ((holdC s (b % s.D) (b / s.D)).overlay ((b : Int) * 4 - a) n f = holdC s (b % s.D) (b / s.D)) := he
  have HPL : Hid (∀ W, HoardAt W hb s → Calls Try.prog 50 #[.pointer (some ⟨hb, 0, none⟩), .int .i64 b] W fun e w' => e = .returned (.tuple #[.int .i64 (b % s.D : Nat), .int .i64 (b / s.D : Nat)]) ∧ ∃ n, w' = W.drewN n) := fun W hW => place_any hb s b W hW (by omega)
  have HHO : Hid (∀ W, HoardAt W hb s → Calls Try.prog 51 #[.pointer (some ⟨hb, 0, none⟩), .int .i64 (b % s.D : Nat), .int .i64 (b / s.D : Nat)] W fun e w' => e = .returned (holdC s (b % s.D) (b / s.D)).val ∧ Below W.heap.size W w') := fun W hW => holds_any hb s _ _ W hW hc4 hr6
  have HOV : Hid (∀ W, BytesAt W p n f → Calls Try.prog 59 #[(holdC s (b % s.D) (b / s.D)).val, .int .i64 ((b : Int) * 4 - a), .slice p n cap] W fun e w' => e = .returned (((holdC s (b % s.D) (b / s.D)).overlay ((b : Int) * 4 - a) n f).val) ∧ Below W.heap.size W w') := fun W hW => overlay_any _ _ p n cap f W (by omega) (by omega) hW
  rw [HE.out] at HOV
  clear h hd he hbl HE
  generalize holdC s (b % s.D) (b / s.D) = cl at *
  generalize b % s.D = c at *
  generalize b / s.D = r at *
  unfold C4.val at HHO HOV
  go_enter Try.func49, Try.ntmps49
  go_wp2_with fail
  refine (HPL.out _ HH.out).mono ?_
  rintro e w1 ⟨rfl, q, rfl⟩
  have h1 := HH.out.drewN q
  have k1 : Below w.heap.size w (w.drewN q) := below_drewN (Below.refl _ _) q
  generalize w.drewN q = w1 at *
  go_wp2_with fail
  refine (HHO.out _ h1).mono ?_
  rintro e w2 ⟨rfl, k2⟩
  have K2 : Below w.heap.size w w2 := k1.trans (k2.mono k1.size)
  have K3 : Below w.heap.size w (w2.alloc (.cells #[.int .u8 cl.b0, .int .u8 cl.b1, .int .u8 cl.b2, .int .u8 cl.b3] 57)) := K2.alloc K2.size _
  have B3 : Hid (BoxAt (w2.alloc (.cells #[.int .u8 cl.b0, .int .u8 cl.b1, .int .u8 cl.b2, .int .u8 cl.b3] 57)) w2.heap.size cl) := BoxAt.new _ _ _ rfl
  clear h1 k1 k2
  go_wp2_with fail
  generalize w2.alloc (.cells #[.int .u8 cl.b0, .int .u8 cl.b1, .int .u8 cl.b2, .int .u8 cl.b3] 57) = w3 at *
  clear K2
  generalize w2.heap.size = xb at *
  refine (HOV.out _ (HD.out.below K3 (Nat.le_refl _))).mono ?_
  rintro e w4 ⟨rfl, k4⟩
  have K4 : Below w.heap.size w w4 := K3.trans (k4.mono K3.size)
  obtain ⟨y0, y1, y2, y3⟩ := (B3.out.below k4).cells
  have hyl := (B3.out.below k4).lt
  clear k4
  have heq : ∀ w, (Op.equalIn 10000 57 (.agg #[.int .u8 cl.b0, .int .u8 cl.b1, .int .u8 cl.b2, .int .u8 cl.b3]) (.agg #[.int .u8 cl.b0, .int .u8 cl.b1, .int .u8 cl.b2, .int .u8 cl.b3])).run Try.prog w = .ok true w := fun w => by rw [eqCell]; simp
  go_wp2_with fail
  exact bodyPost_ret (v := .tuple #[]) (by simp [results, Try.results49, go_sem]) rfl ⟨rfl, K4.alloc K4.size _⟩
set_option maxRecDepth 100000 in
set_option maxHeartbeats 4000000 in
theorem writeBlock_diff (hb : Nat) (s : St) (b a : Nat) (p : Option Addr) (n cap : Nat) (f : Nat → Nat) (w : World) (h : HoardAt w hb s) (hd : BytesAt w p n f) (hbl : b < s.D * s.R) (ha : a ≤ 96) (hn : n ≤ 96) (hst : s.steps ≤ 4611686018427387904)
    (he : abNew s b a n f ≠ holdC s (b % s.D) (b / s.D)) (hok : (abNew s b a n f).ok) :
    Calls Try.prog 49 #[.pointer (some ⟨hb, 0, none⟩), .int .i64 b, .int .i64 a, .slice p n cap] w fun e w' => ∃ s', e = .returned (.tuple #[]) ∧ s'.toAb = abBlock s.toAb b a n f ∧ Went hb s w s' w' := by
  have hD := h.ok.D4
  have hD1 := h.ok.D1
  have hR := h.ok.R6
  have hb24 : b < 24 := Nat.lt_of_lt_of_le hbl (Nat.mul_le_mul hD hR)
  have hc4 : b % s.D < 4 := by have := Nat.mod_lt b (show 0 < s.D by omega); omega
  have hr6 : b / s.D < 6 := by
    have : b / s.D < s.R := Nat.div_lt_of_lt_mul hbl
    omega
  have HH : Hid (HoardAt w hb s) := h
  have HD : Hid (BytesAt w p n f) := hd
  have hrR : b / s.D < s.R := Nat.div_lt_of_lt_mul hbl
  have hcD : b % s.D < s.D := Nat.mod_lt b (by omega)
  have hP := h.ok.P2
  have hP1 := h.ok.P1
  have hok1 := holdC_ok h.ok (b % s.D) (b / s.D)
  have HBL : Hid (abBlock s.toAb b a n f = (abLaid (abNoted s (b % s.D) (b / s.D) ((holdC s (b % s.D) (b / s.D)).xor (abNew s b a n f)) s.P) (b % s.D) (b / s.D) (abNew s b a n f)).addSteps 1) := by
    show _ = _
    unfold abBlock
    rw [if_neg (fun hh => he ((C4.beq_iff _ _).1 hh))]
  have HPL : Hid (∀ W, HoardAt W hb s → Calls Try.prog 50 #[.pointer (some ⟨hb, 0, none⟩), .int .i64 b] W fun e w' => e = .returned (.tuple #[.int .i64 (b % s.D : Nat), .int .i64 (b / s.D : Nat)]) ∧ ∃ n, w' = W.drewN n) := fun W hW => place_any hb s b W hW (by omega)
  have HHO : Hid (∀ W, HoardAt W hb s → Calls Try.prog 51 #[.pointer (some ⟨hb, 0, none⟩), .int .i64 (b % s.D : Nat), .int .i64 (b / s.D : Nat)] W fun e w' => e = .returned (holdC s (b % s.D) (b / s.D)).val ∧ Below W.heap.size W w') := fun W hW => holds_any hb s _ _ W hW hc4 hr6
  have HOV : Hid (∀ W, BytesAt W p n f → Calls Try.prog 59 #[(holdC s (b % s.D) (b / s.D)).val, .int .i64 ((b : Int) * 4 - a), .slice p n cap] W fun e w' => e = .returned (((holdC s (b % s.D) (b / s.D)).overlay ((b : Int) * 4 - a) n f).val) ∧ Below W.heap.size W w') := fun W hW => overlay_any _ _ p n cap f W (by omega) (by omega) hW
  have HOV : Hid (∀ W, BytesAt W p n f → Calls Try.prog 59 #[(holdC s (b % s.D) (b / s.D)).val, .int .i64 ((b : Int) * 4 - a), .slice p n cap] W fun e w' => e = .returned ((abNew s b a n f).val) ∧ Below W.heap.size W w') := HOV
  generalize abNew s b a n f = nw at *
  clear h hd hbl
  generalize holdC s (b % s.D) (b / s.D) = cl at *
  generalize b % s.D = c at *
  generalize b / s.D = r at *
  unfold C4.val at HHO HOV
  go_enter Try.func49, Try.ntmps49
  go_wp2_with fail
  refine (HPL.out _ HH.out).mono ?_
  rintro e w1 ⟨rfl, q, rfl⟩
  have h1 := HH.out.drewN q
  have k1 : Below w.heap.size w (w.drewN q) := below_drewN (Below.refl _ _) q
  generalize w.drewN q = w1 at *
  go_wp2_with fail
  refine (HHO.out _ h1).mono ?_
  rintro e w2 ⟨rfl, k2⟩
  have K2 : Below w.heap.size w w2 := k1.trans (k2.mono k1.size)
  have K3 : Below w.heap.size w (w2.alloc (.cells #[.int .u8 cl.b0, .int .u8 cl.b1, .int .u8 cl.b2, .int .u8 cl.b3] 57)) := K2.alloc K2.size _
  have B3 : Hid (BoxAt (w2.alloc (.cells #[.int .u8 cl.b0, .int .u8 cl.b1, .int .u8 cl.b2, .int .u8 cl.b3] 57)) w2.heap.size cl) := BoxAt.new _ _ _ rfl
  clear h1 k1 k2
  go_wp2_with fail
  generalize w2.alloc (.cells #[.int .u8 cl.b0, .int .u8 cl.b1, .int .u8 cl.b2, .int .u8 cl.b3] 57) = w3 at *
  clear K2
  generalize w2.heap.size = xb at *
  refine (HOV.out _ (HD.out.below K3 (Nat.le_refl _))).mono ?_
  rintro e w4 ⟨rfl, k4⟩
  have K4 : Below w.heap.size w w4 := K3.trans (k4.mono K3.size)
  obtain ⟨y0, y1, y2, y3⟩ := (B3.out.below k4).cells
  have hyl := (B3.out.below k4).lt
  clear k4
  have hneq : ((nw.b0 : Int) == (cl.b0 : Int) && (nw.b1 : Int) == (cl.b1 : Int) && (nw.b2 : Int) == (cl.b2 : Int) && (nw.b3 : Int) == (cl.b3 : Int)) = false := by
    rw [Bool.eq_false_iff]
    intro hh
    simp only [Bool.and_eq_true, beq_iff_eq] at hh
    refine he ?_
    obtain ⟨n0, n1, n2, n3⟩ := nw
    obtain ⟨c0, c1, c2, c3⟩ := cl
    simp only at hh
    simp only [C4.mk.injEq]
    omega
  have heq : ∀ w, (Op.equalIn 10000 57 (.agg #[.int .u8 nw.b0, .int .u8 nw.b1, .int .u8 nw.b2, .int .u8 nw.b3]) (.agg #[.int .u8 cl.b0, .int .u8 cl.b1, .int .u8 cl.b2, .int .u8 cl.b3])).run Try.prog w = .ok false w := fun w => by rw [eqCell, hneq]
  have h4 := HH.out.below K4
  have hs4 := h4.stepsAt
  have hsf4 := h4.row.frozen 196
  have hlt4 := h4.row.lt
  have HADD : Hid (∀ W, Calls Try.prog 56 #[.agg #[.int .u8 cl.b0, .int .u8 cl.b1, .int .u8 cl.b2, .int .u8 cl.b3], .agg #[.int .u8 nw.b0, .int .u8 nw.b1, .int .u8 nw.b2, .int .u8 nw.b3]] W fun e w' => e = .returned (cl.xor nw).val ∧ Below W.heap.size W w') := fun W => Add_any cl nw W hok1 hok
  have H4 : Hid (HoardAt w4 hb s) := h4
  have HX : Hid ((cl.xor nw).ok) := C4.xor_ok hok1 hok
  have HOKN : Hid (nw.ok) := hok
  clear hneq h4 he hok hok1
  generalize cl.xor nw = x at *
  unfold C4.val at HADD
  go_wp2_with fail
  refine (HADD.out _).mono ?_
  rintro e w5 ⟨rfl, k5⟩
  have hsA : HoardAt (w4.setCell ⟨hb, 196, none⟩ (.int .i64 ((s.steps : Int) + 1))) hb (s.setSteps (s.steps + 1)) := H4.out.setSteps (s.steps + 1)
  have h5 := (hsA.below ((Below.refl _ _).alloc (Nat.le_refl _) (.cells #[.int .u8 nw.b0, .int .u8 nw.b1, .int .u8 nw.b2, .int .u8 nw.b3] 57))).below k5
  have B5 : BoxAt w5 w4.heap.size nw := (BoxAt.new _ nw _ (by simp)).below k5
  have h6 := h5.below ((Below.refl _ _).alloc (Nat.le_refl _) (.cells #[.int .u8 x.b0, .int .u8 x.b1, .int .u8 x.b2, .int .u8 x.b3] 57))
  have B6 : Hid (BoxAt (w5.alloc (.cells #[.int .u8 x.b0, .int .u8 x.b1, .int .u8 x.b2, .int .u8 x.b3] 57)) w4.heap.size nw) := B5.alloc _
  have X6 : Hid (BoxAt (w5.alloc (.cells #[.int .u8 x.b0, .int .u8 x.b1, .int .u8 x.b2, .int .u8 x.b3] 57)) w5.heap.size x) := BoxAt.new _ _ _ rfl
  have hz5 : w4.heap.size < w5.heap.size := B5.lt
  have W6 : Went hb s w (s.setSteps (s.steps + 1)) (w5.alloc (.cells #[.int .u8 x.b0, .int .u8 x.b1, .int .u8 x.b2, .int .u8 x.b3] 57)) := by
    refine (Went.below HH.out K4).trans ⟨h6, ?_, fun k hk => .inl hk⟩
    exact ((((Kept.refl (Foot hb s) w4).setCell (.inl (.inl rfl)) _).alloc _).trans' (Kept.of_below (S := fun _ => False) k5) (fun _ h => h.elim)).alloc _
  have HFL : Hid (∀ k, Foot hb (s.setSteps (s.steps + 1)) k → k < w4.heap.size) := fun k hk => H4.out.foot_lt hk
  obtain ⟨sh0, sh1, sh2, sh3⟩ := h6.shape
  have hlt6 := h6.row.lt
  have H6 : Hid (HoardAt (w5.alloc (.cells #[.int .u8 x.b0, .int .u8 x.b1, .int .u8 x.b2, .int .u8 x.b3] 57)) hb (s.setSteps (s.steps + 1))) := h6
  have HW6 : Hid (Went hb s w (s.setSteps (s.steps + 1)) (w5.alloc (.cells #[.int .u8 x.b0, .int .u8 x.b1, .int .u8 x.b2, .int .u8 x.b3] 57))) := W6
  clear k5 hsA h5 h6 W6 hs4 hsf4 y0 y1 y2 y3 heq hlt4 HADD K4 K3 B3 hyl B5 sh2 sh3
  simp only [St.setSteps] at sh0 sh1
  go_wp2_with fail
  generalize w5.alloc (.cells #[.int .u8 x.b0, .int .u8 x.b1, .int .u8 x.b2, .int .u8 x.b3] 57) = w6 at *
  generalize w5.heap.size = cb at *
  generalize w4.heap.size = ab at *
  have hcb := X6.out.lt
  have HFL2 : Hid (∀ s1 wr, Went hb (s.setSteps (s.steps + 1)) w6 s1 wr → BoxAt wr cb x ∧ BoxAt wr ab nw) := by
    intro s1 wr hw
    exact ⟨hw.kept.row (fun hf => by have := HFL.out _ hf; omega) X6.out, hw.kept.row (fun hf => by have := HFL.out _ hf; omega) B6.out⟩
  go_loopw [13] (fun j wr => ∃ (k : Nat) (s1 : St) (dd : Nat), k ≤ s.P ∧ Hid (dd = s.D + k) ∧ dd ≤ s.D + s.P ∧ j = .int .i64 dd ∧ Hid (s1.toAb = abNoted s c r x k) ∧ Went hb (s.setSteps (s.steps + 1)) w6 s1 wr) (fun j _ => (s.D + s.P) - (intOf j).toNat)
  case atStart =>
    exact ⟨0, s.setSteps (s.steps + 1), s.D, by omega, rfl, by omega, rfl, rfl, Went.below H6.out (Below.refl _ _)⟩
  case round =>
    obtain ⟨k, s1, dd, hk, hdd, hdl, rfl, hab, hw⟩ := hrel
    have hnp := noted_props s.toAb c r x k
    have i1 : s1.D = s.D := by show s1.toAb.D = _; rw [hab.out]; exact hnp.1.D
    have i2 : s1.P = s.P := by show s1.toAb.P = _; rw [hab.out]; exact hnp.1.P
    have i3 : s1.R = s.R := by show s1.toAb.R = _; rw [hab.out]; exact hnp.1.R
    have i4 : s1.lost = s.lost := by show s1.toAb.lost = _; rw [hab.out]; exact hnp.2.1
    have i6 : ∀ d r, avB s1 d r = avB s d r := fun d r => by rw [hab.out]; exact avB_congr hnp.2.1 hnp.2.2.1 d r
    have i5 : s1.steps ≤ s.steps + 1 + k := by
      show s1.toAb.steps ≤ _
      rw [hab.out, hnp.2.2.2.1]
      have := parL_len s.toAb r k
      unfold parN; omega
    clear hnp
    obtain ⟨t0, t1, _, _⟩ := hw.at'.shape
    rw [i1] at t0
    rw [i2] at t1
    have hltr := hw.at'.row.lt
    obtain ⟨X7, B7⟩ := HFL2.out s1 wr hw
    have HW : Hid (Went hb (s.setSteps (s.steps + 1)) w6 s1 wr) := hw
    by_cases hlt : dd < s.D + s.P
    · have hki : (dd : Int) < (s.D : Int) + s.P := by omega
      have hk6 : (dd : Int) < 6 := by omega
      have hkp : k + 1 ≤ s.P := by have := hdd.out; omega
      have HDD : Hid (dd + 1 = s.D + (k + 1)) := (show _ = _ by have := hdd.out; omega)
      have HAV : Hid (∀ q, Calls Try.prog 40 #[.pointer (some ⟨hb, 4 + dd * 32, none⟩), .int .i64 r] (wr.drewN q) fun e w' => e = .returned (.bool (avB s dd r)) ∧ w' = wr.drewN q) := fun q => by
        have := has_any hb s1 dd r _ (hw.at'.drewN q) (by omega) hr6
        rw [i6] at this; exact this
      cases hav : avB s dd r
      · rw [hav] at HAV
        have HN : Hid (s1.toAb = abNoted s c r x (k + 1)) := (show _ = _ by simp only [abNoted]; rw [← hdd.out, hav]; exact hab.out)
        clear hw X7 B7 hab
        go_wp2_with fail
        go_quiet (fail)
        go_wp2_with fail
        refine (HAV.out _).mono ?_
        rintro e w7 ⟨rfl, rfl⟩
        go_wp2_with fail
        exact ⟨⟨k + 1, s1, dd + 1, hkp, HDD, by omega, by go_num, HN, HW.out.trans (Went.below HW.out.at' (below_drewN (Below.refl _ _) _))⟩, by simp [intOf]; omega⟩
      · rw [hav] at HAV
        have HNC : Hid (∀ W, HoardAt W hb s1 → Calls Try.prog 60 #[.pointer (some ⟨hb, 0, none⟩), .int .i64 dd, .int .i64 c, .int .i64 r, .agg #[.int .u8 x.b0, .int .u8 x.b1, .int .u8 x.b2, .int .u8 x.b3]] W fun e w' => ∃ v', e = .returned (.tuple #[]) ∧ Went hb s1 W (noteS s1 dd ⟨r, x.scale (wgt s1 dd c)⟩ v') w') := fun W hW => noteChange_any hb s1 dd c r x W hW (by omega) (by rw [i1]; have := hdd.out; omega) hc4 (by rw [i3]; exact hrR) HX.out
        have HN : Hid (∀ v, ((noteS s1 dd ⟨r, x.scale (wgt s1 dd c)⟩ v).setSteps (s1.steps + 1)).toAb = abNoted s c r x (k + 1)) := by
          intro v
          have e1 : wgt s1 dd c = wgt s (s.D + k) c := by unfold wgt; rw [i1, hdd.out]
          have e2 := noteS_steps s1 dd ⟨r, x.scale (wgt s1 dd c)⟩ v
          have e3 : ((noteS s1 dd ⟨r, x.scale (wgt s1 dd c)⟩ v).setSteps (s1.steps + 1)).toAb = (noteS s1 dd ⟨r, x.scale (wgt s1 dd c)⟩ v).toAb.addSteps 1 := by
            rw [← e2]; rfl
          rw [e3, ab_note, e1, hab.out]
          simp only [abNoted]
          rw [← hdd.out, hav]
          rfl
        have hs1b : s1.steps ≤ 4611686018427387910 := by omega
        obtain ⟨x0, x1, x2, x3⟩ := X7.cells
        clear hw X7 B7 hab
        go_wp2_with fail
        go_quiet (fail)
        go_wp2_with fail
        refine (HAV.out _).mono ?_
        rintro e w7 ⟨rfl, rfl⟩
        go_wp2_with fail
        refine (HNC.out _ (HW.out.at'.drewN nq)).mono ?_
        rintro e w8 ⟨v8, rfl, went⟩
        have hs8 := went.at'.stepsAt
        rw [noteS_steps] at hs8
        have hf8 := went.at'.row.frozen 196
        have hlt8 := went.at'.row.lt
        have HWE : Hid (Went hb s1 (wr.drewN nq) (noteS s1 dd ⟨r, x.scale (wgt s1 dd c)⟩ v8) w8) := went
        clear went t0 t1 x0 x1 x2 x3
        go_wp2_with fail
        refine ⟨⟨k + 1, (noteS s1 dd ⟨r, x.scale (wgt s1 dd c)⟩ v8).setSteps (s1.steps + 1), dd + 1, hkp, HDD, by omega, by go_num, HN.out v8, ?_⟩, by simp [intOf]; omega⟩
        refine HW.out.trans ((Went.below HW.out.at' (below_drewN (Below.refl _ _) nq)).trans (HWE.out.trans ⟨HWE.out.at'.setSteps (s1.steps + 1), ?_, fun k hk => .inl hk⟩))
        exact (Kept.refl _ _).setCell (.inl (.inl rfl)) _
    · have hkP : k = s.P := by have := hdd.out; omega
      subst hkP
      have hdl' : ¬ ((dd : Int) < (s.D : Int) + s.P) := by omega
      have hci : (c : Int) < 6 := by omega
      have hlo := hw.at'.lostAt c (by omega)
      rw [i4] at hlo
      have hs1b : s1.steps ≤ 4611686018427387910 := by omega
      have hst1 := hw.at'.stepsAt
      have hsf1 := hw.at'.row.frozen 196
      cases hls : s.lost c
      · rw [hls] at hlo
        have HLY : Hid (∀ W, HoardAt W hb s1 → Calls Try.prog 61 #[.pointer (some ⟨hb, 4 + c * 32, none⟩), .int .i64 r, .agg #[.int .u8 nw.b0, .int .u8 nw.b1, .int .u8 nw.b2, .int .u8 nw.b3]] W fun e w' => e = .returned (.tuple #[]) ∧ Went hb s1 W (s1.layC c r nw) w') := fun W hW => lay_any hb s1 c r nw W hW (by omega) hr6 HOKN.out
        have HN : Hid ((((s1.layC c r nw).setSteps (s1.steps + 1)).setSteps (s1.steps + 2)).toAb = abBlock s.toAb b a n f) := by
          show _ = _
          rw [HBL.out, ← hab.out]
          unfold abLaid
          rw [show s1.toAb.lost c = false by show s1.lost c = false; rw [i4]; exact hls]
          rfl
        clear hw X7 B7 hab
        go_wp2_with fail
        go_quiet (fail)
        go_wp2_with fail
        have h8 := HW.out.at'.drewN nq
        have hk8 : Went hb (s.setSteps (s.steps + 1)) w6 s1 (wr.drewN nq) := HW.out.trans (Went.below HW.out.at' (below_drewN (Below.refl _ _) nq))
        generalize wr.drewN nq = w8 at *
        obtain ⟨x0, x1, x2, x3⟩ := (HFL2.out s1 w8 hk8).2.cells
        go_region_with ((go_at_call 61; go_must (refine (HLY.out _ (h8.heap (by rfl))).mono ?_); rintro e w9 ⟨rfl, went⟩; have went2 : Went hb s1 w8 (s1.layC c r nw) w9 := went_from went rfl rfl rfl rfl; have hs9 : w9.cell? ⟨hb, 196, none⟩ = some (.int .i64 s1.steps) := went2.at'.stepsAt; have hf9 := went2.at'.row.frozen 196; have hlt9 := went2.at'.row.lt))
        all_goals
          have HWE : Hid (Went hb s1 w8 (s1.layC c r nw) w9) := went2
          clear went went2
          go_wp2_with fail
          go_end0
          refine ⟨((s1.layC c r nw).setSteps (s1.steps + 1)).setSteps (s1.steps + 2), rfl, HN.out, HW6.out.trans (hk8.trans (HWE.out.trans ⟨(HWE.out.at'.setSteps (s1.steps + 1)).setSteps (s1.steps + 2), ?_, fun k hk => .inl hk⟩))⟩
          exact ((Kept.refl _ _).setCell (.inl (.inl rfl)) _).setCell (.inl (.inl rfl)) _
      · rw [hls] at hlo
        have HN : Hid ((s1.setSteps (s1.steps + 1)).toAb = abBlock s.toAb b a n f) := by
          show _ = _
          rw [HBL.out, ← hab.out]
          unfold abLaid
          rw [show s1.toAb.lost c = true by show s1.lost c = true; rw [i4]; exact hls]
          rfl
        clear hw X7 B7 hab
        go_wp2_with fail
        go_quiet (fail)
        go_wp2_with fail
        go_end0
        refine ⟨s1.setSteps (s1.steps + 1), rfl, HN.out, HW6.out.trans (HW.out.trans ⟨(HW.out.at'.drewN nq).setSteps (s1.steps + 1), ?_, fun k hk => .inl hk⟩)⟩
        exact ((Kept.refl _ _).drewN nq).setCell (.inl (.inl rfl)) _
theorem BytesAt.kept {S : Nat → Prop} {w w' : World} {a : Option Addr} {n : Nat} {f : Nat → Nat} (h : BytesAt w a n f) (hk : Kept S w w') (hS : ∀ b o, a = some ⟨b, o, none⟩ → ¬ S b) : BytesAt w' a n f := by
  intro i hi
  obtain ⟨b, o, e, hc, hl⟩ := h i hi
  exact ⟨b, o, e, hk.cell (p := ⟨b, _, none⟩) (hS b o e) hc, hl⟩
/-- One block. -/
theorem writeBlock_any (hb : Nat) (s : St) (b a : Nat) (p : Option Addr) (n cap : Nat) (f : Nat → Nat) (w : World) (h : HoardAt w hb s) (hd : BytesAt w p n f) (hbl : b < s.D * s.R) (ha : a ≤ 96) (hn : n ≤ 96) (hst : s.steps ≤ 4611686018427387904) :
    Calls Try.prog 49 #[.pointer (some ⟨hb, 0, none⟩), .int .i64 b, .int .i64 a, .slice p n cap] w fun e w' => ∃ s', e = .returned (.tuple #[]) ∧ s'.toAb = abBlock s.toAb b a n f ∧ Went hb s w s' w' := by
  by_cases he : abNew s b a n f = holdC s (b % s.D) (b / s.D)
  · refine (writeBlock_same hb s b a p n cap f w h hd hbl ha hn he).mono fun e w' ⟨h1, h2⟩ => ⟨s, h1, ?_, Went.below h h2⟩
    unfold abBlock
    rw [if_pos ((C4.beq_iff _ _).2 he)]
  · refine writeBlock_diff hb s b a p n cap f w h hd hbl ha hn hst he ?_
    exact overlay_ok (holdC_ok h.ok _ _) (fun i hi => by obtain ⟨_, _, _, _, hl⟩ := hd i hi; exact hl)
end Go.Proofs.Ytiadmldeomdbbaa
