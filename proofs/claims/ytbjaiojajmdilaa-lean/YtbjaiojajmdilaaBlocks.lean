/- A block is written. -/
import Derived.Test.YtbjaiojajmdilaaNotes
import Derived.Test.YtbjaiojajmdilaaNewRead
namespace Go.Proofs.Ytbjaiojajmdilaa
open Go.RowKit
set_option linter.unusedVariables false
attribute [local go_sem ↓] Go.wp_at_zero Go.wp_at_succ
def notedTo (s : St) (c row : Nat) (x : C4) : Nat → St → Prop
  | 0, s' => s' = s.setSteps (s.steps + 1)
  | k + 1, s' => ∃ s1 v, notedTo s c row x k s1 ∧ s' = (noteS s1 (s.D + k) ⟨row, x.scale (wgt s (s.D + k) c)⟩ v).setSteps (s1.steps + 1)
theorem noteS_inv (s : St) (d : Nat) (r : Rec) (v : Value) : (noteS s d r v).D = s.D ∧ (noteS s d r v).P = s.P ∧ (noteS s d r v).R = s.R ∧ (noteS s d r v).M = s.M ∧ (noteS s d r v).steps = s.steps := by
  unfold noteS
  split
  · exact ⟨rfl, rfl, rfl, rfl, rfl⟩
  · obtain ⟨_, _, h1, h2, h3, h4, h5⟩ := applyRecs_lv s d ((s.recs d).take 1)
    exact ⟨h3, h4, h2, h1, h5⟩
theorem notedTo_inv {s : St} {c row : Nat} {x : C4} {k : Nat} {s' : St} (h : notedTo s c row x k s') : s'.D = s.D ∧ s'.P = s.P ∧ s'.R = s.R ∧ s'.M = s.M ∧ s'.steps = s.steps + 1 + k := by
  induction k generalizing s' with
  | zero => rw [notedTo] at h; subst h; exact ⟨rfl, rfl, rfl, rfl, rfl⟩
  | succ k ih =>
    obtain ⟨s1, v, h1, rfl⟩ := h
    obtain ⟨a1, a2, a3, a4, a5⟩ := ih h1
    obtain ⟨b1, b2, b3, b4, b5⟩ := noteS_inv s1 (s.D + k) ⟨row, x.scale (wgt s (s.D + k) c)⟩ v
    exact ⟨b1.trans a1, b2.trans a2, b3.trans a3, b4.trans a4, by show s1.steps + 1 = _; omega⟩
theorem eqCell (a b c d x y z t : Int) (w : World) : (Op.equalIn 10000 60 (.agg #[.int .u8 a, .int .u8 b, .int .u8 c, .int .u8 d]) (.agg #[.int .u8 x, .int .u8 y, .int .u8 z, .int .u8 t])).run Try.prog w = .ok (a == x && b == y && c == z && d == t) w := by
  have u3 := Try.underlying5
  have a3 := Try.isAgg5
  have z3 := Try.sizeOf5
  rw [show (10000 : Nat) = 9999 + 1 from rfl, Op.equalIn]
  simp only [Sem.run_bind, run_underlying Try.underlying60, Result.andThen_ok]
  simp only [Std.Legacy.Range.forIn_eq_forIn_range', Std.Legacy.Range.size, Nat.sub_zero, Nat.add_sub_cancel, Nat.div_one, List.range'_succ, List.range'_zero, List.forIn_cons, List.forIn_nil]
  go_simp
  by_cases h1 : a = x <;> by_cases h2 : b = y <;> by_cases h3 : c = z <;> by_cases h4 : d = t <;> simp [h1, h2, h3, h4]
def eqB (x y : C4) : Bool := x.b0 == y.b0 && x.b1 == y.b1 && x.b2 == y.b2 && x.b3 == y.b3
set_option maxRecDepth 100000 in
set_option maxHeartbeats 2000000 in
theorem writeBlock_same (hb : Nat) (s : St) (b a : Nat) (p : Option Addr) (n cap : Nat) (f : Nat → Nat) (w : World) (h : HoardAt w hb s) (hd : BytesAt w p n f) (hbl : b < s.D * s.R) (ha : a ≤ 96) (hn : n ≤ 96)
    (he : (s.cell (b % s.D) (b / s.D)).overlay (b * 4 - a) n f = s.cell (b % s.D) (b / s.D)) :
    Calls Try.prog 55 #[.pointer (some ⟨hb, 0, none⟩), .int .i64 b, .int .i64 a, .slice p n cap] w fun e w' => e = .returned (.tuple #[]) ∧ Below w.heap.size w w' := by
  have hD := h.ok.D4
  have hD1 := h.ok.D1
  have hR := h.ok.R6
  have hb24 : b < 24 := Nat.lt_of_lt_of_le hbl (Nat.mul_le_mul hD hR)
  have hc4 : b % s.D < 6 := by have := Nat.mod_lt b (show 0 < s.D by omega); omega
  have hr6 : b / s.D < 6 := by
    have : b / s.D < s.R := Nat.div_lt_of_lt_mul hbl
    omega
  have HH : Hid (HoardAt w hb s) := h
  have HD : Hid (BytesAt w p n f) := hd
  have HE : Hid _ := he
  clear h hd he hbl
  go_enter Try.func55, Try.ntmps55
  go_wp2_with fail
  refine (place_any hb s b _ HH.out (by omega)).mono ?_
  rintro e w1 ⟨rfl, q, rfl⟩
  have h1 := HH.out.drewN q
  have k1 : Below w.heap.size w (w.drewN q) := below_drewN (Below.refl _ _) q
  generalize w.drewN q = w1 at *
  obtain ⟨y0, y1, y2, y3⟩ := h1.cell _ _ hc4 hr6
  have hlt1 := h1.row.lt
  generalize hc : b % s.D = c at *
  generalize hr : b / s.D = r at *
  have HOV : Hid (∀ W, BytesAt W p n f → Calls Try.prog 93 #[.agg #[.int .u8 (s.cell c r).b0, .int .u8 (s.cell c r).b1, .int .u8 (s.cell c r).b2, .int .u8 (s.cell c r).b3], .int .i64 ((b : Int) * 4 - a), .slice p n cap] W fun e w' => e = .returned (((s.cell c r).overlay ((b : Int) * 4 - a) n f).val) ∧ Below W.heap.size W w') := fun W hW => overlay_any (s.cell c r) _ p n cap f W (by omega) (by omega) hW
  generalize hcl : s.cell c r = cl at *
  have hci : (c : Int) < 6 := by omega
  have hri : (r : Int) < 6 := by omega
  clear h1 hc hr hcl
  go_wp2_with fail
  refine (HOV.out _ ?_).mono ?_
  · exact HD.out.below ((k1.alloc k1.size _)) (Nat.le_refl _)
  rw [HE.out]
  unfold C4.val
  rintro e w2 ⟨rfl, k2⟩
  obtain ⟨hcc, hff⟩ := bcell k2
  have K2 : Below w.heap.size w w2 := (k1.alloc k1.size _).trans (k2.mono (by have := k1.size; simp; omega))
  have hz2 : w1.heap.size < w2.heap.size := by have := k2.size; simp at this; omega
  clear k2
  have heq : ∀ w, (Op.equalIn 10000 60 (.agg #[.int .u8 cl.b0, .int .u8 cl.b1, .int .u8 cl.b2, .int .u8 cl.b3]) (.agg #[.int .u8 cl.b0, .int .u8 cl.b1, .int .u8 cl.b2, .int .u8 cl.b3])).run Try.prog w = .ok true w := fun w => by rw [eqCell]; simp
  go_wp2_with fail
  exact bodyPost_ret (v := .tuple #[]) (by simp [results, Try.results55, go_sem]) rfl ⟨rfl, K2.alloc K2.size _⟩
set_option maxRecDepth 100000 in
set_option maxHeartbeats 4000000 in
theorem writeBlock_diff (hb : Nat) (s : St) (b a : Nat) (p : Option Addr) (n cap : Nat) (f : Nat → Nat) (w : World) (h : HoardAt w hb s) (hd : BytesAt w p n f) (hbl : b < s.D * s.R) (ha : a ≤ 96) (hn : n ≤ 96) (hst : s.steps ≤ 4611686018427387904)
    (he : (s.cell (b % s.D) (b / s.D)).overlay (b * 4 - a) n f ≠ s.cell (b % s.D) (b / s.D)) (hok : ((s.cell (b % s.D) (b / s.D)).overlay (b * 4 - a) n f).ok) :
    Calls Try.prog 55 #[.pointer (some ⟨hb, 0, none⟩), .int .i64 b, .int .i64 a, .slice p n cap] w fun e w' => ∃ s1, e = .returned (.tuple #[]) ∧ notedTo s (b % s.D) (b / s.D) ((s.cell (b % s.D) (b / s.D)).xor ((s.cell (b % s.D) (b / s.D)).overlay (b * 4 - a) n f)) s.P s1 ∧ Went hb s w ((s1.setCell (b % s.D) (b / s.D) ((s.cell (b % s.D) (b / s.D)).overlay (b * 4 - a) n f)).setSteps (s1.steps + 2)) w' := by
  have hD := h.ok.D4
  have hD1 := h.ok.D1
  have hR := h.ok.R6
  have hP := h.ok.P2
  have hb24 : b < 24 := Nat.lt_of_lt_of_le hbl (Nat.mul_le_mul hD hR)
  have hc4 : b % s.D < 4 := by have := Nat.mod_lt b (show 0 < s.D by omega); omega
  have hcD : b % s.D < s.D := Nat.mod_lt b (show 0 < s.D by omega)
  have hrR : b / s.D < s.R := Nat.div_lt_of_lt_mul hbl
  have HH : Hid (HoardAt w hb s) := h
  have HD : Hid (BytesAt w p n f) := hd
  have hokb := h.ok.cells (b % s.D) (b / s.D)
  clear h hd hbl
  go_enter Try.func55, Try.ntmps55
  go_wp2_with fail
  refine (place_any hb s b _ HH.out (by omega)).mono ?_
  rintro e w1 ⟨rfl, q, rfl⟩
  have h1 := HH.out.drewN q
  have k1 : Below w.heap.size w (w.drewN q) := below_drewN (Below.refl _ _) q
  generalize w.drewN q = w1 at *
  obtain ⟨y0, y1, y2, y3⟩ := h1.cell _ _ (show b % s.D < 6 by omega) (show b / s.D < 6 by omega)
  have hlt1 := h1.row.lt
  generalize hc : b % s.D = c at *
  generalize hr : b / s.D = r at *
  have HC : Hid (b % s.D = c) := hc
  have HR : Hid (b / s.D = r) := hr
  have HOV : Hid (∀ W, BytesAt W p n f → Calls Try.prog 93 #[.agg #[.int .u8 (s.cell c r).b0, .int .u8 (s.cell c r).b1, .int .u8 (s.cell c r).b2, .int .u8 (s.cell c r).b3], .int .i64 ((b : Int) * 4 - a), .slice p n cap] W fun e w' => e = .returned (((s.cell c r).overlay ((b : Int) * 4 - a) n f).val) ∧ Below W.heap.size W w') := fun W hW => overlay_any (s.cell c r) _ p n cap f W (by omega) (by omega) hW
  generalize hcl : s.cell c r = cl at *
  have HCL : Hid (s.cell c r = cl) := hcl
  have hci : (c : Int) < 6 := by omega
  have hri : (r : Int) < 6 := by omega
  clear h1 hc hr hcl
  go_wp2_with fail
  refine (HOV.out _ ?_).mono ?_
  · exact HD.out.below ((k1.alloc k1.size _)) (Nat.le_refl _)
  generalize hnw : cl.overlay ((b : Int) * 4 - a) n f = nw at *
  have HNW : Hid (cl.overlay ((b : Int) * 4 - a) n f = nw) := hnw
  clear hnw HOV
  unfold C4.val
  rintro e w2 ⟨rfl, k2⟩
  have bx0 : w2.cell? ⟨w1.heap.size, 0, none⟩ = some (.int .u8 cl.b0) := below_cell k2 (by simp [go_sem])
  have bx1 : w2.cell? ⟨w1.heap.size, 1, none⟩ = some (.int .u8 cl.b1) := below_cell k2 (by simp [go_sem])
  have bx2 : w2.cell? ⟨w1.heap.size, 2, none⟩ = some (.int .u8 cl.b2) := below_cell k2 (by simp [go_sem])
  have bx3 : w2.cell? ⟨w1.heap.size, 3, none⟩ = some (.int .u8 cl.b3) := below_cell k2 (by simp [go_sem])
  have K2 : Below w.heap.size w w2 := (k1.alloc k1.size _).trans (k2.mono (by have := k1.size; simp; omega))
  have hz2 : w1.heap.size < w2.heap.size := by have := k2.size; simp at this; omega
  clear k2
  have hneq : ((nw.b0 : Int) == (cl.b0 : Int) && (nw.b1 : Int) == (cl.b1 : Int) && (nw.b2 : Int) == (cl.b2 : Int) && (nw.b3 : Int) == (cl.b3 : Int)) = false := by
    rw [Bool.eq_false_iff]
    intro hh
    simp only [Bool.and_eq_true, beq_iff_eq] at hh
    refine he ?_
    obtain ⟨n0, n1, n2, n3⟩ := nw
    obtain ⟨c0, c1, c2, c3⟩ := cl
    simp only at hh
    simp only [C4.mk.injEq]
    omega
  have heq : ∀ w, (Op.equalIn 10000 60 (.agg #[.int .u8 nw.b0, .int .u8 nw.b1, .int .u8 nw.b2, .int .u8 nw.b3]) (.agg #[.int .u8 cl.b0, .int .u8 cl.b1, .int .u8 cl.b2, .int .u8 cl.b3])).run Try.prog w = .ok false w := fun w => by rw [eqCell, hneq]
  have h2 := HH.out.below K2
  have hs2 := h2.stepsAt
  have hsf2 := h2.row.frozen 154
  have hlt2 := h2.row.lt
  have HADD : Hid (∀ W, Calls Try.prog 61 #[.agg #[.int .u8 cl.b0, .int .u8 cl.b1, .int .u8 cl.b2, .int .u8 cl.b3], .agg #[.int .u8 nw.b0, .int .u8 nw.b1, .int .u8 nw.b2, .int .u8 nw.b3]] W fun e w' => e = .returned (cl.xor nw).val ∧ Below W.heap.size W w') := fun W => Add_any cl nw W hokb hok
  have H2 : Hid (HoardAt w2 hb s) := h2
  clear hneq h2
  have hxo : (cl.xor nw).ok := C4.xor_ok hokb hok
  have HX : Hid ((cl.xor nw).ok) := hxo
  go_wp2_with fail
  refine (HADD.out _).mono ?_
  generalize hx : cl.xor nw = x at *
  have HXE : Hid (cl.xor nw = x) := hx
  clear hx hxo
  have hsA : HoardAt (w2.setCell ⟨hb, 154, none⟩ (.int .i64 ((s.steps : Int) + 1))) hb (s.setSteps (s.steps + 1)) := H2.out.setSteps (s.steps + 1)
  unfold C4.val
  rintro e w3 ⟨rfl, k3⟩
  have h3 := (hsA.below ((Below.refl _ _).alloc (Nat.le_refl _) _)).below k3
  have n0 : w3.cell? ⟨w2.heap.size, 0, none⟩ = some (.int .u8 nw.b0) := below_cell k3 (by simp [go_sem])
  have n1 : w3.cell? ⟨w2.heap.size, 1, none⟩ = some (.int .u8 nw.b1) := below_cell k3 (by simp [go_sem])
  have n2 : w3.cell? ⟨w2.heap.size, 2, none⟩ = some (.int .u8 nw.b2) := below_cell k3 (by simp [go_sem])
  have n3 : w3.cell? ⟨w2.heap.size, 3, none⟩ = some (.int .u8 nw.b3) := below_cell k3 (by simp [go_sem])
  have hz3 : w2.heap.size < w3.heap.size := block_lt_of_cell n0
  have W3 : Went hb s w (s.setSteps (s.steps + 1)) w3 := by
    refine (Went.below HH.out K2).trans ⟨h3, ?_, fun k hk => .inl hk⟩
    exact (((Kept.refl (Foot hb s) w2).setCell (.inl (.inl rfl)) _).alloc _).trans' (Kept.of_below (S := fun _ => False) k3) (fun _ h => h.elim)
  have hFlt : ∀ k, Foot hb (s.setSteps (s.steps + 1)) k → k < w2.heap.size := fun k hk => H2.out.foot_lt hk
  obtain ⟨sh0, sh1, sh2, sh3⟩ := h3.shape
  have hlt3 := h3.row.lt
  have H3 : Hid (HoardAt w3 hb (s.setSteps (s.steps + 1))) := h3
  have HFL : Hid (∀ k, Foot hb (s.setSteps (s.steps + 1)) k → k < w2.heap.size) := hFlt
  have HW3 : Hid (Went hb s w (s.setSteps (s.steps + 1)) w3) := W3
  clear k3 hsA h3 hFlt W3 bx0 bx1 bx2 bx3 hs2 hsf2 y0 y1 y2 y3 heq hlt1 HADD K2 k1 hz2
  simp only [St.setSteps] at sh0 sh1
  go_wp2_with fail
  go_loopw [13] (fun j wr => ∃ (k : Nat) (s1 : St) (dd : Nat), k ≤ s.P ∧ Hid (dd = s.D + k) ∧ j = .int .i64 dd ∧ notedTo s c r x k s1 ∧ Went hb (s.setSteps (s.steps + 1)) (w3.alloc (Obj.cells #[.int .u8 x.b0, .int .u8 x.b1, .int .u8 x.b2, .int .u8 x.b3] 60)) s1 wr) (fun j _ => (s.D + s.P) - (intOf j).toNat)
  case atStart =>
    refine ⟨0, _, s.D, by omega, rfl, rfl, rfl, ?_⟩
    exact Went.below (H3.out.below ((Below.refl _ _).alloc (Nat.le_refl _) _)) (Below.refl _ _)
  case round =>
    obtain ⟨k, s1, dd, hk, hdd, rfl, hnt, hw⟩ := hrel
    have inv := notedTo_inv hnt
    obtain ⟨i1, i2, i3, i4, i5⟩ := inv
    obtain ⟨t0, t1, t2, t3⟩ := hw.at'.shape
    rw [i1] at t0
    rw [i2] at t1
    have hst1 := hw.at'.stepsAt
    have hltr := hw.at'.row.lt
    have hbox : ∀ i v, w3.cell? ⟨w2.heap.size, i, none⟩ = some v → wr.cell? ⟨w2.heap.size, i, none⟩ = some v := fun i v hv =>
      hw.kept.cell (p := ⟨w2.heap.size, i, none⟩) (fun hf => by have := HFL.out _ hf; simp at this) (below_cell ((Below.refl _ _).alloc (Nat.le_refl _) _) hv)
    have m0 := hbox _ _ n0
    have m1 := hbox _ _ n1
    have m2 := hbox _ _ n2
    have m3 := hbox _ _ n3
    have hcb : ∀ i v, (w3.alloc (Obj.cells #[.int .u8 x.b0, .int .u8 x.b1, .int .u8 x.b2, .int .u8 x.b3] 60)).cell? ⟨w3.heap.size, i, none⟩ = some v → wr.cell? ⟨w3.heap.size, i, none⟩ = some v := fun i v hv =>
      hw.kept.cell (p := ⟨w3.heap.size, i, none⟩) (fun hf => by have := HFL.out _ hf; simp at this; omega) hv
    have x0 := hcb 0 (.int .u8 x.b0) (by simp [go_sem])
    have x1 := hcb 1 (.int .u8 x.b1) (by simp [go_sem])
    have x2 := hcb 2 (.int .u8 x.b2) (by simp [go_sem])
    have x3 := hcb 3 (.int .u8 x.b3) (by simp [go_sem])
    have HW : Hid (Went hb (s.setSteps (s.steps + 1)) (w3.alloc (Obj.cells #[.int .u8 x.b0, .int .u8 x.b1, .int .u8 x.b2, .int .u8 x.b3] 60)) s1 wr) := hw
    have HNT : Hid (notedTo s c r x k s1) := hnt
    have I1 : Hid (s1.D = s.D) := i1
    have I3 : Hid (s1.R = s.R) := i3
    have I5 : Hid (s1.steps = s.steps + 1 + k) := i5
    have hs1b : s1.steps ≤ 4611686018427387910 := by omega
    have hd0 := hdd.out
    clear hbox hcb n0 n1 n2 n3 i1 i2 i3 i4 i5 hw hnt sh0 sh1 sh2 sh3
    by_cases hlt : k < s.P
    · have hdl : dd < s.D + s.P := by omega
      have hdg : s.D ≤ dd := by omega
      clear hd0
      go_wp2
      go_quiet (fail)
      go_wp2_with fail
      refine (noteChange_any hb s1 dd c r x (wr.drewN nq) (HW.out.at'.drewN nq) (by omega) (by rw [I1.out]; exact hdg) hc4 (by rw [I3.out]; exact hrR) HX.out).mono ?_
      rintro e w5 ⟨v5, rfl, went⟩
      have hwg : wgt s1 dd c = wgt s (s.D + k) c := by unfold wgt; rw [I1.out, hdd.out]
      rw [hwg, hdd.out] at went
      have hs5 := went.at'.stepsAt
      rw [(noteS_inv _ _ _ _).2.2.2.2] at hs5
      have hf5 := went.at'.row.frozen 154
      have hlt5 := went.at'.row.lt
      have HWE : Hid (Went hb s1 (wr.drewN nq) (noteS s1 (s.D + k) ⟨r, x.scale (wgt s (s.D + k) c)⟩ v5) w5) := went
      clear went hwg t0 t1 t2 t3 hst1 m0 m1 m2 m3 x0 x1 x2 x3
      go_wp2_with fail
      refine ⟨⟨k + 1, (noteS s1 (s.D + k) ⟨r, x.scale (wgt s (s.D + k) c)⟩ v5).setSteps (s1.steps + 1), dd + 1, by omega, (show dd + 1 = _ by have := hdd.out; omega), by go_num, ⟨s1, v5, HNT.out, rfl⟩, ?_⟩, by simp [intOf]; omega⟩
      refine HW.out.trans ((Went.below HW.out.at' (below_drewN (Below.refl _ _) nq)).trans (HWE.out.trans ⟨HWE.out.at'.setSteps (s1.steps + 1), ?_, fun k hk => .inl hk⟩))
      exact (Kept.refl _ _).setCell (.inl (.inl rfl)) _
    · have hkP : k = s.P := by omega
      subst hkP
      have hcell := HW.out.at'.cell c r (by omega) (by omega)
      obtain ⟨z0, z1, z2, z3⟩ := hcell
      have q0 := HW.out.at'.row.frozen (4 + c * 25 + r * 4)
      have q1 := HW.out.at'.row.frozen (4 + c * 25 + r * 4 + 1)
      have q2 := HW.out.at'.row.frozen (4 + c * 25 + r * 4 + 2)
      have q3 := HW.out.at'.row.frozen (4 + c * 25 + r * 4 + 3)
      have q4 := HW.out.at'.row.frozen 154
      have hdl : dd = s.D + s.P := hd0
      have hdl' : ¬ ((dd : Int) < (s.D : Int) + s.P) := by omega
      clear hd0 x0 x1 x2 x3
      go_wp2
      go_quiet (fail)
      go_wp2_with fail
      go_region
      have hC := (HW.out.at'.drewN (nq + 1)).setCell c r nw (by omega) (by omega) hok
      have KC : Kept (Foot hb s1) wr (((((wr.drewN (nq + 1)).setCell ⟨hb, 4 + c * 25 + r * 4, none⟩ (.int .u8 nw.b0)).setCell ⟨hb, 4 + c * 25 + r * 4 + 1, none⟩ (.int .u8 nw.b1)).setCell ⟨hb, 4 + c * 25 + r * 4 + 2, none⟩ (.int .u8 nw.b2)).setCell ⟨hb, 4 + c * 25 + r * 4 + 3, none⟩ (.int .u8 nw.b3)) :=
        ((((Kept.refl _ _).drewN _).setCell (.inl (.inl rfl)) _).setCell (.inl (.inl rfl)) _).setCell (.inl (.inl rfl)) _ |>.setCell (.inl (.inl rfl)) _
      generalize ((((wr.drewN (nq + 1)).setCell ⟨hb, 4 + c * 25 + r * 4, none⟩ (.int .u8 nw.b0)).setCell ⟨hb, 4 + c * 25 + r * 4 + 1, none⟩ (.int .u8 nw.b1)).setCell ⟨hb, 4 + c * 25 + r * 4 + 2, none⟩ (.int .u8 nw.b2)).setCell ⟨hb, 4 + c * 25 + r * 4 + 3, none⟩ (.int .u8 nw.b3) = w6 at hC KC ⊢
      have hs6 : w6.cell? ⟨hb, 154, none⟩ = some (.int .i64 s1.steps) := hC.stepsAt
      have hf6 := hC.row.frozen 154
      have hlt6 := hC.row.lt
      have HC6 : Hid (HoardAt w6 hb (s1.setCell c r nw)) := hC
      clear hC z0 z1 z2 z3 q0 q1 q2 q3 q4 m0 m1 m2 m3 t0 t1 t2 t3 hst1
      go_wp2_with fail
      go_end0
      rw [HC.out, HR.out, HCL.out, HNW.out, HXE.out]
      refine ⟨s1, rfl, HNT.out, ?_⟩
      have g1 : Went hb (s.setSteps (s.steps + 1)) w3 s1 wr := (Went.below H3.out ((Below.refl _ _).alloc (Nat.le_refl _) _)).trans HW.out
      have g2 : Went hb s1 wr (s1.setCell c r nw) w6 := ⟨HC6.out, KC, fun k hk => .inl hk⟩
      have g3 := (HC6.out.setSteps (s1.steps + 1)).setSteps (s1.steps + 2)
      refine HW3.out.trans (g1.trans (g2.trans ⟨g3, ?_, fun k hk => .inl hk⟩))
      exact ((Kept.refl _ _).setCell (.inl (.inl rfl)) _).setCell (.inl (.inl rfl)) _
end Go.Proofs.Ytbjaiojajmdilaa
