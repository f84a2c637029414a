/- hoardkeep.Field: products in either order, joined in either way, of sums; 1; divided back. -/
import Derived.Test.YtfpoiikhhjdpdaaRows
import Derived.WalkKit
import Derived.ProofKit
import Derived.OpenShut
import Derived.Test.YtfpoiikhhjdpdaaFieldWalks
namespace Go.Proofs.Ytfpoiikhhjdpdaa.field
open Go.ChangeShapes Go.WideShapes Go.ChangeAt Go.RowKit
set_option linter.unusedVariables false      -- a walk need not use every 'w<i>' (that an integer argument fits its kind)

theorem own : ownKnob Try.prog.godebug = none := by kernel_rfl

/- The walk: every product by its contract; then the quotient. -/
theorem byte_of (x : Int) : ∃ n : Nat, x % 256 = (n : Int) ∧ n < 256 :=
  ⟨(x % 256).toNat, by omega, by omega⟩
set_option maxRecDepth 100000 in
set_option maxHeartbeats 1000000 in
theorem walk (a0 : Int) (a1 : Int) (a2 : Int) (w : World) :
    Calls Try.prog 3 #[.int .i64 a0, .int .i64 a1, .int .i64 a2] w fun e w' => e = .returned (.bool true) ∧ Grown w w' := by
  obtain ⟨a, ea, ha⟩ := byte_of a0
  obtain ⟨b, eb, hb⟩ := byte_of a1
  obtain ⟨c, ec, hc⟩ := byte_of a2
  have hab := Hd.mul_lt a b ha
  have hbc := Hd.mul_lt b c hb
  have hx := u8_xor_nat b c hb hc
  have hxl := Hd.xor_lt b c hb hc
  have Hcomm : Hid (Hd.mul b a = Hd.mul a b) := Hd.mul_comm b a hb ha
  have Hassoc : Hid (Hd.mul a (Hd.mul b c) = Hd.mul (Hd.mul a b) c) := (Hd.mul_assoc a b c ha hb hc).symm
  have Hdist : Hid (Hd.mul a (b ^^^ c) = Hd.mul a b ^^^ Hd.mul a c) := Hd.mul_right a b c
  have Hone : Hid (Hd.mul a 1 = a) := Hd.mul_one a ha
  have Htw : Hid (Hd.mul 2 128 = 29) := (show Hd.mul 2 128 = 29 by decide +kernel)
  have hx2 := u8_xor_nat (Hd.mul a b) (Hd.mul a c) hab (Hd.mul_lt a c ha)
  go_enter Try.func3, Try.ntmps3
  go_wp2_with fail
  refine (Mul_any a b _ ha hb).mono ?_
  rintro e w' ⟨rfl, rfl⟩
  go_wp2_with fail
  refine (Mul_any b a _ hb ha).mono ?_
  rintro e w' ⟨rfl, rfl⟩
  rw [Hcomm.out]
  go_wp2_with fail
  refine (Mul_any b c _ hb hc).mono ?_
  rintro e w' ⟨rfl, rfl⟩
  go_wp2_with fail
  refine (Mul_any (Hd.mul a b) c _ hab hc).mono ?_
  rintro e w' ⟨rfl, rfl⟩
  go_wp2_with fail
  refine (Mul_any a (Hd.mul b c) _ ha hbc).mono ?_
  rintro e w' ⟨rfl, rfl⟩
  rw [Hassoc.out]
  go_wp2_with fail
  refine (Mul_any a (b ^^^ c) _ ha hxl).mono ?_
  rintro e w' ⟨rfl, rfl⟩
  rw [Hdist.out]
  go_wp2_with fail
  refine (Mul_any a c _ ha hc).mono ?_
  rintro e w' ⟨rfl, rfl⟩
  go_wp2_with fail
  refine (Mul_any a 1 _ ha (by omega)).mono ?_
  rintro e w' ⟨rfl, rfl⟩
  rw [Hone.out]
  go_wp2_with fail
  refine (Mul_any 2 128 _ (by omega) (by omega)).mono ?_
  rintro e w' ⟨rfl, rfl⟩
  rw [Htw.out]
  go_wp2_with fail
  clear hx hxl hx2 Hcomm Hassoc Hdist Hone Htw hbc ea ec hc
  by_cases hz : b = 0
  · subst hz
    have hm0 := Hd.mul_zero a
    rw [hm0]
    refine (Div_zero 0 _).mono ?_
    rintro e w' ⟨rfl, rfl⟩
    go_wp2_with fail
    go_ret
    exact ⟨rfl, Grown.refl _⟩
  · have hpos : 0 < b := by omega
    have Hd2 : Hid (Hd.div (Hd.mul a b) b = a) := Hd.mul_div a b ha hb hz
    clear hz
    refine (Div_any (Hd.mul a b) b _ hab hb hpos).mono ?_
    rintro e w' ⟨rfl, rfl⟩
    rw [Hd2.out]
    go_wp2_with fail
    go_ret
    exact ⟨rfl, Grown.refl _⟩

/- The row. -/
set_option maxRecDepth 100000 in
theorem lifted (os : Os) (started : os.Started) (H : Type) (enc : TypeId × Value → H) :
    ReturnsInHanded {} Try.checked os 3 .any (Rows.fieldSpec.pre6 enc Try.prog Try.f3 Rows.fieldRow.domain false) (Rows.fieldSpec.post enc Try.prog Try.f3 false true false false) := by
  refine returnsInHanded_of_change (C := Try.checked) own started (by kernel_rfl) Try.func3
    (ChangeSpec.witness6 (enc := enc) (C := Try.checked) false ⟨#[], #[.int .i64 0, .int .i64 0, .int .i64 0], []⟩ 8 (by kernel_rfl) (by kernel_rfl) (by kernel_rfl) (by kernel_rfl)) ?_
  intro W base args ds gs before hval0 hW hcnd _
  have hval : ∀ (j : Nat) t v, Try.f3.params[j]? = some t → args[j]? = some v → Value.okWide Try.prog W .any base t v := hval0
  have hW' := hW
  obtain ⟨p, q, hA0, hV, rfl, hfz, hnd⟩ := hW
  have hA : DataW.TrodAll enc Try.prog W 0 (fun _ => true) true Try.f3.params.toList args.toList ds p := hA0
  rw [Try.params3] at hA hval
  obtain ⟨v0, vs0, d0, ds0, p0, q0, hargs, rfl, rfl, h0, r0⟩ := trodAll_cons hA
  obtain ⟨v1, vs1, d1, ds1, p1, q1, rfl, rfl, rfl, h1, r1⟩ := trodAll_cons r0
  obtain ⟨v2, vs2, d2, ds2, p2, q2, rfl, rfl, rfl, h2, r2⟩ := trodAll_cons r1
  obtain ⟨rfl, rfl, rfl⟩ := trodAll_nil r2
  obtain rfl : args = #[v0, v1, v2] := by cases args; simp_all
  obtain ⟨rfl, rfl⟩ := trodVars_none hV
  obtain ⟨a0, rfl, rfl, rfl, w0⟩ := open_int Try.underlying3 (hval 0 3 v0 rfl rfl) h0
  obtain ⟨a1, rfl, rfl, rfl, w1⟩ := open_int Try.underlying3 (hval 1 3 v1 rfl rfl) h1
  obtain ⟨a2, rfl, rfl, rfl, w2⟩ := open_int Try.underlying3 (hval 2 3 v2 rfl rfl) h2
  clear hA0 hval0
  simp only [List.append_nil] at hW'
  refine (walk a0 a1 a2 W).mono fun e W' ⟨he, hg⟩ => ?_
  subst he
  exact ⟨_, rfl, post_of_same (pa := []) (pv := []) hW' (fun _ _ _ => (trodAll_cons_mk (shut_bool Try.underlying4 _) trodAll_mk0)) (fun sp _ => (trodAll_cons_mk (shut_int Try.underlying3 w0) (trodAll_cons_mk (shut_int Try.underlying3 w1) (trodAll_cons_mk (shut_int Try.underlying3 w2) trodAll_mk0)))) (fun _ _ => rfl) rfl
    (hg.frame _) hg.2.1 (ok_one (by kernel_rfl) rfl (okWide_bool_mk Try.underlying4 _))⟩

theorem over : Rows.fieldRow.holds Try.pinned (OpenSpec.ofChange Rows.fieldSpec) :=
  OpenClaim.holds_of_wide 3 Try.f3 rfl rfl rfl rfl rfl rfl rfl ⟨rfl, rfl, rfl, rfl, rfl⟩ rfl rfl rfl rfl rfl (by kernel_rfl) Try.func3 (by kernel_rfl)
    (of_decide_eq_true (by kernel_rfl)) (by unfold Func.isWrapper; first | (rw [if_pos (by decide +kernel)]; kernel_rfl) | (rw [if_neg (by decide +kernel)]; exact ⟨rfl, rfl⟩))
    (fun os started H enc _ => lifted os started H enc)

end Go.Proofs.Ytfpoiikhhjdpdaa.field
namespace Go.Proofs.Ytfpoiikhhjdpdaa
theorem field_holds : Rows.FieldSaid := field.over
#print axioms field_holds
end Go.Proofs.Ytfpoiikhhjdpdaa
