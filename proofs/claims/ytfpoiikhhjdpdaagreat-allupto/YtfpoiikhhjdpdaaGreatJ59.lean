import Derived.Test.YtfpoiikhhjdpdaaGreatJ50
import Derived.Test.YtfpoiikhhjdpdaaGreatJ57
import Derived.Test.YtfpoiikhhjdpdaaGreatJ40
import Derived.Test.YtfpoiikhhjdpdaaGreatJ01
import Derived.JoinedCond
import Derived.ShutString
import Derived.ChangeOld
/- hoardlaw.step: the kinds of All. -/
namespace Go.Proofs.YtfpoiikhhjdpdaaGreat
open Go.RowKit
set_option linter.unusedVariables false
theorem step_all {T w : World} {tag : Nat → Nat} {G : GSt} {N : Nat} (o : OpV) (hG : Great T w tag G N) (hN : N ≤ 220000000) (ho : o.fits) (hk : 1 ≤ o.k ∧ o.k ≤ 17) :
    Calls Tryz.prog 10 #[.pointer (some ⟨T.heap.size, 0, none⟩), o.val] w fun e w' => e = .returned (.bool true) ∧ ∃ tag' G', Great T w' tag' G' (N + 200) := by
  by_cases h2 : o.k ≤ 2
  · refine (step_field o _ w (by omega)).mono ?_
    rintro e w' ⟨rfl, h⟩
    exact ⟨rfl, _, _, (hG.below h).mono (by omega)⟩
  · by_cases h15 : o.k ≤ 15
    · exact step_downs o hG hN ho (by omega)
    · exact step_scrubs o hG hN ho (by omega)
end Go.Proofs.YtfpoiikhhjdpdaaGreat

/- hoardlaw.All: the walk. -/
namespace Go.Proofs.YtfpoiikhhjdpdaaGreat
open Go.RowKit
set_option linter.unusedVariables false
set_option maxRecDepth 100000 in
set_option maxHeartbeats 1000000 in
theorem all_any (a0 : Option Addr) (n cap : Nat) (ops : Nat → OpV) (w : World) (hn : n ≤ 1048576) (hs : ScriptAt w a0 n ops) (hf : ∀ i, i < n → (ops i).fits) :
    Calls Tryz.prog 8 #[.slice a0 n cap] w fun e w' => e = .returned (.bool true) ∧ Below w.heap.size w w' := by
  have HS : Hid _ := hs
  have HF : Hid _ := hf
  clear hs hf
  go_enter Tryz.func8, Tryz.ntmps8
  go_wp2_with fail
  refine (plays_great a0 n cap w.heap.size 17 17 ops (fun j => 1 + (j : Int)) _ hn (by omega) (ScriptAt.below HS.out (below_al _ _)) ?_ (by simp) ?_).mono ?_
  · intro i hi
    have : i = 0 ∨ i = 1 ∨ i = 2 ∨ i = 3 ∨ i = 4 ∨ i = 5 ∨ i = 6 ∨ i = 7 ∨ i = 8 ∨ i = 9 ∨ i = 10 ∨ i = 11 ∨ i = 12 ∨ i = 13 ∨ i = 14 ∨ i = 15 ∨ i = 16 := by omega
    rcases this with rfl | rfl | rfl | rfl | rfl | rfl | rfl | rfl | rfl | rfl | rfl | rfl | rfl | rfl | rfl | rfl | rfl <;> simp [go_sem]
  · rintro i hi ⟨j, hj, e⟩ w' tag G N hN h
    exact step_all (ops i) h hN (HF.out i hi) (by omega)
  · rintro e w1 ⟨rfl, h⟩
    go_wp2_with fail
    go_ret
    exact ⟨rfl, (below_al w _).trans (h.mono (by simp))⟩
end Go.Proofs.YtfpoiikhhjdpdaaGreat

/- hoardlaw.All, bounded: the row. -/
namespace Go.Proofs.YtfpoiikhhjdpdaaGreat.allupto
open Go.ChangeShapes Go.WideShapes Go.ChangeAt Go.RowKit
open Go.ChangeMaps (open_string shut_string)
set_option linter.unusedVariables false
theorem wf_i64 {n : Int} (h : (Lit.int .i64 n).wf = true) : -9223372036854775808 ≤ n ∧ n ≤ 9223372036854775807 := by
  simpa [Lit.wf, IntKind.min, IntKind.max, IntKind.signed, IntKind.bits] using h
theorem ok_fits {o : OpV} (h : o.ok) (hs : o.s.size ≤ 1048576) : o.fits := by
  obtain ⟨_, h1, h2, h3, _, _, _⟩ := h
  exact ⟨wf_i64 h1, wf_i64 h2, wf_i64 h3, by omega⟩
theorem own : ownKnob Tryz.prog.godebug = none := by kernel_rfl
theorem laidOut : laidOutB Tryz.prog = true := by kernel_rfl
set_option maxRecDepth 100000 in
theorem lifted (os : Os) (started : os.Started) (H : Type) (enc : TypeId × Value → H) (F : Stop.Interp) :
    ReturnsInHanded {} Tryz.checked os 8 .any ((Rows.OpenSpec.upto Rows.allSpec).pre6 enc Tryz.prog Tryz.f8 Rows.allUptoRow.domain false) (((Rows.OpenSpec.upto Rows.allSpec).at F).post enc Tryz.prog Tryz.f8 false true false false) := by
  refine returnsInHanded_of_cond (C := Tryz.checked) (s := Rows.OpenSpec.upto Rows.allSpec) (k := Rows.uptoSmall) rfl own started (by kernel_rfl) Tryz.func8
    (OpenSpec.witness (enc := enc) (C := Tryz.checked) (s := Rows.OpenSpec.upto Rows.allSpec) (k := Rows.uptoSmall) rfl false ⟨#[], #[.slice none 0 0], []⟩ 8 (by kernel_rfl) (by kernel_rfl) (by kernel_rfl)
      (x := ([.nil], [], [])) (by kernel_rfl) rfl (by kernel_rfl)) ?_
  intro W base args ds gs before hval0 hW _ hk _
  have hval : ∀ (j : Nat) t v, Tryz.f8.params[j]? = some t → args[j]? = some v → Value.okWide Tryz.prog W .any base t v := hval0
  have hW' := hW
  obtain ⟨p, q, hA0, hV, rfl, hfz, hnd⟩ := hW
  have hA : DataW.TrodAll enc Tryz.prog W 0 (fun _ => true) true Tryz.f8.params.toList args.toList ds p := hA0
  rw [Tryz.params8] at hA hval
  obtain ⟨v0, vs0, d0, ds0, p0, q0, hargs, rfl, rfl, h0, r0⟩ := trodAll_cons hA
  obtain ⟨rfl, rfl, rfl⟩ := trodAll_nil r0
  obtain rfl : args = #[v0] := by cases args; simp_all
  obtain ⟨rfl, rfl⟩ := trodVars_none hV
  obtain ⟨a0, len0, cap0, rfl⟩ := okWide_slice Tryz.underlying22 (hval 0 22 v0 rfl rfl)
  have k0 := h0
  have lt0 : ∀ x ∈ p0, x.block < W.heap.size := by obtain ⟨m, hm⟩ := k0; exact DataW.trod_lt m _ _ _ hm
  obtain ⟨hl, ops, hsc, hok, hdt⟩ := open_ops h0
  simp only [List.append_nil] at hk
  obtain ⟨hn, hss⟩ := bulk_script ops len0 _ hdt hk
  clear hA0 hval0
  refine (all_any a0 len0 cap0 ops W hn hsc (fun i hi => ok_fits (hok i hi) (hss i hi))).mono fun e W' ⟨he, bel⟩ => ?_
  subst he
  exact ⟨_, rfl, _, _, _, [], _, [], hW', trodAll_mk1 (shut_bool Tryz.underlying4 _), (trodAll_cons_mk (Below.trod laidOut (by kernel_rfl) (of_decide_eq_true (by kernel_rfl)) k0 bel lt0) trodAll_mk0), rfl, bel.frame _, fun h => by cases h⟩

theorem over : Rows.AllUptoSaid :=
  OpenClaim.holds_of_cond 8 Tryz.f8 rfl rfl rfl rfl rfl rfl rfl ⟨rfl, rfl, rfl, rfl, rfl⟩ rfl rfl rfl rfl rfl (by kernel_rfl) Tryz.func8 (by kernel_rfl)
    (of_decide_eq_true (by kernel_rfl)) (by unfold Func.isWrapper; first | (rw [if_pos (by decide +kernel)]; kernel_rfl) | (rw [if_neg (by decide +kernel)]; exact ⟨rfl, rfl⟩))
    (fun os started H enc _ F => lifted os started H enc F)
end Go.Proofs.YtfpoiikhhjdpdaaGreat.allupto
namespace Go.Proofs.YtfpoiikhhjdpdaaGreat
theorem allupto_holds : Rows.AllUptoSaid := allupto.over
#print axioms allupto_holds
end Go.Proofs.YtfpoiikhhjdpdaaGreat
