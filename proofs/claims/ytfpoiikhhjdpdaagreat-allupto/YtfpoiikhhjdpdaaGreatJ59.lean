import Derived.Test.YtfpoiikhhjdpdaaGreatJ50
import Derived.Test.YtfpoiikhhjdpdaaGreatJ57
import Derived.Test.YtfpoiikhhjdpdaaGreatJ40
/- hoardlaw.step: the kinds of All. -/
namespace Go.Proofs.YtfpoiikhhjdpdaaGreat
open Go.RowKit
set_option linter.unusedVariables false
theorem step_all {T w : World} {tag : Nat → Nat} {G : GSt} {N : Nat} (o : OpV) (hG : Great T w tag G N) (hN : N ≤ 220000000) (ho : o.fits) (hk : 1 ≤ o.k ∧ o.k ≤ 17) :
    Calls Tryz.prog 10 #[.pointer (some ⟨T.heap.size, 0, none⟩), o.val] w fun e w' => e = .returned (.bool true) ∧ ∃ tag' G', Great T w' tag' G' (N + 200) := by
  by_cases h2 : o.k ≤ 2
  · refine (step_field o _ w (by omega)).mono ?_
    rintro e w' ⟨rfl, h⟩
    exact ⟨rfl, _, _, (hG.below h).mono (by omega)⟩
  · by_cases h15 : o.k ≤ 15
    · exact step_downs o hG hN ho (by omega)
    · exact step_scrubs o hG hN ho (by omega)
end Go.Proofs.YtfpoiikhhjdpdaaGreat

/- hoardlaw.All: the walk. -/
namespace Go.Proofs.YtfpoiikhhjdpdaaGreat
open Go.RowKit
set_option linter.unusedVariables false
set_option maxRecDepth 100000 in
set_option maxHeartbeats 1000000 in
theorem all_any (a0 : Option Addr) (n cap : Nat) (ops : Nat → OpV) (w : World) (hn : n ≤ 1048576) (hs : ScriptAt w a0 n ops) (hf : ∀ i, i < n → (ops i).fits) :
    Calls Tryz.prog 8 #[.slice a0 n cap] w fun e w' => e = .returned (.bool true) ∧ Below w.heap.size w w' := by
  have HS : Hid _ := hs
  have HF : Hid _ := hf
  clear hs hf
  go_enter Tryz.func8, Tryz.ntmps8
  go_wp2_with fail
  refine (plays_great a0 n cap w.heap.size 17 17 ops (fun j => 1 + (j : Int)) _ hn (by omega) (ScriptAt.below HS.out (below_al _ _)) ?_ (by simp) ?_).mono ?_
  · intro i hi
    have : i = 0 ∨ i = 1 ∨ i = 2 ∨ i = 3 ∨ i = 4 ∨ i = 5 ∨ i = 6 ∨ i = 7 ∨ i = 8 ∨ i = 9 ∨ i = 10 ∨ i = 11 ∨ i = 12 ∨ i = 13 ∨ i = 14 ∨ i = 15 ∨ i = 16 := by omega
    rcases this with rfl | rfl | rfl | rfl | rfl | rfl | rfl | rfl | rfl | rfl | rfl | rfl | rfl | rfl | rfl | rfl | rfl <;> simp [go_sem]
  · rintro i hi ⟨j, hj, e⟩ w' tag G N hN h
    exact step_all (ops i) h hN (HF.out i hi) (by omega)
  · rintro e w1 ⟨rfl, h⟩
    go_wp2_with fail
    go_ret
    exact ⟨rfl, (below_al w _).trans (h.mono (by simp))⟩
end Go.Proofs.YtfpoiikhhjdpdaaGreat
