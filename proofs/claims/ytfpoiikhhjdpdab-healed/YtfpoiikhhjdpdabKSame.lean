/- hoardkeep.sameCell of any two cells. -/
import Derived.Test.YtfpoiikhhjdpdabKCells
namespace Go.Proofs.Ytfpoiikhhjdpdab
open Go.RowKit
set_option linter.unusedVariables false
attribute [local go_sem ↓] Go.wp_at_zero Go.wp_at_succ
set_option maxRecDepth 100000 in
set_option maxHeartbeats 2000000 in
theorem sameCell_ne (x y : C4) (w : World) (h : x ≠ y) :
    Calls Try.prog 19 #[x.val, y.val] w fun e w' => e = .returned (.bool false) ∧ Below w.heap.size w w' := by
  obtain ⟨x0, x1, x2, x3⟩ := x
  obtain ⟨y0, y1, y2, y3⟩ := y
  unfold C4.val
  by_cases h0 : x0 = y0
  · subst h0
    by_cases h1 : x1 = y1
    · subst h1
      by_cases h2 : x2 = y2
      · subst h2
        have h3 : ((x3 : Int) != (y3 : Int)) = true := by
          rw [bne_iff_ne]
          intro e
          have : x3 = y3 := by omega
          subst this
          exact h rfl
        clear h
        go_enter Try.func19, Try.ntmps19
        go_wp2
        refine wp_loop_rounds 4 ?_
        iterate 3 (rw [rounds_succ]; go_wp2; go_quiet (fail); go_wp2)
        rw [rounds_succ]
        go_wp2
        go_quiet (fail)
        go_wp2
        go_ret
        exact ⟨rfl, by repeat (first | exact Below.refl _ _ | refine below_drewN ?_ _ | refine Below.drew ?_ | refine Below.alloc ?_ (by simp <;> omega) _)⟩
      · have h3 : ((x2 : Int) != (y2 : Int)) = true := by rw [bne_iff_ne]; omega
        clear h
        go_enter Try.func19, Try.ntmps19
        go_wp2
        refine wp_loop_rounds 3 ?_
        iterate 2 (rw [rounds_succ]; go_wp2; go_quiet (fail); go_wp2)
        rw [rounds_succ]
        go_wp2
        go_quiet (fail)
        go_wp2
        go_ret
        exact ⟨rfl, by repeat (first | exact Below.refl _ _ | refine below_drewN ?_ _ | refine Below.drew ?_ | refine Below.alloc ?_ (by simp <;> omega) _)⟩
    · have h3 : ((x1 : Int) != (y1 : Int)) = true := by rw [bne_iff_ne]; omega
      clear h
      go_enter Try.func19, Try.ntmps19
      go_wp2
      refine wp_loop_rounds 2 ?_
      iterate 1 (rw [rounds_succ]; go_wp2; go_quiet (fail); go_wp2)
      rw [rounds_succ]
      go_wp2
      go_quiet (fail)
      go_wp2
      go_ret
      exact ⟨rfl, by repeat (first | exact Below.refl _ _ | refine below_drewN ?_ _ | refine Below.drew ?_ | refine Below.alloc ?_ (by simp <;> omega) _)⟩
  · have h3 : ((x0 : Int) != (y0 : Int)) = true := by rw [bne_iff_ne]; omega
    clear h
    go_enter Try.func19, Try.ntmps19
    go_wp2
    refine wp_loop_rounds 1 ?_
    rw [rounds_succ]
    go_wp2
    go_quiet (fail)
    go_wp2
    go_ret
    exact ⟨rfl, by repeat (first | exact Below.refl _ _ | refine below_drewN ?_ _ | refine Below.drew ?_ | refine Below.alloc ?_ (by simp <;> omega) _)⟩
theorem sameCell_any (x y : C4) (w : World) :
    Calls Try.prog 19 #[x.val, y.val] w fun e w' => e = .returned (.bool (x.beq y)) ∧ Below w.heap.size w w' := by
  by_cases h : x = y
  · subst h
    have : x.beq x = true := (C4.beq_iff x x).2 rfl
    rw [this]
    exact sameCell_eq x w
  · have : x.beq y = false := by
      cases hb : x.beq y
      · rfl
      · exact absurd ((C4.beq_iff x y).1 hb) h
    rw [this]
    exact sameCell_ne x y w h
end Go.Proofs.Ytfpoiikhhjdpdab
