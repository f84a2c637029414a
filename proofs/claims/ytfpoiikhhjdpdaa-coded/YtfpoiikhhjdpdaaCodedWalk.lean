/- hoardkeep.Coded: the walk. -/
import Derived.Test.YtfpoiikhhjdpdaaKWeigh
import Derived.Test.YtfpoiikhhjdpdaaKValue
namespace Go.Proofs.Ytfpoiikhhjdpdaa
open Go.RowKit
set_option linter.unusedVariables false
attribute [local go_sem ↓] Go.wp_at_zero Go.wp_at_succ
set_option maxRecDepth 100000 in
set_option maxHeartbeats 8000000 in
theorem coded_walk (a b c d : Int) (wa : (Lit.int .i64 a).wf = true) (wb : (Lit.int .i64 b).wf = true) (wc : (Lit.int .i64 c).wf = true) (wd : (Lit.int .i64 d).wf = true) (a0 : Option Addr) (n cap : Nat) (mv : Nat → MvV) (w : World) (hn : n ≤ 10000000000000) (hm : MovesAt w a0 n mv) (hmo : ∀ i, i < n → (mv i).ok) :
    Calls Try.prog 5 #[.int .i64 a, .int .i64 b, .int .i64 c, .int .i64 d, .slice a0 n cap] w fun e w' => e = .returned (.bool true) ∧ Below w.heap.size w w' := by
  have q1 := pickN_lt a 4 (by omega)
  have q2 := pickN_lt b 2 (by omega)
  have q3 := pickN_lt c 6 (by omega)
  have q4 := pickN_lt d 8 (by omega)
  have HSH : Hid (∀ W, Calls Try.prog 12 #[.int .i64 a, .int .i64 b, .int .i64 c, .int .i64 d] W fun e w' => e = .returned (.agg #[.int .i64 (1 + pickN a 4 : Nat), .int .i64 (1 + pickN b 2 : Nat), .int .i64 (1 + pickN c 6 : Nat), .int .i64 (1 + pickN d 8 : Nat)]) ∧ Below W.heap.size W w') := fun W => kshape_any a b c d W (wf64 wa) (wf64 wb) (wf64 wc) (wf64 wd)
  generalize hD : 1 + pickN a 4 = D at *
  generalize hP : 1 + pickN b 2 = P at *
  generalize hR : 1 + pickN c 6 = R at *
  generalize hM : 1 + pickN d 8 = M at *
  have HS : Hid (shapeB D P R M = true) := (show _ = _ by simp only [shapeB, Bool.and_eq_true, decide_eq_true_eq]; omega)
  have HM : Hid (MovesAt w a0 n mv) := hm
  have HMO : Hid (∀ i, i < n → (mv i).ok) := hmo
  clear hD hP hR hM q1 q2 q3 q4 wa wb wc wd hm hmo
  go_enter Try.func5, Try.ntmps5
  go_wp2_with fail
  refine (HSH.out _).mono ?_
  rintro e w1 ⟨rfl, k1⟩
  have HB : Hid (∀ W, Calls Try.prog 11 #[.agg #[.int .i64 D, .int .i64 P, .int .i64 R, .int .i64 M]] W fun e w' => ∃ kb, e = .returned (.tuple #[.pointer (some ⟨kb, 0, none⟩), .bool true]) ∧ ∃ bb hb V, Stands W w' kb bb hb V D P R M 0) := fun W => begin_stands D P R M W HS.out
  go_wp2_with fail
  refine (HB.out _).mono ?_
  rintro e w2 ⟨kb, rfl, bb, hb, V, hst⟩
  have HST : Hid (Stands w1 w2 kb bb hb V D P R M 0) := hst
  have HM1 : Hid (MovesAt w1 a0 n mv) := HM.out.below k1
  have HB1 : Hid (Below w.heap.size w w1) := k1
  clear hst k1 HSH HB
  go_wp2_with fail
  refine (moves_any kb bb hb V D P R M a0 n cap mv _ HST.out hn HM1.out HMO.out).mono ?_
  rintro e w3 ⟨rfl, hS3⟩
  obtain ⟨s, f, lo, bu, hI, _, hsD, hsP, hsR, hsM, hK3⟩ := hS3.ex
  have HB3 : Hid (Below w.heap.size w w3) := (show Below _ _ _ from (by have h5 := hS3.below; exact HB1.out.trans (h5.mono HB1.out.size)))
  have HK3 : Hid (KeepAt w1 w3 kb bb hb s f V lo bu) := hK3
  have HI : Hid (KInv s f lo bu) := hI
  have hD4 := hK3.hoard.ok.D4
  have hP2 := hK3.hoard.ok.P2
  have hR6 := hK3.hoard.ok.R6
  clear hS3 hK3 hI HST HM1 HM HMO HB1 HS hn hsM
  subst hsD hsP hsR
  go_wp2_with fail
  go_loopw [13, 14, 15, 16, 17, 18, 19, 20, 21] (fun r _ _ _ _ _ _ _ _ wr => ∃ m : Nat, m ≤ s.R ∧ r = .int .i64 m ∧ Below w3.heap.size w3 wr) (fun r _ _ _ _ _ _ _ _ _ => s.R - (intOf r).toNat)
  case atStart => exact ⟨0, by omega, rfl, Below.refl _ _⟩
  case round =>
    obtain ⟨m, hm, rfl, hbel⟩ := hrel
    have hKr := HK3.out.of_below hbel
    obtain ⟨_, _, _, c3, _⟩ := hKr.cells
    have HBR : Hid (Below w3.heap.size w3 wr) := hbel
    clear hKr hbel
    by_cases hlt : m < s.R
    · have hlti : (m : Int) < (s.R : Int) := by omega
      go_wp2_with fail
      clear c3
      go_loopw [14, 15, 16, 17, 18, 19, 20, 21] (fun d _ _ _ _ _ _ _ wi => ∃ j : Nat, j ≤ s.D + s.P ∧ d = .int .i64 j ∧ Below w3.heap.size w3 wi) (fun d _ _ _ _ _ _ _ _ => s.D + s.P - (intOf d).toNat)
      case atStart => exact ⟨0, by omega, rfl, HBR.out⟩
      case round =>
        clear HBR
        obtain ⟨j, hj, rfl, hbel⟩ := hrel
        have hKi := HK3.out.of_below hbel
        obtain ⟨c0, c1, c2, c3, _⟩ := hKi.cells
        have hltk := hKi.row.lt
        have HBI : Hid (Below w3.heap.size w3 wr) := hbel
        clear hbel
        by_cases hjl : j < s.D + s.P
        · have hji : (j : Int) < (s.D : Int) + s.P := by omega
          have hav := HI.out.av j m hjl hlt
          have HTH : Hid (∀ W, Below w3.heap.size w3 W → Calls Try.prog 21 #[.pointer (some ⟨kb, 0, none⟩), .int .i64 j, .int .i64 m] W fun e w' => e = .returned (.bool (!lo j && bu j m)) ∧ w' = W) := fun W hW => there_any kb bb hb s f V lo bu j m W (HK3.out.of_below hW) hjl hlt
          rw [← hav] at HTH
          clear hav hKi
          cases hav : avB s j m
          · rw [hav] at HTH
            have HCE : Hid (∀ W, Below w3.heap.size w3 W → Calls Try.prog 22 #[.pointer (some ⟨hb, 0, none⟩), .int .i64 j, .int .i64 m] W fun e w' => e = .returned (.tuple #[C4.zero.val, .int .i64 7]) ∧ Below W.heap.size W w') := fun W hW => Cell_state hb s j m W (HK3.out.of_below hW).hoard hjl hlt hav
            clear hav
            unfold C4.val C4.zero at HCE
            go_wp2_with fail
            go_quiet (fail)
            go_wp2_with fail
            have hb1 : Below w3.heap.size w3 (wr.drewN nq) := below_drewN HBI.out nq
            refine (HTH.out _ hb1).mono ?_
            rintro e w5 ⟨rfl, rfl⟩
            go_wp2_with fail
            refine (HCE.out _ hb1).mono ?_
            rintro e w6 ⟨rfl, k6⟩
            have hb6 := hb1.trans (k6.mono hb1.size)
            go_wp2_with fail
            exact ⟨⟨j + 1, by omega, by go_num, hb6.alloc hb6.size _⟩, by simp [intOf]; omega⟩
          · rw [hav] at HTH
            by_cases hjD : j < s.D
            · have hjDi : (j : Int) < (s.D : Int) := by omega
              have HVA : Hid (∀ W, Below w3.heap.size w3 W → Calls Try.prog 23 #[.pointer (some ⟨kb, 0, none⟩), .int .i64 j, .int .i64 m] W fun e w' => e = .returned (.tuple #[(blkC s.D f j m).val, .bool true]) ∧ Below W.heap.size W w') := fun W hW => by
                have h1 := kvalue_data kb bb hb s f V lo bu j m W (HK3.out.of_below hW) hjD hlt hav
                rw [HI.out.inv.data m hlt j hjD hav] at h1
                exact h1
              have HWA : Hid (∀ W, Below w3.heap.size w3 W → Calls Try.prog 24 #[.pointer (some ⟨kb, 0, none⟩), .int .i64 j, .int .i64 m] W fun e w' => e = .returned (blkC s.D f j m).val ∧ Below W.heap.size W w') := fun W hW => kblock_any kb bb hb s f V lo bu j m W (HK3.out.of_below hW) hjD hlt
              clear hav
              generalize blkC s.D f j m = X at *
              have HSC : Hid (∀ W, Calls Try.prog 26 #[.agg #[.int .u8 X.b0, .int .u8 X.b1, .int .u8 X.b2, .int .u8 X.b3], .agg #[.int .u8 X.b0, .int .u8 X.b1, .int .u8 X.b2, .int .u8 X.b3]] W fun e w' => e = .returned (.bool true) ∧ Below W.heap.size W w') := fun W => sameCell_eq X W
              unfold C4.val at HVA HWA
              go_wp2_with fail
              go_quiet (fail)
              go_wp2_with fail
              have hb1 : Below w3.heap.size w3 (wr.drewN nq) := below_drewN HBI.out nq
              refine (HTH.out _ hb1).mono ?_
              rintro e w5 ⟨rfl, rfl⟩
              go_wp2_with fail
              refine (HVA.out _ hb1).mono ?_
              rintro e w6 ⟨rfl, k6⟩
              have hb6 := hb1.trans (k6.mono hb1.size)
              have hb7 : Below w3.heap.size w3 ((w6.alloc (.cells #[.int .u8 X.b0, .int .u8 X.b1, .int .u8 X.b2, .int .u8 X.b3] 57)).alloc (.cells #[.int .u8 0, .int .u8 0, .int .u8 0, .int .u8 0] 57)) := (hb6.alloc hb6.size _).alloc (by have := hb6.size; simp; omega) _
              have hK7 := HK3.out.of_below hb7
              obtain ⟨_, x1, _⟩ := hK7.cells
              have hlt7 := hK7.row.lt
              have B7 : BoxAt ((w6.alloc (.cells #[.int .u8 X.b0, .int .u8 X.b1, .int .u8 X.b2, .int .u8 X.b3] 57)).alloc (.cells #[.int .u8 0, .int .u8 0, .int .u8 0, .int .u8 0] 57)) w6.heap.size X := (BoxAt.new _ _ _ rfl).alloc _
              have W7 : BoxAt ((w6.alloc (.cells #[.int .u8 X.b0, .int .u8 X.b1, .int .u8 X.b2, .int .u8 X.b3] 57)).alloc (.cells #[.int .u8 0, .int .u8 0, .int .u8 0, .int .u8 0] 57)) (w6.heap.size + 1) C4.zero := BoxAt.new0 _ _ (by simp)
              have HB7 : Hid (BoxAt ((w6.alloc (.cells #[.int .u8 X.b0, .int .u8 X.b1, .int .u8 X.b2, .int .u8 X.b3] 57)).alloc (.cells #[.int .u8 0, .int .u8 0, .int .u8 0, .int .u8 0] 57)) w6.heap.size X) := B7
              have HW7 : Hid (BoxAt ((w6.alloc (.cells #[.int .u8 X.b0, .int .u8 X.b1, .int .u8 X.b2, .int .u8 X.b3] 57)).alloc (.cells #[.int .u8 0, .int .u8 0, .int .u8 0, .int .u8 0] 57)) (w6.heap.size + 1) C4.zero) := W7
              have hs6 := hb6.size
              clear hK7 B7 W7 k6 hb6 hb1 c0 c1 c2 c3
              go_wp2_with fail
              generalize (w6.alloc (.cells #[.int .u8 X.b0, .int .u8 X.b1, .int .u8 X.b2, .int .u8 X.b3] 57)).alloc (.cells #[.int .u8 0, .int .u8 0, .int .u8 0, .int .u8 0] 57) = w7 at *
              generalize w6.heap.size = xb at *
              refine (HWA.out _ hb7).mono ?_
              rintro e w8 ⟨rfl, k8⟩
              have hb8 := hb7.trans (k8.mono hb7.size)
              have B8 := HB7.out.below k8
              have W8 := HW7.out.below k8
              obtain ⟨e0, e1, e2, e3⟩ := W8.cells
              obtain ⟨q0, q1, q2, q3⟩ := W8.frz
              obtain ⟨y0, y1, y2, y3⟩ := B8.cells
              have hwl := W8.lt
              have hbl := B8.lt
              have hb9 := below_set4 hb8 (g := xb + 1) (by omega) (.int .u8 X.b0) (.int .u8 X.b1) (.int .u8 X.b2) (.int .u8 X.b3)
              have HB9 : Hid (Below w3.heap.size w3 ((((w8.setCell ⟨xb + 1, 0, none⟩ (.int .u8 X.b0)).setCell ⟨xb + 1, 1, none⟩ (.int .u8 X.b1)).setCell ⟨xb + 1, 2, none⟩ (.int .u8 X.b2)).setCell ⟨xb + 1, 3, none⟩ (.int .u8 X.b3))) := hb9
              clear k8 hb8 hb7 B8 W8 hb9 HB7 HW7 x1
              go_wp2_with fail
              refine (HSC.out _).mono ?_
              rintro e w9 ⟨rfl, k9⟩
              have HB10 : Hid (Below w3.heap.size w3 w9) := HB9.out.trans (k9.mono HB9.out.size)
              clear k9 e0 e1 e2 e3 q0 q1 q2 q3 y0 y1 y2 y3
              go_wp2_with fail
              exact ⟨⟨j + 1, by omega, by go_num, HB10.out⟩, by simp [intOf]; omega⟩
            · have hjDi : ¬ ((j : Int) < (s.D : Int)) := by omega
              obtain ⟨pp, hpp⟩ : ∃ pp, j = s.D + pp := ⟨j - s.D, by omega⟩
              have hjp : (j : Int) - s.D = (pp : Int) := by omega
              have hpp2 : pp < 2 := by omega
              have HVA : Hid (∀ W, Below w3.heap.size w3 W → Calls Try.prog 23 #[.pointer (some ⟨kb, 0, none⟩), .int .i64 j, .int .i64 m] W fun e w' => e = .returned (.tuple #[(wsum s f j m s.D).val, .bool true]) ∧ Below W.heap.size W w') := fun W hW => by
                have h1 := kvalue_par kb bb hb s f V lo bu j m W (HK3.out.of_below hW) (by omega) hjl hlt hav
                rw [HI.out.inv.par m hlt j (by omega) hjl hav] at h1
                exact h1
              have HWA : Hid (∀ W, Below w3.heap.size w3 W → Calls Try.prog 25 #[.pointer (some ⟨kb, 0, none⟩), .int .i64 pp, .int .i64 m] W fun e w' => e = .returned (wsum s f j m s.D).val ∧ Below W.heap.size W w') := fun W hW => by
                have h1 := weighed_any kb bb hb s f V lo bu pp m W (HK3.out.of_below hW) hpp2 hlt
                rw [← hpp] at h1
                exact h1
              clear hpp
              clear hav
              generalize wsum s f j m s.D = X at *
              have HSC : Hid (∀ W, Calls Try.prog 26 #[.agg #[.int .u8 X.b0, .int .u8 X.b1, .int .u8 X.b2, .int .u8 X.b3], .agg #[.int .u8 X.b0, .int .u8 X.b1, .int .u8 X.b2, .int .u8 X.b3]] W fun e w' => e = .returned (.bool true) ∧ Below W.heap.size W w') := fun W => sameCell_eq X W
              unfold C4.val at HVA HWA
              go_wp2_with fail
              go_quiet (fail)
              go_wp2_with fail
              have hb1 : Below w3.heap.size w3 (wr.drewN nq) := below_drewN HBI.out nq
              refine (HTH.out _ hb1).mono ?_
              rintro e w5 ⟨rfl, rfl⟩
              go_wp2_with fail
              refine (HVA.out _ hb1).mono ?_
              rintro e w6 ⟨rfl, k6⟩
              have hb6 := hb1.trans (k6.mono hb1.size)
              have hb7 : Below w3.heap.size w3 ((w6.alloc (.cells #[.int .u8 X.b0, .int .u8 X.b1, .int .u8 X.b2, .int .u8 X.b3] 57)).alloc (.cells #[.int .u8 0, .int .u8 0, .int .u8 0, .int .u8 0] 57)) := (hb6.alloc hb6.size _).alloc (by have := hb6.size; simp; omega) _
              have hK7 := HK3.out.of_below hb7
              obtain ⟨_, x1, _⟩ := hK7.cells
              have hlt7 := hK7.row.lt
              have B7 : BoxAt ((w6.alloc (.cells #[.int .u8 X.b0, .int .u8 X.b1, .int .u8 X.b2, .int .u8 X.b3] 57)).alloc (.cells #[.int .u8 0, .int .u8 0, .int .u8 0, .int .u8 0] 57)) w6.heap.size X := (BoxAt.new _ _ _ rfl).alloc _
              have W7 : BoxAt ((w6.alloc (.cells #[.int .u8 X.b0, .int .u8 X.b1, .int .u8 X.b2, .int .u8 X.b3] 57)).alloc (.cells #[.int .u8 0, .int .u8 0, .int .u8 0, .int .u8 0] 57)) (w6.heap.size + 1) C4.zero := BoxAt.new0 _ _ (by simp)
              have HB7 : Hid (BoxAt ((w6.alloc (.cells #[.int .u8 X.b0, .int .u8 X.b1, .int .u8 X.b2, .int .u8 X.b3] 57)).alloc (.cells #[.int .u8 0, .int .u8 0, .int .u8 0, .int .u8 0] 57)) w6.heap.size X) := B7
              have HW7 : Hid (BoxAt ((w6.alloc (.cells #[.int .u8 X.b0, .int .u8 X.b1, .int .u8 X.b2, .int .u8 X.b3] 57)).alloc (.cells #[.int .u8 0, .int .u8 0, .int .u8 0, .int .u8 0] 57)) (w6.heap.size + 1) C4.zero) := W7
              have hs6 := hb6.size
              clear hK7 B7 W7 k6 hb6 hb1 c0 c1 c2 c3
              go_wp2_with fail
              generalize (w6.alloc (.cells #[.int .u8 X.b0, .int .u8 X.b1, .int .u8 X.b2, .int .u8 X.b3] 57)).alloc (.cells #[.int .u8 0, .int .u8 0, .int .u8 0, .int .u8 0] 57) = w7 at *
              generalize w6.heap.size = xb at *
              refine (HWA.out _ hb7).mono ?_
              rintro e w8 ⟨rfl, k8⟩
              have hb8 := hb7.trans (k8.mono hb7.size)
              have B8 := HB7.out.below k8
              have W8 := HW7.out.below k8
              obtain ⟨e0, e1, e2, e3⟩ := W8.cells
              obtain ⟨q0, q1, q2, q3⟩ := W8.frz
              obtain ⟨y0, y1, y2, y3⟩ := B8.cells
              have hwl := W8.lt
              have hbl := B8.lt
              have hb9 := below_set4 hb8 (g := xb + 1) (by omega) (.int .u8 X.b0) (.int .u8 X.b1) (.int .u8 X.b2) (.int .u8 X.b3)
              have HB9 : Hid (Below w3.heap.size w3 ((((w8.setCell ⟨xb + 1, 0, none⟩ (.int .u8 X.b0)).setCell ⟨xb + 1, 1, none⟩ (.int .u8 X.b1)).setCell ⟨xb + 1, 2, none⟩ (.int .u8 X.b2)).setCell ⟨xb + 1, 3, none⟩ (.int .u8 X.b3))) := hb9
              clear k8 hb8 hb7 B8 W8 hb9 HB7 HW7 x1
              go_wp2_with fail
              refine (HSC.out _).mono ?_
              rintro e w9 ⟨rfl, k9⟩
              have HB10 : Hid (Below w3.heap.size w3 w9) := HB9.out.trans (k9.mono HB9.out.size)
              clear k9 e0 e1 e2 e3 q0 q1 q2 q3 y0 y1 y2 y3
              go_wp2_with fail
              exact ⟨⟨j + 1, by omega, by go_num, HB10.out⟩, by simp [intOf]; omega⟩
        · have hjle : ¬ ((j : Int) < (s.D : Int) + s.P) := by omega
          clear hKi
          go_wp2_with fail
          go_quiet (fail)
          go_wp2_with fail
          exact ⟨⟨m + 1, by omega, by go_num, below_drewN HBI.out nq⟩, by simp [intOf]; omega⟩
    · have hlti : ¬ ((m : Int) < (s.R : Int)) := by omega
      go_wp2_with fail
      go_ret
      exact ⟨rfl, HB3.out.trans (HBR.out.mono HB3.out.size)⟩
end Go.Proofs.Ytfpoiikhhjdpdaa
