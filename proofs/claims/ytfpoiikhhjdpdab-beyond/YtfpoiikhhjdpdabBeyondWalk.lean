/- hoardkeep.Beyond: the walk. -/
import Derived.Test.YtfpoiikhhjdpdabKLive
import Derived.Test.YtfpoiikhhjdpdabKCells
import Derived.Test.YtfpoiikhhjdpdabBeyondPure
namespace Go.Proofs.Ytfpoiikhhjdpdab
open Go.RowKit
set_option linter.unusedVariables false
attribute [local go_sem ↓] Go.wp_at_zero Go.wp_at_succ
theorem lostTo_set (first n k : Nat) : setLo (lostTo first n k) ((first + k) % n) true = lostTo first n (k + 1) := by
  funext d
  unfold setLo
  simp only [lostTo]
  by_cases e : d = (first + k) % n
  · rw [if_pos e, decide_eq_true e, Bool.or_true]
  · rw [if_neg e, decide_eq_false e, Bool.or_false]
set_option maxRecDepth 100000 in
set_option maxHeartbeats 12000000 in
theorem beyond_walk (a b c d : Int) (wa : (Lit.int .i64 a).wf = true) (wb : (Lit.int .i64 b).wf = true) (wc : (Lit.int .i64 c).wf = true) (wd : (Lit.int .i64 d).wf = true) (a0 : Option Addr) (n cap : Nat) (mv : Nat → MvV) (wh : Int) (wwh : (Lit.int .i64 wh).wf = true) (w : World) (hn : n ≤ 10000000000000) (hm : MovesAt w a0 n mv) (hmo : ∀ i, i < n → (mv i).ok) :
    Calls Try.prog 4 #[.int .i64 a, .int .i64 b, .int .i64 c, .int .i64 d, .slice a0 n cap, .int .i64 wh] w fun e w' => e = .returned (.bool true) ∧ Below w.heap.size w w' := by
  have q1 := pickN_lt a 4 (by omega)
  have q2 := pickN_lt b 2 (by omega)
  have q3 := pickN_lt c 6 (by omega)
  have q4 := pickN_lt d 8 (by omega)
  have HSH : Hid (∀ W, Calls Try.prog 9 #[.int .i64 a, .int .i64 b, .int .i64 c, .int .i64 d] W fun e w' => e = .returned (.agg #[.int .i64 (1 + pickN a 4 : Nat), .int .i64 (1 + pickN b 2 : Nat), .int .i64 (1 + pickN c 6 : Nat), .int .i64 (1 + pickN d 8 : Nat)]) ∧ Below W.heap.size W w') := fun W => kshape_any a b c d W (wf64 wa) (wf64 wb) (wf64 wc) (wf64 wd)
  generalize hD : 1 + pickN a 4 = D at *
  generalize hP : 1 + pickN b 2 = P at *
  generalize hR : 1 + pickN c 6 = R at *
  generalize hM : 1 + pickN d 8 = M at *
  have HS : Hid (shapeB D P R M = true) := (show _ = _ by simp only [shapeB, Bool.and_eq_true, decide_eq_true_eq]; omega)
  have HM : Hid (MovesAt w a0 n mv) := hm
  have HMO : Hid (∀ i, i < n → (mv i).ok) := hmo
  clear hD hP hR hM q1 q2 q3 q4 wa wb wc wd hm hmo
  go_enter Try.func4, Try.ntmps4
  go_wp2_with fail
  refine (HSH.out _).mono ?_
  rintro e w1 ⟨rfl, k1⟩
  have HB : Hid (∀ W, Calls Try.prog 8 #[.agg #[.int .i64 D, .int .i64 P, .int .i64 R, .int .i64 M]] W fun e w' => ∃ kb, e = .returned (.tuple #[.pointer (some ⟨kb, 0, none⟩), .bool true]) ∧ ∃ bb hb V, Lives W w' kb bb hb V D P R M 0) := fun W => begin_lives D P R M W HS.out
  go_wp2_with fail
  refine (HB.out _).mono ?_
  rintro e w2 ⟨kb, rfl, bb, hb, V, hst⟩
  have HST : Hid (Lives w1 w2 kb bb hb V D P R M 0) := hst
  have HM1 : Hid (MovesAt w1 a0 n mv) := HM.out.below k1
  have HB1 : Hid (Below w.heap.size w w1) := k1
  have HW1 : Hid (w.heap.size ≤ w1.heap.size) := k1.size
  clear hst k1 HSH HB
  go_wp2_with fail
  go_loopw [14, 15] (fun _ i wr => ∃ k : Nat, k ≤ n ∧ i = .int .i64 k ∧ Hid (Lives w1 wr kb bb hb V D P R M k)) (fun _ i _ => n - (intOf i).toNat)
  case atStart => exact ⟨0, by omega, rfl, HST⟩
  case round =>
    clear HST
    obtain ⟨k, hk, rfl, hS⟩ := hrel
    by_cases hlt : k < n
    · as_aux_lemma =>
      have hlti : (k : Int) < (n : Int) := by omega
      obtain ⟨mb, mo, rfl, m0, m1, m2, m3⟩ := HM1.out.below hS.out.below k hlt
      have hmok := HMO.out k hlt
      by_cases hkind : (mv k).k = 1
      · have HMV : Hid (∀ W : World, W.heap = wr.heap → W.os = wr.os → W.tape = wr.tape → W.output = wr.output → Calls Try.prog 10 #[.pointer (some ⟨kb, 0, none⟩), .agg #[.int .i64 1, .int .i64 (mv k).a, .int .i64 (mv k).b, .string (mv k).s]] W fun e w' => e = .returned (.bool true) ∧ Lives w1 w' kb bb hb V D P R M (k + 1)) := fun W e1 e2 e3 e4 => by
          have h1 := move_lives kb bb hb V D P R M k (mv k) W (hS.out.of_below ⟨e2, e3, e4, by rw [e1]; exact Nat.le_refl _, fun i _ => by rw [e1]⟩) hmok (by omega) (.inl hkind)
          rw [hkind] at h1; exact h1
        rw [hkind] at m0
        clear hkind hmok
        generalize mv k = o at *
        go_wp2_with fail
        refine Calls.mono (HMV.out _ (by rfl) (by rfl) (by rfl) (by rfl)) ?_
        rintro e w3 ⟨rfl, hS3⟩
        have HS3 : Hid (Lives w1 w3 kb bb hb V D P R M (k + 1)) := hS3
        clear hS3
        go_wp2_with fail
        exact ⟨⟨k + 1, by omega, by go_num, HS3⟩, by simp [intOf]; omega⟩
      · have hkn : ((mv k).k != 1) = true := by rw [bne_iff_ne]; exact hkind
        have HS2 : Hid (Lives w1 wr kb bb hb V D P R M (k + 1)) := hS.out.mono (by omega)
        clear hkind hmok
        generalize mv k = o at *
        go_wp2_with fail
        exact ⟨⟨k + 1, by omega, by go_num, HS2⟩, by simp [intOf]; omega⟩
    · have hlti : ¬ ((k : Int) < (n : Int)) := by omega
      obtain ⟨s, f, bu, hI, hbu, _, hsD, hsP, hsR, ⟨hsM, _⟩, hK⟩ := hS.out.ex
      have HB3 : Hid (Below w.heap.size w wr) := (show Below _ _ _ from (by have h5 := hS.out.below; exact HB1.out.trans (h5.mono HB1.out.size)))
      clear hS HM1 HM HMO HS hn
      subst hsD hsP hsR hsM
      have hD4 := hK.hoard.ok.D4
      have hP2 := hK.hoard.ok.P2
      have hP1 := hK.hoard.ok.P1
      have hR6 := hK.hoard.ok.R6
      have hM8 := hK.hoard.ok.M8
      have p1 := pickN_lt wh s.D (by have := hK.hoard.ok.D1; omega)
      have hD1 := hK.hoard.ok.D1
      have A : Hid (∀ W, Calls Try.prog 11 #[.int .i64 wh, .int .i64 s.D] W fun e w' => e = .returned (.int .i64 (pickN wh s.D : Nat)) ∧ w' = W) := fun W => kpick_any wh s.D W (by omega) (by omega) (wf64 wwh)
      generalize pickN wh s.D = x at *
      have HI : Hid (KInv s f (fun _ => false) bu) := hI
      have HBU : Hid (∀ d r, bu d r = true) := hbu
      obtain ⟨c0, c1, c2, c3, _⟩ := hK.cells
      have hltk := hK.row.lt
      obtain ⟨N, hN⟩ : ∃ N : Nat, (s.D : Int) + (s.P : Int) = (N : Int) := ⟨s.D + s.P, by omega⟩
      have HNE : Hid (s.D + s.P = N) := (show _ = _ by omega)
      have hN6 : 2 ≤ N ∧ N ≤ 6 := by omega
      have HPN : Hid (s.P + 1 ≤ N) := (show _ ≤ _ by omega)
      have HK0 : Hid (KeepAt w1 wr kb bb hb (stLose s x N 0) f V (lostTo x N 0) bu) := hK
      clear hK hI hbu wwh
      go_wp2_with fail
      refine (A.out _).mono ?_
      rintro e W ⟨rfl, rfl⟩
      go_wp2_with fail
      go_quiet (fail)
      go_wp2_with fail
      have HK1 : Hid (KeepAt w1 (W.drewN nq) kb bb hb (stLose s x N 0) f V (lostTo x N 0) bu) := HK0.out.of_below (below_drewN (Below.refl _ _) nq)
      clear A c0 c1 c2 c3 hltk HK0
      generalize W.drewN nq = wl at *
      go_loopw [18, 19] (fun i _ wi => ∃ k : Nat, k ≤ s.P + 1 ∧ i = .int .i64 k ∧ Hid (KeepAt w1 wi kb bb hb (stLose s x N k) f V (lostTo x N k) bu)) (fun i _ _ => s.P + 1 - (intOf i).toNat)
      case atStart => exact ⟨0, by omega, rfl, HK1⟩
      case round =>
        clear HK1
        obtain ⟨k', hk', rfl, hKk⟩ := hrel
        obtain ⟨q1, q2, q3, q4, q5, _⟩ := lose_props s x N k'
        obtain ⟨c0, c1, c2, c3, c4, c5, c6, _⟩ := hKk.out.cells
        rw [q2] at c2
        have hltk := hKk.out.row.lt
        by_cases hltP : k' ≤ s.P
        · have hltPi : (k' : Int) ≤ (s.P : Int) := by omega
          have hdN : (x + k') % N < N := Nat.mod_lt _ (by omega)
          have HLN : Hid ((stLose s x N k').lost ((x + k') % N) = false) := (show _ = _ by
            rw [q5, lostTo_new x N k' (by have := HPN.out; omega), Bool.false_or]
            exact HI.out.lost _ (by rw [HNE.out]; exact hdN))
          have HFA : Hid (∀ W, HoardAt W hb (stLose s x N k') → Calls Try.prog 12 #[.pointer (some ⟨hb, 0, none⟩), .int .i64 ((x + k') % N : Nat)] W fun e w' => e = .returned (.int .i64 0) ∧ Went hb (stLose s x N k') W (stLose s x N (k' + 1)) w') := fun W hW => Fail_ok hb (stLose s x N k') ((x + k') % N) W hW (by rw [q1, q2, HNE.out]; exact hdN) HLN.out
          have HLS : Hid (setLo (lostTo x N k') ((x + k') % N) true = lostTo x N (k' + 1)) := lostTo_set x N k'
          have hx4 : x < 4 := by omega
          have hk3 : k' < 3 := by omega
          obtain ⟨xk, hxk⟩ : ∃ xk : Nat, x + k' = xk := ⟨_, rfl⟩
          have hwr : IntKind.i64.wrap ((x : Int) + (k' : Int)) = (xk : Int) := by rw [← hxk]; exact wrap_i64_small _ (by omega) (by omega)
          have hmod : (xk : Int).tmod (N : Int) = (((x + k') % N : Nat) : Int) := by rw [Int.tmod_eq_emod_of_nonneg (by omega), ← hxk]; simp
          have hmod2 : ((x : Int) + (k' : Int)).tmod (N : Int) = (((x + k') % N : Nat) : Int) := by rw [Int.tmod_eq_emod_of_nonneg (by omega)]; simp
          generalize (x + k') % N = dk at *
          have hdk6 : dk < 6 := by omega
          have Q1 : Hid ((stLose s x N k').D + (stLose s x N k').P = N) := (show _ = _ by rw [q1, q2]; exact HNE.out)
          clear hxk
          have hdki : (dk : Int) < (N : Int) := by omega
          have HFA2 : Hid (∀ (W : World) (z : Int), z = (dk : Int) → HoardAt W hb (stLose s x N k') → Calls Try.prog 12 #[.pointer (some ⟨hb, 0, none⟩), .int .i64 z] W fun e w' => e = .returned (.int .i64 0) ∧ Went hb (stLose s x N k') W (stLose s x N (k' + 1)) w') := fun W z ez hW => by subst ez; exact HFA.out W hW
          have hSD : (stLose s x N (k' + 1)).D = (stLose s x N k').D ∧ (stLose s x N (k' + 1)).P = (stLose s x N k').P ∧ (stLose s x N (k' + 1)).R = (stLose s x N k').R ∧ (stLose s x N (k' + 1)).M = (stLose s x N k').M := ⟨rfl, rfl, rfl, rfl⟩
          have HSD : Hid _ := hSD
          clear hSD q1 q2 q3 q4 q5 c1 c3 c4 c5 c6
          go_wp2_with fail
          go_region_with ((go_at_call 12; go_must (refine (HFA2.out _ _ (by first | rfl | exact hmod | exact hmod2 | (rw [hwr]; exact hmod)) (hKk.out.hoard.heap (by rfl))).mono ?_); rintro e w3 ⟨rfl, went⟩; have went2 := wentUp_from (w := wr) went rfl rfl rfl rfl))
          all_goals
            have hK3 := hKk.out.went went2 HSD.out.1 HSD.out.2.1 HSD.out.2.2.1 HSD.out.2.2.2
            obtain ⟨g2, q2, e2, l2, f2, hg2⟩ := hK3.lostAt dk (by rw [HSD.out.1, HSD.out.2.1, Q1.out]; omega)
            obtain ⟨_, _, _, _, _, _, x6, _⟩ := hK3.cells
            rw [e2, HSD.out.1, HSD.out.2.1, Q1.out] at x6
            have hltk3 := hK3.row.lt
            have HK4 : Hid (KeepAt w1 (w3.setCell ⟨g2, dk, none⟩ (.bool true)) kb bb hb (stLose s x N (k' + 1)) f V (lostTo x N (k' + 1)) bu) := (show KeepAt _ _ _ _ _ _ _ _ _ _ by
              have h1 := hK3.setLost dk (by rw [HSD.out.1, HSD.out.2.1, Q1.out]; omega) true g2 q2 e2
              rw [HLS.out] at h1; exact h1)
            clear hK3 went went2 e2 c0 c2
            go_wp2_with fail
            go_region
            all_goals
              go_wp2_with fail
              exact ⟨⟨k' + 1, by omega, by go_num, HK4.out.of_below (Below.refl _ _).drew⟩, by simp [intOf]; omega⟩
        · have hltPi : ¬ ((k' : Int) ≤ (s.P : Int)) := by omega
          have hke : k' = s.P + 1 := by omega
          subst hke
          have HKQ : Hid (KeepAt w1 wr kb bb hb (stLose s x N (s.P + 1)) f V (lostTo x N (s.P + 1)) bu) := hKk
          have Q1 : Hid ((stLose s x N (s.P + 1)).D = s.D ∧ (stLose s x N (s.P + 1)).P = s.P ∧ (stLose s x N (s.P + 1)).R = s.R) := ⟨q1, q2, q3⟩
          have HBK : Hid (∀ j m, j < s.D → m < s.R → blkGone (stLose s x N (s.P + 1)).toAb (m * s.D + j) = lostTo x N (s.P + 1) j) := fun j m hj hm => by
            have := lose_blk HI.out HBU.out x j m p1 hj hm
            rw [HNE.out] at this; exact this
          have HBY : Hid (∀ j m, j < s.D → m < s.R → lostTo x N (s.P + 1) j = false → ∀ i, i < 4 → byteAt (stLose s x N (s.P + 1)).toAb ((m * s.D + j) * 4 + i) = (blkC s.D f j m).at i) := fun j m hj hm hl i hi => by
            have := lose_byte HI.out HBU.out x j m i hj hm (by rw [HNE.out]; exact hl) hi
            rw [HNE.out] at this; exact this
          clear q1 q2 q3 q4 q5 c0 c1 c3 c4 c5 c6 hKk
          generalize stLose s x N (s.P + 1) = tt at *
          generalize lostTo x N (s.P + 1) = lo at *
          go_wp2_with fail
          clear c2 hltPi hltP hltk
          go_loopw [20, 21, 22, 23, 24, 25, 26] (fun r _ _ _ _ _ _ wi => ∃ m : Nat, m ≤ s.R ∧ r = .int .i64 m ∧ Hid (KeepAt w1 wi kb bb hb tt f V lo bu)) (fun r _ _ _ _ _ _ _ => s.R - (intOf r).toNat)
          case atStart => exact ⟨0, by omega, rfl, HKQ⟩
          case round =>
            clear HKQ
            obtain ⟨m, hm, rfl, hKm⟩ := hrel
            obtain ⟨c0, c1, c2, c3, _⟩ := hKm.out.cells
            rw [Q1.out.1] at c1
            rw [Q1.out.2.2] at c3
            have hltm := hKm.out.row.lt
            by_cases hmR : m < s.R
            · have hmRi : (m : Int) < (s.R : Int) := by omega
              go_wp2_with fail
              clear c0 c1 c2 c3 hltm
              go_loopw [21, 22, 23, 24, 25, 26] (fun d _ _ _ _ _ wi => ∃ j : Nat, j ≤ s.D ∧ d = .int .i64 j ∧ Hid (KeepAt w1 wi kb bb hb tt f V lo bu)) (fun d _ _ _ _ _ _ => s.D - (intOf d).toNat)
              case atStart => exact ⟨0, by omega, rfl, hKm⟩
              case round =>
                clear hKm
                obtain ⟨j, hj, rfl, hKj⟩ := hrel
                obtain ⟨c0, c1, c2, c3, c4, c5, c6, _⟩ := hKj.out.cells
                rw [Q1.out.1] at c1
                have hltj := hKj.out.row.lt
                by_cases hjD : j < s.D
                · have hjDi : (j : Int) < (s.D : Int) := by omega
                  obtain ⟨mp, hmp⟩ : ∃ mp : Nat, m * s.D = mp := ⟨_, rfl⟩
                  have hmp24 : mp ≤ 20 := by rw [← hmp]; exact Nat.mul_le_mul (show m ≤ 5 by omega) hD4
                  have hm6 : m < 6 := by omega
                  have hj4 : j < 4 := by omega
                  obtain ⟨q4, hq4⟩ : ∃ q4 : Nat, (mp + j) * 4 = q4 := ⟨_, rfl⟩
                  obtain ⟨qq, hqq⟩ : ∃ qq : Nat, mp + j = qq := ⟨_, rfl⟩
                  have hw1 : IntKind.i64.wrap ((m : Int) * (s.D : Int)) = (mp : Int) := by
                    rw [show (m : Int) * (s.D : Int) = (mp : Int) by rw [← hmp]; simp]
                    exact wrap_i64_small _ (by omega) (by omega)
                  have hw2 : IntKind.i64.wrap ((mp : Int) + (j : Int)) = (qq : Int) := by
                    rw [show (mp : Int) + (j : Int) = (qq : Int) by omega]
                    exact wrap_i64_small _ (by omega) (by omega)
                  have hw3 : IntKind.i64.wrap ((qq : Int) * 4) = (q4 : Int) := by
                    rw [show (qq : Int) * 4 = (q4 : Int) by omega]
                    exact wrap_i64_small _ (by omega) (by omega)
                  have HMP : Hid (m * s.D = mp) := hmp
                  have HQQ : Hid (mp + j = qq) := hqq
                  have HQ4 : Hid ((mp + j) * 4 = q4) := hq4
                  have hq96 : q4 ≤ 92 := by omega
                  have hqR : (mp + j) * 4 + 4 ≤ s.D * s.R * 4 := by
                    have h1 : (m + 1) * s.D ≤ s.R * s.D := Nat.mul_le_mul_right _ (by omega)
                    rw [Nat.add_mul, Nat.mul_comm s.R s.D] at h1
                    omega
                  obtain ⟨g1, cq, e1, l1, f1, hg1⟩ := hKj.out.lostAt j (by rw [Q1.out.1]; omega)
                  rw [e1, Q1.out.1, Q1.out.2.1] at c6
                  have HH : Hid (HoardAt wr hb tt) := hKj.out.hoard
                  have HHB : Hid (hasB tt ((q4 : Nat) : Int) ((4 : Nat) : Int) = true) := hasB_of hKj.out (n := 4) (by rw [Q1.out.1, Q1.out.2.2]; omega)
                  have HHC : Hid (hasB tt ((q4 + 1 : Nat) : Int) ((2 : Nat) : Int) = true) := hasB_of hKj.out (n := 2) (by rw [Q1.out.1, Q1.out.2.2]; omega)
                  have HAN : Hid (anyGone tt.toAb q4 (blkEnd q4 4 - q4 / 4) = lo j) := (show _ = _ by rw [any_one tt.toAb q4 4 (mp + j) (by omega) (by omega) (by omega), ← hmp, HBK.out j m hjD hmR])
                  have HAM : Hid (anyGone tt.toAb (q4 + 1) (blkEnd (q4 + 1) 2 - (q4 + 1) / 4) = lo j) := (show _ = _ by rw [any_one tt.toAb (q4 + 1) 2 (mp + j) (by omega) (by omega) (by omega), ← hmp, HBK.out j m hjD hmR])
                  clear hmp hqq hq4 hqR e1
                  cases hlo : lo j
                  · rw [hlo] at l1 HAN
                    have HRD : Hid (∀ (W : World) (z : Int), z = (q4 : Int) → HoardAt W hb tt → Calls Try.prog 21 #[.pointer (some ⟨hb, 0, none⟩), .int .i64 z, .int .i64 4] W fun e w' => ∃ g, e = .returned (.tuple #[.slice (some ⟨g, 0, none⟩) 4 4, .int .i64 0]) ∧ W.heap.size ≤ g ∧ w'.rowIs g 5 4 (fun i => .int .u8 (byteAt tt (q4 + i) : Nat)) ∧ Below W.heap.size W w') := fun W z ez hW => by subst ez; exact Read_ok hb tt q4 4 W hW HHB.out HAN.out
                    have HBL : Hid (∀ W, KeepAt w1 W kb bb hb tt f V lo bu → Calls Try.prog 17 #[.pointer (some ⟨kb, 0, none⟩), .int .i64 j, .int .i64 m] W fun e w' => e = .returned (blkC s.D f j m).val ∧ Below W.heap.size W w') := fun W hW => by
                      have h1 := kblock_any kb bb hb tt f V lo bu j m W hW (by rw [Q1.out.1]; exact hjD) (by rw [Q1.out.2.2]; exact hmR)
                      rw [Q1.out.1] at h1; exact h1
                    have HYB : Hid (∀ i, i < 4 → byteAt tt (q4 + i) = (blkC s.D f j m).at i) := fun i hi => by
                      have h1 := HBY.out j m hjD hmR hlo i hi
                      rw [HMP.out, HQ4.out] at h1; exact h1
                    have HXO : Hid ((blkC s.D f j m).ok) := (show C4.ok _ from blkC_ok hKj.out.bound j m)
                    generalize blkC s.D f j m = X at *
                    unfold C4.val at HBL
                    go_wp2_with fail
                    go_region_with ((go_at_call 21; go_must (refine (HRD.out _ _ (by first | rfl | exact hw3 | (rw [hw1, hw2, hw3])) (HH.out.heap (by rfl))).mono ?_); rintro e w3 ⟨g, rfl, hg, hrow, k3⟩; have K3 : Below wr.heap.size wr w3 := below_from k3 rfl rfl rfl rfl))
                    all_goals
                      have hK3 := hKj.out.of_below K3
                      obtain ⟨d0, d1, _, _, _, _, d6, _⟩ := hK3.cells
                      rw [Q1.out.1] at d1
                      obtain ⟨g2, cq2, e2, l2, f2, hg2⟩ := hK3.lostAt j (by rw [Q1.out.1]; omega)
                      rw [e2, Q1.out.1, Q1.out.2.1] at d6
                      rw [hlo] at l2
                      have hltk3 := hK3.row.lt
                      have HK3 : Hid (KeepAt w1 w3 kb bb hb tt f V lo bu) := hK3
                      have HRW : Hid (w3.rowIs g 5 4 (fun i => .int .u8 (byteAt tt (q4 + i) : Nat))) := hrow
                      have hjN : (j : Int) < ((s.D + s.P : Nat) : Int) := by omega
                      clear hK3 e2 k3 hrow hg c0 c1 c2 c3 c4 c5 c6 l1 f1 hg1 HRD
                      go_wp2_with fail
                      refine (HBL.out _ (by first | exact HK3.out | exact HK3.out.of_below (Below.refl _ _).drew)).mono ?_
                      rintro e w5 ⟨rfl, k5⟩
                      have K5 : Below w3.heap.size w3 w5 := below_from k5 rfl rfl rfl rfl
                      have HK6 : Hid (KeepAt w1 (w5.alloc (.cells #[.int .u8 X.b0, .int .u8 X.b1, .int .u8 X.b2, .int .u8 X.b3] 48)) kb bb hb tt f V lo bu) := (HK3.out.of_below K5).of_below ((Below.refl _ _).alloc (Nat.le_refl _) _)
                      have HA6 : Hid (BytesAt (w5.alloc (.cells #[.int .u8 X.b0, .int .u8 X.b1, .int .u8 X.b2, .int .u8 X.b3] 48)) (some ⟨g, 0, none⟩) 4 X.at) := fun i hi => ⟨g, 0, rfl, by
                        have h1 := (HRW.out.of_block (K5.block g HRW.out.lt)).alloc (.cells #[.int .u8 X.b0, .int .u8 X.b1, .int .u8 X.b2, .int .u8 X.b3] 48)
                        have h2 := h1.cell (i := i) hi
                        rw [HYB.out i hi] at h2
                        rw [Nat.zero_add]; exact h2, C4.at_lt HXO.out i⟩
                      have HB6 : Hid (BytesAt (w5.alloc (.cells #[.int .u8 X.b0, .int .u8 X.b1, .int .u8 X.b2, .int .u8 X.b3] 48)) (some ⟨w5.heap.size, 0, none⟩) 4 X.at) := fun i hi => ⟨w5.heap.size, 0, rfl, by
                        have h2 := World.rowIs.cell (BoxAt.new w5 X _ rfl) (i := i) hi
                        rw [Nat.zero_add]; exact h2, C4.at_lt HXO.out i⟩
                      clear K5 k5 d0 d1 d6 l2 f2 hg2 hltk3
                      go_wp2_with fail
                      generalize w5.alloc (.cells #[.int .u8 X.b0, .int .u8 X.b1, .int .u8 X.b2, .int .u8 X.b3] 48) = w6 at *
                      generalize w5.heap.size = xb at *
                      refine (ksame_eq _ _ 4 _ _ X.at w6 (by omega) HA6.out HB6.out).mono ?_
                      rintro e w7 ⟨rfl, q7, rfl⟩
                      have HK7 : Hid (KeepAt w1 (w6.drewN q7) kb bb hb tt f V lo bu) := HK6.out.of_below (below_drewN (Below.refl _ _) q7)
                      clear HA6 HB6 HK6 HRW
                      generalize w6.drewN q7 = w8 at *
                      go_wp2_with fail
                      exact ⟨⟨j + 1, by omega, by go_num, HK7⟩, by simp [intOf]; omega⟩
                  · rw [hlo] at l1 HAN HAM
                    have HRD : Hid (∀ (W : World) (z : Int), z = (q4 : Int) → HoardAt W hb tt → Calls Try.prog 21 #[.pointer (some ⟨hb, 0, none⟩), .int .i64 z, .int .i64 4] W fun e w' => e = .returned (.tuple #[.slice none 0 0, .int .i64 5]) ∧ Below W.heap.size W w') := fun W z ez hW => by subst ez; exact Read_lost hb tt q4 4 W hW HHB.out HAN.out
                    have HWR : Hid (∀ (W : World) (z : Int) (p : Option Addr) (cp : Nat), z = ((q4 + 1 : Nat) : Int) → HoardAt W hb tt → Calls Try.prog 22 #[.pointer (some ⟨hb, 0, none⟩), .int .i64 z, .slice p 2 cp] W fun e w' => e = .returned (.int .i64 5) ∧ Below W.heap.size W w') := fun W z p cp ez hW => by subst ez; exact Write_lost hb tt (q4 + 1) p 2 cp W hW HHC.out HAM.out
                    go_wp2_with fail
                    go_region_with ((go_at_call 21; go_must (refine (HRD.out _ _ (by first | rfl | exact hw3 | (rw [hw1, hw2, hw3])) (HH.out.heap (by rfl))).mono ?_); rintro e w3 ⟨rfl, k3⟩; have K3 : Below wr.heap.size wr w3 := below_from k3 rfl rfl rfl rfl))
                    all_goals
                      have hK3 := hKj.out.of_below K3
                      obtain ⟨d0, d1, _, _, _, _, d6, _⟩ := hK3.cells
                      rw [Q1.out.1] at d1
                      obtain ⟨g2, cq2, e2, l2, f2, hg2⟩ := hK3.lostAt j (by rw [Q1.out.1]; omega)
                      rw [e2, Q1.out.1, Q1.out.2.1] at d6
                      rw [hlo] at l2
                      have hltk3 := hK3.row.lt
                      have HK3 : Hid (KeepAt w1 w3 kb bb hb tt f V lo bu) := hK3
                      have hjN : (j : Int) < ((s.D + s.P : Nat) : Int) := by omega
                      have hw4 : IntKind.i64.wrap ((q4 : Int) + 1) = ((q4 + 1 : Nat) : Int) := wrap_i64_small _ (by omega) (by omega)
                      clear hK3 e2 k3 c0 c1 c2 c3 c4 c5 c6 l1 f1 hg1
                      go_wp2_with fail
                      go_region_with ((go_at_call 22; go_must (refine (HWR.out _ _ _ _ (by first | rfl | exact hw4 | omega) (HK3.out.hoard.below (by repeat (first | exact Below.refl _ _ | refine Below.drew ?_ | refine Below.alloc ?_ (by simp <;> omega) _)))).mono ?_); rintro e w5 ⟨rfl, k5⟩; have K5 : Below w3.heap.size w3 w5 := Below.trans (by repeat (first | exact Below.refl _ _ | refine Below.drew ?_ | refine Below.alloc ?_ (by simp <;> omega) _)) (k5.mono (by simp <;> omega))))
                      all_goals
                        have HK5 : Hid (KeepAt w1 w5 kb bb hb tt f V lo bu) := HK3.out.of_below K5
                        clear K5 k5
                        go_wp2_with fail
                        exact ⟨⟨j + 1, by omega, by go_num, HK5⟩, by simp [intOf]; omega⟩
                · have hjDi : ¬ ((j : Int) < (s.D : Int)) := by omega
                  go_wp2_with fail
                  exact ⟨⟨m + 1, by omega, by go_num, hKj⟩, by simp [intOf]; omega⟩
            · have hmRi : ¬ ((m : Int) < (s.R : Int)) := by omega
              go_wp2_with fail
              go_ret
              exact ⟨rfl, HB1.out.trans (hKm.out.below.mono HB1.out.size)⟩
end Go.Proofs.Ytfpoiikhhjdpdab
