/- hoardkeep.Returned: the walk. -/
import Derived.Test.YtfpoiikhhjdpdabKLive
import Derived.Test.YtfpoiikhhjdpdabKCells
import Derived.Test.YtfpoiikhhjdpdabKWeigh
import Derived.Test.YtfpoiikhhjdpdabReturnedPure
namespace Go.Proofs.Ytfpoiikhhjdpdab
open Go.RowKit
set_option linter.unusedVariables false
attribute [local go_sem ↓] Go.wp_at_zero Go.wp_at_succ
set_option maxRecDepth 100000 in
set_option maxHeartbeats 1500000 in
theorem returned_walk (a b c d : Int) (wa : (Lit.int .i64 a).wf = true) (wb : (Lit.int .i64 b).wf = true) (wc : (Lit.int .i64 c).wf = true) (wd : (Lit.int .i64 d).wf = true) (a0 : Option Addr) (n cap : Nat) (mv : Nat → MvV) (wh ct : Int) (wwh : (Lit.int .i64 wh).wf = true) (wct : (Lit.int .i64 ct).wf = true) (w : World) (hn : n ≤ 10000000000000) (hm : MovesAt w a0 n mv) (hmo : ∀ i, i < n → (mv i).ok) :
    Calls Try.prog 3 #[.int .i64 a, .int .i64 b, .int .i64 c, .int .i64 d, .slice a0 n cap, .int .i64 wh, .int .i64 ct] w fun e w' => e = .returned (.bool true) ∧ Below w.heap.size w w' := by
  have q1 := pickN_lt a 4 (by omega)
  have q2 := pickN_lt b 2 (by omega)
  have q3 := pickN_lt c 6 (by omega)
  have q4 := pickN_lt d 8 (by omega)
  have HSH : Hid (∀ W, Calls Try.prog 9 #[.int .i64 a, .int .i64 b, .int .i64 c, .int .i64 d] W fun e w' => e = .returned (.agg #[.int .i64 (1 + pickN a 4 : Nat), .int .i64 (1 + pickN b 2 : Nat), .int .i64 (1 + pickN c 6 : Nat), .int .i64 (1 + pickN d 8 : Nat)]) ∧ Below W.heap.size W w') := fun W => kshape_any a b c d W (wf64 wa) (wf64 wb) (wf64 wc) (wf64 wd)
  generalize hD : 1 + pickN a 4 = D at *
  generalize hP : 1 + pickN b 2 = P at *
  generalize hR : 1 + pickN c 6 = R at *
  generalize hM : 1 + pickN d 8 = M at *
  have HS : Hid (shapeB D P R M = true) := (show _ = _ by simp only [shapeB, Bool.and_eq_true, decide_eq_true_eq]; omega)
  have HM : Hid (MovesAt w a0 n mv) := hm
  have HMO : Hid (∀ i, i < n → (mv i).ok) := hmo
  clear hD hP hR hM q1 q2 q3 q4 wa wb wc wd hm hmo
  go_enter Try.func3, Try.ntmps3
  go_wp2_with fail
  refine (HSH.out _).mono ?_
  rintro e w1 ⟨rfl, k1⟩
  have HB : Hid (∀ W, Calls Try.prog 8 #[.agg #[.int .i64 D, .int .i64 P, .int .i64 R, .int .i64 M]] W fun e w' => ∃ kb, e = .returned (.tuple #[.pointer (some ⟨kb, 0, none⟩), .bool true]) ∧ ∃ bb hb V, Lives W w' kb bb hb V D P R M 0) := fun W => begin_lives D P R M W HS.out
  go_wp2_with fail
  refine (HB.out _).mono ?_
  rintro e w2 ⟨kb, rfl, bb, hb, V, hst⟩
  have HST : Hid (Lives w1 w2 kb bb hb V D P R M 0) := hst
  have HM1 : Hid (MovesAt w1 a0 n mv) := HM.out.below k1
  have HB1 : Hid (Below w.heap.size w w1) := k1
  have HW1 : Hid (w.heap.size ≤ w1.heap.size) := k1.size
  clear hst k1 HSH HB
  go_wp2_with fail
  go_loopw [16, 17] (fun _ i wr => ∃ k : Nat, k ≤ n ∧ i = .int .i64 k ∧ Hid (Lives w1 wr kb bb hb V D P R M k)) (fun _ i _ => n - (intOf i).toNat)
  case atStart => exact ⟨0, by omega, rfl, HST⟩
  case round =>
    clear HST
    obtain ⟨k, hk, rfl, hS⟩ := hrel
    by_cases hlt : k < n
    · as_aux_lemma =>
      have hlti : (k : Int) < (n : Int) := by omega
      obtain ⟨mb, mo, rfl, m0, m1, m2, m3⟩ := HM1.out.below hS.out.below k hlt
      have hmok := HMO.out k hlt
      by_cases hkind : (mv k).k = 1
      · have HMV : Hid (∀ W : World, W.heap = wr.heap → W.os = wr.os → W.tape = wr.tape → W.output = wr.output → Calls Try.prog 10 #[.pointer (some ⟨kb, 0, none⟩), .agg #[.int .i64 1, .int .i64 (mv k).a, .int .i64 (mv k).b, .string (mv k).s]] W fun e w' => e = .returned (.bool true) ∧ Lives w1 w' kb bb hb V D P R M (k + 1)) := fun W e1 e2 e3 e4 => by
          have h1 := move_lives kb bb hb V D P R M k (mv k) W (hS.out.of_below ⟨e2, e3, e4, by rw [e1]; exact Nat.le_refl _, fun i _ => by rw [e1]⟩) hmok (by omega) (.inl hkind)
          rw [hkind] at h1; exact h1
        rw [hkind] at m0
        clear hkind hmok
        generalize mv k = o at *
        go_wp2_with fail
        refine Calls.mono (HMV.out _ (by rfl) (by rfl) (by rfl) (by rfl)) ?_
        rintro e w3 ⟨rfl, hS3⟩
        have HS3 : Hid (Lives w1 w3 kb bb hb V D P R M (k + 1)) := hS3
        clear hS3
        go_wp2_with fail
        exact ⟨⟨k + 1, by omega, by go_num, HS3⟩, by simp [intOf]; omega⟩
      · by_cases hkind2 : (mv k).k = 2
        · have HMV : Hid (∀ W : World, W.heap = wr.heap → W.os = wr.os → W.tape = wr.tape → W.output = wr.output → Calls Try.prog 10 #[.pointer (some ⟨kb, 0, none⟩), .agg #[.int .i64 2, .int .i64 (mv k).a, .int .i64 (mv k).b, .string (mv k).s]] W fun e w' => e = .returned (.bool true) ∧ Lives w1 w' kb bb hb V D P R M (k + 1)) := fun W e1 e2 e3 e4 => by
            have h1 := move_lives kb bb hb V D P R M k (mv k) W (hS.out.of_below ⟨e2, e3, e4, by rw [e1]; exact Nat.le_refl _, fun i _ => by rw [e1]⟩) hmok (by omega) (.inr hkind2)
            rw [hkind2] at h1; exact h1
          rw [hkind2] at m0
          clear hkind hkind2 hmok
          generalize mv k = o at *
          go_wp2_with fail
          refine Calls.mono (HMV.out _ (by rfl) (by rfl) (by rfl) (by rfl)) ?_
          rintro e w3 ⟨rfl, hS3⟩
          have HS3 : Hid (Lives w1 w3 kb bb hb V D P R M (k + 1)) := hS3
          clear hS3
          go_wp2_with fail
          exact ⟨⟨k + 1, by omega, by go_num, HS3⟩, by simp [intOf]; omega⟩
        · have hkn : ((mv k).k != 1) = true := by rw [bne_iff_ne]; exact hkind
          have hkn2 : ((mv k).k != 2) = true := by rw [bne_iff_ne]; exact hkind2
          have HS2 : Hid (Lives w1 wr kb bb hb V D P R M (k + 1)) := hS.out.mono (by omega)
          clear hkind hkind2 hmok
          generalize mv k = o at *
          go_wp2_with fail
          exact ⟨⟨k + 1, by omega, by go_num, HS2⟩, by simp [intOf]; omega⟩
    · have hlti : ¬ ((k : Int) < (n : Int)) := by omega
      obtain ⟨s, f, bu, hI, hbu, _, hsD, hsP, hsR, ⟨hsM, _⟩, hK⟩ := hS.out.ex
      clear hS HM1 HM HMO HS hn
      subst hsD hsP hsR hsM
      have hD1 := hK.hoard.ok.D1
      have hD4 := hK.hoard.ok.D4
      have hP1 := hK.hoard.ok.P1
      have hP2 := hK.hoard.ok.P2
      have hR1 := hK.hoard.ok.R1
      have hR6 := hK.hoard.ok.R6
      have HBE : Hid (bu = bu1) := (show _ = _ from funext fun d => funext fun r => hbu d r)
      obtain ⟨N, hN⟩ : ∃ N : Nat, s.D + s.P = N := ⟨_, rfl⟩
      have HNE : Hid (s.D + s.P = N) := hN
      have hwN : IntKind.i64.wrap ((s.D : Int) + (s.P : Int)) = (N : Int) := by rw [show (s.D : Int) + (s.P : Int) = (N : Int) by omega]; exact wrap_i64_small _ (by omega) (by omega)
      have hN6 : 2 ≤ N ∧ N ≤ 6 := by omega
      have p1 := pickN_lt wh N (by omega)
      have p2 := pickN_lt ct s.P (by omega)
      have A : Hid (∀ W, Calls Try.prog 11 #[.int .i64 wh, .int .i64 N] W fun e w' => e = .returned (.int .i64 (pickN wh N : Nat)) ∧ w' = W) := fun W => kpick_any wh N W (by omega) (by omega) (wf64 wwh)
      have B : Hid (∀ W, Calls Try.prog 11 #[.int .i64 ct, .int .i64 s.P] W fun e w' => e = .returned (.int .i64 (pickN ct s.P : Nat)) ∧ w' = W) := fun W => kpick_any ct s.P W (by omega) (by omega) (wf64 wct)
      generalize pickN wh N = x at *
      generalize pickN ct s.P = y at *
      obtain ⟨cc, hcc⟩ : ∃ cc : Nat, y + 1 = cc := ⟨_, rfl⟩
      have hwc : IntKind.i64.wrap (1 + (y : Int)) = (cc : Int) := by rw [show 1 + (y : Int) = (cc : Int) by omega]; exact wrap_i64_small _ (by omega) (by omega)
      have hcP : cc ≤ s.P := by omega
      have HLI : Hid (∀ k, k ≤ s.P → KInv (stLose s x N k) f (lostTo x N k) bu1) := fun k hk => by
        have := lose_inv hI hbu x k (by omega) hk
        rw [HNE.out] at this; exact this
      have HLS : Hid (∀ d, d < s.D + s.P → s.lost d = false) := fun d hd => hI.lost d hd
      have HK0 : Hid (KeepAt w1 wr kb bb hb (stLose s x N 0) f V (fun _ => false) bu) := hK
      obtain ⟨c0, c1, c2, c3, _⟩ := hK.cells
      have hltk := hK.row.lt
      clear hK hI hbu wwh wct hN hcc
      go_wp2_with fail
      go_quiet (fail)
      have HKa : Hid (KeepAt w1 (wr.drewN nq) kb bb hb (stLose s x N 0) f V (fun _ => false) bu) := HK0.out.of_below (below_drewN (Below.refl _ _) nq)
      clear c0 c1 c2 c3 hltk HK0
      generalize wr.drewN nq = wa at *
      obtain ⟨c0, c1, c2, c3, _⟩ := HKa.out.cells
      replace c2 : wa.cell? ⟨kb, 2, none⟩ = some (.int .i64 s.P) := c2
      have hltk := HKa.out.row.lt
      go_wp2_with fail
      refine (B.out _).mono ?_
      rintro e W ⟨rfl, rfl⟩
      have HKb : Hid (KeepAt w1 W kb bb hb (stLose s x N 0) f V (fun _ => false) bu) := HKa
      clear c0 c1 c2 c3 hltk HKa B
      go_wp2_with fail
      go_loopw [20, 21] (fun i _ wi => ∃ k : Nat, k ≤ cc ∧ i = .int .i64 k ∧ Hid (KeepAt w1 wi kb bb hb (stLose s x N k) f V (fun _ => false) bu)) (fun i _ _ => cc - (intOf i).toNat)
      case atStart => exact ⟨0, by omega, rfl, HKb⟩
      case round =>
        clear HKb
        obtain ⟨k', hk', rfl, hKk⟩ := hrel
        by_cases hltc : k' < cc
        · have hltci : (k' : Int) < (cc : Int) := by omega
          obtain ⟨q1, q2, q3, q4, q5, _⟩ := lose_props s x N k'
          obtain ⟨c0, _⟩ := hKk.out.cells
          have hltk := hKk.out.row.lt
          have hdN : (x + k') % N < N := Nat.mod_lt _ (by omega)
          have HLN : Hid ((stLose s x N k').lost ((x + k') % N) = false) := (show _ = _ by
            rw [q5, lostTo_new x N k' (by omega), Bool.false_or]
            exact HLS.out _ (by rw [HNE.out]; exact hdN))
          have HFA : Hid (∀ (W : World) (z : Int), z = (((x + k') % N : Nat) : Int) → HoardAt W hb (stLose s x N k') → Calls Try.prog 12 #[.pointer (some ⟨hb, 0, none⟩), .int .i64 z] W fun e w' => e = .returned (.int .i64 0) ∧ Went hb (stLose s x N k') W (stLose s x N (k' + 1)) w') := fun W z ez hW => by subst ez; exact Fail_ok hb (stLose s x N k') ((x + k') % N) W hW (by rw [q1, q2, HNE.out]; exact hdN) HLN.out
          have hx6 : x < 6 := by omega
          have hk3 : k' < 3 := by omega
          obtain ⟨xk, hxk⟩ : ∃ xk : Nat, x + k' = xk := ⟨_, rfl⟩
          have hwr : IntKind.i64.wrap ((x : Int) + (k' : Int)) = (xk : Int) := by rw [← hxk]; exact wrap_i64_small _ (by omega) (by omega)
          have hmod : (xk : Int).tmod (N : Int) = (((x + k') % N : Nat) : Int) := by rw [Int.tmod_eq_emod_of_nonneg (by omega), ← hxk]; simp
          generalize (x + k') % N = dk at *
          have hdk6 : dk < 6 := by omega
          clear hxk q1 q2 q3 q4 q5
          go_wp2_with fail
          go_region_with (first
            | (go_at_call 11; go_must (refine (A.out _).mono ?_); rintro e W ⟨rfl, rfl⟩)
            | (go_at_call 12; go_must (refine (HFA.out _ _ (by first | rfl | exact hmod | (rw [hwr]; exact hmod)) (hKk.out.hoard.heap (by rfl))).mono ?_); rintro e w3 ⟨rfl, went⟩; have went2 := wentUp_from (w := wr) went rfl rfl rfl rfl))
          all_goals
            have HK3 : Hid (KeepAt w1 w3 kb bb hb (stLose s x N (k' + 1)) f V (fun _ => false) bu) := hKk.out.went went2 rfl rfl rfl rfl
            clear went went2 c0 hltk
            go_wp2_with fail
            exact ⟨⟨k' + 1, by omega, by go_num, by first | exact HK3 | exact HK3.out.of_below (Below.refl _ _).drew⟩, by simp [intOf]; omega⟩
        · have hltci : ¬ ((k' : Int) < (cc : Int)) := by omega
          have hke : k' = cc := by omega
          subst hke
          obtain ⟨q1, q2, q3, q4, _⟩ := lose_props s x N k'
          have HSS : Hid (SameShape s (stLose s x N k')) := (show SameShape _ _ from ⟨q1, q2, q3, q4⟩)
          have HI0 : Hid (KInv (stLose s x N k') f (loR x N k' 0) bu1) := (show KInv _ _ _ _ by rw [loR_zero]; exact HLI.out k' hcP)
          clear q1 q2 q3 q4 HLI hltci hltc
          generalize stLose s x N k' = t0 at *
          go_wp2_with fail
          go_loopw [22, 23, 24, 25, 26, 27, 28, 29, 30, 31, 32, 33, 34, 35] (fun i _ _ _ _ _ _ _ _ _ _ _ _ _ wi => ∃ (k : Nat) (t : St), k ≤ k' ∧ i = .int .i64 k ∧ Hid (SameShape s t) ∧ Hid (KInv t f (loR x N k' k) bu1) ∧ Hid (KeepAt w1 wi kb bb hb t f V (fun _ => false) bu)) (fun i _ _ _ _ _ _ _ _ _ _ _ _ _ _ => k' - (intOf i).toNat)
          case atStart => exact ⟨0, t0, by omega, rfl, HSS, HI0, hKk⟩
          case round =>
            clear HSS HI0 hKk
            obtain ⟨j, t, hj, rfl, hSS, hIj, hKj⟩ := hrel
            by_cases hlj : j < k'
            · have hlji : (j : Int) < (k' : Int) := by omega
              have hdN : (x + j) % N < N := Nat.mod_lt _ (by omega)
              have hdt : (x + j) % N < t.D + t.P := by rw [hSS.out.D, hSS.out.P, HNE.out]; exact hdN
              have hxl := loR_new x N k' j hlj (by omega)
              have HBK : Hid (Back t f (loR x N k' j) ((x + j) % N)) := back_of hIj.out _ hdt hxl
              have HIK : Hid (KInv (stBack t ((x + j) % N)) f (loR x N k' (j + 1)) bu1) := (show KInv _ _ _ _ by rw [← loR_next x N k' j hlj]; exact HBK.out.inv)
              have HTL : Hid (t.lost ((x + j) % N) = true) := (show _ = _ from (hIj.out.lost _ hdt).trans hxl)
              have hx6 : x < 6 := by omega
              have hj3 : j < 3 := by omega
              obtain ⟨xk, hxk⟩ : ∃ xk : Nat, x + j = xk := ⟨_, rfl⟩
              have hwr : IntKind.i64.wrap ((x : Int) + (j : Int)) = (xk : Int) := by rw [← hxk]; exact wrap_i64_small _ (by omega) (by omega)
              have hmod : (xk : Int).tmod (N : Int) = (((x + j) % N : Nat) : Int) := by rw [Int.tmod_eq_emod_of_nonneg (by omega), ← hxk]; simp
              generalize (x + j) % N = dk at *
              have hdk6 : dk < 6 := by omega
              have hNz : (0 : Int) < (N : Int) := by omega
              have HRP : Hid (∀ W, HoardAt W hb t → Calls Try.prog 13 #[.pointer (some ⟨hb, 0, none⟩), .int .i64 dk] W fun e w' => e = .returned (.int .i64 0) ∧ Went hb t W (t.newDrive dk false t.R) w') := fun W hW => Replace_ok hb t dk W hW hdt HTL.out
              have HL1 : (t.newDrive dk false t.R).lost dk = false := by show (if dk = dk then false else _) = false; rw [if_pos rfl]
              have HD1 : Hid (∀ W, HoardAt W hb (t.newDrive dk false t.R) → Calls Try.prog 14 #[.pointer (some ⟨hb, 0, none⟩), .int .i64 dk] W fun e w' => e = .returned (.tuple #[.agg #[.bool false, .int .i64 s.R, .int .i64 0], .int .i64 0]) ∧ Below W.heap.size W w') := fun W hW => by
                have h1 := Drive_ok hb (t.newDrive dk false t.R) dk W hW hdt
                rw [HBK.out.ub0, HBK.out.recs0, HL1, hSS.out.R] at h1
                exact h1
              have HRB : Hid (∀ W, HoardAt W hb (t.newDrive dk false t.R) → Calls Try.prog 15 #[.pointer (some ⟨hb, 0, none⟩), .int .i64 dk, .int .i64 6] W fun e w' => e = .returned (.tuple #[.int .i64 s.R, .int .i64 0]) ∧ Went hb (t.newDrive dk false t.R) W (stBack t dk) w') := fun W hW => by
                have h1 := Rebuild_ok hb (t.newDrive dk false t.R) dk 6 W hW hdt HL1 (by omega) (by omega)
                rw [show (rbRun (t.newDrive dk false t.R) dk 6 (t.newDrive dk false t.R).R).2 = s.R from HBK.out.count.trans hSS.out.R] at h1
                exact h1
              have HD2 : Hid (∀ W, HoardAt W hb (stBack t dk) → Calls Try.prog 14 #[.pointer (some ⟨hb, 0, none⟩), .int .i64 dk] W fun e w' => e = .returned (.tuple #[.agg #[.bool false, .int .i64 0, .int .i64 0], .int .i64 0]) ∧ Below W.heap.size W w') := fun W hW => by
                have h1 := Drive_ok hb (stBack t dk) dk W hW (by rw [HBK.out.same.D, HBK.out.same.P]; exact hdt)
                rw [HBK.out.ub1, HBK.out.recs, HBK.out.lost] at h1
                exact h1
              have HCE : Hid (∀ r, r < s.R → ∀ W, HoardAt W hb (stBack t dk) → Calls Try.prog 16 #[.pointer (some ⟨hb, 0, none⟩), .int .i64 dk, .int .i64 r] W fun e w' => e = .returned (.tuple #[(if dk < s.D then blkC s.D f dk r else wsum s f dk r s.D).val, .int .i64 0]) ∧ Below W.heap.size W w') := fun r hr W hW => by
                have h1 := Cell_ok hb (stBack t dk) dk r W hW (by rw [HBK.out.same.D, HBK.out.same.P]; exact hdt) (by rw [HBK.out.same.R, hSS.out.R]; exact hr) (HBK.out.av r (by rw [hSS.out.R]; exact hr))
                rw [HBK.out.cell r (by rw [hSS.out.R]; exact hr), hSS.out.D] at h1
                rw [show wsum t f dk r s.D = wsum s f dk r s.D from wsum_congr (a := s.toAb) (b := t.toAb) hSS.out.D s.D (fun c _ => rfl)] at h1
                exact h1
              have HS1 : Hid (SameShape t (t.newDrive dk false t.R)) := ⟨rfl, rfl, rfl, rfl⟩
              have HS2 : Hid (SameShape (t.newDrive dk false t.R) (stBack t dk)) := (show SameShape _ _ from ⟨HBK.out.same.D, HBK.out.same.P, HBK.out.same.R, HBK.out.same.M⟩)
              have HS3 : Hid (SameShape s (stBack t dk)) := (show SameShape _ _ from hSS.out.trans HBK.out.same)
              clear hxk hxl HTL HL1 HBK hIj
              generalize stBack t dk = t2 at *
              generalize t.newDrive dk false t.R = t1 at *
              go_wp2_with fail
              refine (A.out _).mono ?_
              rintro e wa ⟨rfl, rfl⟩
              have HKa : Hid (KeepAt w1 wa kb bb hb t f V (fun _ => false) bu) := hKj
              clear hKj
              obtain ⟨c0, _⟩ := HKa.out.cells
              have hltk := HKa.out.row.lt
              go_wp2_with fail
              refine (HRP.out _ HKa.out.hoard).mono ?_
              rintro e w3 ⟨rfl, went⟩
              have HK3 : Hid (KeepAt w1 w3 kb bb hb t1 f V (fun _ => false) bu) := HKa.out.went went HS1.out.D HS1.out.P HS1.out.R HS1.out.M
              clear went c0 hltk HKa HRP
              obtain ⟨c0, _⟩ := HK3.out.cells
              have hltk := HK3.out.row.lt
              go_wp2_with fail
              refine (HD1.out _ HK3.out.hoard).mono ?_
              rintro e w4 ⟨rfl, k4⟩
              have hK5 := (HK3.out.of_below k4).of_below ((Below.refl _ _).alloc (Nat.le_refl _) (.cells #[.bool false, .int .i64 s.R, .int .i64 0] 42))
              have HK5 : Hid (KeepAt w1 (w4.alloc (.cells #[.bool false, .int .i64 s.R, .int .i64 0] 42)) kb bb hb t1 f V (fun _ => false) bu) := hK5
              have HX5 : Hid ((w4.alloc (.cells #[.bool false, .int .i64 s.R, .int .i64 0] 42)).rowIs w4.heap.size 42 3 (fun j => if j = 0 then .bool false else if j = 1 then .int .i64 s.R else .int .i64 0)) := box3_row _ _ rfl false s.R 0
              have HXF : Hid (∀ g, Foot hb t1 g → g < w4.heap.size) := fun g hg => (HK3.out.of_below k4).hoard.foot_lt hg
              obtain ⟨d0, _⟩ := (HK3.out.of_below k4).cells
              have hltk4 := (HK3.out.of_below k4).row.lt
              clear k4 hK5 c0 hltk HK3 HD1
              go_wp2_with fail
              clear d0 hltk4
              generalize w4.alloc (.cells #[.bool false, .int .i64 s.R, .int .i64 0] 42) = w5 at *
              generalize w4.heap.size = xb at *
              refine (HRB.out _ HK5.out.hoard).mono ?_
              rintro e w6 ⟨rfl, went⟩
              have hK6 := HK5.out.went went HS2.out.D HS2.out.P HS2.out.R HS2.out.M
              have HK6 : Hid (KeepAt w1 w6 kb bb hb t2 f V (fun _ => false) bu) := hK6
              have HX6 : Hid (w6.rowIs xb 42 3 (fun j => if j = 0 then .bool false else if j = 1 then .int .i64 s.R else .int .i64 0)) := (show World.rowIs _ _ _ _ _ from went.kept.row (fun hf => by have := HXF.out xb hf; omega) HX5.out)
              obtain ⟨c0, _⟩ := hK6.cells
              have hltk := hK6.row.lt
              clear went hK6 HK5 HX5 HXF HRB
              go_wp2_with fail
              refine (HD2.out _ HK6.out.hoard).mono ?_
              rintro e w7 ⟨rfl, k7⟩
              have hK7 := HK6.out.of_below k7
              have HK8 : Hid (KeepAt w1 (w7.alloc (.cells #[.bool false, .int .i64 0, .int .i64 0] 42)) kb bb hb t2 f V (fun _ => false) bu) := hK7.of_below ((Below.refl _ _).alloc (Nat.le_refl _) _)
              have HX7 := HX6.out.of_block (k7.block xb HX6.out.lt)
              have HX8 : Hid ((w7.alloc (.cells #[.bool false, .int .i64 0, .int .i64 0] 42)).rowIs xb 42 3 (fun j => if j = 0 then .bool false else if j = 1 then .int .i64 s.R else .int .i64 0)) := HX7.alloc _
              have HY8 : Hid ((w7.alloc (.cells #[.bool false, .int .i64 0, .int .i64 0] 42)).rowIs w7.heap.size 42 3 (fun j => if j = 0 then .bool false else if j = 1 then .int .i64 0 else .int .i64 0)) := box3_row _ _ rfl false 0 0
              obtain ⟨d0, _, _, d3, _⟩ := hK7.cells
              have hltk7 := hK7.row.lt
              clear k7 hK7 HX7 c0 hltk HD2 HK6 HX6
              go_wp2_with fail
              clear d0 d3 hltk7
              generalize w7.alloc (.cells #[.bool false, .int .i64 0, .int .i64 0] 42) = w8 at *
              generalize w7.heap.size = yb at *
              have x1 := HX8.out.cell (i := 1) (by omega)
              rw [if_neg (by omega), if_pos rfl] at x1
              have y0 := HY8.out.cell (i := 0) (by omega)
              have y1 := HY8.out.cell (i := 1) (by omega)
              have y2 := HY8.out.cell (i := 2) (by omega)
              rw [if_pos rfl] at y0
              rw [if_neg (by omega), if_pos rfl] at y1
              rw [if_neg (by omega), if_neg (by omega)] at y2
              have hxl := HX8.out.lt
              have hyl := HY8.out.lt
              obtain ⟨_, _, _, d3, _⟩ := HK8.out.cells
              rw [HS3.out.R] at d3
              have hltk := HK8.out.row.lt
              go_quiet (fail)
              have HK9 : Hid (KeepAt w1 (w8.drewN nq) kb bb hb t2 f V (fun _ => false) bu) := HK8.out.of_below (below_drewN (Below.refl _ _) nq)
              clear x1 y0 y1 y2 hxl hyl d3 hltk HK8 HX8 HY8
              generalize w8.drewN nq = w9 at *
              go_wp2_with fail
              go_loopw [31, 32, 33, 34, 35] (fun r _ _ _ _ wi => ∃ m : Nat, m ≤ s.R ∧ r = .int .i64 m ∧ Hid (KeepAt w1 wi kb bb hb t2 f V (fun _ => false) bu)) (fun r _ _ _ _ _ => s.R - (intOf r).toNat)
              case atStart => exact ⟨0, by omega, rfl, HK9⟩
              case round =>
                clear HK9
                obtain ⟨m, hm, rfl, hKm⟩ := hrel
                obtain ⟨c0, c1, _, c3, _⟩ := hKm.out.cells
                rw [HS3.out.R] at c3
                rw [HS3.out.D] at c1
                have hltk := hKm.out.row.lt
                by_cases hmR : m < s.R
                · have hmRi : (m : Int) < (s.R : Int) := by omega
                  by_cases hdD : dk < s.D
                  · have hdDi : (dk : Int) < (s.D : Int) := by omega
                    have HC1 : Hid (∀ W, HoardAt W hb t2 → Calls Try.prog 16 #[.pointer (some ⟨hb, 0, none⟩), .int .i64 dk, .int .i64 m] W fun e w' => e = .returned (.tuple #[(blkC s.D f dk m).val, .int .i64 0]) ∧ Below W.heap.size W w') := fun W hW => by
                      have h1 := HCE.out m hmR W hW
                      rw [if_pos hdD] at h1; exact h1
                    have HWA : Hid (∀ W, KeepAt w1 W kb bb hb t2 f V (fun _ => false) bu → Calls Try.prog 17 #[.pointer (some ⟨kb, 0, none⟩), .int .i64 dk, .int .i64 m] W fun e w' => e = .returned (blkC s.D f dk m).val ∧ Below W.heap.size W w') := fun W hW => by
                      have h1 := kblock_any kb bb hb t2 f V (fun _ => false) bu dk m W hW (by rw [HS3.out.D]; exact hdD) (by rw [HS3.out.R]; exact hmR)
                      rw [HS3.out.D] at h1; exact h1
                    generalize blkC s.D f dk m = X at *
                    have HSC : Hid (∀ W, Calls Try.prog 19 #[.agg #[.int .u8 X.b0, .int .u8 X.b1, .int .u8 X.b2, .int .u8 X.b3], .agg #[.int .u8 X.b0, .int .u8 X.b1, .int .u8 X.b2, .int .u8 X.b3]] W fun e w' => e = .returned (.bool true) ∧ Below W.heap.size W w') := fun W => sameCell_eq X W
                    unfold C4.val at HC1 HWA
                    go_wp2_with fail
                    refine (HC1.out _ hKm.out.hoard).mono ?_
                    rintro e w3 ⟨rfl, k3⟩
                    have hK3 := hKm.out.of_below k3
                    have HK3 : Hid (KeepAt w1 w3 kb bb hb t2 f V (fun _ => false) bu) := hK3
                    have HK4 : Hid (KeepAt w1 ((w3.alloc (.cells #[.int .u8 X.b0, .int .u8 X.b1, .int .u8 X.b2, .int .u8 X.b3] 48)).alloc (.cells #[.int .u8 0, .int .u8 0, .int .u8 0, .int .u8 0] 48)) kb bb hb t2 f V (fun _ => false) bu) := hK3.of_below (((Below.refl _ _).alloc (Nat.le_refl _) _).alloc (by simp) _)
                    have HL4 : Hid (Below w3.heap.size w3 ((w3.alloc (.cells #[.int .u8 X.b0, .int .u8 X.b1, .int .u8 X.b2, .int .u8 X.b3] 48)).alloc (.cells #[.int .u8 0, .int .u8 0, .int .u8 0, .int .u8 0] 48))) := ((Below.refl _ _).alloc (Nat.le_refl _) _).alloc (by simp) _
                    have HB4 : Hid (BoxAt ((w3.alloc (.cells #[.int .u8 X.b0, .int .u8 X.b1, .int .u8 X.b2, .int .u8 X.b3] 48)).alloc (.cells #[.int .u8 0, .int .u8 0, .int .u8 0, .int .u8 0] 48)) w3.heap.size X) := (BoxAt.new _ _ _ rfl).alloc _
                    have HW4 : Hid (BoxAt ((w3.alloc (.cells #[.int .u8 X.b0, .int .u8 X.b1, .int .u8 X.b2, .int .u8 X.b3] 48)).alloc (.cells #[.int .u8 0, .int .u8 0, .int .u8 0, .int .u8 0] 48)) (w3.heap.size + 1) C4.zero) := BoxAt.new0 _ _ (by simp)
                    obtain ⟨_, x1, _⟩ := hK3.cells
                    rw [HS3.out.D] at x1
                    have hlt3 := hK3.row.lt
                    clear k3 hK3 c0 c1 c3 hltk hKm HC1
                    go_wp2_with fail
                    clear x1 hlt3
                    generalize (w3.alloc (.cells #[.int .u8 X.b0, .int .u8 X.b1, .int .u8 X.b2, .int .u8 X.b3] 48)).alloc (.cells #[.int .u8 0, .int .u8 0, .int .u8 0, .int .u8 0] 48) = w4 at *
                    obtain ⟨xb2, hxb2⟩ : ∃ b, w3.heap.size = b := ⟨_, rfl⟩
                    have HE3 : Hid (w3.heap.size = xb2) := hxb2
                    rw [hxb2] at HB4 HW4 HL4 ⊢
                    clear hxb2
                    refine (HWA.out _ HK4.out).mono ?_
                    rintro e w5 ⟨rfl, k5⟩
                    have B5 := HB4.out.below k5
                    have W5 := HW4.out.below k5
                    obtain ⟨e0, e1, e2, e3⟩ := W5.cells
                    obtain ⟨q0, q1, q2, q3⟩ := W5.frz
                    obtain ⟨z0, z1, z2, z3⟩ := B5.cells
                    have hwl := W5.lt
                    have hbl := B5.lt
                    have HB9 : Hid (Below xb2 w3 ((((w5.setCell ⟨xb2 + 1, 0, none⟩ (.int .u8 X.b0)).setCell ⟨xb2 + 1, 1, none⟩ (.int .u8 X.b1)).setCell ⟨xb2 + 1, 2, none⟩ (.int .u8 X.b2)).setCell ⟨xb2 + 1, 3, none⟩ (.int .u8 X.b3))) := below_set4 (HL4.out.trans (k5.mono (by have := HB4.out.lt; omega))) (by omega) _ _ _ _
                    have HS9 : Hid (xb2 ≤ ((((w5.setCell ⟨xb2 + 1, 0, none⟩ (.int .u8 X.b0)).setCell ⟨xb2 + 1, 1, none⟩ (.int .u8 X.b1)).setCell ⟨xb2 + 1, 2, none⟩ (.int .u8 X.b2)).setCell ⟨xb2 + 1, 3, none⟩ (.int .u8 X.b3)).heap.size) := (show _ ≤ _ by simp; omega)
                    clear k5 B5 W5 HB4 HW4 HK4 HL4 HWA
                    go_wp2_with fail
                    refine (HSC.out _).mono ?_
                    rintro e w9 ⟨rfl, k9⟩
                    have HKZ : Hid (KeepAt w1 w9 kb bb hb t2 f V (fun _ => false) bu) := (show KeepAt _ _ _ _ _ _ _ _ _ _ from HK3.out.of_below (by rw [HE3.out]; exact HB9.out.trans (k9.mono HS9.out)))
                    clear k9 e0 e1 e2 e3 q0 q1 q2 q3 z0 z1 z2 z3
                    go_wp2_with fail
                    exact ⟨⟨m + 1, by omega, by go_num, HKZ⟩, by simp [intOf]; omega⟩
                  · have hdDi : ¬ ((dk : Int) < (s.D : Int)) := by omega
                    obtain ⟨pp, hpp⟩ : ∃ pp, dk = s.D + pp := ⟨dk - s.D, by omega⟩
                    have hjp : (dk : Int) - s.D = (pp : Int) := by omega
                    have hpp2 : pp < 2 := by have := HNE.out; omega
                    have HC1 : Hid (∀ W, HoardAt W hb t2 → Calls Try.prog 16 #[.pointer (some ⟨hb, 0, none⟩), .int .i64 dk, .int .i64 m] W fun e w' => e = .returned (.tuple #[(wsum s f dk m s.D).val, .int .i64 0]) ∧ Below W.heap.size W w') := fun W hW => by
                      have h1 := HCE.out m hmR W hW
                      rw [if_neg hdD] at h1; exact h1
                    have HWA : Hid (∀ W, KeepAt w1 W kb bb hb t2 f V (fun _ => false) bu → Calls Try.prog 18 #[.pointer (some ⟨kb, 0, none⟩), .int .i64 pp, .int .i64 m] W fun e w' => e = .returned (wsum s f dk m s.D).val ∧ Below W.heap.size W w') := fun W hW => by
                      have h1 := weighed_any kb bb hb t2 f V (fun _ => false) bu pp m W hW hpp2 (by rw [HS3.out.R]; exact hmR)
                      rw [HS3.out.D, ← hpp, show wsum t2 f dk m s.D = wsum s f dk m s.D from wsum_congr (a := s.toAb) (b := t2.toAb) HS3.out.D s.D (fun c _ => rfl)] at h1
                      exact h1
                    generalize wsum s f dk m s.D = X at *
                    have HSC : Hid (∀ W, Calls Try.prog 19 #[.agg #[.int .u8 X.b0, .int .u8 X.b1, .int .u8 X.b2, .int .u8 X.b3], .agg #[.int .u8 X.b0, .int .u8 X.b1, .int .u8 X.b2, .int .u8 X.b3]] W fun e w' => e = .returned (.bool true) ∧ Below W.heap.size W w') := fun W => sameCell_eq X W
                    unfold C4.val at HC1 HWA
                    clear hpp
                    go_wp2_with fail
                    refine (HC1.out _ hKm.out.hoard).mono ?_
                    rintro e w3 ⟨rfl, k3⟩
                    have hK3 := hKm.out.of_below k3
                    have HK3 : Hid (KeepAt w1 w3 kb bb hb t2 f V (fun _ => false) bu) := hK3
                    have HK4 : Hid (KeepAt w1 ((w3.alloc (.cells #[.int .u8 X.b0, .int .u8 X.b1, .int .u8 X.b2, .int .u8 X.b3] 48)).alloc (.cells #[.int .u8 0, .int .u8 0, .int .u8 0, .int .u8 0] 48)) kb bb hb t2 f V (fun _ => false) bu) := hK3.of_below (((Below.refl _ _).alloc (Nat.le_refl _) _).alloc (by simp) _)
                    have HL4 : Hid (Below w3.heap.size w3 ((w3.alloc (.cells #[.int .u8 X.b0, .int .u8 X.b1, .int .u8 X.b2, .int .u8 X.b3] 48)).alloc (.cells #[.int .u8 0, .int .u8 0, .int .u8 0, .int .u8 0] 48))) := ((Below.refl _ _).alloc (Nat.le_refl _) _).alloc (by simp) _
                    have HB4 : Hid (BoxAt ((w3.alloc (.cells #[.int .u8 X.b0, .int .u8 X.b1, .int .u8 X.b2, .int .u8 X.b3] 48)).alloc (.cells #[.int .u8 0, .int .u8 0, .int .u8 0, .int .u8 0] 48)) w3.heap.size X) := (BoxAt.new _ _ _ rfl).alloc _
                    have HW4 : Hid (BoxAt ((w3.alloc (.cells #[.int .u8 X.b0, .int .u8 X.b1, .int .u8 X.b2, .int .u8 X.b3] 48)).alloc (.cells #[.int .u8 0, .int .u8 0, .int .u8 0, .int .u8 0] 48)) (w3.heap.size + 1) C4.zero) := BoxAt.new0 _ _ (by simp)
                    obtain ⟨_, x1, _⟩ := hK3.cells
                    rw [HS3.out.D] at x1
                    have hlt3 := hK3.row.lt
                    clear k3 hK3 c0 c1 c3 hltk hKm HC1
                    go_wp2_with fail
                    clear x1 hlt3
                    generalize (w3.alloc (.cells #[.int .u8 X.b0, .int .u8 X.b1, .int .u8 X.b2, .int .u8 X.b3] 48)).alloc (.cells #[.int .u8 0, .int .u8 0, .int .u8 0, .int .u8 0] 48) = w4 at *
                    obtain ⟨xb2, hxb2⟩ : ∃ b, w3.heap.size = b := ⟨_, rfl⟩
                    have HE3 : Hid (w3.heap.size = xb2) := hxb2
                    rw [hxb2] at HB4 HW4 HL4 ⊢
                    clear hxb2
                    refine (HWA.out _ HK4.out).mono ?_
                    rintro e w5 ⟨rfl, k5⟩
                    have B5 := HB4.out.below k5
                    have W5 := HW4.out.below k5
                    obtain ⟨e0, e1, e2, e3⟩ := W5.cells
                    obtain ⟨q0, q1, q2, q3⟩ := W5.frz
                    obtain ⟨z0, z1, z2, z3⟩ := B5.cells
                    have hwl := W5.lt
                    have hbl := B5.lt
                    have HB9 : Hid (Below xb2 w3 ((((w5.setCell ⟨xb2 + 1, 0, none⟩ (.int .u8 X.b0)).setCell ⟨xb2 + 1, 1, none⟩ (.int .u8 X.b1)).setCell ⟨xb2 + 1, 2, none⟩ (.int .u8 X.b2)).setCell ⟨xb2 + 1, 3, none⟩ (.int .u8 X.b3))) := below_set4 (HL4.out.trans (k5.mono (by have := HB4.out.lt; omega))) (by omega) _ _ _ _
                    have HS9 : Hid (xb2 ≤ ((((w5.setCell ⟨xb2 + 1, 0, none⟩ (.int .u8 X.b0)).setCell ⟨xb2 + 1, 1, none⟩ (.int .u8 X.b1)).setCell ⟨xb2 + 1, 2, none⟩ (.int .u8 X.b2)).setCell ⟨xb2 + 1, 3, none⟩ (.int .u8 X.b3)).heap.size) := (show _ ≤ _ by simp; omega)
                    clear k5 B5 W5 HB4 HW4 HK4 HL4 HWA
                    go_wp2_with fail
                    refine (HSC.out _).mono ?_
                    rintro e w9 ⟨rfl, k9⟩
                    have HKZ : Hid (KeepAt w1 w9 kb bb hb t2 f V (fun _ => false) bu) := (show KeepAt _ _ _ _ _ _ _ _ _ _ from HK3.out.of_below (by rw [HE3.out]; exact HB9.out.trans (k9.mono HS9.out)))
                    clear k9 e0 e1 e2 e3 q0 q1 q2 q3 z0 z1 z2 z3
                    go_wp2_with fail
                    exact ⟨⟨m + 1, by omega, by go_num, HKZ⟩, by simp [intOf]; omega⟩
                · have hmRi : ¬ ((m : Int) < (s.R : Int)) := by omega
                  clear c0 c1
                  go_wp2_with fail
                  exact ⟨⟨j + 1, t2, by omega, by go_num, HS3, HIK, hKm⟩, by simp [intOf]; omega⟩
            · have hlji : ¬ ((j : Int) < (k' : Int)) := by omega
              have hje : j = k' := by omega
              subst hje
              have HIN : Hid (KInv t f (fun _ => false) bu) := (show KInv _ _ _ _ by
                have h1 := hIj.out
                rw [loR_end, ← HBE.out] at h1
                exact h1)
              clear hIj
              go_wp2_with fail
              refine (reads_any kb bb hb t f V (fun _ => false) bu wr hKj.out HIN.out).mono ?_
              rintro e wp ⟨rfl, kp⟩
              have HBQ : Hid (Below w.heap.size w wp) := HB1.out.trans ((hKj.out.of_below kp).below.mono HB1.out.size)
              clear kp
              go_wp2_with fail
              go_ret
              exact ⟨rfl, HBQ.out⟩
end Go.Proofs.Ytfpoiikhhjdpdab
