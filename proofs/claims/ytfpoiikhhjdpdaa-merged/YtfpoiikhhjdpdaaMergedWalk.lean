/- hoardkeep.Merged: the walk. -/
import Derived.Test.YtfpoiikhhjdpdaaKLive
import Derived.Test.YtfpoiikhhjdpdaaCounts
import Derived.Test.YtfpoiikhhjdpdaaKWeigh
import Derived.Test.YtfpoiikhhjdpdaaKValue
namespace Go.Proofs.Ytfpoiikhhjdpdaa
open Go.RowKit
set_option linter.unusedVariables false
attribute [local go_sem ↓] Go.wp_at_zero Go.wp_at_succ
set_option maxRecDepth 100000 in
set_option maxHeartbeats 8000000 in
theorem merged_walk (a b c d : Int) (wa : (Lit.int .i64 a).wf = true) (wb : (Lit.int .i64 b).wf = true) (wc : (Lit.int .i64 c).wf = true) (wd : (Lit.int .i64 d).wf = true) (a0 : Option Addr) (n cap : Nat) (mv : Nat → MvV) (wh ct : Int) (wwh : (Lit.int .i64 wh).wf = true) (wct : (Lit.int .i64 ct).wf = true) (w : World) (hn : n ≤ 10000000000000) (hm : MovesAt w a0 n mv) (hmo : ∀ i, i < n → (mv i).ok) :
    Calls Try.prog 8 #[.int .i64 a, .int .i64 b, .int .i64 c, .int .i64 d, .slice a0 n cap, .int .i64 wh, .int .i64 ct] w fun e w' => e = .returned (.bool true) ∧ Below w.heap.size w w' := by
  have q1 := pickN_lt a 4 (by omega)
  have q2 := pickN_lt b 2 (by omega)
  have q3 := pickN_lt c 6 (by omega)
  have q4 := pickN_lt d 8 (by omega)
  have HSH : Hid (∀ W, Calls Try.prog 12 #[.int .i64 a, .int .i64 b, .int .i64 c, .int .i64 d] W fun e w' => e = .returned (.agg #[.int .i64 (1 + pickN a 4 : Nat), .int .i64 (1 + pickN b 2 : Nat), .int .i64 (1 + pickN c 6 : Nat), .int .i64 (1 + pickN d 8 : Nat)]) ∧ Below W.heap.size W w') := fun W => kshape_any a b c d W (wf64 wa) (wf64 wb) (wf64 wc) (wf64 wd)
  generalize hD : 1 + pickN a 4 = D at *
  generalize hP : 1 + pickN b 2 = P at *
  generalize hR : 1 + pickN c 6 = R at *
  generalize hM : 1 + pickN d 8 = M at *
  have HS : Hid (shapeB D P R M = true) := (show _ = _ by simp only [shapeB, Bool.and_eq_true, decide_eq_true_eq]; omega)
  have HM : Hid (MovesAt w a0 n mv) := hm
  have HMO : Hid (∀ i, i < n → (mv i).ok) := hmo
  clear hD hP hR hM q1 q2 q3 q4 wa wb wc wd hm hmo
  go_enter Try.func8, Try.ntmps8
  go_wp2_with fail
  refine (HSH.out _).mono ?_
  rintro e w1 ⟨rfl, k1⟩
  have HB : Hid (∀ W, Calls Try.prog 11 #[.agg #[.int .i64 D, .int .i64 P, .int .i64 R, .int .i64 M]] W fun e w' => ∃ kb, e = .returned (.tuple #[.pointer (some ⟨kb, 0, none⟩), .bool true]) ∧ ∃ bb hb V, Lives W w' kb bb hb V D P R M 0) := fun W => begin_lives D P R M W HS.out
  go_wp2_with fail
  refine (HB.out _).mono ?_
  rintro e w2 ⟨kb, rfl, bb, hb, V, hst⟩
  have HST : Hid (Lives w1 w2 kb bb hb V D P R M 0) := hst
  have HM1 : Hid (MovesAt w1 a0 n mv) := HM.out.below k1
  have HB1 : Hid (Below w.heap.size w w1) := k1
  have HW1 : Hid (w.heap.size ≤ w1.heap.size) := k1.size
  clear hst k1 HSH HB
  go_wp2_with fail
  go_loopw [16, 17] (fun _ i wr => ∃ k : Nat, k ≤ n ∧ i = .int .i64 k ∧ Hid (Lives w1 wr kb bb hb V D P R M k)) (fun _ i _ => n - (intOf i).toNat)
  case atStart => exact ⟨0, by omega, rfl, HST⟩
  case round =>
    clear HST
    obtain ⟨k, hk, rfl, hS⟩ := hrel
    by_cases hlt : k < n
    · as_aux_lemma =>
      have hlti : (k : Int) < (n : Int) := by omega
      obtain ⟨mb, mo, rfl, m0, m1, m2, m3⟩ := HM1.out.below hS.out.below k hlt
      have hmok := HMO.out k hlt
      by_cases hkind : (mv k).k = 1
      · have HMV : Hid (∀ W : World, W.heap = wr.heap → W.os = wr.os → W.tape = wr.tape → W.output = wr.output → Calls Try.prog 27 #[.pointer (some ⟨kb, 0, none⟩), .agg #[.int .i64 1, .int .i64 (mv k).a, .int .i64 (mv k).b, .string (mv k).s]] W fun e w' => e = .returned (.bool true) ∧ Lives w1 w' kb bb hb V D P R M (k + 1)) := fun W e1 e2 e3 e4 => by
          have h1 := move_lives kb bb hb V D P R M k (mv k) W (hS.out.of_below ⟨e2, e3, e4, by rw [e1]; exact Nat.le_refl _, fun i _ => by rw [e1]⟩) hmok (by omega) (.inl hkind)
          rw [hkind] at h1; exact h1
        rw [hkind] at m0
        clear hkind hmok
        generalize mv k = o at *
        go_wp2_with fail
        refine Calls.mono (HMV.out _ (by rfl) (by rfl) (by rfl) (by rfl)) ?_
        rintro e w3 ⟨rfl, hS3⟩
        have HS3 : Hid (Lives w1 w3 kb bb hb V D P R M (k + 1)) := hS3
        clear hS3
        go_wp2_with fail
        exact ⟨⟨k + 1, by omega, by go_num, HS3⟩, by simp [intOf]; omega⟩
      · have hkn : ((mv k).k != 1) = true := by rw [bne_iff_ne]; exact hkind
        have HS2 : Hid (Lives w1 wr kb bb hb V D P R M (k + 1)) := hS.out.mono (by omega)
        clear hkind hmok
        generalize mv k = o at *
        go_wp2_with fail
        exact ⟨⟨k + 1, by omega, by go_num, HS2⟩, by simp [intOf]; omega⟩
    · have hlti : ¬ ((k : Int) < (n : Int)) := by omega
      obtain ⟨s, f, bu, hI, hbu, _, hsD, hsP, hsR, ⟨hsM, _⟩, hK⟩ := hS.out.ex
      have HB3 : Hid (Below w.heap.size w wr) := (show Below _ _ _ from (by have h5 := hS.out.below; exact HB1.out.trans (h5.mono HB1.out.size)))
      clear hS HM1 HM HMO HS hn
      subst hsD hsP hsR hsM
      have hD4 := hK.hoard.ok.D4
      have hP2 := hK.hoard.ok.P2
      have hP1 := hK.hoard.ok.P1
      have hR6 := hK.hoard.ok.R6
      have hM8 := hK.hoard.ok.M8
      have p1 := pickN_lt wh s.P (by omega)
      have p2 := pickN_lt ct 10 (by omega)
      have A : Hid (∀ W, Calls Try.prog 28 #[.int .i64 wh, .int .i64 s.P] W fun e w' => e = .returned (.int .i64 (pickN wh s.P : Nat)) ∧ ∃ q, w' = W.drewN q) := fun W => (kpick_any wh s.P W (by omega) (by omega) (wf64 wwh)).mono fun e w' ⟨h1, h2⟩ => ⟨h1, 0, h2⟩
      have B : Hid (∀ W, Calls Try.prog 28 #[.int .i64 ct, .int .i64 10] W fun e w' => e = .returned (.int .i64 (pickN ct 10 : Nat)) ∧ w' = W) := fun W => kpick_any ct 10 W (by omega) (by omega) (wf64 wct)
      generalize pickN wh s.P = x at *
      generalize pickN ct 10 = y at *
      have HK : Hid (KeepAt w1 wr kb bb hb s f V (fun _ => false) bu) := hK
      have HI : Hid (KInv s f (fun _ => false) bu) := hI
      have HBU : Hid (∀ d r, bu d r = true) := hbu
      obtain ⟨c0, c1, c2, c3, c4, _⟩ := hK.cells
      have hltk := hK.row.lt
      have hlen := hK.hoard.ok.len (s.D + x)
      obtain ⟨kk, hkk⟩ : ∃ kk : Nat, 1 + (y : Int) = (kk : Int) := ⟨1 + y, by omega⟩
      have hkk1 : 1 ≤ kk ∧ kk ≤ 11 := by omega
      generalize hdd : s.D + x = dd at *
      have hdx : (s.D : Int) + x = (dd : Int) := by omega
      have HDX : Hid (s.D + x = dd) := hdd
      have hddg : s.D ≤ dd := by omega
      have hddl : dd < s.D + s.P := by omega
      have HPAR : Hid (isParityB s (dd : Int) = true) := (show _ = _ by simp only [isParityB, decide_eq_true_eq]; omega)
      have HLO : Hid (s.lost dd = false) := hI.lost dd hddl
      have HLG : Hid (∀ W, HoardAt W hb s → Calls Try.prog 18 #[.pointer (some ⟨hb, 0, none⟩), .int .i64 dd] W fun e w' => ∃ v', e = .returned (.tuple #[v', .int .i64 0]) ∧ w'.ownsRow W.heap.size 59 5 v' (s.recs dd).length (recCells (s.recs dd)) ∧ Below W.heap.size W w') := fun W hW => Log_ok hb s dd W hW HPAR.out HLO.out
      have HMG : Hid (∀ W, HoardAt W hb s → Calls Try.prog 29 #[.pointer (some ⟨hb, 0, none⟩), .int .i64 dd, .int .i64 kk] W fun e w' => ∃ s', e = .returned (.tuple #[.int .i64 (min kk (s.recs dd).length : Nat), .int .i64 0]) ∧ s'.toAb = abMerge s.toAb dd kk ∧ Went hb s W s' w') := fun W hW => Merge_ok hb s dd kk W hW HPAR.out HLO.out (by omega) (by omega)
      clear hK hI hbu hdd wwh wct
      go_wp2_with fail
      go_quiet ((go_at_call 28; exact Calls.quiet_of (A.out _)))
      go_wp2_with fail
      have K2 : Below wr.heap.size wr (wr.drewN nq) := below_drewN (Below.refl _ _) nq
      have HK2 : Hid (KeepAt w1 (wr.drewN nq) kb bb hb s f V (fun _ => false) bu) := HK.out.of_below K2
      clear K2 HK c0 c1 c2 c3 c4 hltk A HB3
      generalize wr.drewN nq = w2' at *
      refine (HLG.out _ HK2.out.hoard).mono ?_
      rintro e w3 ⟨v3, rfl, hown, k3⟩
      have HOW : Hid (w3.ownsRow w2'.heap.size 59 5 v3 (s.recs dd).length (recCells (s.recs dd))) := hown
      have hK3 := HK2.out.of_below k3
      obtain ⟨d0, d1, d2, d3, d4, _⟩ := hK3.cells
      have hltk3 := hK3.row.lt
      have HK3 : Hid (KeepAt w1 w3 kb bb hb s f V (fun _ => false) bu) := hK3
      clear hown k3 hK3
      go_wp2_with fail
      refine (B.out _).mono ?_
      rintro e w3 ⟨rfl, rfl⟩
      go_wp2_with fail
      refine (HMG.out _ HK3.out.hoard).mono ?_
      rintro e w4 ⟨s4, rfl, hab, hwent⟩
      have hI4 : KInv s4 f (fun _ => false) bu := by rw [hab]; exact HI.out.merge dd kk hddg
      have hp4 := apply_props s.toAb dd ((s.recs dd).take kk)
      have i1 : s4.D = s.D := by show s4.toAb.D = _; rw [hab]; exact hp4.1.D
      have i2 : s4.P = s.P := by show s4.toAb.P = _; rw [hab]; exact hp4.1.P
      have i3 : s4.R = s.R := by show s4.toAb.R = _; rw [hab]; exact hp4.1.R
      have i4 : s4.M = s.M := by show s4.toAb.M = _; rw [hab]; exact hp4.1.M
      have i5 : s4.recs dd = (s.recs dd).drop kk := by
        show s4.toAb.recs dd = _
        rw [hab]
        show (if dd = dd then _ else _) = _
        rw [if_pos rfl]
      have hK4 := HK3.out.went hwent i1 i2 i3 i4
      have HK4 : Hid (KeepAt w1 w4 kb bb hb s4 f V (fun _ => false) bu) := hK4
      have HI4 : Hid (KInv s4 f (fun _ => false) bu) := hI4
      have hlg3 : LogAt w3 v3 (s.recs dd) := ⟨HOW.out.1, by
        rcases HOW.out.2 with hx | ⟨g, cc, cur, h1, h2, h3⟩
        · exact .inl hx
        · exact .inr ⟨g, cc, cur, h1, Nat.zero_le _, h3⟩⟩
      have hvb3 : ∀ g, v3.ownBlock = some g → w2'.heap.size ≤ g := fun g hg => (World.ownsRow.lt HOW.out g hg).1
      have hlg4 : LogAt w4 v3 (s.recs dd) := hlg3.of_block (fun g hg => hwent.kept.block g (hlg3.lt hg) (fun hf => by have := HK2.out.hoard.foot_lt hf; have := hvb3 g hg; omega))
      have HLG4 : Hid (∀ W, HoardAt W hb s4 → Calls Try.prog 18 #[.pointer (some ⟨hb, 0, none⟩), .int .i64 dd] W fun e w' => ∃ v', e = .returned (.tuple #[v', .int .i64 0]) ∧ w'.ownsRow W.heap.size 59 5 v' (s4.recs dd).length (recCells (s4.recs dd)) ∧ Below W.heap.size W w') := fun W hW => Log_ok hb s4 dd W hW (by simp only [isParityB, decide_eq_true_eq]; rw [i1, i2]; omega) (hI4.lost dd (by rw [i1, i2]; exact hddl))
      rw [i5] at HLG4
      have I1 : Hid (s4.D = s.D) := i1
      have I2 : Hid (s4.P = s.P) := i2
      have I3 : Hid (s4.R = s.R) := i3
      obtain ⟨e0, e1, e2, e3, _⟩ := hK4.cells
      rw [i1] at e1
      rw [i3] at e3
      have hltk4 := hK4.row.lt
      obtain ⟨p3, q3, hv3, hrec3⟩ := hlg4.slice
      have HREC3 : Hid (∀ k, k < (s.recs dd).length → ∃ g x, p3 = some ⟨g, 0, none⟩ ∧ g < w4.heap.size ∧ (s.recs dd)[k]? = some x ∧ w4.cell? ⟨g, k * 5, none⟩ = some (.int .i64 x.row) ∧ w4.cell? ⟨g, k * 5 + 1, none⟩ = some (.int .u8 x.c.b0) ∧ w4.cell? ⟨g, k * 5 + 2, none⟩ = some (.int .u8 x.c.b1) ∧ w4.cell? ⟨g, k * 5 + 3, none⟩ = some (.int .u8 x.c.b2) ∧ w4.cell? ⟨g, k * 5 + 4, none⟩ = some (.int .u8 x.c.b3)) := hrec3
      subst hv3
      have HVA4 : Hid (∀ W m, m < s.R → KeepAt w1 W kb bb hb s4 f V (fun _ => false) bu → Calls Try.prog 23 #[.pointer (some ⟨kb, 0, none⟩), .int .i64 dd, .int .i64 (m : Nat)] W fun e w' => e = .returned (.tuple #[(wsum s4 f dd m s4.D).val, .bool true]) ∧ Below W.heap.size W w') := fun W m hm hW => by
        have hav := (HI4.out.live HBU.out) dd m (by rw [I1.out, I2.out]; exact hddl) (by rw [I3.out]; exact hm)
        have h1 := kvalue_par kb bb hb s4 f V (fun _ => false) bu dd m W hW (by rw [I1.out]; exact hddg) (by rw [I1.out, I2.out]; exact hddl) (by rw [I3.out]; exact hm) hav
        rw [HI4.out.inv.par m (by rw [I3.out]; exact hm) dd (by rw [I1.out]; exact hddg) (by rw [I1.out, I2.out]; exact hddl) hav] at h1
        exact h1
      have HWA4 : Hid (∀ W m, m < s.R → KeepAt w1 W kb bb hb s4 f V (fun _ => false) bu → Calls Try.prog 25 #[.pointer (some ⟨kb, 0, none⟩), .int .i64 x, .int .i64 (m : Nat)] W fun e w' => e = .returned (wsum s4 f dd m s4.D).val ∧ Below W.heap.size W w') := fun W m hm hW => by
        have h1 := weighed_any kb bb hb s4 f V (fun _ => false) bu x m W hW (by omega) (by rw [I3.out]; exact hm)
        rw [I1.out, HDX.out] at h1
        rw [I1.out]
        exact h1
      have hdx2 : (dd : Int) - (s.D : Int) = (x : Int) := by omega
      have hx2 : x < 2 := by omega
      clear hI4 hp4 i1 i2 i3 i4 i5 hK4 hlg3 hvb3 hlg4 hwent hab hrec3 d0 d1 d2 d3 d4 HOW HLG HMG HK3 HK2 hltk3 B HI HPAR HLO
      generalize hrs : s.recs dd = rs at *
      clear hrs
      generalize hln : rs.length = ln at *
      have HLN : Hid (rs.length = ln) := hln
      have hdl : (rs.drop kk).length = ln - kk := by rw [List.length_drop, hln]
      have hlnb : ln ≤ 8 := by omega
      clear hln hdx hkk hlen
      by_cases hyl : kk < ln
      · have hyli : (kk : Int) < (ln : Int) := by omega
        have hmin : min kk ln = kk := by omega
        rw [hmin]
        clear hmin
        go_wp2_with fail
        refine (HLG4.out _ HK4.out.hoard).mono ?_
        rintro e w5 ⟨v5, rfl, hown5, k5⟩
        have hlg5 : LogAt w5 v5 (rs.drop kk) := ⟨hown5.1, by
          rcases hown5.2 with hx | ⟨g, cc, cur, h1, h2, h3⟩
          · exact .inl hx
          · exact .inr ⟨g, cc, cur, h1, Nat.zero_le _, h3⟩⟩
        obtain ⟨p5, q5, hv5, hrec5⟩ := hlg5.slice
        rw [hdl] at hv5 hrec5
        subst hv5
        have HREC5 : Hid _ := hrec5
        have HB5 : Hid (Below w4.heap.size w4 w5) := k5
        have hK5 := HK4.out.of_below k5
        obtain ⟨x0, x1, x2, x3, _⟩ := hK5.cells
        rw [I1.out] at x1
        rw [I3.out] at x3
        have hltk5 := hK5.row.lt
        have HK5 : Hid (KeepAt w1 w5 kb bb hb s4 f V (fun _ => false) bu) := hK5
        clear hown5 k5 hlg5 hrec5 hK5 e0 e1 e2 e3 HLG4
        generalize hla : ln - kk = la at *
        have hlai : (ln : Int) - (kk : Int) = (la : Int) := by omega
        have HLA : Hid (kk < ln → ln = kk + la) := fun h => by omega
        clear hla hdl
        go_wp2_with fail
        clear hyli hlai x0 x1 x2 x3 hltk5
        go_loopw [27, 28] (fun i _ wi => ∃ j : Nat, j ≤ la ∧ i = .int .i64 j ∧ Below w5.heap.size w5 wi) (fun i _ _ => la - (intOf i).toNat)
        case atStart => exact ⟨0, by omega, rfl, Below.refl _ _⟩
        case round =>
          obtain ⟨j, hj, rfl, hbj⟩ := hrel
          have HBJ : Hid (Below w5.heap.size w5 wr) := hbj
          by_cases hjl : j < la
          · have hjli : (j : Int) < (la : Int) := by omega
            obtain ⟨g5, x5, rfl, hg5, hx5, y0, y1, y2, y3, y4⟩ := HREC5.out j hjl
            obtain ⟨mj, hmj⟩ : ∃ mj : Nat, kk + j = mj := ⟨_, rfl⟩
            obtain ⟨g3, x3', rfl, hg3, hx3, z0, z1, z2, z3, z4⟩ := HREC3.out mj (by have := HLA.out hyl; omega)
            have hxx : x3' = x5 := by
              rw [List.getElem?_drop, hmj, hx3] at hx5
              exact Option.some.inj hx5
            subst hxx
            have b0 := below_cell hbj y0
            have b1 := below_cell hbj y1
            have b2 := below_cell hbj y2
            have b3 := below_cell hbj y3
            have b4 := below_cell hbj y4
            have hb45 := HB5.out.trans (hbj.mono HB5.out.size)
            have d0 := below_cell hb45 z0
            have d1 := below_cell hb45 z1
            have d2 := below_cell hb45 z2
            have d3 := below_cell hb45 z3
            have d4 := below_cell hb45 z4
            have hmjl : (mj : Int) < (ln : Int) := by have := HLA.out hyl; omega
            have hmj8 : mj < 8 := by omega
            have hwr : IntKind.i64.wrap ((kk : Int) + (j : Int)) = (mj : Int) := by
              rw [show (kk : Int) + (j : Int) = (mj : Int) by omega]
              exact wrap_i64_small _ (by omega) (by omega)
            have hj8 : j < 8 := by omega
            have hg5r := block_lt_of_cell b0
            have hg3r := block_lt_of_cell d0
            simp only at hg5r hg3r
            have HSC : Hid (∀ W, Calls Try.prog 26 #[.agg #[.int .u8 x3'.c.b0, .int .u8 x3'.c.b1, .int .u8 x3'.c.b2, .int .u8 x3'.c.b3], .agg #[.int .u8 x3'.c.b0, .int .u8 x3'.c.b1, .int .u8 x3'.c.b2, .int .u8 x3'.c.b3]] W fun e w' => e = .returned (.bool true) ∧ Below W.heap.size W w') := fun W => sameCell_eq x3'.c W
            clear hx5 hx3 y0 y1 y2 y3 y4 z0 z1 z2 z3 z4 hb45 hmj
            go_wp2_with fail
            go_region_with ((go_at_call 26; go_must (refine Calls.mono (HSC.out _) ?_); rintro e w6 ⟨rfl, k6⟩; have K6 : Below wr.heap.size wr w6 := below_from k6 rfl rfl rfl rfl; have r0 := below_cell K6 b0; have r3 := below_cell K6 d0))
            all_goals
              have HK6 : Hid (Below w5.heap.size w5 w6) := (show Below _ _ _ from HBJ.out.trans (K6.mono HBJ.out.size))
              clear b0 b1 b2 b3 b4 d0 d1 d2 d3 d4 k6 K6
              go_wp2_with fail
              go_quiet (fail)
              go_wp2_with fail
              exact ⟨⟨j + 1, by omega, by go_num, below_drewN HK6.out _⟩, by simp [intOf]; omega⟩
          · have hjle : ¬ ((j : Int) < (la : Int)) := by omega
            clear hbj HREC3 HREC5 HB5 HLA HLN HDX HK4
            try clear hla0
            go_wp2_with fail
            clear hjle hj hjl
            go_loopw [29, 30, 31, 32] (fun r _ _ _ wi => ∃ m : Nat, m ≤ s.R ∧ r = .int .i64 m ∧ Hid (Below w5.heap.size w5 wi)) (fun r _ _ _ _ => s.R - (intOf r).toNat)
            case atStart => exact ⟨0, by omega, rfl, HBJ⟩
            case round =>
              clear HBJ
              obtain ⟨m, hm, rfl, hBm⟩ := hrel
              have hKm := HK5.out.of_below hBm.out
              obtain ⟨u0, u1, _, u3, _⟩ := hKm.cells
              rw [I1.out] at u1
              rw [I3.out] at u3
              have hltm := hKm.row.lt
              have HKm : Hid (KeepAt w1 wr kb bb hb s4 f V (fun _ => false) bu) := hKm
              clear hKm
              by_cases hltR : m < s.R
              · have hltRi : (m : Int) < (s.R : Int) := by omega
                have HVA : Hid (Calls Try.prog 23 #[.pointer (some ⟨kb, 0, none⟩), .int .i64 dd, .int .i64 m] wr fun e w' => e = .returned (.tuple #[(wsum s4 f dd m s4.D).val, .bool true]) ∧ Below wr.heap.size wr w') := HVA4.out wr m hltR HKm.out
                have HWA : Hid (∀ W, KeepAt w1 W kb bb hb s4 f V (fun _ => false) bu → Calls Try.prog 25 #[.pointer (some ⟨kb, 0, none⟩), .int .i64 x, .int .i64 m] W fun e w' => e = .returned (wsum s4 f dd m s4.D).val ∧ Below W.heap.size W w') := fun W hW => HWA4.out W m hltR hW
                generalize wsum s4 f dd m s4.D = X at *
                have HSC : Hid (∀ W, Calls Try.prog 26 #[.agg #[.int .u8 X.b0, .int .u8 X.b1, .int .u8 X.b2, .int .u8 X.b3], .agg #[.int .u8 X.b0, .int .u8 X.b1, .int .u8 X.b2, .int .u8 X.b3]] W fun e w' => e = .returned (.bool true) ∧ Below W.heap.size W w') := fun W => sameCell_eq X W
                unfold C4.val at HVA HWA
                go_wp2_with fail
                refine Calls.mono HVA.out ?_
                rintro e w6 ⟨rfl, k6⟩
                have hb7 : Below wr.heap.size wr (w6.alloc (.cells #[.int .u8 X.b0, .int .u8 X.b1, .int .u8 X.b2, .int .u8 X.b3] 57)) := k6.alloc k6.size _
                have HB7 : Hid (BoxAt (w6.alloc (.cells #[.int .u8 X.b0, .int .u8 X.b1, .int .u8 X.b2, .int .u8 X.b3] 57)) w6.heap.size X) := BoxAt.new _ _ _ rfl
                have HW7 : Hid (Below wr.heap.size wr (w6.alloc (.cells #[.int .u8 X.b0, .int .u8 X.b1, .int .u8 X.b2, .int .u8 X.b3] 57))) := hb7
                clear k6 hb7 u0 u1 u3 hltm
                go_wp2_with fail
                generalize w6.alloc (.cells #[.int .u8 X.b0, .int .u8 X.b1, .int .u8 X.b2, .int .u8 X.b3] 57) = w7 at *
                generalize w6.heap.size = xb at *
                have hK7 := HKm.out.of_below HW7.out
                have HWA2 : Hid (∀ (W : World) (z : Int), z = (x : Int) → W.heap = w7.heap → W.os = w7.os → W.tape = w7.tape → W.output = w7.output → Calls Try.prog 25 #[.pointer (some ⟨kb, 0, none⟩), .int .i64 z, .int .i64 m] W fun e w' => e = .returned (.agg #[.int .u8 X.b0, .int .u8 X.b1, .int .u8 X.b2, .int .u8 X.b3]) ∧ Below w7.heap.size w7 w') := fun W z ez e1 e2 e3 e4 => by
                  subst ez
                  exact (HWA.out W (hK7.of_below ⟨e2, e3, e4, by rw [e1]; exact Nat.le_refl _, fun i _ => by rw [e1]⟩)).mono fun e w' ⟨h1, h2⟩ => ⟨h1, below_from h2 e1 e2 e3 e4⟩
                obtain ⟨y0, y1, y2, y3⟩ := HB7.out.cells
                have hyl7 := HB7.out.lt
                obtain ⟨u0, u1, _⟩ := hK7.cells
                rw [I1.out] at u1
                have hltm := hK7.row.lt
                clear hK7
                go_region_with (first
                  | (go_at_call 25; go_must (refine (HWA2.out _ _ (by first | rfl | exact wrap_i64_small _ (by omega) (by omega) | omega) (by rfl) (by rfl) (by rfl) (by rfl)).mono ?_); rintro e w8 ⟨rfl, k8⟩; obtain ⟨x0, x1, x2, x3⟩ := (HB7.out.below k8).cells; have hxl := (HB7.out.below k8).lt)
                  | (go_at_call 26; go_must (refine (HSC.out _).mono ?_); rintro e w9 ⟨rfl, k9⟩; have K9 : Below w8.heap.size w8 w9 := below_from k9 rfl rfl rfl rfl))
                all_goals
                  have HB9 : Hid (Below w5.heap.size w5 w9) := hBm.out.trans ((HW7.out.trans ((k8.trans (K9.mono k8.size)).mono HW7.out.size)).mono hBm.out.size)
                  clear k8 K9 k9 x0 x1 x2 x3 y0 y1 y2 y3 hxl hyl7 u0 u1 hltm
                  go_wp2_with fail
                  exact ⟨⟨m + 1, by omega, by go_num, HB9⟩, by simp [intOf]; omega⟩
              · have hltRi : ¬ ((m : Int) < (s.R : Int)) := by omega
                go_wp2_with fail
                refine (reads_any kb bb hb s4 f V (fun _ => false) bu wr HKm.out HI4.out).mono ?_
                rintro e w9 ⟨rfl, k9⟩
                have HB9 : Hid (Below w.heap.size w w9) := HB1.out.trans ((HKm.out.of_below k9).below.mono HB1.out.size)
                clear k9
                go_wp2_with fail
                go_ret
                exact ⟨rfl, HB9.out⟩
      · have hyli : ¬ ((kk : Int) < (ln : Int)) := by omega
        have hmin : min kk ln = ln := by omega
        rw [hmin]
        clear hmin
        go_wp2_with fail
        refine (HLG4.out _ HK4.out.hoard).mono ?_
        rintro e w5 ⟨v5, rfl, hown5, k5⟩
        have hlg5 : LogAt w5 v5 (rs.drop kk) := ⟨hown5.1, by
          rcases hown5.2 with hx | ⟨g, cc, cur, h1, h2, h3⟩
          · exact .inl hx
          · exact .inr ⟨g, cc, cur, h1, Nat.zero_le _, h3⟩⟩
        obtain ⟨p5, q5, hv5, hrec5⟩ := hlg5.slice
        rw [hdl] at hv5 hrec5
        subst hv5
        have HREC5 : Hid _ := hrec5
        have HB5 : Hid (Below w4.heap.size w4 w5) := k5
        have hK5 := HK4.out.of_below k5
        obtain ⟨x0, x1, x2, x3, _⟩ := hK5.cells
        rw [I1.out] at x1
        rw [I3.out] at x3
        have hltk5 := hK5.row.lt
        have HK5 : Hid (KeepAt w1 w5 kb bb hb s4 f V (fun _ => false) bu) := hK5
        clear hown5 k5 hlg5 hrec5 hK5 e0 e1 e2 e3 HLG4
        generalize hla : ln - kk = la at *
        have hlai : (ln : Int) - (ln : Int) = (la : Int) := by omega
        have HLA : Hid (kk < ln → ln = kk + la) := fun h => by omega
        have hla0 : la = 0 := by omega
        clear hla hdl
        go_wp2_with fail
        clear hyli hlai x0 x1 x2 x3 hltk5
        go_loopw [27, 28] (fun i _ wi => ∃ j : Nat, j ≤ la ∧ i = .int .i64 j ∧ Below w5.heap.size w5 wi) (fun i _ _ => la - (intOf i).toNat)
        case atStart => exact ⟨0, by omega, rfl, Below.refl _ _⟩
        case round =>
          obtain ⟨j, hj, rfl, hbj⟩ := hrel
          have HBJ : Hid (Below w5.heap.size w5 wr) := hbj
          by_cases hjl : j < la
          · exact absurd hjl (by omega)
          · have hjle : ¬ ((j : Int) < (la : Int)) := by omega
            clear hbj HREC3 HREC5 HB5 HLA HLN HDX HK4
            try clear hla0
            go_wp2_with fail
            clear hjle hj hjl
            go_loopw [29, 30, 31, 32] (fun r _ _ _ wi => ∃ m : Nat, m ≤ s.R ∧ r = .int .i64 m ∧ Hid (Below w5.heap.size w5 wi)) (fun r _ _ _ _ => s.R - (intOf r).toNat)
            case atStart => exact ⟨0, by omega, rfl, HBJ⟩
            case round =>
              clear HBJ
              obtain ⟨m, hm, rfl, hBm⟩ := hrel
              have hKm := HK5.out.of_below hBm.out
              obtain ⟨u0, u1, _, u3, _⟩ := hKm.cells
              rw [I1.out] at u1
              rw [I3.out] at u3
              have hltm := hKm.row.lt
              have HKm : Hid (KeepAt w1 wr kb bb hb s4 f V (fun _ => false) bu) := hKm
              clear hKm
              by_cases hltR : m < s.R
              · have hltRi : (m : Int) < (s.R : Int) := by omega
                have HVA : Hid (Calls Try.prog 23 #[.pointer (some ⟨kb, 0, none⟩), .int .i64 dd, .int .i64 m] wr fun e w' => e = .returned (.tuple #[(wsum s4 f dd m s4.D).val, .bool true]) ∧ Below wr.heap.size wr w') := HVA4.out wr m hltR HKm.out
                have HWA : Hid (∀ W, KeepAt w1 W kb bb hb s4 f V (fun _ => false) bu → Calls Try.prog 25 #[.pointer (some ⟨kb, 0, none⟩), .int .i64 x, .int .i64 m] W fun e w' => e = .returned (wsum s4 f dd m s4.D).val ∧ Below W.heap.size W w') := fun W hW => HWA4.out W m hltR hW
                generalize wsum s4 f dd m s4.D = X at *
                have HSC : Hid (∀ W, Calls Try.prog 26 #[.agg #[.int .u8 X.b0, .int .u8 X.b1, .int .u8 X.b2, .int .u8 X.b3], .agg #[.int .u8 X.b0, .int .u8 X.b1, .int .u8 X.b2, .int .u8 X.b3]] W fun e w' => e = .returned (.bool true) ∧ Below W.heap.size W w') := fun W => sameCell_eq X W
                unfold C4.val at HVA HWA
                go_wp2_with fail
                refine Calls.mono HVA.out ?_
                rintro e w6 ⟨rfl, k6⟩
                have hb7 : Below wr.heap.size wr (w6.alloc (.cells #[.int .u8 X.b0, .int .u8 X.b1, .int .u8 X.b2, .int .u8 X.b3] 57)) := k6.alloc k6.size _
                have HB7 : Hid (BoxAt (w6.alloc (.cells #[.int .u8 X.b0, .int .u8 X.b1, .int .u8 X.b2, .int .u8 X.b3] 57)) w6.heap.size X) := BoxAt.new _ _ _ rfl
                have HW7 : Hid (Below wr.heap.size wr (w6.alloc (.cells #[.int .u8 X.b0, .int .u8 X.b1, .int .u8 X.b2, .int .u8 X.b3] 57))) := hb7
                clear k6 hb7 u0 u1 u3 hltm
                go_wp2_with fail
                generalize w6.alloc (.cells #[.int .u8 X.b0, .int .u8 X.b1, .int .u8 X.b2, .int .u8 X.b3] 57) = w7 at *
                generalize w6.heap.size = xb at *
                have hK7 := HKm.out.of_below HW7.out
                have HWA2 : Hid (∀ (W : World) (z : Int), z = (x : Int) → W.heap = w7.heap → W.os = w7.os → W.tape = w7.tape → W.output = w7.output → Calls Try.prog 25 #[.pointer (some ⟨kb, 0, none⟩), .int .i64 z, .int .i64 m] W fun e w' => e = .returned (.agg #[.int .u8 X.b0, .int .u8 X.b1, .int .u8 X.b2, .int .u8 X.b3]) ∧ Below w7.heap.size w7 w') := fun W z ez e1 e2 e3 e4 => by
                  subst ez
                  exact (HWA.out W (hK7.of_below ⟨e2, e3, e4, by rw [e1]; exact Nat.le_refl _, fun i _ => by rw [e1]⟩)).mono fun e w' ⟨h1, h2⟩ => ⟨h1, below_from h2 e1 e2 e3 e4⟩
                obtain ⟨y0, y1, y2, y3⟩ := HB7.out.cells
                have hyl7 := HB7.out.lt
                obtain ⟨u0, u1, _⟩ := hK7.cells
                rw [I1.out] at u1
                have hltm := hK7.row.lt
                clear hK7
                go_region_with (first
                  | (go_at_call 25; go_must (refine (HWA2.out _ _ (by first | rfl | exact wrap_i64_small _ (by omega) (by omega) | omega) (by rfl) (by rfl) (by rfl) (by rfl)).mono ?_); rintro e w8 ⟨rfl, k8⟩; obtain ⟨x0, x1, x2, x3⟩ := (HB7.out.below k8).cells; have hxl := (HB7.out.below k8).lt)
                  | (go_at_call 26; go_must (refine (HSC.out _).mono ?_); rintro e w9 ⟨rfl, k9⟩; have K9 : Below w8.heap.size w8 w9 := below_from k9 rfl rfl rfl rfl))
                all_goals
                  have HB9 : Hid (Below w5.heap.size w5 w9) := hBm.out.trans ((HW7.out.trans ((k8.trans (K9.mono k8.size)).mono HW7.out.size)).mono hBm.out.size)
                  clear k8 K9 k9 x0 x1 x2 x3 y0 y1 y2 y3 hxl hyl7 u0 u1 hltm
                  go_wp2_with fail
                  exact ⟨⟨m + 1, by omega, by go_num, HB9⟩, by simp [intOf]; omega⟩
              · have hltRi : ¬ ((m : Int) < (s.R : Int)) := by omega
                go_wp2_with fail
                refine (reads_any kb bb hb s4 f V (fun _ => false) bu wr HKm.out HI4.out).mono ?_
                rintro e w9 ⟨rfl, k9⟩
                have HB9 : Hid (Below w.heap.size w w9) := HB1.out.trans ((HKm.out.of_below k9).below.mono HB1.out.size)
                clear k9
                go_wp2_with fail
                go_ret
                exact ⟨rfl, HB9.out⟩
end Go.Proofs.Ytfpoiikhhjdpdaa
