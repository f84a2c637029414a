/- hoardkeep.Downed: the walk. -/
import Derived.Test.YtfpoiikhhjdpdabKLive
import Derived.Test.YtfpoiikhhjdpdabKCoded
import Derived.Test.YtfpoiikhhjdpdabKDown
import Derived.Test.YtfpoiikhhjdpdabKLay
import Derived.Test.YtfpoiikhhjdpdabDownPure
namespace Go.Proofs.Ytfpoiikhhjdpdab
open Go.RowKit
set_option linter.unusedVariables false
attribute [local go_sem ↓] Go.wp_at_zero Go.wp_at_succ
set_option maxRecDepth 100000 in
set_option maxHeartbeats 1200000 in
theorem downed_walk (a b c d : Int) (wa : (Lit.int .i64 a).wf = true) (wb : (Lit.int .i64 b).wf = true) (wc : (Lit.int .i64 c).wf = true) (wd : (Lit.int .i64 d).wf = true) (a0 : Option Addr) (n cap : Nat) (mv : Nat → MvV) (ma : Int) (ms : ByteArray) (af : Int) (wma : (Lit.int .i64 ma).wf = true) (hms : ms.size ≤ maxLen) (waf : (Lit.int .i64 af).wf = true) (w : World) (hn : n ≤ 10000000000000) (hm : MovesAt w a0 n mv) (hmo : ∀ i, i < n → (mv i).ok) :
    Calls Try.prog 5 #[.int .i64 a, .int .i64 b, .int .i64 c, .int .i64 d, .slice a0 n cap, .int .i64 ma, .string ms, .int .i64 af] w fun e w' => e = .returned (.bool true) ∧ Below w.heap.size w w' := by
  have q1 := pickN_lt a 4 (by omega)
  have q2 := pickN_lt b 2 (by omega)
  have q3 := pickN_lt c 6 (by omega)
  have q4 := pickN_lt d 8 (by omega)
  have HSH : Hid (∀ W, Calls Try.prog 9 #[.int .i64 a, .int .i64 b, .int .i64 c, .int .i64 d] W fun e w' => e = .returned (.agg #[.int .i64 (1 + pickN a 4 : Nat), .int .i64 (1 + pickN b 2 : Nat), .int .i64 (1 + pickN c 6 : Nat), .int .i64 (1 + pickN d 8 : Nat)]) ∧ Below W.heap.size W w') := fun W => kshape_any a b c d W (wf64 wa) (wf64 wb) (wf64 wc) (wf64 wd)
  generalize hD : 1 + pickN a 4 = D at *
  generalize hP : 1 + pickN b 2 = P at *
  generalize hR : 1 + pickN c 6 = R at *
  generalize hM : 1 + pickN d 8 = M at *
  have HS : Hid (shapeB D P R M = true) := (show _ = _ by simp only [shapeB, Bool.and_eq_true, decide_eq_true_eq]; omega)
  have HM : Hid (MovesAt w a0 n mv) := hm
  have HMO : Hid (∀ i, i < n → (mv i).ok) := hmo
  clear hD hP hR hM q1 q2 q3 q4 wa wb wc wd hm hmo
  go_enter Try.func5, Try.ntmps5
  go_wp2_with fail
  refine (HSH.out _).mono ?_
  rintro e w1 ⟨rfl, k1⟩
  have HB : Hid (∀ W, Calls Try.prog 8 #[.agg #[.int .i64 D, .int .i64 P, .int .i64 R, .int .i64 M]] W fun e w' => ∃ kb, e = .returned (.tuple #[.pointer (some ⟨kb, 0, none⟩), .bool true]) ∧ ∃ bb hb V, Lives W w' kb bb hb V D P R M 0) := fun W => begin_lives D P R M W HS.out
  go_wp2_with fail
  refine (HB.out _).mono ?_
  rintro e w2 ⟨kb, rfl, bb, hb, V, hst⟩
  have HST : Hid (Lives w1 w2 kb bb hb V D P R M 0) := hst
  have HM1 : Hid (MovesAt w1 a0 n mv) := HM.out.below k1
  have HB1 : Hid (Below w.heap.size w w1) := k1
  have HW1 : Hid (w.heap.size ≤ w1.heap.size) := k1.size
  clear hst k1 HSH HB
  go_wp2_with fail
  go_loopw [18, 19] (fun _ i wr => ∃ k : Nat, k ≤ n ∧ i = .int .i64 k ∧ Hid (Lives w1 wr kb bb hb V D P R M k)) (fun _ i _ => n - (intOf i).toNat)
  case atStart => exact ⟨0, by omega, rfl, HST⟩
  case round =>
    clear HST
    obtain ⟨k, hk, rfl, hS⟩ := hrel
    by_cases hlt : k < n
    · as_aux_lemma =>
      have hlti : (k : Int) < (n : Int) := by omega
      obtain ⟨mb, mo, rfl, m0, m1, m2, m3⟩ := HM1.out.below hS.out.below k hlt
      have hmok := HMO.out k hlt
      by_cases hkind : (mv k).k = 1
      · have HMV : Hid (∀ W : World, W.heap = wr.heap → W.os = wr.os → W.tape = wr.tape → W.output = wr.output → Calls Try.prog 10 #[.pointer (some ⟨kb, 0, none⟩), .agg #[.int .i64 1, .int .i64 (mv k).a, .int .i64 (mv k).b, .string (mv k).s]] W fun e w' => e = .returned (.bool true) ∧ Lives w1 w' kb bb hb V D P R M (k + 1)) := fun W e1 e2 e3 e4 => by
          have h1 := move_lives kb bb hb V D P R M k (mv k) W (hS.out.of_below ⟨e2, e3, e4, by rw [e1]; exact Nat.le_refl _, fun i _ => by rw [e1]⟩) hmok (by omega) (.inl hkind)
          rw [hkind] at h1; exact h1
        rw [hkind] at m0
        clear hkind hmok
        generalize mv k = o at *
        go_wp2_with fail
        refine Calls.mono (HMV.out _ (by rfl) (by rfl) (by rfl) (by rfl)) ?_
        rintro e w3 ⟨rfl, hS3⟩
        have HS3 : Hid (Lives w1 w3 kb bb hb V D P R M (k + 1)) := hS3
        clear hS3
        go_wp2_with fail
        exact ⟨⟨k + 1, by omega, by go_num, HS3⟩, by simp [intOf]; omega⟩
      · by_cases hkind2 : (mv k).k = 2
        · have HMV : Hid (∀ W : World, W.heap = wr.heap → W.os = wr.os → W.tape = wr.tape → W.output = wr.output → Calls Try.prog 10 #[.pointer (some ⟨kb, 0, none⟩), .agg #[.int .i64 2, .int .i64 (mv k).a, .int .i64 (mv k).b, .string (mv k).s]] W fun e w' => e = .returned (.bool true) ∧ Lives w1 w' kb bb hb V D P R M (k + 1)) := fun W e1 e2 e3 e4 => by
            have h1 := move_lives kb bb hb V D P R M k (mv k) W (hS.out.of_below ⟨e2, e3, e4, by rw [e1]; exact Nat.le_refl _, fun i _ => by rw [e1]⟩) hmok (by omega) (.inr hkind2)
            rw [hkind2] at h1; exact h1
          rw [hkind2] at m0
          clear hkind hkind2 hmok
          generalize mv k = o at *
          go_wp2_with fail
          refine Calls.mono (HMV.out _ (by rfl) (by rfl) (by rfl) (by rfl)) ?_
          rintro e w3 ⟨rfl, hS3⟩
          have HS3 : Hid (Lives w1 w3 kb bb hb V D P R M (k + 1)) := hS3
          clear hS3
          go_wp2_with fail
          exact ⟨⟨k + 1, by omega, by go_num, HS3⟩, by simp [intOf]; omega⟩
        · have hkn : ((mv k).k != 1) = true := by rw [bne_iff_ne]; exact hkind
          have hkn2 : ((mv k).k != 2) = true := by rw [bne_iff_ne]; exact hkind2
          have HS2 : Hid (Lives w1 wr kb bb hb V D P R M (k + 1)) := hS.out.mono (by omega)
          clear hkind hkind2 hmok
          generalize mv k = o at *
          go_wp2_with fail
          exact ⟨⟨k + 1, by omega, by go_num, HS2⟩, by simp [intOf]; omega⟩
    · have hlti : ¬ ((k : Int) < (n : Int)) := by omega
      obtain ⟨s, f, bu, hI, hbu, hsteps, hsD, hsP, hsR, ⟨hsM, hsbk⟩, hK⟩ := hS.out.ex
      have HB3 : Hid (Below w.heap.size w wr) := (show Below _ _ _ from (by have h5 := hS.out.below; exact HB1.out.trans (h5.mono HB1.out.size)))
      have hst : s.steps ≤ 2000000000000000 := by omega
      clear hS HM1 HM HMO HS hn hsteps
      subst hsD hsP hsR hsM
      have hP1 := hK.hoard.ok.P1
      have hP2 := hK.hoard.ok.P2
      obtain ⟨hs96, hs4⟩ := hK.size
      have HI : Hid (KInv s f (fun _ => false) bu) := hI
      have HBU : Hid (∀ d r, bu d r = true) := hbu
      have HSB : Hid (s.brk = none) := hsbk
      clear hI hbu hsbk
      go_wp2_with fail
      refine (cut_any kb bb hb s f V (fun _ => false) bu ma ms wr hK (wf64 wma) hms).mono ?_
      rintro e w3 ⟨rfl, q, rfl⟩
      have K3 := hK.of_below (below_drewN (Below.refl _ _) q)
      have B3 : Hid (Below w.heap.size w (wr.drewN q)) := below_drewN HB3.out q
      have HK3 : Hid (KeepAt w1 (wr.drewN q) kb bb hb s f V (fun _ => false) bu) := K3
      clear HB3 K3 hK
      generalize wr.drewN q = w3 at *
      have hpl := pickN_lt ma (s.D * s.R * 4 + 1) (by omega)
      have hcs : (ms.extract 0 (cutN (s.D * s.R * 4) (pickN ma (s.D * s.R * 4 + 1)) ms.size)).size ≤ s.D * s.R * 4 - pickN ma (s.D * s.R * 4 + 1) := by
        rw [ByteArray.size_extract]; unfold cutN; omega
      generalize pickN ma (s.D * s.R * 4 + 1) = x at *
      generalize ms.extract 0 (cutN (s.D * s.R * 4) x ms.size) = dt at *
      have hxd : x + dt.size ≤ s.D * s.R * 4 := by omega
      clear hpl hcs
      have HCH : Hid (Calls Try.prog 25 #[.pointer (some ⟨kb, 0, none⟩), .int .i64 x, .string dt] w3 fun e w' => ∃ v, e = .returned v ∧ w'.ownsRow w3.heap.size 3 1 v (chL f x dt.size (byteOfS dt) (blkEnd x dt.size - x / 4)).length (intsOf (chL f x dt.size (byteOfS dt) (blkEnd x dt.size - x / 4))) ∧ Below w3.heap.size w3 w') := by
        have h1 := changes_any kb bb hb s f V (fun _ => false) bu x dt w3 HK3.out hxd
        rw [chL_end] at h1
        exact h1
      have hlL := chL_len f x dt.size (byteOfS dt) (blkEnd x dt.size - x / 4)
      have hb25 : blkEnd x dt.size - x / 4 ≤ 25 := by unfold blkEnd; split <;> omega
      have HLM : Hid (∀ y ∈ chL f x dt.size (byteOfS dt) (blkEnd x dt.size - x / 4), y < 100) := fun y hy => by
        have := ((chL_in f x dt.size (byteOfS dt) _ y).1 hy).2.1
        omega
      generalize hL : chL f x dt.size (byteOfS dt) (blkEnd x dt.size - x / 4) = L at *
      have HLE : Hid (chL f x dt.size (byteOfS dt) (blkEnd x dt.size - x / 4) = L) := hL
      clear hL
      go_wp2_with fail
      refine Calls.mono HCH.out ?_
      rintro e w4 ⟨v, rfl, hown, k4⟩
      have K4 := HK3.out.of_below k4
      obtain ⟨pv, nv, qv, hv⟩ := own_slice hown
      have hnv : nv = L.length := by
        rcases hown.2 with ⟨h1, h2⟩ | ⟨g, c, cur, h1, _⟩
        · rw [hv] at h1; cases h1; exact h2.symm
        · rw [hv] at h1; cases h1; rfl
      have hqv : nv ≤ qv := by
        rcases hown.2 with ⟨h1, h2⟩ | ⟨g, c, cur, h1, _, _, h5, _⟩
        · rw [hv] at h1; cases h1; omega
        · rw [hv] at h1; cases h1; rw [hnv]; exact h5
      subst hv
      have HNV : Hid (L.length = nv) := hnv.symm
      rw [← hnv] at hown
      have hnv25 : nv ≤ 25 := by omega
      have HO4 : Hid (w4.ownsRow w3.heap.size 3 1 (.slice pv nv qv) nv (intsOf L)) := hown
      have HVB : Hid (∀ g, (Value.slice pv nv qv).ownBlock = some g → w3.heap.size ≤ g ∧ g < w4.heap.size) := fun g hg => World.ownsRow.lt hown g hg
      have HFL : Hid (∀ g, KFoot kb bb hb s V g → g < w3.heap.size) := fun g hg => HK3.out.lt hg
      have HK4 : Hid (KeepAt w1 w4 kb bb hb s f V (fun _ => false) bu) := K4
      have B4 : Hid (Below w.heap.size w w4) := B3.out.trans (k4.mono B3.out.size)
      obtain ⟨c0, c1, c2, c3, c4, c5, c6, c7⟩ := K4.cells
      have hlt4 := K4.row.lt
      clear hown k4 K4 hnv hlL hb25 HCH c1 c3 c4 c5 c6 c7 HK3
      obtain ⟨pr, hpr, hprb⟩ : ∃ pr : Nat, (nv : Int) * (3 + (s.P : Int)) = (pr : Int) ∧ pr ≤ 125 := ⟨nv * (3 + s.P), by simp, Nat.le_trans (Nat.mul_le_mul hnv25 (show 3 + s.P ≤ 5 by omega)) (by omega)⟩
      have HPR : Hid (nv * (3 + s.P) = pr) := (show _ = _ by
        have h5 : ((nv * (3 + s.P) : Nat) : Int) = (nv : Int) * (3 + (s.P : Int)) := by simp
        omega)
      have HPK : Hid (∀ W, Calls Try.prog 11 #[.int .i64 af, .int .i64 ((pr : Int) + 2)] W fun e w' => e = .returned (.int .i64 (pickN af (pr + 2) : Nat)) ∧ w' = W) := fun W => by
        have := kpick_any af (pr + 2) W (by omega) (by omega) (wf64 waf)
        simpa using this
      have hNl := pickN_lt af (pr + 2) (by omega)
      generalize pickN af (pr + 2) = N at *
      go_wp2_with fail
      refine (Steps_any hb s _ HK4.out.hoard).mono ?_
      rintro e w5 ⟨rfl, rfl⟩
      go_wp2_with fail
      refine (HPK.out _).mono ?_
      rintro e wz ⟨rfl, rfl⟩
      go_wp2_with fail
      refine (Break_ok hb s N _ HK4.out.hoard (by omega) (by omega)).mono ?_
      rintro e w6 ⟨rfl, hA6, kp6⟩
      have W6 : WentIn hb s wz (s.setAux s.aux (some (s.steps + N))) w6 := ⟨hA6.toHoardIn, kp6, fun k hk => .inl hk⟩
      have K6 := HK4.out.wentIn W6 hA6.up rfl rfl rfl rfl
      have HI0 : Hid (KInv (s.setAux s.aux (some (s.steps + N))) f (fun _ => false) bu) := HI.out.same s.steps (some (s.steps + N))
      have HV6 : Hid (w6.ownsRow w3.heap.size 3 1 (.slice pv nv qv) nv (intsOf L)) := ownsRow_of_block HO4.out (fun g hg => kp6.block g (HVB.out g hg).2 (fun hf => by
        have h1 := HFL.out g (.inr (.inr (.inl hf)))
        have h2 := (HVB.out g hg).1
        omega))
      have HBK : Hid ((s.setAux s.aux (some (s.steps + N))).brk = some (s.steps + N)) := rfl
      have HS0 : Hid ((s.setAux s.aux (some (s.steps + N))).D = s.D ∧ (s.setAux s.aux (some (s.steps + N))).P = s.P ∧ (s.setAux s.aux (some (s.steps + N))).R = s.R ∧ (s.setAux s.aux (some (s.steps + N))).M = s.M ∧ (s.setAux s.aux (some (s.steps + N))).steps = s.steps) := ⟨rfl, rfl, rfl, rfl, rfl⟩
      have HFT : Hid (∀ k, Foot hb (s.setAux s.aux (some (s.steps + N))) k → Foot hb s k) := fun k hk => hk
      have B6 : Hid (Below w.heap.size w w6) := B4.out.trans ⟨kp6.os, kp6.tape, kp6.output, kp6.size, fun i hi => kp6.block i (Nat.lt_of_lt_of_le hi B4.out.size) (fun hf => by
        have h1 := HK4.out.low.2.2.1 i hf
        have h2 := HW1.out
        omega)⟩
      generalize s.setAux s.aux (some (s.steps + N)) = s0 at *
      obtain ⟨x0, x1, x2, _⟩ := K6.cells
      have hlt6 := K6.row.lt
      obtain ⟨cap3, w7, hcv, k7, hby⟩ := conv_bytes w6 dt
      have HK7 : Hid (KeepAt w1 w7 kb bb hb s0 f V (fun _ => false) bu) := K6.of_below k7
      have HV7 : Hid (w7.ownsRow w3.heap.size 3 1 (.slice pv nv qv) nv (intsOf L)) := ownsRow_of_block HV6.out (fun g hg => k7.block g (World.ownsRow.lt HV6.out g hg).2)
      have B7 : Hid (Below w.heap.size w w7) := B6.out.trans (k7.mono B6.out.size)
      have HBY : Hid (BytesAt w7 (some ⟨w6.heap.size, 0, none⟩) dt.size (byteOfS dt)) := hby
      have HF6 : Hid (∀ g, Foot hb s0 g → g < w6.heap.size) := fun g hg => K6.hoard.foot_lt hg
      clear c0 c2 W6 K6 hA6 kp6 k7 hby HO4 hlt4 HK4 B4 HV6 x1
      go_wp2_with fail
      refine (Write_all hb s0 x (some ⟨w6.heap.size, 0, none⟩) dt.size cap3 (byteOfS dt) w7 HK7.out.hoard (hasB_of HK7.out (by rw [HS0.out.1, HS0.out.2.2.1]; exact hxd)) (noGone HK7.out.hoard.ok (by rw [HS0.out.1, HS0.out.2.2.1]; exact hxd) HI0.out.good) HBY.out ?_ (by rw [HS0.out.2.2.2.2]; omega)).mono ?_
      · intro b o e hf
        simp only [Option.some.injEq, Addr.mk.injEq] at e
        have := HF6.out b hf
        omega
      rintro e w8 ⟨s8, hw8, ⟨rfl, hn8, hab8, hax8⟩ | ⟨rfl, htv8, m, j, hm8, hnb8, hj8, hdw8⟩⟩
      · have hfin := fin_ok HI0.out HBU.out x dt.size (byteOfS dt) (fun i _ => byteOfS_lt dt i) (by rw [HS0.out.1, HS0.out.2.2.1]; exact hxd) N (by rw [HBK.out, HS0.out.2.2.2.2]) hn8
        rw [HLE.out, HNV.out, HS0.out.2.1, HPR.out, ← hab8] at hfin
        have hnl : ¬ ((N : Int) < (pr : Int)) := by have := hfin.1; omega
        have HFN : Hid (Fin s0.toAb f bu x dt.size (byteOfS dt) L N s8.toAb) := hfin.2
        have hsm := HFN.out.same
        have HSD : Hid (s8.D = s.D ∧ s8.P = s.P ∧ s8.R = s.R ∧ s8.M = s.M) := ⟨hsm.1.trans HS0.out.1, hsm.2.1.trans HS0.out.2.1, hsm.2.2.1.trans HS0.out.2.2.1, hsm.2.2.2.trans HS0.out.2.2.2.1⟩
        have HKT : Hid (KeepAt w1 w8 kb bb hb s8 f V (fun _ => false) bu) := HK7.out.wentIn hw8 hax8 hsm.1 hsm.2.1 hsm.2.2.1 hsm.2.2.2
        have HVT : Hid (w8.ownsRow w3.heap.size 3 1 (.slice pv nv qv) nv (intsOf L)) := ownsRow_of_block HV7.out (fun g hg => hw8.kept.block g (World.ownsRow.lt HV7.out g hg).2 (fun hf => by
          have h1 := HFL.out g (.inr (.inr (.inl (HFT.out g hf))))
          have h2 := (HVB.out g hg).1
          omega))
        have HSTT : Hid (s8.steps = s.steps + pr) := (show _ = _ by
          have h1 := HFN.out.steps
          rw [HS0.out.2.2.2.2, HNV.out, HS0.out.2.1, HPR.out] at h1
          have h2 := hfin.1
          show s8.toAb.steps = _
          omega)
        have HMD : Hid (madeN s0.P L.length N = nv) := (show _ = _ by
          unfold madeN
          rw [HNV.out, HS0.out.2.1, HPR.out, if_neg (by have := hfin.1; omega)])
        clear hfin hsm hn8 hab8 hax8 hw8 HK7 HV7 B7 HBY HF6 B6
        have HSTEP : Hid (∀ W, HoardAt W hb s8 → Calls Try.prog 26 #[.pointer (some ⟨hb, 0, none⟩)] W fun e w' => e = .returned (.tuple #[.int .i64 ((s.steps : Int) + (pr : Int)), .int .i64 0]) ∧ w' = W) := fun W hW => by
          have h1 := Steps_any hb s8 W hW
          rw [HSTT.out] at h1
          simpa using h1
        have HLAY : Hid (∀ W, KeepAt w1 W kb bb hb s8 f V (fun _ => false) bu → W.heap = w8.heap → Calls Try.prog 30 #[.pointer (some ⟨kb, 0, none⟩), .int .i64 x, .string dt, .slice pv nv qv] W fun e w' => e = .returned (.tuple #[]) ∧ KeepAt w1 w' kb bb hb s8 (fLay f x dt.size (byteOfS dt) (L.take nv)) V (fun _ => false) bu ∧ Kept (fun g => g = bb) W w') := by
          intro W hW he
          have hlen : (L.take nv).length = nv := by rw [List.length_take, HNV.out]; omega
          have hgd : ∀ k, k < nv → (L.take nv).getD k 0 = L.getD k 0 := fun k hk => by
            rw [List.getD_eq_getElem?_getD, List.getD_eq_getElem?_getD, List.getElem?_take, if_pos hk]
          refine klay_any kb bb hb s8 f V (fun _ => false) bu x dt pv nv qv (L.take nv) W hW (by rw [HSD.out.1, HSD.out.2.2.1]; exact hxd) hlen (by omega) (fun k hk => ?_) (fun k hk => ?_)
          · rw [hgd k hk]; exact HLM.out _ (getD_mem L k (by rw [HNV.out]; omega))
          · obtain ⟨p', cap', e1, hc⟩ := IntsAt.slice (w := w8) (B := w3.heap.size) (v := .slice pv nv qv) (l := L) (by show World.ownsRow _ _ _ _ _ _ _; rw [HNV.out]; exact HVT.out)
            obtain ⟨tb, e2, hcell⟩ := hc k (by rw [HNV.out]; omega)
            have e3 : pv = some ⟨tb, 0, none⟩ := by
              simp only [Value.slice.injEq] at e1
              rw [e1.1, e2]
            refine ⟨tb, e3, ?_, ?_⟩
            · intro e4
              have h1 := (HVB.out tb (by rw [e3]; rfl)).1
              have h2 := HFL.out bb (.inr (.inl rfl))
              omega
            · rw [hgd k hk, ← hcell]
              exact World.cell?_of_block (a := ⟨tb, k, none⟩) (by rw [he])
        obtain ⟨x0, x1, x2, _⟩ := HKT.out.cells
        have hltT := HKT.out.row.lt
        clear x1 x2
        go_wp2_with fail
        refine (Mount_up hb s8 _ HKT.out.hoard).mono ?_
        rintro e wm ⟨rfl, rfl⟩
        go_wp2_with fail
        refine (HSTEP.out _ HKT.out.hoard).mono ?_
        rintro e wn ⟨rfl, rfl⟩
        go_wp2_with fail
        refine (HLAY.out _ HKT.out rfl).mono ?_
        rintro e wo ⟨rfl, hKo, kpo⟩
        have HKO : Hid (KeepAt w1 wo kb bb hb s8 (fLay f x dt.size (byteOfS dt) (L.take nv)) V (fun _ => false) bu) := hKo
        have HIN2 : Hid (KInv s8 (fLay f x dt.size (byteOfS dt) (L.take nv)) (fun _ => false) bu) := (show KInv _ _ _ _ by
          have h1 := HFN.out.inv
          rw [HMD.out] at h1; exact h1)
        clear hKo kpo HLAY HSTEP
        generalize fLay f x dt.size (byteOfS dt) (L.take nv) = f2 at *
        go_wp2_with fail
        refine (reads_any kb bb hb s8 f2 V (fun _ => false) bu wo HKO.out HIN2.out).mono ?_
        rintro e wp ⟨rfl, kp⟩
        have HKP : Hid (KeepAt w1 wp kb bb hb s8 f2 V (fun _ => false) bu) := HKO.out.of_below kp
        clear kp
        go_wp2_with fail
        refine (coded_any kb bb hb s8 f2 V (fun _ => false) bu wp HKP.out HIN2.out (HIN2.out.live HBU.out)).mono ?_
        rintro e wq ⟨rfl, kq⟩
        have HBQ : Hid (Below w.heap.size w wq) := HB1.out.trans ((HKP.out.of_below kq).below.mono HB1.out.size)
        clear kq
        go_wp2_with fail
        go_ret
        exact ⟨rfl, HBQ.out⟩
      · have hfin := fin_down HI0.out HBU.out x dt.size (byteOfS dt) (fun i _ => byteOfS_lt dt i) (by rw [HS0.out.1, HS0.out.2.2.1]; exact hxd) N m j (by rw [HBK.out, HS0.out.2.2.2.2]) hm8 hj8
        rw [HLE.out, HNV.out, HS0.out.2.1, HPR.out] at hfin
        have hnl : (N : Int) < (pr : Int) := by have := hfin.1; omega
        have HFN0 : Hid (Fin s0.toAb f bu x dt.size (byteOfS dt) L N (abDown (abBlocks s0.toAb x dt.size (byteOfS dt) m) (x / 4 + m) x dt.size (byteOfS dt) j)) := hfin.2
        have HDW : Hid (DownAt w8 hb s8 (abDown (abBlocks s0.toAb x dt.size (byteOfS dt) m) (x / 4 + m) x dt.size (byteOfS dt) j)) := hdw8
        generalize abDown (abBlocks s0.toAb x dt.size (byteOfS dt) m) (x / 4 + m) x dt.size (byteOfS dt) j = A at *
        obtain ⟨md, hmd⟩ : ∃ md, madeN s0.P L.length N = md := ⟨_, rfl⟩
        have hmdn : md ≤ nv := by rw [← hmd, ← HNV.out]; exact made_le _ _ _ (by rw [HS0.out.2.1]; omega)
        have HMD : Hid (madeN s0.P L.length N = md) := hmd
        have hmi : ((N : Int) + (3 + (s.P : Int)) - 1) / (3 + (s.P : Int)) = (md : Int) := by
          unfold madeN at hmd
          rw [HNV.out, HS0.out.2.1, HPR.out, if_pos hfin.1] at hmd
          rw [← hmd]
          have : ((N : Int) + (3 + (s.P : Int)) - 1) = ((N + (3 + s.P) - 1 : Nat) : Int) := by omega
          rw [this]; simp
        have hr8 := hw8.kept.row HK7.out.ne.2.1 HK7.out.row
        have c0 : w8.cell? ⟨kb, 0, none⟩ = some (.pointer (some ⟨hb, 0, none⟩)) := hr8.cell (by omega)
        have c1 : w8.cell? ⟨kb, 1, none⟩ = some (.int .i64 s.D) := (hr8.cell (i := 1) (by omega)).trans (by rw [← HS0.out.1]; rfl)
        have hlt8 := hr8.lt
        have HW8 : Hid (WentIn hb s0 w7 s8 w8) := hw8
        have HIS : Hid (Calls Try.prog 28 #[.pointer (some ⟨kb, 0, none⟩)] w8 fun e w' => e = .returned (.bool true) ∧ Below w8.heap.size w8 w') := isDown_any kb hb s8 s.D w8 HDW.out.toHoardIn HDW.out.down c0 c1
        have hsP0 : (0 : Int) < 3 + (s.P : Int) := by omega
        have hmd200 : md ≤ 200 := by omega
        clear hfin hmd hm8 hj8 hnb8 htv8 hdw8 hw8 hr8
        go_wp2_with fail
        rw [hmi]
        refine Calls.mono HIS.out ?_
        rintro e w9 ⟨rfl, k9⟩
        have d0 := below_cell k9 c0
        have hlt9 : kb < w9.heap.size := block_lt_of_cell d0
        have HD9 : Hid (DownAt w9 hb s8 A) := HDW.out.below k9
        have HW9 : Hid (WentIn hb s0 w7 s8 w9) := HW8.out.trans (WentIn.below HDW.out.toHoardIn k9)
        clear k9 c0 c1 HIS HDW HW8 hlt8 hmi
        go_wp2_with fail
        refine (Mount_ok hb s8 A w9 HD9.out).mono ?_
        rintro e w10 ⟨rfl, s10, hab10, hax10, went10⟩
        have HFN : Hid (Fin s0.toAb f bu x dt.size (byteOfS dt) L N s10.toAb) := (show Fin _ _ _ _ _ _ _ _ _ by rw [hab10]; exact HFN0.out)
        have hsm := HFN.out.same
        have hw10 : WentIn hb s0 w7 s10 w10 := HW9.out.trans went10
        have HSD : Hid (s10.D = s.D ∧ s10.P = s.P ∧ s10.R = s.R ∧ s10.M = s.M) := ⟨hsm.1.trans HS0.out.1, hsm.2.1.trans HS0.out.2.1, hsm.2.2.1.trans HS0.out.2.2.1, hsm.2.2.2.trans HS0.out.2.2.2.1⟩
        have HKT : Hid (KeepAt w1 w10 kb bb hb s10 f V (fun _ => false) bu) := HK7.out.wentIn hw10 hax10 hsm.1 hsm.2.1 hsm.2.2.1 hsm.2.2.2
        have HVT : Hid (w10.ownsRow w3.heap.size 3 1 (.slice pv nv qv) nv (intsOf L)) := ownsRow_of_block HV7.out (fun g hg => hw10.kept.block g (World.ownsRow.lt HV7.out g hg).2 (fun hf => by
          have h1 := HFL.out g (.inr (.inr (.inl (HFT.out g hf))))
          have h2 := (HVB.out g hg).1
          omega))
        have HSTT : Hid (s10.steps = s.steps + N) := (show _ = _ by
          have h1 := HFN.out.steps
          rw [HS0.out.2.2.2.2, HNV.out, HS0.out.2.1, HPR.out] at h1
          show s10.toAb.steps = _
          omega)
        have hqm : md ≤ qv := by omega
        have hqmi : (md : Int) ≤ (qv : Int) := by omega
        clear hsm hab10 hax10 went10 hw10 HK7 HV7 B7 HBY HF6 B6 HFN0 HD9 HW9 d0 hlt9
        have HSTEP : Hid (∀ W, HoardAt W hb s10 → Calls Try.prog 26 #[.pointer (some ⟨hb, 0, none⟩)] W fun e w' => e = .returned (.tuple #[.int .i64 ((s.steps : Int) + (N : Int)), .int .i64 0]) ∧ w' = W) := fun W hW => by
          have h1 := Steps_any hb s10 W hW
          rw [HSTT.out] at h1
          simpa using h1
        have HLAY : Hid (∀ W, KeepAt w1 W kb bb hb s10 f V (fun _ => false) bu → W.heap = w10.heap → Calls Try.prog 30 #[.pointer (some ⟨kb, 0, none⟩), .int .i64 x, .string dt, .slice pv md qv] W fun e w' => e = .returned (.tuple #[]) ∧ KeepAt w1 w' kb bb hb s10 (fLay f x dt.size (byteOfS dt) (L.take md)) V (fun _ => false) bu ∧ Kept (fun g => g = bb) W w') := by
          intro W hW he
          have hlen : (L.take md).length = md := by rw [List.length_take, HNV.out]; omega
          have hgd : ∀ k, k < md → (L.take md).getD k 0 = L.getD k 0 := fun k hk => by
            rw [List.getD_eq_getElem?_getD, List.getD_eq_getElem?_getD, List.getElem?_take, if_pos hk]
          refine klay_any kb bb hb s10 f V (fun _ => false) bu x dt pv md qv (L.take md) W hW (by rw [HSD.out.1, HSD.out.2.2.1]; exact hxd) hlen (by omega) (fun k hk => ?_) (fun k hk => ?_)
          · rw [hgd k hk]; exact HLM.out _ (getD_mem L k (by rw [HNV.out]; omega))
          · obtain ⟨p', cap', e1, hc⟩ := IntsAt.slice (w := w10) (B := w3.heap.size) (v := .slice pv nv qv) (l := L) (by show World.ownsRow _ _ _ _ _ _ _; rw [HNV.out]; exact HVT.out)
            obtain ⟨tb, e2, hcell⟩ := hc k (by rw [HNV.out]; omega)
            have e3 : pv = some ⟨tb, 0, none⟩ := by
              simp only [Value.slice.injEq] at e1
              rw [e1.1, e2]
            refine ⟨tb, e3, ?_, ?_⟩
            · intro e4
              have h1 := (HVB.out tb (by rw [e3]; rfl)).1
              have h2 := HFL.out bb (.inr (.inl rfl))
              omega
            · rw [hgd k hk, ← hcell]
              exact World.cell?_of_block (a := ⟨tb, k, none⟩) (by rw [he])
        obtain ⟨x0, x1, x2, _⟩ := HKT.out.cells
        have hltT := HKT.out.row.lt
        clear x1 x2
        go_wp2_with fail
        refine (Mount_up hb s10 _ HKT.out.hoard).mono ?_
        rintro e wm ⟨rfl, rfl⟩
        go_wp2_with fail
        refine (HSTEP.out _ HKT.out.hoard).mono ?_
        rintro e wn ⟨rfl, rfl⟩
        go_wp2_with fail
        refine (HLAY.out _ HKT.out rfl).mono ?_
        rintro e wo ⟨rfl, hKo, kpo⟩
        have HKO : Hid (KeepAt w1 wo kb bb hb s10 (fLay f x dt.size (byteOfS dt) (L.take md)) V (fun _ => false) bu) := hKo
        have HIN2 : Hid (KInv s10 (fLay f x dt.size (byteOfS dt) (L.take md)) (fun _ => false) bu) := (show KInv _ _ _ _ by
          have h1 := HFN.out.inv
          rw [HMD.out] at h1; exact h1)
        clear hKo kpo HLAY HSTEP
        generalize fLay f x dt.size (byteOfS dt) (L.take md) = f2 at *
        go_wp2_with fail
        refine (reads_any kb bb hb s10 f2 V (fun _ => false) bu wo HKO.out HIN2.out).mono ?_
        rintro e wp ⟨rfl, kp⟩
        have HKP : Hid (KeepAt w1 wp kb bb hb s10 f2 V (fun _ => false) bu) := HKO.out.of_below kp
        clear kp
        go_wp2_with fail
        refine (coded_any kb bb hb s10 f2 V (fun _ => false) bu wp HKP.out HIN2.out (HIN2.out.live HBU.out)).mono ?_
        rintro e wq ⟨rfl, kq⟩
        have HBQ : Hid (Below w.heap.size w wq) := HB1.out.trans ((HKP.out.of_below kq).below.mono HB1.out.size)
        clear kq
        go_wp2_with fail
        go_ret
        exact ⟨rfl, HBQ.out⟩
end Go.Proofs.Ytfpoiikhhjdpdab
