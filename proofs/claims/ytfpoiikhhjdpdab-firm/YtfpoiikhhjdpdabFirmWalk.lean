/- hoardkeep.Firm: the walk. -/
import Derived.Test.YtfpoiikhhjdpdabKTwin
import Derived.Test.YtfpoiikhhjdpdabKRefuse
import Derived.Test.YtfpoiikhhjdpdabKCoded
namespace Go.Proofs.Ytfpoiikhhjdpdab
open Go.RowKit
set_option linter.unusedVariables false
attribute [local go_sem ↓] Go.wp_at_zero Go.wp_at_succ
theorem twins_refused {w0 : World} (kb bb hb : Nat) (V : Nat → Value) (kb' bb' hb' : Nat) (V' : Nat → Value) (D P R M k : Nat) (od : Int) (w : World) (h : Twins w0 w kb bb hb V kb' bb' hb' V' D P R M k) (ho : -9223372036854775808 ≤ od ∧ od ≤ 9223372036854775807) :
    Calls Try.prog 34 #[.pointer (some ⟨kb, 0, none⟩), .int .i64 od] w fun e w' => e = .returned (.bool true) ∧ Twins w0 w' kb bb hb V kb' bb' hb' V' D P R M k := by
  obtain ⟨s, s', f, bu, bu', h1, h2, h3, _⟩ := h.ex
  exact (refused_any kb bb hb s f V (fun _ => false) bu od w h1.k1 (fun d hd => h3.lost d hd) ho).mono fun e w' ⟨he, hb⟩ => ⟨he, h.below hb⟩
def Box4 (w : World) (b D P R M : Nat) : Prop := w.rowIs b 27 4 (fun j => if j = 0 then .int .i64 D else if j = 1 then .int .i64 P else if j = 2 then .int .i64 R else .int .i64 M)
theorem box4_new (w : World) (D P R M : Nat) : Box4 (w.alloc (.cells #[.int .i64 D, .int .i64 P, .int .i64 R, .int .i64 M] 27)) w.heap.size D P R M := by
  refine World.rowIs_alloc w _ _ _ ?_
  intro i hi
  have hi' : i < 4 := hi
  have : i = 0 ∨ i = 1 ∨ i = 2 ∨ i = 3 := by omega
  rcases this with rfl | rfl | rfl | rfl <;> rfl
theorem Box4.cells {w : World} {b D P R M : Nat} (h : Box4 w b D P R M) : w.cell? ⟨b, 0, none⟩ = some (.int .i64 D) ∧ w.cell? ⟨b, 1, none⟩ = some (.int .i64 P) ∧ w.cell? ⟨b, 2, none⟩ = some (.int .i64 R) ∧ w.cell? ⟨b, 3, none⟩ = some (.int .i64 M) :=
  ⟨World.rowIs.cell h (i := 0) (by omega), World.rowIs.cell h (i := 1) (by omega), World.rowIs.cell h (i := 2) (by omega), World.rowIs.cell h (i := 3) (by omega)⟩
theorem Box4.lt {w : World} {b D P R M : Nat} (h : Box4 w b D P R M) : b < w.heap.size := World.rowIs.lt h
theorem Box4.below {w w' : World} {b D P R M : Nat} (h : Box4 w b D P R M) (k : Below w.heap.size w w') : Box4 w' b D P R M := World.rowIs.of_block h (k.block b (World.rowIs.lt h))
set_option maxRecDepth 100000 in
set_option maxHeartbeats 4000000 in
theorem firm_walk (a b c d : Int) (wa : (Lit.int .i64 a).wf = true) (wb : (Lit.int .i64 b).wf = true) (wc : (Lit.int .i64 c).wf = true) (wd : (Lit.int .i64 d).wf = true) (a0 : Option Addr) (n cap : Nat) (mv : Nat → MvV) (od : Int) (wod : (Lit.int .i64 od).wf = true) (w : World) (hn : n ≤ 10000000000000) (hm : MovesAt w a0 n mv) (hmo : ∀ i, i < n → (mv i).ok) :
    Calls Try.prog 7 #[.int .i64 a, .int .i64 b, .int .i64 c, .int .i64 d, .slice a0 n cap, .int .i64 od] w fun e w' => e = .returned (.bool true) ∧ Below w.heap.size w w' := by
  have q1 := pickN_lt a 4 (by omega)
  have q2 := pickN_lt b 2 (by omega)
  have q3 := pickN_lt c 6 (by omega)
  have q4 := pickN_lt d 8 (by omega)
  have HSH : Hid (∀ W, Calls Try.prog 9 #[.int .i64 a, .int .i64 b, .int .i64 c, .int .i64 d] W fun e w' => e = .returned (.agg #[.int .i64 (1 + pickN a 4 : Nat), .int .i64 (1 + pickN b 2 : Nat), .int .i64 (1 + pickN c 6 : Nat), .int .i64 (1 + pickN d 8 : Nat)]) ∧ Below W.heap.size W w') := fun W => kshape_any a b c d W (wf64 wa) (wf64 wb) (wf64 wc) (wf64 wd)
  generalize hD : 1 + pickN a 4 = D at *
  generalize hP : 1 + pickN b 2 = P at *
  generalize hR : 1 + pickN c 6 = R at *
  generalize hM : 1 + pickN d 8 = M at *
  have HS : Hid (shapeB D P R M = true) := (show _ = _ by simp only [shapeB, Bool.and_eq_true, decide_eq_true_eq]; omega)
  have HM : Hid (MovesAt w a0 n mv) := hm
  have HMO : Hid (∀ i, i < n → (mv i).ok) := hmo
  have hD4 : 1 ≤ D ∧ D ≤ 4 := by omega
  have hP2 : 1 ≤ P ∧ P ≤ 2 := by omega
  clear hD hP hR hM q1 q2 q3 q4 wa wb wc wd hm hmo
  go_enter Try.func7, Try.ntmps7
  go_wp2_with fail
  refine (HSH.out _).mono ?_
  rintro e w1 ⟨rfl, k1⟩
  have HB : Hid (∀ W, Calls Try.prog 8 #[.agg #[.int .i64 D, .int .i64 P, .int .i64 R, .int .i64 M]] W fun e w' => ∃ kb, e = .returned (.tuple #[.pointer (some ⟨kb, 0, none⟩), .bool true]) ∧ ∃ bb hb V, KeepAt W w' kb bb hb (newSt D P R M) (fun _ => 0) V (fun _ => false) (fun _ _ => true)) := fun W => begin_new D P R M W HS.out
  have HX1 : Hid (Box4 (w1.alloc (.cells #[.int .i64 D, .int .i64 P, .int .i64 R, .int .i64 M] 27)) w1.heap.size D P R M) := box4_new w1 D P R M
  have HL1 : Hid (Below w.heap.size w (w1.alloc (.cells #[.int .i64 D, .int .i64 P, .int .i64 R, .int .i64 M] 27))) := k1.alloc k1.size _
  clear k1 HSH
  go_wp2_with fail
  generalize w1.alloc (.cells #[.int .i64 D, .int .i64 P, .int .i64 R, .int .i64 M] 27) = wA at *
  generalize w1.heap.size = sb at *
  refine (HB.out _).mono ?_
  rintro e w2 ⟨kb, rfl, bb, hb, V, hst⟩
  have HK2 : Hid (KeepAt wA w2 kb bb hb (newSt D P R M) (fun _ => 0) V (fun _ => false) (fun _ _ => true)) := hst
  obtain ⟨x0, x1, x2, x3⟩ := (HX1.out.below hst.below).cells
  have hxl := (HX1.out.below hst.below).lt
  clear hst
  go_wp2_with fail
  refine (HB.out _).mono ?_
  rintro e w3 ⟨kb', rfl, bb', hb', V', hst⟩
  have HT3 : Hid (Twins wA w3 kb bb hb V kb' bb' hb' V' D P R M 0) := (show Twins _ _ _ _ _ _ _ _ _ _ _ _ _ _ _ from Twins.start HS.out HK2.out hst)
  clear hst HK2 HB x0 x1 x2 x3 hxl
  have HM1 : Hid (MovesAt wA a0 n mv) := HM.out.below HL1.out
  clear HM HS
  go_wp2_with fail
  go_loopw [17, 18, 19, 20] (fun i _ _ _ wr => ∃ k : Nat, k ≤ n ∧ i = .int .i64 k ∧ Hid (Twins wA wr kb bb hb V kb' bb' hb' V' D P R M k)) (fun i _ _ _ _ => n - (intOf i).toNat)
  case atStart => exact ⟨0, by omega, rfl, HT3⟩
  case round =>
    clear HT3
    obtain ⟨k, hk, rfl, hT⟩ := hrel
    by_cases hlt : k < n
    · have hlti : (k : Int) < (n : Int) := by omega
      obtain ⟨mb, mo, rfl, m0, m1, m2, m3⟩ := HM1.out.below hT.out.base k hlt
      have hmok := HMO.out k hlt
      by_cases hkind : (mv k).k = 1
      · have HRF : Hid (∀ W, Twins wA W kb bb hb V kb' bb' hb' V' D P R M k → Calls Try.prog 34 #[.pointer (some ⟨kb, 0, none⟩), .int .i64 od] W fun e w' => e = .returned (.bool true) ∧ Twins wA w' kb bb hb V kb' bb' hb' V' D P R M k) := fun W hW => twins_refused kb bb hb V kb' bb' hb' V' D P R M k od W hW (wf64 wod)
        have HV1 : Hid (∀ W, Twins wA W kb bb hb V kb' bb' hb' V' D P R M k → Calls Try.prog 10 #[.pointer (some ⟨kb, 0, none⟩), .agg #[.int .i64 1, .int .i64 (mv k).a, .int .i64 (mv k).b, .string (mv k).s]] W fun e w' => e = .returned (.bool true) ∧ Half wA w' kb bb hb V kb' bb' hb' V' D P R M k (mv k)) := fun W hW => by
          have h1 := twins_move1 kb bb hb V kb' bb' hb' V' D P R M k (mv k) W hW hmok (by omega) (.inl hkind)
          rw [hkind] at h1; exact h1
        have HV2 : Hid (∀ W, Half wA W kb bb hb V kb' bb' hb' V' D P R M k (mv k) → Calls Try.prog 10 #[.pointer (some ⟨kb', 0, none⟩), .agg #[.int .i64 1, .int .i64 (mv k).a, .int .i64 (mv k).b, .string (mv k).s]] W fun e w' => e = .returned (.bool true) ∧ Twins wA w' kb bb hb V kb' bb' hb' V' D P R M (k + 1)) := fun W hW => by
          have h1 := twins_move2 kb bb hb V kb' bb' hb' V' D P R M k (mv k) W hW hmok (by omega) (.inl hkind)
          rw [hkind] at h1; exact h1
        have HMA : Hid (∀ W, Below wA.heap.size wA W → W.cell? ⟨mb, mo + k * 4, none⟩ = some (.int .i64 1) ∧ W.cell? ⟨mb, mo + k * 4 + 1, none⟩ = some (.int .i64 (mv k).a) ∧ W.cell? ⟨mb, mo + k * 4 + 2, none⟩ = some (.int .i64 (mv k).b) ∧ W.cell? ⟨mb, mo + k * 4 + 3, none⟩ = some (.string (mv k).s)) := fun W hW => by
          obtain ⟨b2, o2, e2, g0, g1, g2, g3⟩ := HM1.out.below hW k hlt
          simp only [Option.some.injEq, Addr.mk.injEq] at e2
          obtain ⟨rfl, rfl, _⟩ := e2
          rw [hkind] at g0
          exact ⟨g0, g1, g2, g3⟩
        rw [hkind] at m0
        clear hkind hmok
        generalize mv k = o at *
        go_wp2_with fail
        refine (HRF.out _ hT.out).mono ?_
        rintro e w4 ⟨rfl, hT4⟩
        have HT4 : Hid (Twins wA w4 kb bb hb V kb' bb' hb' V' D P R M k) := hT4
        clear hT4 m0 m1 m2 m3
        obtain ⟨m0, m1, m2, m3⟩ := HMA.out _ HT4.out.base
        go_wp2_with fail
        refine (HV1.out _ HT4.out).mono ?_
        rintro e w5 ⟨rfl, hT5⟩
        have HT5 : Hid (Half wA w5 kb bb hb V kb' bb' hb' V' D P R M k o) := hT5
        clear hT5 m0 m1 m2 m3
        obtain ⟨m0, m1, m2, m3⟩ := HMA.out _ HT5.out.base
        go_wp2_with fail
        refine (HV2.out _ HT5.out).mono ?_
        rintro e w6 ⟨rfl, hT6⟩
        have HT6 : Hid (Twins wA w6 kb bb hb V kb' bb' hb' V' D P R M (k + 1)) := hT6
        clear hT6 m0 m1 m2 m3
        go_wp2_with fail
        exact ⟨⟨k + 1, by omega, by go_num, HT6⟩, by simp [intOf]; omega⟩
      · by_cases hkind2 : (mv k).k = 2
        · have hkind := hkind2
          clear hkind2
          have HRF : Hid (∀ W, Twins wA W kb bb hb V kb' bb' hb' V' D P R M k → Calls Try.prog 34 #[.pointer (some ⟨kb, 0, none⟩), .int .i64 od] W fun e w' => e = .returned (.bool true) ∧ Twins wA w' kb bb hb V kb' bb' hb' V' D P R M k) := fun W hW => twins_refused kb bb hb V kb' bb' hb' V' D P R M k od W hW (wf64 wod)
          have HV1 : Hid (∀ W, Twins wA W kb bb hb V kb' bb' hb' V' D P R M k → Calls Try.prog 10 #[.pointer (some ⟨kb, 0, none⟩), .agg #[.int .i64 2, .int .i64 (mv k).a, .int .i64 (mv k).b, .string (mv k).s]] W fun e w' => e = .returned (.bool true) ∧ Half wA w' kb bb hb V kb' bb' hb' V' D P R M k (mv k)) := fun W hW => by
            have h1 := twins_move1 kb bb hb V kb' bb' hb' V' D P R M k (mv k) W hW hmok (by omega) (.inr hkind)
            rw [hkind] at h1; exact h1
          have HV2 : Hid (∀ W, Half wA W kb bb hb V kb' bb' hb' V' D P R M k (mv k) → Calls Try.prog 10 #[.pointer (some ⟨kb', 0, none⟩), .agg #[.int .i64 2, .int .i64 (mv k).a, .int .i64 (mv k).b, .string (mv k).s]] W fun e w' => e = .returned (.bool true) ∧ Twins wA w' kb bb hb V kb' bb' hb' V' D P R M (k + 1)) := fun W hW => by
            have h1 := twins_move2 kb bb hb V kb' bb' hb' V' D P R M k (mv k) W hW hmok (by omega) (.inr hkind)
            rw [hkind] at h1; exact h1
          have HMA : Hid (∀ W, Below wA.heap.size wA W → W.cell? ⟨mb, mo + k * 4, none⟩ = some (.int .i64 2) ∧ W.cell? ⟨mb, mo + k * 4 + 1, none⟩ = some (.int .i64 (mv k).a) ∧ W.cell? ⟨mb, mo + k * 4 + 2, none⟩ = some (.int .i64 (mv k).b) ∧ W.cell? ⟨mb, mo + k * 4 + 3, none⟩ = some (.string (mv k).s)) := fun W hW => by
            obtain ⟨b2, o2, e2, g0, g1, g2, g3⟩ := HM1.out.below hW k hlt
            simp only [Option.some.injEq, Addr.mk.injEq] at e2
            obtain ⟨rfl, rfl, _⟩ := e2
            rw [hkind] at g0
            exact ⟨g0, g1, g2, g3⟩
          rw [hkind] at m0
          clear hkind hmok
          generalize mv k = o at *
          go_wp2_with fail
          refine (HRF.out _ hT.out).mono ?_
          rintro e w4 ⟨rfl, hT4⟩
          have HT4 : Hid (Twins wA w4 kb bb hb V kb' bb' hb' V' D P R M k) := hT4
          clear hT4 m0 m1 m2 m3
          obtain ⟨m0, m1, m2, m3⟩ := HMA.out _ HT4.out.base
          go_wp2_with fail
          refine (HV1.out _ HT4.out).mono ?_
          rintro e w5 ⟨rfl, hT5⟩
          have HT5 : Hid (Half wA w5 kb bb hb V kb' bb' hb' V' D P R M k o) := hT5
          clear hT5 m0 m1 m2 m3
          obtain ⟨m0, m1, m2, m3⟩ := HMA.out _ HT5.out.base
          go_wp2_with fail
          refine (HV2.out _ HT5.out).mono ?_
          rintro e w6 ⟨rfl, hT6⟩
          have HT6 : Hid (Twins wA w6 kb bb hb V kb' bb' hb' V' D P R M (k + 1)) := hT6
          clear hT6 m0 m1 m2 m3
          go_wp2_with fail
          exact ⟨⟨k + 1, by omega, by go_num, HT6⟩, by simp [intOf]; omega⟩
        · have hkn : ((mv k).k != 1) = true := by rw [bne_iff_ne]; exact hkind
          have hkn2 : ((mv k).k != 2) = true := by rw [bne_iff_ne]; exact hkind2
          have HT2 : Hid (Twins wA wr kb bb hb V kb' bb' hb' V' D P R M (k + 1)) := hT.out.mono (by omega)
          clear hkind hkind2 hmok
          generalize mv k = o at *
          go_wp2_with fail
          exact ⟨⟨k + 1, by omega, by go_num, HT2⟩, by simp [intOf]; omega⟩
    · have hlti : ¬ ((k : Int) < (n : Int)) := by omega
      clear HM1 HMO
      have HRF : Hid (∀ W, Twins wA W kb bb hb V kb' bb' hb' V' D P R M k → Calls Try.prog 34 #[.pointer (some ⟨kb, 0, none⟩), .int .i64 od] W fun e w' => e = .returned (.bool true) ∧ Twins wA w' kb bb hb V kb' bb' hb' V' D P R M k) := fun W hW => twins_refused kb bb hb V kb' bb' hb' V' D P R M k od W hW (wf64 wod)
      go_wp2_with fail
      refine (HRF.out _ hT.out).mono ?_
      rintro e w4 ⟨rfl, hT4⟩
      obtain ⟨s, s', f, bu, bu', hPr, hab, hI, hI', hbu, hbu', _, hsb, hsD, hsP, hsR, hsM⟩ := hT4.ex
      have HPR : Hid (Pair wA w4 kb bb hb V s f bu kb' bb' hb' V' s' f bu') := hPr
      have HI : Hid (KInv s f (fun _ => false) bu) := hI
      have HI' : Hid (KInv s' f (fun _ => false) bu') := hI'
      have HBU : Hid (∀ d r, bu d r = true) := hbu
      have HST : Hid (∀ W, HoardAt W hb' s' → Calls Try.prog 26 #[.pointer (some ⟨hb', 0, none⟩)] W fun e w' => e = .returned (.tuple #[.int .i64 s.steps, .int .i64 0]) ∧ w' = W) := fun W hW => by
        have h1 := Steps_any hb' s' W hW
        rw [show s'.steps = s.steps from congrArg Ab.steps hab] at h1
        exact h1
      have HSH : Hid (s.D = D ∧ s.P = P ∧ s'.D = D ∧ s'.P = P ∧ s.M ≤ 8) := ⟨hsD, hsP, (congrArg Ab.D hab).trans hsD, (congrArg Ab.P hab).trans hsP, hPr.k1.hoard.ok.M8⟩
      have HLG1 : Hid (∀ (j : Nat), D ≤ j → j < D + P → ∀ W, HoardAt W hb s → Calls Try.prog 35 #[.pointer (some ⟨hb, 0, none⟩), .int .i64 j] W fun e w' => ∃ v', e = .returned (.tuple #[v', .int .i64 0]) ∧ w'.ownsRow W.heap.size 76 5 v' (s.recs j).length (recCells (s.recs j)) ∧ Below W.heap.size W w') := fun j h1 h2 W hW => Log_ok hb s j W hW (by simp only [isParityB, decide_eq_true_eq]; rw [hsD, hsP]; omega) (hI.lost j (by rw [hsD, hsP]; exact h2))
      have HLG2 : Hid (∀ (j : Nat), D ≤ j → j < D + P → ∀ W, HoardAt W hb' s' → Calls Try.prog 35 #[.pointer (some ⟨hb', 0, none⟩), .int .i64 j] W fun e w' => ∃ v', e = .returned (.tuple #[v', .int .i64 0]) ∧ w'.ownsRow W.heap.size 76 5 v' (s.recs j).length (recCells (s.recs j)) ∧ Below W.heap.size W w') := fun j h1 h2 W hW => by
        have h3 := Log_ok hb' s' j W hW (by simp only [isParityB, decide_eq_true_eq]; rw [show s'.toAb.D = D from (congrArg Ab.D hab).trans hsD, show s'.toAb.P = P from (congrArg Ab.P hab).trans hsP]; omega) (hI'.lost j (by rw [show s'.toAb.D = D from (congrArg Ab.D hab).trans hsD, show s'.toAb.P = P from (congrArg Ab.P hab).trans hsP]; exact h2))
        rw [show s'.recs j = s.recs j from congrFun (congrArg Ab.recs hab) j] at h3
        exact h3
      have HLEN : Hid (∀ j, (s.recs j).length ≤ 8) := fun j => by have h1 := hPr.k1.hoard.ok.len j; have h2 := hPr.k1.hoard.ok.M8; omega
      obtain ⟨c0, _⟩ := hPr.k1.cells
      obtain ⟨e0, _⟩ := hPr.k2.cells
      have hlt1 := hPr.k1.row.lt
      have hlt2 := hPr.k2.row.lt
      clear hT4 hPr hab hI hI' hbu hbu' hsb hsD hsP hsR hsM HRF hT
      go_wp2_with fail
      refine (Steps_any hb s _ HPR.out.k1.hoard).mono ?_
      rintro e w5 ⟨rfl, rfl⟩
      go_wp2_with fail
      refine (HST.out _ HPR.out.k2.hoard).mono ?_
      rintro e w6 ⟨rfl, rfl⟩
      clear c0 e0 hlt1 hlt2
      have HX6 : Hid (Box4 w6 sb D P R M) := (show Box4 _ _ _ _ _ _ from HX1.out.below HPR.out.k1.below)
      obtain ⟨x0, x1, x2, x3⟩ := HX6.out.cells
      have hxl := HX6.out.lt
      go_wp2_with fail
      clear x0 x1 x2 x3 hxl
      go_loopw [26, 27, 28, 29, 30, 31, 32] (fun d _ _ _ _ _ _ wi => ∃ j : Nat, D ≤ j ∧ j ≤ D + P ∧ d = .int .i64 j ∧ Hid (Below w6.heap.size w6 wi)) (fun d _ _ _ _ _ _ _ => D + P - (intOf d).toNat)
      case atStart => exact ⟨D, by omega, by omega, rfl, Below.refl _ _⟩
      case round =>
        obtain ⟨j, hj1, hj2, rfl, hBj⟩ := hrel
        have hPj := HPR.out.below hBj.out
        obtain ⟨x0, x1, x2, x3⟩ := (HX6.out.below hBj.out).cells
        have hxl := (HX6.out.below hBj.out).lt
        obtain ⟨c0, _⟩ := hPj.k1.cells
        have hlt1 := hPj.k1.row.lt
        have HPJ : Hid (Pair wA wr kb bb hb V s f bu kb' bb' hb' V' s' f bu') := hPj
        clear hPj
        by_cases hjl : j < D + P
        · have hjli : (j : Int) < (D : Int) + (P : Int) := by omega
          have HL1' : Hid (∀ W, HoardAt W hb s → Calls Try.prog 35 #[.pointer (some ⟨hb, 0, none⟩), .int .i64 j] W fun e w' => ∃ v', e = .returned (.tuple #[v', .int .i64 0]) ∧ w'.ownsRow W.heap.size 76 5 v' (s.recs j).length (recCells (s.recs j)) ∧ Below W.heap.size W w') := HLG1.out j hj1 hjl
          have HL2' : Hid (∀ W, HoardAt W hb' s' → Calls Try.prog 35 #[.pointer (some ⟨hb', 0, none⟩), .int .i64 j] W fun e w' => ∃ v', e = .returned (.tuple #[v', .int .i64 0]) ∧ w'.ownsRow W.heap.size 76 5 v' (s.recs j).length (recCells (s.recs j)) ∧ Below W.heap.size W w') := HLG2.out j hj1 hjl
          have hlen := HLEN.out j
          generalize s.recs j = rs at *
          generalize hln : rs.length = ln at *
          have HLN : Hid (rs.length = ln) := hln
          clear hln
          go_wp2_with fail
          refine (HL1'.out _ HPJ.out.k1.hoard).mono ?_
          rintro e w7 ⟨v7, rfl, hown7, k7⟩
          have hPj7 := HPJ.out.below k7
          have HPJ7 : Hid (Pair wA w7 kb bb hb V s f bu kb' bb' hb' V' s' f bu') := hPj7
          have hlg7 : LogAt w7 v7 rs := ⟨by rw [HLN.out]; exact hown7.1, by
            rw [HLN.out]
            rcases hown7.2 with hx | ⟨g, cc, cur, h1, h2, h3⟩
            · exact .inl hx
            · exact .inr ⟨g, cc, cur, h1, Nat.zero_le _, h3⟩⟩
          have HLG7 : Hid (LogAt w7 v7 rs) := hlg7
          obtain ⟨p7, q7, hv7, _⟩ := hlg7.slice
          rw [HLN.out] at hv7
          subst hv7
          obtain ⟨y0, _⟩ := hPj7.k2.cells
          have hlt7 := hPj7.k2.row.lt
          have B7 : Hid (Below w6.heap.size w6 w7) := (show Below _ _ _ from hBj.out.trans (k7.mono hBj.out.size))
          clear hown7 k7 hPj7 hlg7 x0 x1 x2 x3 hxl c0 hlt1 HPJ HL1'
          go_wp2_with fail
          refine (HL2'.out _ HPJ7.out.k2.hoard).mono ?_
          rintro e w8 ⟨v8, rfl, hown8, k8⟩
          have hlg8 : LogAt w8 v8 rs := ⟨by rw [HLN.out]; exact hown8.1, by
            rw [HLN.out]
            rcases hown8.2 with hx | ⟨g, cc, cur, h1, h2, h3⟩
            · exact .inl hx
            · exact .inr ⟨g, cc, cur, h1, Nat.zero_le _, h3⟩⟩
          have hlg78 : LogAt w8 (.slice p7 ln q7) rs := HLG7.out.of_block (fun g hg => k8.block g (HLG7.out.lt hg))
          obtain ⟨p8, q8, hv8, hrec8⟩ := hlg8.slice
          obtain ⟨p9, q9, hv9, hrec7⟩ := hlg78.slice
          rw [HLN.out] at hv8 hv9 hrec8 hrec7
          subst hv8
          simp only [Value.slice.injEq] at hv9
          obtain ⟨rfl, _, rfl⟩ := hv9
          have HREC7 : Hid _ := hrec7
          have HREC8 : Hid _ := hrec8
          have B8 : Hid (Below w6.heap.size w6 w8) := (show Below _ _ _ from B7.out.trans (k8.mono B7.out.size))
          clear hown8 k8 hlg8 hlg78 hrec7 hrec8 y0 hlt7 HPJ7 HLG7 B7 HL2'
          go_wp2_with fail
          go_loopw [31, 32] (fun i _ wi => ∃ m : Nat, m ≤ ln ∧ i = .int .i64 m ∧ Below w8.heap.size w8 wi) (fun i _ _ => ln - (intOf i).toNat)
          case atStart => exact ⟨0, by omega, rfl, Below.refl _ _⟩
          case round =>
            obtain ⟨m, hm, rfl, hbm⟩ := hrel
            have HBM : Hid (Below w8.heap.size w8 wr) := hbm
            by_cases hml : m < ln
            · have hmli : (m : Int) < (ln : Int) := by omega
              obtain ⟨g8, x8, rfl, hg8, hx8, y0, y1, y2, y3, y4⟩ := HREC8.out m hml
              obtain ⟨g7, x7, rfl, hg7, hx7, z0, z1, z2, z3, z4⟩ := HREC7.out m hml
              have hxx : x7 = x8 := by
                rw [hx7] at hx8
                exact Option.some.inj hx8
              subst hxx
              have b0 := below_cell hbm y0
              have b1 := below_cell hbm y1
              have b2 := below_cell hbm y2
              have b3 := below_cell hbm y3
              have b4 := below_cell hbm y4
              have d0 := below_cell hbm z0
              have d1 := below_cell hbm z1
              have d2 := below_cell hbm z2
              have d3 := below_cell hbm z3
              have d4 := below_cell hbm z4
              have hm8 : m < 8 := by omega
              have hg8r := block_lt_of_cell b0
              have hg7r := block_lt_of_cell d0
              simp only at hg8r hg7r
              have HSC : Hid (∀ W, Calls Try.prog 19 #[.agg #[.int .u8 x7.c.b0, .int .u8 x7.c.b1, .int .u8 x7.c.b2, .int .u8 x7.c.b3], .agg #[.int .u8 x7.c.b0, .int .u8 x7.c.b1, .int .u8 x7.c.b2, .int .u8 x7.c.b3]] W fun e w' => e = .returned (.bool true) ∧ Below W.heap.size W w') := fun W => sameCell_eq x7.c W
              clear hx8 hx7 y0 y1 y2 y3 y4 z0 z1 z2 z3 z4 hg8 hg7
              go_wp2_with fail
              go_region_with ((go_at_call 19; go_must (refine Calls.mono (HSC.out _) ?_); rintro e w9 ⟨rfl, k9⟩; have K9 : Below wr.heap.size wr w9 := below_from k9 rfl rfl rfl rfl; have r0 := below_cell K9 b0; have r3 := below_cell K9 d0))
              all_goals
                have HK9 : Hid (Below w8.heap.size w8 w9) := (show Below _ _ _ from HBM.out.trans (K9.mono HBM.out.size))
                clear b0 b1 b2 b3 b4 d0 d1 d2 d3 d4 k9 K9
                go_wp2_with fail
                go_quiet (fail)
                go_wp2_with fail
                exact ⟨⟨m + 1, by omega, by go_num, below_drewN HK9.out _⟩, by simp [intOf]; omega⟩
            · have hmle : ¬ ((m : Int) < (ln : Int)) := by omega
              clear hbm HREC7 HREC8 HLN
              go_wp2_with fail
              exact ⟨⟨j + 1, by omega, by omega, by go_num, B8.out.trans (HBM.out.mono B8.out.size)⟩, by simp [intOf]; omega⟩
        · have hjli : ¬ ((j : Int) < (D : Int) + (P : Int)) := by omega
          have HPQ : Hid (Pair wA wr kb bb hb V s f bu kb' bb' hb' V' s' f bu') := HPJ
          clear c0 hlt1 HPJ
          go_wp2_with fail
          clear x0 x1 x2 x3 hxl
          refine (reads_any kb bb hb s f V (fun _ => false) bu wr HPQ.out.k1 HI.out).mono ?_
          rintro e w8 ⟨rfl, k8⟩
          have HP8 : Hid (Pair wA w8 kb bb hb V s f bu kb' bb' hb' V' s' f bu') := HPQ.out.below k8
          clear k8 HPQ
          go_wp2_with fail
          refine (reads_any kb' bb' hb' s' f V' (fun _ => false) bu' w8 HP8.out.k2 HI'.out).mono ?_
          rintro e w9 ⟨rfl, k9⟩
          have HP9 : Hid (Pair wA w9 kb bb hb V s f bu kb' bb' hb' V' s' f bu') := HP8.out.below k9
          clear k9 HP8
          go_wp2_with fail
          refine (coded_any kb bb hb s f V (fun _ => false) bu w9 HP9.out.k1 HI.out (HI.out.live HBU.out)).mono ?_
          rintro e w10 ⟨rfl, k10⟩
          have HB10 : Hid (Below w.heap.size w w10) := (show Below _ _ _ from HL1.out.trans ((HP9.out.below k10).k1.below.mono HL1.out.size))
          clear k10 HP9
          go_wp2_with fail
          go_ret
          exact ⟨rfl, HB10.out⟩
end Go.Proofs.Ytfpoiikhhjdpdab
