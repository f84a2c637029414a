/- hoardkeep's statement on what a write costs: the walk. -/
import Derived.Test.YtfpoiikhhjdpdaaKStart
import Derived.Test.YtfpoiikhhjdpdaaCounts
namespace Go.Proofs.Ytfpoiikhhjdpdaa
open Go.RowKit
set_option linter.unusedVariables false
attribute [local go_sem ↓] Go.wp_at_zero Go.wp_at_succ
/-- What is known between two writes. -/
structure CostInv (s : St) (f : Nat → Nat) (bu : Nat → Nat → Bool) (D P R M rc : Nat) : Prop where
  d : s.D = D
  p : s.P = P
  r : s.R = R
  m : s.M = M
  brk : s.brk = none
  inv : KInv s f (fun _ => false) bu
  all : ∀ d r, bu d r = true
  ub : ∀ d r, s.ub d r = false
  recs : ∀ d, D ≤ d → d < D + P → (s.recs d).length = rc
theorem CostInv.write {s s' : St} {f : Nat → Nat} {bu : Nat → Nat → Bool} {D P R M rc : Nat} (h : CostInv s f bu D P R M rc) {a n : Nat} {g : Nat → Nat} (hg : ∀ i, i < n → g i < 256) (hab : s'.toAb = abWrite s.toAb a n g) (han : a + n ≤ s.D * s.R * 4) :
    CostInv s' (layN f a n g) (buL s.D bu (chL f a n g ((a + n + 3) / 4 - a / 4))) D P R M (min (rc + (chL f a n g ((a + n + 3) / 4 - a / 4)).length) M) ∧ s'.steps = s.steps + (chL f a n g ((a + n + 3) / 4 - a / 4)).length * (3 + P) ∧
      (∀ d, D ≤ d → d < D + P → ∀ x, (chL f a n g ((a + n + 3) / 4 - a / 4)).getLast? = some x → ∃ r, (s'.recs d).getLast? = some r ∧ r.row = x / D) := by
  have he : a / 4 + (blkEnd a n - a / 4) ≤ s.D * s.R := by unfold blkEnd; split <;> omega
  have hI := h.inv.write a n g hg han
  have hc := blocks_count h.inv.inv (h.inv.live h.all) a n g hg (blkEnd a n - a / 4) he h.inv.good
  have hu := blocks_ub h.inv.inv a n g hg (blkEnd a n - a / 4) he h.inv.good
  have hs := (h.inv.inv.blocks a n g hg (blkEnd a n - a / 4) he h.inv.good).2.1
  rw [← chL_end] at hc
  have hbl : s'.toAb = abBlocks s.toAb a n g (blkEnd a n - a / 4) := hab
  rw [← hab] at hI
  rw [← hbl] at hc hs
  have hu2 : ∀ d r, s'.toAb.ub d r = false := fun d r => by
    rw [hbl, hu d r]
    split
    · rfl
    · exact h.ub d r
  obtain ⟨c1, c2, c3⟩ := hc
  refine ⟨⟨hs.D.trans h.d, hs.P.trans h.p, hs.R.trans h.r, hs.M.trans h.m, hs.brk.trans h.brk, hI, fun d r => by unfold buL; rw [h.all]; rfl, hu2, ?_⟩, ?_, ?_⟩
  · intro d hd1 hd2
    have h1 := c2 d (by rw [← h.d] at hd1; exact hd1) (by rw [← h.d, ← h.p] at hd2; exact hd2)
    have h2 : (s.toAb.recs d).length = rc := h.recs d hd1 hd2
    rw [h2] at h1
    have h3 : s.toAb.M = M := h.m
    rw [h3] at h1
    exact h1
  · have h3 : s.toAb.P = P := h.p
    rw [h3] at c1
    exact c1
  · intro d hd1 hd2 x hx
    obtain ⟨r, h1, h2⟩ := c3 d (by rw [← h.d] at hd1; exact hd1) (by rw [← h.d, ← h.p] at hd2; exact hd2) x hx
    have h3 : s.toAb.D = D := h.d
    rw [h3] at h2
    exact ⟨r, h1, h2⟩
theorem CostInv.new (a b c d : Nat) (h : shapeB a b c d = true) : CostInv (newSt a b c d) (fun _ => 0) (fun _ _ => true) a b c d 0 :=
  ⟨rfl, rfl, rfl, rfl, rfl, KInv.new a b c d h, fun _ _ => rfl, fun _ _ => rfl, fun _ _ _ => rfl⟩
theorem ubCount_zero (s : Ab) (d k : Nat) (h : ∀ d r, s.ub d r = false) : ubCount s d k = 0 := by
  induction k with
  | zero => rfl
  | succ k ih => simp only [ubCount, h, ih]; rfl
theorem hid_of {p : Prop} (h : p) : Hid p := h
theorem Log_last (hb : Nat) (s : St) (f : Nat → Nat) (bu : Nat → Nat → Bool) (D P R M rc dd : Nat) (L : List Nat) (hI : CostInv s f bu D P R M rc) (h1 : D ≤ dd) (h2 : dd < D + P)
    (hla : ∀ d, D ≤ d → d < D + P → ∀ y, L.getLast? = some y → ∃ r, (s.recs d).getLast? = some r ∧ r.row = y / D) (W : World) (hW : HoardAt W hb s) :
    Calls Try.prog 18 #[.pointer (some ⟨hb, 0, none⟩), .int .i64 (dd : Int)] W fun e w' => ∃ p c, e = .returned (.tuple #[.slice p rc c, .int .i64 0]) ∧ (∀ y, L.getLast? = some y → 1 ≤ rc ∧ ∃ g, p = some ⟨g, 0, none⟩ ∧ g < w'.heap.size ∧ w'.cell? ⟨g, (rc - 1) * 5, none⟩ = some (.int .i64 ((y / D : Nat) : Int))) ∧ Below W.heap.size W w' := by
  have hp : isParityB s dd = true := by
    simp only [isParityB, decide_eq_true_eq]; rw [hI.d, hI.p]; omega
  refine (Log_ok hb s dd W hW hp (hI.inv.lost dd (by rw [hI.d, hI.p]; exact h2))).mono ?_
  rintro e w' ⟨v', rfl, hown, hbl⟩
  have hlen := hI.recs dd h1 h2
  rcases hown.2 with ⟨rfl, h0⟩ | ⟨g, cap, cur, rfl, hbg, hg, rest⟩
  · have hrc : rc = 0 := by omega
    subst hrc
    refine ⟨none, 0, rfl, ?_, hbl⟩
    intro y hy
    obtain ⟨r, hr, _⟩ := hla dd h1 h2 y hy
    rw [List.eq_nil_of_length_eq_zero h0] at hr
    simp at hr
  · refine ⟨some ⟨g, 0, none⟩, cap, by rw [hlen], ?_, hbl⟩
    intro y hy
    obtain ⟨r, hr, hrr⟩ := hla dd h1 h2 y hy
    have hne : 1 ≤ rc := by
      rw [← hlen]
      cases hl : s.recs dd with
      | nil => rw [hl] at hr; simp at hr
      | cons _ _ => simp
    refine ⟨hne, g, rfl, (Array.getElem?_eq_some_iff.1 hg).1, ?_⟩
    obtain ⟨r', hr', hc, _⟩ := recCells_get (s.recs dd) (rc - 1) (by omega)
    rw [List.getLast?_eq_getElem?, hlen] at hr
    rw [hr] at hr'
    cases hr'
    have := World.ownsRow.cells hown (g := g) rfl _ _ hc
    rw [addr_add, Nat.zero_add] at this
    rw [this, hrr]
set_option maxRecDepth 100000 in
set_option maxHeartbeats 4000000 in
theorem lean_walk (a b c d : Int) (wa : (Lit.int .i64 a).wf = true) (wb : (Lit.int .i64 b).wf = true) (wc : (Lit.int .i64 c).wf = true) (wd : (Lit.int .i64 d).wf = true) (a0 : Option Addr) (n cap : Nat) (mv : Nat → MvV) (w : World) (hn : n ≤ 10000000000000) (hm : MovesAt w a0 n mv) (hmo : ∀ i, i < n → (mv i).ok) :
    Calls Try.prog 4 #[.int .i64 a, .int .i64 b, .int .i64 c, .int .i64 d, .slice a0 n cap] w fun e w' => e = .returned (.bool true) ∧ Below w.heap.size w w' := by
  have q1 := pickN_lt a 4 (by omega)
  have q2 := pickN_lt b 2 (by omega)
  have q3 := pickN_lt c 6 (by omega)
  have q4 := pickN_lt d 8 (by omega)
  have HSH : Hid (∀ W, Calls Try.prog 12 #[.int .i64 a, .int .i64 b, .int .i64 c, .int .i64 d] W fun e w' => e = .returned (.agg #[.int .i64 (1 + pickN a 4 : Nat), .int .i64 (1 + pickN b 2 : Nat), .int .i64 (1 + pickN c 6 : Nat), .int .i64 (1 + pickN d 8 : Nat)]) ∧ Below W.heap.size W w') := fun W => kshape_any a b c d W (wf64 wa) (wf64 wb) (wf64 wc) (wf64 wd)
  generalize hD : 1 + pickN a 4 = D at *
  generalize hP : 1 + pickN b 2 = P at *
  generalize hR : 1 + pickN c 6 = R at *
  generalize hM : 1 + pickN d 8 = M at *
  have hD4 : 1 ≤ D ∧ D ≤ 4 := by omega
  have hP2 : 1 ≤ P ∧ P ≤ 2 := by omega
  have hR6 : 1 ≤ R ∧ R ≤ 6 := by omega
  have hM8 : 1 ≤ M ∧ M ≤ 8 := by omega
  have hsh : shapeB D P R M = true := by
    simp only [shapeB, Bool.and_eq_true, decide_eq_true_eq]; omega
  have HS : Hid (shapeB D P R M = true) := hsh
  have HM : Hid (MovesAt w a0 n mv) := hm
  have HMO : Hid (∀ i, i < n → (mv i).ok) := hmo
  clear hD hP hR hM q1 q2 q3 q4 hsh wa wb wc wd hm hmo
  go_enter Try.func4, Try.ntmps4
  go_wp2_with fail
  refine (HSH.out _).mono ?_
  rintro e w1 ⟨rfl, k1⟩
  have HB : Hid (∀ W, Calls Try.prog 11 #[.agg #[.int .i64 D, .int .i64 P, .int .i64 R, .int .i64 M]] W fun e w' => ∃ kb, e = .returned (.tuple #[.pointer (some ⟨kb, 0, none⟩), .bool true]) ∧ ∃ bb hb V X, Beg W w' kb bb hb W.heap.size (newSt D P R M) R (D + P) 0 V X) := fun W => begin_any D P R M W HS.out
  go_wp2_with fail
  refine (HB.out _).mono ?_
  rintro e w2 ⟨kb, rfl, bb, hb, V, X, hbeg⟩
  have hK := KeepAt.of_beg (s := newSt D P R M) hbeg (fun g hg => by
    rcases hg with h1 | ⟨d', _, hd'⟩
    · exact h1
    · simp [newSt, Value.ownBlock] at hd')
  have HK : Hid (KeepAt w1 w2 kb bb hb (newSt D P R M) (fun _ => 0) V (fun _ => false) (fun _ _ => true)) := hK
  have HM1 : Hid (MovesAt w1 a0 n mv) := HM.out.below k1
  have HB1 : Hid (Below w.heap.size w w1) := k1
  clear hbeg hK k1 HSH HB
  go_wp2_with fail
  go_loopw [13, 14, 15, 16, 17, 18, 19, 20, 21, 22, 23, 24, 25, 26] (fun st rc i _ _ _ _ _ _ _ _ _ _ _ wr => ∃ (k rcN sN : Nat) (s : St) (f : Nat → Nat) (bu : Nat → Nat → Bool), k ≤ n ∧ i = .int .i64 k ∧ st = .int .i64 sN ∧ rc = .int .i64 rcN ∧ Hid (s.steps = sN) ∧ sN ≤ k * 125 ∧ rcN ≤ M ∧ Hid (KeepAt w1 wr kb bb hb s f V (fun _ => false) bu) ∧ Hid (CostInv s f bu D P R M rcN)) (fun _ _ i _ _ _ _ _ _ _ _ _ _ _ _ => n - (intOf i).toNat)
  case atStart => exact ⟨0, 0, 0, newSt D P R M, fun _ => 0, fun _ _ => true, by omega, rfl, rfl, rfl, rfl, by omega, by omega, HK, CostInv.new D P R M HS.out⟩
  case round =>
    obtain ⟨k, rcN, sN, s, f, bu, hk, rfl, rfl, rfl, hsN, hsb, hrc, hK, hI⟩ := hrel
    clear HK
    by_cases hlt : k < n
    · have hlti : (k : Int) < (n : Int) := by omega
      have hmv := HM1.out.below (by
        have := hK.out.below
        exact this) k hlt
      obtain ⟨mb, mo, rfl, m0, m1, m2, m3⟩ := hmv
      have hmok := HMO.out k hlt
      obtain ⟨_, hma, _, hms⟩ := hmok
      generalize (mv k).a = ma at *
      generalize (mv k).s = ms at *
      have hma' := wf64 hma
      obtain ⟨c0, c1, c2, c3, c4, c5, c6, c7⟩ := hK.out.cells
      rw [hI.out.d] at c1
      rw [hI.out.p] at c2
      rw [hI.out.m] at c4
      have hltk := hK.out.row.lt
      have HCUT : Hid (∀ W, KeepAt w1 W kb bb hb s f V (fun _ => false) bu → Calls Try.prog 13 #[.pointer (some ⟨kb, 0, none⟩), .int .i64 ma, .string ms] W fun e w' => e = .returned (.tuple #[.int .i64 (pickN ma (s.D * s.R * 4 + 1) : Nat), .string (ms.extract 0 (cutN (s.D * s.R * 4) (pickN ma (s.D * s.R * 4 + 1)) ms.size))]) ∧ ∃ q, w' = W.drewN q) := fun W hW => cut_any kb bb hb s f V (fun _ => false) bu ma ms W hW hma' hms
      have hpl := pickN_lt ma (s.D * s.R * 4 + 1) (by omega)
      have hcs : (ms.extract 0 (cutN (s.D * s.R * 4) (pickN ma (s.D * s.R * 4 + 1)) ms.size)).size ≤ s.D * s.R * 4 - pickN ma (s.D * s.R * 4 + 1) := by
        rw [ByteArray.size_extract]; unfold cutN; omega
      generalize hx : pickN ma (s.D * s.R * 4 + 1) = x at *
      generalize hdt : ms.extract 0 (cutN (s.D * s.R * 4) x ms.size) = dt at *
      have HX : Hid (pickN ma (s.D * s.R * 4 + 1) = x) := hx
      have HDT : Hid (ms.extract 0 (cutN (s.D * s.R * 4) x ms.size) = dt) := hdt
      have hxd : x + dt.size ≤ s.D * s.R * 4 := by omega
      clear hx hdt
      go_wp2_with fail
      go_quiet ((go_at_call 13; exact Calls.quiet_of (HCUT.out _ (hK.out.of_below (below_drewN (Below.refl _ _) _)))))
      go_wp2_with fail
      have K3 := hK.out.of_below (below_drewN (Below.refl _ _) nq)
      have hm1' : (wr.drewN nq).cell? ⟨mb, mo + k * 4 + 1, none⟩ = some (.int .i64 ma) := m1
      have hm3' : (wr.drewN nq).cell? ⟨mb, mo + k * 4 + 3, none⟩ = some (.string ms) := m3
      clear c0 c1 c2 c3 c4 c5 c6 c7 m0 m1 m2 m3 HCUT hltk
      generalize wr.drewN nq = w3 at *
      refine (changes_any kb bb hb s f V (fun _ => false) bu x dt w3 K3 hxd).mono ?_
      rintro e w4 ⟨v, rfl, hown, k4⟩
      have K4 := K3.of_below k4
      have hm1 := below_cell k4 hm1'
      have hm3 := below_cell k4 hm3'
      have hlL := chL_len f x dt.size (byteOfS dt) ((x + dt.size + 3) / 4 - x / 4)
      have hNsz := K3.size.1
      have hmem : ∀ y ∈ chL f x dt.size (byteOfS dt) ((x + dt.size + 3) / 4 - x / 4), y < 100 := fun y hy => by
        have := chL_mem f x dt.size (byteOfS dt) _ y hy
        omega
      have HCI : Hid (∀ s' : St, s'.toAb = abWrite s.toAb x dt.size (byteOfS dt) → CostInv s' (layN f x dt.size (byteOfS dt)) (buL s.D bu (chL f x dt.size (byteOfS dt) ((x + dt.size + 3) / 4 - x / 4))) D P R M (min (rcN + (chL f x dt.size (byteOfS dt) ((x + dt.size + 3) / 4 - x / 4)).length) M) ∧ s'.steps = s.steps + (chL f x dt.size (byteOfS dt) ((x + dt.size + 3) / 4 - x / 4)).length * (3 + P) ∧
        (∀ d, D ≤ d → d < D + P → ∀ y, (chL f x dt.size (byteOfS dt) ((x + dt.size + 3) / 4 - x / 4)).getLast? = some y → ∃ r, (s'.recs d).getLast? = some r ∧ r.row = y / D)) := fun s' hs' => hI.out.write (fun i _ => byteOfS_lt dt i) hs' hxd
      have HW : Hid (∀ W, KeepAt w1 W kb bb hb s f V (fun _ => false) bu → Calls Try.prog 15 #[.pointer (some ⟨kb, 0, none⟩), .int .i64 ma, .string ms] W fun e w' => e = .returned (.bool true) ∧ ∃ s', s'.toAb = abWrite s.toAb x dt.size (byteOfS dt) ∧ KeepAt w1 w' kb bb hb s' (layN f x dt.size (byteOfS dt)) V (fun _ => false) (buL s.D bu (chL f x dt.size (byteOfS dt) ((x + dt.size + 3) / 4 - x / 4))) ∧ Kept (KFoot kb bb hb s V) W w') := fun W hW => kwrite_any kb bb hb s f V (fun _ => false) bu ma ms W hW hma' hms ⟨by rw [hsN.out]; omega, hI.out.brk⟩ hI.out.inv.good x dt.size dt HX.out.symm HDT.out.symm rfl
      generalize hL : chL f x dt.size (byteOfS dt) ((x + dt.size + 3) / 4 - x / 4) = L at *
      generalize buL s.D bu L = bu2 at *
      generalize hln : L.length = ln at *
      have HLN : Hid (L.length = ln) := hln
      have hln24 : ln ≤ 25 := by omega
      have HMEM : Hid (∀ y ∈ L, y < 100) := hmem
      clear hmem
      obtain ⟨pv, nv, qv, hv⟩ := own_slice hown
      have hnv : nv = ln := by
        rcases hown.2 with ⟨h1, h2⟩ | ⟨g, c, cur, h1, _⟩
        · rw [hv] at h1; cases h1; exact h2.symm
        · rw [hv] at h1; cases h1; rfl
      subst hv
      subst hnv
      have HO4 : Hid (w4.ownsRow w3.heap.size 3 1 (.slice pv nv qv) nv (intsOf L)) := hown
      have HK3lt : Hid (∀ g, KFoot kb bb hb s V g → g < w3.heap.size) := fun g hg => K3.lt hg
      have HK4 : Hid (KeepAt w1 w4 kb bb hb s f V (fun _ => false) bu) := K4
      obtain ⟨c0, c1, c2, c3, c4, c5, c6, c7⟩ := K4.cells
      rw [hI.out.d] at c1
      rw [hI.out.p] at c2
      rw [hI.out.m] at c4
      have hltk := K4.row.lt
      obtain ⟨pr, hpr, hprb⟩ : ∃ pr : Nat, (nv : Int) * (3 + (P : Int)) = (pr : Int) ∧ pr ≤ 125 := ⟨nv * (3 + P), by simp, Nat.le_trans (Nat.mul_le_mul hln24 (show 3 + P ≤ 5 by omega)) (by omega)⟩
      have HPR : Hid (nv * (3 + P) = pr) := (show _ = _ by have h5 : ((nv * (3 + P) : Nat) : Int) = (nv : Int) * (3 + (P : Int)) := by simp
                                                           omega)
      have hsb2 : sN ≤ 2000000000000000 := by omega
      clear hown k4 K4 K3 hm1' hm3' hL hln hlL
      obtain ⟨rc2, hrc2⟩ : ∃ rc2, rc2 = min (rcN + nv) M := ⟨_, rfl⟩
      have HRC2 : Hid (rc2 = min (rcN + nv) M) := hrc2
      have hsp : (M < rcN + nv ∧ rc2 = M) ∨ (rcN + nv ≤ M ∧ rc2 = rcN + nv) := by omega
      have hrcM : rc2 ≤ M := by omega
      clear hrc2
      rcases hsp with ⟨hov, hrm⟩ | ⟨hov, hrm⟩
      case' inl =>
        subst hrm
        have hovi : (rc2 : Int) < (rcN : Int) + nv := by omega
      case' inr =>
        have hrm2 := hrm
        clear hrm
        have hre : (rcN : Int) + (nv : Int) = (rc2 : Int) := by omega
        have hovi : ¬ ((M : Int) < (rc2 : Int)) := by omega
      all_goals
        try clear hrm2
        go_wp2_with fail
        go_region_with ((go_at_call 15; go_must (refine (HW.out _ ?_).mono ?_; (exact HK4.out.of_below (Below.refl _ _).drew); rintro e w5 ⟨rfl, s5, hab5, K5, kp5⟩)))
        all_goals
          obtain ⟨I5, st5, last5⟩ := HCI.out s5 hab5
          have hown5 : w5.ownsRow w3.heap.size 3 1 (.slice pv nv qv) nv (intsOf L) := ownsRow_of_block HO4.out (fun g hg => by
            have h1 := World.ownsRow.lt HO4.out g hg
            exact (kp5.block g (by simpa using h1.2) (fun hf => by have := HK3lt.out g hf; omega)))
          have HO5 : Hid (w5.ownsRow w3.heap.size 3 1 (.slice pv nv qv) nv (intsOf L)) := hown5
          have HK5 : Hid (KeepAt w1 w5 kb bb hb s5 (layN f x dt.size (byteOfS dt)) V (fun _ => false) bu2) := K5
          rw [← HRC2.out] at I5
          have HI5 := hid_of I5
          have hst5 : s5.steps = sN + pr := by rw [st5, hsN.out, HPR.out]
          have HST5 : Hid (s5.steps = sN + pr) := hst5
          have HLA : Hid (∀ d, D ≤ d → d < D + P → ∀ y, L.getLast? = some y → ∃ r, (s5.recs d).getLast? = some r ∧ r.row = y / D) := last5
          obtain ⟨d0, d1, d2, d3, d4, d5, d6, d7⟩ := K5.cells
          rw [I5.d] at d1
          rw [I5.p] at d2
          have hlt5 := K5.row.lt
          have HSTEP : Hid (∀ W, HoardAt W hb s5 → Calls Try.prog 16 #[.pointer (some ⟨hb, 0, none⟩)] W fun e w' => e = .returned (.tuple #[.int .i64 ((sN + pr : Nat) : Int), .int .i64 0]) ∧ w' = W) := by
            intro W hW; rw [← HST5.out]; exact Steps_any hb s5 W hW
          clear I5 st5 last5 hown5 K5 kp5 hst5 c0 c1 c2 c3 c4 c5 c6 c7 hm1 hm3 hab5
          go_wp2_with fail
          refine (HSTEP.out _ HK5.out.hoard).mono ?_
          rintro e w6 ⟨rfl, rfl⟩
          go_wp2_with fail
          try clear hre
          clear hpr hovi hov d0 d1 d2 d3 d4 d5 d6 d7 hlt5 HSTEP
          have HDRV : Hid (∀ W (dd : Nat), D ≤ dd → dd < D + P → HoardAt W hb s5 → Calls Try.prog 17 #[.pointer (some ⟨hb, 0, none⟩), .int .i64 (dd : Int)] W fun e w' => e = .returned (.tuple #[.agg #[.bool false, .int .i64 0, .int .i64 rc2], .int .i64 0]) ∧ Below W.heap.size W w') := by
            intro W dd h1 h2 hW
            refine (Drive_ok hb s5 dd W hW (by rw [HI5.out.d, HI5.out.p]; exact h2)).mono ?_
            rintro e w' ⟨rfl, hb'⟩
            rw [show s5.lost dd = false from HI5.out.inv.lost dd (by rw [HI5.out.d, HI5.out.p]; exact h2), ubCount_zero s5.toAb dd 6 HI5.out.ub, show (s5.recs dd).length = rc2 from HI5.out.recs dd h1 h2]
            exact ⟨rfl, hb'⟩
          have HLOG : Hid (∀ W (dd : Nat), D ≤ dd → dd < D + P → HoardAt W hb s5 → Calls Try.prog 18 #[.pointer (some ⟨hb, 0, none⟩), .int .i64 (dd : Int)] W fun e w' => ∃ p c, e = .returned (.tuple #[.slice p rc2 c, .int .i64 0]) ∧ (∀ y, L.getLast? = some y → 1 ≤ rc2 ∧ ∃ g, p = some ⟨g, 0, none⟩ ∧ g < w'.heap.size ∧ w'.cell? ⟨g, (rc2 - 1) * 5, none⟩ = some (.int .i64 ((y / D : Nat) : Int))) ∧ Below W.heap.size W w') := fun W dd h1 h2 hW => Log_last hb s5 _ _ D P R _ rc2 dd L HI5.out h1 h2 HLA.out W hW
          go_loopw [22, 23, 24, 25, 26] (fun d _ _ _ _ wr => ∃ dd : Nat, D ≤ dd ∧ dd ≤ D + P ∧ d = .int .i64 dd ∧ Below w6.heap.size w6 wr) (fun d _ _ _ _ _ => D + P - (intOf d).toNat)
          case atStart => exact ⟨D, Nat.le_refl _, by omega, rfl, Below.refl _ _⟩
          case round =>
            obtain ⟨dd, hdd1, hdd2, rfl, hbl⟩ := hrel
            have K6 := HK5.out.of_below hbl
            obtain ⟨d0, d1, d2, d3, d4, d5, d6, d7⟩ := K6.cells
            rw [HI5.out.d] at d1
            rw [HI5.out.p] at d2
            have hlt6 := K6.row.lt
            have HK6 : Hid (KeepAt w1 wr kb bb hb s5 (layN f x dt.size (byteOfS dt)) V (fun _ => false) bu2) := K6
            clear K6 d3 d4 d5 d6 d7
            by_cases hdl : dd < D + P
            · as_aux_lemma =>
              have hdli : (dd : Int) < (D : Int) + P := by omega
              go_wp2_with fail
              go_quiet (fail)
              go_wp2_with fail
              have K7 := HK6.out.of_below (below_drewN (Below.refl _ _) nq)
              have B7 : Below w6.heap.size w6 (wr.drewN nq) := below_drewN hbl nq
              have HB7 : Hid (Below w6.heap.size w6 (wr.drewN nq)) := B7
              have HK7 : Hid (KeepAt w1 (wr.drewN nq) kb bb hb s5 (layN f x dt.size (byteOfS dt)) V (fun _ => false) bu2) := K7
              clear K7 B7 d0 d1 d2 hlt6 hbl
              generalize wr.drewN nq = w7 at *
              refine (HDRV.out _ dd hdd1 hdl HK7.out.hoard).mono ?_
              rintro e w8 ⟨rfl, k8⟩
              have K8 := HK7.out.of_below k8
              have HB8 : Hid (Below w6.heap.size w6 w8) := HB7.out.trans (k8.mono HB7.out.size)
              obtain ⟨d0, d1, d2, d3, d4, d5, d6, d7⟩ := K8.cells
              rw [HI5.out.d] at d1
              have hlt8 := K8.row.lt
              have HK8 : Hid (KeepAt w1 w8 kb bb hb s5 (layN f x dt.size (byteOfS dt)) V (fun _ => false) bu2) := K8
              clear K8 k8 d2 d3 d4 d5 d6 d7
              have x0 : (w8.alloc (Obj.cells #[Value.bool false, Value.int IntKind.i64 0, Value.int IntKind.i64 ↑rc2] 50)).cell? ⟨w8.heap.size, 0, none⟩ = some (.bool false) := by simp [go_sem]
              have x1 : (w8.alloc (Obj.cells #[Value.bool false, Value.int IntKind.i64 0, Value.int IntKind.i64 ↑rc2] 50)).cell? ⟨w8.heap.size, 1, none⟩ = some (.int .i64 0) := by simp [go_sem]
              have x2 : (w8.alloc (Obj.cells #[Value.bool false, Value.int IntKind.i64 0, Value.int IntKind.i64 ↑rc2] 50)).cell? ⟨w8.heap.size, 2, none⟩ = some (.int .i64 (rc2 : Int)) := by simp [go_sem]
              have xl : w8.heap.size < (w8.alloc (Obj.cells #[Value.bool false, Value.int IntKind.i64 0, Value.int IntKind.i64 ↑rc2] 50)).heap.size := by simp
              have ka : Below w8.heap.size w8 (w8.alloc (Obj.cells #[Value.bool false, Value.int IntKind.i64 0, Value.int IntKind.i64 ↑rc2] 50)) := (Below.refl _ _).alloc (Nat.le_refl _) _
              have HKA : Hid (KeepAt w1 (w8.alloc (Obj.cells #[Value.bool false, Value.int IntKind.i64 0, Value.int IntKind.i64 ↑rc2] 50)) kb bb hb s5 (layN f x dt.size (byteOfS dt)) V (fun _ => false) bu2) := HK8.out.of_below ka
              have HBA : Hid (Below w6.heap.size w6 (w8.alloc (Obj.cells #[Value.bool false, Value.int IntKind.i64 0, Value.int IntKind.i64 ↑rc2] 50))) := HB8.out.trans (ka.mono HB8.out.size)
              clear ka
              go_wp2_with fail
              generalize w8.alloc (Obj.cells #[Value.bool false, Value.int IntKind.i64 0, Value.int IntKind.i64 ↑rc2] 50) = wa at *
              generalize w8.heap.size = xb at *
              refine (HLOG.out _ dd hdd1 hdl HKA.out.hoard).mono ?_
              rintro e w9 ⟨pl, ql, rfl, hlast, k9⟩
              have y0 := below_cell k9 x0
              have y1 := below_cell k9 x1
              have y2 := below_cell k9 x2
              have yl : xb < w9.heap.size := Nat.lt_of_lt_of_le xl k9.size
              have K9 := HKA.out.of_below k9
              have HB9 : Hid (Below w6.heap.size w6 w9) := HBA.out.trans (k9.mono HBA.out.size)
              clear d0 d1 hlt8
              obtain ⟨d0, d1, d2, d3, d4, d5, d6, d7⟩ := K9.cells
              rw [HI5.out.d] at d1
              have hlt9 := K9.row.lt
              have hO9 : w9.ownsRow w3.heap.size 3 1 (.slice pv nv qv) nv (intsOf L) := ownsRow_of_block HO5.out (fun g hg => HB9.out.block g (World.ownsRow.lt HO5.out g hg).2)
              clear K9 k9 x0 x1 x2 xl d2 d3 d4 d5 d6 d7
              cases hLl : L.getLast? with
              | none =>
               as_aux_lemma =>
                have hnv0 : decide (0 < nv) = false := by
                  rw [List.getLast?_eq_none_iff] at hLl
                  have := HLN.out
                  rw [hLl] at this
                  simp at this
                  simp
                  omega
                clear hLl hlast hO9
                go_wp2_with fail
                go_quiet (fail)
                go_wp2_with fail
                refine ⟨⟨(dd + 1 : Nat), ?_, ?_, ?_, ?_⟩, ?_⟩
                · omega
                · omega
                · go_num
                · exact below_drewN HB9.out nq
                · simp [intOf]; omega
              | some y =>
               as_aux_lemma =>
                obtain ⟨hrc1, g, rfl, hgl, hgc⟩ := hlast y hLl
                have hL1 : L[nv - 1]? = some y := by rw [← HLN.out, ← List.getLast?_eq_getElem?]; exact hLl
                have hnvp : 0 < nv := by
                  have := (List.getElem?_eq_some_iff.1 hL1).1
                  have := HLN.out
                  omega
                have hy100 := HMEM.out y (List.mem_of_getElem? hL1)
                obtain ⟨gv, qv', hv1, hvc, _⟩ := own_cell hO9 (nv - 1) (by omega) (.int .i64 y) (by unfold intsOf; rw [List.getElem?_map, hL1]; rfl)
                cases hv1
                have hgv := (World.ownsRow.lt hO9 gv rfl).2
                have hnv0 : (0 : Int) < (nv : Int) := by omega
                obtain ⟨m, hm⟩ : ∃ m, nv - 1 = m := ⟨_, rfl⟩
                obtain ⟨rm, hrm⟩ : ∃ m, rc2 - 1 = m := ⟨_, rfl⟩
                obtain ⟨yd, hyd⟩ : ∃ m, y / D = m := ⟨_, rfl⟩
                rw [hm] at hvc
                rw [hrm] at hgc
                have hydi : (y : Int) / (D : Int) = (yd : Int) := by rw [← hyd]; simp
                rw [hyd] at hgc
                have hmi : (nv : Int) - 1 = (m : Int) := by omega
                have hrmi : (rc2 : Int) - 1 = (rm : Int) := by omega
                have hmlt : (m : Int) < (nv : Int) := by omega
                have hrlt : (rm : Int) < (rc2 : Int) := by omega
                have hD0 : (0 : Int) < (D : Int) := by omega
                have hyd100 : yd < 100 := by rw [← hyd]; have := Nat.div_le_self y D; omega
                clear hLl hlast hO9 hL1 hm hrm hyd
                go_wp2_with fail
                go_quiet (fail)
                go_wp2_with fail
                refine ⟨⟨(dd + 1 : Nat), ?_, ?_, ?_, ?_⟩, ?_⟩
                · omega
                · omega
                · go_num
                · exact below_drewN HB9.out nq
                · simp [intOf]; omega
            · as_aux_lemma =>
              have hdli : ¬ ((dd : Int) < (D : Int) + P) := by omega
              go_wp2_with fail
              go_quiet (fail)
              go_wp2_with fail
              exact ⟨⟨k + 1, rc2, sN + pr, s5, layN f x dt.size (byteOfS dt), bu2, by omega, by go_num, by go_num, rfl, HST5, by omega, hrcM, HK6.out.of_below (below_drewN (Below.refl _ _) nq), HI5⟩, by simp [intOf]; omega⟩
    · as_aux_lemma =>
      have hlti : ¬ ((k : Int) < (n : Int)) := by omega
      have hltk := hK.out.row.lt
      go_wp2_with fail
      refine (reads_any kb bb hb s f V (fun _ => false) bu wr hK.out hI.out.inv).mono ?_
      rintro e w9 ⟨rfl, k9⟩
      go_wp2_with fail
      go_ret
      exact ⟨rfl, HB1.out.trans ((hK.out.below.trans (k9.mono hK.out.below.size)).mono HB1.out.size)⟩
end Go.Proofs.Ytfpoiikhhjdpdaa
