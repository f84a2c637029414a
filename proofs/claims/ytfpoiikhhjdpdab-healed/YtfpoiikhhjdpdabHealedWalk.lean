/- hoardkeep.Healed: the walk. -/
import Derived.Test.YtfpoiikhhjdpdabKLive
import Derived.Test.YtfpoiikhhjdpdabKCoded
import Derived.Test.YtfpoiikhhjdpdabKSame
import Derived.Test.YtfpoiikhhjdpdabHealPure
namespace Go.Proofs.Ytfpoiikhhjdpdab
open Go.RowKit
set_option linter.unusedVariables false
attribute [local go_sem ↓] Go.wp_at_zero Go.wp_at_succ
def IntsIn (w : World) (a : Option Addr) (n : Nat) (z : Nat → Int) : Prop := ∀ i, i < n → ∃ b o, a = some ⟨b, o, none⟩ ∧ w.cell? ⟨b, o + i, none⟩ = some (.int .i64 (z i))
theorem IntsIn.below {w w' : World} {a : Option Addr} {n : Nat} {z : Nat → Int} (h : IntsIn w a n z) (hb : Below w.heap.size w w') : IntsIn w' a n z := by
  intro i hi
  obtain ⟨b, o, e, h0⟩ := h i hi
  exact ⟨b, o, e, below_cell hb h0⟩
theorem byte_of' (x : Int) : ∃ n : Nat, x % 256 = (n : Int) ∧ n < 256 := ⟨(x % 256).toNat, by omega, by omega⟩
theorem BoxAt.put {w : World} {b : Nat} {c : C4} (h : BoxAt w b c) (i v : Nat) (hi : i < 4) : BoxAt (w.setCell ⟨b, i, none⟩ (.int .u8 (v : Nat))) b (c.put i v) := by
  refine (World.rowIs.set h i _).congr ?_
  intro j hj
  rw [C4.at_put _ _ _ _ hj]
  split <;> rfl
theorem put_xor_ok {e : C4} (h : e.ok) (i v : Nat) (hv : v < 256) : (e.put i (e.at i ^^^ v)).ok := C4.put_ok h i _ (Hd.xor_lt _ _ (C4.at_lt h i) hv)
theorem xor_same (c e : C4) : c.beq (c.xor e) = true ↔ e = C4.zero := by
  rw [C4.beq_iff]
  constructor
  · intro h
    have : c.xor c = c.xor (c.xor e) := by rw [← h]
    rw [C4.xor_self, ← C4.xor_assoc, C4.xor_self, C4.zero_xor] at this
    exact this.symm
  · intro h; rw [h, C4.xor_zero]
def healE (e : C4) (P y k : Nat) : C4 := if P = 2 ∧ y < k then C4.zero else e
set_option maxRecDepth 100000 in
set_option maxHeartbeats 4000000 in
theorem healed_walk (a b c d : Int) (wa : (Lit.int .i64 a).wf = true) (wb : (Lit.int .i64 b).wf = true) (wc : (Lit.int .i64 c).wf = true) (wd : (Lit.int .i64 d).wf = true) (a0 : Option Addr) (n cap : Nat) (mv : Nat → MvV) (dr ro : Int) (wdr : (Lit.int .i64 dr).wf = true) (wro : (Lit.int .i64 ro).wf = true) (ba : Option Addr) (nb bcap : Nat) (bz : Nat → Int) (w : World) (hnb : nb ≤ 20000000000000) (hz : IntsIn w ba nb bz) (hn : n ≤ 10000000000000) (hm : MovesAt w a0 n mv) (hmo : ∀ i, i < n → (mv i).ok) :
    Calls Try.prog 6 #[.int .i64 a, .int .i64 b, .int .i64 c, .int .i64 d, .slice a0 n cap, .int .i64 dr, .int .i64 ro, .slice ba nb bcap] w fun e w' => e = .returned (.bool true) ∧ Below w.heap.size w w' := by
  have q1 := pickN_lt a 4 (by omega)
  have q2 := pickN_lt b 2 (by omega)
  have q3 := pickN_lt c 6 (by omega)
  have q4 := pickN_lt d 8 (by omega)
  have HSH : Hid (∀ W, Calls Try.prog 9 #[.int .i64 a, .int .i64 b, .int .i64 c, .int .i64 d] W fun e w' => e = .returned (.agg #[.int .i64 (1 + pickN a 4 : Nat), .int .i64 (1 + pickN b 2 : Nat), .int .i64 (1 + pickN c 6 : Nat), .int .i64 (1 + pickN d 8 : Nat)]) ∧ Below W.heap.size W w') := fun W => kshape_any a b c d W (wf64 wa) (wf64 wb) (wf64 wc) (wf64 wd)
  generalize hD : 1 + pickN a 4 = D at *
  generalize hP : 1 + pickN b 2 = P at *
  generalize hR : 1 + pickN c 6 = R at *
  generalize hM : 1 + pickN d 8 = M at *
  have HS : Hid (shapeB D P R M = true) := (show _ = _ by simp only [shapeB, Bool.and_eq_true, decide_eq_true_eq]; omega)
  have HM : Hid (MovesAt w a0 n mv) := hm
  have HMO : Hid (∀ i, i < n → (mv i).ok) := hmo
  have HZ : Hid (IntsIn w ba nb bz) := hz
  clear hD hP hR hM q1 q2 q3 q4 wa wb wc wd hm hmo hz
  go_enter Try.func6, Try.ntmps6
  go_wp2_with fail
  refine (HSH.out _).mono ?_
  rintro e w1 ⟨rfl, k1⟩
  have HB : Hid (∀ W, Calls Try.prog 8 #[.agg #[.int .i64 D, .int .i64 P, .int .i64 R, .int .i64 M]] W fun e w' => ∃ kb, e = .returned (.tuple #[.pointer (some ⟨kb, 0, none⟩), .bool true]) ∧ ∃ bb hb V, Lives W w' kb bb hb V D P R M 0) := fun W => begin_lives D P R M W HS.out
  go_wp2_with fail
  refine (HB.out _).mono ?_
  rintro e w2 ⟨kb, rfl, bb, hb, V, hst⟩
  have HST : Hid (Lives w1 w2 kb bb hb V D P R M 0) := hst
  have HM1 : Hid (MovesAt w1 a0 n mv) := HM.out.below k1
  have HB1 : Hid (Below w.heap.size w w1) := k1
  have HZ1 : Hid (IntsIn w1 ba nb bz) := HZ.out.below k1
  have HW1 : Hid (w.heap.size ≤ w1.heap.size) := k1.size
  clear hst k1 HSH HB HZ
  go_wp2_with fail
  go_loopw [18, 19] (fun _ i wr => ∃ k : Nat, k ≤ n ∧ i = .int .i64 k ∧ Hid (Lives w1 wr kb bb hb V D P R M k)) (fun _ i _ => n - (intOf i).toNat)
  case atStart => exact ⟨0, by omega, rfl, HST⟩
  case round =>
    clear HST
    obtain ⟨k, hk, rfl, hS⟩ := hrel
    by_cases hlt : k < n
    · as_aux_lemma =>
      have hlti : (k : Int) < (n : Int) := by omega
      obtain ⟨mb, mo, rfl, m0, m1, m2, m3⟩ := HM1.out.below hS.out.below k hlt
      have hmok := HMO.out k hlt
      by_cases hkind : (mv k).k = 1
      · have HMV : Hid (∀ W : World, W.heap = wr.heap → W.os = wr.os → W.tape = wr.tape → W.output = wr.output → Calls Try.prog 10 #[.pointer (some ⟨kb, 0, none⟩), .agg #[.int .i64 1, .int .i64 (mv k).a, .int .i64 (mv k).b, .string (mv k).s]] W fun e w' => e = .returned (.bool true) ∧ Lives w1 w' kb bb hb V D P R M (k + 1)) := fun W e1 e2 e3 e4 => by
          have h1 := move_lives kb bb hb V D P R M k (mv k) W (hS.out.of_below ⟨e2, e3, e4, by rw [e1]; exact Nat.le_refl _, fun i _ => by rw [e1]⟩) hmok (by omega) (.inl hkind)
          rw [hkind] at h1; exact h1
        rw [hkind] at m0
        clear hkind hmok
        generalize mv k = o at *
        go_wp2_with fail
        refine Calls.mono (HMV.out _ (by rfl) (by rfl) (by rfl) (by rfl)) ?_
        rintro e w3 ⟨rfl, hS3⟩
        have HS3 : Hid (Lives w1 w3 kb bb hb V D P R M (k + 1)) := hS3
        clear hS3
        go_wp2_with fail
        exact ⟨⟨k + 1, by omega, by go_num, HS3⟩, by simp [intOf]; omega⟩
      · by_cases hkind2 : (mv k).k = 2
        · have HMV : Hid (∀ W : World, W.heap = wr.heap → W.os = wr.os → W.tape = wr.tape → W.output = wr.output → Calls Try.prog 10 #[.pointer (some ⟨kb, 0, none⟩), .agg #[.int .i64 2, .int .i64 (mv k).a, .int .i64 (mv k).b, .string (mv k).s]] W fun e w' => e = .returned (.bool true) ∧ Lives w1 w' kb bb hb V D P R M (k + 1)) := fun W e1 e2 e3 e4 => by
            have h1 := move_lives kb bb hb V D P R M k (mv k) W (hS.out.of_below ⟨e2, e3, e4, by rw [e1]; exact Nat.le_refl _, fun i _ => by rw [e1]⟩) hmok (by omega) (.inr hkind2)
            rw [hkind2] at h1; exact h1
          rw [hkind2] at m0
          clear hkind hkind2 hmok
          generalize mv k = o at *
          go_wp2_with fail
          refine Calls.mono (HMV.out _ (by rfl) (by rfl) (by rfl) (by rfl)) ?_
          rintro e w3 ⟨rfl, hS3⟩
          have HS3 : Hid (Lives w1 w3 kb bb hb V D P R M (k + 1)) := hS3
          clear hS3
          go_wp2_with fail
          exact ⟨⟨k + 1, by omega, by go_num, HS3⟩, by simp [intOf]; omega⟩
        · have hkn : ((mv k).k != 1) = true := by rw [bne_iff_ne]; exact hkind
          have hkn2 : ((mv k).k != 2) = true := by rw [bne_iff_ne]; exact hkind2
          have HS2 : Hid (Lives w1 wr kb bb hb V D P R M (k + 1)) := hS.out.mono (by omega)
          clear hkind hkind2 hmok
          generalize mv k = o at *
          go_wp2_with fail
          exact ⟨⟨k + 1, by omega, by go_num, HS2⟩, by simp [intOf]; omega⟩
    · have hlti : ¬ ((k : Int) < (n : Int)) := by omega
      obtain ⟨s, f, bu, hI, hbu, _, hsD, hsP, hsR, ⟨hsM, _⟩, hK⟩ := hS.out.ex
      clear hS HM1 HM HMO HS hn
      subst hsD hsP hsR hsM
      have hD1 := hK.hoard.ok.D1
      have hD4 := hK.hoard.ok.D4
      have hP1 := hK.hoard.ok.P1
      have hP2 := hK.hoard.ok.P2
      have hR1 := hK.hoard.ok.R1
      have hR6 := hK.hoard.ok.R6
      obtain ⟨N, hN⟩ : ∃ N : Nat, s.D + s.P = N := ⟨_, rfl⟩
      have HNE : Hid (s.D + s.P = N) := hN
      have hNi : (s.D : Int) + (s.P : Int) = (N : Int) := by omega
      have hN6 : 2 ≤ N ∧ N ≤ 6 := by omega
      have p1 := pickN_lt dr N (by omega)
      have p2 := pickN_lt ro s.R (by omega)
      have A : Hid (∀ W, Calls Try.prog 11 #[.int .i64 dr, .int .i64 N] W fun e w' => e = .returned (.int .i64 (pickN dr N : Nat)) ∧ w' = W) := fun W => kpick_any dr N W (by omega) (by omega) (wf64 wdr)
      have hwr : IntKind.i64.wrap ((s.D : Int) + (s.P : Int)) = (N : Int) := by rw [hNi]; exact wrap_i64_small _ (by omega) (by omega)
      have B : Hid (∀ W, Calls Try.prog 11 #[.int .i64 ro, .int .i64 s.R] W fun e w' => e = .returned (.int .i64 (pickN ro s.R : Nat)) ∧ w' = W) := fun W => kpick_any ro s.R W (by omega) (by omega) (wf64 wro)
      generalize pickN dr N = x at *
      generalize pickN ro s.R = y at *
      have p1' : x < s.D + s.P := by omega
      have HSN : Hid (Sound s f bu) := (show Sound _ _ _ from ⟨hI, hbu⟩)
      have HI : Hid (KInv s f (fun _ => false) bu) := hI
      have HBU : Hid (∀ d r, bu d r = true) := hbu
      have HAV : Hid (avB s x y = true) := (show _ = _ from HSN.out.av x y p1' p2)
      have HCO : Hid ((s.cell x y).ok) := (show C4.ok _ from hK.hoard.ok.cells x y)
      have HK : Hid (KeepAt w1 wr kb bb hb s f V (fun _ => false) bu) := hK
      obtain ⟨c0, c1, c2, c3, _⟩ := hK.cells
      have hltk := hK.row.lt
      clear hK hI hbu wdr wro hN hNi
      go_wp2_with fail
      go_quiet ((go_at_call 11; exact Calls.quiet_of_same (A.out _)))
      have HK2 : Hid (KeepAt w1 (wr.drewN nq) kb bb hb s f V (fun _ => false) bu) := HK.out.of_below (below_drewN (Below.refl _ _) nq)
      clear A c0 c1 c2 c3 hltk HK
      generalize wr.drewN nq = w3 at *
      obtain ⟨c0, c1, c2, c3, _⟩ := HK2.out.cells
      have hltk := HK2.out.row.lt
      go_wp2_with fail
      refine (B.out _).mono ?_
      rintro e W ⟨rfl, rfl⟩
      have HCL : Hid (∀ W, HoardAt W hb s → Calls Try.prog 16 #[.pointer (some ⟨hb, 0, none⟩), .int .i64 x, .int .i64 y] W fun e w' => e = .returned (.tuple #[.agg #[.int .u8 (s.cell x y).b0, .int .u8 (s.cell x y).b1, .int .u8 (s.cell x y).b2, .int .u8 (s.cell x y).b3], .int .i64 0]) ∧ Below W.heap.size W w') := fun W hW => Cell_ok hb s x y W hW p1' p2 HAV.out
      generalize hcl : s.cell x y = C at *
      have HCL2 : Hid (s.cell x y = C) := hcl
      clear hcl
      go_wp2_with fail
      refine (HCL.out _ HK2.out.hoard).mono ?_
      rintro e w4 ⟨rfl, k4⟩
      have K4 := HK2.out.of_below k4
      have HK4 : Hid (KeepAt w1 ((w4.alloc (.cells #[.int .u8 C.b0, .int .u8 C.b1, .int .u8 C.b2, .int .u8 C.b3] 48)).alloc (.cells #[.int .u8 C.b0, .int .u8 C.b1, .int .u8 C.b2, .int .u8 C.b3] 48)) kb bb hb (stBad s x y C4.zero) f V (fun _ => false) bu) := (show KeepAt _ _ _ _ _ _ _ _ _ _ by
        rw [bad_zero]
        exact K4.of_below (((Below.refl _ _).alloc (Nat.le_refl _) _).alloc (by simp) _))
      have HB4 : Hid (BoxAt ((w4.alloc (.cells #[.int .u8 C.b0, .int .u8 C.b1, .int .u8 C.b2, .int .u8 C.b3] 48)).alloc (.cells #[.int .u8 C.b0, .int .u8 C.b1, .int .u8 C.b2, .int .u8 C.b3] 48)) w4.heap.size C) := (BoxAt.new _ _ _ rfl).alloc _
      have HO4 : Hid (BoxAt ((w4.alloc (.cells #[.int .u8 C.b0, .int .u8 C.b1, .int .u8 C.b2, .int .u8 C.b3] 48)).alloc (.cells #[.int .u8 C.b0, .int .u8 C.b1, .int .u8 C.b2, .int .u8 C.b3] 48)) (w4.heap.size + 1) (C.xor C4.zero)) := (show BoxAt _ _ _ by rw [C4.xor_zero]; exact BoxAt.new _ _ _ (by simp))
      have HKF : Hid (∀ g, KFoot kb bb hb s V g → g < w4.heap.size) := fun g hg => K4.lt hg
      have HWS : Hid (w1.heap.size ≤ w4.heap.size) := (show _ ≤ _ from K4.below.size)
      clear k4 K4 B HCL c0 c1 c2 c3 hltk HK2
      go_wp2_with fail
      generalize (w4.alloc (.cells #[.int .u8 C.b0, .int .u8 C.b1, .int .u8 C.b2, .int .u8 C.b3] 48)).alloc (.cells #[.int .u8 C.b0, .int .u8 C.b1, .int .u8 C.b2, .int .u8 C.b3] 48) = w5 at *
      generalize w4.heap.size = xb at *
      go_loopw [25, 26, 27, 28] (fun i _ _ _ wi => ∃ (k : Nat) (e : C4), k ≤ nb ∧ i = .int .i64 k ∧ Hid e.ok ∧ Hid (KeepAt w1 wi kb bb hb (stBad s x y e) f V (fun _ => false) bu) ∧ Hid (BoxAt wi xb C) ∧ Hid (BoxAt wi (xb + 1) (C.xor e))) (fun i _ _ _ _ => nb - (intOf i).toNat)
      case atStart => exact ⟨0, C4.zero, by omega, rfl, C4.zero_ok, HK4, HB4, HO4⟩
      case round =>
        clear HK4 HB4 HO4
        obtain ⟨k', e, hk', rfl, heo, hKi, hBi, hOi⟩ := hrel
        by_cases hlt : k' < nb
        · have hlti : (k' : Int) < (nb : Int) := by omega
          obtain ⟨zb, zo, rfl, hz0⟩ := HZ1.out.below hKi.out.below k' hlt
          obtain ⟨by', hby, hby2⟩ := byte_of' (bz k')
          obtain ⟨at', hat, hat4⟩ : ∃ a : Nat, k' % 4 = a ∧ a < 4 := ⟨k' % 4, rfl, Nat.mod_lt _ (by omega)⟩
          have hmod : (k' : Int) % 4 = (at' : Int) := by omega
          have hmod2 : (k' : Int).tmod 4 = (at' : Int) := by rw [Int.tmod_eq_emod_of_nonneg (by omega)]; omega
          have hat4i : (at' : Int) < 4 := by omega
          obtain ⟨c0, c1, c2, c3, _⟩ := hKi.out.cells
          have hltk := hKi.out.row.lt
          have HCR : Hid (∀ W, HoardAt W hb (stBad s x y e) → Calls Try.prog 32 #[.pointer (some ⟨hb, 0, none⟩), .int .i64 x, .int .i64 y, .int .i64 at', .int .u8 by'] W fun e' w' => e' = .returned (.int .i64 0) ∧ Went hb (stBad s x y e) W (stBad s x y (e.put at' (e.at at' ^^^ by'))) w') := fun W hW => by
            have h1 := Corrupt_ok hb (stBad s x y e) x y at' by' W hW p1' p2 hat4 hby2 HAV.out
            rw [bad_put s x y e at' by' hat4] at h1
            exact h1
          have HEO : Hid ((e.put at' (e.at at' ^^^ by')).ok) := put_xor_ok heo.out at' by' hby2
          have HXP : Hid ((C.xor e).put at' ((C.xor e).at at' ^^^ by') = C.xor (e.put at' (e.at at' ^^^ by'))) := xor_put C e at' by' hat4
          generalize e.put at' (e.at at' ^^^ by') = e2 at *
          have hob := C4.at_lt (C4.xor_ok HCO.out heo.out) at'
          generalize hoc : (C.xor e) = oc at *
          clear hoc
          have hxx := u8_xor_nat (oc.at at') by' hob hby2
          have HCB : Hid (∀ W, BoxAt W (xb + 1) oc → W.cell? ⟨xb + 1, at', none⟩ = some (.int .u8 (oc.at at')) ∧ W.frozen? ⟨xb + 1, at', none⟩ = false) := fun W hW => ⟨World.rowIs.cell hW hat4, World.rowIs.frozen hW at'⟩
          generalize oc.at at' = ob at *
          clear hat
          go_wp2_with fail
          refine (HCR.out _ hKi.out.hoard).mono ?_
          rintro e' w6 ⟨rfl, went⟩
          have hK6 := hKi.out.went went rfl rfl rfl rfl
          have HK6 : Hid (KeepAt w1 w6 kb bb hb (stBad s x y e2) f V (fun _ => false) bu) := hK6
          have HB6 : Hid (BoxAt w6 xb C) := (show BoxAt _ _ _ from went.kept.row (fun hf => by have := HKF.out xb (.inr (.inr (.inl hf))); omega) hBi.out)
          have HO6 : Hid (BoxAt w6 (xb + 1) oc) := (show BoxAt _ _ _ from went.kept.row (fun hf => by have := HKF.out (xb + 1) (.inr (.inr (.inl hf))); omega) hOi.out)
          obtain ⟨o0, o1⟩ := HCB.out _ HO6.out
          have hol := HO6.out.lt
          clear went hK6 hz0 c0 c1 c2 c3 hltk
          go_wp2_with fail
          have HK7 : Hid (KeepAt w1 (w6.setCell ⟨xb + 1, at', none⟩ (.int .u8 (ob ^^^ by' : Nat))) kb bb hb (stBad s x y e2) f V (fun _ => false) bu) := HK6.out.of_kept (S := fun g => g = xb + 1) (Kept.setCell (S := fun g => g = xb + 1) (Kept.refl _ _) (.inl rfl) _) (fun g hg e => by have := HKF.out g hg; omega) (fun g hg => by have := HWS.out; omega)
          have HO7 : Hid (BoxAt (w6.setCell ⟨xb + 1, at', none⟩ (.int .u8 (ob ^^^ by' : Nat))) (xb + 1) (C.xor e2)) := (show BoxAt _ _ _ by rw [← HXP.out]; exact HO6.out.put at' _ hat4)
          have HB7 : Hid (BoxAt (w6.setCell ⟨xb + 1, at', none⟩ (.int .u8 (ob ^^^ by' : Nat))) xb C) := HB6.out.setOther (by simp) _
          exact ⟨⟨k' + 1, e2, by omega, by go_num, HEO, HK7, HB7, HO7⟩, by simp [intOf]; omega⟩
        · have hlti : ¬ ((k' : Int) < (nb : Int)) := by omega
          have HSM : Hid (C.beq (C.xor e) = true ↔ e = C4.zero) := xor_same C e
          have HSC : Hid (∀ W, Calls Try.prog 19 #[.agg #[.int .u8 C.b0, .int .u8 C.b1, .int .u8 C.b2, .int .u8 C.b3], .agg #[.int .u8 (C.xor e).b0, .int .u8 (C.xor e).b1, .int .u8 (C.xor e).b2, .int .u8 (C.xor e).b3]] W fun e' w' => e' = .returned (.bool (C.beq (C.xor e))) ∧ Below W.heap.size W w') := fun W => sameCell_any C (C.xor e) W
          have HOC : Hid (∃ oc, C.xor e = oc) := (show ∃ _, _ from ⟨_, rfl⟩)
          generalize C.beq (C.xor e) = sm at *
          obtain ⟨oc, hoc⟩ := HOC.out
          rw [hoc] at HSC hOi
          have HOC2 : Hid (C.xor e = oc) := hoc
          clear hoc HOC
          obtain ⟨b0, b1, b2, b3⟩ := hBi.out.cells
          obtain ⟨o0, o1, o2, o3⟩ := hOi.out.cells
          have hbl := hBi.out.lt
          have hol := hOi.out.lt
          go_wp2_with fail
          refine (HSC.out _).mono ?_
          rintro e' w6 ⟨rfl, k6⟩
          have HK6 : Hid (KeepAt w1 w6 kb bb hb (stBad s x y (healE e s.P y 0)) f V (fun _ => false) bu) := (show KeepAt _ _ _ _ _ _ _ _ _ _ by
            have h0 : healE e s.P y 0 = e := by unfold healE; rw [if_neg (by omega)]
            rw [h0]; exact hKi.out.of_below k6)
          have HB6 : Hid (BoxAt w6 xb C) := hBi.out.below k6
          have HO6 : Hid (BoxAt w6 (xb + 1) oc) := hOi.out.below k6
          clear k6 HSC b0 b1 b2 b3 o0 o1 o2 o3 hbl hol hKi hBi hOi hlti hlt hk' HZ1 hnb
          go_wp2_with fail
          go_loopw [30, 31, 32] (fun k _ _ wi => ∃ j : Nat, j ≤ s.R ∧ k = .int .i64 j ∧ Hid (KeepAt w1 wi kb bb hb (stBad s x y (healE e s.P y j)) f V (fun _ => false) bu) ∧ Hid (BoxAt wi xb C) ∧ Hid (BoxAt wi (xb + 1) oc)) (fun k _ _ _ => s.R - (intOf k).toNat)
          case atStart => exact ⟨0, by omega, rfl, HK6, HB6, HO6⟩
          case round =>
            clear HK6 HB6 HO6
            obtain ⟨j, hj, rfl, hKj, hBj, hOj⟩ := hrel
            obtain ⟨c0, _, c2, c3, _⟩ := hKj.out.cells
            replace c2 : wr.cell? ⟨kb, 2, none⟩ = some (.int .i64 s.P) := c2
            replace c3 : wr.cell? ⟨kb, 3, none⟩ = some (.int .i64 s.R) := c3
            have hltk := hKj.out.row.lt
            by_cases hjR : j < s.R
            · have hjRi : (j : Int) < (s.R : Int) := by omega
              by_cases hfine : j ≠ y ∨ sm = true
              · have HSC : Hid (∀ W, HoardAt W hb (stBad s x y (healE e s.P y j)) → Calls Try.prog 33 #[.pointer (some ⟨hb, 0, none⟩), .int .i64 j] W fun e' w' => e' = .returned (.tuple #[.int .i64 (-1), .int .i64 0]) ∧ Below W.heap.size W w') := fun W hW =>
                  Scrub_fine hb (stBad s x y (healE e s.P y j)) j W hW hjR (HSN.out.whole x y _ j hjR) (HSN.out.fine x y _ j hjR (by
                    rcases hfine with h | h
                    · exact .inl h
                    · right; unfold healE; rw [HSM.out.1 h]; split <;> rfl))
                have HEN : Hid (healE e s.P y (j + 1) = healE e s.P y j) := (show _ = _ by
                  unfold healE
                  rcases hfine with h | h
                  · have : (s.P = 2 ∧ y < j + 1) ↔ (s.P = 2 ∧ y < j) := by omega
                    simp only [this]
                  · rw [HSM.out.1 h]; split <;> split <;> rfl)
                by_cases hjy : j = y
                · have hsm : sm = true := by
                    rcases hfine with h | h
                    · exact absurd hjy h
                    · exact h
                  subst hsm hjy
                  clear hfine
                  go_wp2_with fail
                  refine (HSC.out _ hKj.out.hoard).mono ?_
                  rintro e' w7 ⟨rfl, k7⟩
                  have HK7 : Hid (KeepAt w1 w7 kb bb hb (stBad s x j (healE e s.P j (j + 1))) f V (fun _ => false) bu) := (show KeepAt _ _ _ _ _ _ _ _ _ _ by rw [HEN.out]; exact hKj.out.of_below k7)
                  have HB7 : Hid (BoxAt w7 xb C) := hBj.out.below k7
                  have HO7 : Hid (BoxAt w7 (xb + 1) oc) := hOj.out.below k7
                  clear k7 c0 c2 c3 hltk
                  go_wp2_with fail
                  exact ⟨⟨j + 1, by omega, by go_num, HK7, HB7, HO7⟩, by simp [intOf]; omega⟩
                · have hjn : ((j : Int) != (y : Int)) = true := by rw [bne_iff_ne]; omega
                  clear hfine
                  go_wp2_with fail
                  refine (HSC.out _ hKj.out.hoard).mono ?_
                  rintro e' w7 ⟨rfl, k7⟩
                  have HK7 : Hid (KeepAt w1 w7 kb bb hb (stBad s x y (healE e s.P y (j + 1))) f V (fun _ => false) bu) := (show KeepAt _ _ _ _ _ _ _ _ _ _ by rw [HEN.out]; exact hKj.out.of_below k7)
                  have HB7 : Hid (BoxAt w7 xb C) := hBj.out.below k7
                  have HO7 : Hid (BoxAt w7 (xb + 1) oc) := hOj.out.below k7
                  clear k7 c0 c2 c3 hltk
                  go_wp2_with fail
                  exact ⟨⟨j + 1, by omega, by go_num, HK7, HB7, HO7⟩, by simp [intOf]; omega⟩
              · have hjy : j = y := Classical.byContradiction (fun h => hfine (.inl h))
                have hsm : sm = false := by
                  cases hsm : sm
                  · rfl
                  · exact absurd (.inr hsm) hfine
                have HEZ : Hid (e ≠ C4.zero) := (show ¬ _ from fun h => by have := HSM.out.2 h; rw [hsm] at this; cases this)
                have HEJ : Hid (healE e s.P y j = e) := (show _ = _ by unfold healE; rw [if_neg (by omega)])
                clear hfine
                subst hsm hjy
                by_cases hPe : s.P = 1
                · have hPi : ((s.P : Int) == 1) = true := by rw [beq_iff_eq]; omega
                  have HSC : Hid (∀ W, HoardAt W hb (stBad s x j (healE e s.P j j)) → Calls Try.prog 33 #[.pointer (some ⟨hb, 0, none⟩), .int .i64 j] W fun e' w' => e' = .returned (.tuple #[.int .i64 0, .int .i64 8]) ∧ Below W.heap.size W w') := fun W hW => by
                    rw [HEJ.out] at hW
                    exact Scrub_bad hb (stBad s x j e) j W hW hjR (HSN.out.whole x j _ j hjR) (HSN.out.bad hP1 x j e heo.out HEZ.out p1' hjR) (by
                      have h1 := explL_all (stBad s x j e) j (s.D + s.P) (fun z hz => HSN.out.all_one hPe x j e heo.out p1' hjR z hz)
                      show (explL (stBad s x j e) j (s.D + s.P)).length ≠ 1
                      omega)
                  have HEN : Hid (healE e s.P j (j + 1) = healE e s.P j j) := (show _ = _ by unfold healE; rw [if_neg (by omega), if_neg (by omega)])
                  clear hPe
                  go_wp2_with fail
                  refine (HSC.out _ hKj.out.hoard).mono ?_
                  rintro e' w7 ⟨rfl, k7⟩
                  have hK7 := hKj.out.of_below k7
                  obtain ⟨_, _, d2, _⟩ := hK7.cells
                  replace d2 : w7.cell? ⟨kb, 2, none⟩ = some (.int .i64 s.P) := d2
                  have hltk7 := hK7.row.lt
                  have HK7 : Hid (KeepAt w1 w7 kb bb hb (stBad s x j (healE e s.P j (j + 1))) f V (fun _ => false) bu) := (show KeepAt _ _ _ _ _ _ _ _ _ _ by rw [HEN.out]; exact hK7)
                  have HB7 : Hid (BoxAt w7 xb C) := hBj.out.below k7
                  have HO7 : Hid (BoxAt w7 (xb + 1) oc) := hOj.out.below k7
                  clear k7 c0 c2 c3 hltk hK7
                  go_wp2_with fail
                  first
                    | exact ⟨⟨j + 1, by omega, by go_num, HK7, HB7, HO7⟩, by simp [intOf]; omega⟩
                    | (go_roundw
                       case rel => exact ⟨j + 1, by omega, by go_num, HK7, HB7, HO7⟩
                       case measure => simp [intOf]; omega)
                · have hPe2 : s.P = 2 := by omega
                  have hPi : ((s.P : Int) == 1) = false := by rw [beq_eq_false_iff_ne]; omega
                  have HSC : Hid (∀ W, HoardAt W hb (stBad s x j (healE e s.P j j)) → Calls Try.prog 33 #[.pointer (some ⟨hb, 0, none⟩), .int .i64 j] W fun e' w' => e' = .returned (.tuple #[.int .i64 x, .int .i64 0]) ∧ Went hb (stBad s x j (healE e s.P j j)) W (stBad s x j (healE e s.P j (j + 1))) w') := fun W hW => by
                    have HEN : healE e s.P j (j + 1) = C4.zero := by unfold healE; rw [if_pos (by omega)]
                    rw [HEJ.out] at hW
                    rw [HEJ.out, HEN, bad_zero]
                    have h1 := Scrub_mends hb (stBad s x j e) j x W hW hjR (HSN.out.whole x j _ j hjR) (HSN.out.bad hP1 x j e heo.out HEZ.out p1' hjR) (by
                      have h1 := explL_one (stBad s x j e) j x (s.D + s.P) (fun z hz => HSN.out.own_alone hPe2 hD4 x j e heo.out HEZ.out p1' hjR z hz)
                      rw [if_pos p1'] at h1
                      exact h1) p1'
                    rw [HSN.out.mend_self hP1 x j e heo.out p1' hjR, bad_mend] at h1
                    exact h1
                  clear hPe hPe2
                  go_wp2_with fail
                  refine (HSC.out _ hKj.out.hoard).mono ?_
                  rintro e' w7 ⟨rfl, went⟩
                  have hK7 := hKj.out.went went rfl rfl rfl rfl
                  obtain ⟨_, _, d2, _⟩ := hK7.cells
                  replace d2 : w7.cell? ⟨kb, 2, none⟩ = some (.int .i64 s.P) := d2
                  have hltk7 := hK7.row.lt
                  have HK7 : Hid (KeepAt w1 w7 kb bb hb (stBad s x j (healE e s.P j (j + 1))) f V (fun _ => false) bu) := hK7
                  have HB7 : Hid (BoxAt w7 xb C) := (show BoxAt _ _ _ from went.kept.row (fun hf => by have := HKF.out xb (.inr (.inr (.inl hf))); omega) hBj.out)
                  have HO7 : Hid (BoxAt w7 (xb + 1) oc) := (show BoxAt _ _ _ from went.kept.row (fun hf => by have := HKF.out (xb + 1) (.inr (.inr (.inl hf))); omega) hOj.out)
                  clear went c0 c2 c3 hltk hK7
                  go_wp2_with fail
                  first
                    | exact ⟨⟨j + 1, by omega, by go_num, HK7, HB7, HO7⟩, by simp [intOf]; omega⟩
                    | (go_roundw
                       case rel => exact ⟨j + 1, by omega, by go_num, HK7, HB7, HO7⟩
                       case measure => simp [intOf]; omega)
            · have hjRi : ¬ ((j : Int) < (s.R : Int)) := by omega
              have hje : j = s.R := by omega
              subst hje
              obtain ⟨b0, b1, b2, b3⟩ := hBj.out.cells
              obtain ⟨o0, o1, o2, o3⟩ := hOj.out.cells
              have hbl := hBj.out.lt
              have hol := hOj.out.lt
              by_cases hPe : s.P = 1
              · have hPi : ((s.P : Int) == 1) = true := by rw [beq_iff_eq]; omega
                have HEN : Hid (healE e s.P y s.R = e) := (show _ = _ by unfold healE; rw [if_neg (by omega)])
                have HCL : Hid (∀ W, HoardAt W hb (stBad s x y (healE e s.P y s.R)) → Calls Try.prog 16 #[.pointer (some ⟨hb, 0, none⟩), .int .i64 x, .int .i64 y] W fun e' w' => e' = .returned (.tuple #[.agg #[.int .u8 oc.b0, .int .u8 oc.b1, .int .u8 oc.b2, .int .u8 oc.b3], .int .i64 0]) ∧ Below W.heap.size W w') := fun W hW => by
                  have h1 := Cell_ok hb _ x y W hW p1' p2 HAV.out
                  rw [HEN.out, bad_here, HCL2.out, HOC2.out] at h1
                  exact h1
                have HSC : Hid (∀ W, Calls Try.prog 19 #[.agg #[.int .u8 oc.b0, .int .u8 oc.b1, .int .u8 oc.b2, .int .u8 oc.b3], .agg #[.int .u8 oc.b0, .int .u8 oc.b1, .int .u8 oc.b2, .int .u8 oc.b3]] W fun e' w' => e' = .returned (.bool true) ∧ Below W.heap.size W w') := fun W => sameCell_eq oc W
                clear hPe
                go_wp2_with fail
                refine (HCL.out _ hKj.out.hoard).mono ?_
                rintro e' w7 ⟨rfl, k7⟩
                have hK7 := hKj.out.of_below k7
                obtain ⟨_, _, d2, _⟩ := hK7.cells
                replace d2 : w7.cell? ⟨kb, 2, none⟩ = some (.int .i64 s.P) := d2
                have hltk7 := hK7.row.lt
                obtain ⟨r0, r1, r2, r3⟩ := (hBj.out.below k7).cells
                obtain ⟨m0, m1, m2, m3⟩ := (hOj.out.below k7).cells
                have hbl7 := (hBj.out.below k7).lt
                have hol7 := (hOj.out.below k7).lt
                have HK9 : Hid (KeepAt w1 ((w7.alloc (.cells #[.int .u8 oc.b0, .int .u8 oc.b1, .int .u8 oc.b2, .int .u8 oc.b3] 48)).alloc (.cells #[.int .u8 oc.b0, .int .u8 oc.b1, .int .u8 oc.b2, .int .u8 oc.b3] 48)) kb bb hb (stBad s x y (healE e s.P y s.R)) f V (fun _ => false) bu) := hK7.of_below (((Below.refl _ _).alloc (Nat.le_refl _) _).alloc (by simp) _)
                clear k7 hK7 c0 c2 c3 hltk b0 b1 b2 b3 o0 o1 o2 o3 hbl hol HCL
                go_wp2_with fail
                refine (HSC.out _).mono ?_
                rintro e' w9 ⟨rfl, k9⟩
                have HKT : Hid (KeepAt w1 w9 kb bb hb (stBad s x y (healE e s.P y s.R)) f V (fun _ => false) bu) := HK9.out.of_below k9
                clear k9 d2 hltk7 r0 r1 r2 r3 m0 m1 m2 m3 hbl7 hol7 HK9
                obtain ⟨_, _, e2, _⟩ := HKT.out.cells
                replace e2 : w9.cell? ⟨kb, 2, none⟩ = some (.int .i64 s.P) := e2
                have hlt9 := HKT.out.row.lt
                go_wp2_with fail
                go_ret
                exact ⟨rfl, HB1.out.trans (HKT.out.below.mono HB1.out.size)⟩
              · have hPe2 : s.P = 2 := by omega
                have hPi : ((s.P : Int) == 1) = false := by rw [beq_eq_false_iff_ne]; omega
                have HKS : Hid (KeepAt w1 wr kb bb hb s f V (fun _ => false) bu) := (show KeepAt _ _ _ _ _ _ _ _ _ _ by
                  have h1 := hKj.out
                  have h2 : healE e s.P y s.R = C4.zero := by unfold healE; rw [if_pos (by omega)]
                  rw [h2, bad_zero] at h1
                  exact h1)
                have HCL : Hid (∀ W, HoardAt W hb s → Calls Try.prog 16 #[.pointer (some ⟨hb, 0, none⟩), .int .i64 x, .int .i64 y] W fun e' w' => e' = .returned (.tuple #[.agg #[.int .u8 C.b0, .int .u8 C.b1, .int .u8 C.b2, .int .u8 C.b3], .int .i64 0]) ∧ Below W.heap.size W w') := fun W hW => by
                  have h1 := Cell_ok hb s x y W hW p1' p2 HAV.out
                  rw [HCL2.out] at h1
                  exact h1
                have HSC : Hid (∀ W, Calls Try.prog 19 #[.agg #[.int .u8 C.b0, .int .u8 C.b1, .int .u8 C.b2, .int .u8 C.b3], .agg #[.int .u8 C.b0, .int .u8 C.b1, .int .u8 C.b2, .int .u8 C.b3]] W fun e' w' => e' = .returned (.bool true) ∧ Below W.heap.size W w') := fun W => sameCell_eq C W
                have HSR : Hid (∀ W, HoardAt W hb s → Calls Try.prog 33 #[.pointer (some ⟨hb, 0, none⟩), .int .i64 y] W fun e' w' => e' = .returned (.tuple #[.int .i64 (-1), .int .i64 0]) ∧ Below W.heap.size W w') := fun W hW =>
                  Scrub_fine hb s y W hW p2 (by have := HSN.out.whole x y C4.zero y p2; rw [bad_zero] at this; exact this) (by have := HSN.out.fine x y C4.zero y p2 (.inr rfl); rw [bad_zero] at this; exact this)
                clear hKj hPe hPe2
                go_wp2_with fail
                refine (HCL.out _ HKS.out.hoard).mono ?_
                rintro e' w7 ⟨rfl, k7⟩
                have hK7 := HKS.out.of_below k7
                obtain ⟨_, _, d2, _⟩ := hK7.cells
                have hltk7 := hK7.row.lt
                obtain ⟨r0, r1, r2, r3⟩ := (hBj.out.below k7).cells
                have hbl7 := (hBj.out.below k7).lt
                have HK7 : Hid (KeepAt w1 w7 kb bb hb s f V (fun _ => false) bu) := hK7
                have HK8 : Hid (KeepAt w1 ((w7.alloc (.cells #[.int .u8 C.b0, .int .u8 C.b1, .int .u8 C.b2, .int .u8 C.b3] 48)).alloc (.cells #[.int .u8 C.b0, .int .u8 C.b1, .int .u8 C.b2, .int .u8 C.b3] 48)) kb bb hb s f V (fun _ => false) bu) := hK7.of_below (((Below.refl _ _).alloc (Nat.le_refl _) _).alloc (by simp) _)
                clear k7 hK7 c0 c2 c3 hltk b0 b1 b2 b3 o0 o1 o2 o3 hbl hol HCL HKS
                go_wp2_with fail
                refine (HSC.out _).mono ?_
                rintro e' w9 ⟨rfl, k9⟩
                have HK9 : Hid (KeepAt w1 w9 kb bb hb s f V (fun _ => false) bu) := HK8.out.of_below k9
                clear k9 d2 hltk7 r0 r1 r2 r3 hbl7 HK7 HK8
                obtain ⟨c0, _, c2, _⟩ := HK9.out.cells
                have hltk := HK9.out.row.lt
                go_wp2_with fail
                refine (HSR.out _ HK9.out.hoard).mono ?_
                rintro e' w10 ⟨rfl, k10⟩
                have HK10 : Hid (KeepAt w1 w10 kb bb hb s f V (fun _ => false) bu) := HK9.out.of_below k10
                clear k10 c0 c2 hltk HK9
                go_wp2_with fail
                refine (reads_any kb bb hb s f V (fun _ => false) bu w10 HK10.out HI.out).mono ?_
                rintro e' wp ⟨rfl, kp⟩
                have HKP : Hid (KeepAt w1 wp kb bb hb s f V (fun _ => false) bu) := HK10.out.of_below kp
                clear kp
                go_wp2_with fail
                refine (coded_any kb bb hb s f V (fun _ => false) bu wp HKP.out HI.out (HI.out.live HBU.out)).mono ?_
                rintro e' wq ⟨rfl, kq⟩
                have HBQ : Hid (Below w.heap.size w wq) := HB1.out.trans ((HKP.out.of_below kq).below.mono HB1.out.size)
                clear kq
                go_wp2_with fail
                go_ret
                exact ⟨rfl, HBQ.out⟩
end Go.Proofs.Ytfpoiikhhjdpdab
