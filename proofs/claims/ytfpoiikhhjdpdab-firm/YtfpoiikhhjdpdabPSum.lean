/- What a parity cell must have; whether a block is gone; a cell is laid. -/
import Derived.Test.YtfpoiikhhjdpdabHolds
namespace Go.Proofs.Ytfpoiikhhjdpdab
open Go.RowKit
set_option linter.unusedVariables false
attribute [local go_sem ↓] Go.wp_at_zero Go.wp_at_succ
def psum (s : Ab) (d r : Nat) : Nat → C4
  | 0 => C4.zero
  | k + 1 => (psum s d r k).xor ((holdC s k r).scale (wgt s d k))
theorem psum_ok (s : Ab) (d r k : Nat) (hk : k ≤ 4) : (psum s d r k).ok := by
  induction k with
  | zero => exact C4.zero_ok
  | succ k ih => exact C4.xor_ok (ih (by omega)) (C4.scale_ok (wgt_lt s d k (by omega)))
set_option maxRecDepth 100000 in
set_option maxHeartbeats 2000000 in
theorem paritySum_any (hb : Nat) (s : St) (d r : Nat) (w : World) (h : HoardIn w hb s) (hd : d < 6) (hr : r < 6) :
    Calls Try.prog 65 #[.pointer (some ⟨hb, 0, none⟩), .int .i64 d, .int .i64 r] w fun e w' => e = .returned (psum s d r s.D).val ∧ Below w.heap.size w w' := by
  have HH : Hid (HoardIn w hb s) := h
  have hlt0 := h.row.lt
  have hD := h.ok.D4
  have HOK : Hid (s.ok) := h.ok
  clear h
  go_enter Try.func65, Try.ntmps65
  go_wp2_with fail
  go_loopw [8, 9] (fun c _ wr => ∃ (k : Nat) (S : C4), k ≤ s.D ∧ c = .int .i64 k ∧ Hid (S = psum s d r k) ∧ Hid (BoxAt wr (w.heap.size + 1) S) ∧ Hid (BoxAt wr w.heap.size C4.zero) ∧ Below w.heap.size w wr) (fun c _ _ => s.D - (intOf c).toNat)
  case atStart =>
    refine ⟨0, C4.zero, by omega, rfl, rfl, BoxAt.new0 _ _ (by simp), (BoxAt.new0 w _ rfl).alloc _, ?_⟩
    repeat (first | exact Below.refl _ _ | refine Below.drew ?_ | refine Below.alloc ?_ (by simp <;> omega) _)
  case round =>
    obtain ⟨k, S, hk, rfl, hS, hbox, hres, hbel⟩ := hrel
    have h1 := HH.out.below hbel
    obtain ⟨c0, _⟩ := h1.shape
    by_cases hlt : k < s.D
    · have hki : (k : Int) < (s.D : Int) := by omega
      have HO : Hid (∀ W, HoardIn W hb s → Calls Try.prog 50 #[.pointer (some ⟨hb, 0, none⟩), .int .i64 k, .int .i64 r] W fun e w' => e = .returned (holdC s k r).val ∧ Below W.heap.size W w') := fun W hW => holds_any hb s k r W hW (by omega) hr
      have HSO : Hid (S.ok) := hS.out ▸ psum_ok s d r k (by omega)
      have hwl := wgt_lt s d k (by omega)
      have hco : Hid ((holdC s k r).ok) := holdC_ok HOK.out k r
      have HS2 : Hid (S.xor ((holdC s k r).scale (wgt s d k)) = psum s d r (k + 1)) := (show _ = _ by simp only [psum]; rw [← hS.out])
      have HW : Hid (∀ W : World, HoardIn W hb s → Calls Try.prog 77 #[.pointer (some ⟨hb, 0, none⟩), .int .i64 d, .int .i64 k] W fun e w' => e = .returned (.int .u8 (wgt s d k : Nat)) ∧ w' = W) := fun W e => weight_any hb s d k W e (by omega)
      generalize hcc : holdC s k r = cl at *
      generalize hww : wgt s d k = wg at *
      have HSC : Hid (∀ W, Calls Try.prog 78 #[.int .u8 wg, .agg #[.int .u8 cl.b0, .int .u8 cl.b1, .int .u8 cl.b2, .int .u8 cl.b3]] W fun e w' => e = .returned (.agg #[.int .u8 (cl.scale wg).b0, .int .u8 (cl.scale wg).b1, .int .u8 (cl.scale wg).b2, .int .u8 (cl.scale wg).b3]) ∧ Below W.heap.size W w') := fun W => Scale_any wg cl W hwl hco.out
      have HPO : Hid ((cl.scale wg).ok) := C4.scale_ok hwl
      generalize hpp : cl.scale wg = pr at *
      have HADD : Hid (∀ W, Calls Try.prog 75 #[.agg #[.int .u8 S.b0, .int .u8 S.b1, .int .u8 S.b2, .int .u8 S.b3], .agg #[.int .u8 pr.b0, .int .u8 pr.b1, .int .u8 pr.b2, .int .u8 pr.b3]] W fun e w' => e = .returned (.agg #[.int .u8 (S.xor pr).b0, .int .u8 (S.xor pr).b1, .int .u8 (S.xor pr).b2, .int .u8 (S.xor pr).b3]) ∧ Below W.heap.size W w') := fun W => Add_any S pr W HSO.out HPO.out
      clear hcc hww hpp hS
      unfold C4.val at HO
      go_wp2_with fail
      refine Calls.mono (HO.out _ h1) ?_
      rintro e w1 ⟨rfl, k1⟩
      have K1 : Below w.heap.size w w1 := hbel.trans (k1.mono hbel.size)
      have X1 : Hid (BoxAt w1 (w.heap.size + 1) S) := hbox.out.below k1
      have Z1 : Hid (BoxAt w1 w.heap.size C4.zero) := hres.out.below k1
      clear h1 c0 k1 hbel hbox hres
      have K2 : Below w.heap.size w (w1.alloc (.cells #[.int .u8 cl.b0, .int .u8 cl.b1, .int .u8 cl.b2, .int .u8 cl.b3] 48)) := K1.alloc K1.size _
      have X2 : Hid (BoxAt (w1.alloc (.cells #[.int .u8 cl.b0, .int .u8 cl.b1, .int .u8 cl.b2, .int .u8 cl.b3] 48)) (w.heap.size + 1) S) := X1.out.alloc _
      have Z2 : Hid (BoxAt (w1.alloc (.cells #[.int .u8 cl.b0, .int .u8 cl.b1, .int .u8 cl.b2, .int .u8 cl.b3] 48)) w.heap.size C4.zero) := Z1.out.alloc _
      have Y2 : Hid (BoxAt (w1.alloc (.cells #[.int .u8 cl.b0, .int .u8 cl.b1, .int .u8 cl.b2, .int .u8 cl.b3] 48)) w1.heap.size cl) := BoxAt.new _ _ _ rfl
      have hb12 : w.heap.size + 1 < w1.heap.size := X1.out.lt
      clear K1 X1 Z1
      go_wp2_with fail
      generalize w1.alloc (.cells #[.int .u8 cl.b0, .int .u8 cl.b1, .int .u8 cl.b2, .int .u8 cl.b3] 48) = w2 at *
      generalize w1.heap.size = yb at *
      have h2 := HH.out.below K2
      obtain ⟨b0, b1, b2, b3⟩ := X2.out.cells
      obtain ⟨y0, y1, y2, y3⟩ := Y2.out.cells
      go_region_with (first
        | (go_at_call 77; go_must (refine (HW.out _ (h2.heap (by rfl))).mono ?_); rintro e W ⟨rfl, rfl⟩)
        | (go_at_call 78; go_must (refine (HSC.out _).mono ?_); rintro e w3 ⟨rfl, k3⟩; have K3 : Below w2.heap.size w2 w3 := below_from k3 rfl rfl rfl rfl; obtain ⟨e0, e1, e2, e3⟩ := (X2.out.below K3).cells; obtain ⟨q0, q1, q2, q3⟩ := (X2.out.below K3).frz)
        | (go_at_call 75; go_must (refine (HADD.out _).mono ?_); rintro e w4 ⟨rfl, k4⟩; have K4 : Below w2.heap.size w2 w4 := K3.trans ((below_from k4 rfl rfl rfl rfl : Below w3.heap.size w3 w4).mono K3.size); obtain ⟨m0, m1, m2, m3⟩ := (X2.out.below K4).cells; obtain ⟨n0, n1, n2, n3⟩ := (X2.out.below K4).frz))
      all_goals
        go_wp2_with fail
        refine ⟨⟨k + 1, S.xor pr, by omega, by go_num, HS2, ?_, ?_, ?_⟩, by simp [intOf]; omega⟩
        · exact (X2.out.below K4).set _
        · exact (Z2.out.below K4).other4 (by omega) _ _ _ _
        · exact below_set4 (K2.trans (K4.mono K2.size)) (by omega) _ _ _ _
    · have hke : k = s.D := by omega
      have HKE : Hid (k = s.D) := hke
      have hlti : ¬ ((k : Int) < (s.D : Int)) := by omega
      obtain ⟨r0, r1, r2, r3⟩ := hres.out.cells
      obtain ⟨g0, g1, g2, g3⟩ := hres.out.frz
      obtain ⟨b0, b1, b2, b3⟩ := hbox.out.cells
      clear hke
      go_wp2_with fail
      refine bodyPost_ret (v := S.val) (by simp [results, Try.results65, go_sem, r0, r1, r2, r3, C4.val]) rfl ⟨?_, ?_⟩
      · rw [hS.out, HKE.out]
      · exact below_set4 hbel (Nat.le_refl _) _ _ _ _
/-- Is block b gone? -/
def blkGone (s : Ab) (b : Nat) : Bool := !avB s (b % s.D) (b / s.D) && goneB s (b / s.D)
def anyGone (s : Ab) (a : Nat) : Nat → Bool
  | 0 => false
  | m + 1 => anyGone s a m || blkGone s (a / 4 + m)
set_option maxRecDepth 100000 in
set_option maxHeartbeats 2000000 in
theorem isAnyGone_any (hb : Nat) (s : St) (a n : Nat) (w : World) (h : HoardIn w hb s) (han : a + n ≤ s.D * s.R * 4) :
    Calls Try.prog 48 #[.pointer (some ⟨hb, 0, none⟩), .int .i64 a, .int .i64 n] w fun e w' => e = .returned (.bool (anyGone s a (blkEnd a n - a / 4))) ∧ Below w.heap.size w w' := by
  have HH : Hid (HoardIn w hb s) := h
  have hD := h.ok.D4
  have hD1 := h.ok.D1
  have hR := h.ok.R6
  have hal : s.D * s.R ≤ 24 := by have := all_le s h.ok; have : ((s.D * s.R : Nat) : Int) = (s.D : Int) * s.R := by simp
                                  omega
  have HEN : Hid (n ≠ 0 → blkEnd a n ≤ s.D * s.R) := fun hn => by unfold blkEnd; rw [if_neg hn]; omega
  have he24 : blkEnd a n ≤ 24 := by unfold blkEnd; split <;> omega
  have hfe : a / 4 ≤ blkEnd a n := by unfold blkEnd; split <;> omega
  have HN0 : Hid (n = 0 → blkEnd a n = a / 4) := fun hn => by unfold blkEnd; rw [if_pos hn]
  clear h
  go_enter Try.func48, Try.ntmps48
  go_wp2_with fail
  refine (blocks_any a n w (by omega) (by omega)).mono ?_
  rintro e w1 ⟨rfl, rfl⟩
  go_wp2_with fail
  go_loopw [9, 10, 11] (fun i _ _ wr => ∃ (m bk : Nat), Hid (bk = a / 4 + m) ∧ bk ≤ blkEnd a n ∧ i = .int .i64 bk ∧ Hid (anyGone s a m = false) ∧ Below w1.heap.size w1 wr) (fun i _ _ _ => blkEnd a n - (intOf i).toNat)
  case atStart => exact ⟨0, a / 4, rfl, hfe, by go_num, rfl, Below.refl _ _⟩
  case round =>
    obtain ⟨m, bk, hbk, hbe, rfl, hng, hbel⟩ := hrel
    have HB : Hid (Below w1.heap.size w1 wr) := hbel
    have h1 := HH.out.below hbel
    by_cases hlt : bk < blkEnd a n
    · have hlti : (bk : Int) < (blkEnd a n : Int) := by omega
      have hbDR : bk < s.D * s.R := by
        by_cases hn : n = 0
        · have := HN0.out hn; have := hbk.out; omega
        · have := HEN.out hn; omega
      have hc4 : bk % s.D < 4 := by have := Nat.mod_lt bk (show 0 < s.D by omega); omega
      have hr6 : bk / s.D < 6 := by have : bk / s.D < s.R := Nat.div_lt_of_lt_mul hbDR
                                    omega
      have HG : Hid (anyGone s a (m + 1) = blkGone s bk) := (show _ = _ by simp only [anyGone]; rw [hng.out, ← hbk.out, Bool.false_or])
      have HBG : Hid (blkGone s bk = (!avB s (bk % s.D) (bk / s.D) && goneB s (bk / s.D))) := rfl
      have hbk24 : bk < 24 := by omega
      have HPL : Hid (∀ W, HoardIn W hb s → Calls Try.prog 49 #[.pointer (some ⟨hb, 0, none⟩), .int .i64 bk] W fun e w' => e = .returned (.tuple #[.int .i64 (bk % s.D : Nat), .int .i64 (bk / s.D : Nat)]) ∧ ∃ n, w' = W.drewN n) := fun W hW => place_any hb s bk W hW (by omega)
      generalize bk % s.D = c at *
      generalize bk / s.D = r at *
      have hci : (c : Int) < 6 := by omega
      have HAV : Hid (∀ W, HoardIn W hb s → Calls Try.prog 45 #[.pointer (some ⟨hb, 4 + c * 32, none⟩), .int .i64 r] W fun e w' => e = .returned (.bool (avB s c r)) ∧ w' = W) := fun W hW => has_any hb s c r W hW (by omega) hr6
      have HGO : Hid (∀ W, HoardIn W hb s → Calls Try.prog 64 #[.pointer (some ⟨hb, 0, none⟩), .int .i64 r] W fun e w' => e = .returned (.bool (goneB s r)) ∧ Below W.heap.size W w') := fun W hW => hasGone_any hb s r W hW hr6
      have HM : Hid (bk + 1 = a / 4 + (m + 1)) := (show _ = _ by have := hbk.out; omega)
      have HEND : Hid (anyGone s a (m + 1) = true → anyGone s a (blkEnd a n - a / 4) = true) := by
        intro hh
        have : ∀ k, anyGone s a (m + 1 + k) = true := by
          intro k
          induction k with
          | zero => exact hh
          | succ k ih => rw [show m + 1 + (k + 1) = (m + 1 + k) + 1 by omega]; simp only [anyGone]; rw [ih]; rfl
        have hx := this (blkEnd a n - a / 4 - (m + 1))
        rwa [show m + 1 + (blkEnd a n - a / 4 - (m + 1)) = blkEnd a n - a / 4 by have := hbk.out; omega] at hx
      clear hc4 hbDR hng
      go_wp2_with fail
      refine (HPL.out _ h1).mono ?_
      rintro e w2 ⟨rfl, q, rfl⟩
      have h2 := h1.drewN q
      have HB2 : Hid (Below w1.heap.size w1 (wr.drewN q)) := below_drewN hbel q
      clear h1 hbel HB
      generalize wr.drewN q = w2 at *
      have hlt3 := h2.row.lt
      cases hav : avB s c r
      · rw [hav] at HAV HBG
        cases hgo : goneB s r
        · rw [hgo] at HGO HBG
          go_wp2_with fail
          refine (HAV.out _ h2).mono ?_
          rintro e w3 ⟨rfl, rfl⟩
          go_wp2_with fail
          refine (HGO.out _ h2).mono ?_
          rintro e w4 ⟨rfl, k4⟩
          go_wp2_with fail
          exact ⟨⟨m + 1, bk + 1, HM, by omega, by go_num, (show _ = _ by rw [HG.out, HBG.out]; rfl), HB2.out.trans (k4.mono HB2.out.size)⟩, by simp [intOf]; omega⟩
        · rw [hgo] at HGO HBG
          go_wp2_with fail
          refine (HAV.out _ h2).mono ?_
          rintro e w3 ⟨rfl, rfl⟩
          go_wp2_with fail
          refine (HGO.out _ h2).mono ?_
          rintro e w4 ⟨rfl, k4⟩
          go_wp2_with fail
          go_ret
          exact ⟨by rw [HEND.out (by rw [HG.out, HBG.out]; rfl)]; rfl, HB2.out.trans (k4.mono HB2.out.size)⟩
      · rw [hav] at HAV HBG
        go_wp2_with fail
        refine (HAV.out _ h2).mono ?_
        rintro e w3 ⟨rfl, rfl⟩
        go_wp2_with fail
        exact ⟨⟨m + 1, bk + 1, HM, by omega, by go_num, (show _ = _ by rw [HG.out, HBG.out]; rfl), HB2.out⟩, by simp [intOf]; omega⟩
    · have hlti : ¬ ((bk : Int) < (blkEnd a n : Int)) := by omega
      have HME : Hid (blkEnd a n - a / 4 = m) := (show _ = _ by have := hbk.out; omega)
      go_wp2_with fail
      go_ret
      exact ⟨by rw [HME.out, hng.out]; rfl, HB.out⟩
end Go.Proofs.Ytfpoiikhhjdpdab
