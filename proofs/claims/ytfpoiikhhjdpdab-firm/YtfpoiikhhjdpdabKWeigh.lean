/- hoardkeep: what the value of a parity cell must be. -/
import Derived.Test.YtfpoiikhhjdpdabKCells
namespace Go.Proofs.Ytfpoiikhhjdpdab
open Go.RowKit
set_option linter.unusedVariables false
attribute [local go_sem ↓] Go.wp_at_zero Go.wp_at_succ
set_option maxRecDepth 100000 in
set_option maxHeartbeats 2000000 in
theorem hMul_any (a b : Nat) (w : World) (ha : a < 256) (hb : b < 256) :
    Calls Try.prog 46 #[.int .u8 a, .int .u8 b] w fun e w' => e = .returned (.int .u8 (Hd.mul a b : Nat)) ∧ w' = w := by
  go_enter Try.func46, Try.ntmps46
  go_wp2_with fail
  refine (fmul_any a b _ ha hb).mono ?_
  rintro e w' ⟨rfl, rfl⟩
  go_wp2_with fail
  go_ret
  exact ⟨rfl, rfl⟩
def wN (p k : Nat) : Nat := if p = 0 then 1 else 2 ^ k
theorem wN_wgt (s : Ab) (p k : Nat) : wgt s (s.D + p) k = wN p k := by
  unfold wgt wN
  by_cases h : p = 0
  · rw [if_pos (by omega), if_pos h]
  · rw [if_neg (by omega), if_neg h]
theorem wN_lt (p k : Nat) (hk : k ≤ 4) : wN p k ≤ 16 := by
  unfold wN
  split
  · omega
  · exact (Nat.pow_le_pow_right (by omega) hk : 2 ^ k ≤ 2 ^ 4)
theorem wN_succ (p k : Nat) (h : p ≠ 0) : wN p (k + 1) = wN p k * 2 := by
  unfold wN; rw [if_neg h, if_neg h, Nat.pow_succ]
theorem wN_zero (p k : Nat) (h : p = 0) : wN p (k + 1) = wN p k := by
  unfold wN; rw [if_pos h, if_pos h]
set_option maxRecDepth 100000 in
set_option maxHeartbeats 4000000 in
theorem weighed_any {w0 : World} (kb bb hb : Nat) (s : St) (f : Nat → Nat) (V : Nat → Value) (lo : Nat → Bool) (bu : Nat → Nat → Bool) (p r : Nat) (w : World) (h : KeepAt w0 w kb bb hb s f V lo bu) (hp : p < 2) (hr : r < s.R) :
    Calls Try.prog 18 #[.pointer (some ⟨kb, 0, none⟩), .int .i64 p, .int .i64 r] w fun e w' => e = .returned (wsum s f (s.D + p) r s.D).val ∧ Below w.heap.size w w' := by
  have hD := h.hoard.ok.D4
  have HK : Hid (KeepAt w0 w kb bb hb s f V lo bu) := h
  have HBO : Hid (∀ k, (blkC s.D f k r).ok) := fun k => blkC_ok h.bound k r
  clear h
  go_enter Try.func18, Try.ntmps18
  go_wp2
  go_loopw [8, 9, 10, 11] (fun nn d _ _ wr => ∃ (k : Nat) (S : C4), k ≤ s.D ∧ d = .int .i64 k ∧ nn = .int .u8 (wN p k : Nat) ∧ Hid (S = wsum s f (s.D + p) r k) ∧ Hid (S.ok) ∧ Hid (BoxAt wr (w.heap.size + 1) S) ∧ Hid (BoxAt wr w.heap.size C4.zero) ∧ Below w.heap.size w wr) (fun _ d _ _ _ => s.D - (intOf d).toNat)
  case atStart =>
    refine ⟨0, C4.zero, by omega, rfl, by unfold wN; split <;> rfl, rfl, C4.zero_ok, BoxAt.new0 _ _ (by simp), (BoxAt.new0 w _ rfl).alloc _, ?_⟩
    repeat (first | exact Below.refl _ _ | refine Below.drew ?_ | refine Below.alloc ?_ (by simp <;> omega) _)
  case round =>
    obtain ⟨k, S, hk, rfl, rfl, hS, hSo, hbox, hres, hbel⟩ := hrel
    have hK1 := HK.out.of_below hbel
    obtain ⟨_, c1, _⟩ := hK1.cells
    have hwl := wN_lt p k (by omega)
    by_cases hlt : k < s.D
    · have hlti : (k : Int) < (s.D : Int) := by omega
      have HBL : Hid (Calls Try.prog 17 #[.pointer (some ⟨kb, 0, none⟩), .int .i64 k, .int .i64 r] wr fun e w' => e = .returned (blkC s.D f k r).val ∧ Below wr.heap.size wr w') := kblock_any kb bb hb s f V lo bu k r wr hK1 hlt hr
      have HNX : Hid (S.xor ((blkC s.D f k r).scale (wN p k)) = wsum s f (s.D + p) r (k + 1)) := (show _ = _ by simp only [wsum]; rw [wN_wgt, ← hS.out])
      have hbo : Hid ((blkC s.D f k r).ok) := HBO.out k
      generalize blkC s.D f k r = bl at *
      unfold C4.val at HBL
      clear hK1 hS
      go_wp2_with fail
      refine Calls.mono HBL.out ?_
      rintro e w1 ⟨rfl, k1⟩
      have K1 : Below w.heap.size w w1 := hbel.trans (k1.mono hbel.size)
      have X1 : Hid (BoxAt w1 (w.heap.size + 1) S) := hbox.out.below k1
      have Z1 : Hid (BoxAt w1 w.heap.size C4.zero) := hres.out.below k1
      have hb12 : w.heap.size + 1 < w1.heap.size := X1.out.lt
      clear k1 hbel hbox hres c1
      have K2 : Below w.heap.size w (w1.alloc (.cells #[.int .u8 bl.b0, .int .u8 bl.b1, .int .u8 bl.b2, .int .u8 bl.b3] 48)) := K1.alloc K1.size _
      have X2 : Hid (BoxAt (w1.alloc (.cells #[.int .u8 bl.b0, .int .u8 bl.b1, .int .u8 bl.b2, .int .u8 bl.b3] 48)) (w.heap.size + 1) S) := X1.out.alloc _
      have Z2 : Hid (BoxAt (w1.alloc (.cells #[.int .u8 bl.b0, .int .u8 bl.b1, .int .u8 bl.b2, .int .u8 bl.b3] 48)) w.heap.size C4.zero) := Z1.out.alloc _
      have Y2 : Hid (BoxAt (w1.alloc (.cells #[.int .u8 bl.b0, .int .u8 bl.b1, .int .u8 bl.b2, .int .u8 bl.b3] 48)) w1.heap.size bl) := BoxAt.new _ _ _ rfl
      clear K1 X1 Z1
      go_wp2_with fail
      generalize w1.alloc (.cells #[.int .u8 bl.b0, .int .u8 bl.b1, .int .u8 bl.b2, .int .u8 bl.b3] 48) = w2 at *
      generalize w1.heap.size = yb at *
      generalize hwn : wN p k = wn at *
      have HWN : Hid (wN p k = wn) := hwn
      clear hwn
      go_loopw [11] (fun a wi => ∃ (j : Nat), j ≤ 4 ∧ a = .int .i64 j ∧ Hid (wi.rowIs (w.heap.size + 1) 48 4 (fun i => .int .u8 (if i < j then S.at i ^^^ Hd.mul (bl.at i) wn else S.at i : Nat))) ∧ Hid (BoxAt wi w.heap.size C4.zero) ∧ Hid (BoxAt wi yb bl) ∧ Below w.heap.size w wi) (fun a _ => 4 - (intOf a).toNat)
      case atStart => exact ⟨0, by omega, rfl, X2.out.congr (fun j _ => by simp), Z2, Y2, K2⟩
      case round =>
        clear K2 X2 Z2 Y2
        obtain ⟨j, hj, rfl, hrow, hz, hy, hb4⟩ := hrel
        by_cases hj4 : j < 4
        · have hj4i : (j : Int) < 4 := by omega
          have cc := hrow.out.cell (i := j) hj4
          have cf := hrow.out.frozen j
          rw [if_neg (by omega)] at cc
          have yc := World.rowIs.cell hy.out (i := j) hj4
          have hrl := hrow.out.lt
          have hyl := hy.out.lt
          have hbj := C4.at_lt hbo.out j
          have hSj := C4.at_lt hSo.out j
          have HMU : Hid (∀ W, Calls Try.prog 46 #[.int .u8 (bl.at j : Nat), .int .u8 wn] W fun e w' => e = .returned (.int .u8 (Hd.mul (bl.at j) wn : Nat)) ∧ w' = W) := fun W => hMul_any _ _ W hbj (by omega)
          have hml := Hd.mul_lt (bl.at j) wn hbj
          have hxor := u8_xor_nat (S.at j) (Hd.mul (bl.at j) wn) hSj hml
          generalize hsv : S.at j = sv at *
          generalize hbv : bl.at j = bv at *
          generalize hmv : Hd.mul bv wn = mv at *
          have HSV : Hid (S.at j = sv) := hsv
          have HBV : Hid (bl.at j = bv) := hbv
          have HMVV : Hid (Hd.mul bv wn = mv) := hmv
          clear hsv hbv hmv hbj hSj hml
          go_wp2_with fail
          go_region_with ((go_at_call 46; go_must (refine (HMU.out _).mono ?_); rintro e W ⟨rfl, rfl⟩))
          all_goals
            go_wp2_with fail
            refine ⟨⟨j + 1, by omega, by go_num, ?_, ?_, ?_, ?_⟩, by simp [intOf]; omega⟩
            · refine World.rowIs.of_block (w := wr.setCell ⟨w.heap.size + 1, j, none⟩ (.int .u8 ((sv ^^^ mv : Nat) : Int))) ((hrow.out.set j _).congr ?_) rfl
              intro i hi
              by_cases e : i = j
              · subst e
                rw [if_pos rfl, if_pos (by omega), HSV.out, HBV.out, HMVV.out]
              · rw [if_neg e]
                by_cases hij : i < j
                · rw [if_pos hij, if_pos (by omega)]
                · rw [if_neg hij, if_neg (by omega)]
            · exact (hz.out.setOther (by simp) _).drew
            · exact (hy.out.setOther (by simp; omega) _).drew
            · exact (hb4.setCell (by simp) _).drew
        · have hje : j = 4 := by omega
          subst hje
          have hj4i : ¬ ((4 : Int) < 4) := by omega
          have HX : Hid (S.xor (bl.scale wn) = wsum s f (s.D + p) r (k + 1)) := HNX
          have hSN : Hid ((S.xor (bl.scale wn)).ok) := C4.xor_ok hSo.out (C4.scale_ok (by omega))
          have hBX : Hid (BoxAt wr (w.heap.size + 1) (S.xor (bl.scale wn))) := by
            refine World.rowIs.congr hrow.out (fun i hi => ?_)
            rw [if_pos hi, C4.at_xor, C4.at_scale, Hd.mul_comm _ _ (C4.at_lt hbo.out i) (by omega)]
          clear hrow
          by_cases hp0 : p = 0
          · subst hp0
            have HN2 : Hid (wN 0 (k + 1) = wn) := (show _ = _ by rw [wN_zero 0 k rfl]; exact HWN.out)
            go_wp2_with fail
            exact ⟨⟨k + 1, _, by omega, by go_num, by rw [HN2.out], HX, hSN, hBX, hz, hb4⟩, by simp [intOf]; omega⟩
          · have hpp : (0 : Int) < (p : Int) := by omega
            have HN2 : Hid (wN p (k + 1) = wn * 2) := (show _ = _ by rw [wN_succ p k hp0, HWN.out])
            go_wp2_with fail
            exact ⟨⟨k + 1, _, by omega, by go_num, by rw [HN2.out]; go_num, HX, hSN, hBX, hz, hb4⟩, by simp [intOf]; omega⟩
    · have hke : k = s.D := by omega
      have HKE : Hid (k = s.D) := hke
      have hlti : ¬ ((k : Int) < (s.D : Int)) := by omega
      obtain ⟨r0, r1, r2, r3⟩ := hres.out.cells
      obtain ⟨g0, g1, g2, g3⟩ := hres.out.frz
      obtain ⟨b0, b1, b2, b3⟩ := hbox.out.cells
      clear hke hK1
      go_wp2_with fail
      refine bodyPost_ret (v := S.val) (by simp [results, Try.results18, go_sem, r0, r1, r2, r3, C4.val]) rfl ⟨?_, ?_⟩
      · rw [hS.out, HKE.out]
      · exact below_set4 hbel (Nat.le_refl _) _ _ _ _
end Go.Proofs.Ytfpoiikhhjdpdab
