/- hoardkeep: isDown. -/
import Derived.Test.YtfpoiikhhjdpdabMounts
import Derived.Test.YtfpoiikhhjdpdabKCells
namespace Go.Proofs.Ytfpoiikhhjdpdab
open Go.RowKit
set_option linter.unusedVariables false
attribute [local go_sem ↓] Go.wp_at_zero Go.wp_at_succ
theorem hid_box {w : World} {b : Nat} {c : C4} (h : BoxAt w b c) : Hid (BoxAt w b c) := h
set_option maxRecDepth 100000 in
set_option maxHeartbeats 2000000 in
theorem isDown_any (kb hb : Nat) (s : St) (D : Nat) (w : World) (h : HoardIn w hb s) (hd : s.aux.down = true) (h0 : w.cell? ⟨kb, 0, none⟩ = some (.pointer (some ⟨hb, 0, none⟩))) (h1 : w.cell? ⟨kb, 1, none⟩ = some (.int .i64 D)) :
    Calls Try.prog 28 #[.pointer (some ⟨kb, 0, none⟩)] w fun e w' => e = .returned (.bool true) ∧ Below w.heap.size w w' := by
  have HD : Hid (s.aux.down = true) := hd
  have HRW : Hid (∀ W, Below w.heap.size w W → W.cell? ⟨kb, 0, none⟩ = some (.pointer (some ⟨hb, 0, none⟩)) ∧ W.cell? ⟨kb, 1, none⟩ = some (.int .i64 D) ∧ kb < W.heap.size ∧ HoardIn W hb s) := fun W k => ⟨below_cell k h0, below_cell k h1, block_lt_of_cell (below_cell k h0), h.below k⟩
  have HSC : Hid (∀ W, Calls Try.prog 19 #[.agg #[.int .u8 0, .int .u8 0, .int .u8 0, .int .u8 0], .agg #[.int .u8 0, .int .u8 0, .int .u8 0, .int .u8 0]] W fun e w' => e = .returned (.bool true) ∧ Below W.heap.size W w') := fun W => sameCell_eq C4.zero W
  have HCE : Hid (∀ W, HoardIn W hb s → Calls Try.prog 16 #[.pointer (some ⟨hb, 0, none⟩), .int .i64 0, .int .i64 (-1)] W fun e w' => e = .returned (.tuple #[.agg #[.int .u8 0, .int .u8 0, .int .u8 0, .int .u8 0], .int .i64 3]) ∧ Below W.heap.size W w') := fun W hW => Cell_down hb s 0 (-1) W hW HD.out
  have b0 : Below w.heap.size w w := Below.refl _ _
  obtain ⟨c0, c1, hl, hh⟩ := HRW.out _ b0
  have HH : Hid (HoardIn w hb s) := hh
  clear h hd h0 h1 hh
  go_enter Try.func28, Try.ntmps28
  go_wp2_with fail
  refine (Read_down hb s 0 0 _ HH.out HD.out).mono ?_
  rintro e w1 ⟨rfl, k⟩
  have b1 : Below w.heap.size w w1 := b0.trans (k.mono b0.size)
  clear k c0 c1 hl HH b0
  obtain ⟨c0, c1, hl, hh⟩ := HRW.out _ b1
  have HH : Hid (HoardIn w1 hb s) := hh
  clear hh
  go_wp2_with fail
  refine (Write_down hb s 0 none 0 0 _ HH.out HD.out).mono ?_
  rintro e w2 ⟨rfl, k⟩
  have b2 : Below w.heap.size w w2 := b1.trans (k.mono b1.size)
  clear k c0 c1 hl HH b1
  obtain ⟨c0, c1, hl, hh⟩ := HRW.out _ b2
  have HH : Hid (HoardIn w2 hb s) := hh
  clear hh
  go_wp2_with fail
  refine (Steps_down hb s  _ HH.out HD.out).mono ?_
  rintro e w3 ⟨rfl, k⟩
  have b3 : Below w.heap.size w w3 := b2.trans (k.mono b2.size)
  clear k c0 c1 hl HH b2
  obtain ⟨c0, c1, hl, hh⟩ := HRW.out _ b3
  have HH : Hid (HoardIn w3 hb s) := hh
  clear hh
  go_wp2_with fail
  refine (Drive_down hb s (-1) _ HH.out HD.out).mono ?_
  rintro e w4 ⟨rfl, k⟩
  have b4 : Below w.heap.size w w4 := b3.trans (k.mono b3.size)
  have x0 : (w4.alloc (.cells #[.bool false, .int .i64 0, .int .i64 0] 42)).cell? ⟨w4.heap.size, 0, none⟩ = some (.bool false) := by simp [go_sem]
  have x1 : (w4.alloc (.cells #[.bool false, .int .i64 0, .int .i64 0] 42)).cell? ⟨w4.heap.size, 1, none⟩ = some (.int .i64 0) := by simp [go_sem]
  have x2 : (w4.alloc (.cells #[.bool false, .int .i64 0, .int .i64 0] 42)).cell? ⟨w4.heap.size, 2, none⟩ = some (.int .i64 0) := by simp [go_sem]
  have HX : Hid (∀ W, Below (w4.alloc (.cells #[.bool false, .int .i64 0, .int .i64 0] 42)).heap.size (w4.alloc (.cells #[.bool false, .int .i64 0, .int .i64 0] 42)) W → W.cell? ⟨w4.heap.size, 0, none⟩ = some (.bool false) ∧ W.cell? ⟨w4.heap.size, 1, none⟩ = some (.int .i64 0) ∧ W.cell? ⟨w4.heap.size, 2, none⟩ = some (.int .i64 0) ∧ w4.heap.size < W.heap.size) := fun W k => ⟨below_cell k x0, below_cell k x1, below_cell k x2, block_lt_of_cell (below_cell k x0)⟩
  replace b4 : Below w.heap.size w (w4.alloc (.cells #[.bool false, .int .i64 0, .int .i64 0] 42)) := b4.alloc b4.size _
  have z4 : Below (w4.alloc (.cells #[.bool false, .int .i64 0, .int .i64 0] 42)).heap.size (w4.alloc (.cells #[.bool false, .int .i64 0, .int .i64 0] 42)) (w4.alloc (.cells #[.bool false, .int .i64 0, .int .i64 0] 42)) := Below.refl _ _
  clear x0 x1 x2
  clear k c0 c1 hl HH b3
  obtain ⟨c0, c1, hl, hh⟩ := HRW.out _ b4
  have HH : Hid (HoardIn (w4.alloc (.cells #[.bool false, .int .i64 0, .int .i64 0] 42)) hb s) := hh
  clear hh
  go_wp2_with fail
  generalize w4.alloc (.cells #[.bool false, .int .i64 0, .int .i64 0] 42) = v4 at *
  generalize w4.heap.size = xb at *
  refine (HCE.out _ HH.out).mono ?_
  rintro e w5 ⟨rfl, k⟩
  have b5 : Below w.heap.size w w5 := b4.trans (k.mono b4.size)
  have z5 := z4.trans (k.mono z4.size)
  have HY : Hid (BoxAt (w5.alloc (.cells #[.int .u8 0, .int .u8 0, .int .u8 0, .int .u8 0] 48)) w5.heap.size C4.zero) := BoxAt.new0 _ _ rfl
  replace b5 : Below w.heap.size w (w5.alloc (.cells #[.int .u8 0, .int .u8 0, .int .u8 0, .int .u8 0] 48)) := b5.alloc b5.size _
  replace z5 : Below v4.heap.size v4 (w5.alloc (.cells #[.int .u8 0, .int .u8 0, .int .u8 0, .int .u8 0] 48)) := z5.alloc z5.size _
  clear k c0 c1 hl HH b4 z4
  obtain ⟨c0, c1, hl, hh⟩ := HRW.out _ b5
  have HH : Hid (HoardIn (w5.alloc (.cells #[.int .u8 0, .int .u8 0, .int .u8 0, .int .u8 0] 48)) hb s) := hh
  clear hh
  go_wp2_with fail
  generalize w5.alloc (.cells #[.int .u8 0, .int .u8 0, .int .u8 0, .int .u8 0] 48) = v5 at *
  generalize w5.heap.size = yb at *
  refine (Log_down hb s 0 _ HH.out HD.out).mono ?_
  rintro e w6 ⟨rfl, k⟩
  have b6 : Below w.heap.size w w6 := b5.trans (k.mono b5.size)
  have z6 := z5.trans (k.mono z5.size)
  replace HY := hid_box (HY.out.below k)
  clear k c0 c1 hl HH b5 z5
  obtain ⟨c0, c1, hl, hh⟩ := HRW.out _ b6
  have HH : Hid (HoardIn w6 hb s) := hh
  clear hh
  go_wp2_with fail
  go_quiet ((go_at_call 53; exact Calls.quiet_of (Merge_downq hb s D 0 _ (HH.out.drewN _) HD.out)))
  have k : Below w6.heap.size w6 (w6.drewN nq) := below_drewN (Below.refl _ _) nq
  generalize w6.drewN nq = w7 at *
  have b7 : Below w.heap.size w w7 := b6.trans (k.mono b6.size)
  have z7 := z6.trans (k.mono z6.size)
  replace HY := hid_box (HY.out.below k)
  clear k c0 c1 hl HH b6 z6
  obtain ⟨c0, c1, hl, hh⟩ := HRW.out _ b7
  have HH : Hid (HoardIn w7 hb s) := hh
  clear hh
  go_wp2_with fail
  refine (Fail_down hb s 99 _ HH.out HD.out).mono ?_
  rintro e w8 ⟨rfl, k⟩
  have b8 : Below w.heap.size w w8 := b7.trans (k.mono b7.size)
  have z8 := z7.trans (k.mono z7.size)
  replace HY := hid_box (HY.out.below k)
  clear k c0 c1 hl HH b7 z7
  obtain ⟨c0, c1, hl, hh⟩ := HRW.out _ b8
  have HH : Hid (HoardIn w8 hb s) := hh
  clear hh
  go_wp2_with fail
  refine (Replace_down hb s 0 _ HH.out HD.out).mono ?_
  rintro e w9 ⟨rfl, k⟩
  have b9 : Below w.heap.size w w9 := b8.trans (k.mono b8.size)
  have z9 := z8.trans (k.mono z8.size)
  replace HY := hid_box (HY.out.below k)
  clear k c0 c1 hl HH b8 z8
  obtain ⟨c0, c1, hl, hh⟩ := HRW.out _ b9
  have HH : Hid (HoardIn w9 hb s) := hh
  clear hh
  go_wp2_with fail
  refine (Rebuild_down hb s 0 0 _ HH.out HD.out).mono ?_
  rintro e w10 ⟨rfl, k⟩
  have b10 : Below w.heap.size w w10 := b9.trans (k.mono b9.size)
  have z10 := z9.trans (k.mono z9.size)
  replace HY := hid_box (HY.out.below k)
  clear k c0 c1 hl HH b9 z9
  obtain ⟨c0, c1, hl, hh⟩ := HRW.out _ b10
  have HH : Hid (HoardIn w10 hb s) := hh
  clear hh
  go_wp2_with fail
  refine (Break_down hb s (-1) _ HH.out HD.out).mono ?_
  rintro e w11 ⟨rfl, k⟩
  have b11 : Below w.heap.size w w11 := b10.trans (k.mono b10.size)
  have z11 := z10.trans (k.mono z10.size)
  replace HY := hid_box (HY.out.below k)
  clear k c0 c1 hl HH b10 z10
  obtain ⟨c0, c1, hl, hh⟩ := HRW.out _ b11
  have HH : Hid (HoardIn w11 hb s) := hh
  clear hh
  obtain ⟨x0, x1, x2, hxl⟩ := HX.out _ z11
  obtain ⟨y0, y1, y2, y3⟩ := HY.out.cells
  have hyl := HY.out.lt
  replace y0 : w11.cell? ⟨yb, 0, none⟩ = some (.int .u8 0) := y0
  replace y1 : w11.cell? ⟨yb, 1, none⟩ = some (.int .u8 0) := y1
  replace y2 : w11.cell? ⟨yb, 2, none⟩ = some (.int .u8 0) := y2
  replace y3 : w11.cell? ⟨yb, 3, none⟩ = some (.int .u8 0) := y3
  clear HH HRW
  go_wp2_with fail
  refine (HSC.out _).mono ?_
  rintro e w12 ⟨rfl, k⟩
  have b12 : Below w.heap.size w w12 := b11.trans (k.mono b11.size)
  have z12 := z11.trans (k.mono z11.size)
  clear x0 x1 x2 y0 y1 y2 y3 hxl hyl k c0 c1 hl
  obtain ⟨x0, x1, x2, hxl⟩ := HX.out _ z12
  have HB : Hid (Below w.heap.size w w12) := b12
  clear HX z12 z11 b12 b11
  go_wp2_with fail
  go_ret
  exact ⟨rfl, HB.out⟩
end Go.Proofs.Ytfpoiikhhjdpdab
