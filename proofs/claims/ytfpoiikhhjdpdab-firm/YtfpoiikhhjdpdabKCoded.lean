/- hoardkeep: coded. -/
import Derived.Test.YtfpoiikhhjdpdabKValue
import Derived.Test.YtfpoiikhhjdpdabKWeigh
import Derived.Test.YtfpoiikhhjdpdabCounts
namespace Go.Proofs.Ytfpoiikhhjdpdab
open Go.RowKit
set_option linter.unusedVariables false
attribute [local go_sem ↓] Go.wp_at_zero Go.wp_at_succ
set_option maxRecDepth 100000 in
set_option maxHeartbeats 2000000 in
theorem coded_any {w0 : World} (kb bb hb : Nat) (s : St) (f : Nat → Nat) (V : Nat → Value) (lo : Nat → Bool) (bu : Nat → Nat → Bool) (w : World) (h : KeepAt w0 w kb bb hb s f V lo bu) (hi : KInv s f lo bu) (hl : Live s.toAb) :
    Calls Try.prog 31 #[.pointer (some ⟨kb, 0, none⟩)] w fun e w' => e = .returned (.bool true) ∧ Below w.heap.size w w' := by
  have HK : Hid (KeepAt w0 w kb bb hb s f V lo bu) := h
  have HI : Hid (KInv s f lo bu) := hi
  have HL : Hid (Live s.toAb) := hl
  have hD4 := h.hoard.ok.D4
  have hP2 := h.hoard.ok.P2
  have hR6 := h.hoard.ok.R6
  clear h hi hl
  go_enter Try.func31, Try.ntmps31
  go_wp2_with fail
  go_loopw [3, 4, 5, 6, 7] (fun p _ _ _ _ wr => ∃ k : Nat, k ≤ s.P ∧ p = .int .i64 k ∧ Hid (Below w.heap.size w wr)) (fun p _ _ _ _ _ => s.P - (intOf p).toNat)
  case atStart => exact ⟨0, by omega, rfl, Below.refl _ _⟩
  case round =>
    obtain ⟨k, hk, rfl, hB⟩ := hrel
    have hKr := HK.out.of_below hB.out
    obtain ⟨c0, c1, c2, c3, c4, c5, c6, c7⟩ := hKr.cells
    have hltr := hKr.row.lt
    clear hKr c4 c5 c6 c7
    by_cases hlt : k < s.P
    · have hlti : (k : Int) < (s.P : Int) := by omega
      go_wp2_with fail
      go_loopw [4, 5, 6, 7] (fun r _ _ _ wi => ∃ m : Nat, m ≤ s.R ∧ r = .int .i64 m ∧ Hid (Below w.heap.size w wi)) (fun r _ _ _ _ => s.R - (intOf r).toNat)
      case atStart => exact ⟨0, by omega, rfl, hB⟩
      case round =>
        clear c0 c1 c2 c3 hltr hB
        obtain ⟨m, hm, rfl, hBi⟩ := hrel
        have hKi := HK.out.of_below hBi.out
        obtain ⟨c0, c1, c2, c3, c4, c5, c6, c7⟩ := hKi.cells
        have hlti' := hKi.row.lt
        clear hKi c4 c5 c6 c7
        by_cases hltm : m < s.R
        · have hltmi : (m : Int) < (s.R : Int) := by omega
          have HVA : Hid (∀ W, Below w.heap.size w W → Calls Try.prog 55 #[.pointer (some ⟨kb, 0, none⟩), .int .i64 ((s.D : Int) + (k : Int)), .int .i64 m] W fun e w' => e = .returned (.tuple #[(wsum s f (s.D + k) m s.D).val, .bool true]) ∧ Below W.heap.size W w') := fun W hW => by
            have hav := HL.out (s.D + k) m (by omega) hltm
            have h1 := kvalue_par kb bb hb s f V lo bu (s.D + k) m W (HK.out.of_below hW) (by omega) (by omega) hltm hav
            rw [HI.out.inv.par m hltm (s.D + k) (by omega) (by omega) hav] at h1
            exact h1
          have HWA : Hid (∀ W, Below w.heap.size w W → Calls Try.prog 18 #[.pointer (some ⟨kb, 0, none⟩), .int .i64 k, .int .i64 m] W fun e w' => e = .returned (wsum s f (s.D + k) m s.D).val ∧ Below W.heap.size W w') := fun W hW => weighed_any kb bb hb s f V lo bu k m W (HK.out.of_below hW) (by omega) hltm
          generalize wsum s f (s.D + k) m s.D = X at *
          have HSC : Hid (∀ W, Calls Try.prog 19 #[.agg #[.int .u8 X.b0, .int .u8 X.b1, .int .u8 X.b2, .int .u8 X.b3], .agg #[.int .u8 X.b0, .int .u8 X.b1, .int .u8 X.b2, .int .u8 X.b3]] W fun e w' => e = .returned (.bool true) ∧ Below W.heap.size W w') := fun W => sameCell_eq X W
          unfold C4.val at HVA HWA
          go_wp2_with fail
          refine (HVA.out _ hBi.out).mono ?_
          rintro e w6 ⟨rfl, k6⟩
          have hb6 : Below w.heap.size w w6 := hBi.out.trans (k6.mono hBi.out.size)
          have hb7 : Below w.heap.size w (w6.alloc (.cells #[.int .u8 X.b0, .int .u8 X.b1, .int .u8 X.b2, .int .u8 X.b3] 48)) := hb6.alloc hb6.size _
          have HB7 : Hid (BoxAt (w6.alloc (.cells #[.int .u8 X.b0, .int .u8 X.b1, .int .u8 X.b2, .int .u8 X.b3] 48)) w6.heap.size X) := BoxAt.new _ _ _ rfl
          have HW7 : Hid (Below w.heap.size w (w6.alloc (.cells #[.int .u8 X.b0, .int .u8 X.b1, .int .u8 X.b2, .int .u8 X.b3] 48))) := hb7
          clear k6 hb6 hb7 c0 c1 c2 c3 hlti'
          go_wp2_with fail
          generalize w6.alloc (.cells #[.int .u8 X.b0, .int .u8 X.b1, .int .u8 X.b2, .int .u8 X.b3] 48) = w7 at *
          generalize w6.heap.size = xb at *
          have HWA2 : Hid (∀ W : World, W.heap = w7.heap → W.os = w7.os → W.tape = w7.tape → W.output = w7.output → Calls Try.prog 18 #[.pointer (some ⟨kb, 0, none⟩), .int .i64 k, .int .i64 m] W fun e w' => e = .returned (.agg #[.int .u8 X.b0, .int .u8 X.b1, .int .u8 X.b2, .int .u8 X.b3]) ∧ Below w7.heap.size w7 w') := fun W e1 e2 e3 e4 => (HWA.out W (HW7.out.trans ⟨e2, e3, e4, by rw [e1]; exact Nat.le_refl _, fun i _ => by rw [e1]⟩)).mono fun e w' ⟨h1, h2⟩ => ⟨h1, below_from h2 e1 e2 e3 e4⟩
          obtain ⟨y0, y1, y2, y3⟩ := HB7.out.cells
          have hyl := HB7.out.lt
          go_region_with (first
            | (go_at_call 18; go_must (refine (HWA2.out _ (by rfl) (by rfl) (by rfl) (by rfl)).mono ?_); rintro e w8 ⟨rfl, k8⟩; obtain ⟨x0, x1, x2, x3⟩ := (HB7.out.below k8).cells; have hxl := (HB7.out.below k8).lt)
            | (go_at_call 19; go_must (refine (HSC.out _).mono ?_); rintro e w9 ⟨rfl, k9⟩; have K9 : Below w8.heap.size w8 w9 := below_from k9 rfl rfl rfl rfl))
          all_goals
            have HB9 : Hid (Below w.heap.size w w9) := HW7.out.trans ((k8.trans (K9.mono k8.size)).mono HW7.out.size)
            clear k8 K9 k9 x0 x1 x2 x3 y0 y1 y2 y3 hxl hyl
            go_wp2_with fail
            exact ⟨⟨m + 1, by omega, by go_num, HB9⟩, by simp [intOf]; omega⟩
        · have hltmi : ¬ ((m : Int) < (s.R : Int)) := by omega
          go_wp2_with fail
          exact ⟨⟨k + 1, by omega, by go_num, hBi⟩, by simp [intOf]; omega⟩
    · have hlti : ¬ ((k : Int) < (s.P : Int)) := by omega
      go_wp2_with fail
      go_ret
      exact ⟨rfl, hB.out⟩
end Go.Proofs.Ytfpoiikhhjdpdab
