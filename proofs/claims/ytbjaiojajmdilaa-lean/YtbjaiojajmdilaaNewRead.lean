/- New, Read, Drive, Log. -/
import Derived.Test.YtbjaiojajmdilaaAppends
namespace Go.Proofs.Ytbjaiojajmdilaa
open Go.RowKit
set_option linter.unusedVariables false
attribute [local go_sem ↓] Go.wp_at_zero Go.wp_at_succ
set_option maxRecDepth 100000 in
set_option maxHeartbeats 1000000 in
theorem within_any (n m : Int) (w : World) :
    Calls Try.prog 92 #[.int .i64 n, .int .i64 m] w fun e w' => e = .returned (.bool (decide (1 ≤ n ∧ n ≤ m))) ∧ w' = w := by
  by_cases h : 1 ≤ n
  · go_enter Try.func92, Try.ntmps92
    go_wp2
    go_ret
    exact ⟨by simp [h], rfl⟩
  · have h' : decide (1 ≤ n) = false := by simpa using h
    go_enter Try.func92, Try.ntmps92
    go_wp2
    go_ret
    exact ⟨by first | rfl | (rw [decide_eq_false (by omega)]; rfl), rfl⟩
def shapeB (a b c d : Int) : Bool := decide (1 ≤ a ∧ a ≤ 4) && decide (1 ≤ b ∧ b ≤ 2) && decide (1 ≤ c ∧ c ≤ 6) && decide (1 ≤ d ∧ d ≤ 8)
set_option maxRecDepth 100000 in
set_option maxHeartbeats 1000000 in
theorem isShape_any (a b c d : Int) (w : World) :
    Calls Try.prog 53 #[.agg #[.int .i64 a, .int .i64 b, .int .i64 c, .int .i64 d]] w fun e w' => e = .returned (.bool (shapeB a b c d)) ∧ Below w.heap.size w w' := by
  unfold shapeB
  cases ha : decide (1 ≤ a ∧ a ≤ 4)
  · go_enter Try.func53, Try.ntmps53
    go_wp2_with fail
    refine (within_any a 4 _).mono ?_
    rw [ha]
    rintro e w' ⟨rfl, rfl⟩
    go_wp2_with fail
    go_ret
    exact ⟨rfl, (Below.refl _ _).alloc (Nat.le_refl _) _⟩
  · cases hb : decide (1 ≤ b ∧ b ≤ 2)
    · go_enter Try.func53, Try.ntmps53
      go_wp2_with fail
      refine (within_any a 4 _).mono ?_
      rw [ha]
      rintro e w' ⟨rfl, rfl⟩
      go_wp2_with fail
      refine (within_any b 2 _).mono ?_
      rw [hb]
      rintro e w' ⟨rfl, rfl⟩
      go_wp2_with fail
      go_ret
      exact ⟨rfl, (Below.refl _ _).alloc (Nat.le_refl _) _⟩
    · cases hc : decide (1 ≤ c ∧ c ≤ 6)
      · go_enter Try.func53, Try.ntmps53
        go_wp2_with fail
        refine (within_any a 4 _).mono ?_
        rw [ha]
        rintro e w' ⟨rfl, rfl⟩
        go_wp2_with fail
        refine (within_any b 2 _).mono ?_
        rw [hb]
        rintro e w' ⟨rfl, rfl⟩
        go_wp2_with fail
        refine (within_any c 6 _).mono ?_
        rw [hc]
        rintro e w' ⟨rfl, rfl⟩
        go_wp2_with fail
        go_ret
        exact ⟨rfl, (Below.refl _ _).alloc (Nat.le_refl _) _⟩
      · go_enter Try.func53, Try.ntmps53
        go_wp2_with fail
        refine (within_any a 4 _).mono ?_
        rw [ha]
        rintro e w' ⟨rfl, rfl⟩
        go_wp2_with fail
        refine (within_any b 2 _).mono ?_
        rw [hb]
        rintro e w' ⟨rfl, rfl⟩
        go_wp2_with fail
        refine (within_any c 6 _).mono ?_
        rw [hc]
        rintro e w' ⟨rfl, rfl⟩
        go_wp2_with fail
        refine (within_any d 8 _).mono ?_
        rintro e w' ⟨rfl, rfl⟩
        go_wp2_with fail
        go_ret
        exact ⟨by simp, (Below.refl _ _).alloc (Nat.le_refl _) _⟩
def newSt (a b c d : Nat) : St := ⟨a, b, c, d, fun _ _ => C4.zero, fun _ => [], fun _ => .slice none 0 0, 0⟩
theorem zero92 : Try.zeroCells92 = ((List.range 155).map (hv (newSt 0 0 0 0))).toArray := by kernel_rfl
theorem hv_new (a b c d i : Nat) (hi : 4 ≤ i) : hv (newSt a b c d) i = hv (newSt 0 0 0 0) i := by
  have h4 : ¬ i < 4 := by omega
  unfold hv; simp only [h4, if_false]; rfl
theorem new_row (w : World) (a b c d : Nat) : (w.alloc (Obj.cells ((((Try.zeroCells92.setIfInBounds 0 (Value.int IntKind.i64 a)).setIfInBounds 1 (Value.int IntKind.i64 b)).setIfInBounds 2 (Value.int IntKind.i64 c)).setIfInBounds 3 (Value.int IntKind.i64 d)) 92)).rowIs w.heap.size 92 155 (hv (newSt a b c d)) := by
  have hs : ((((Try.zeroCells92.setIfInBounds 0 (Value.int IntKind.i64 a)).setIfInBounds 1 (Value.int IntKind.i64 b)).setIfInBounds 2 (Value.int IntKind.i64 c)).setIfInBounds 3 (Value.int IntKind.i64 d)).size = 155 := by rw [zero92]; simp
  have h1 := World.rowIs_alloc w ((((Try.zeroCells92.setIfInBounds 0 (Value.int IntKind.i64 a)).setIfInBounds 1 (Value.int IntKind.i64 b)).setIfInBounds 2 (Value.int IntKind.i64 c)).setIfInBounds 3 (Value.int IntKind.i64 d)) 92 (hv (newSt a b c d)) ?_
  · rwa [hs] at h1
  · intro i hi
    rw [hs] at hi
    rw [zero92]
    by_cases h3 : i = 3
    · subst h3; simp [hv, newSt]
    · by_cases h2 : i = 2
      · subst h2; simp [hv, newSt]
      · by_cases h1 : i = 1
        · subst h1; simp [hv, newSt]
        · by_cases h0 : i = 0
          · subst h0; simp [hv, newSt]
          · rw [Array.getElem?_setIfInBounds_ne (fun e => h3 e.symm), Array.getElem?_setIfInBounds_ne (fun e => h2 e.symm), Array.getElem?_setIfInBounds_ne (fun e => h1 e.symm), Array.getElem?_setIfInBounds_ne (fun e => h0 e.symm), hv_new a b c d i (by omega)]
            simp [hi]
theorem newSt_ok (a b c d : Nat) (h : shapeB a b c d = true) : (newSt a b c d).ok := by
  simp only [shapeB, Bool.and_eq_true, decide_eq_true_eq] at h
  obtain ⟨⟨⟨h1, h2⟩, h3⟩, h4⟩ := h
  refine ⟨?_, ?_, ?_, ?_, ?_, ?_, ?_, ?_, fun _ _ => C4.zero_ok, fun _ => Nat.zero_le _, fun _ x hx => ?_, fun _ _ => rfl⟩
  all_goals first | (simp only [newSt]; omega) | (simp [newSt] at hx)
theorem new_at (w : World) (a b c d : Nat) (h : shapeB a b c d = true) : HoardAt (w.alloc (Obj.cells ((((Try.zeroCells92.setIfInBounds 0 (Value.int IntKind.i64 a)).setIfInBounds 1 (Value.int IntKind.i64 b)).setIfInBounds 2 (Value.int IntKind.i64 c)).setIfInBounds 3 (Value.int IntKind.i64 d)) 92)) w.heap.size (newSt a b c d) :=
  ⟨newSt_ok a b c d h, new_row w a b c d, fun _ _ => World.ownsRow_nil _ _ _ _, fun _ _ => by simp [newSt, Value.ownBlock], fun _ _ _ _ _ _ => by simp [newSt, Value.ownBlock]⟩
set_option maxRecDepth 100000 in
set_option maxHeartbeats 1000000 in
theorem New_ok (a b c d : Nat) (w : World) (h : shapeB a b c d = true) :
    Calls Try.prog 34 #[.agg #[.int .i64 a, .int .i64 b, .int .i64 c, .int .i64 d]] w fun e w' => ∃ hb, e = .returned (.tuple #[.pointer (some ⟨hb, 0, none⟩), .int .i64 0]) ∧ w.heap.size ≤ hb ∧ HoardAt w' hb (newSt a b c d) ∧ Below w.heap.size w w' := by
  go_enter Try.func34, Try.ntmps34
  go_wp2_with fail
  refine (isShape_any a b c d _).mono ?_
  rintro e w1 ⟨rfl, k1⟩
  obtain ⟨hcc, hff⟩ := bcell k1
  have K1 : Below w.heap.size w w1 := ((Below.refl _ _).alloc (Nat.le_refl _) _).trans (k1.mono (by simp))
  clear k1
  go_wp2_with fail
  go_ret2
  exact ⟨w1.heap.size, rfl, K1.size, new_at w1 a b c d h, K1.alloc K1.size _⟩
set_option maxRecDepth 100000 in
set_option maxHeartbeats 1000000 in
theorem New_no (a b c d : Int) (w : World) (h : shapeB a b c d = false) :
    Calls Try.prog 34 #[.agg #[.int .i64 a, .int .i64 b, .int .i64 c, .int .i64 d]] w fun e w' => e = .returned (.tuple #[.pointer none, .int .i64 2]) ∧ Below w.heap.size w w' := by
  go_enter Try.func34, Try.ntmps34
  go_wp2_with fail
  refine (isShape_any a b c d _).mono ?_
  rintro e w1 ⟨rfl, k1⟩
  have K1 : Below w.heap.size w w1 := ((Below.refl _ _).alloc (Nat.le_refl _) _).trans (k1.mono (by simp))
  clear k1
  go_wp2_with fail
  go_ret2
  exact ⟨rfl, K1⟩
set_option maxRecDepth 100000 in
set_option maxHeartbeats 1000000 in
theorem Drive_any (hb : Nat) (s : St) (d : Int) (w : World) (h : HoardAt w hb s) :
    Calls Try.prog 21 #[.pointer (some ⟨hb, 0, none⟩), .int .i64 d] w fun e w' =>
      e = .returned (.tuple (if isDriveB s d then #[.agg #[.bool false, .int .i64 0, .int .i64 (s.recs d.toNat).length], .int .i64 0] else #[.agg #[.bool false, .int .i64 0, .int .i64 0], .int .i64 6])) ∧ Below w.heap.size w w' := by
  have HH : Hid (HoardAt w hb s) := h
  have hlt := h.row.lt
  have hD := h.ok.D4
  have hP := h.ok.P2
  have HA : Hid (∀ o, HoardAt (w.alloc o) hb s) := fun o => h.below ((Below.refl _ _).alloc (Nat.le_refl _) o)
  cases hd : isDriveB s d
  · clear h
    go_enter Try.func21, Try.ntmps21
    go_wp2_with fail
    refine (isDrive_any hb s d _ (HA.out _)).mono ?_
    rintro e w' ⟨rfl, n, rfl⟩
    go_wp2_with fail
    exact bodyPost_ret (v := .tuple #[.agg #[.bool false, .int .i64 0, .int .i64 0], .int .i64 6]) (by simp [results, Try.results21, go_sem]) rfl ⟨rfl, by repeat (first | exact Below.refl _ _ | refine Below.setCell ?_ (by simp) _ | refine below_drewN ?_ _ | refine Below.drew ?_ | refine Below.alloc ?_ (by simp <;> omega) _)⟩
  · have hd1 := hd
    simp only [isDriveB, decide_eq_true_eq] at hd1
    obtain ⟨d, rfl⟩ := Int.eq_ofNat_of_zero_le hd1.1
    have hd6 : d < 6 := by omega
    have hl := h.log d hd6
    obtain ⟨p, cap, hv⟩ : ∃ p cap, s.lv d = .slice p (s.recs d).length cap := by
      rcases (h.logs d hd6).form with ⟨hv, hr⟩ | ⟨g, cap, hv, _⟩
      · exact ⟨none, 0, by rw [hv, hr]; rfl⟩
      · exact ⟨_, _, hv⟩
    rw [hv] at hl
    simp only [Int.toNat_natCast, if_true]
    generalize (s.recs d).length = len at *
    clear h hv hd1
    go_enter Try.func21, Try.ntmps21
    go_wp2_with fail
    refine (isDrive_any hb s d _ (HA.out _)).mono ?_
    rintro e w' ⟨rfl, n, rfl⟩
    go_wp2_with fail
    exact bodyPost_ret (v := .tuple #[.agg #[.bool false, .int .i64 0, .int .i64 len], .int .i64 0]) (by simp [results, Try.results21, go_sem]) rfl ⟨rfl, by repeat (first | exact Below.refl _ _ | refine Below.setCell ?_ (by simp) _ | refine below_drewN ?_ _ | refine Below.drew ?_ | refine Below.alloc ?_ (by simp <;> omega) _)⟩
set_option maxRecDepth 100000 in
set_option maxHeartbeats 1000000 in
theorem Log_no (hb : Nat) (s : St) (d : Int) (w : World) (h : HoardAt w hb s) (hd : isParityB s d = false) :
    Calls Try.prog 22 #[.pointer (some ⟨hb, 0, none⟩), .int .i64 d] w fun e w' => e = .returned (.tuple #[.slice none 0 0, .int .i64 6]) ∧ Below w.heap.size w w' := by
  go_enter Try.func22, Try.ntmps22
  go_wp2_with fail
  refine (isParity_b hb s d _ h).mono ?_
  rintro e w1 ⟨rfl, k1, h1⟩
  go_wp2_with fail
  go_ret2
  exact ⟨rfl, k1⟩
/-- Byte i of the hoard. -/
def byteAt (s : St) (i : Nat) : Nat := (s.cell (i / 4 % s.D) (i / 4 / s.D)).at (i % 4)
set_option maxRecDepth 100000 in
set_option maxHeartbeats 1000000 in
theorem Read_no (hb : Nat) (s : St) (a n : Int) (w : World) (h : HoardAt w hb s) (ha : -9223372036854775808 ≤ a ∧ a ≤ 9223372036854775807) (hh : hasB s a n = false) :
    Calls Try.prog 38 #[.pointer (some ⟨hb, 0, none⟩), .int .i64 a, .int .i64 n] w fun e w' => e = .returned (.tuple #[.slice none 0 0, .int .i64 4]) ∧ Below w.heap.size w w' := by
  go_enter Try.func38, Try.ntmps38
  go_wp2_with fail
  refine (hasBytes_any hb s a n _ h ha).mono ?_
  rintro e w1 ⟨rfl, q, rfl⟩
  go_wp2_with fail
  go_ret2
  exact ⟨rfl, below_drewN (Below.refl _ _) _⟩
set_option maxRecDepth 100000 in
set_option maxHeartbeats 1000000 in
theorem Read_ok (hb : Nat) (s : St) (a n : Nat) (w : World) (h : HoardAt w hb s) (hh : hasB s a n = true) :
    Calls Try.prog 38 #[.pointer (some ⟨hb, 0, none⟩), .int .i64 a, .int .i64 n] w fun e w' => ∃ g, e = .returned (.tuple #[.slice (some ⟨g, 0, none⟩) n n, .int .i64 0]) ∧ w.heap.size ≤ g ∧ w'.rowIs g 5 n (fun i => .int .u8 (byteAt s (a + i) : Nat)) ∧ Below w.heap.size w w' := by
  have hal := all_le s h.ok
  have hD := h.ok.D4
  have hD1 := h.ok.D1
  have hh1 := hh
  simp only [hasB, decide_eq_true_eq] at hh1
  have HH : Hid (HoardAt w hb s) := h
  have han : a + n ≤ 96 := by omega
  have HAN : Hid (a + n ≤ s.D * s.R * 4) := (show _ ≤ _ by have h2 := hh1.2.2; have : ((s.D * s.R : Nat) : Int) = (s.D : Int) * s.R := by simp
                                                           omega)
  clear h hh1 hal
  have hmk := run_make_row' (P := Try.prog) 44 5 (.int .u8 0) 1 Try.underlying44 (by kernel_rfl) rfl .i64 .i64 n (by omega) (by omega)
  go_enter Try.func38, Try.ntmps38
  go_wp2_with fail
  refine (hasBytes_any hb s a n _ HH.out (by omega)).mono ?_
  rintro e w1 ⟨rfl, q, rfl⟩
  have h1 := HH.out.drewN q
  have k1 : Below w.heap.size w (w.drewN q) := below_drewN (Below.refl _ _) q
  generalize w.drewN q = w1 at *
  go_wp2_with fail
  go_loopw [9, 10, 11, 12] (fun i _ _ _ wr => ∃ k : Nat, k ≤ n ∧ i = .int .i64 k ∧ wr.rowIs w1.heap.size 5 n (fun j => .int .u8 (if j < k then byteAt s (a + j) else 0 : Nat)) ∧ Below w1.heap.size w1 wr) (fun i _ _ _ _ => n - (intOf i).toNat)
  case atStart =>
    refine ⟨0, by omega, rfl, ?_, (Below.refl _ _).alloc (Nat.le_refl _) _⟩
    exact (World.rowIs_made w1 (.int .u8 0) n 5).congr (fun j _ => by simp)
  case round =>
    obtain ⟨k, hk, rfl, hrow, hb2⟩ := hrel
    clear hmk
    have h2 := h1.below hb2
    have hlt2 := h2.row.lt
    by_cases hlt : k < n
    · have hDR : (a + k) / 4 < s.D * s.R := by have := HAN.out; omega
      have hc4 : (a + k) / 4 % s.D < 6 := by have := Nat.mod_lt ((a + k) / 4) (show 0 < s.D by omega); omega
      have hR6 := h2.ok.R6
      have hr6 : (a + k) / 4 / s.D < 6 := by
        have : (a + k) / 4 / s.D < s.R := Nat.div_lt_of_lt_mul hDR
        omega
      have hcell := (h2.row.cell (i := 4 + ((a + k) / 4 % s.D) * 25 + ((a + k) / 4 / s.D) * 4 + (a + k) % 4) (by omega)).trans (congrArg some (hv_cell s _ _ ((a + k) % 4) hc4 hr6 (by omega)))
      have hst := hrow.cell (i := k) hlt
      have hfz := hrow.frozen k
      have HB : Hid (byteAt s (a + k) = (s.cell ((a + k) / 4 % s.D) ((a + k) / 4 / s.D)).at ((a + k) % 4)) := rfl
      generalize hc : (a + k) / 4 % s.D = c at *
      generalize hr : (a + k) / 4 / s.D = r at *
      have HC : Hid ((a + k) / 4 % s.D = c) := hc
      have HR : Hid ((a + k) / 4 / s.D = r) := hr
      have HRow : Hid (wr.rowIs w1.heap.size 5 n (fun j => .int .u8 (if j < k then byteAt s (a + j) else 0 : Nat))) := hrow
      have hkn : (k : Int) < (n : Int) := by omega
      clear hc hr hrow
      have hmod : ((a : Int) + k) % 4 = (((a + k) % 4 : Nat) : Int) := by omega
      generalize hat : (a + k) % 4 = at4 at *
      have hat4 : at4 < 4 := by omega
      have hat4i : (at4 : Int) < 4 := by omega
      have HAT : Hid ((a + k) % 4 = at4) := hat
      clear hat
      have hci : (c : Int) < 6 := by omega
      have hri : (r : Int) < 6 := by omega
      go_wp2_with fail
      rw [show ((a : Int) + k) / 4 = (((a + k) / 4 : Nat) : Int) by omega]
      refine (place_any hb s _ _ h2 (by omega)).mono ?_
      rw [HC.out, HR.out]
      rintro e w2 ⟨rfl, m, rfl⟩
      go_wp2_with fail
      refine ⟨⟨k + 1, by omega, by go_num, ?_, (below_drewN hb2 m).setCell (by simp) _⟩, by simp [intOf]; omega⟩
      refine (World.rowIs.set (HRow.out.of_block rfl : (wr.drewN m).rowIs w1.heap.size 5 n (fun j => .int .u8 (if j < k then byteAt s (a + j) else 0 : Nat))) k _).congr ?_
      intro j hj
      by_cases e : j = k
      · subst e
        rw [if_pos rfl, if_pos (by omega), HB.out]
      · rw [if_neg e]
        by_cases hjk : j < k
        · rw [if_pos hjk, if_pos (by omega)]
        · rw [if_neg hjk, if_neg (by omega)]
    · have : k = n := by omega
      subst this
      go_wp2_with fail
      go_ret2
      exact ⟨w1.heap.size, rfl, k1.size, hrow.congr (fun j hj => by simp only [hj, if_true]), k1.trans (hb2.mono k1.size)⟩
end Go.Proofs.Ytbjaiojajmdilaa
