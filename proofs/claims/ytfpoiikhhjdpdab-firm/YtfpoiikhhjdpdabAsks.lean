/- New, Steps, Drive, Cell, Log. -/
import Derived.Test.YtfpoiikhhjdpdabUp
namespace Go.Proofs.Ytfpoiikhhjdpdab
open Go.RowKit
set_option linter.unusedVariables false
attribute [local go_sem ↓] Go.wp_at_zero Go.wp_at_succ
set_option maxRecDepth 100000 in
set_option maxHeartbeats 1000000 in
theorem within_any (n m : Int) (w : World) :
    Calls Try.prog 83 #[.int .i64 n, .int .i64 m] w fun e w' => e = .returned (.bool (decide (1 ≤ n ∧ n ≤ m))) ∧ w' = w := by
  by_cases h : 1 ≤ n
  · go_enter Try.func83, Try.ntmps83
    go_wp2
    go_ret
    exact ⟨by simp [h], rfl⟩
  · have h' : decide (1 ≤ n) = false := by simpa using h
    go_enter Try.func83, Try.ntmps83
    go_wp2
    go_ret
    exact ⟨by first | rfl | (rw [decide_eq_false (by omega)]; rfl), rfl⟩
def shapeB (a b c d : Int) : Bool := decide (1 ≤ a ∧ a ≤ 4) && decide (1 ≤ b ∧ b ≤ 2) && decide (1 ≤ c ∧ c ≤ 6) && decide (1 ≤ d ∧ d ≤ 8)
set_option maxRecDepth 100000 in
set_option maxHeartbeats 1000000 in
theorem isShape_any (a b c d : Int) (w : World) :
    Calls Try.prog 61 #[.agg #[.int .i64 a, .int .i64 b, .int .i64 c, .int .i64 d]] w fun e w' => e = .returned (.bool (shapeB a b c d)) ∧ Below w.heap.size w w' := by
  unfold shapeB
  cases ha : decide (1 ≤ a ∧ a ≤ 4)
  · go_enter Try.func61, Try.ntmps61
    go_wp2_with fail
    refine (within_any a 4 _).mono ?_
    rw [ha]
    rintro e w' ⟨rfl, rfl⟩
    go_wp2_with fail
    go_ret
    exact ⟨rfl, (Below.refl _ _).alloc (Nat.le_refl _) _⟩
  · cases hb : decide (1 ≤ b ∧ b ≤ 2)
    · go_enter Try.func61, Try.ntmps61
      go_wp2_with fail
      refine (within_any a 4 _).mono ?_
      rw [ha]
      rintro e w' ⟨rfl, rfl⟩
      go_wp2_with fail
      refine (within_any b 2 _).mono ?_
      rw [hb]
      rintro e w' ⟨rfl, rfl⟩
      go_wp2_with fail
      go_ret
      exact ⟨rfl, (Below.refl _ _).alloc (Nat.le_refl _) _⟩
    · cases hc : decide (1 ≤ c ∧ c ≤ 6)
      · go_enter Try.func61, Try.ntmps61
        go_wp2_with fail
        refine (within_any a 4 _).mono ?_
        rw [ha]
        rintro e w' ⟨rfl, rfl⟩
        go_wp2_with fail
        refine (within_any b 2 _).mono ?_
        rw [hb]
        rintro e w' ⟨rfl, rfl⟩
        go_wp2_with fail
        refine (within_any c 6 _).mono ?_
        rw [hc]
        rintro e w' ⟨rfl, rfl⟩
        go_wp2_with fail
        go_ret
        exact ⟨rfl, (Below.refl _ _).alloc (Nat.le_refl _) _⟩
      · go_enter Try.func61, Try.ntmps61
        go_wp2_with fail
        refine (within_any a 4 _).mono ?_
        rw [ha]
        rintro e w' ⟨rfl, rfl⟩
        go_wp2_with fail
        refine (within_any b 2 _).mono ?_
        rw [hb]
        rintro e w' ⟨rfl, rfl⟩
        go_wp2_with fail
        refine (within_any c 6 _).mono ?_
        rw [hc]
        rintro e w' ⟨rfl, rfl⟩
        go_wp2_with fail
        refine (within_any d 8 _).mono ?_
        rintro e w' ⟨rfl, rfl⟩
        go_wp2_with fail
        go_ret
        exact ⟨by simp, (Below.refl _ _).alloc (Nat.le_refl _) _⟩
def newAb (a b c d : Nat) : Ab := ⟨a, b, c, d, fun _ => false, fun _ _ => false, fun _ _ => C4.zero, fun _ => [], 0, none⟩
def newSt (a b c d : Nat) : St := ⟨newAb a b c d, fun _ => .slice none 0 0, aux0⟩
theorem zero92 : Try.zeroCells91 = ((List.range 211).map (hv (newSt 0 0 0 0))).toArray := by kernel_rfl
theorem hv_new (a b c d i : Nat) (hi : 4 ≤ i) : hv (newSt a b c d) i = hv (newSt 0 0 0 0) i := by
  have h4 : ¬ i < 4 := by omega
  unfold hv; simp only [h4, if_false]; rfl
theorem new_row (w : World) (a b c d : Nat) : (w.alloc (Obj.cells ((((Try.zeroCells91.setIfInBounds 0 (Value.int IntKind.i64 a)).setIfInBounds 1 (Value.int IntKind.i64 b)).setIfInBounds 2 (Value.int IntKind.i64 c)).setIfInBounds 3 (Value.int IntKind.i64 d)) 91)).rowIs w.heap.size 91 211 (hv (newSt a b c d)) := by
  have hs : ((((Try.zeroCells91.setIfInBounds 0 (Value.int IntKind.i64 a)).setIfInBounds 1 (Value.int IntKind.i64 b)).setIfInBounds 2 (Value.int IntKind.i64 c)).setIfInBounds 3 (Value.int IntKind.i64 d)).size = 211 := by rw [zero92]; simp
  have h1 := World.rowIs_alloc w ((((Try.zeroCells91.setIfInBounds 0 (Value.int IntKind.i64 a)).setIfInBounds 1 (Value.int IntKind.i64 b)).setIfInBounds 2 (Value.int IntKind.i64 c)).setIfInBounds 3 (Value.int IntKind.i64 d)) 91 (hv (newSt a b c d)) ?_
  · rwa [hs] at h1
  · intro i hi
    rw [hs] at hi
    rw [zero92]
    by_cases h3 : i = 3
    · subst h3; simp [hv, newSt, newAb]
    · by_cases h2 : i = 2
      · subst h2; simp [hv, newSt, newAb]
      · by_cases h1 : i = 1
        · subst h1; simp [hv, newSt, newAb]
        · by_cases h0 : i = 0
          · subst h0; simp [hv, newSt, newAb]
          · rw [Array.getElem?_setIfInBounds_ne (fun e => h3 e.symm), Array.getElem?_setIfInBounds_ne (fun e => h2 e.symm), Array.getElem?_setIfInBounds_ne (fun e => h1 e.symm), Array.getElem?_setIfInBounds_ne (fun e => h0 e.symm), hv_new a b c d i (by omega)]
            simp [hi]
theorem newSt_ok (a b c d : Nat) (h : shapeB a b c d = true) : (newSt a b c d).ok := by
  simp only [shapeB, Bool.and_eq_true, decide_eq_true_eq] at h
  obtain ⟨⟨⟨h1, h2⟩, h3⟩, h4⟩ := h
  refine ⟨?_, ?_, ?_, ?_, ?_, ?_, ?_, ?_, fun _ _ => C4.zero_ok, fun _ => Nat.zero_le _, fun _ x hx => ?_, fun _ _ => rfl⟩
  all_goals first | (simp only [newSt, newAb]; omega) | (simp [newSt, newAb] at hx)
theorem new_at (w : World) (a b c d : Nat) (h : shapeB a b c d = true) : HoardAt (w.alloc (Obj.cells ((((Try.zeroCells91.setIfInBounds 0 (Value.int IntKind.i64 a)).setIfInBounds 1 (Value.int IntKind.i64 b)).setIfInBounds 2 (Value.int IntKind.i64 c)).setIfInBounds 3 (Value.int IntKind.i64 d)) 91)) w.heap.size (newSt a b c d) :=
  ⟨⟨newSt_ok a b c d h, new_row w a b c d, fun _ _ => World.ownsRow_nil _ _ _ _, fun _ _ => by simp [newSt, Value.ownBlock], fun _ _ _ _ _ _ => by simp [newSt, Value.ownBlock]⟩, rfl⟩
set_option maxRecDepth 100000 in
set_option maxHeartbeats 1000000 in
theorem New_ok (a b c d : Nat) (w : World) (h : shapeB a b c d = true) :
    Calls Try.prog 36 #[.agg #[.int .i64 a, .int .i64 b, .int .i64 c, .int .i64 d]] w fun e w' => ∃ hb, e = .returned (.tuple #[.pointer (some ⟨hb, 0, none⟩), .int .i64 0]) ∧ w.heap.size ≤ hb ∧ HoardAt w' hb (newSt a b c d) ∧ Below w.heap.size w w' := by
  go_enter Try.func36, Try.ntmps36
  go_wp2_with fail
  refine (isShape_any a b c d _).mono ?_
  rintro e w1 ⟨rfl, k1⟩
  obtain ⟨hcc, hff⟩ := bcell k1
  have K1 : Below w.heap.size w w1 := ((Below.refl _ _).alloc (Nat.le_refl _) _).trans (k1.mono (by simp))
  clear k1
  go_wp2_with fail
  go_ret2
  exact ⟨w1.heap.size, rfl, K1.size, new_at w1 a b c d h, K1.alloc K1.size _⟩
set_option maxRecDepth 100000 in
set_option maxHeartbeats 1000000 in
theorem New_no (a b c d : Int) (w : World) (h : shapeB a b c d = false) :
    Calls Try.prog 36 #[.agg #[.int .i64 a, .int .i64 b, .int .i64 c, .int .i64 d]] w fun e w' => e = .returned (.tuple #[.pointer none, .int .i64 2]) ∧ Below w.heap.size w w' := by
  go_enter Try.func36, Try.ntmps36
  go_wp2_with fail
  refine (isShape_any a b c d _).mono ?_
  rintro e w1 ⟨rfl, k1⟩
  have K1 : Below w.heap.size w w1 := ((Below.refl _ _).alloc (Nat.le_refl _) _).trans (k1.mono (by simp))
  clear k1
  go_wp2_with fail
  go_ret2
  exact ⟨rfl, K1⟩
set_option maxRecDepth 100000 in
set_option maxHeartbeats 1000000 in
theorem Steps_any (hb : Nat) (s : St) (w : World) (h : HoardAt w hb s) :
    Calls Try.prog 26 #[.pointer (some ⟨hb, 0, none⟩)] w fun e w' => e = .returned (.tuple #[.int .i64 s.steps, .int .i64 0]) ∧ w' = w := by
  have hdn := h.downAt
  have HUP : Hid (s.aux = aux0) := h.up
  replace h := h.toHoardIn
  have hlt0 := h.row.lt
  have h0 := h.stepsAt
  clear h
  go_enter Try.func26, Try.ntmps26
  go_wp2
  go_ret2
  exact ⟨rfl, rfl⟩

theorem isDrive_t (hb : Nat) (s : St) (d : Nat) (w : World) (h : HoardIn w hb s) (hd : d < s.D + s.P) :
    Calls Try.prog 40 #[.pointer (some ⟨hb, 0, none⟩), .int .i64 d] w fun e w' => e = .returned (.bool true) ∧ Below w.heap.size w w' ∧ HoardIn w' hb s := by
  have hid : isDriveB s d = true := by simp only [isDriveB, decide_eq_true_eq]; omega
  have := isDrive_b hb s d w h
  rw [hid] at this; exact this
theorem isParity_t (hb : Nat) (s : St) (d : Nat) (w : World) (h : HoardIn w hb s) (hp : s.D ≤ d) (hd : d < s.D + s.P) :
    Calls Try.prog 60 #[.pointer (some ⟨hb, 0, none⟩), .int .i64 d] w fun e w' => e = .returned (.bool true) ∧ Below w.heap.size w w' ∧ HoardIn w' hb s := by
  have hid : isParityB s d = true := by simp only [isParityB, decide_eq_true_eq]; omega
  have := isParity_b hb s d w h
  rw [hid] at this; exact this
theorem isRow_t (hb : Nat) (s : St) (r : Nat) (w : World) (h : HoardIn w hb s) (hr : r < s.R) :
    Calls Try.prog 44 #[.pointer (some ⟨hb, 0, none⟩), .int .i64 r] w fun e w' => e = .returned (.bool true) ∧ w' = w := by
  have hid : isRowB s r = true := by simp only [isRowB, decide_eq_true_eq]; omega
  have := isRow_any hb s r w h
  rw [hid] at this; exact this
theorem box3_row (w : World) (H : Nat) (hH : w.heap.size = H) (a : Bool) (b c : Int) : (w.alloc (.cells #[.bool a, .int .i64 b, .int .i64 c] 42)).rowIs H 42 3 (fun j => if j = 0 then .bool a else if j = 1 then .int .i64 b else .int .i64 c) := by
  subst hH
  refine World.rowIs_alloc w _ _ _ ?_
  intro i hi
  have hi' : i < 3 := hi
  have : i = 0 ∨ i = 1 ∨ i = 2 := by omega
  rcases this with rfl | rfl | rfl <;> rfl
set_option maxRecDepth 100000 in
set_option maxHeartbeats 1000000 in
theorem Drive_no (hb : Nat) (s : St) (d : Int) (w : World) (h : HoardAt w hb s) (hd : isDriveB s d = false) :
    Calls Try.prog 14 #[.pointer (some ⟨hb, 0, none⟩), .int .i64 d] w fun e w' => e = .returned (.tuple #[.agg #[.bool false, .int .i64 0, .int .i64 0], .int .i64 6]) ∧ Below w.heap.size w w' := by
  have hdn := h.downAt
  have HUP : Hid (s.aux = aux0) := h.up
  replace h := h.toHoardIn
  have hlt0 := h.row.lt
  have HA : Hid (∀ o, HoardIn (w.alloc o) hb s) := fun o => h.below ((Below.refl _ _).alloc (Nat.le_refl _) o)
  clear h
  go_enter Try.func14, Try.ntmps14
  go_wp2_with fail
  refine (isDrive_any hb s d _ (HA.out _)).mono ?_
  rintro e w' ⟨rfl, n, rfl⟩
  go_wp2_with fail
  exact bodyPost_ret (v := .tuple #[.agg #[.bool false, .int .i64 0, .int .i64 0], .int .i64 6]) (by simp [results, Try.results14, go_sem]) rfl ⟨rfl, by repeat (first | exact Below.refl _ _ | refine Below.setCell ?_ (by simp) _ | refine below_drewN ?_ _ | refine Below.drew ?_ | refine Below.alloc ?_ (by simp <;> omega) _)⟩
set_option maxRecDepth 100000 in
set_option maxHeartbeats 1000000 in
theorem Drive_ok (hb : Nat) (s : St) (d : Nat) (w : World) (h : HoardAt w hb s) (hd : d < s.D + s.P) :
    Calls Try.prog 14 #[.pointer (some ⟨hb, 0, none⟩), .int .i64 d] w fun e w' => e = .returned (.tuple #[.agg #[.bool (s.lost d), .int .i64 (ubCount s d 6 : Nat), .int .i64 (s.recs d).length], .int .i64 0]) ∧ Below w.heap.size w w' := by
  have hdn := h.downAt
  have HUP : Hid (s.aux = aux0) := h.up
  replace h := h.toHoardIn
  have hlt0 := h.row.lt
  have hlt := h.row.lt
  have hD := h.ok.D4
  have hP := h.ok.P2
  have hd6 : d < 6 := by omega
  have hdi : (d : Int) < 6 := by omega
  have HH : Hid (HoardIn w hb s) := h
  have HA : Hid (∀ o, HoardIn (w.alloc o) hb s) := fun o => h.below ((Below.refl _ _).alloc (Nat.le_refl _) o)
  obtain ⟨p, cap, hv, _⟩ := (h.logs d hd6).slice
  have HV : Hid (s.lv d = .slice p (s.recs d).length cap) := hv
  have HCU : Hid (∀ W, HoardIn W hb s → Calls Try.prog 42 #[.pointer (some ⟨hb, 4 + d * 32, none⟩)] W fun e w' => e = .returned (.int .i64 (ubCount s d 6 : Nat)) ∧ w' = W) := fun W hW => countUnbuilt_any hb s d W hW hd6
  have hul := ubCount_le s d 6
  clear h hv
  generalize ubCount s d 6 = ubn at *
  generalize (s.recs d).length = len at *
  go_enter Try.func14, Try.ntmps14
  go_wp2_with fail
  refine (isDrive_t hb s d _ (HA.out _) hd).mono ?_
  rintro e w1 ⟨rfl, k1, h1⟩
  have hlg := h1.log d hd6
  rw [HV.out] at hlg
  have hlo := h1.lostAt d hd6
  have hlt1 := h1.row.lt
  have K1 : Below w.heap.size w w1 := ((Below.refl _ _).alloc (Nat.le_refl _) _).trans (k1.mono (by simp))
  have R1 := ((box3_row w _ rfl false 0 0).of_block (k1.block _ (by simp)))
  have r0 := R1.cell (i := 0) (by omega)
  have r1 := R1.cell (i := 1) (by omega)
  have r2 := R1.cell (i := 2) (by omega)
  have f0 := R1.frozen 0
  have f1 := R1.frozen 1
  have f2 := R1.frozen 2
  have hrl := R1.lt
  simp only [if_true] at r0
  rw [if_neg (by omega), if_pos rfl] at r1
  rw [if_neg (by omega), if_neg (by omega)] at r2
  have H1 : Hid (HoardIn w1 hb s) := h1
  clear k1 R1 h1
  generalize hlod : s.lost d = lo at *
  have HLO : Hid (s.lost d = lo) := hlod
  clear hlod
  go_wp2_with fail
  go_region_with ((go_at_call 42; go_must (refine (HCU.out _ (H1.out.of_block (fun _ _ => by rfl))).mono ?_); rintro e W ⟨rfl, rfl⟩))
  all_goals
    go_wp2_with fail
    refine bodyPost_ret (v := .tuple #[.agg #[.bool lo, .int .i64 ubn, .int .i64 len], .int .i64 0]) (by simp [results, Try.results14, go_sem, r0, r1, r2]) rfl ⟨by rw [HLO.out], ?_⟩
    repeat (first | exact K1 | refine Below.setCell ?_ (by simp) _ | refine below_drewN ?_ _ | refine Below.drew ?_)
set_option maxRecDepth 100000 in
set_option maxHeartbeats 1000000 in
theorem Cell_no (hb : Nat) (s : St) (d r : Int) (w : World) (h : HoardAt w hb s) (hd : isDriveB s d = false) :
    Calls Try.prog 16 #[.pointer (some ⟨hb, 0, none⟩), .int .i64 d, .int .i64 r] w fun e w' => e = .returned (.tuple #[C4.zero.val, .int .i64 6]) ∧ Below w.heap.size w w' := by
  have hdn := h.downAt
  have HUP : Hid (s.aux = aux0) := h.up
  replace h := h.toHoardIn
  have hlt0 := h.row.lt
  have HA : Hid (∀ o, HoardIn (w.alloc o) hb s) := fun o => h.below ((Below.refl _ _).alloc (Nat.le_refl _) o)
  clear h
  go_enter Try.func16, Try.ntmps16
  go_wp2_with fail
  refine (isDrive_any hb s d _ (HA.out _)).mono ?_
  rintro e w' ⟨rfl, n, rfl⟩
  go_wp2_with fail
  exact bodyPost_ret (v := .tuple #[C4.zero.val, .int .i64 6]) (by simp [results, Try.results16, go_sem, C4.val, C4.zero]) rfl ⟨rfl, by repeat (first | exact Below.refl _ _ | refine Below.setCell ?_ (by simp) _ | refine below_drewN ?_ _ | refine Below.drew ?_ | refine Below.alloc ?_ (by simp <;> omega) _)⟩
set_option maxRecDepth 100000 in
set_option maxHeartbeats 1000000 in
theorem Cell_arg (hb : Nat) (s : St) (d : Nat) (r : Int) (w : World) (h : HoardAt w hb s) (hd : d < s.D + s.P) (hr : isRowB s r = false) :
    Calls Try.prog 16 #[.pointer (some ⟨hb, 0, none⟩), .int .i64 d, .int .i64 r] w fun e w' => e = .returned (.tuple #[C4.zero.val, .int .i64 1]) ∧ Below w.heap.size w w' := by
  have hdn := h.downAt
  have HUP : Hid (s.aux = aux0) := h.up
  replace h := h.toHoardIn
  have hlt0 := h.row.lt
  have HA : Hid (∀ o, HoardIn (w.alloc o) hb s) := fun o => h.below ((Below.refl _ _).alloc (Nat.le_refl _) o)
  have hid : isDriveB s d = true := by simp only [isDriveB, decide_eq_true_eq]; omega
  clear h
  go_enter Try.func16, Try.ntmps16
  go_wp2_with fail
  refine (isDrive_any hb s d _ (HA.out _)).mono ?_
  rintro e w' ⟨rfl, n, rfl⟩
  go_wp2_with fail
  refine (isRow_any hb s r _ ((HA.out _).drewN _)).mono ?_
  rintro e w' ⟨rfl, rfl⟩
  go_wp2_with fail
  exact bodyPost_ret (v := .tuple #[C4.zero.val, .int .i64 1]) (by simp [results, Try.results16, go_sem, C4.val, C4.zero]) rfl ⟨rfl, by repeat (first | exact Below.refl _ _ | refine Below.setCell ?_ (by simp) _ | refine below_drewN ?_ _ | refine Below.drew ?_ | refine Below.alloc ?_ (by simp <;> omega) _)⟩
set_option maxRecDepth 100000 in
set_option maxHeartbeats 1000000 in
theorem Cell_state (hb : Nat) (s : St) (d r : Nat) (w : World) (h : HoardAt w hb s) (hd : d < s.D + s.P) (hr : r < s.R) (hav : avB s d r = false) :
    Calls Try.prog 16 #[.pointer (some ⟨hb, 0, none⟩), .int .i64 d, .int .i64 r] w fun e w' => e = .returned (.tuple #[C4.zero.val, .int .i64 7]) ∧ Below w.heap.size w w' := by
  have hdn := h.downAt
  have HUP : Hid (s.aux = aux0) := h.up
  replace h := h.toHoardIn
  have hlt0 := h.row.lt
  have HA : Hid (∀ o, HoardIn (w.alloc o) hb s) := fun o => h.below ((Below.refl _ _).alloc (Nat.le_refl _) o)
  have hid : isDriveB s d = true := by simp only [isDriveB, decide_eq_true_eq]; omega
  have hir : isRowB s r = true := by simp only [isRowB, decide_eq_true_eq]; omega
  have hD := h.ok.D4
  have hP := h.ok.P2
  have hR := h.ok.R6
  have hdi : (d : Int) < 6 := by omega
  have hlt := h.row.lt
  have HAV : Hid (∀ W, HoardIn W hb s → Calls Try.prog 45 #[.pointer (some ⟨hb, 4 + d * 32, none⟩), .int .i64 r] W fun e w' => e = .returned (.bool false) ∧ w' = W) := fun W hW => (has_any hb s d r W hW (by omega) (by omega)).mono (fun e w' ⟨h1, h2⟩ => ⟨by rw [h1, hav], h2⟩)
  clear h
  go_enter Try.func16, Try.ntmps16
  go_wp2_with fail
  refine (isDrive_any hb s d _ (HA.out _)).mono ?_
  rintro e w' ⟨rfl, n, rfl⟩
  go_wp2_with fail
  refine (isRow_any hb s r _ ((HA.out _).drewN _)).mono ?_
  rintro e w' ⟨rfl, rfl⟩
  go_wp2_with fail
  refine (HAV.out _ ((HA.out _).drewN _)).mono ?_
  rintro e w' ⟨rfl, rfl⟩
  go_wp2_with fail
  exact bodyPost_ret (v := .tuple #[C4.zero.val, .int .i64 7]) (by simp [results, Try.results16, go_sem, C4.val, C4.zero]) rfl ⟨rfl, by repeat (first | exact Below.refl _ _ | refine Below.setCell ?_ (by simp) _ | refine below_drewN ?_ _ | refine Below.drew ?_ | refine Below.alloc ?_ (by simp <;> omega) _)⟩
set_option maxRecDepth 100000 in
set_option maxHeartbeats 1000000 in
theorem Cell_ok (hb : Nat) (s : St) (d r : Nat) (w : World) (h : HoardAt w hb s) (hd : d < s.D + s.P) (hr : r < s.R) (hav : avB s d r = true) :
    Calls Try.prog 16 #[.pointer (some ⟨hb, 0, none⟩), .int .i64 d, .int .i64 r] w fun e w' => e = .returned (.tuple #[(s.cell d r).val, .int .i64 0]) ∧ Below w.heap.size w w' := by
  have hdn := h.downAt
  have HUP : Hid (s.aux = aux0) := h.up
  replace h := h.toHoardIn
  have hlt0 := h.row.lt
  have HA : Hid (∀ o, HoardIn (w.alloc o) hb s) := fun o => h.below ((Below.refl _ _).alloc (Nat.le_refl _) o)
  have hid : isDriveB s d = true := by simp only [isDriveB, decide_eq_true_eq]; omega
  have hir : isRowB s r = true := by simp only [isRowB, decide_eq_true_eq]; omega
  have hD := h.ok.D4
  have hP := h.ok.P2
  have hR := h.ok.R6
  have hdi : (d : Int) < 6 := by omega
  have hri : (r : Int) < 6 := by omega
  have hlt := h.row.lt
  have HAV : Hid (∀ W, HoardIn W hb s → Calls Try.prog 45 #[.pointer (some ⟨hb, 4 + d * 32, none⟩), .int .i64 r] W fun e w' => e = .returned (.bool true) ∧ w' = W) := fun W hW => (has_any hb s d r W hW (by omega) (by omega)).mono (fun e w' ⟨h1, h2⟩ => ⟨by rw [h1, hav], h2⟩)
  obtain ⟨c0, c1, c2, c3⟩ := h.cell d r (by omega) (by omega)
  clear h hav
  unfold C4.val
  generalize s.cell d r = c at *
  go_enter Try.func16, Try.ntmps16
  go_wp2_with fail
  refine (isDrive_any hb s d _ (HA.out _)).mono ?_
  rintro e w' ⟨rfl, n, rfl⟩
  go_wp2_with fail
  refine (isRow_any hb s r _ ((HA.out _).drewN _)).mono ?_
  rintro e w' ⟨rfl, rfl⟩
  go_wp2_with fail
  refine (HAV.out _ ((HA.out _).drewN _)).mono ?_
  rintro e w' ⟨rfl, rfl⟩
  go_wp2_with fail
  exact bodyPost_ret (v := .tuple #[.agg #[.int .u8 c.b0, .int .u8 c.b1, .int .u8 c.b2, .int .u8 c.b3], .int .i64 0]) (by simp [results, Try.results16, go_sem]) rfl ⟨rfl, by repeat (first | exact Below.refl _ _ | refine Below.setCell ?_ (by simp) _ | refine below_drewN ?_ _ | refine Below.drew ?_ | refine Below.alloc ?_ (by simp <;> omega) _)⟩
set_option maxRecDepth 100000 in
set_option maxHeartbeats 1000000 in
theorem Log_no (hb : Nat) (s : St) (d : Int) (w : World) (h : HoardAt w hb s) (hd : isParityB s d = false) :
    Calls Try.prog 35 #[.pointer (some ⟨hb, 0, none⟩), .int .i64 d] w fun e w' => e = .returned (.tuple #[.slice none 0 0, .int .i64 6]) ∧ Below w.heap.size w w' := by
  have hdn := h.downAt
  have HUP : Hid (s.aux = aux0) := h.up
  replace h := h.toHoardIn
  have hlt0 := h.row.lt
  go_enter Try.func35, Try.ntmps35
  go_wp2_with fail
  refine (isParity_b hb s d _ h).mono ?_
  rintro e w1 ⟨rfl, k1, h1⟩
  go_wp2_with fail
  go_ret2
  exact ⟨rfl, k1⟩
set_option maxRecDepth 100000 in
set_option maxHeartbeats 1000000 in
theorem Log_lost (hb : Nat) (s : St) (d : Nat) (w : World) (h : HoardAt w hb s) (hd : isParityB s d = true) (hls : s.lost d = true) :
    Calls Try.prog 35 #[.pointer (some ⟨hb, 0, none⟩), .int .i64 d] w fun e w' => e = .returned (.tuple #[.slice none 0 0, .int .i64 7]) ∧ Below w.heap.size w w' := by
  have hdn := h.downAt
  have HUP : Hid (s.aux = aux0) := h.up
  replace h := h.toHoardIn
  have hlt0 := h.row.lt
  have hD := h.ok.D4
  have hP := h.ok.P2
  have hd1 := hd
  simp only [isParityB, decide_eq_true_eq] at hd1
  have hd6 : d < 6 := by omega
  have hdi : (d : Int) < 6 := by omega
  go_enter Try.func35, Try.ntmps35
  go_wp2_with fail
  refine (isParity_b hb s d _ h).mono ?_
  rintro e w1 ⟨rfl, k1, h1⟩
  have hlo := h1.lostAt d hd6
  rw [hls] at hlo
  have hlt := h1.row.lt
  clear h1
  go_wp2_with fail
  go_ret2
  exact ⟨rfl, k1⟩
set_option maxRecDepth 100000 in
set_option maxHeartbeats 1000000 in
theorem Log_ok (hb : Nat) (s : St) (d : Nat) (w : World) (h : HoardAt w hb s) (hd : isParityB s d = true) (hls : s.lost d = false) :
    Calls Try.prog 35 #[.pointer (some ⟨hb, 0, none⟩), .int .i64 d] w fun e w' => ∃ v', e = .returned (.tuple #[v', .int .i64 0]) ∧ w'.ownsRow w.heap.size 76 5 v' (s.recs d).length (recCells (s.recs d)) ∧ Below w.heap.size w w' := by
  have hdn := h.downAt
  have HUP : Hid (s.aux = aux0) := h.up
  replace h := h.toHoardIn
  have hlt0 := h.row.lt
  have hd1 := hd
  simp only [isParityB, decide_eq_true_eq] at hd1
  have hD := h.ok.D4
  have hP := h.ok.P2
  have hd6 : d < 6 := by omega
  have HH : Hid (HoardIn w hb s) := h
  clear h
  go_enter Try.func35, Try.ntmps35
  go_wp2_with fail
  refine (isParity_b hb s d _ HH.out).mono ?_
  rintro e w1 ⟨rfl, k1, h1⟩
  have hl := h1.log d hd6
  have hlo := h1.lostAt d hd6
  rw [hls] at hlo
  have hdi : (d : Int) < 6 := by omega
  have hlt := h1.row.lt
  have hlog := (h1.logs d hd6)
  have hlen := h1.ok.len d
  have hM := h1.ok.M8
  have h0 : (w1.alloc (.cells #[] 76)).ownsRow w.heap.size 76 5 (.slice (some ⟨w1.heap.size, 0, none⟩) 0 0) 0 [] := World.ownsRow_made w1 #[] 0 k1.size (by decide) rfl
  have H0 : Hid ((w1.alloc (.cells #[] 76)).ownsRow w.heap.size 76 5 (.slice (some ⟨w1.heap.size, 0, none⟩) 0 0) 0 []) := h0
  have K1 : Below w.heap.size w (w1.alloc (.cells #[] 76)) := k1.alloc k1.size _
  clear h0
  rcases hlog.form with ⟨hv, hr⟩ | ⟨g, cap, hv, hcap, hg, hcells⟩
  · rw [hv] at hl
    have HR : Hid (s.recs d = []) := hr
    clear hlog h1 hr hv
    go_wp2_with fail
    go_ret2
    refine ⟨_, rfl, ?_, K1⟩
    rw [HR.out]
    exact H0.out
  · rw [hv] at hl
    have hone := recCells_one (s.recs d)
    have hcl := recCells_length (s.recs d)
    have HC : Hid (∀ j u, (recCells (s.recs d))[j]? = some u → w1.cell? ((⟨g, 0, none⟩ : Addr).add j) = some u) := hcells
    generalize hn : (s.recs d).length = n at *
    have HN : Hid ((s.recs d).length = n) := hn
    generalize hcs : recCells (s.recs d) = cs at *
    have HCS : Hid (recCells (s.recs d) = cs) := hcs
    clear hlog h1 hv hcells hn hcs
    go_wp2_with (at_builtin; go_must (refine wpl_append appRec (by rfl) _ _ (by rfl) w.heap.size _ 0 [] (by rfl) H0.out ⟨g, 0, none⟩ n cap cs (by rfl) hcl ?_ hone ?_ ?_ ?_ ?_))
    · intro j u hj
      rw [addr_add, World.cell?_alloc_lt _ _ _ (by exact hg), ← addr_add]
      exact HC.out j u hj
    · simp only [maxLen]; omega
    · omega
    · have := k1.size; simp; omega
    · intro v' w2 hown hgr hat
      go_wp2_with fail
      go_ret2
      refine ⟨v', rfl, ?_, ?_⟩
      · rw [HN.out, HCS.out]; simpa using hown
      · exact K1.trans (grown_below hgr (by have := k1.size; simp; omega) (by intro k hk; simp [Value.ownBlock] at hk; have := k1.size; omega))

end Go.Proofs.Ytfpoiikhhjdpdab
