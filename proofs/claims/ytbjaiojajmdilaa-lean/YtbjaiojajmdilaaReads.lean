/- The program's calls that only read. -/
import Derived.Test.YtbjaiojajmdilaaHoard
namespace Go.Proofs.Ytbjaiojajmdilaa
open Go.RowKit
attribute [local go_sem ↓] Go.wp_at_zero Go.wp_at_succ
def isDriveB (s : St) (d : Int) : Bool := decide (0 ≤ d ∧ d < s.D + s.P)
def isParityB (s : St) (d : Int) : Bool := decide (s.D ≤ d ∧ d < s.D + s.P)
def isRowB (s : St) (r : Int) : Bool := decide (0 ≤ r ∧ r < s.R)
def hasB (s : St) (a n : Int) : Bool := decide (0 ≤ a ∧ 0 ≤ n ∧ a ≤ s.D * s.R * 4 ∧ n ≤ s.D * s.R * 4 - a)
set_option maxRecDepth 100000 in
set_option maxHeartbeats 1000000 in
theorem isDrive_any (hb : Nat) (s : St) (d : Int) (w : World) (h : HoardAt w hb s) :
    Calls Try.prog 36 #[.pointer (some ⟨hb, 0, none⟩), .int .i64 d] w fun e w' => e = .returned (.bool (isDriveB s d)) ∧ ∃ n, w' = w.drewN n := by
  obtain ⟨h0, h1, h2, h3⟩ := h.shape
  have hD := h.ok.D4
  have hP := h.ok.P2
  clear h h2 h3
  unfold isDriveB
  by_cases h : 0 ≤ d
  · go_enter Try.func36, Try.ntmps36
    go_wp2
    go_quiet (fail)
    go_wp2
    go_ret
    exact ⟨by simp [h], _, rfl⟩
  · have h' : decide (0 ≤ d) = false := by simpa using h
    go_enter Try.func36, Try.ntmps36
    go_wp2
    go_quiet (fail)
    go_wp2
    go_ret
    exact ⟨by first | rfl | (rw [decide_eq_false (by omega)]; rfl), _, rfl⟩
set_option maxRecDepth 100000 in
set_option maxHeartbeats 1000000 in
theorem isParity_any (hb : Nat) (s : St) (d : Int) (w : World) (h : HoardAt w hb s) :
    Calls Try.prog 37 #[.pointer (some ⟨hb, 0, none⟩), .int .i64 d] w fun e w' => e = .returned (.bool (isParityB s d)) ∧ ∃ n, w' = w.drewN n := by
  obtain ⟨h0, h1, h2, h3⟩ := h.shape
  have hD := h.ok.D4
  have hP := h.ok.P2
  clear h h2 h3
  unfold isParityB
  by_cases h : s.D ≤ d
  · go_enter Try.func37, Try.ntmps37
    go_wp2
    go_quiet (fail)
    go_wp2
    go_ret
    exact ⟨by simp [h], _, rfl⟩
  · have h' : decide ((s.D : Int) ≤ d) = false := by simpa using h
    go_enter Try.func37, Try.ntmps37
    go_wp2
    go_quiet (fail)
    go_wp2
    go_ret
    exact ⟨by first | rfl | (rw [decide_eq_false (by omega)]; rfl), _, rfl⟩
set_option maxRecDepth 100000 in
set_option maxHeartbeats 1000000 in
theorem isRow_any (hb : Nat) (s : St) (d : Int) (w : World) (h : HoardAt w hb s) :
    Calls Try.prog 62 #[.pointer (some ⟨hb, 0, none⟩), .int .i64 d] w fun e w' => e = .returned (.bool (isRowB s d)) ∧ w' = w := by
  obtain ⟨h0, h1, h2, h3⟩ := h.shape
  clear h h1 h3
  unfold isRowB
  by_cases h : 0 ≤ d
  · go_enter Try.func62, Try.ntmps62
    go_wp2
    go_ret
    exact ⟨by simp [h], rfl⟩
  · have h' : decide (0 ≤ d) = false := by simpa using h
    go_enter Try.func62, Try.ntmps62
    go_wp2
    go_ret
    exact ⟨by first | rfl | (rw [decide_eq_false (by omega)]; rfl), rfl⟩
theorem all_le (s : St) (h : s.ok) : (s.D : Int) * s.R ≤ 24 := by
  have h1 := h.D4
  have h2 := h.R6
  have : s.D * s.R ≤ 4 * 6 := Nat.mul_le_mul h1 h2
  omega
set_option maxRecDepth 100000 in
set_option maxHeartbeats 1000000 in
theorem hasBytes_any (hb : Nat) (s : St) (a n : Int) (w : World) (h : HoardAt w hb s) (ha : -9223372036854775808 ≤ a ∧ a ≤ 9223372036854775807) :
    Calls Try.prog 54 #[.pointer (some ⟨hb, 0, none⟩), .int .i64 a, .int .i64 n] w fun e w' => e = .returned (.bool (hasB s a n)) ∧ ∃ n, w' = w.drewN n := by
  obtain ⟨h0, h1, h2, h3⟩ := h.shape
  have hD := h.ok.D4
  have hR := h.ok.R6
  have hal := all_le s h.ok
  have hal0 : 0 ≤ (s.D : Int) * s.R := Int.mul_nonneg (by omega) (by omega)
  clear h h1 h3
  obtain ⟨ha1, ha2⟩ := ha
  unfold hasB
  generalize hx : (s.D : Int) * s.R = x at *
  have Hx : Hid _ := hx
  go_enter Try.func54, Try.ntmps54
  go_wp2
  go_quiet (fail)
  by_cases c1 : 0 ≤ a
  · by_cases c2 : 0 ≤ n
    · by_cases c3 : a ≤ x * 4
      · go_wp2
        go_ret
        exact ⟨by simp [c1, c2, c3], _, rfl⟩
      · have c3' : decide (a ≤ x * 4) = false := by simpa using c3
        go_wp2
        go_ret
        exact ⟨by first | rfl | (rw [decide_eq_false (by omega)]; rfl), _, rfl⟩
    · have c2' : decide (0 ≤ n) = false := by simpa using c2
      go_wp2
      go_ret
      exact ⟨by first | rfl | (rw [decide_eq_false (by omega)]; rfl), _, rfl⟩
  · have c1' : decide (0 ≤ a) = false := by simpa using c1
    go_wp2
    go_ret
    exact ⟨by first | rfl | (rw [decide_eq_false (by omega)]; rfl), _, rfl⟩
set_option maxRecDepth 100000 in
set_option maxHeartbeats 1000000 in
theorem place_any (hb : Nat) (s : St) (b : Nat) (w : World) (h : HoardAt w hb s) (hB : b ≤ 1000) :
    Calls Try.prog 56 #[.pointer (some ⟨hb, 0, none⟩), .int .i64 b] w fun e w' => e = .returned (.tuple #[.int .i64 (b % s.D : Nat), .int .i64 (b / s.D : Nat)]) ∧ ∃ n, w' = w.drewN n := by
  obtain ⟨h0, h1, h2, h3⟩ := h.shape
  have hD := h.ok.D4
  have hD1 := h.ok.D1
  clear h h1 h3
  have HQ : Hid (wrap64 ((b : Int) / s.D) = ((b / s.D : Nat) : Int)) := by
    show _ = _
    have h1 : ((b : Int) / s.D) = ((b / s.D : Nat) : Int) := by simp
    have h2 : b / s.D ≤ b := Nat.div_le_self _ _
    rw [h1]
    generalize b / s.D = q at h2
    unfold wrap64; omega
  go_enter Try.func56, Try.ntmps56
  go_wp2
  go_quiet (fail)
  go_wp2
  go_ret2
  exact ⟨by rw [HQ.out]; rfl, _, rfl⟩
set_option maxRecDepth 100000 in
set_option maxHeartbeats 1000000 in
theorem Steps_any (hb : Nat) (s : St) (w : World) (h : HoardAt w hb s) :
    Calls Try.prog 20 #[.pointer (some ⟨hb, 0, none⟩)] w fun e w' => e = .returned (.tuple #[.int .i64 s.steps, .int .i64 0]) ∧ w' = w := by
  have h0 := h.stepsAt
  clear h
  go_enter Try.func20, Try.ntmps20
  go_wp2
  go_ret2
  exact ⟨rfl, rfl⟩
def wgt (s : St) (d c : Nat) : Nat := if d = s.D then 1 else 2 ^ c
theorem pow_step (k : Nat) (hk : k < 4) : Hd.mul (2 ^ k) 2 = 2 ^ (k + 1) := by
  have : ∀ k, k < 4 → Hd.mul (2 ^ k) 2 = 2 ^ (k + 1) := by decide +kernel
  exact this k hk
set_option maxRecDepth 100000 in
set_option maxHeartbeats 1000000 in
theorem weight_any (hb : Nat) (s : St) (d c : Nat) (w : World) (h : HoardAt w hb s) (hc : c < 4) :
    Calls Try.prog 109 #[.pointer (some ⟨hb, 0, none⟩), .int .i64 d, .int .i64 c] w fun e w' => e = .returned (.int .u8 (wgt s d c : Nat)) ∧ w' = w := by
  obtain ⟨h0, h1, h2, h3⟩ := h.shape
  clear h h1 h2 h3
  unfold wgt
  by_cases hd : d = s.D
  · subst hd
    go_enter Try.func109, Try.ntmps109
    go_wp2
    go_ret
    exact ⟨by simp, rfl⟩
  · have hd' : ((d : Int) == (s.D : Int)) = false := by rw [beq_eq_false_iff_ne]; omega
    rw [if_neg hd]
    clear hd
    go_enter Try.func109, Try.ntmps109
    go_wp2
    go_loop [7, 8] (fun x i => ∃ k : Nat, k ≤ c ∧ i = .int .i64 k ∧ x = .int .u8 (2 ^ k : Nat)) (fun _ i => c - (intOf i).toNat)
    case atStart => exact ⟨0, by omega, rfl, rfl⟩
    case round =>
      obtain ⟨k, hk, rfl, rfl⟩ := hrel
      by_cases hlt : k < c
      · have hpl : 2 ^ k < 256 := Nat.lt_of_le_of_lt (Nat.pow_le_pow_right (by omega) (by omega) : 2 ^ k ≤ 2 ^ 4) (by omega)
        have HP : Hid (Hd.mul (2 ^ k) 2 = 2 ^ (k + 1)) := pow_step k (by omega)
        generalize hg : 2 ^ k = p at *
        have HG : Hid _ := hg
        clear hg
        go_wp2_with fail
        refine (fmul_any p 2 _ hpl (by omega)).mono ?_
        rintro e w' ⟨rfl, rfl⟩
        go_wp2_with fail
        exact ⟨⟨k + 1, by omega, by go_num, by rw [HP.out]⟩, by simp [intOf]; omega⟩
      · have : k = c := by omega
        subst this
        go_wp2
        go_ret
        exact ⟨rfl, rfl⟩
set_option maxRecDepth 100000 in
set_option maxHeartbeats 1000000 in
theorem Cell_any (hb : Nat) (s : St) (d r : Int) (w : World) (h : HoardAt w hb s) :
    Calls Try.prog 43 #[.pointer (some ⟨hb, 0, none⟩), .int .i64 d, .int .i64 r] w fun e w' =>
      e = .returned (.tuple (if isDriveB s d then (if isRowB s r then #[(s.cell d.toNat r.toNat).val, .int .i64 0] else #[C4.zero.val, .int .i64 1]) else #[C4.zero.val, .int .i64 6])) ∧ Below w.heap.size w w' := by
  have HH : Hid (HoardAt w hb s) := h
  have hlt := h.row.lt
  have hal : ∀ o, HoardAt (w.alloc o) hb s := fun o => h.below ((Below.refl _ _).alloc (Nat.le_refl _) o)
  have HA : Hid _ := hal
  have hD := h.ok.D4
  have hP := h.ok.P2
  have hR := h.ok.R6
  cases hd : isDriveB s d
  · clear h hal
    go_enter Try.func43, Try.ntmps43
    go_wp2_with fail
    refine (isDrive_any hb s d _ (HA.out _)).mono ?_
    rintro e w' ⟨rfl, n, rfl⟩
    go_wp2_with fail
    exact bodyPost_ret (v := .tuple #[C4.zero.val, .int .i64 6]) (by simp [results, Try.results43, go_sem, C4.val, C4.zero]) rfl ⟨rfl, by repeat (first | exact Below.refl _ _ | refine Below.setCell ?_ (by simp) _ | refine below_drewN ?_ _ | refine Below.drew ?_ | refine Below.alloc ?_ (by simp <;> omega) _)⟩
  · cases hr : isRowB s r
    · clear h hal
      go_enter Try.func43, Try.ntmps43
      go_wp2_with fail
      refine (isDrive_any hb s d _ (HA.out _)).mono ?_
      rintro e w' ⟨rfl, n, rfl⟩
      go_wp2_with fail
      refine (isRow_any hb s r _ ((HA.out _).drewN _)).mono ?_
      rintro e w' ⟨rfl, rfl⟩
      go_wp2_with fail
      exact bodyPost_ret (v := .tuple #[C4.zero.val, .int .i64 1]) (by simp [results, Try.results43, go_sem, C4.val, C4.zero]) rfl ⟨rfl, by repeat (first | exact Below.refl _ _ | refine Below.setCell ?_ (by simp) _ | refine below_drewN ?_ _ | refine Below.drew ?_ | refine Below.alloc ?_ (by simp <;> omega) _)⟩
    · have hd1 := hd
      have hr1 := hr
      simp only [isDriveB, isRowB, decide_eq_true_eq] at hd1 hr1
      obtain ⟨d, rfl⟩ := Int.eq_ofNat_of_zero_le hd1.1
      obtain ⟨r, rfl⟩ := Int.eq_ofNat_of_zero_le hr1.1
      have hd6 : d < 6 := by omega
      have hr6 : r < 6 := by omega
      obtain ⟨c0, c1, c2, c3⟩ := h.cell d r hd6 hr6
      simp only [Int.toNat_natCast, if_true]
      clear h hal hd1 hr1
      unfold C4.val
      generalize s.cell d r = c at *
      go_enter Try.func43, Try.ntmps43
      go_wp2_with fail
      refine (isDrive_any hb s d _ (HA.out _)).mono ?_
      rintro e w' ⟨rfl, n, rfl⟩
      go_wp2_with fail
      refine (isRow_any hb s r _ ((HA.out _).drewN _)).mono ?_
      rintro e w' ⟨rfl, rfl⟩
      go_wp2_with fail
      refine bodyPost_ret (v := .tuple #[.agg #[.int .u8 c.b0, .int .u8 c.b1, .int .u8 c.b2, .int .u8 c.b3], .int .i64 0]) (by simp [results, Try.results43, go_sem]) rfl ⟨rfl, by repeat (first | exact Below.refl _ _ | refine Below.setCell ?_ (by simp) _ | refine below_drewN ?_ _ | refine Below.drew ?_ | refine Below.alloc ?_ (by simp <;> omega) _)⟩
end Go.Proofs.Ytbjaiojajmdilaa
