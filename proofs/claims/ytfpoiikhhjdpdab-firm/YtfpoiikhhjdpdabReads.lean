/- The program's calls that only read. -/
import Derived.Test.YtfpoiikhhjdpdabHoard
namespace Go.Proofs.Ytfpoiikhhjdpdab
open Go.RowKit
attribute [local go_sem ↓] Go.wp_at_zero Go.wp_at_succ
def isDriveB (s : Ab) (d : Int) : Bool := decide (0 ≤ d ∧ d < s.D + s.P)
def isParityB (s : Ab) (d : Int) : Bool := decide (s.D ≤ d ∧ d < s.D + s.P)
def isRowB (s : Ab) (r : Int) : Bool := decide (0 ≤ r ∧ r < s.R)
def hasB (s : Ab) (a n : Int) : Bool := decide (0 ≤ a ∧ 0 ≤ n ∧ a ≤ s.D * s.R * 4 ∧ n ≤ s.D * s.R * 4 - a)
set_option maxRecDepth 100000 in
set_option maxHeartbeats 1000000 in
theorem isDrive_any (hb : Nat) (s : St) (d : Int) (w : World) (h : HoardIn w hb s) :
    Calls Try.prog 40 #[.pointer (some ⟨hb, 0, none⟩), .int .i64 d] w fun e w' => e = .returned (.bool (isDriveB s d)) ∧ ∃ n, w' = w.drewN n := by
  obtain ⟨h0, h1, h2, h3⟩ := h.shape
  have hD := h.ok.D4
  have hP := h.ok.P2
  clear h h2 h3
  unfold isDriveB
  by_cases h : 0 ≤ d
  · go_enter Try.func40, Try.ntmps40
    go_wp2
    go_quiet (fail)
    go_wp2
    go_ret
    exact ⟨by simp [h], _, rfl⟩
  · have h' : decide (0 ≤ d) = false := by simpa using h
    go_enter Try.func40, Try.ntmps40
    go_wp2
    go_quiet (fail)
    go_wp2
    go_ret
    exact ⟨by first | rfl | (rw [decide_eq_false (by omega)]; rfl), _, rfl⟩
set_option maxRecDepth 100000 in
set_option maxHeartbeats 1000000 in
theorem isParity_any (hb : Nat) (s : St) (d : Int) (w : World) (h : HoardIn w hb s) :
    Calls Try.prog 60 #[.pointer (some ⟨hb, 0, none⟩), .int .i64 d] w fun e w' => e = .returned (.bool (isParityB s d)) ∧ ∃ n, w' = w.drewN n := by
  obtain ⟨h0, h1, h2, h3⟩ := h.shape
  have hD := h.ok.D4
  have hP := h.ok.P2
  clear h h2 h3
  unfold isParityB
  by_cases h : s.D ≤ d
  · go_enter Try.func60, Try.ntmps60
    go_wp2
    go_quiet (fail)
    go_wp2
    go_ret
    exact ⟨by simp [h], _, rfl⟩
  · have h' : decide ((s.D : Int) ≤ d) = false := by simpa using h
    go_enter Try.func60, Try.ntmps60
    go_wp2
    go_quiet (fail)
    go_wp2
    go_ret
    exact ⟨by first | rfl | (rw [decide_eq_false (by omega)]; rfl), _, rfl⟩
set_option maxRecDepth 100000 in
set_option maxHeartbeats 1000000 in
theorem isRow_any (hb : Nat) (s : St) (d : Int) (w : World) (h : HoardIn w hb s) :
    Calls Try.prog 44 #[.pointer (some ⟨hb, 0, none⟩), .int .i64 d] w fun e w' => e = .returned (.bool (isRowB s d)) ∧ w' = w := by
  obtain ⟨h0, h1, h2, h3⟩ := h.shape
  clear h h1 h3
  unfold isRowB
  by_cases h : 0 ≤ d
  · go_enter Try.func44, Try.ntmps44
    go_wp2
    go_ret
    exact ⟨by simp [h], rfl⟩
  · have h' : decide (0 ≤ d) = false := by simpa using h
    go_enter Try.func44, Try.ntmps44
    go_wp2
    go_ret
    exact ⟨by first | rfl | (rw [decide_eq_false (by omega)]; rfl), rfl⟩
theorem all_le (s : Ab) (h : s.ok) : (s.D : Int) * s.R ≤ 24 := by
  have h1 := h.D4
  have h2 := h.R6
  have : s.D * s.R ≤ 4 * 6 := Nat.mul_le_mul h1 h2
  omega
set_option maxRecDepth 100000 in
set_option maxHeartbeats 1000000 in
theorem hasBytes_any (hb : Nat) (s : St) (a n : Int) (w : World) (h : HoardIn w hb s) (ha : -9223372036854775808 ≤ a ∧ a ≤ 9223372036854775807) :
    Calls Try.prog 47 #[.pointer (some ⟨hb, 0, none⟩), .int .i64 a, .int .i64 n] w fun e w' => e = .returned (.bool (hasB s a n)) ∧ ∃ n, w' = w.drewN n := by
  obtain ⟨h0, h1, h2, h3⟩ := h.shape
  have hD := h.ok.D4
  have hR := h.ok.R6
  have hal := all_le s h.ok
  have hal0 : 0 ≤ (s.D : Int) * s.R := Int.mul_nonneg (by omega) (by omega)
  clear h h1 h3
  obtain ⟨ha1, ha2⟩ := ha
  unfold hasB
  generalize hx : (s.D : Int) * s.R = x at *
  have Hx : Hid _ := hx
  go_enter Try.func47, Try.ntmps47
  go_wp2
  go_quiet (fail)
  by_cases c1 : 0 ≤ a
  · by_cases c2 : 0 ≤ n
    · by_cases c3 : a ≤ x * 4
      · go_wp2
        go_ret
        exact ⟨by simp [c1, c2, c3], _, rfl⟩
      · have c3' : decide (a ≤ x * 4) = false := by simpa using c3
        go_wp2
        go_ret
        exact ⟨by first | rfl | (rw [decide_eq_false (by omega)]; rfl), _, rfl⟩
    · have c2' : decide (0 ≤ n) = false := by simpa using c2
      go_wp2
      go_ret
      exact ⟨by first | rfl | (rw [decide_eq_false (by omega)]; rfl), _, rfl⟩
  · have c1' : decide (0 ≤ a) = false := by simpa using c1
    go_wp2
    go_ret
    exact ⟨by first | rfl | (rw [decide_eq_false (by omega)]; rfl), _, rfl⟩
set_option maxRecDepth 100000 in
set_option maxHeartbeats 1000000 in
theorem place_any (hb : Nat) (s : St) (b : Nat) (w : World) (h : HoardIn w hb s) (hB : b ≤ 1000) :
    Calls Try.prog 49 #[.pointer (some ⟨hb, 0, none⟩), .int .i64 b] w fun e w' => e = .returned (.tuple #[.int .i64 (b % s.D : Nat), .int .i64 (b / s.D : Nat)]) ∧ ∃ n, w' = w.drewN n := by
  obtain ⟨h0, h1, h2, h3⟩ := h.shape
  have hD := h.ok.D4
  have hD1 := h.ok.D1
  clear h h1 h3
  have HQ : Hid (wrap64 ((b : Int) / s.D) = ((b / s.D : Nat) : Int)) := by
    show _ = _
    have h1 : ((b : Int) / s.D) = ((b / s.D : Nat) : Int) := by simp
    have h2 : b / s.D ≤ b := Nat.div_le_self _ _
    rw [h1]
    generalize b / s.D = q at h2
    unfold wrap64; omega
  go_enter Try.func49, Try.ntmps49
  go_wp2
  go_quiet (fail)
  go_wp2
  go_ret2
  exact ⟨by rw [HQ.out]; rfl, _, rfl⟩
def wgt (s : Ab) (d c : Nat) : Nat := if d = s.D then 1 else 2 ^ c
theorem pow_step (k : Nat) (hk : k < 4) : Hd.mul (2 ^ k) 2 = 2 ^ (k + 1) := by
  have : ∀ k, k < 4 → Hd.mul (2 ^ k) 2 = 2 ^ (k + 1) := by decide +kernel
  exact this k hk
set_option maxRecDepth 100000 in
set_option maxHeartbeats 1000000 in
theorem weight_any (hb : Nat) (s : St) (d c : Nat) (w : World) (h : HoardIn w hb s) (hc : c < 4) :
    Calls Try.prog 77 #[.pointer (some ⟨hb, 0, none⟩), .int .i64 d, .int .i64 c] w fun e w' => e = .returned (.int .u8 (wgt s d c : Nat)) ∧ w' = w := by
  obtain ⟨h0, h1, h2, h3⟩ := h.shape
  clear h h1 h2 h3
  unfold wgt
  by_cases hd : d = s.D
  · subst hd
    go_enter Try.func77, Try.ntmps77
    go_wp2
    go_ret
    exact ⟨by simp, rfl⟩
  · have hd' : ((d : Int) == (s.D : Int)) = false := by rw [beq_eq_false_iff_ne]; omega
    rw [if_neg hd]
    clear hd
    go_enter Try.func77, Try.ntmps77
    go_wp2
    go_loop [7, 8] (fun x i => ∃ k : Nat, k ≤ c ∧ i = .int .i64 k ∧ x = .int .u8 (2 ^ k : Nat)) (fun _ i => c - (intOf i).toNat)
    case atStart => exact ⟨0, by omega, rfl, rfl⟩
    case round =>
      obtain ⟨k, hk, rfl, rfl⟩ := hrel
      by_cases hlt : k < c
      · have hpl : 2 ^ k < 256 := Nat.lt_of_le_of_lt (Nat.pow_le_pow_right (by omega) (by omega) : 2 ^ k ≤ 2 ^ 4) (by omega)
        have HP : Hid (Hd.mul (2 ^ k) 2 = 2 ^ (k + 1)) := pow_step k (by omega)
        generalize hg : 2 ^ k = p at *
        have HG : Hid _ := hg
        clear hg
        go_wp2_with fail
        refine (fmul_any p 2 _ hpl (by omega)).mono ?_
        rintro e w' ⟨rfl, rfl⟩
        go_wp2_with fail
        exact ⟨⟨k + 1, by omega, by go_num, by rw [HP.out]⟩, by simp [intOf]; omega⟩
      · have : k = c := by omega
        subst this
        go_wp2
        go_ret
        exact ⟨rfl, rfl⟩
/-- Is the cell available? -/
def avB (s : Ab) (d r : Nat) : Bool := !s.lost d && !s.ub d r
set_option maxRecDepth 100000 in
set_option maxHeartbeats 1000000 in
theorem has_any (hb : Nat) (s : St) (d r : Nat) (w : World) (h : HoardIn w hb s) (hd : d < 6) (hr : r < 6) :
    Calls Try.prog 45 #[.pointer (some ⟨hb, 4 + d * 32, none⟩), .int .i64 r] w fun e w' => e = .returned (.bool (avB s d r)) ∧ w' = w := by
  have h0 := h.lostAt d hd
  have h1 := h.ubAt d r hd hr
  have hri : (r : Int) < 6 := by omega
  clear h hd hr
  unfold avB
  generalize s.lost d = x at *
  generalize s.ub d r = y at *
  go_enter Try.func45, Try.ntmps45
  cases x
  · go_wp2
    go_ret
    exact ⟨by simp, rfl⟩
  · go_wp2
    go_ret
    exact ⟨rfl, rfl⟩
def blkFirst (a : Nat) : Nat := a / 4
def blkEnd (a n : Nat) : Nat := if n = 0 then a / 4 else (a + n - 1) / 4 + 1
set_option maxRecDepth 100000 in
set_option maxHeartbeats 1000000 in
theorem blocks_any (a n : Nat) (w : World) (ha : a ≤ 1000) (hn : n ≤ 1000) :
    Calls Try.prog 51 #[.int .i64 a, .int .i64 n] w fun e w' => e = .returned (.tuple #[.int .i64 (a / 4 : Nat), .int .i64 (blkEnd a n : Nat)]) ∧ w' = w := by
  unfold blkEnd
  by_cases h : n = 0
  · subst h
    go_enter Try.func51, Try.ntmps51
    go_wp2
    go_ret2
    exact ⟨by first | rfl | (simp; done) | (simp; have := HQ.out; omega), rfl⟩
  · have hne : ((n : Int) == 0) = false := by rw [beq_eq_false_iff_ne]; omega
    rw [if_neg h]
    have HQ : Hid (((a : Int) + n - 1) / 4 = (((a + n - 1) / 4 : Nat) : Int)) := (show _ = _ by omega)
    have hp : (0 : Int) ≤ (a : Int) + n - 1 := by omega
    clear h
    go_enter Try.func51, Try.ntmps51
    go_wp2
    go_ret2
    exact ⟨by first | rfl | (simp; done) | (simp; have := HQ.out; omega), rfl⟩
/-- How many of the first n rows are not built. -/
def ubCount (s : Ab) (d : Nat) : Nat → Nat
  | 0 => 0
  | n + 1 => ubCount s d n + if s.ub d n then 1 else 0
theorem ubCount_le (s : Ab) (d n : Nat) : ubCount s d n ≤ n := by
  induction n with
  | zero => exact Nat.le_refl _
  | succ n ih => unfold ubCount; split <;> omega
set_option maxRecDepth 100000 in
set_option maxHeartbeats 1000000 in
theorem countUnbuilt_any (hb : Nat) (s : St) (d : Nat) (w : World) (h : HoardIn w hb s) (hd : d < 6) :
    Calls Try.prog 42 #[.pointer (some ⟨hb, 4 + d * 32, none⟩)] w fun e w' => e = .returned (.int .i64 (ubCount s d 6 : Nat)) ∧ w' = w := by
  have HU : Hid (∀ r, r < 6 → w.cell? ⟨hb, 4 + d * 32 + 1 + r, none⟩ = some (.bool (s.ub d r))) := fun r hr => h.ubAt d r hd hr
  clear h
  go_enter Try.func42, Try.ntmps42
  go_wp2
  go_loop [3, 4] (fun n i => ∃ k : Nat, k ≤ 6 ∧ i = .int .i64 k ∧ n = .int .i64 (ubCount s d k : Nat)) (fun _ i => 6 - (intOf i).toNat)
  case atStart => exact ⟨0, by omega, rfl, rfl⟩
  case round =>
    obtain ⟨k, hk, rfl, rfl⟩ := hrel
    have hle := ubCount_le s d k
    by_cases hlt : k < 6
    · have hu := HU.out k hlt
      have hki : (k : Int) < 6 := by omega
      have HS : Hid (ubCount s d (k + 1) = ubCount s d k + if s.ub d k then 1 else 0) := rfl
      generalize ubCount s d k = x at *
      generalize s.ub d k = y at *
      cases y
      · go_wp2
        exact ⟨⟨k + 1, by omega, by go_num, by rw [HS.out]; simp⟩, by simp [intOf]; omega⟩
      · go_wp2
        exact ⟨⟨k + 1, by omega, by go_num, by rw [HS.out]; simp⟩, by simp [intOf]; omega⟩
    · have : k = 6 := by omega
      subst this
      go_wp2
      go_ret
      exact ⟨rfl, rfl⟩
end Go.Proofs.Ytfpoiikhhjdpdab
