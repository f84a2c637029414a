/- hoardkeep: pick, shape, sameBytes; rows of one's own as a family. -/
import Derived.Test.YtfpoiikhhjdpdabWrite
namespace Go.Proofs.Ytfpoiikhhjdpdab
open Go.RowKit
set_option linter.unusedVariables false
attribute [local go_sem ↓] Go.wp_at_zero Go.wp_at_succ
def pickN (c : Int) (n : Nat) : Nat := ((if c < 0 then -(c + 1) else c) % n).toNat
theorem pickN_lt (c : Int) (n : Nat) (h : 0 < n) : pickN c n < n := by
  unfold pickN
  have h1 : (if c < 0 then -(c + 1) else c) % (n : Int) < n := Int.emod_lt_of_pos _ (by omega)
  have h2 : 0 ≤ (if c < 0 then -(c + 1) else c) % (n : Int) := Int.emod_nonneg _ (by omega)
  omega
theorem pickN_cast (c : Int) (n : Nat) (h : 0 < n) : ((pickN c n : Nat) : Int) = (if c < 0 then -(c + 1) else c) % n := by
  unfold pickN
  have h2 : 0 ≤ (if c < 0 then -(c + 1) else c) % (n : Int) := Int.emod_nonneg _ (by omega)
  omega
set_option maxRecDepth 100000 in
set_option maxHeartbeats 1000000 in
theorem kpick_any (c : Int) (n : Nat) (w : World) (h0 : 0 < n) (hn : n ≤ 1000) (hc : -9223372036854775808 ≤ c ∧ c ≤ 9223372036854775807) :
    Calls Try.prog 11 #[.int .i64 c, .int .i64 n] w fun e w' => e = .returned (.int .i64 (pickN c n : Nat)) ∧ w' = w := by
  have hp := pickN_cast c n h0
  obtain ⟨hc1, hc2⟩ := hc
  have HP : Hid (((pickN c n : Nat) : Int) = (if c < 0 then -(c + 1) else c) % n) := hp
  clear hp
  by_cases h : c < 0
  · go_enter Try.func11, Try.ntmps11
    go_wp2
    go_ret
    refine ⟨?_, rfl⟩
    rw [HP.out, if_pos h, ← Int.tmod_eq_emod_of_nonneg (show 0 ≤ -(c + 1) by omega), Int.neg_tmod]
    rfl
  · go_enter Try.func11, Try.ntmps11
    go_wp2
    go_ret
    refine ⟨?_, rfl⟩
    rw [HP.out, if_neg (by omega)]
    rfl
set_option maxRecDepth 100000 in
set_option maxHeartbeats 1000000 in
theorem kshape_any (a b c d : Int) (w : World) (ha : -9223372036854775808 ≤ a ∧ a ≤ 9223372036854775807) (hb : -9223372036854775808 ≤ b ∧ b ≤ 9223372036854775807) (hc : -9223372036854775808 ≤ c ∧ c ≤ 9223372036854775807) (hd : -9223372036854775808 ≤ d ∧ d ≤ 9223372036854775807) :
    Calls Try.prog 9 #[.int .i64 a, .int .i64 b, .int .i64 c, .int .i64 d] w fun e w' => e = .returned (.agg #[.int .i64 (1 + pickN a 4 : Nat), .int .i64 (1 + pickN b 2 : Nat), .int .i64 (1 + pickN c 6 : Nat), .int .i64 (1 + pickN d 8 : Nat)]) ∧ Below w.heap.size w w' := by
  have p1 := pickN_lt a 4 (by omega)
  have p2 := pickN_lt b 2 (by omega)
  have p3 := pickN_lt c 6 (by omega)
  have p4 := pickN_lt d 8 (by omega)
  have A : Hid (∀ W, Calls Try.prog 11 #[.int .i64 a, .int .i64 4] W fun e w' => e = .returned (.int .i64 (pickN a 4 : Nat)) ∧ w' = W) := fun W => kpick_any a 4 W (by omega) (by omega) ha
  have B : Hid (∀ W, Calls Try.prog 11 #[.int .i64 b, .int .i64 2] W fun e w' => e = .returned (.int .i64 (pickN b 2 : Nat)) ∧ w' = W) := fun W => kpick_any b 2 W (by omega) (by omega) hb
  have C : Hid (∀ W, Calls Try.prog 11 #[.int .i64 c, .int .i64 6] W fun e w' => e = .returned (.int .i64 (pickN c 6 : Nat)) ∧ w' = W) := fun W => kpick_any c 6 W (by omega) (by omega) hc
  have D : Hid (∀ W, Calls Try.prog 11 #[.int .i64 d, .int .i64 8] W fun e w' => e = .returned (.int .i64 (pickN d 8 : Nat)) ∧ w' = W) := fun W => kpick_any d 8 W (by omega) (by omega) hd
  generalize pickN a 4 = x at *
  generalize pickN b 2 = y at *
  generalize pickN c 6 = z at *
  generalize pickN d 8 = t at *
  clear ha hb hc hd
  go_enter Try.func9, Try.ntmps9
  go_wp2_with fail
  refine (A.out _).mono ?_
  rintro e w1 ⟨rfl, rfl⟩
  go_wp2_with fail
  refine (B.out _).mono ?_
  rintro e w1 ⟨rfl, rfl⟩
  go_wp2_with fail
  refine (C.out _).mono ?_
  rintro e w1 ⟨rfl, rfl⟩
  go_wp2_with fail
  refine (D.out _).mono ?_
  rintro e w1 ⟨rfl, rfl⟩
  go_wp2_with fail
  exact bodyPost_ret (v := .agg #[.int .i64 (1 + x : Nat), .int .i64 (1 + y : Nat), .int .i64 (1 + z : Nat), .int .i64 (1 + t : Nat)]) (by simp [results, Try.results9, go_sem]) rfl ⟨rfl, by repeat (first | exact Below.refl _ _ | refine Below.setCell ?_ (by simp) _ | refine Below.drew ?_ | refine Below.alloc ?_ (by simp <;> omega) _)⟩
set_option maxRecDepth 100000 in
set_option maxHeartbeats 1000000 in
theorem ksame_eq (a b : Option Addr) (n ca cb : Nat) (f : Nat → Nat) (w : World) (hn : n ≤ 1000) (ha : BytesAt w a n f) (hb : BytesAt w b n f) :
    Calls Try.prog 23 #[.slice a n ca, .slice b n cb] w fun e w' => e = .returned (.bool true) ∧ ∃ q, w' = w.drewN q := by
  have HA : Hid (BytesAt w a n f) := ha
  have HB : Hid (BytesAt w b n f) := hb
  clear ha hb
  go_enter Try.func23, Try.ntmps23
  go_wp2
  go_loopw [5] (fun i wr => ∃ k q : Nat, k ≤ n ∧ i = .int .i64 k ∧ wr = w.drewN q) (fun i _ => n - (intOf i).toNat)
  case atStart => exact ⟨0, 0, by omega, rfl, rfl⟩
  case round =>
    obtain ⟨k, q, hk, rfl, rfl⟩ := hrel
    by_cases hlt : k < n
    · obtain ⟨ab, ao, rfl, hca, _⟩ := HA.out k hlt
      obtain ⟨bb, bo, rfl, hcb, _⟩ := HB.out k hlt
      have hki : (k : Int) < (n : Int) := by omega
      go_wp2
      go_quiet (fail)
      go_wp2
      exact ⟨⟨k + 1, _, by omega, by go_num, rfl⟩, by simp [intOf]; omega⟩
    · go_wp2
      go_ret
      exact ⟨rfl, _, rfl⟩
end Go.Proofs.Ytfpoiikhhjdpdab
