/- hoardkeep: a move. -/
import Derived.Test.YtfpoiikhhjdpdabKDrive2
import Derived.Test.YtfpoiikhhjdpdabRows
import Derived.ProofKit
import Derived.OpenShut
namespace Go.Proofs.Ytfpoiikhhjdpdab
open Go.RowKit
set_option linter.unusedVariables false
attribute [local go_sem ↓] Go.wp_at_zero Go.wp_at_succ
set_option maxRecDepth 100000 in
set_option maxHeartbeats 2000000 in
theorem move_write {w0 : World} (kb bb hb : Nat) (s : St) (f : Nat → Nat) (V : Nat → Value) (lo : Nat → Bool) (bu : Nat → Nat → Bool) (a b : Int) (S : ByteArray) (w : World) (h : KeepAt w0 w kb bb hb s f V lo bu) (hi : KInv s f lo bu) (ha : -9223372036854775808 ≤ a ∧ a ≤ 9223372036854775807) (hbb : -9223372036854775808 ≤ b ∧ b ≤ 9223372036854775807) (hS : S.size ≤ maxLen) (hst : s.steps ≤ 2305843009213693952 ∧ s.brk = none) :
    Calls Try.prog 10 #[.pointer (some ⟨kb, 0, none⟩), .agg #[.int .i64 1, .int .i64 a, .int .i64 b, .string S]] w fun e w' => e = .returned (.bool true) ∧ Moved w0 w w' kb bb hb s f V := by
  have HK : Hid (KeepAt w0 w kb bb hb s f V lo bu) := h
  have HI : Hid (KInv s f lo bu) := hi
  have hlt := h.row.lt
  have HA : Hid (∀ o, KeepAt w0 (w.alloc o) kb bb hb s f V lo bu) := fun o => h.of_below ((Below.refl _ _).alloc (Nat.le_refl _) o)
  have hD := h.hoard.ok.D4
  have hP := h.hoard.ok.P2
  have hR := h.hoard.ok.R6
  obtain ⟨hs96, hs4⟩ := h.size
  clear h hi
  go_enter Try.func10, Try.ntmps10
  go_wp2_with fail
  refine (kwrite_any kb bb hb s f V lo bu a S _ (HA.out _) ha hS hst HI.out.good _ _ _ rfl rfl rfl).mono ?_
  rintro e w1 ⟨rfl, s1, hab, hK1, _⟩
  have p1 := pickN_lt a (s.D * s.R * 4 + 1) (by omega)
  generalize hx : pickN a (s.D * s.R * 4 + 1) = x at *
  generalize hd : S.extract 0 (cutN (s.D * s.R * 4) x S.size) = d at *
  have hdn : x + d.size ≤ s.D * s.R * 4 := by
    have : d.size ≤ s.D * s.R * 4 - x := by rw [← hd, ByteArray.size_extract]; unfold cutN; omega
    omega
  have hI1 : KInv s1 (layN f x d.size (byteOfS d)) lo (buL s.D bu (chL f x d.size (byteOfS d) ((x + d.size + 3) / 4 - x / 4))) := by
    rw [hab]; exact HI.out.write x d.size (byteOfS d) (fun i _ => byteOfS_lt d i) hdn
  have hbi := blocks_inv s.toAb x d.size (byteOfS d) (blkEnd x d.size - x / 4)
  have hbi1 : SameAb s s1 := by rw [hab]; exact hbi.1
  have hst1 : s1.steps ≤ s.steps + 200 := by
    show s1.toAb.steps ≤ _
    rw [hab]
    have h2 : (blkEnd x d.size - x / 4) * (3 + s.P) ≤ 24 * 5 := Nat.mul_le_mul (by unfold blkEnd; split <;> omega) (by omega)
    have h3 := hbi.2
    show (abWrite s.toAb x d.size (byteOfS d)).steps ≤ _
    unfold abWrite
    have h4 : s.toAb.P = s.P := rfl
    omega
  have HF : Hid (Moved w0 w w1 kb bb hb s f V) := ⟨s1, _, lo, _, hI1, hst1, hbi1, hK1⟩
  clear hI1 hbi hbi1 hst1 hK1 hab
  go_wp2_with fail
  go_ret
  exact ⟨rfl, HF.out⟩
set_option maxRecDepth 100000 in
set_option maxHeartbeats 2000000 in
theorem move_merge {w0 : World} (kb bb hb : Nat) (s : St) (f : Nat → Nat) (V : Nat → Value) (lo : Nat → Bool) (bu : Nat → Nat → Bool) (a b : Int) (S : ByteArray) (w : World) (h : KeepAt w0 w kb bb hb s f V lo bu) (hi : KInv s f lo bu) (ha : -9223372036854775808 ≤ a ∧ a ≤ 9223372036854775807) (hbb : -9223372036854775808 ≤ b ∧ b ≤ 9223372036854775807) (hS : S.size ≤ maxLen) (hst : s.steps ≤ 2305843009213693952 ∧ s.brk = none) :
    Calls Try.prog 10 #[.pointer (some ⟨kb, 0, none⟩), .agg #[.int .i64 2, .int .i64 a, .int .i64 b, .string S]] w fun e w' => e = .returned (.bool true) ∧ Moved w0 w w' kb bb hb s f V := by
  have HK : Hid (KeepAt w0 w kb bb hb s f V lo bu) := h
  have HI : Hid (KInv s f lo bu) := hi
  have hlt := h.row.lt
  have HA : Hid (∀ o, KeepAt w0 (w.alloc o) kb bb hb s f V lo bu) := fun o => h.of_below ((Below.refl _ _).alloc (Nat.le_refl _) o)
  clear h hi
  go_enter Try.func10, Try.ntmps10
  go_wp2_with fail
  refine (kmerge_any kb bb hb s f V lo bu a b _ (HA.out _) HI.out ha hbb).mono ?_
  rintro e w1 ⟨rfl, s1, hI1, hs1, hsh, hK1, _⟩
  have HF : Hid (Moved w0 w w1 kb bb hb s f V) := ⟨s1, f, lo, bu, hI1, by omega, hsh, hK1⟩
  clear hI1 hs1 hsh hK1
  go_wp2_with fail
  go_ret
  exact ⟨rfl, HF.out⟩
set_option maxRecDepth 100000 in
set_option maxHeartbeats 2000000 in
theorem move_fail {w0 : World} (kb bb hb : Nat) (s : St) (f : Nat → Nat) (V : Nat → Value) (lo : Nat → Bool) (bu : Nat → Nat → Bool) (a b : Int) (S : ByteArray) (w : World) (h : KeepAt w0 w kb bb hb s f V lo bu) (hi : KInv s f lo bu) (ha : -9223372036854775808 ≤ a ∧ a ≤ 9223372036854775807) (hbb : -9223372036854775808 ≤ b ∧ b ≤ 9223372036854775807) (hS : S.size ≤ maxLen) (hst : s.steps ≤ 2305843009213693952 ∧ s.brk = none) :
    Calls Try.prog 10 #[.pointer (some ⟨kb, 0, none⟩), .agg #[.int .i64 3, .int .i64 a, .int .i64 b, .string S]] w fun e w' => e = .returned (.bool true) ∧ Moved w0 w w' kb bb hb s f V := by
  have HK : Hid (KeepAt w0 w kb bb hb s f V lo bu) := h
  have HI : Hid (KInv s f lo bu) := hi
  have hlt := h.row.lt
  have HA : Hid (∀ o, KeepAt w0 (w.alloc o) kb bb hb s f V lo bu) := fun o => h.of_below ((Below.refl _ _).alloc (Nat.le_refl _) o)
  clear h hi
  go_enter Try.func10, Try.ntmps10
  go_wp2_with fail
  refine (kdrive_fail kb bb hb s f V lo bu a b S _ (HA.out _) HI.out ha).mono ?_
  rintro e w1 ⟨rfl, hM⟩
  have HF : Hid (Moved w0 w w1 kb bb hb s f V) := hM
  clear hM
  go_wp2_with fail
  go_ret
  exact ⟨rfl, HF.out⟩
set_option maxRecDepth 100000 in
set_option maxHeartbeats 2000000 in
theorem move_replace {w0 : World} (kb bb hb : Nat) (s : St) (f : Nat → Nat) (V : Nat → Value) (lo : Nat → Bool) (bu : Nat → Nat → Bool) (a b : Int) (S : ByteArray) (w : World) (h : KeepAt w0 w kb bb hb s f V lo bu) (hi : KInv s f lo bu) (ha : -9223372036854775808 ≤ a ∧ a ≤ 9223372036854775807) (hbb : -9223372036854775808 ≤ b ∧ b ≤ 9223372036854775807) (hS : S.size ≤ maxLen) (hst : s.steps ≤ 2305843009213693952 ∧ s.brk = none) :
    Calls Try.prog 10 #[.pointer (some ⟨kb, 0, none⟩), .agg #[.int .i64 4, .int .i64 a, .int .i64 b, .string S]] w fun e w' => e = .returned (.bool true) ∧ Moved w0 w w' kb bb hb s f V := by
  have HK : Hid (KeepAt w0 w kb bb hb s f V lo bu) := h
  have HI : Hid (KInv s f lo bu) := hi
  have hlt := h.row.lt
  have HA : Hid (∀ o, KeepAt w0 (w.alloc o) kb bb hb s f V lo bu) := fun o => h.of_below ((Below.refl _ _).alloc (Nat.le_refl _) o)
  clear h hi
  go_enter Try.func10, Try.ntmps10
  go_wp2_with fail
  refine (kdrive_replace kb bb hb s f V lo bu a b S _ (HA.out _) HI.out ha).mono ?_
  rintro e w1 ⟨rfl, hM⟩
  have HF : Hid (Moved w0 w w1 kb bb hb s f V) := hM
  clear hM
  go_wp2_with fail
  go_ret
  exact ⟨rfl, HF.out⟩
set_option maxRecDepth 100000 in
set_option maxHeartbeats 2000000 in
theorem move_rebuild {w0 : World} (kb bb hb : Nat) (s : St) (f : Nat → Nat) (V : Nat → Value) (lo : Nat → Bool) (bu : Nat → Nat → Bool) (a b : Int) (S : ByteArray) (w : World) (h : KeepAt w0 w kb bb hb s f V lo bu) (hi : KInv s f lo bu) (ha : -9223372036854775808 ≤ a ∧ a ≤ 9223372036854775807) (hbb : -9223372036854775808 ≤ b ∧ b ≤ 9223372036854775807) (hS : S.size ≤ maxLen) (hst : s.steps ≤ 2305843009213693952 ∧ s.brk = none) :
    Calls Try.prog 10 #[.pointer (some ⟨kb, 0, none⟩), .agg #[.int .i64 5, .int .i64 a, .int .i64 b, .string S]] w fun e w' => e = .returned (.bool true) ∧ Moved w0 w w' kb bb hb s f V := by
  have HK : Hid (KeepAt w0 w kb bb hb s f V lo bu) := h
  have HI : Hid (KInv s f lo bu) := hi
  have hlt := h.row.lt
  have HA : Hid (∀ o, KeepAt w0 (w.alloc o) kb bb hb s f V lo bu) := fun o => h.of_below ((Below.refl _ _).alloc (Nat.le_refl _) o)
  clear h hi
  go_enter Try.func10, Try.ntmps10
  go_wp2_with fail
  refine (kdrive_rebuild kb bb hb s f V lo bu a b S _ (HA.out _) HI.out ha hbb).mono ?_
  rintro e w1 ⟨rfl, hM⟩
  have HF : Hid (Moved w0 w w1 kb bb hb s f V) := hM
  clear hM
  go_wp2_with fail
  go_ret
  exact ⟨rfl, HF.out⟩
set_option maxRecDepth 100000 in
set_option maxHeartbeats 2000000 in
theorem move_no {w0 : World} (kb bb hb : Nat) (s : St) (f : Nat → Nat) (V : Nat → Value) (lo : Nat → Bool) (bu : Nat → Nat → Bool) (k a b : Int) (hk : k < 1 ∨ 5 < k) (S : ByteArray) (w : World) (h : KeepAt w0 w kb bb hb s f V lo bu) (hi : KInv s f lo bu) (ha : -9223372036854775808 ≤ a ∧ a ≤ 9223372036854775807) (hbb : -9223372036854775808 ≤ b ∧ b ≤ 9223372036854775807) (hS : S.size ≤ maxLen) (hst : s.steps ≤ 2305843009213693952 ∧ s.brk = none) :
    Calls Try.prog 10 #[.pointer (some ⟨kb, 0, none⟩), .agg #[.int .i64 k, .int .i64 a, .int .i64 b, .string S]] w fun e w' => e = .returned (.bool true) ∧ Moved w0 w w' kb bb hb s f V := by
  have HK : Hid (KeepAt w0 w kb bb hb s f V lo bu) := h
  have HI : Hid (KInv s f lo bu) := hi
  have hlt := h.row.lt
  have HA : Hid (∀ o, KeepAt w0 (w.alloc o) kb bb hb s f V lo bu) := fun o => h.of_below ((Below.refl _ _).alloc (Nat.le_refl _) o)
  have k1 : (k == 1) = false := by rw [beq_eq_false_iff_ne]; omega
  have k2 : (k == 2) = false := by rw [beq_eq_false_iff_ne]; omega
  have k3 : (k == 3) = false := by rw [beq_eq_false_iff_ne]; omega
  have k4 : (k == 4) = false := by rw [beq_eq_false_iff_ne]; omega
  have k5 : (k == 5) = false := by rw [beq_eq_false_iff_ne]; omega
  clear h hi
  go_enter Try.func10, Try.ntmps10
  go_wp2_with fail
  go_ret
  exact ⟨rfl, s, f, lo, bu, HI.out, by omega, SameAb.refl _, HA.out _⟩
theorem move_any {w0 : World} (kb bb hb : Nat) (s : St) (f : Nat → Nat) (V : Nat → Value) (lo : Nat → Bool) (bu : Nat → Nat → Bool) (o : MvV) (w : World) (h : KeepAt w0 w kb bb hb s f V lo bu) (hi : KInv s f lo bu) (ho : o.ok) (hst : s.steps ≤ 2305843009213693952 ∧ s.brk = none) :
    Calls Try.prog 10 #[.pointer (some ⟨kb, 0, none⟩), .agg #[.int .i64 o.k, .int .i64 o.a, .int .i64 o.b, .string o.s]] w fun e w' => e = .returned (.bool true) ∧ Moved w0 w w' kb bb hb s f V := by
  obtain ⟨k, a, b, S⟩ := o
  obtain ⟨hk, ha, hb', hS⟩ := ho
  have hA : -9223372036854775808 ≤ a ∧ a ≤ 9223372036854775807 := bounds_i64 ha
  have hB : -9223372036854775808 ≤ b ∧ b ≤ 9223372036854775807 := bounds_i64 hb'
  by_cases e1 : k = 1
  · subst e1; exact move_write kb bb hb s f V lo bu a b S w h hi hA hB hS hst
  · by_cases e2 : k = 2
    · subst e2; exact move_merge kb bb hb s f V lo bu a b S w h hi hA hB hS hst
    · by_cases e3 : k = 3
      · subst e3; exact move_fail kb bb hb s f V lo bu a b S w h hi hA hB hS hst
      · by_cases e4 : k = 4
        · subst e4; exact move_replace kb bb hb s f V lo bu a b S w h hi hA hB hS hst
        · by_cases e5 : k = 5
          · subst e5; exact move_rebuild kb bb hb s f V lo bu a b S w h hi hA hB hS hst
          · exact move_no kb bb hb s f V lo bu k a b (by omega) S w h hi hA hB hS hst
end Go.Proofs.Ytfpoiikhhjdpdab
