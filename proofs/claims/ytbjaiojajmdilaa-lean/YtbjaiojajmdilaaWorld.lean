/- A world of hoardkeep: its hoard, its bytes, its lists. -/
import Derived.Test.YtbjaiojajmdilaaBegin
namespace Go.Proofs.Ytbjaiojajmdilaa
open Go.RowKit
set_option linter.unusedVariables false
attribute [local go_sem ↓] Go.wp_at_zero Go.wp_at_succ
def keepX (s : St) (V : Nat → Value) (i : Nat) : List Value :=
  if i = 0 then List.replicate (s.D + s.P) (.bool false) else if i = 1 then (List.range (s.D + s.P)).map (fun i => V (2 + i)) else List.replicate s.R (.bool true)
structure KeepAt (w0 w : World) (kb bb hb : Nat) (s : St) (f : Nat → Nat) (V : Nat → Value) : Prop where
  fam : Fam w (2 + (s.D + s.P)) V famE (keepX s V) (fun g => g = kb ∨ g = bb ∨ Foot hb s g)
  row : w.rowIs kb 48 8 (kv hb s bb (V 0) (V 1))
  bytes : w.rowIs bb 5 (s.D * s.R * 4) (fun i => .int .u8 (f i : Nat))
  bound : ∀ i, f i < 256
  hoard : HoardAt w hb s
  ne : kb ≠ bb ∧ ¬ Foot hb s kb ∧ ¬ Foot hb s bb
  low : w0.heap.size ≤ kb ∧ w0.heap.size ≤ bb ∧ (∀ g, Foot hb s g → w0.heap.size ≤ g) ∧ (∀ i g, i < 2 + (s.D + s.P) → (V i).ownBlock = some g → w0.heap.size ≤ g)
  below : Below w0.heap.size w0 w
/-- What a world owns. -/
def KFoot (kb bb hb : Nat) (s : St) (V : Nat → Value) (k : Nat) : Prop := k = kb ∨ k = bb ∨ Foot hb s k ∨ ∃ i, i < 2 + (s.D + s.P) ∧ (V i).ownBlock = some k
theorem KeepAt.lt {w0 w : World} {kb bb hb : Nat} {s : St} {f : Nat → Nat} {V : Nat → Value} (h : KeepAt w0 w kb bb hb s f V) {k : Nat} (hk : KFoot kb bb hb s V k) : k < w.heap.size := by
  rcases hk with rfl | rfl | hk | ⟨i, hi, hk⟩
  · exact h.row.lt
  · exact h.bytes.lt
  · exact h.hoard.foot_lt hk
  · exact h.fam.lt hi hk
theorem KeepAt.of_kept {w0 w w' : World} {kb bb hb : Nat} {s : St} {f : Nat → Nat} {V : Nat → Value} {S : Nat → Prop} (h : KeepAt w0 w kb bb hb s f V) (k : Kept S w w') (hS : ∀ g, KFoot kb bb hb s V g → ¬ S g) (hl : ∀ g, S g → w0.heap.size ≤ g) : KeepAt w0 w' kb bb hb s f V :=
  ⟨h.fam.kept k (fun i g hi hg => hS g (.inr (.inr (.inr ⟨i, hi, hg⟩)))), k.row (hS kb (.inl rfl)) h.row, k.row (hS bb (.inr (.inl rfl))) h.bytes, h.bound, h.hoard.kept k (fun i hi => hS i (.inr (.inr (.inl hi)))), h.ne, h.low,
    h.below.trans ⟨k.os, k.tape, k.output, k.size, fun g hg => k.block g (Nat.lt_of_lt_of_le hg h.below.size) (fun hs => by have := hl g hs; omega)⟩⟩
theorem KeepAt.of_below {w0 w w' : World} {kb bb hb : Nat} {s : St} {f : Nat → Nat} {V : Nat → Value} (h : KeepAt w0 w kb bb hb s f V) (k : Below w.heap.size w w') : KeepAt w0 w' kb bb hb s f V :=
  h.of_kept (S := fun _ => False) (Kept.of_below k) (fun _ _ hs => hs) (fun _ hs => hs.elim)
/-- The hoard goes on. -/
theorem KeepAt.went {w0 w w' : World} {kb bb hb : Nat} {s s' : St} {f : Nat → Nat} {V : Nat → Value} (h : KeepAt w0 w kb bb hb s f V) (k : Went hb s w s' w') (h1 : s'.D = s.D) (h2 : s'.P = s.P) (h3 : s'.R = s.R) (h4 : s'.M = s.M) : KeepAt w0 w' kb bb hb s' f V := by
  have hX : keepX s' V = keepX s V := by funext i; unfold keepX; rw [h1, h2, h3]
  have hkv : kv hb s' bb (V 0) (V 1) = kv hb s bb (V 0) (V 1) := by funext i; unfold kv; rw [h1, h2, h3, h4]
  refine ⟨?_, ?_, ?_, h.bound, k.at', ?_, ?_, ?_⟩
  · rw [hX, h1, h2]
    have hf := h.fam.kept k.kept (fun i g hi hg hs => h.fam.out i g hi hg (.inr (.inr hs)))
    refine ⟨hf.own, hf.apart, fun i g hi hg hB => ?_⟩
    rcases hB with rfl | rfl | hB
    · exact h.fam.out i _ hi hg (.inl rfl)
    · exact h.fam.out i _ hi hg (.inr (.inl rfl))
    · rcases k.foot g hB with h5 | h5
      · exact h.fam.out i g hi hg (.inr (.inr h5))
      · have := h.fam.lt hi hg; omega
  · rw [hkv]; exact k.kept.row h.ne.2.1 h.row
  · rw [h1, h3]; exact k.kept.row h.ne.2.2 h.bytes
  · refine ⟨h.ne.1, fun hh => ?_, fun hh => ?_⟩
    · rcases k.foot _ hh with h5 | h5
      · exact h.ne.2.1 h5
      · have := h.row.lt; omega
    · rcases k.foot _ hh with h5 | h5
      · exact h.ne.2.2 h5
      · have := h.bytes.lt; omega
  · rw [h1, h2]
    refine ⟨h.low.1, h.low.2.1, fun g hg => ?_, h.low.2.2.2⟩
    rcases k.foot g hg with h5 | h5
    · exact h.low.2.2.1 g h5
    · have := h.below.size; omega
  · exact h.below.trans ⟨k.kept.os, k.kept.tape, k.kept.output, k.kept.size, fun g hg => k.kept.block g (Nat.lt_of_lt_of_le hg h.below.size) (fun hs => by have := h.low.2.2.1 g hs; omega)⟩
/-- A byte is written. -/
theorem KeepAt.setByte {w0 w : World} {kb bb hb : Nat} {s : St} {f : Nat → Nat} {V : Nat → Value} (h : KeepAt w0 w kb bb hb s f V) (i v : Nat) (hv : v < 256) : KeepAt w0 (w.setCell ⟨bb, i, none⟩ (.int .u8 (v : Nat))) kb bb hb s (upd f i v) V := by
  have hk : Kept (fun g => g = bb) w (w.setCell ⟨bb, i, none⟩ (.int .u8 (v : Nat))) := Kept.setCell (S := fun g => g = bb) (Kept.refl _ _) (.inl rfl) _
  refine ⟨h.fam.setB (.inr (.inl rfl)) _, hk.row h.ne.1 h.row, ?_, ?_, h.hoard.kept hk (fun g hg e => h.ne.2.2 (by rwa [e] at hg)), h.ne, h.low, h.below.setCell h.low.2.1 _⟩
  · refine (h.bytes.set i _).congr (fun j hj => ?_)
    by_cases e : j = i
    · subst e; rw [if_pos rfl, upd_same]
    · rw [if_neg e, upd_other _ _ e]
  · intro j
    by_cases e : j = i
    · subst e; rw [upd_same]; exact hv
    · rw [upd_other _ _ e]; exact h.bound j
/-- From begin. -/
theorem KeepAt.of_beg {w0 w : World} {kb bb hb sb : Nat} {s : St} {V : Nat → Value} {X : Nat → List Value} (h : Beg w0 w kb bb hb sb s s.R (s.D + s.P) 0 V X) (hlv : ∀ g, Foot hb s g → g = hb) : KeepAt w0 w kb bb hb s (fun _ => 0) V := by
  refine ⟨⟨fun i hi => ?_, fun i j g hi hj => h.fam.apart i j g (by omega) (by omega), fun i g hi hg hB => ?_⟩, h.row, h.bytes, fun _ => by omega, h.hoard, ⟨h.ne.1, h.ne.2.2.2.1, h.ne.2.2.2.2.1⟩, ⟨h.low.1, h.low.2.1, fun g hg => by rw [hlv g hg]; exact h.low.2.2.2, fun i g hi hg => h.base i g (by omega) hg⟩, h.below⟩
  · have h1 := h.fam.own i (by omega)
    have : keepX s V i = X i := by
      unfold keepX
      by_cases e0 : i = 0
      · subst e0; rw [if_pos rfl, h.x0]
      · by_cases e1 : i = 1
        · subst e1; rw [if_neg (by omega), if_pos rfl, h.x1]
        · rw [if_neg e0, if_neg e1]
          have := h.x2 (i - 2) (by omega)
          rw [show 2 + (i - 2) = i by omega] at this
          exact this.symm
    rw [this]; exact h1
  · refine h.fam.out i g (by omega) hg ?_
    rcases hB with h5 | h5 | h5
    · exact .inl h5
    · exact .inr (.inl h5)
    · exact .inr (.inr (.inr h5))
theorem KeepAt.cells {w0 w : World} {kb bb hb : Nat} {s : St} {f : Nat → Nat} {V : Nat → Value} (h : KeepAt w0 w kb bb hb s f V) :
    w.cell? ⟨kb, 0, none⟩ = some (.pointer (some ⟨hb, 0, none⟩)) ∧ w.cell? ⟨kb, 1, none⟩ = some (.int .i64 s.D) ∧ w.cell? ⟨kb, 2, none⟩ = some (.int .i64 s.P) ∧ w.cell? ⟨kb, 3, none⟩ = some (.int .i64 s.R) ∧ w.cell? ⟨kb, 4, none⟩ = some (.int .i64 s.M) ∧ w.cell? ⟨kb, 5, none⟩ = some (.slice (some ⟨bb, 0, none⟩) (s.D * s.R * 4) (s.D * s.R * 4)) ∧ w.cell? ⟨kb, 6, none⟩ = some (V 0) ∧ w.cell? ⟨kb, 7, none⟩ = some (V 1) :=
  ⟨h.row.cell (i := 0) (by omega), h.row.cell (i := 1) (by omega), h.row.cell (i := 2) (by omega), h.row.cell (i := 3) (by omega), h.row.cell (i := 4) (by omega), h.row.cell (i := 5) (by omega), h.row.cell (i := 6) (by omega), h.row.cell (i := 7) (by omega)⟩
theorem KeepAt.byteCell {w0 w : World} {kb bb hb : Nat} {s : St} {f : Nat → Nat} {V : Nat → Value} (h : KeepAt w0 w kb bb hb s f V) (i : Nat) (hi : i < s.D * s.R * 4) : w.cell? ⟨bb, i, none⟩ = some (.int .u8 (f i : Nat)) := h.bytes.cell hi
theorem KeepAt.bytesAt {w0 w : World} {kb bb hb : Nat} {s : St} {f : Nat → Nat} {V : Nat → Value} (h : KeepAt w0 w kb bb hb s f V) : BytesAt w (some ⟨bb, 0, none⟩) (s.D * s.R * 4) f :=
  fun i hi => ⟨bb, 0, rfl, by rw [Nat.zero_add]; exact h.byteCell i hi, h.bound i⟩
theorem KeepAt.size {w0 w : World} {kb bb hb : Nat} {s : St} {f : Nat → Nat} {V : Nat → Value} (h : KeepAt w0 w kb bb hb s f V) : s.D * s.R * 4 ≤ 96 ∧ 4 ≤ s.D * s.R * 4 := by
  have h1 : s.D * s.R ≤ 4 * 6 := Nat.mul_le_mul h.hoard.ok.D4 h.hoard.ok.R6
  have h2 : 1 * 1 ≤ s.D * s.R := Nat.mul_le_mul h.hoard.ok.D1 h.hoard.ok.R1
  omega
def cutN (N a n : Nat) : Nat := min n (N - a)
set_option maxRecDepth 100000 in
set_option maxHeartbeats 1000000 in
theorem cut_any {w0 : World} (kb bb hb : Nat) (s : St) (f : Nat → Nat) (V : Nat → Value) (a : Int) (d : ByteArray) (w : World) (h : KeepAt w0 w kb bb hb s f V) (ha : -9223372036854775808 ≤ a ∧ a ≤ 9223372036854775807) (hd : d.size ≤ maxLen) :
    Calls Try.prog 17 #[.pointer (some ⟨kb, 0, none⟩), .int .i64 a, .string d] w fun e w' => e = .returned (.tuple #[.int .i64 (pickN a (s.D * s.R * 4 + 1) : Nat), .string (d.extract 0 (cutN (s.D * s.R * 4) (pickN a (s.D * s.R * 4 + 1)) d.size))]) ∧ ∃ q, w' = w.drewN q := by
  obtain ⟨c0, c1, c2, c3, c4, c5, _⟩ := h.cells
  obtain ⟨hs, hs4⟩ := h.size
  have hp := pickN_lt a (s.D * s.R * 4 + 1) (by omega)
  have HP : Hid (∀ W, Calls Try.prog 25 #[.int .i64 a, .int .i64 ((s.D * s.R * 4 + 1 : Nat) : Int)] W fun e w' => e = .returned (.int .i64 (pickN a (s.D * s.R * 4 + 1) : Nat)) ∧ w' = W) := fun W => kpick_any a _ W (by omega) (by omega) ha
  generalize pickN a (s.D * s.R * 4 + 1) = x at *
  generalize s.D * s.R * 4 = N at *
  clear h c0 c1 c2 c3 c4 ha
  unfold maxLen at hd
  go_enter Try.func17, Try.ntmps17
  go_wp2_with fail
  rw [show ((N : Int) + 1) = ((N + 1 : Nat) : Int) by omega]
  refine (HP.out _).mono ?_
  rintro e w1 ⟨rfl, rfl⟩
  by_cases hc : d.size < N - x
  · have hci : (d.size : Int) < (N : Int) - x := by omega
    have HC : Hid (cutN N x d.size = d.size) := (show _ = _ by unfold cutN; omega)
    go_wp2_with fail
    go_quiet (fail)
    go_wp2_with fail
    go_ret2
    refine ⟨?_, _, rfl⟩
    rw [HC.out]
    have : d.extract 0 d.size = d := by simp
    rw [this]; rfl
  · obtain ⟨y, hy⟩ : ∃ y : Nat, (N : Int) - x = (y : Int) := ⟨N - x, by omega⟩
    have hyn : y = N - x := by omega
    have HC : Hid (cutN N x d.size = y) := (show _ = _ by unfold cutN; omega)
    have hci : ¬ ((d.size : Int) < (y : Int)) := by omega
    have hyd : (y : Int) ≤ (d.size : Int) := by omega
    clear hyn hc
    go_wp2_with fail
    go_quiet (fail)
    go_wp2_with fail
    go_ret2
    refine ⟨?_, _, rfl⟩
    rw [HC.out]; rfl
end Go.Proofs.Ytbjaiojajmdilaa
