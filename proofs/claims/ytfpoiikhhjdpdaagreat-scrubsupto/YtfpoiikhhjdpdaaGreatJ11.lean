import Derived.Test.YtfpoiikhhjdpdaaGreatJ07
/- Read. -/
namespace Go.Proofs.YtfpoiikhhjdpdaaGreat
open Go.RowKit
set_option linter.unusedVariables false
attribute [local go_sem ↓] Go.wp_at_zero Go.wp_at_succ
/-- Byte i of the hoard. -/
def byteAt (s : Ab) (i : Nat) : Nat := (holdC s (i / 4 % s.D) (i / 4 / s.D)).at (i % 4)
set_option maxRecDepth 100000 in
set_option maxHeartbeats 1000000 in
theorem Read_no (hb : Nat) (s : St) (a n : Int) (w : World) (h : HoardAt w hb s) (ha : -9223372036854775808 ≤ a ∧ a ≤ 9223372036854775807) (hh : hasB s a n = false) :
    Calls Tryz.prog 25 #[.pointer (some ⟨hb, 0, none⟩), .int .i64 a, .int .i64 n] w fun e w' => e = .returned (.tuple #[.slice none 0 0, .int .i64 4]) ∧ Below w.heap.size w w' := by
  have hdn := h.downAt
  have HUP : Hid (s.aux = aux0) := h.up
  replace h := h.toHoardIn
  have hlt0 := h.row.lt
  go_enter Tryz.func25, Tryz.ntmps25
  go_wp2_with fail
  refine (hasBytes_any hb s a n _ h ha).mono ?_
  rintro e w1 ⟨rfl, q, rfl⟩
  go_wp2_with fail
  go_ret2
  exact ⟨rfl, below_drewN (Below.refl _ _) _⟩
theorem has_le {s : Ab} {a n : Nat} (h : s.ok) (hh : hasB s a n = true) : a + n ≤ s.D * s.R * 4 ∧ s.D * s.R * 4 ≤ 96 := by
  have hal := all_le s h
  simp only [hasB, decide_eq_true_eq] at hh
  have : ((s.D * s.R : Nat) : Int) = (s.D : Int) * s.R := by simp
  omega
set_option maxRecDepth 100000 in
set_option maxHeartbeats 1000000 in
theorem Read_lost (hb : Nat) (s : St) (a n : Nat) (w : World) (h : HoardAt w hb s) (hh : hasB s a n = true) (hg : anyGone s a (blkEnd a n - a / 4) = true) :
    Calls Tryz.prog 25 #[.pointer (some ⟨hb, 0, none⟩), .int .i64 a, .int .i64 n] w fun e w' => e = .returned (.tuple #[.slice none 0 0, .int .i64 5]) ∧ Below w.heap.size w w' := by
  have hdn := h.downAt
  have HUP : Hid (s.aux = aux0) := h.up
  replace h := h.toHoardIn
  have hlt0 := h.row.lt
  obtain ⟨han, _⟩ := has_le h.ok hh
  go_enter Tryz.func25, Tryz.ntmps25
  go_wp2_with fail
  refine (hasBytes_any hb s a n _ h (by omega)).mono ?_
  rintro e w1 ⟨rfl, q, rfl⟩
  go_wp2_with fail
  refine (isAnyGone_any hb s a n _ (h.drewN q) han).mono ?_
  rintro e w2 ⟨rfl, k2⟩
  go_wp2_with fail
  go_ret2
  exact ⟨rfl, (below_drewN (Below.refl _ _) q).trans (k2.mono (by simp))⟩
set_option maxRecDepth 100000 in
set_option maxHeartbeats 2000000 in
theorem Read_ok (hb : Nat) (s : St) (a n : Nat) (w : World) (h : HoardAt w hb s) (hh : hasB s a n = true) (hg : anyGone s a (blkEnd a n - a / 4) = false) :
    Calls Tryz.prog 25 #[.pointer (some ⟨hb, 0, none⟩), .int .i64 a, .int .i64 n] w fun e w' => ∃ g, e = .returned (.tuple #[.slice (some ⟨g, 0, none⟩) n n, .int .i64 0]) ∧ w.heap.size ≤ g ∧ w'.rowIs g 5 n (fun i => .int .u8 (byteAt s (a + i) : Nat)) ∧ Below w.heap.size w w' := by
  have hdn := h.downAt
  have HUP : Hid (s.aux = aux0) := h.up
  replace h := h.toHoardIn
  have hlt0 := h.row.lt
  have hD := h.ok.D4
  have hD1 := h.ok.D1
  have hR := h.ok.R6
  obtain ⟨han0, h96⟩ := has_le h.ok hh
  have HH : Hid (HoardIn w hb s) := h
  have han : a + n ≤ 96 := by omega
  have HAN : Hid (a + n ≤ s.D * s.R * 4) := han0
  have hmk := run_make_row' (P := Tryz.prog) 42 5 (.int .u8 0) 1 Tryz.underlying42 (by kernel_rfl) rfl .i64 .i64 n (by omega) (by omega)
  clear h
  go_enter Tryz.func25, Tryz.ntmps25
  go_wp2_with fail
  refine (hasBytes_any hb s a n _ HH.out (by omega)).mono ?_
  rintro e w1 ⟨rfl, q, rfl⟩
  go_wp2_with fail
  refine (isAnyGone_any hb s a n _ (HH.out.drewN q) han0).mono ?_
  rintro e w2 ⟨rfl, k2⟩
  have K2 : Below w.heap.size w w2 := (below_drewN (Below.refl _ _) q).trans (k2.mono (by simp))
  have h2 := HH.out.below K2
  clear k2 han0 h96 hh
  go_wp2_with fail
  clear hg
  go_loopw [9, 10, 11, 12, 13] (fun i _ _ _ _ wr => ∃ k : Nat, k ≤ n ∧ i = .int .i64 k ∧ Hid (wr.rowIs w2.heap.size 5 n (fun j => .int .u8 (if j < k then byteAt s (a + j) else 0 : Nat))) ∧ Below w2.heap.size w2 wr) (fun i _ _ _ _ _ => n - (intOf i).toNat)
  case atStart =>
    refine ⟨0, by omega, rfl, ?_, (Below.refl _ _).alloc (Nat.le_refl _) _⟩
    exact (World.rowIs_made w2 (.int .u8 0) n 5).congr (fun j _ => by simp)
  case round =>
    obtain ⟨k, hk, rfl, hrow, hb2⟩ := hrel
    clear hmk
    have h3 := h2.below hb2
    by_cases hlt : k < n
    · have hDR : (a + k) / 4 < s.D * s.R := by have := HAN.out; omega
      have hc4 : (a + k) / 4 % s.D < 4 := by have := Nat.mod_lt ((a + k) / 4) (show 0 < s.D by omega); omega
      have hr6 : (a + k) / 4 / s.D < 6 := by
        have : (a + k) / 4 / s.D < s.R := Nat.div_lt_of_lt_mul hDR
        omega
      have HB : Hid (byteAt s (a + k) = (holdC s ((a + k) / 4 % s.D) ((a + k) / 4 / s.D)).at ((a + k) % 4)) := rfl
      have HPL : Hid (Calls Tryz.prog 66 #[.pointer (some ⟨hb, 0, none⟩), .int .i64 ((a + k) / 4 : Nat)] wr fun e w' => e = .returned (.tuple #[.int .i64 ((a + k) / 4 % s.D : Nat), .int .i64 ((a + k) / 4 / s.D : Nat)]) ∧ ∃ n, w' = wr.drewN n) := place_any hb s _ wr h3 (by omega)
      have HHO : Hid (∀ W, HoardIn W hb s → Calls Tryz.prog 67 #[.pointer (some ⟨hb, 0, none⟩), .int .i64 ((a + k) / 4 % s.D : Nat), .int .i64 ((a + k) / 4 / s.D : Nat)] W fun e w' => e = .returned (holdC s ((a + k) / 4 % s.D) ((a + k) / 4 / s.D)).val ∧ Below W.heap.size W w') := fun W hW => holds_any hb s _ _ W hW hc4 hr6
      generalize holdC s ((a + k) / 4 % s.D) ((a + k) / 4 / s.D) = cl at *
      generalize (a + k) / 4 % s.D = c at *
      generalize (a + k) / 4 / s.D = r at *
      unfold C4.val at HHO
      have hki : (k : Int) < (n : Int) := by omega
      have hmod : ((a : Int) + k) % 4 = (((a + k) % 4 : Nat) : Int) := by omega
      generalize hat : (a + k) % 4 = at4 at *
      have hat4 : at4 < 4 := by omega
      have hat4i : (at4 : Int) < 4 := by omega
      clear hat hDR hc4 hr6
      go_wp2_with fail
      rw [show ((a : Int) + k) / 4 = (((a + k) / 4 : Nat) : Int) by omega]
      refine HPL.out.mono ?_
      rintro e w3 ⟨rfl, m, rfl⟩
      go_wp2_with fail
      refine (HHO.out _ (h3.drewN m)).mono ?_
      rintro e w4 ⟨rfl, k4⟩
      have K4 : Below w2.heap.size w2 w4 := (below_drewN hb2 m).trans (k4.mono (by have := hb2.size; simp; omega))
      have R4 : Hid (w4.rowIs w2.heap.size 5 n (fun j => .int .u8 (if j < k then byteAt s (a + j) else 0 : Nat))) := by
        have h5 : (wr.drewN m).rowIs w2.heap.size 5 n (fun j => .int .u8 (if j < k then byteAt s (a + j) else 0 : Nat)) := hrow.out.of_block rfl
        exact h5.of_block (k4.block _ h5.lt)
      have hst := R4.out.cell (i := k) hlt
      have hfz := R4.out.frozen k
      have hlt4 := R4.out.lt
      have hcb := (box_row w4 cl _ rfl).cell (i := at4) hat4
      clear hrow hb2 h3 k4
      go_wp2_with fail
      refine ⟨⟨k + 1, by omega, by go_num, ?_, (K4.setCell (by simp) _).alloc (by simpa using K4.size) _⟩, by simp [intOf]; omega⟩
      refine World.rowIs.alloc ((R4.out.set k _).congr ?_) _
      intro j hj
      by_cases e : j = k
      · subst e
        rw [if_pos rfl, if_pos (by omega), HB.out]
      · rw [if_neg e]
        by_cases hjk : j < k
        · rw [if_pos hjk, if_pos (by omega)]
        · rw [if_neg hjk, if_neg (by omega)]
    · have : k = n := by omega
      subst this
      have hlti : ¬ ((k : Int) < (k : Int)) := by omega
      go_wp2_with fail
      go_ret2
      exact ⟨w2.heap.size, rfl, K2.size, hrow.out.congr (fun j hj => by simp only [hj, if_true]), K2.trans (hb2.mono K2.size)⟩
end Go.Proofs.YtfpoiikhhjdpdaaGreat
