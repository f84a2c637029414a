import Derived.Test.YtfpoiikhhjdpdaaGreatJ07
/- Rebuild, Fail, Replace. -/
namespace Go.Proofs.YtfpoiikhhjdpdaaGreat
open Go.RowKit
set_option linter.unusedVariables false
attribute [local go_sem ↓] Go.wp_at_zero Go.wp_at_succ
structure SameShape (s t : St) : Prop where
  D : t.D = s.D
  P : t.P = s.P
  R : t.R = s.R
  M : t.M = s.M
theorem SameShape.refl (s : St) : SameShape s s := ⟨rfl, rfl, rfl, rfl⟩
theorem SameShape.trans {a b c : St} (h : SameShape a b) (k : SameShape b c) : SameShape a c := ⟨k.D.trans h.D, k.P.trans h.P, k.R.trans h.R, k.M.trans h.M⟩
theorem rbS_shape (s : St) (d r : Nat) : SameShape s (rbS s d r) := by
  unfold rbS
  split
  · exact ⟨rfl, rfl, rfl, rfl⟩
  · exact SameShape.refl s
/-- The rows below k have been gone through: the state, and how many cells were built. -/
def rbRun (s : St) (d : Nat) (n : Int) : Nat → St × Nat
  | 0 => (s, 0)
  | k + 1 => if ((rbRun s d n k).2 : Int) < n then (rbS (rbRun s d n k).1 d k, (rbRun s d n k).2 + if rbB (rbRun s d n k).1 d k then 1 else 0) else rbRun s d n k
theorem rbRun_shape (s : St) (d : Nat) (n : Int) (k : Nat) : SameShape s (rbRun s d n k).1 := by
  induction k with
  | zero => exact SameShape.refl s
  | succ k ih =>
    simp only [rbRun]
    split
    · exact ih.trans (rbS_shape _ d k)
    · exact ih
theorem rbS_aux (s : St) (d r : Nat) : (rbS s d r).aux = s.aux ∧ (rbS s d r).brk = s.brk := by
  unfold rbS
  split
  · exact ⟨rfl, rfl⟩
  · exact ⟨rfl, rfl⟩
theorem rbRun_aux (s : St) (d : Nat) (n : Int) (k : Nat) : (rbRun s d n k).1.aux = s.aux ∧ (rbRun s d n k).1.brk = s.brk := by
  induction k with
  | zero => exact ⟨rfl, rfl⟩
  | succ k ih =>
    simp only [rbRun]
    split
    · have := rbS_aux (rbRun s d n k).1 d k
      exact ⟨this.1.trans ih.1, this.2.trans ih.2⟩
    · exact ih
theorem rbRun_le (s : St) (d : Nat) (n : Int) (k : Nat) : (rbRun s d n k).2 ≤ k := by
  induction k with
  | zero => exact Nat.le_refl _
  | succ k ih =>
    simp only [rbRun]
    split
    · simp only; split <;> omega
    · omega
theorem rbRun_stop (s : St) (d : Nat) (n : Int) (k j : Nat) (h : ¬ ((rbRun s d n k).2 : Int) < n) : rbRun s d n (k + j) = rbRun s d n k := by
  induction j with
  | zero => rfl
  | succ j ih =>
    rw [show k + (j + 1) = (k + j) + 1 by omega]
    simp only [rbRun]
    rw [ih, if_neg h]
set_option maxRecDepth 100000 in
set_option maxHeartbeats 2000000 in
theorem Rebuild_ok (hb : Nat) (s : St) (d : Nat) (n : Int) (w : World) (h : HoardAt w hb s) (hd : d < s.D + s.P) (hl : s.lost d = false) (hn : 1 ≤ n) (hn2 : n ≤ 9223372036854775807) :
    Calls Tryz.prog 50 #[.pointer (some ⟨hb, 0, none⟩), .int .i64 d, .int .i64 n] w fun e w' => e = .returned (.tuple #[.int .i64 ((rbRun s d n s.R).2 : Nat), .int .i64 0]) ∧ Went hb s w (rbRun s d n s.R).1 w' := by
  have hdn := h.downAt
  have HUP : Hid (s.aux = aux0) := h.up
  replace h := h.toHoardIn
  have hlt0 := h.row.lt
  have hD := h.ok.D4
  have hP := h.ok.P2
  have hR := h.ok.R6
  have hdi : (d : Int) < 6 := by omega
  have hd6 : d < 6 := by omega
  have HH : Hid (HoardIn w hb s) := h
  have hid : isDriveB s d = true := by simp only [isDriveB, decide_eq_true_eq]; omega
  have HID : Hid (∀ W, HoardIn W hb s → Calls Tryz.prog 72 #[.pointer (some ⟨hb, 0, none⟩), .int .i64 d] W fun e w' => e = .returned (.bool true) ∧ Below W.heap.size W w' ∧ HoardIn w' hb s) := fun W hW => by
    have := isDrive_b hb s d W hW
    rw [hid] at this; exact this
  have HLS : Hid (s.lost d = false) := hl
  clear h hl hid
  go_enter Tryz.func50, Tryz.ntmps50
  go_wp2_with fail
  refine (HID.out _ HH.out).mono ?_
  rintro e w1 ⟨rfl, k1, h1⟩
  have hls := h1.lostAt d hd6
  rw [HLS.out] at hls
  have hlt := h1.row.lt
  have hn1 : decide (n < 1) = false := by simp; omega
  clear h1
  go_wp2_with fail
  have K1 : Hid (Below w.heap.size w w1) := k1
  clear hls hlt
  go_loopw [8, 9] (fun c r wr => ∃ (k m : Nat) (t : St), k ≤ s.R ∧ m ≤ k ∧ r = .int .i64 k ∧ c = .int .i64 m ∧ Hid (rbRun s d n k = (t, m)) ∧ WentIn hb s w t wr) (fun _ r _ => s.R - (intOf r).toNat)
  case atStart => exact ⟨0, 0, s, by omega, by omega, rfl, rfl, rfl, WentIn.below HH.out k1⟩
  case round =>
    obtain ⟨k, m, t, hk, hmk, rfl, rfl, hrun, hw⟩ := hrel
    have HW : Hid (WentIn hb s w t wr) := hw
    have hsh : SameShape s t := by have := rbRun_shape s d n k; rwa [hrun.out] at this
    obtain ⟨_, _, c2, _⟩ := hw.at'.shape
    rw [hsh.R] at c2
    by_cases hlt : k < s.R
    · have hlti : (k : Int) < (s.R : Int) := by omega
      by_cases hmn : (m : Int) < n
      · have HRB : Hid (Calls Tryz.prog 86 #[.pointer (some ⟨hb, 0, none⟩), .int .i64 d, .int .i64 k] wr fun e w' => e = .returned (.bool (rbB t d k)) ∧ WentIn hb t wr (rbS t d k) w') := rebuildCell_any hb t d k wr hw.at' (by rw [hsh.D, hsh.P]; exact hd) (by omega)
        have HN : Hid (rbRun s d n (k + 1) = (rbS t d k, m + if rbB t d k then 1 else 0)) := (show _ = _ by simp only [rbRun]; rw [hrun.out]; simp only [hmn, if_true])
        clear hw hrun
        cases hrb : rbB t d k
        · rw [hrb] at HRB HN
          go_wp2_with fail
          refine Calls.mono HRB.out ?_
          rintro e w2 ⟨rfl, went⟩
          go_wp2_with fail
          exact ⟨⟨k + 1, m, _, by omega, by omega, by go_num, by go_num, (show _ = _ by rw [HN.out]; rfl), HW.out.trans went⟩, by simp [intOf]; omega⟩
        · rw [hrb] at HRB HN
          go_wp2_with fail
          refine Calls.mono HRB.out ?_
          rintro e w2 ⟨rfl, went⟩
          go_wp2_with fail
          exact ⟨⟨k + 1, m + 1, _, by omega, by omega, by go_num, by go_num, (show _ = _ by rw [HN.out]; rfl), HW.out.trans went⟩, by simp [intOf]; omega⟩
      · have HE : Hid (rbRun s d n s.R = (t, m)) := by
          have := rbRun_stop s d n k (s.R - k) (by rw [hrun.out]; exact hmn)
          rw [show k + (s.R - k) = s.R by omega, hrun.out] at this
          exact this
        clear hw hrun
        have hmi : decide ((m : Int) < n) = false := by simpa using hmn
        go_wp2_with fail
        go_ret2
        exact ⟨by rw [HE.out]; rfl, Went.of (by rw [HE.out]; exact HW.out) ((rbRun_aux s d n s.R).1.trans HUP.out) (rbRun_aux s d n s.R).2⟩
    · have hke : k = s.R := by omega
      have HE : Hid (rbRun s d n s.R = (t, m)) := (show _ = _ by rw [← hke]; exact hrun.out)
      have hlti : ¬ ((k : Int) < (s.R : Int)) := by omega
      clear hw hrun hke
      go_wp2_with fail
      go_ret2
      exact ⟨by rw [HE.out]; rfl, Went.of (by rw [HE.out]; exact HW.out) ((rbRun_aux s d n s.R).1.trans HUP.out) (rbRun_aux s d n s.R).2⟩
set_option maxRecDepth 100000 in
set_option maxHeartbeats 2000000 in
theorem Rebuild_no (hb : Nat) (s : St) (d n : Int) (w : World) (h : HoardAt w hb s) (hd : isDriveB s d = false) :
    Calls Tryz.prog 50 #[.pointer (some ⟨hb, 0, none⟩), .int .i64 d, .int .i64 n] w fun e w' => e = .returned (.tuple #[.int .i64 0, .int .i64 6]) ∧ Below w.heap.size w w' := by
  have hdn := h.downAt
  have HUP : Hid (s.aux = aux0) := h.up
  replace h := h.toHoardIn
  have hlt0 := h.row.lt
  go_enter Tryz.func50, Tryz.ntmps50
  go_wp2_with fail
  refine (isDrive_b hb s d _ h).mono ?_
  rintro e w1 ⟨rfl, k1, h1⟩
  go_wp2_with fail
  go_ret2
  exact ⟨rfl, k1⟩
set_option maxRecDepth 100000 in
set_option maxHeartbeats 2000000 in
theorem Rebuild_lost (hb : Nat) (s : St) (d : Nat) (n : Int) (w : World) (h : HoardAt w hb s) (hd : d < s.D + s.P) (hl : s.lost d = true) :
    Calls Tryz.prog 50 #[.pointer (some ⟨hb, 0, none⟩), .int .i64 d, .int .i64 n] w fun e w' => e = .returned (.tuple #[.int .i64 0, .int .i64 7]) ∧ Below w.heap.size w w' := by
  have hdn := h.downAt
  have HUP : Hid (s.aux = aux0) := h.up
  replace h := h.toHoardIn
  have hlt0 := h.row.lt
  have hD := h.ok.D4
  have hP := h.ok.P2
  have hdi : (d : Int) < 6 := by omega
  have hd6 : d < 6 := by omega
  have HLS : Hid (s.lost d = true) := hl
  clear hl
  go_enter Tryz.func50, Tryz.ntmps50
  go_wp2_with fail
  refine (isDrive_t hb s d _ h hd).mono ?_
  rintro e w1 ⟨rfl, k1, h1⟩
  have hls := h1.lostAt d hd6
  rw [HLS.out] at hls
  have hlt := h1.row.lt
  clear h1 h
  go_wp2_with fail
  go_ret2
  exact ⟨rfl, k1⟩
set_option maxRecDepth 100000 in
set_option maxHeartbeats 2000000 in
theorem Rebuild_arg (hb : Nat) (s : St) (d : Nat) (n : Int) (w : World) (h : HoardAt w hb s) (hd : d < s.D + s.P) (hl : s.lost d = false) (hn : n < 1) :
    Calls Tryz.prog 50 #[.pointer (some ⟨hb, 0, none⟩), .int .i64 d, .int .i64 n] w fun e w' => e = .returned (.tuple #[.int .i64 0, .int .i64 1]) ∧ Below w.heap.size w w' := by
  have hdn := h.downAt
  have HUP : Hid (s.aux = aux0) := h.up
  replace h := h.toHoardIn
  have hlt0 := h.row.lt
  have hD := h.ok.D4
  have hP := h.ok.P2
  have hdi : (d : Int) < 6 := by omega
  have hd6 : d < 6 := by omega
  have HLS : Hid (s.lost d = false) := hl
  clear hl
  go_enter Tryz.func50, Tryz.ntmps50
  go_wp2_with fail
  refine (isDrive_t hb s d _ h hd).mono ?_
  rintro e w1 ⟨rfl, k1, h1⟩
  have hls := h1.lostAt d hd6
  rw [HLS.out] at hls
  have hlt := h1.row.lt
  clear h1 h
  go_wp2_with fail
  go_ret2
  exact ⟨rfl, k1⟩
end Go.Proofs.YtfpoiikhhjdpdaaGreat
