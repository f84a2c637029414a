import Derived.Test.YtfpoiikhhjdpdaaGreatJ12
/- Corrupt, Scrub: is a row whole, do its equations hold, which drive explains it. -/
namespace Go.Proofs.YtfpoiikhhjdpdaaGreat
open Go.RowKit
set_option linter.unusedVariables false
attribute [local go_sem ↓] Go.wp_at_zero Go.wp_at_succ
def wholeTo (s : Ab) (r : Nat) : Nat → Bool
  | 0 => true
  | n + 1 => wholeTo s r n && avB s n r
def wholeB (s : Ab) (r : Nat) : Bool := wholeTo s r (s.D + s.P)
theorem wholeTo_no (s : Ab) (r k : Nat) (h : avB s k r = false) (n : Nat) (hn : k < n) : wholeTo s r n = false := by
  induction n with
  | zero => omega
  | succ n ih =>
    simp only [wholeTo]
    by_cases e : k = n
    · subst e; rw [h, Bool.and_false]
    · rw [ih (by omega), Bool.false_and]
theorem wholeTo_iff (s : Ab) (r n : Nat) : wholeTo s r n = true ↔ ∀ d, d < n → avB s d r = true := by
  induction n with
  | zero => simp [wholeTo]
  | succ n ih =>
    simp only [wholeTo, Bool.and_eq_true, ih]
    constructor
    · intro ⟨h1, h2⟩ d hd
      by_cases e : d = n
      · subst e; exact h2
      · exact h1 d (by omega)
    · intro h
      exact ⟨fun d hd => h d (by omega), h n (by omega)⟩
set_option maxRecDepth 100000 in
set_option maxHeartbeats 1000000 in
theorem isWhole_any (hb : Nat) (s : St) (r : Nat) (w : World) (h : HoardIn w hb s) (hr : r < 6) :
    Calls Tryz.prog 90 #[.pointer (some ⟨hb, 0, none⟩), .int .i64 r] w fun e w' => e = .returned (.bool (wholeB s r)) ∧ Below w.heap.size w w' := by
  have hD := h.ok.D4
  have hP := h.ok.P2
  have HH : Hid (HoardIn w hb s) := h
  clear h
  go_enter Tryz.func90, Tryz.ntmps90
  go_wp2_with fail
  go_loopw [5] (fun c wr => ∃ k : Nat, k ≤ s.D + s.P ∧ c = .int .i64 k ∧ Hid (wholeTo s r k = true) ∧ Below w.heap.size w wr) (fun c _ => s.D + s.P - (intOf c).toNat)
  case atStart => exact ⟨0, by omega, rfl, rfl, Below.refl _ _⟩
  case round =>
    obtain ⟨k, hk, rfl, hwh, hbel⟩ := hrel
    have h1 := HH.out.below hbel
    obtain ⟨c0, c1, _⟩ := h1.shape
    have hlt2 := h1.row.lt
    by_cases hlt : k < s.D + s.P
    · have hki : (k : Int) < (s.D : Int) + s.P := by omega
      have hk6 : (k : Int) < 6 := by omega
      have HA : Hid (∀ q, Calls Tryz.prog 76 #[.pointer (some ⟨hb, 4 + k * 32, none⟩), .int .i64 r] (wr.drewN q) fun e w' => e = .returned (.bool (avB s k r)) ∧ w' = wr.drewN q) := fun q => has_any hb s k r _ (h1.drewN q) (by omega) hr
      clear h1
      cases hav : avB s k r
      · rw [hav] at HA
        have HN : Hid (wholeB s r = false) := wholeTo_no s r k hav _ hlt
        go_wp2_with fail
        go_quiet (fail)
        go_wp2_with fail
        refine (HA.out _).mono ?_
        rintro e w2 ⟨rfl, rfl⟩
        go_wp2_with fail
        go_ret
        exact ⟨by rw [HN.out]; rfl, below_drewN hbel _⟩
      · rw [hav] at HA
        have HN : Hid (wholeTo s r (k + 1) = true) := (show _ = _ by simp only [wholeTo]; rw [hwh.out, hav]; rfl)
        go_wp2_with fail
        go_quiet (fail)
        go_wp2_with fail
        refine (HA.out _).mono ?_
        rintro e w2 ⟨rfl, rfl⟩
        go_wp2_with fail
        exact ⟨⟨k + 1, by omega, by go_num, HN, below_drewN hbel _⟩, by simp [intOf]; omega⟩
    · have hki : ¬ ((k : Int) < (s.D : Int) + s.P) := by omega
      have hke : k = s.D + s.P := by omega
      have HN : Hid (wholeB s r = true) := (show _ = _ by unfold wholeB; rw [← hke]; exact hwh.out)
      clear hke h1
      go_wp2_with fail
      go_quiet (fail)
      go_wp2_with fail
      go_ret
      exact ⟨by rw [HN.out]; rfl, below_drewN hbel _⟩
def eqTo (s : Ab) (r : Nat) : Nat → Bool
  | 0 => true
  | n + 1 => eqTo s r n && (msum s (s.D + n) r s.D).beq C4.zero
def eqHoldB (s : Ab) (r : Nat) : Bool := eqTo s r s.P
theorem eqTo_iff (s : Ab) (r n : Nat) : eqTo s r n = true ↔ ∀ p, p < n → msum s (s.D + p) r s.D = C4.zero := by
  induction n with
  | zero => simp [eqTo]
  | succ n ih =>
    simp only [eqTo, Bool.and_eq_true, ih, C4.beq_iff]
    constructor
    · intro ⟨h1, h2⟩ d hd
      by_cases e : d = n
      · subst e; exact h2
      · exact h1 d (by omega)
    · intro h
      exact ⟨fun d hd => h d (by omega), h n (by omega)⟩
/-- Cells by their bytes. -/
theorem cell_run (x y : C4) (b : Bool) (h : (x.beq y) = b) (w : World) : (Op.equalIn 10000 75 (.agg #[.int .u8 x.b0, .int .u8 x.b1, .int .u8 x.b2, .int .u8 x.b3]) (.agg #[.int .u8 y.b0, .int .u8 y.b1, .int .u8 y.b2, .int .u8 y.b3])).run Tryz.prog w = .ok b w := by
  rw [eqCell]
  have : (((x.b0 : Int) == (y.b0 : Int)) && ((x.b1 : Int) == (y.b1 : Int)) && ((x.b2 : Int) == (y.b2 : Int)) && ((x.b3 : Int) == (y.b3 : Int))) = (x.beq y) := by
    rw [Bool.eq_iff_iff, C4.beq_iff]
    simp only [Bool.and_eq_true, beq_iff_eq]
    constructor
    · intro ⟨⟨⟨h0, h1⟩, h2⟩, h3⟩
      obtain ⟨x0, x1, x2, x3⟩ := x
      obtain ⟨y0, y1, y2, y3⟩ := y
      simp only [C4.mk.injEq]
      simp only at h0 h1 h2 h3
      omega
    · intro e; subst e; simp
  rw [this, h]
theorem cell_run0 (x : C4) (b : Bool) (h : (x.beq C4.zero) = b) (w : World) : (Op.equalIn 10000 75 (.agg #[.int .u8 x.b0, .int .u8 x.b1, .int .u8 x.b2, .int .u8 x.b3]) (.agg #[.int .u8 0, .int .u8 0, .int .u8 0, .int .u8 0])).run Tryz.prog w = .ok b w := cell_run x C4.zero b h w
set_option maxRecDepth 100000 in
set_option maxHeartbeats 1000000 in
theorem equationsHold_any (hb : Nat) (s : St) (r : Nat) (w : World) (h : HoardIn w hb s) (hr : r < 6) :
    Calls Tryz.prog 91 #[.pointer (some ⟨hb, 0, none⟩), .int .i64 r] w fun e w' => e = .returned (.bool (eqHoldB s r)) ∧ Below w.heap.size w w' := by
  have hD := h.ok.D4
  have hP := h.ok.P2
  have HH : Hid (HoardIn w hb s) := h
  have c00 := h.shape.1
  have hlt0 := h.row.lt
  clear h
  go_enter Tryz.func91, Tryz.ntmps91
  go_wp2_with fail
  clear c00 hlt0
  go_loopw [5] (fun c wr => ∃ (k d : Nat), k ≤ s.P ∧ Hid (d = s.D + k) ∧ d ≤ s.D + s.P ∧ c = .int .i64 d ∧ Hid (eqTo s r k = true) ∧ Below w.heap.size w wr) (fun c _ => s.D + s.P - (intOf c).toNat)
  case atStart => exact ⟨0, s.D, by omega, (show _ = _ by omega), by omega, rfl, rfl, Below.refl _ _⟩
  case round =>
    obtain ⟨k, d, hk, hdk, hds, rfl, heq, hbel⟩ := hrel
    have h1 := HH.out.below hbel
    obtain ⟨c0, c1, _⟩ := h1.shape
    have hlt2 := h1.row.lt
    by_cases hlt : d < s.D + s.P
    · have hki : (d : Int) < (s.D : Int) + s.P := by omega
      have hk6 : (d : Int) < 6 := by omega
      have hkp : k + 1 ≤ s.P := by have := hdk.out; omega
      have HDD : Hid (d + 1 = s.D + (k + 1)) := (show _ = _ by have := hdk.out; omega)
      have HG : Hid (∀ W, HoardIn W hb s → Calls Tryz.prog 115 #[.pointer (some ⟨hb, 0, none⟩), .int .i64 d, .int .i64 r] W fun e w' => e = .returned (.agg #[.int .u8 (msum s d r s.D).b0, .int .u8 (msum s d r s.D).b1, .int .u8 (msum s d r s.D).b2, .int .u8 (msum s d r s.D).b3]) ∧ Below W.heap.size W w') := fun W hW => gap_any hb s d r W hW (by omega) hr
      have HE : Hid (eqTo s r (k + 1) = ((msum s d r s.D).beq C4.zero)) := (show _ = _ by simp only [eqTo]; rw [heq.out, hdk.out, Bool.true_and])
      have HF : Hid (((msum s d r s.D).beq C4.zero) = false → eqHoldB s r = false) := fun hh => by
        have : ¬ (eqHoldB s r = true) := fun he => by
          have := (eqTo_iff s r s.P).1 he k (by omega)
          rw [← hdk.out] at this
          rw [this] at hh
          have := (C4.beq_iff C4.zero C4.zero).2 rfl
          rw [this] at hh; cases hh
        simpa using this
      generalize msum s d r s.D = x at *
      have H1 : Hid (HoardIn wr hb s) := h1
      clear h1 heq
      cases hx : (x.beq C4.zero)
      · have hrun := cell_run0 x false hx
        have HF2 : Hid (eqHoldB s r = false) := HF.out hx
        clear HF HE hx
        go_wp2_with fail
        go_quiet (fail)
        go_wp2_with fail
        refine (HG.out _ (H1.out.drewN _)).mono ?_
        rintro e w2 ⟨rfl, k2⟩
        have K2 : Hid (Below w.heap.size w w2) := (below_drewN hbel _).trans (k2.mono hbel.size)
        clear k2
        go_wp2_with fail
        go_ret
        exact ⟨by rw [HF2.out]; rfl, K2.out⟩
      · have hrun := cell_run0 x true hx
        have HE2 : Hid (eqTo s r (k + 1) = true) := HE.out.trans hx
        clear HF HE hx
        go_wp2_with fail
        go_quiet (fail)
        go_wp2_with fail
        refine (HG.out _ (H1.out.drewN _)).mono ?_
        rintro e w2 ⟨rfl, k2⟩
        have K2 : Hid (Below w.heap.size w w2) := (below_drewN hbel _).trans (k2.mono hbel.size)
        clear k2
        go_wp2_with fail
        exact ⟨⟨k + 1, d + 1, hkp, HDD, by omega, by go_num, HE2, K2.out⟩, by simp [intOf]; omega⟩
    · have hki : ¬ ((d : Int) < (s.D : Int) + s.P) := by omega
      have HN : Hid (eqHoldB s r = true) := (show _ = _ by unfold eqHoldB; rw [show s.P = k by have := hdk.out; omega]; exact heq.out)
      clear h1
      go_wp2_with fail
      go_quiet (fail)
      go_wp2_with fail
      go_ret
      exact ⟨by rw [HN.out]; rfl, below_drewN hbel _⟩
/-- The one change of a cell that may mend a row. -/
def mendC (s : Ab) (d r : Nat) : C4 := if s.D ≤ d then msum s d r s.D else msum s s.D r s.D
def shareN (s : Ab) (p d : Nat) : Nat := if d < s.D then wgt s p d else if d = p then 1 else 0
theorem mendC_ok {s : Ab} (h : s.ok) (d r : Nat) : (mendC s d r).ok := by
  unfold mendC
  split
  · exact msum_ok h d r s.D h.D4
  · exact msum_ok h s.D r s.D h.D4
theorem shareN_lt (s : Ab) (h : s.ok) (p d : Nat) : shareN s p d < 256 := by
  unfold shareN
  split
  · exact wgt_lt s p d (by have := h.D4; omega)
  · split <;> omega
set_option maxRecDepth 100000 in
set_option maxHeartbeats 1000000 in
theorem mending_any (hb : Nat) (s : St) (d r : Nat) (w : World) (h : HoardIn w hb s) (hd : d < s.D + s.P) (hr : r < 6) :
    Calls Tryz.prog 117 #[.pointer (some ⟨hb, 0, none⟩), .int .i64 d, .int .i64 r] w fun e w' => e = .returned (mendC s d r).val ∧ Below w.heap.size w w' := by
  have hD := h.ok.D4
  have hP := h.ok.P2
  have HH : Hid (HoardIn w hb s) := h
  have hlt0 := h.row.lt
  have HA : Hid (∀ o, HoardIn (w.alloc o) hb s) := fun o => h.below ((Below.refl _ _).alloc (Nat.le_refl _) o)
  unfold mendC
  by_cases hp : s.D ≤ d
  · have hip : isParityB s d = true := by simp only [isParityB, decide_eq_true_eq]; omega
    have HIP : Hid (∀ W, HoardIn W hb s → Calls Tryz.prog 78 #[.pointer (some ⟨hb, 0, none⟩), .int .i64 d] W fun e w' => e = .returned (.bool true) ∧ Below W.heap.size W w' ∧ HoardIn w' hb s) := fun W hW => isParity_t hb s d W hW hp hd
    have HG : Hid (∀ W, HoardIn W hb s → Calls Tryz.prog 115 #[.pointer (some ⟨hb, 0, none⟩), .int .i64 d, .int .i64 r] W fun e w' => e = .returned (.agg #[.int .u8 (msum s d r s.D).b0, .int .u8 (msum s d r s.D).b1, .int .u8 (msum s d r s.D).b2, .int .u8 (msum s d r s.D).b3]) ∧ Below W.heap.size W w') := fun W hW => gap_any hb s d r W hW (by omega) hr
    rw [if_pos hp]
    generalize msum s d r s.D = x at *
    clear h hip
    go_enter Tryz.func117, Tryz.ntmps117
    go_wp2_with fail
    refine (HIP.out _ (HA.out _)).mono ?_
    rintro e w1 ⟨rfl, k1, h1⟩
    go_wp2_with fail
    refine (HG.out _ h1).mono ?_
    rintro e w2 ⟨rfl, k2⟩
    have K1 : Below w.heap.size w w1 := ((Below.refl _ _).alloc (Nat.le_refl _) _).trans (k1.mono (by simp))
    have R2 : Hid (BoxAt w2 w.heap.size C4.zero) := ((BoxAt.new0 w _ rfl).below k1).below k2
    obtain ⟨e0, e1, e2, e3⟩ := R2.out.cells
    obtain ⟨q0, q1, q2, q3⟩ := R2.out.frz
    have hrl := R2.out.lt
    have K2 : Hid (Below w.heap.size w w2) := K1.trans (k2.mono K1.size)
    clear k1 k2 K1
    go_wp2_with fail
    refine bodyPost_ret (v := x.val) (by simp [results, Tryz.results117, go_sem, e0, e1, e2, e3, C4.val]) rfl ⟨rfl, ?_⟩
    exact below_set4 K2.out (Nat.le_refl _) _ _ _ _
  · have hip : isParityB s d = false := by simp only [isParityB, decide_eq_false_iff_not]; omega
    have HIP : Hid (∀ W, HoardIn W hb s → Calls Tryz.prog 78 #[.pointer (some ⟨hb, 0, none⟩), .int .i64 d] W fun e w' => e = .returned (.bool false) ∧ Below W.heap.size W w' ∧ HoardIn w' hb s) := fun W hW => by have := isParity_b hb s d W hW; rw [hip] at this; exact this
    have HG : Hid (∀ W, HoardIn W hb s → Calls Tryz.prog 115 #[.pointer (some ⟨hb, 0, none⟩), .int .i64 s.D, .int .i64 r] W fun e w' => e = .returned (.agg #[.int .u8 (msum s s.D r s.D).b0, .int .u8 (msum s s.D r s.D).b1, .int .u8 (msum s s.D r s.D).b2, .int .u8 (msum s s.D r s.D).b3]) ∧ Below W.heap.size W w') := fun W hW => gap_any hb s s.D r W hW (by omega) hr
    rw [if_neg hp]
    generalize msum s s.D r s.D = x at *
    clear h hip
    go_enter Tryz.func117, Tryz.ntmps117
    go_wp2_with fail
    refine (HIP.out _ (HA.out _)).mono ?_
    rintro e w1 ⟨rfl, k1, h1⟩
    have c00 := h1.shape.1
    have hlt1 := h1.row.lt
    go_wp2_with fail
    refine (HG.out _ h1).mono ?_
    rintro e w2 ⟨rfl, k2⟩
    have K1 : Below w.heap.size w w1 := ((Below.refl _ _).alloc (Nat.le_refl _) _).trans (k1.mono (by simp))
    have R2 : Hid (BoxAt w2 w.heap.size C4.zero) := ((BoxAt.new0 w _ rfl).below k1).below k2
    obtain ⟨e0, e1, e2, e3⟩ := R2.out.cells
    obtain ⟨q0, q1, q2, q3⟩ := R2.out.frz
    have hrl := R2.out.lt
    have K2 : Hid (Below w.heap.size w w2) := K1.trans (k2.mono K1.size)
    clear k1 k2 K1 c00 hlt1
    go_wp2_with fail
    refine bodyPost_ret (v := x.val) (by simp [results, Tryz.results117, go_sem, e0, e1, e2, e3, C4.val]) rfl ⟨rfl, ?_⟩
    exact below_set4 K2.out (Nat.le_refl _) _ _ _ _
set_option maxRecDepth 100000 in
set_option maxHeartbeats 1000000 in
theorem share_any (hb : Nat) (s : St) (p d : Nat) (w : World) (h : HoardIn w hb s) (hd : d < s.D + s.P) :
    Calls Tryz.prog 122 #[.pointer (some ⟨hb, 0, none⟩), .int .i64 p, .int .i64 d] w fun e w' => e = .returned (.int .u8 (shareN s p d : Nat)) ∧ Below w.heap.size w w' := by
  have hD := h.ok.D4
  have hP := h.ok.P2
  have HH : Hid (HoardIn w hb s) := h
  unfold shareN
  by_cases hp : s.D ≤ d
  · have HIP : Hid (∀ W, HoardIn W hb s → Calls Tryz.prog 78 #[.pointer (some ⟨hb, 0, none⟩), .int .i64 d] W fun e w' => e = .returned (.bool true) ∧ Below W.heap.size W w' ∧ HoardIn w' hb s) := fun W hW => isParity_t hb s d W hW hp hd
    rw [if_neg (by omega)]
    clear h
    by_cases e : d = p
    · subst e
      rw [if_pos rfl]
      go_enter Tryz.func122, Tryz.ntmps122
      go_wp2_with fail
      refine (HIP.out _ HH.out).mono ?_
      rintro e w1 ⟨rfl, k1, h1⟩
      go_wp2_with fail
      go_ret
      exact ⟨rfl, k1⟩
    · have hne : ((d : Int) == (p : Int)) = false := by rw [beq_eq_false_iff_ne]; omega
      rw [if_neg e]
      clear e
      go_enter Tryz.func122, Tryz.ntmps122
      go_wp2_with fail
      refine (HIP.out _ HH.out).mono ?_
      rintro e w1 ⟨rfl, k1, h1⟩
      go_wp2_with fail
      go_ret
      exact ⟨rfl, k1⟩
  · have hip : isParityB s d = false := by simp only [isParityB, decide_eq_false_iff_not]; omega
    have HIP : Hid (∀ W, HoardIn W hb s → Calls Tryz.prog 78 #[.pointer (some ⟨hb, 0, none⟩), .int .i64 d] W fun e w' => e = .returned (.bool false) ∧ Below W.heap.size W w' ∧ HoardIn w' hb s) := fun W hW => by have := isParity_b hb s d W hW; rw [hip] at this; exact this
    rw [if_pos (by omega)]
    have HW : Hid (∀ W, HoardIn W hb s → Calls Tryz.prog 112 #[.pointer (some ⟨hb, 0, none⟩), .int .i64 p, .int .i64 d] W fun e w' => e = .returned (.int .u8 (wgt s p d : Nat)) ∧ w' = W) := fun W hW => weight_any hb s p d W hW (by omega)
    generalize wgt s p d = wg at *
    clear h hip
    go_enter Tryz.func122, Tryz.ntmps122
    go_wp2_with fail
    refine (HIP.out _ HH.out).mono ?_
    rintro e w1 ⟨rfl, k1, h1⟩
    go_wp2_with fail
    refine (HW.out _ h1).mono ?_
    rintro e w2 ⟨rfl, rfl⟩
    go_wp2_with fail
    go_ret
    exact ⟨rfl, k1⟩
end Go.Proofs.YtfpoiikhhjdpdaaGreat
