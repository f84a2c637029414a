/- A cell is laid, a cell is built, cells are rebuilt. -/
import Derived.Test.YtfpoiikhhjdpdabPSum
import Derived.Test.YtfpoiikhhjdpdabNotes
namespace Go.Proofs.Ytfpoiikhhjdpdab
open Go.RowKit
set_option linter.unusedVariables false
attribute [local go_sem ↓] Go.wp_at_zero Go.wp_at_succ
theorem foot_lay {hb : Nat} {s s' : St} (h : s'.lv = s.lv) {k : Nat} (hk : Foot hb s' k) : Foot hb s k := by
  rcases hk with h1 | ⟨d, hd, h1⟩
  · exact .inl h1
  · exact .inr ⟨d, hd, by rw [← h]; exact h1⟩
theorem went_from {hb : Nat} {s s' : St} {w W w2 : World} (k : WentIn hb s W s' w2) (h : W.heap = w.heap) (ho : W.os = w.os) (ht : W.tape = w.tape) (hp : W.output = w.output) : WentIn hb s w s' w2 :=
  ⟨k.at', ⟨k.kept.os.trans ho, k.kept.tape.trans ht, k.kept.output.trans hp, by have := k.kept.size; rwa [h] at this, fun i hi hs => by rw [k.kept.block i (by rw [h]; exact hi) hs, h]⟩, fun i hi => by have := k.foot i hi; rwa [h] at this⟩
/-- The state with a cell laid. -/
def St.layC (s : St) (d r : Nat) (c : C4) : St := (s.setCell d r c).setUb d r false
set_option maxRecDepth 100000 in
set_option maxHeartbeats 2000000 in
theorem lay_any (hb : Nat) (s : St) (d r : Nat) (c : C4) (w : World) (h : HoardIn w hb s) (hd : d < 6) (hr : r < 6) (hc : c.ok) :
    Calls Try.prog 66 #[.pointer (some ⟨hb, 4 + d * 32, none⟩), .int .i64 r, c.val] w fun e w' => e = .returned (.tuple #[]) ∧ WentIn hb s w (s.layC d r c) w' := by
  have hri : (r : Int) < 6 := by omega
  have HH : Hid (HoardIn w hb s) := h
  have hlt := h.row.lt
  obtain ⟨y0, y1, y2, y3⟩ := h.cell d r hd hr
  have q0 := h.row.frozen (4 + d * 32 + 7 + r * 4)
  have q1 := h.row.frozen (4 + d * 32 + 7 + r * 4 + 1)
  have q2 := h.row.frozen (4 + d * 32 + 7 + r * 4 + 2)
  have q3 := h.row.frozen (4 + d * 32 + 7 + r * 4 + 3)
  have u0 := h.ubAt d r hd hr
  have v0 := h.row.frozen (4 + d * 32 + 1 + r)
  clear h
  unfold C4.val
  go_enter Try.func66, Try.ntmps66
  go_wp2_with fail
  go_region
  all_goals
    go_wp2_with fail
    go_end0
    have k1 : Kept (Foot hb s) w (((((w.setCell ⟨hb, 4 + d * 32 + 7 + r * 4, none⟩ (.int .u8 c.b0)).setCell ⟨hb, 4 + d * 32 + 7 + r * 4 + 1, none⟩ (.int .u8 c.b1)).setCell ⟨hb, 4 + d * 32 + 7 + r * 4 + 2, none⟩ (.int .u8 c.b2)).setCell ⟨hb, 4 + d * 32 + 7 + r * 4 + 3, none⟩ (.int .u8 c.b3)).setCell ⟨hb, 4 + d * 32 + 1 + r, none⟩ (.bool false)) :=
      (((((Kept.refl _ _).setCell (.inl (.inl rfl)) _).setCell (.inl (.inl rfl)) _).setCell (.inl (.inl rfl)) _).setCell (.inl (.inl rfl)) _).setCell (.inl (.inl rfl)) _
    have h1 := (HH.out.setCell d r c hd hr hc).setUb d r false hd hr
    generalize ((((w.setCell ⟨hb, 4 + d * 32 + 7 + r * 4, none⟩ (.int .u8 c.b0)).setCell ⟨hb, 4 + d * 32 + 7 + r * 4 + 1, none⟩ (.int .u8 c.b1)).setCell ⟨hb, 4 + d * 32 + 7 + r * 4 + 2, none⟩ (.int .u8 c.b2)).setCell ⟨hb, 4 + d * 32 + 7 + r * 4 + 3, none⟩ (.int .u8 c.b3)).setCell ⟨hb, 4 + d * 32 + 1 + r, none⟩ (.bool false) = w1 at *
    refine ⟨rfl, h1.below ((Below.refl _ _).alloc (Nat.le_refl _) _).drew, (k1.alloc _).drew, fun k hk => .inl (foot_lay rfl hk)⟩
def rbC (s : Ab) (d r : Nat) : C4 := if s.D ≤ d then psum s d r s.D else holdC s d r
theorem rbC_ok {s : Ab} (h : s.ok) (d r : Nat) : (rbC s d r).ok := by
  unfold rbC
  split
  · exact psum_ok s d r s.D h.D4
  · exact holdC_ok h d r
/-- Is the cell to be built? -/
def rbB (s : Ab) (d r : Nat) : Bool := !(avB s d r || goneB s r)
def rbS (s : St) (d r : Nat) : St := if rbB s d r then s.layC d r (rbC s d r) else s
set_option maxRecDepth 100000 in
set_option maxHeartbeats 2000000 in
theorem rebuildCell_any (hb : Nat) (s : St) (d r : Nat) (w : World) (h : HoardIn w hb s) (hd : d < s.D + s.P) (hr : r < 6) :
    Calls Try.prog 43 #[.pointer (some ⟨hb, 0, none⟩), .int .i64 d, .int .i64 r] w fun e w' => e = .returned (.bool (rbB s d r)) ∧ WentIn hb s w (rbS s d r) w' := by
  have hD := h.ok.D4
  have hP := h.ok.P2
  have hd6 : d < 6 := by omega
  have hdi : (d : Int) < 6 := by omega
  have hlt := h.row.lt
  have HH : Hid (HoardIn w hb s) := h
  have HAV : Hid (∀ W, HoardIn W hb s → Calls Try.prog 45 #[.pointer (some ⟨hb, 4 + d * 32, none⟩), .int .i64 r] W fun e w' => e = .returned (.bool (avB s d r)) ∧ w' = W) := fun W hW => has_any hb s d r W hW (by omega) hr
  have HGO : Hid (∀ W, HoardIn W hb s → Calls Try.prog 64 #[.pointer (some ⟨hb, 0, none⟩), .int .i64 r] W fun e w' => e = .returned (.bool (goneB s r)) ∧ Below W.heap.size W w') := fun W hW => hasGone_any hb s r W hW hr
  have HRB : Hid (rbB s d r = !(avB s d r || goneB s r)) := rfl
  clear h
  unfold rbS
  cases hav : avB s d r
  · rw [hav] at HAV HRB
    cases hgo : goneB s r
    · rw [hgo] at HGO HRB
      have hrb : rbB s d r = true := HRB.out
      rw [hrb]
      have HLY : Hid (∀ W c, HoardIn W hb s → c.ok → Calls Try.prog 66 #[.pointer (some ⟨hb, 4 + d * 32, none⟩), .int .i64 r, .agg #[.int .u8 c.b0, .int .u8 c.b1, .int .u8 c.b2, .int .u8 c.b3]] W fun e w' => e = .returned (.tuple #[]) ∧ WentIn hb s W (s.layC d r c) w') := fun W c hW hc => lay_any hb s d r c W hW hd6 hr hc
      have HOK : Hid ((rbC s d r).ok) := rbC_ok HH.out.ok d r
      have HIP : Hid (∀ W, HoardIn W hb s → Calls Try.prog 60 #[.pointer (some ⟨hb, 0, none⟩), .int .i64 d] W fun e w' => e = .returned (.bool (isParityB s d)) ∧ Below W.heap.size W w' ∧ HoardIn w' hb s) := fun W hW => isParity_b hb s d W hW
      by_cases hpar : s.D ≤ d
      · have hip : isParityB s d = true := by simp only [isParityB, decide_eq_true_eq]; omega
        rw [hip] at HIP
        have HPS : Hid (∀ W, HoardIn W hb s → Calls Try.prog 65 #[.pointer (some ⟨hb, 0, none⟩), .int .i64 d, .int .i64 r] W fun e w' => e = .returned (rbC s d r).val ∧ Below W.heap.size W w') := fun W hW => by
          have := paritySum_any hb s d r W hW hd6 hr
          unfold rbC; rw [if_pos hpar]; exact this
        unfold C4.val at HPS
        generalize rbC s d r = Z at *
        go_enter Try.func43, Try.ntmps43
        go_wp2_with fail
        refine (HAV.out _ HH.out).mono ?_
        rintro e w1 ⟨rfl, rfl⟩
        go_wp2_with fail
        refine (HGO.out _ HH.out).mono ?_
        rintro e w2 ⟨rfl, k2⟩
        have h3 := (HH.out.below k2).below ((Below.refl _ _).alloc (Nat.le_refl _) (.cells #[.int .u8 0, .int .u8 0, .int .u8 0, .int .u8 0] 48))
        have K3 : Below w1.heap.size w1 (w2.alloc (.cells #[.int .u8 0, .int .u8 0, .int .u8 0, .int .u8 0] 48)) := k2.alloc k2.size _
        have B3 : Hid (BoxAt (w2.alloc (.cells #[.int .u8 0, .int .u8 0, .int .u8 0, .int .u8 0] 48)) w2.heap.size C4.zero) := BoxAt.new0 _ _ rfl
        have hs2 := k2.size
        go_wp2_with fail
        generalize w2.alloc (.cells #[.int .u8 0, .int .u8 0, .int .u8 0, .int .u8 0] 48) = w3 at *
        clear k2
        generalize w2.heap.size = xb at *
        refine (HIP.out _ h3).mono ?_
        rintro e w4 ⟨rfl, k4, h4⟩
        go_wp2_with fail
        refine (HPS.out _ h4).mono ?_
        rintro e w5 ⟨rfl, k5⟩
        have B5 := ((B3.out.below k4).below k5)
        have K5 : Below w1.heap.size w1 w5 := (K3.trans (k4.mono K3.size)).trans (k5.mono (by have := K3.size; have := k4.size; omega))
        obtain ⟨e0, e1, e2, e3⟩ := B5.cells
        obtain ⟨q0, q1, q2, q3⟩ := B5.frz
        have K6 := below_set4 K5 (g := xb) (by omega) (.int .u8 Z.b0) (.int .u8 Z.b1) (.int .u8 Z.b2) (.int .u8 Z.b3)
        have B6 := B5.set Z
        have HB6 : Hid (BoxAt ((((w5.setCell ⟨xb, 0, none⟩ (.int .u8 Z.b0)).setCell ⟨xb, 1, none⟩ (.int .u8 Z.b1)).setCell ⟨xb, 2, none⟩ (.int .u8 Z.b2)).setCell ⟨xb, 3, none⟩ (.int .u8 Z.b3)) xb Z) := B6
        clear B6
        have h6 := HH.out.below K6
        go_wp2_with fail
        generalize ((((w5.setCell ⟨xb, 0, none⟩ (.int .u8 Z.b0)).setCell ⟨xb, 1, none⟩ (.int .u8 Z.b1)).setCell ⟨xb, 2, none⟩ (.int .u8 Z.b2)).setCell ⟨xb, 3, none⟩ (.int .u8 Z.b3)) = w6 at *
        obtain ⟨m0, m1, m2, m3⟩ := HB6.out.cells
        go_region_with ((go_at_call 66; go_must (refine (HLY.out _ Z (h6.heap (by rfl)) HOK.out).mono ?_); rintro e w7 ⟨rfl, went⟩; have went2 : WentIn hb s w6 (s.layC d r Z) w7 := went_from went rfl rfl rfl rfl))
        all_goals
          go_wp2_with fail
          go_ret
          exact ⟨rfl, (WentIn.below HH.out K6).trans went2⟩
      · have hip : isParityB s d = false := by simp only [isParityB, decide_eq_false_iff_not]; omega
        rw [hip] at HIP
        have HPS : Hid (∀ W, HoardIn W hb s → Calls Try.prog 50 #[.pointer (some ⟨hb, 0, none⟩), .int .i64 d, .int .i64 r] W fun e w' => e = .returned (rbC s d r).val ∧ Below W.heap.size W w') := fun W hW => by
          have := holds_any hb s d r W hW (by omega) hr
          unfold rbC; rw [if_neg hpar]; exact this
        unfold C4.val at HPS
        generalize rbC s d r = Z at *
        go_enter Try.func43, Try.ntmps43
        go_wp2_with fail
        refine (HAV.out _ HH.out).mono ?_
        rintro e w1 ⟨rfl, rfl⟩
        go_wp2_with fail
        refine (HGO.out _ HH.out).mono ?_
        rintro e w2 ⟨rfl, k2⟩
        have h3 := (HH.out.below k2).below ((Below.refl _ _).alloc (Nat.le_refl _) (.cells #[.int .u8 0, .int .u8 0, .int .u8 0, .int .u8 0] 48))
        have K3 : Below w1.heap.size w1 (w2.alloc (.cells #[.int .u8 0, .int .u8 0, .int .u8 0, .int .u8 0] 48)) := k2.alloc k2.size _
        have B3 : Hid (BoxAt (w2.alloc (.cells #[.int .u8 0, .int .u8 0, .int .u8 0, .int .u8 0] 48)) w2.heap.size C4.zero) := BoxAt.new0 _ _ rfl
        have hs2 := k2.size
        go_wp2_with fail
        generalize w2.alloc (.cells #[.int .u8 0, .int .u8 0, .int .u8 0, .int .u8 0] 48) = w3 at *
        clear k2
        generalize w2.heap.size = xb at *
        refine (HIP.out _ h3).mono ?_
        rintro e w4 ⟨rfl, k4, h4⟩
        go_wp2_with fail
        refine (HPS.out _ h4).mono ?_
        rintro e w5 ⟨rfl, k5⟩
        have B5 := ((B3.out.below k4).below k5)
        have K5 : Below w1.heap.size w1 w5 := (K3.trans (k4.mono K3.size)).trans (k5.mono (by have := K3.size; have := k4.size; omega))
        obtain ⟨e0, e1, e2, e3⟩ := B5.cells
        obtain ⟨q0, q1, q2, q3⟩ := B5.frz
        have K6 := below_set4 K5 (g := xb) (by omega) (.int .u8 Z.b0) (.int .u8 Z.b1) (.int .u8 Z.b2) (.int .u8 Z.b3)
        have B6 := B5.set Z
        have HB6 : Hid (BoxAt ((((w5.setCell ⟨xb, 0, none⟩ (.int .u8 Z.b0)).setCell ⟨xb, 1, none⟩ (.int .u8 Z.b1)).setCell ⟨xb, 2, none⟩ (.int .u8 Z.b2)).setCell ⟨xb, 3, none⟩ (.int .u8 Z.b3)) xb Z) := B6
        clear B6
        have h6 := HH.out.below K6
        go_wp2_with fail
        generalize ((((w5.setCell ⟨xb, 0, none⟩ (.int .u8 Z.b0)).setCell ⟨xb, 1, none⟩ (.int .u8 Z.b1)).setCell ⟨xb, 2, none⟩ (.int .u8 Z.b2)).setCell ⟨xb, 3, none⟩ (.int .u8 Z.b3)) = w6 at *
        obtain ⟨m0, m1, m2, m3⟩ := HB6.out.cells
        go_region_with ((go_at_call 66; go_must (refine (HLY.out _ Z (h6.heap (by rfl)) HOK.out).mono ?_); rintro e w7 ⟨rfl, went⟩; have went2 : WentIn hb s w6 (s.layC d r Z) w7 := went_from went rfl rfl rfl rfl))
        all_goals
          go_wp2_with fail
          go_ret
          exact ⟨rfl, (WentIn.below HH.out K6).trans went2⟩
    · rw [hgo] at HGO HRB
      have hrb : rbB s d r = false := HRB.out
      rw [hrb]
      go_enter Try.func43, Try.ntmps43
      go_wp2_with fail
      refine (HAV.out _ HH.out).mono ?_
      rintro e w1 ⟨rfl, rfl⟩
      go_wp2_with fail
      refine (HGO.out _ HH.out).mono ?_
      rintro e w2 ⟨rfl, k2⟩
      go_wp2_with fail
      go_ret
      exact ⟨rfl, WentIn.below HH.out k2⟩
  · rw [hav] at HAV HRB
    have hrb : rbB s d r = false := HRB.out
    rw [hrb]
    go_enter Try.func43, Try.ntmps43
    go_wp2_with fail
    refine (HAV.out _ HH.out).mono ?_
    rintro e w1 ⟨rfl, rfl⟩
    go_wp2_with fail
    go_ret
    exact ⟨rfl, WentIn.below HH.out (Below.refl _ _)⟩
end Go.Proofs.Ytfpoiikhhjdpdab
