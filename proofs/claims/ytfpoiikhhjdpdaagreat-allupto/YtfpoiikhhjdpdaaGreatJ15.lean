import Derived.Test.YtfpoiikhhjdpdaaGreatJ14
/- Corrupt and Scrub. -/
namespace Go.Proofs.YtfpoiikhhjdpdaaGreat
open Go.RowKit
set_option linter.unusedVariables false
attribute [local go_sem ↓] Go.wp_at_zero Go.wp_at_succ
/-- A cell with another byte. -/
def C4.put (c : C4) (i v : Nat) : C4 := C4.mk4 (fun j => if j = i then v else c.at j)
theorem C4.at_put (c : C4) (i v j : Nat) (hj : j < 4) : (c.put i v).at j = if j = i then v else c.at j := C4.at_mk4 _ j hj
theorem C4.put_ok {c : C4} (h : c.ok) (i v : Nat) (hv : v < 256) : (c.put i v).ok := C4.ok_of (fun j hj => by
  rw [C4.at_put _ _ _ _ hj]
  split
  · exact hv
  · exact C4.at_lt h j)
theorem hv_put (s : St) (d r i v : Nat) (hd : d < 6) (hr : r < 6) (hi : i < 4) (j : Nat) (hj : j < 211) :
    hv (s.setCell d r ((s.cell d r).put i v)) j = if j = 4 + d * 32 + 7 + r * 4 + i then .int .u8 v else hv s j := by
  rw [hv_setCell s d r _ hd hr j hj]
  have e : ∀ k, k < 4 → j = 4 + d * 32 + 7 + r * 4 + k → Value.int .u8 (((s.cell d r).put i v).at k : Nat) = if j = 4 + d * 32 + 7 + r * 4 + i then .int .u8 (v : Nat) else hv s j := by
    intro k hk hj
    subst hj
    rw [C4.at_put _ _ _ _ hk, hv_cell s d r k hd hr hk]
    by_cases h : k = i
    · subst h; rw [if_pos rfl, if_pos rfl]
    · rw [if_neg h, if_neg (by omega)]
  by_cases e0 : j = 4 + d * 32 + 7 + r * 4
  · rw [if_pos e0]; exact e 0 (by omega) e0
  · rw [if_neg e0]
    by_cases e1 : j = 4 + d * 32 + 7 + r * 4 + 1
    · rw [if_pos e1]; exact e 1 (by omega) e1
    · rw [if_neg e1]
      by_cases e2 : j = 4 + d * 32 + 7 + r * 4 + 2
      · rw [if_pos e2]; exact e 2 (by omega) e2
      · rw [if_neg e2]
        by_cases e3 : j = 4 + d * 32 + 7 + r * 4 + 3
        · rw [if_pos e3]; exact e 3 (by omega) e3
        · rw [if_neg e3, if_neg (by omega)]
theorem HoardIn.setByte {w : World} {hb : Nat} {s : St} (h : HoardIn w hb s) (d r i v : Nat) (hd : d < 6) (hr : r < 6) (hi : i < 4) (hv : v < 256) :
    HoardIn (w.setCell ⟨hb, 4 + d * 32 + 7 + r * 4 + i, none⟩ (.int .u8 v)) hb (s.setCell d r ((s.cell d r).put i v)) := by
  refine ⟨⟨h.ok.D1, h.ok.D4, h.ok.P1, h.ok.P2, h.ok.R1, h.ok.R6, h.ok.M1, h.ok.M8, ?_, h.ok.len, h.ok.recs, h.ok.data⟩, ?_, ?_, h.apart, h.apart2⟩
  · intro d' r'
    simp only [St.setCell]
    split
    · exact C4.put_ok (h.ok.cells d r) i v hv
    · exact h.ok.cells d' r'
  · exact (h.row.set _ _).congr (fun j hj => (hv_put s d r i v hd hr hi j hj).symm)
  · intro d' hd'
    exact (h.logs d' hd').of_block (fun g hg => Below.heap_setCell _ _ _ _ (fun e => h.apart d' hd' (by rw [hg, e])))
theorem HoardIn.byte {w : World} {hb : Nat} {s : St} (h : HoardIn w hb s) (d r i : Nat) (hd : d < 6) (hr : r < 6) (hi : i < 4) : w.cell? ⟨hb, 4 + d * 32 + 7 + r * 4 + i, none⟩ = some (.int .u8 ((s.cell d r).at i)) :=
  (h.row.cell (i := 4 + d * 32 + 7 + r * 4 + i) (by omega)).trans (congrArg some (hv_cell s d r i hd hr hi))
set_option maxRecDepth 100000 in
set_option maxHeartbeats 1000000 in
theorem Corrupt_no (hb : Nat) (s : St) (d r i : Int) (v : Int) (w : World) (h : HoardAt w hb s) (hd : isDriveB s d = false) :
    Calls Tryz.prog 56 #[.pointer (some ⟨hb, 0, none⟩), .int .i64 d, .int .i64 r, .int .i64 i, .int .u8 v] w fun e w' => e = .returned (.int .i64 6) ∧ Below w.heap.size w w' := by
  have hdn := h.downAt
  have HUP : Hid (s.aux = aux0) := h.up
  replace h := h.toHoardIn
  have hlt0 := h.row.lt
  go_enter Tryz.func56, Tryz.ntmps56
  go_wp2_with fail
  refine (isDrive_b hb s d _ h).mono ?_
  rintro e w1 ⟨rfl, k1, h1⟩
  go_wp2_with fail
  go_ret
  exact ⟨rfl, k1⟩
set_option maxRecDepth 100000 in
set_option maxHeartbeats 1000000 in
theorem Corrupt_arg (hb : Nat) (s : St) (d : Nat) (r i : Int) (v : Int) (w : World) (h : HoardAt w hb s) (hd : d < s.D + s.P) (hr : isRowB s r = false ∨ i < 0 ∨ 4 ≤ i) :
    Calls Tryz.prog 56 #[.pointer (some ⟨hb, 0, none⟩), .int .i64 d, .int .i64 r, .int .i64 i, .int .u8 v] w fun e w' => e = .returned (.int .i64 1) ∧ Below w.heap.size w w' := by
  have hdn := h.downAt
  have HUP : Hid (s.aux = aux0) := h.up
  replace h := h.toHoardIn
  have hlt0 := h.row.lt
  go_enter Tryz.func56, Tryz.ntmps56
  go_wp2_with fail
  refine (isDrive_t hb s d _ h hd).mono ?_
  rintro e w1 ⟨rfl, k1, h1⟩
  have HR : Hid (Calls Tryz.prog 75 #[.pointer (some ⟨hb, 0, none⟩), .int .i64 r] w1 fun e w' => e = .returned (.bool (isRowB s r)) ∧ w' = w1) := isRow_any hb s r w1 h1
  cases hir : isRowB s r
  · rw [hir] at HR
    clear hr
    go_wp2_with fail
    refine HR.out.mono ?_
    rintro e w2 ⟨rfl, rfl⟩
    go_wp2_with fail
    go_ret
    exact ⟨rfl, k1⟩
  · rw [hir] at HR
    have hr2 : i < 0 ∨ 4 ≤ i := by
      rcases hr with h | h
      · rw [hir] at h; cases h
      · exact h
    clear hr
    by_cases hi : i < 0
    · have hi2 : decide (i < 0) = true := by simpa using hi
      go_wp2_with fail
      refine HR.out.mono ?_
      rintro e w2 ⟨rfl, rfl⟩
      go_wp2_with fail
      go_ret
      exact ⟨rfl, k1⟩
    · have hi2 : decide (i < 0) = false := by simpa using hi
      have hi4 : 4 ≤ i := by omega
      have hi3 : decide (4 ≤ i) = true := by simpa using hi4
      clear hr2
      go_wp2_with fail
      refine HR.out.mono ?_
      rintro e w2 ⟨rfl, rfl⟩
      go_wp2_with fail
      go_ret
      exact ⟨rfl, k1⟩
set_option maxRecDepth 100000 in
set_option maxHeartbeats 1000000 in
theorem Corrupt_state (hb : Nat) (s : St) (d r i : Nat) (v : Int) (w : World) (h : HoardAt w hb s) (hd : d < s.D + s.P) (hr : r < s.R) (hi : i < 4) (hav : avB s d r = false) :
    Calls Tryz.prog 56 #[.pointer (some ⟨hb, 0, none⟩), .int .i64 d, .int .i64 r, .int .i64 i, .int .u8 v] w fun e w' => e = .returned (.int .i64 7) ∧ Below w.heap.size w w' := by
  have hdn := h.downAt
  have HUP : Hid (s.aux = aux0) := h.up
  replace h := h.toHoardIn
  have hlt0 := h.row.lt
  have hD := h.ok.D4
  have hP := h.ok.P2
  have hR := h.ok.R6
  have hdi : (d : Int) < 6 := by omega
  have hii : (i : Int) < 4 := by omega
  go_enter Tryz.func56, Tryz.ntmps56
  go_wp2_with fail
  refine (isDrive_t hb s d _ h hd).mono ?_
  rintro e w1 ⟨rfl, k1, h1⟩
  go_wp2_with fail
  refine (isRow_t hb s r w1 h1 hr).mono ?_
  rintro e w2 ⟨rfl, rfl⟩
  have hlt2 := h1.row.lt
  go_wp2_with fail
  refine (has_any hb s d r _ h1 (by omega) (by omega)).mono ?_
  rintro e w3 ⟨rfl, rfl⟩
  rw [hav]
  go_wp2_with fail
  go_ret
  exact ⟨rfl, k1⟩
set_option maxRecDepth 100000 in
set_option maxHeartbeats 1000000 in
theorem Corrupt_ok (hb : Nat) (s : St) (d r i v : Nat) (w : World) (h : HoardAt w hb s) (hd : d < s.D + s.P) (hr : r < s.R) (hi : i < 4) (hv : v < 256) (hav : avB s d r = true) :
    Calls Tryz.prog 56 #[.pointer (some ⟨hb, 0, none⟩), .int .i64 d, .int .i64 r, .int .i64 i, .int .u8 v] w fun e w' => e = .returned (.int .i64 0) ∧ Went hb s w (s.setCell d r ((s.cell d r).put i ((s.cell d r).at i ^^^ v))) w' := by
  have hdn := h.downAt
  have HUP : Hid (s.aux = aux0) := h.up
  replace h := h.toHoardIn
  have hlt0 := h.row.lt
  have hD := h.ok.D4
  have hP := h.ok.P2
  have hR := h.ok.R6
  have hd6 : d < 6 := by omega
  have hr6 : r < 6 := by omega
  have hdi : (d : Int) < 6 := by omega
  have hii : (i : Int) < 4 := by omega
  have hri : (r : Int) < 6 := by omega
  have hcl := C4.at_lt (h.ok.cells d r) i
  have HH : Hid (HoardIn w hb s) := h
  have HXV : Hid ((s.cell d r).at i ^^^ v < 256) := Hd.xor_lt _ _ hcl hv
  have hxx := u8_xor_nat ((s.cell d r).at i) v hcl hv
  have HSET : Hid (∀ W, HoardIn W hb s → HoardIn (W.setCell ⟨hb, 4 + d * 32 + 7 + r * 4 + i, none⟩ (.int .u8 ((s.cell d r).at i ^^^ v : Nat))) hb (s.setCell d r ((s.cell d r).put i ((s.cell d r).at i ^^^ v)))) := fun W hW => hW.setByte d r i _ hd6 hr6 hi HXV.out
  have HAV : Hid (avB s d r = true) := hav
  clear hav
  go_enter Tryz.func56, Tryz.ntmps56
  go_wp2_with fail
  refine (isDrive_t hb s d _ h hd).mono ?_
  rintro e w1 ⟨rfl, k1, h1⟩
  go_wp2_with fail
  refine (isRow_t hb s r w1 h1 hr).mono ?_
  rintro e w2 ⟨rfl, rfl⟩
  have hlt2 := h1.row.lt
  go_wp2_with fail
  refine (has_any hb s d r _ h1 (by omega) (by omega)).mono ?_
  rintro e w3 ⟨rfl, rfl⟩
  rw [HAV.out]
  have b0 := h1.byte d r i hd6 hr6 hi
  have f0 := h1.row.frozen (4 + d * 32 + 7 + r * 4 + i)
  have H1 : Hid (HoardIn w3 hb s) := h1
  clear h h1
  generalize hcc : (s.cell d r).at i = cb at *
  have HCC : Hid ((s.cell d r).at i = cb) := hcc
  clear hcc
  have H4 : Hid (HoardIn (w3.setCell ⟨hb, 4 + d * 32 + 7 + r * 4 + i, none⟩ (.int .u8 (cb ^^^ v : Nat))) hb (s.setCell d r ((s.cell d r).put i (cb ^^^ v)))) := HSET.out _ H1.out
  have K4 : Hid (Kept (Foot hb s) w3 (w3.setCell ⟨hb, 4 + d * 32 + 7 + r * 4 + i, none⟩ (.int .u8 (cb ^^^ v : Nat)))) := (Kept.refl _ _).setCell (.inl (.inl rfl)) _
  have HLV : Hid ((s.setCell d r ((s.cell d r).put i (cb ^^^ v))).lv = s.lv ∧ (s.setCell d r ((s.cell d r).put i (cb ^^^ v))).aux = aux0 ∧ (s.setCell d r ((s.cell d r).put i (cb ^^^ v))).brk = s.brk) := ⟨rfl, HUP.out, rfl⟩
  go_wp2_with fail
  go_region
  all_goals
    go_wp2_with fail
    go_ret
    have H5 := H4.out
    have K5 := K4.out
    generalize w3.setCell ⟨hb, 4 + d * 32 + 7 + r * 4 + i, none⟩ (.int .u8 (cb ^^^ v : Nat)) = w5 at *
    rw [HCC.out]
    exact ⟨rfl, Went.of ((WentIn.below HH.out k1).trans ⟨by first | exact H5 | exact H5.of_block (fun _ _ => rfl), by first | exact K5 | exact K5.drew, fun k hk => .inl (foot_lay HLV.out.1 hk)⟩) HLV.out.2.1 HLV.out.2.2⟩
set_option maxRecDepth 100000 in
set_option maxHeartbeats 1000000 in
theorem Corrupt_down (hb : Nat) (s : St) (d r i : Int) (v : Int) (w : World) (h : HoardIn w hb s) (hd : s.aux.down = true) :
    Calls Tryz.prog 56 #[.pointer (some ⟨hb, 0, none⟩), .int .i64 d, .int .i64 r, .int .i64 i, .int .u8 v] w fun e w' => e = .returned (.int .i64 3) ∧ Below w.heap.size w w' := by
  have hdn := h.downAt
  rw [hd] at hdn
  have hlt0 := h.row.lt
  clear h
  go_enter Tryz.func56, Tryz.ntmps56
  go_wp2_with fail
  go_ret
  exact ⟨rfl, Below.refl _ _⟩
set_option maxRecDepth 100000 in
set_option maxHeartbeats 1000000 in
theorem Scrub_down (hb : Nat) (s : St) (r : Int) (w : World) (h : HoardIn w hb s) (hd : s.aux.down = true) :
    Calls Tryz.prog 58 #[.pointer (some ⟨hb, 0, none⟩), .int .i64 r] w fun e w' => e = .returned (.tuple #[.int .i64 0, .int .i64 3]) ∧ Below w.heap.size w w' := by
  have hdn := h.downAt
  rw [hd] at hdn
  have hlt0 := h.row.lt
  clear h
  go_enter Tryz.func58, Tryz.ntmps58
  go_wp2_with fail
  go_ret2
  exact ⟨rfl, Below.refl _ _⟩
set_option maxRecDepth 100000 in
set_option maxHeartbeats 1000000 in
theorem Scrub_arg (hb : Nat) (s : St) (r : Int) (w : World) (h : HoardAt w hb s) (hr : isRowB s r = false) :
    Calls Tryz.prog 58 #[.pointer (some ⟨hb, 0, none⟩), .int .i64 r] w fun e w' => e = .returned (.tuple #[.int .i64 0, .int .i64 1]) ∧ Below w.heap.size w w' := by
  have hdn := h.downAt
  have HUP : Hid (s.aux = aux0) := h.up
  replace h := h.toHoardIn
  have hlt0 := h.row.lt
  have HR : Hid (Calls Tryz.prog 75 #[.pointer (some ⟨hb, 0, none⟩), .int .i64 r] w fun e w' => e = .returned (.bool false) ∧ w' = w) := (show Calls _ _ _ _ _ by have := isRow_any hb s r w h; rw [hr] at this; exact this)
  clear h
  go_enter Tryz.func58, Tryz.ntmps58
  go_wp2_with fail
  refine HR.out.mono ?_
  rintro e w2 ⟨rfl, rfl⟩
  go_wp2_with fail
  go_ret2
  exact ⟨rfl, Below.refl _ _⟩
set_option maxRecDepth 100000 in
set_option maxHeartbeats 1000000 in
theorem Scrub_state (hb : Nat) (s : St) (r : Nat) (w : World) (h : HoardAt w hb s) (hr : r < s.R) (hwh : wholeB s r = false) :
    Calls Tryz.prog 58 #[.pointer (some ⟨hb, 0, none⟩), .int .i64 r] w fun e w' => e = .returned (.tuple #[.int .i64 0, .int .i64 7]) ∧ Below w.heap.size w w' := by
  have hdn := h.downAt
  have HUP : Hid (s.aux = aux0) := h.up
  replace h := h.toHoardIn
  have hlt0 := h.row.lt
  have hR := h.ok.R6
  have HR := isRow_t hb s r w h hr
  have HW : Hid (∀ W, HoardIn W hb s → Calls Tryz.prog 90 #[.pointer (some ⟨hb, 0, none⟩), .int .i64 r] W fun e w' => e = .returned (.bool false) ∧ Below W.heap.size W w') := fun W hW => by have := isWhole_any hb s r W hW (by omega); rw [hwh] at this; exact this
  go_enter Tryz.func58, Tryz.ntmps58
  go_wp2_with fail
  refine HR.mono ?_
  rintro e w2 ⟨rfl, rfl⟩
  go_wp2_with fail
  refine (HW.out _ h).mono ?_
  rintro e w3 ⟨rfl, k3⟩
  go_wp2_with fail
  go_ret2
  exact ⟨rfl, k3⟩
set_option maxRecDepth 100000 in
set_option maxHeartbeats 1000000 in
theorem Scrub_fine (hb : Nat) (s : St) (r : Nat) (w : World) (h : HoardAt w hb s) (hr : r < s.R) (hwh : wholeB s r = true) (heq : eqHoldB s r = true) :
    Calls Tryz.prog 58 #[.pointer (some ⟨hb, 0, none⟩), .int .i64 r] w fun e w' => e = .returned (.tuple #[.int .i64 (-1), .int .i64 0]) ∧ Below w.heap.size w w' := by
  have hdn := h.downAt
  have HUP : Hid (s.aux = aux0) := h.up
  replace h := h.toHoardIn
  have hlt0 := h.row.lt
  have hR := h.ok.R6
  have HR := isRow_t hb s r w h hr
  have HW : Hid (∀ W, HoardIn W hb s → Calls Tryz.prog 90 #[.pointer (some ⟨hb, 0, none⟩), .int .i64 r] W fun e w' => e = .returned (.bool true) ∧ Below W.heap.size W w') := fun W hW => by have := isWhole_any hb s r W hW (by omega); rw [hwh] at this; exact this
  have HE : Hid (∀ W, HoardIn W hb s → Calls Tryz.prog 91 #[.pointer (some ⟨hb, 0, none⟩), .int .i64 r] W fun e w' => e = .returned (.bool true) ∧ Below W.heap.size W w') := fun W hW => by have := equationsHold_any hb s r W hW (by omega); rw [heq] at this; exact this
  go_enter Tryz.func58, Tryz.ntmps58
  go_wp2_with fail
  refine HR.mono ?_
  rintro e w2 ⟨rfl, rfl⟩
  go_wp2_with fail
  refine (HW.out _ h).mono ?_
  rintro e w3 ⟨rfl, k3⟩
  go_wp2_with fail
  refine (HE.out _ (h.below k3)).mono ?_
  rintro e w4 ⟨rfl, k4⟩
  go_wp2_with fail
  go_ret2
  exact ⟨rfl, k3.trans (k4.mono k3.size)⟩
set_option maxRecDepth 100000 in
set_option maxHeartbeats 1000000 in
theorem Scrub_bad (hb : Nat) (s : St) (r : Nat) (w : World) (h : HoardAt w hb s) (hr : r < s.R) (hwh : wholeB s r = true) (heq : eqHoldB s r = false) (hl : (explL s r (s.D + s.P)).length ≠ 1) :
    Calls Tryz.prog 58 #[.pointer (some ⟨hb, 0, none⟩), .int .i64 r] w fun e w' => e = .returned (.tuple #[.int .i64 0, .int .i64 8]) ∧ Below w.heap.size w w' := by
  have hdn := h.downAt
  have HUP : Hid (s.aux = aux0) := h.up
  replace h := h.toHoardIn
  have hlt0 := h.row.lt
  have hR := h.ok.R6
  have HR := isRow_t hb s r w h hr
  have HW : Hid (∀ W, HoardIn W hb s → Calls Tryz.prog 90 #[.pointer (some ⟨hb, 0, none⟩), .int .i64 r] W fun e w' => e = .returned (.bool true) ∧ Below W.heap.size W w') := fun W hW => by have := isWhole_any hb s r W hW (by omega); rw [hwh] at this; exact this
  have HE : Hid (∀ W, HoardIn W hb s → Calls Tryz.prog 91 #[.pointer (some ⟨hb, 0, none⟩), .int .i64 r] W fun e w' => e = .returned (.bool false) ∧ Below W.heap.size W w') := fun W hW => by have := equationsHold_any hb s r W hW (by omega); rw [heq] at this; exact this
  have HX : Hid (∀ W, HoardIn W hb s → Calls Tryz.prog 92 #[.pointer (some ⟨hb, 0, none⟩), .int .i64 r] W fun e w' => ∃ v, e = .returned v ∧ IntsAt w' W.heap.size v (explL s r (s.D + s.P)) ∧ Below W.heap.size W w') := fun W hW => explaining_any hb s r W hW (by omega)
  generalize explL s r (s.D + s.P) = L at *
  have hli : ((L.length : Int) != 1) = true := by rw [bne_iff_ne]; omega
  go_enter Tryz.func58, Tryz.ntmps58
  go_wp2_with fail
  refine HR.mono ?_
  rintro e w2 ⟨rfl, rfl⟩
  go_wp2_with fail
  refine (HW.out _ h).mono ?_
  rintro e w3 ⟨rfl, k3⟩
  go_wp2_with fail
  refine (HE.out _ (h.below k3)).mono ?_
  rintro e w4 ⟨rfl, k4⟩
  go_wp2_with fail
  refine (HX.out _ ((h.below k3).below k4)).mono ?_
  rintro e w5 ⟨v, rfl, hi, k5⟩
  obtain ⟨p, cap, rfl, _⟩ := hi.slice
  have K5 : Hid (Below w2.heap.size w2 w5) := (k3.trans (k4.mono k3.size)).trans (k5.mono (by have := k3.size; have := k4.size; omega))
  clear hl hi k3 k4 k5
  go_wp2_with fail
  go_ret2
  exact ⟨rfl, K5.out⟩
set_option maxRecDepth 100000 in
set_option maxHeartbeats 1000000 in
theorem Scrub_mends (hb : Nat) (s : St) (r d : Nat) (w : World) (h : HoardAt w hb s) (hr : r < s.R) (hwh : wholeB s r = true) (heq : eqHoldB s r = false) (hl : explL s r (s.D + s.P) = [d]) (hd : d < s.D + s.P) :
    Calls Tryz.prog 58 #[.pointer (some ⟨hb, 0, none⟩), .int .i64 r] w fun e w' => e = .returned (.tuple #[.int .i64 d, .int .i64 0]) ∧ Went hb s w (s.setCell d r ((s.cell d r).xor (mendC s d r))) w' := by
  have hdn := h.downAt
  have HUP : Hid (s.aux = aux0) := h.up
  replace h := h.toHoardIn
  have hlt0 := h.row.lt
  have hR := h.ok.R6
  have HR := isRow_t hb s r w h hr
  have HW : Hid (∀ W, HoardIn W hb s → Calls Tryz.prog 90 #[.pointer (some ⟨hb, 0, none⟩), .int .i64 r] W fun e w' => e = .returned (.bool true) ∧ Below W.heap.size W w') := fun W hW => by have := isWhole_any hb s r W hW (by omega); rw [hwh] at this; exact this
  have HE : Hid (∀ W, HoardIn W hb s → Calls Tryz.prog 91 #[.pointer (some ⟨hb, 0, none⟩), .int .i64 r] W fun e w' => e = .returned (.bool false) ∧ Below W.heap.size W w') := fun W hW => by have := equationsHold_any hb s r W hW (by omega); rw [heq] at this; exact this
  have HX : Hid (∀ W, HoardIn W hb s → Calls Tryz.prog 92 #[.pointer (some ⟨hb, 0, none⟩), .int .i64 r] W fun e w' => ∃ v, e = .returned v ∧ IntsAt w' W.heap.size v [d] ∧ Below W.heap.size W w') := fun W hW => by have := explaining_any hb s r W hW (by omega); rw [hl] at this; exact this
  have HM : Hid (∀ W, HoardIn W hb s → Calls Tryz.prog 93 #[.pointer (some ⟨hb, 0, none⟩), .int .i64 d, .int .i64 r] W fun e w' => e = .returned (.tuple #[]) ∧ WentIn hb s W (s.setCell d r ((s.cell d r).xor (mendC s d r))) w') := fun W hW => mend_any hb s d r W hW hd (by omega)
  have HAX : Hid ((s.setCell d r ((s.cell d r).xor (mendC s d r))).aux = aux0 ∧ (s.setCell d r ((s.cell d r).xor (mendC s d r))).brk = s.brk) := ⟨HUP.out, rfl⟩
  have HLV : Hid ((s.setCell d r ((s.cell d r).xor (mendC s d r))).lv = s.lv) := rfl
  clear hl
  generalize s.setCell d r ((s.cell d r).xor (mendC s d r)) = t at *
  go_enter Tryz.func58, Tryz.ntmps58
  go_wp2_with fail
  refine HR.mono ?_
  rintro e w2 ⟨rfl, rfl⟩
  go_wp2_with fail
  refine (HW.out _ h).mono ?_
  rintro e w3 ⟨rfl, k3⟩
  go_wp2_with fail
  refine (HE.out _ (h.below k3)).mono ?_
  rintro e w4 ⟨rfl, k4⟩
  go_wp2_with fail
  refine (HX.out _ ((h.below k3).below k4)).mono ?_
  rintro e w5 ⟨v, rfl, hi, k5⟩
  obtain ⟨p, cap, rfl, hc⟩ := hi.slice
  obtain ⟨b, rfl, hcell⟩ := hc 0 (by simp)
  simp only [List.getD_cons_zero, List.length_cons, List.length_nil, Nat.zero_add] at hcell hi
  have hbl : b < w5.heap.size := block_lt_of_cell hcell
  have hown : Hid (w4.heap.size ≤ b) := (show _ ≤ _ from (World.ownsRow.lt hi b rfl).1)
  have K5 : Below w2.heap.size w2 w5 := (k3.trans (k4.mono k3.size)).trans (k5.mono (by have := k3.size; have := k4.size; omega))
  have HK5 : Hid (Below w2.heap.size w2 w5) := K5
  have h5 := h.below K5
  have HNF : Hid (¬ Foot hb s b) := (show ¬ _ from fun hf => by have := ((h.below k3).below k4).foot_lt hf; have := hown.out; omega)
  have HH : Hid (HoardIn w2 hb s) := h
  have HCE : Hid (w5.cell? ⟨b, 0, none⟩ = some (.int .i64 d)) := hcell
  clear k3 k4 k5 hi hc K5 h
  go_wp2_with fail
  refine (HM.out _ h5).mono ?_
  rintro e w6 ⟨rfl, went⟩
  have hcell6 := went.kept.cell (p := ⟨b, 0, none⟩) HNF.out HCE.out
  have hbl6 := block_lt_of_cell hcell6
  have HWN : Hid (WentIn hb s w5 t w6) := went
  clear went hcell h5
  go_wp2_with fail
  go_ret2
  exact ⟨rfl, Went.of ((WentIn.below HH.out HK5.out).trans HWN.out) HAX.out.1 HAX.out.2⟩
end Go.Proofs.YtfpoiikhhjdpdaaGreat
