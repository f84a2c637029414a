/- hoardkeep: cells: are two the same, what must a block hold. -/
import Derived.Test.YtfpoiikhhjdpdabKStart
namespace Go.Proofs.Ytfpoiikhhjdpdab
open Go.RowKit
set_option linter.unusedVariables false
attribute [local go_sem ↓] Go.wp_at_zero Go.wp_at_succ
set_option maxRecDepth 100000 in
set_option maxHeartbeats 2000000 in
theorem sameCell_eq (x : C4) (w : World) :
    Calls Try.prog 19 #[x.val, x.val] w fun e w' => e = .returned (.bool true) ∧ Below w.heap.size w w' := by
  obtain ⟨x0, x1, x2, x3⟩ := x
  unfold C4.val
  go_enter Try.func19, Try.ntmps19
  go_wp2
  refine wp_loop_rounds 5 ?_
  iterate 4 (rw [rounds_succ]; go_wp2; go_quiet (fail); go_wp2)
  rw [rounds_succ]
  go_wp2
  go_ret
  exact ⟨rfl, by repeat (first | exact Below.refl _ _ | refine below_drewN ?_ _ | refine Below.drew ?_ | refine Below.alloc ?_ (by simp <;> omega) _)⟩
set_option maxRecDepth 100000 in
set_option maxHeartbeats 2000000 in
theorem kblock_any {w0 : World} (kb bb hb : Nat) (s : St) (f : Nat → Nat) (V : Nat → Value) (lo : Nat → Bool) (bu : Nat → Nat → Bool) (d r : Nat) (w : World) (h : KeepAt w0 w kb bb hb s f V lo bu) (hd : d < s.D) (hr : r < s.R) :
    Calls Try.prog 17 #[.pointer (some ⟨kb, 0, none⟩), .int .i64 d, .int .i64 r] w fun e w' => e = .returned (blkC s.D f d r).val ∧ Below w.heap.size w w' := by
  obtain ⟨hs, hs4⟩ := h.size
  have hD := h.hoard.ok.D4
  have hR := h.hoard.ok.R6
  have hbl : (r * s.D + d) * 4 + 4 ≤ s.D * s.R * 4 := by
    have : r * s.D + d < s.R * s.D := by
      have : (r + 1) * s.D ≤ s.R * s.D := Nat.mul_le_mul_right _ hr
      rw [Nat.add_mul] at this; omega
    rw [Nat.mul_comm s.R s.D] at this
    omega
  have HK : Hid (KeepAt w0 w kb bb hb s f V lo bu) := h
  have HB : Hid (∀ i, i < 4 → (blkC s.D f d r).at i = f ((r * s.D + d) * 4 + i)) := fun i hi => blkC_at _ _ _ _ _ hi
  clear h
  have hrd : ((r * s.D + d : Nat) : Int) = (r : Int) * s.D + d := by simp
  generalize hx : r * s.D + d = x at *
  generalize blkC s.D f d r = Z at *
  generalize hN : s.D * s.R * 4 = N at *
  have HN : Hid (s.D * s.R * 4 = N) := hN
  have hrd2 : (r : Int) * s.D + d = (x : Int) := hrd.symm
  have hrs : 0 ≤ (r : Int) * s.D ∧ (r : Int) * s.D ≤ 96 := ⟨Int.mul_nonneg (by omega) (by omega), by omega⟩
  have hxN : x * 4 + 4 ≤ N := hbl
  clear hx hN hrd hbl
  go_enter Try.func17, Try.ntmps17
  go_wp2
  go_loopw [8] (fun i wr => ∃ k : Nat, k ≤ 4 ∧ i = .int .i64 k ∧ Below w.heap.size w wr ∧ Hid (wr.rowIs (w.heap.size + 1) 48 4 (fun j => .int .u8 (if j < k then f (x * 4 + j) else 0 : Nat))) ∧ Hid (BoxAt wr w.heap.size C4.zero)) (fun i _ => 4 - (intOf i).toNat)
  case atStart =>
    refine ⟨0, by omega, rfl, ?_, ?_, ?_⟩
    · repeat (first | exact Below.refl _ _ | refine Below.drew ?_ | refine Below.alloc ?_ (by simp <;> omega) _)
    · exact (box_row0 _ _ (by simp)).congr (fun j _ => by simp)
    · exact (BoxAt.new0 w _ rfl).alloc _
  case round =>
    obtain ⟨k, hk, rfl, hbel, hrow, hres⟩ := hrel
    have hK1 := HK.out.of_below hbel
    by_cases hlt : k < 4
    · have hlti : (k : Int) < 4 := by omega
      obtain ⟨_, c1, _, _, _, c5, _⟩ := hK1.cells
      rw [HN.out] at c5
      have cb := hK1.byteCell (x * 4 + k) (by rw [HN.out]; omega)
      have hcell := hrow.out.cell (i := k) (by omega)
      have hfz := hrow.out.frozen k
      have hrl := hrow.out.lt
      have hltk := hK1.row.lt
      have hltb := hK1.bytes.lt
      have hbd := HK.out.bound (x * 4 + k)
      have hxi : (x : Int) * 4 + k < (N : Int) := by omega
      have hneb : w.heap.size + 1 ≠ bb := by have := HK.out.bytes.lt; omega
      clear hK1
      generalize hfb : f (x * 4 + k) = bv at *
      have HFB : Hid (f (x * 4 + k) = bv) := hfb
      clear hfb
      go_wp2_with fail
      go_region
      all_goals
        go_wp2_with fail
        refine ⟨⟨k + 1, by omega, by go_num, (hbel.setCell (by simp) _).drew, ?_, ?_⟩, by simp [intOf]; omega⟩
        · refine World.rowIs.of_block (w := wr.setCell ⟨w.heap.size + 1, k, none⟩ (.int .u8 (bv : Nat))) ((hrow.out.set k _).congr ?_) rfl
          intro j hj
          by_cases e : j = k
          · subst e
            rw [if_pos rfl, if_pos (by omega), HFB.out]
          · rw [if_neg e]
            by_cases hjk : j < k
            · rw [if_pos hjk, if_pos (by omega)]
            · rw [if_neg hjk, if_neg (by omega)]
        · exact (hres.out.setOther (by simp) _).drew
    · have hk4 : k = 4 := by omega
      subst hk4
      clear hK1
      have c0 := hrow.out.cell (i := 0) (by omega)
      have c1 := hrow.out.cell (i := 1) (by omega)
      have c2 := hrow.out.cell (i := 2) (by omega)
      have c3 := hrow.out.cell (i := 3) (by omega)
      simp only [Nat.reduceLT, if_true] at c0 c1 c2 c3
      have z0 := HB.out 0 (by omega)
      have z1 := HB.out 1 (by omega)
      have z2 := HB.out 2 (by omega)
      have z3 := HB.out 3 (by omega)
      rw [← z0] at c0
      rw [← z1] at c1
      rw [← z2] at c2
      rw [← z3] at c3
      have y0 : Z.at 0 = Z.b0 := rfl
      have y1 : Z.at 1 = Z.b1 := rfl
      have y2 : Z.at 2 = Z.b2 := rfl
      have y3 : Z.at 3 = Z.b3 := rfl
      rw [y0] at c0
      rw [y1] at c1
      rw [y2] at c2
      rw [y3] at c3
      clear z0 z1 z2 z3 y0 y1 y2 y3
      obtain ⟨r0, r1, r2, r3⟩ := hres.out.cells
      obtain ⟨g0, g1, g2, g3⟩ := hres.out.frz
      go_wp2_with fail
      refine bodyPost_ret (v := Z.val) (by simp [results, Try.results17, go_sem, r0, r1, r2, r3, C4.val]) rfl ⟨rfl, ?_⟩
      exact below_set4 hbel (Nat.le_refl _) _ _ _ _
end Go.Proofs.Ytfpoiikhhjdpdab
