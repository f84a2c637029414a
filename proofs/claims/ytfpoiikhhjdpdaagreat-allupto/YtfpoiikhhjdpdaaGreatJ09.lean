import Derived.Test.YtfpoiikhhjdpdaaGreatJ08
import Derived.Deep.MidRow
/- A drive is lost, a drive is put in its place. -/
namespace Go.Proofs.YtfpoiikhhjdpdaaGreat
open Go.RowKit
set_option linter.unusedVariables false
attribute [local go_sem ↓] Go.wp_at_zero Go.wp_at_succ
theorem rowIs_setCells {b t n : Nat} : ∀ (vs : List Value) (o : Nat) (w : World) (f : Nat → Value), w.rowIs b t n f → (w.setCells b o vs).rowIs b t n (fun j => if o ≤ j ∧ j < o + vs.length then (vs[j - o]?).getD undef else f j)
  | [], o, w, f, h => h.congr (fun j hj => by rw [if_neg (by simp only [List.length_nil]; omega)])
  | v :: vs, o, w, f, h => by
    have h1 := rowIs_setCells vs (o + 1) _ _ (h.set o v)
    refine h1.congr (fun j hj => ?_)
    by_cases e : j = o
    · subst e
      rw [if_neg (by omega), if_pos rfl, if_pos (by simp)]
      simp
    · rw [if_neg e]
      by_cases h2 : o + 1 ≤ j ∧ j < o + 1 + vs.length
      · rw [if_pos h2, if_pos (by simp only [List.length_cons]; omega)]
        rw [show j - o = (j - (o + 1)) + 1 by omega, List.getElem?_cons_succ]
      · rw [if_neg h2, if_neg (by simp only [List.length_cons]; omega)]
theorem heap_setCells (b : Nat) : ∀ (vs : List Value) (o : Nat) (w : World) (k : Nat), k ≠ b → (w.setCells b o vs).heap[k]? = w.heap[k]?
  | [], _, _, _, _ => rfl
  | v :: vs, o, w, k, h => by
    rw [World.setCells, heap_setCells b vs (o + 1) _ k h, Below.heap_setCell _ _ _ _ h]
theorem kept_setCells {S : Nat → Prop} {b : Nat} : ∀ (vs : List Value) (o : Nat) (a w : World), S b → Kept S a w → Kept S a (w.setCells b o vs)
  | [], _, _, _, _, h => h
  | v :: vs, o, a, w, hS, h => kept_setCells vs (o + 1) a _ hS (h.setCell (.inl hS) _)
theorem dv_new (s : St) (d : Nat) (lo : Bool) (n d' j : Nat) (h : d' ≠ d) : dv (s.newDrive d lo n) d' j = dv s d' j := by
  unfold dv St.newDrive
  simp only [h, if_false]
theorem HoardIn.newDrive {w : World} {hb : Nat} {s : St} (h : HoardIn w hb s) (d : Nat) (lo : Bool) (n : Nat) (hd : d < 6) (vs : List Value) (hl : vs.length = 32) (hv : ∀ j, j < 32 → vs[j]? = some (dv (s.newDrive d lo n) d j)) :
    HoardIn (w.setCells hb (4 + d * 32) vs) hb (s.newDrive d lo n) := by
  refine ⟨⟨h.ok.D1, h.ok.D4, h.ok.P1, h.ok.P2, h.ok.R1, h.ok.R6, h.ok.M1, h.ok.M8, ?_, ?_, ?_, ?_⟩, ?_, ?_, ?_, ?_⟩
  · intro d' r; simp only [St.newDrive]; split
    · exact C4.zero_ok
    · exact h.ok.cells d' r
  · intro d'; simp only [St.newDrive]; split
    · simp
    · exact h.ok.len d'
  · intro d'; simp only [St.newDrive]; split
    · simp
    · exact h.ok.recs d'
  · intro d' hd'; simp only [St.newDrive] at hd' ⊢; split
    · rfl
    · exact h.ok.data d' hd'
  · refine (rowIs_setCells vs _ w _ h.row).congr (fun j hj => ?_)
    rw [hv_drive s (s.newDrive d lo n) d rfl rfl rfl rfl rfl rfl rfl (fun d' j hne => dv_new s d lo n d' j hne) j, hl]
    by_cases hc : 4 + d * 32 ≤ j ∧ j < 4 + d * 32 + 32
    · rw [if_pos hc, if_pos (by omega), hv _ (by omega)]; rfl
    · rw [if_neg hc, if_neg (by omega)]
  · intro d' hd'
    simp only [St.newDrive]
    by_cases e : d' = d
    · simp only [e, if_true]; exact World.ownsRow_nil _ _ _ _
    · simp only [e, if_false]
      exact (h.logs d' hd').of_block (fun g hg => heap_setCells hb vs _ w g (fun e => h.apart d' hd' (by rw [hg, e])))
  · intro d' hd'
    simp only [St.newDrive]
    split
    · simp [Value.ownBlock]
    · exact h.apart d' hd'
  · intro d1 d2 g h1 h2 hne
    simp only [St.newDrive]
    by_cases e1 : d1 = d
    · simp only [e1, if_true]; simp [Value.ownBlock]
    · by_cases e2 : d2 = d
      · simp only [e2, if_true]; simp [Value.ownBlock]
      · simp only [e1, e2, if_false]; exact h.apart2 d1 d2 g h1 h2 hne
theorem HoardIn.there {w : World} {hb : Nat} {s : St} (h : HoardIn w hb s) (d : Nat) (hd : d < 6) : w.there hb (4 + d * 32) 32 := fun j hj =>
  ⟨by rw [h.row.cell (i := 4 + d * 32 + j) (by omega)]; rfl, h.row.frozen _⟩
theorem foot_new {hb : Nat} {s : St} {d : Nat} {lo : Bool} {n k : Nat} (h : Foot hb (s.newDrive d lo n) k) : Foot hb s k := by
  rcases h with h | ⟨d', hd', h⟩
  · exact .inl h
  · simp only [St.newDrive] at h
    split at h
    · simp [Value.ownBlock] at h
    · exact .inr ⟨d', hd', h⟩
def lostCells : Array Value := #[.bool true, .bool false, .bool false, .bool false, .bool false, .bool false, .bool false, .int .u8 0, .int .u8 0, .int .u8 0, .int .u8 0, .int .u8 0, .int .u8 0, .int .u8 0, .int .u8 0, .int .u8 0, .int .u8 0, .int .u8 0, .int .u8 0, .int .u8 0, .int .u8 0, .int .u8 0, .int .u8 0, .int .u8 0, .int .u8 0, .int .u8 0, .int .u8 0, .int .u8 0, .int .u8 0, .int .u8 0, .int .u8 0, .slice none 0 0]
theorem lostCells_size : lostCells.size = 32 := rfl
theorem infoLost : (Tryz.prog.info? 97).map (·.size) = some lostCells.size := by kernel_rfl
theorem lostOne : lostCells.all (·.oneCell') = true := by kernel_rfl
theorem infoDrive : (Tryz.prog.info? 97).map (·.size) = some 32 := by kernel_rfl
set_option maxRecDepth 100000 in
set_option maxHeartbeats 2000000 in
theorem Fail_ok (hb : Nat) (s : St) (d : Nat) (w : World) (h : HoardAt w hb s) (hd : d < s.D + s.P) (hl : s.lost d = false) :
    Calls Tryz.prog 46 #[.pointer (some ⟨hb, 0, none⟩), .int .i64 d] w fun e w' => e = .returned (.int .i64 0) ∧ Went hb s w (s.newDrive d true 0) w' := by
  have hdn := h.downAt
  have HUP : Hid (s.aux = aux0) := h.up
  replace h := h.toHoardIn
  have hlt0 := h.row.lt
  have hD := h.ok.D4
  have hP := h.ok.P2
  have hdi : (d : Int) < 6 := by omega
  have hd6 : d < 6 := by omega
  have HLS : Hid (s.lost d = false) := hl
  have HH : Hid (HoardIn w hb s) := h
  clear hl
  go_enter Tryz.func46, Tryz.ntmps46
  go_wp2_with fail
  refine (isDrive_t hb s d _ h hd).mono ?_
  rintro e w1 ⟨rfl, k1, h1⟩
  have hls := h1.lostAt d hd6
  rw [HLS.out] at hls
  have hlt := h1.row.lt
  have HT : Hid (w1.there hb (4 + d * 32) lostCells.size) := h1.there d hd6
  have H1 : Hid (HoardIn w1 hb s) := h1
  clear h h1
  go_wp2_with ((with_reducible refine (id ?_ : wpList Tryz.prog _ _ ({ dst := _, op := Op.store 97 _ _, type := _, pos := _, after := _, guard := _ } :: _) _ _)); go_must (refine wpList_store_mid (by rfl) _ _ _ (by rfl) hb (4 + d * 32) lostCells (by rfl) (by rfl) HT.out infoLost lostOne ?_))
  have hN := H1.out.newDrive d true 0 hd6 lostCells.toList rfl (fun j hj => by
    rcases (by omega : j = 0 ∨ j = 1 ∨ j = 2 ∨ j = 3 ∨ j = 4 ∨ j = 5 ∨ j = 6 ∨ j = 7 ∨ j = 8 ∨ j = 9 ∨ j = 10 ∨ j = 11 ∨ j = 12 ∨ j = 13 ∨ j = 14 ∨ j = 15 ∨ j = 16 ∨ j = 17 ∨ j = 18 ∨ j = 19 ∨ j = 20 ∨ j = 21 ∨ j = 22 ∨ j = 23 ∨ j = 24 ∨ j = 25 ∨ j = 26 ∨ j = 27 ∨ j = 28 ∨ j = 29 ∨ j = 30 ∨ j = 31) with rfl | rfl | rfl | rfl | rfl | rfl | rfl | rfl | rfl | rfl | rfl | rfl | rfl | rfl | rfl | rfl | rfl | rfl | rfl | rfl | rfl | rfl | rfl | rfl | rfl | rfl | rfl | rfl | rfl | rfl | rfl | rfl <;> simp [dv, St.newDrive, C4.zero, C4.at, lostCells])
  have hK := kept_setCells (S := Foot hb s) lostCells.toList (4 + d * 32) w w1 (.inl rfl) (Kept.of_below k1)
  have hK2 : Hid _ := hK
  have hN2 : Hid _ := hN
  clear hK hN
  go_wp2_with fail
  go_ret
  exact ⟨rfl, Went.of ⟨hN2.out, hK2.out, fun k hk => .inl (foot_new hk)⟩ HUP.out rfl⟩
set_option maxRecDepth 100000 in
set_option maxHeartbeats 2000000 in
theorem Fail_no (hb : Nat) (s : St) (d : Int) (w : World) (h : HoardAt w hb s) (hd : isDriveB s d = false) :
    Calls Tryz.prog 46 #[.pointer (some ⟨hb, 0, none⟩), .int .i64 d] w fun e w' => e = .returned (.int .i64 6) ∧ Below w.heap.size w w' := by
  have hdn := h.downAt
  have HUP : Hid (s.aux = aux0) := h.up
  replace h := h.toHoardIn
  have hlt0 := h.row.lt
  go_enter Tryz.func46, Tryz.ntmps46
  go_wp2_with fail
  refine (isDrive_b hb s d _ h).mono ?_
  rintro e w1 ⟨rfl, k1, h1⟩
  go_wp2_with fail
  go_ret
  exact ⟨rfl, k1⟩
set_option maxRecDepth 100000 in
set_option maxHeartbeats 2000000 in
theorem Fail_lost (hb : Nat) (s : St) (d : Nat) (w : World) (h : HoardAt w hb s) (hd : d < s.D + s.P) (hl : s.lost d = true) :
    Calls Tryz.prog 46 #[.pointer (some ⟨hb, 0, none⟩), .int .i64 d] w fun e w' => e = .returned (.int .i64 7) ∧ Below w.heap.size w w' := by
  have hdn := h.downAt
  have HUP : Hid (s.aux = aux0) := h.up
  replace h := h.toHoardIn
  have hlt0 := h.row.lt
  have hD := h.ok.D4
  have hP := h.ok.P2
  have hdi : (d : Int) < 6 := by omega
  have hd6 : d < 6 := by omega
  have HLS : Hid (s.lost d = true) := hl
  clear hl
  go_enter Tryz.func46, Tryz.ntmps46
  go_wp2_with fail
  refine (isDrive_t hb s d _ h hd).mono ?_
  rintro e w1 ⟨rfl, k1, h1⟩
  have hls := h1.lostAt d hd6
  rw [HLS.out] at hls
  have hlt := h1.row.lt
  clear h1 h
  go_wp2_with fail
  go_ret
  exact ⟨rfl, k1⟩
set_option maxRecDepth 100000 in
set_option maxHeartbeats 2000000 in
theorem Replace_no (hb : Nat) (s : St) (d : Int) (w : World) (h : HoardAt w hb s) (hd : isDriveB s d = false) :
    Calls Tryz.prog 48 #[.pointer (some ⟨hb, 0, none⟩), .int .i64 d] w fun e w' => e = .returned (.int .i64 6) ∧ Below w.heap.size w w' := by
  have hdn := h.downAt
  have HUP : Hid (s.aux = aux0) := h.up
  replace h := h.toHoardIn
  have hlt0 := h.row.lt
  go_enter Tryz.func48, Tryz.ntmps48
  go_wp2_with fail
  refine (isDrive_b hb s d _ h).mono ?_
  rintro e w1 ⟨rfl, k1, h1⟩
  go_wp2_with fail
  go_ret
  exact ⟨rfl, k1⟩
set_option maxRecDepth 100000 in
set_option maxHeartbeats 2000000 in
theorem Replace_live (hb : Nat) (s : St) (d : Nat) (w : World) (h : HoardAt w hb s) (hd : d < s.D + s.P) (hl : s.lost d = false) :
    Calls Tryz.prog 48 #[.pointer (some ⟨hb, 0, none⟩), .int .i64 d] w fun e w' => e = .returned (.int .i64 7) ∧ Below w.heap.size w w' := by
  have hdn := h.downAt
  have HUP : Hid (s.aux = aux0) := h.up
  replace h := h.toHoardIn
  have hlt0 := h.row.lt
  have hD := h.ok.D4
  have hP := h.ok.P2
  have hdi : (d : Int) < 6 := by omega
  have hd6 : d < 6 := by omega
  have HLS : Hid (s.lost d = false) := hl
  clear hl
  go_enter Tryz.func48, Tryz.ntmps48
  go_wp2_with fail
  refine (isDrive_t hb s d _ h hd).mono ?_
  rintro e w1 ⟨rfl, k1, h1⟩
  have hls := h1.lostAt d hd6
  rw [HLS.out] at hls
  have hlt := h1.row.lt
  clear h1 h
  go_wp2_with fail
  go_ret
  exact ⟨rfl, k1⟩
/-- A blank drive's places. -/
def blankV (n j : Nat) : Value := if j = 0 then .bool false else if j < 7 then .bool (decide (j - 1 < n)) else if j < 31 then .int .u8 0 else .slice none 0 0
theorem blankV_eq (s : St) (d n j : Nat) : blankV n j = dv (s.newDrive d false n) d j := by
  unfold blankV dv St.newDrive
  simp only [if_true]
  by_cases h0 : j = 0
  · rw [if_pos h0, if_pos h0]
  · rw [if_neg h0, if_neg h0]
    by_cases h1 : j < 7
    · rw [if_pos h1, if_pos h1]
    · rw [if_neg h1, if_neg h1]
      by_cases h2 : j < 31
      · rw [if_pos h2, if_pos h2]
        have h3 : (j - 7) % 4 = 0 ∨ (j - 7) % 4 = 1 ∨ (j - 7) % 4 = 2 ∨ (j - 7) % 4 = 3 := by omega
        rcases h3 with h | h | h | h <;> rw [h] <;> rfl
      · rw [if_neg h2, if_neg h2]
def blankL (n : Nat) : List Value := (List.range 32).map (blankV n)
end Go.Proofs.YtfpoiikhhjdpdaaGreat
