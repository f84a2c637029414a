import Derived.Test.YtfpoiikhhjdpdaaGreatJ54
import Derived.Test.YtfpoiikhhjdpdaaGreatJ04
import Derived.Test.YtfpoiikhhjdpdaaGreatJ20
/- The document: explains. -/
namespace Go.Proofs.YtfpoiikhhjdpdaaGreat
open Go.RowKit
set_option linter.unusedVariables false
attribute [local go_sem ↓] Go.wp_at_zero Go.wp_at_succ
/-- Do all equations hold at a byte where it is u? -/
def fineB (a : Ab) (d r i u : Nat) : Bool := rHold (a.putB d r i u) (List.range a.P) r i [] (fun _ => 0) a.P
theorem range_getD (n k : Nat) (h : k < n) : (List.range n).getD k 0 = k := by
  rw [List.getD_eq_getElem?_getD, List.getElem?_range h]; rfl
theorem putB_ok {a : Ab} (h : a.ok) (d r i u : Nat) (hu : u < 256) : (a.putB d r i u).ok := by
  refine ⟨h.D1, h.D4, h.P1, h.P2, h.R1, h.R6, h.M1, h.M8, ?_, h.len, h.recs, h.data⟩
  intro d' r'
  rw [putB_cell]
  split
  · exact C4.put_ok (h.cells d r) i u hu
  · exact h.cells d' r'
theorem fineB_iff (a : Ab) (hok : a.ok) (d r i u : Nat) (hd : d < a.D + a.P) (hi : i < 4) (hu : u < 256) (hav : ∀ c, c < a.D → avB a c r = true) : fineB a d r i u = true ↔ (exP a d r i ∧ u = (a.cell d r).at i ^^^ (mendC a d r).at i) := by
  rw [← put_hold a hok d r i u hd hi hu hav]
  have h1 := hold_whole (a.putB d r i u) (putB_ok hok d r i u hu) r i (fun _ => 0) (List.range a.P) hav (by rw [List.length_range]; rfl) (fun k hk => range_getD _ _ hk)
  rw [List.length_range] at h1
  exact h1
theorem putB_self (a : Ab) (d r i : Nat) (hi : i < 4) : a.putB d r i ((a.cell d r).at i) = a := by
  unfold Ab.putB
  have : (a.cell d r).put i ((a.cell d r).at i) = a.cell d r := C4.ext' (fun j hj => by
    rw [C4.at_put _ _ _ _ hj]
    split
    · rename_i e; rw [e]
    · rfl)
  rw [this, setCell_self]
theorem putB_put (a : Ab) (d r i u v : Nat) : (a.putB d r i u).putB d r i v = a.putB d r i v := by
  unfold Ab.putB
  rw [Ab.setCell_same, Ab.setCell_setCell]
  congr 1
  refine C4.ext' (fun j hj => ?_)
  rw [C4.at_put _ _ _ _ hj, C4.at_put _ _ _ _ hj, C4.at_put _ _ _ _ hj]
  split
  · rfl
  · rfl
theorem putB_back (a : Ab) (d r i u : Nat) : (a.putB d r i u).setCell d r (a.cell d r) = a := by
  unfold Ab.putB
  rw [Ab.setCell_setCell, setCell_self]
/-- What explains gives. -/
def explC (a : Ab) (d r : Nat) : C4 := if explB a d r then (a.cell d r).xor (mendC a d r) else a.cell d r
theorem mixC_ok {c x : C4} (hc : c.ok) (hx : x.ok) (m : Nat) : (mixC c x m).ok := C4.ok_of (fun j hj => by
  rw [mixC_at _ _ _ _ hj]
  split
  · exact Hd.xor_lt _ _ (C4.at_lt hc j) (C4.at_lt hx j)
  · exact C4.at_lt hc j)
theorem range_ints (k : Nat) : intsOf (List.range (k + 1)) = intsOf (List.range k) ++ [.int .i64 k] := by
  unfold intsOf
  rw [List.range_succ, List.map_append]; rfl
set_option maxRecDepth 100000 in
set_option maxHeartbeats 4000000 in
theorem rexplains_any (yb : Nat) (a : Ab) (V : Nat → Value) (left : Int) (dn : Bool) (d r : Nat) (w : World) (h : RefIn w yb a V left dn) (hd : d < a.D + a.P) (hr : r < a.R) (hav : ∀ c, c < a.D → avB a c r = true) :
    Calls Tryz.prog 94 #[.pointer (some ⟨yb, 0, none⟩), .int .i64 d, .int .i64 r] w fun e w' => e = .returned (.tuple #[(explC a d r).val, .bool (explB a d r)]) ∧ RWent yb a V w a V left dn w' := by
  have HH : Hid (RefIn w yb a V left dn) := h
  have hP2 := h.ok.P2
  have hlt := h.row.lt
  obtain ⟨_, c1, _, _, c4, _⟩ := h.cells
  obtain ⟨g, cap, e0, hg, hgy, hdr⟩ := h.drive
  obtain ⟨_, _, d2, _⟩ := hdr d hd
  obtain ⟨gc, capc, ec, hgc, hfz, hce⟩ := h.cellsOf d hd
  have hcy : gc ≠ yb := fun e => h.ap (2 + 3 * d) (by omega) (by rw [ec, e]; rfl)
  have hcg : gc ≠ g := fun e => h.ap2 (2 + 3 * d) 0 g (by omega) (by omega) (by omega) (by rw [ec, e]; rfl) (by rw [e0]; rfl)
  have x0 : w.cell? ⟨gc, r * 4, none⟩ = some (.int .u8 (a.cell d r).b0) := hce r 0 hr (by omega)
  have x1 : w.cell? ⟨gc, r * 4 + 1, none⟩ = some (.int .u8 (a.cell d r).b1) := hce r 1 hr (by omega)
  have x2 : w.cell? ⟨gc, r * 4 + 2, none⟩ = some (.int .u8 (a.cell d r).b2) := hce r 2 hr (by omega)
  have x3 : w.cell? ⟨gc, r * 4 + 3, none⟩ = some (.int .u8 (a.cell d r).b3) := hce r 3 hr (by omega)
  rw [e0] at c4
  rw [ec] at d2
  have hdi : (d : Int) < ((a.D + a.P : Nat) : Int) := by omega
  have hri : (r : Int) < (a.R : Int) := by omega
  have hd6 : d < 6 := by have := h.ok.D4; omega
  have hr6 : r < 6 := by have := h.ok.R6; omega
  have HEC : Hid (V (2 + 3 * d) = .slice (some ⟨gc, 0, none⟩) a.R capc) := ec
  have HGC : Hid (RFoot yb a V gc) := .inr ⟨2 + 3 * d, by omega, by rw [ec]; rfl⟩
  have HFI : Hid (∀ i u, i < 4 → u < 256 → (fineB a d r i u = true ↔ (exP a d r i ∧ u = (a.cell d r).at i ^^^ (mendC a d r).at i))) := fun i u hi hu => fineB_iff a h.ok d r i u hd hi hu hav
  have HCO : Hid ((a.cell d r).ok) := h.ok.cells d r
  have HMO : Hid ((mendC a d r).ok) := mendC_ok h.ok d r
  have HXI : Hid (explB a d r = true ↔ ∀ i, i < 4 → exP a d r i) := explB_iff a d r
  have HHO : Hid (∀ (i u : Nat) (pp : Option Addr) (cp : Nat) (W : World), i < 4 → u < 256 → RefIn W yb (a.putB d r i u) V left dn → NumsAt W pp (List.range a.P) → Calls Tryz.prog 118 #[.pointer (some ⟨yb, 0, none⟩), .slice pp a.P cp, .int .i64 a.P, .int .i64 r, .int .i64 i, .slice none 0 0, .slice none 0 0] W fun e w' => e = .returned (.bool (fineB a d r i u)) ∧ Below W.heap.size W w') := fun i u pp cp W hi hu hW hnum => by
    have h3 := rhold_any yb (a.putB d r i u) V left dn (List.range a.P) a.P r i [] (fun _ => 0) pp none none cp 0 0 0 W hW hr hi hnum (fun k hk => by rw [List.length_range] at hk; rw [range_getD _ _ hk]; exact hk) (by rw [List.length_range]; exact Nat.le_refl _) (by rw [List.length_range]; omega) (fun k hk => by simp at hk) (fun k hk => by omega) (by simp) (by simp)
    rw [List.length_range] at h3
    exact h3
  have HSB : Hid (∀ (i u v : Nat) (W : World), i < 4 → v < 256 → RefIn W yb (a.putB d r i u) V left dn → RefIn (W.setCell ⟨gc, r * 4 + i, none⟩ (.int .u8 (v : Nat))) yb (a.putB d r i v) V left dn) := fun i u v W hi hv hW => by
    have h3 := hW.setByte d r i v hd hr hi hv gc capc ec
    rw [putB_put] at h3; exact h3
  have HSC : Hid (∀ (i u : Nat) (W : World), RefIn W yb (a.putB d r i u) V left dn → RefIn ((((W.setCell ⟨gc, r * 4, none⟩ (.int .u8 (a.cell d r).b0)).setCell ⟨gc, r * 4 + 1, none⟩ (.int .u8 (a.cell d r).b1)).setCell ⟨gc, r * 4 + 2, none⟩ (.int .u8 (a.cell d r).b2)).setCell ⟨gc, r * 4 + 3, none⟩ (.int .u8 (a.cell d r).b3)) yb a V left dn) := fun i u W hW => by
    have h3 := hW.setC d r (a.cell d r) hd hr (h.ok.cells d r) gc capc ec
    rw [putB_back] at h3; exact h3
  have HCE : Hid (∀ (i u : Nat) (W : World), i < 4 → RefIn W yb (a.putB d r i u) V left dn → W.cell? ⟨gc, r * 4, none⟩ = some (.int .u8 ((a.putB d r i u).cell d r).b0) ∧ W.cell? ⟨gc, r * 4 + 1, none⟩ = some (.int .u8 ((a.putB d r i u).cell d r).b1) ∧ W.cell? ⟨gc, r * 4 + 2, none⟩ = some (.int .u8 ((a.putB d r i u).cell d r).b2) ∧ W.cell? ⟨gc, r * 4 + 3, none⟩ = some (.int .u8 ((a.putB d r i u).cell d r).b3) ∧ W.cell? ⟨gc, r * 4 + i, none⟩ = some (.int .u8 (((a.putB d r i u).cell d r).at i)) ∧ (∀ j, W.frozen? ⟨gc, j, none⟩ = false)) := fun i u W hi hW => by
    obtain ⟨gc', capc', ec', _, hfz', hce'⟩ := hW.cellsOf d hd
    have ecc : (Value.slice (some ⟨gc', 0, none⟩) a.R capc') = .slice (some ⟨gc, 0, none⟩) a.R capc := ec'.symm.trans ec
    simp only [Value.slice.injEq, Option.some.injEq, Addr.mk.injEq, and_true, true_and] at ecc
    obtain ⟨rfl, rfl⟩ := ecc
    exact ⟨hce' r 0 hr (by omega), hce' r 1 hr (by omega), hce' r 2 hr (by omega), hce' r 3 hr (by omega), hce' r i hr hi, hfz'⟩
  have HPS : Hid (∀ i, i < 4 → a.putB d r i ((a.cell d r).at i) = a) := fun i hi => putB_self a d r i hi
  have HE1 : Hid (explB a d r = true → explC a d r = mixC (a.cell d r) (mendC a d r) 4) := fun he => by unfold explC; rw [if_pos he, mixC_four]
  have HE0 : Hid (explB a d r = false → explC a d r = a.cell d r) := fun he => by unfold explC; rw [if_neg (by rw [he]; decide)]
  have HB0 : Hid (Below w.heap.size w (((w.alloc (.cells #[.int .u8 0, .int .u8 0, .int .u8 0, .int .u8 0] 75)).alloc (.cells #[.int .u8 (a.cell d r).b0, .int .u8 (a.cell d r).b1, .int .u8 (a.cell d r).b2, .int .u8 (a.cell d r).b3] 75)).alloc (.cells #[.int .u8 (a.cell d r).b0, .int .u8 (a.cell d r).b1, .int .u8 (a.cell d r).b2, .int .u8 (a.cell d r).b3] 75))) := (((Below.refl _ _).alloc (Nat.le_refl _) _).alloc (by simp) _).alloc (by simp; omega) _
  have HR0 : Hid (BoxAt (((w.alloc (.cells #[.int .u8 0, .int .u8 0, .int .u8 0, .int .u8 0] 75)).alloc (.cells #[.int .u8 (a.cell d r).b0, .int .u8 (a.cell d r).b1, .int .u8 (a.cell d r).b2, .int .u8 (a.cell d r).b3] 75)).alloc (.cells #[.int .u8 (a.cell d r).b0, .int .u8 (a.cell d r).b1, .int .u8 (a.cell d r).b2, .int .u8 (a.cell d r).b3] 75)) w.heap.size C4.zero) := ((BoxAt.new0 w _ rfl).alloc _).alloc _
  have HI0 : Hid (BoxAt (((w.alloc (.cells #[.int .u8 0, .int .u8 0, .int .u8 0, .int .u8 0] 75)).alloc (.cells #[.int .u8 (a.cell d r).b0, .int .u8 (a.cell d r).b1, .int .u8 (a.cell d r).b2, .int .u8 (a.cell d r).b3] 75)).alloc (.cells #[.int .u8 (a.cell d r).b0, .int .u8 (a.cell d r).b1, .int .u8 (a.cell d r).b2, .int .u8 (a.cell d r).b3] 75)) (w.heap.size + 1) (a.cell d r)) := (BoxAt.new _ _ _ (by simp)).alloc _
  have HC0 : Hid (BoxAt (((w.alloc (.cells #[.int .u8 0, .int .u8 0, .int .u8 0, .int .u8 0] 75)).alloc (.cells #[.int .u8 (a.cell d r).b0, .int .u8 (a.cell d r).b1, .int .u8 (a.cell d r).b2, .int .u8 (a.cell d r).b3] 75)).alloc (.cells #[.int .u8 (a.cell d r).b0, .int .u8 (a.cell d r).b1, .int .u8 (a.cell d r).b2, .int .u8 (a.cell d r).b3] 75)) (w.heap.size + 2) (mixC (a.cell d r) (mendC a d r) 0)) := (show BoxAt _ _ _ by rw [mixC_zero]; exact BoxAt.new _ _ _ (by simp))
  have hwbs : (((w.alloc (.cells #[.int .u8 0, .int .u8 0, .int .u8 0, .int .u8 0] 75)).alloc (.cells #[.int .u8 (a.cell d r).b0, .int .u8 (a.cell d r).b1, .int .u8 (a.cell d r).b2, .int .u8 (a.cell d r).b3] 75)).alloc (.cells #[.int .u8 (a.cell d r).b0, .int .u8 (a.cell d r).b1, .int .u8 (a.cell d r).b2, .int .u8 (a.cell d r).b3] 75)).heap.size = w.heap.size + 3 := by simp
  have HWBS : Hid _ := hwbs
  clear h hdr hce hfz ec e0 hwbs
  unfold C4.val
  go_enter Tryz.func94, Tryz.ntmps94
  go_wp2_with fail
  generalize ((w.alloc (.cells #[.int .u8 0, .int .u8 0, .int .u8 0, .int .u8 0] 75)).alloc (.cells #[.int .u8 (a.cell d r).b0, .int .u8 (a.cell d r).b1, .int .u8 (a.cell d r).b2, .int .u8 (a.cell d r).b3] 75)).alloc (.cells #[.int .u8 (a.cell d r).b0, .int .u8 (a.cell d r).b1, .int .u8 (a.cell d r).b2, .int .u8 (a.cell d r).b3] 75) = wb at *
  clear x0 x1 x2 x3
  have H0 : Hid (IntsAt wb wb.heap.size (.slice none 0 0) (List.range 0)) := IntsAt.nil _ _
  go_loopw [10, 11] (fun l c wr => ∃ (k : Nat) (v : Value), k ≤ a.P ∧ c = .int .i64 k ∧ l = v ∧ Hid (IntsAt wr wb.heap.size v (List.range k)) ∧ Below wb.heap.size wb wr) (fun _ c _ => a.P - (intOf c).toNat)
  case atStart => exact ⟨0, _, by omega, rfl, rfl, H0, Below.refl _ _⟩
  case round =>
    obtain ⟨k, v, hk, rfl, rfl, hown, hbel⟩ := hrel
    have hbw : Below w.heap.size w wr := HB0.out.trans (hbel.mono HB0.out.size)
    have c1r := below_cell' hbw c1
    have hlt2 := Nat.lt_of_lt_of_le hlt hbw.size
    by_cases hkP : k < a.P
    · have hki : (k : Int) < (a.P : Int) := by omega
      have hil : (intsOf (List.range k)).length = k := by unfold intsOf; rw [List.length_map, List.length_range]
      have HO : Hid ((wr.alloc (Obj.cells #[.int .i64 k] 3)).ownsRow wb.heap.size 3 1 u10 k (intsOf (List.range k))) := by
        have h1 : wr.ownsRow wb.heap.size 3 1 u10 (List.range k).length (intsOf (List.range k)) := hown.out
        rw [List.length_range] at h1
        exact h1.alloc _
      have HNW : Hid (∀ j u, [Value.int .i64 k][j]? = some u → (wr.alloc (Obj.cells #[.int .i64 k] 3)).cell? ((⟨wr.heap.size, 0, none⟩ : Addr).add j) = some u) := cell_one_new _ _ _
      have hsz := hbel.size
      generalize hL : intsOf (List.range k) = L at *
      have HL : Hid (intsOf (List.range k) = L) := hL
      clear hL
      go_wp2_with (at_builtin; go_must (refine wpl_append appInt (by rfl) _ _ (by rfl) wb.heap.size _ k L (by rfl) HO.out ⟨wr.heap.size, 0, none⟩ 1 1 [.int .i64 k] (by rfl) (by rfl) HNW.out (by simp [Value.oneCell']) ?_ ?_ ?_ ?_))
      · simp only [maxLen]; omega
      · omega
      · simp; omega
      · intro v' w3 hown3 hgr hat
        have hb3 : Below wb.heap.size wb w3 := by
          have k0 : Below wb.heap.size wb (wr.alloc (Obj.cells #[.int .i64 k] 3)) := hbel.alloc hsz _
          exact k0.trans (grown_below hgr (by simp; omega) (fun k hk => (World.ownsRow.lt HO.out k hk).1))
        have HF : Hid (IntsAt w3 wb.heap.size v' (List.range (k + 1))) := by
          show World.ownsRow _ _ _ _ _ _ _
          rw [List.length_range, range_ints, HL.out]
          exact hown3
        clear hown3 hgr hat HO HNW
        go_wp2_with fail
        first
          | exact ⟨⟨k + 1, v', by omega, by go_num, rfl, HF, hb3⟩, by simp [intOf]; omega⟩
          | (go_roundw
             case rel => exact ⟨k + 1, v', by omega, by go_num, rfl, HF, hb3⟩
             case measure => simp [intOf]; omega)
    · have hke : k = a.P := by omega
      have hki : ¬ ((k : Int) < (a.P : Int)) := by omega
      have HIN : Hid (IntsAt wr wb.heap.size u10 (List.range a.P)) := hke ▸ hown
      obtain ⟨pp, cp, hv, _⟩ := HIN.out.nums
      rw [List.length_range] at hv
      subst hv
      have HR1 : Hid (BoxAt wr w.heap.size C4.zero) := HR0.out.below hbel
      have HI1 : Hid (BoxAt wr (w.heap.size + 1) (a.cell d r)) := HI0.out.below hbel
      have HC1 : Hid (BoxAt wr (w.heap.size + 2) (mixC (a.cell d r) (mendC a d r) 0)) := HC0.out.below hbel
      have HN : Hid (∀ W, Kept (fun b => b = gc ∨ b = w.heap.size + 2) wr W → NumsAt W pp (List.range a.P)) := fun W hW => by
        have e1 := HIN.out.of_block (w' := W) (fun b hb => hW.block b (HIN.out.ltB b hb).2 (by have := (HIN.out.ltB b hb).1; have := HWBS.out; rintro (h1 | h1) <;> omega))
        obtain ⟨y1, y2, y3, y4⟩ := e1.nums
        simp only [Value.slice.injEq] at y3
        rw [y3.1]; exact y4
      have HRI : Hid (RefIn wr yb a V left dn) := HH.out.below hbw
      have HKW : Hid (Kept (fun b => b = gc ∨ b = w.heap.size + 2) wr wr) := Kept.refl _ _
      have HBW : Hid (Below w.heap.size w wr) := hbw
      have HLT : Hid (∀ b, RFoot yb a V b → b < w.heap.size) := fun b hb => HH.out.foot_lt hb
      have HCL : Hid (∀ W, Kept (fun b => b = gc ∨ b = w.heap.size + 2) wr W → W.cell? ⟨yb, 4, none⟩ = some (.slice (some ⟨g, 0, none⟩) (a.D + a.P) cap) ∧ W.cell? ⟨g, d * 4 + 2, none⟩ = some (.slice (some ⟨gc, 0, none⟩) a.R capc) ∧ yb < W.heap.size ∧ g < W.heap.size ∧ gc < W.heap.size) := fun W hW => ⟨hW.cell (p := ⟨yb, 4, none⟩) (by rintro (h1 | h1) <;> simp only at h1 <;> omega) (below_cell' hbw c4), hW.cell (p := ⟨g, d * 4 + 2, none⟩) (by rintro (h1 | h1) <;> simp only at h1 <;> omega) (below_cell' hbw d2), by have := hW.size; have := hbw.size; omega, by have := hW.size; have := hbw.size; omega, by have := hW.size; have := hbw.size; omega⟩
      have HFN : Hid (∀ W, Kept (fun b => b = gc ∨ b = w.heap.size + 2) wr W → Kept (RFoot yb a V) w W) := fun W hW => ⟨hW.os.trans hbw.os, hW.tape.trans hbw.tape, hW.output.trans hbw.output, Nat.le_trans hbw.size hW.size, fun i hi hn => (hW.block i (Nat.lt_of_lt_of_le hi hbw.size) (by rintro (h1 | h1); exact hn (h1 ▸ HGC.out); omega)).trans (hbw.block i hi)⟩
      clear HIN hown hbel hbw HR0 HI0 HC0 HB0 H0 hke HH c1
      generalize hwq : wr = wq at *
      clear hwq
      go_wp2_with fail
      go_loopw [12, 13, 14] (fun c _ _ wi => ∃ m : Nat, m ≤ 4 ∧ c = .int .i64 m ∧ Hid (∀ i, i < m → exP a d r i) ∧ Hid (RefIn wi yb a V left dn) ∧ Hid (BoxAt wi w.heap.size C4.zero) ∧ Hid (BoxAt wi (w.heap.size + 1) (a.cell d r)) ∧ Hid (BoxAt wi (w.heap.size + 2) (mixC (a.cell d r) (mendC a d r) m)) ∧ Hid (Kept (fun b => b = gc ∨ b = w.heap.size + 2) wq wi)) (fun c _ _ _ => 4 - (intOf c).toNat)
      case atStart => exact ⟨0, by omega, rfl, (show ∀ i, i < 0 → _ from fun i hi => by omega), HRI, HR1, HI1, HC1, HKW⟩
      case round =>
        clear HRI HR1 HI1 HC1 HKW
        obtain ⟨m, hm, rfl, hex, hri1, hrb, hib, hcb, hkp⟩ := hrel
        by_cases hm4 : m < 4
        · have hmi : (m : Int) < 4 := by omega
          have HST : Hid (RefIn wr yb (a.putB d r m ((a.cell d r).at m)) V left dn) := (show RefIn _ _ _ _ _ _ by rw [HPS.out m hm4]; exact hri1.out)
          clear hri1
          have HMN : Hid (w.heap.size + 2 ≠ gc ∧ w.heap.size + 1 ≠ gc ∧ w.heap.size ≠ gc) := ⟨by omega, by omega, by omega⟩
          have hcml : (a.cell d r).at m < 256 := C4.at_lt HCO.out m
          have hmml : (mendC a d r).at m < 256 := C4.at_lt HMO.out m
          clear c4 d2
          go_wp2_with fail
          go_loopw [13, 14] (fun cf cv wi => ∃ (f : Bool) (v : Nat), v ≤ 256 ∧ cf = .bool f ∧ cv = .int .i64 v ∧ Hid (if f = true then exP a d r m else ∀ u, u < v → fineB a d r m u = false) ∧ Hid (∃ u, RefIn wi yb (a.putB d r m u) V left dn) ∧ Hid (BoxAt wi w.heap.size C4.zero) ∧ Hid (BoxAt wi (w.heap.size + 1) (a.cell d r)) ∧ Hid (BoxAt wi (w.heap.size + 2) (mixC (a.cell d r) (mendC a d r) (if f = true then m + 1 else m))) ∧ Hid (Kept (fun b => b = gc ∨ b = w.heap.size + 2) wq wi)) (fun _ cv _ => 256 - (intOf cv).toNat)
          case atStart => exact ⟨false, 0, by omega, rfl, rfl, (show ∀ u, u < 0 → _ from fun u hu => by omega), ⟨_, HST.out⟩, hrb, hib, hcb, hkp⟩
          case round =>
            clear HST hrb hib hcb hkp
            obtain ⟨f, v, hv, rfl, rfl, hpf, hst, hrb, hib, hcb, hkp⟩ := hrel
            obtain ⟨u, hst⟩ := hst.out
            obtain ⟨c4, d2, hl1, hl2, hl3⟩ := HCL.out wr hkp.out
            obtain ⟨y0, y1, y2, y3, ym, hfz⟩ := HCE.out m u wr hm4 hst
            obtain ⟨i0, i1, i2, i3⟩ := hib.out.cells
            have hil := hib.out.lt
            have f0 := hfz (r * 4)
            have f1 := hfz (r * 4 + 1)
            have f2 := hfz (r * 4 + 2)
            have f3 := hfz (r * 4 + 3)
            have fm := hfz (r * 4 + m)
            have HKX : Hid (∀ W, W.heap = ((((wr.setCell ⟨gc, r * 4, none⟩ (.int .u8 (a.cell d r).b0)).setCell ⟨gc, r * 4 + 1, none⟩ (.int .u8 (a.cell d r).b1)).setCell ⟨gc, r * 4 + 2, none⟩ (.int .u8 (a.cell d r).b2)).setCell ⟨gc, r * 4 + 3, none⟩ (.int .u8 (a.cell d r).b3)).heap → W.os = wr.os → W.tape = wr.tape → W.output = wr.output → RefIn W yb a V left dn ∧ BoxAt W w.heap.size C4.zero ∧ BoxAt W (w.heap.size + 1) (a.cell d r) ∧ BoxAt W (w.heap.size + 2) (mixC (a.cell d r) (mendC a d r) (if f = true then m + 1 else m)) ∧ Kept (fun b => b = gc ∨ b = w.heap.size + 2) wq W) := fun W e1 e2 e3 e4 => by
              have hb : ∀ b, b ≠ gc → W.heap[b]? = wr.heap[b]? := fun b hb => by rw [e1, Below.heap_setCell _ _ _ _ hb, Below.heap_setCell _ _ _ _ hb, Below.heap_setCell _ _ _ _ hb, Below.heap_setCell _ _ _ _ hb]
              refine ⟨(HSC.out m u wr hst).heap e1, World.rowIs.of_block hrb.out (hb _ HMN.out.2.2), World.rowIs.of_block hib.out (hb _ HMN.out.2.1), World.rowIs.of_block hcb.out (hb _ HMN.out.1), hkp.out.trans ⟨e2, e3, e4, ?_, fun b _ hn => hb b (fun e => hn (.inl e))⟩⟩
              rw [e1]; simp [World.setCell]
            cases f
            · by_cases hv2 : v < 256
              · have hvi : (v : Int) < 256 := by omega
                have hvm : (v : Int) % 256 = (v : Int) := by omega
                have HST2 : Hid (RefIn (wr.setCell ⟨gc, r * 4 + m, none⟩ (.int .u8 (v : Nat))) yb (a.putB d r m v) V left dn) := HSB.out m u v wr hm4 hv2 hst
                have HRB2 : Hid (BoxAt (wr.setCell ⟨gc, r * 4 + m, none⟩ (.int .u8 (v : Nat))) w.heap.size C4.zero) := hrb.out.setOther (by simpa using Ne.symm HMN.out.2.2) _
                have HIB2 : Hid (BoxAt (wr.setCell ⟨gc, r * 4 + m, none⟩ (.int .u8 (v : Nat))) (w.heap.size + 1) (a.cell d r)) := hib.out.setOther (by simpa using Ne.symm HMN.out.2.1) _
                have HCB2 : Hid (BoxAt (wr.setCell ⟨gc, r * 4 + m, none⟩ (.int .u8 (v : Nat))) (w.heap.size + 2) (mixC (a.cell d r) (mendC a d r) m)) := hcb.out.setOther (by simpa using Ne.symm HMN.out.1) _
                have HKP2 : Hid (Kept (fun b => b = gc ∨ b = w.heap.size + 2) wq (wr.setCell ⟨gc, r * 4 + m, none⟩ (.int .u8 (v : Nat)))) := hkp.out.setCell (.inl (.inl rfl)) _
                clear hst hrb hib hcb hkp HKX y0 y1 y2 y3 f0 f1 f2 f3 hfz i0 i1 i2 i3 hil
                generalize ((a.putB d r m u).cell d r).at m = um at *
                go_wp2_with fail
                refine (HHO.out m v pp cp _ hm4 hv2 HST2.out (HN.out _ HKP2.out)).mono ?_
                rintro e w2 ⟨rfl, k2⟩
                have HST3 : Hid (∃ u, RefIn w2 yb (a.putB d r m u) V left dn) := ⟨v, HST2.out.below k2⟩
                have HRB3 : Hid (BoxAt w2 w.heap.size C4.zero) := HRB2.out.below k2
                have HIB3 : Hid (BoxAt w2 (w.heap.size + 1) (a.cell d r)) := HIB2.out.below k2
                have HCB3 : Hid (BoxAt w2 (w.heap.size + 2) (mixC (a.cell d r) (mendC a d r) m)) := HCB2.out.below k2
                have HKP3 : Hid (Kept (fun b => b = gc ∨ b = w.heap.size + 2) wq w2) := HKP2.out.trans (Kept.of_below k2)
                clear HST2 HRB2 HIB2 HCB2 HKP2 k2 c4 d2 ym fm hl1 hl2 hl3
                cases hfb : fineB a d r m v
                · have HPF : Hid (∀ u, u < v + 1 → fineB a d r m u = false) := fun u hu => by
                    by_cases e : u = v
                    · rw [e]; exact hfb
                    · have := hpf.out
                      rw [if_neg (by decide)] at this
                      exact this u (by omega)
                  clear hpf hfb
                  go_wp2_with fail
                  exact ⟨⟨false, v + 1, by omega, rfl, by go_num, HPF, HST3, HRB3, HIB3, HCB3, HKP3⟩, by simp [intOf]; omega⟩
                · have hh := (HFI.out m v hm4 hv2).1 hfb
                  have HPF : Hid (exP a d r m) := hh.1
                  have z0 : w2.cell? ⟨w.heap.size + 1 + 1, m, none⟩ = some (.int .u8 ((mixC (a.cell d r) (mendC a d r) m).at m)) := World.rowIs.cell HCB3.out (i := m) (by omega)
                  have zf : w2.frozen? ⟨w.heap.size + 1 + 1, m, none⟩ = false := World.rowIs.frozen HCB3.out m
                  have zl : w.heap.size + 1 + 1 < w2.heap.size := HCB3.out.lt
                  have hm2 : (m : Int) < 4 := by omega
                  have HST4 : Hid (∃ u, RefIn (w2.setCell ⟨w.heap.size + 1 + 1, m, none⟩ (.int .u8 (v : Nat))) yb (a.putB d r m u) V left dn) := (show ∃ u, _ by
                    obtain ⟨u', hu'⟩ := HST3.out
                    exact ⟨u', hu'.of_block (fun b hb => Below.heap_setCell _ _ _ _ (fun e => by
                      have e2 : b < w.heap.size := HLT.out b hb
                      simp only at e; omega))⟩)
                  have HRB4 : Hid (BoxAt (w2.setCell ⟨w.heap.size + 1 + 1, m, none⟩ (.int .u8 (v : Nat))) w.heap.size C4.zero) := HRB3.out.setOther (by simp; omega) _
                  have HIB4 : Hid (BoxAt (w2.setCell ⟨w.heap.size + 1 + 1, m, none⟩ (.int .u8 (v : Nat))) (w.heap.size + 1) (a.cell d r)) := HIB3.out.setOther (by simp) _
                  have HCB4 : Hid (BoxAt (w2.setCell ⟨w.heap.size + 1 + 1, m, none⟩ (.int .u8 (v : Nat))) (w.heap.size + 2) (mixC (a.cell d r) (mendC a d r) (m + 1))) := (show BoxAt _ _ _ from World.rowIs.congr (World.rowIs.set HCB3.out m (.int .u8 (v : Nat))) (fun j hj => by
                    rw [← mixC_put _ _ _ hm4, C4.at_put _ _ _ _ hj]
                    by_cases e : j = m
                    · rw [if_pos e, if_pos e, hh.2]
                    · rw [if_neg e, if_neg e]))
                  have HKP4 : Hid (Kept (fun b => b = gc ∨ b = w.heap.size + 2) wq (w2.setCell ⟨w.heap.size + 1 + 1, m, none⟩ (.int .u8 (v : Nat)))) := HKP3.out.setCell (.inl (.inr rfl)) _
                  clear hpf hfb hh HST3 HRB3 HIB3 HCB3 HKP3
                  generalize (mixC (a.cell d r) (mendC a d r) m).at m = zm at *
                  go_wp2_with fail
                  first
                    | exact ⟨⟨true, v + 1, by omega, rfl, by go_num, HPF, HST4, HRB4, HIB4, HCB4, HKP4⟩, by simp [intOf]; omega⟩
                    | (go_region
                       all_goals
                         go_wp2_with fail
                         exact ⟨⟨true, v + 1, by omega, rfl, by go_num, HPF, (HST4.out.elim fun u hu => ⟨u, hu.heap rfl⟩), HRB4.out.drew, HIB4.out.drew, HCB4.out.drew, HKP4.out.drew⟩, by simp [intOf]; omega⟩)
              · have hv3 : v = 256 := by omega
                have hvi : ¬ ((v : Int) < 256) := by omega
                have HNE : Hid (explB a d r = false) := (show _ = _ by
                  cases he : explB a d r
                  · rfl
                  · exfalso
                    have h1 := HXI.out.1 he m hm4
                    have hu : (a.cell d r).at m ^^^ (mendC a d r).at m < 256 := Hd.xor_lt _ _ hcml hmml
                    have h2 := (HFI.out m _ hm4 hu).2 ⟨h1, rfl⟩
                    have h3 := hpf.out
                    rw [if_neg (by decide)] at h3
                    rw [h3 _ (by omega)] at h2; cases h2)
                clear hst hrb hib hcb hkp hpf ym fm hfz
                generalize (a.putB d r m u).cell d r = CU at *
                go_wp2_with fail
                go_region
                all_goals
                  obtain ⟨w9, hw9⟩ : ∃ w9 : World, w9 = ((((wr.setCell ⟨gc, r * 4, none⟩ (.int .u8 (a.cell d r).b0)).setCell ⟨gc, r * 4 + 1, none⟩ (.int .u8 (a.cell d r).b1)).setCell ⟨gc, r * 4 + 2, none⟩ (.int .u8 (a.cell d r).b2)).setCell ⟨gc, r * 4 + 3, none⟩ (.int .u8 (a.cell d r).b3)) := ⟨_, rfl⟩
                  rw [← hw9]
                  obtain ⟨z1, z2, z3, _, z5⟩ := HKX.out w9 (by rw [hw9]) (by rw [hw9]; rfl) (by rw [hw9]; rfl) (by rw [hw9]; rfl)
                  have z6 := HFN.out _ z5
                  have HEND : Hid (∀ W : World, Below w.heap.size w9 W → RWent yb a V w a V left dn W) := fun W hb => ⟨z1.of_block (fun b hb2 => hb.block b (HLT.out b hb2)), ⟨hb.os.trans z6.os, hb.tape.trans z6.tape, hb.output.trans z6.output, Nat.le_trans z6.size hb.size, fun b hb2 hn => (hb.block b hb2).trans (z6.block b hb2 hn)⟩, fun _ hb => .inl hb⟩
                  clear HKX hw9 z1 z5 z6 c4 d2 hl1 hl2 hl3 y0 y1 y2 y3 i0 i1 i2 i3 hil f0 f1 f2 f3
                  obtain ⟨r0, r1, r2, r3⟩ := z2.cells
                  obtain ⟨q0, q1, q2, q3⟩ := z2.frz
                  have hrl := z2.lt
                  obtain ⟨i0, i1, i2, i3⟩ := z3.cells
                  have hil := z3.lt
                  clear z2 z3
                  go_wp2_with fail
                  exact bodyPost_ret (v := .tuple #[.agg #[.int .u8 (a.cell d r).b0, .int .u8 (a.cell d r).b1, .int .u8 (a.cell d r).b2, .int .u8 (a.cell d r).b3], .bool false]) (by simp [results, Tryz.results94, go_sem, r0, r1, r2, r3]) rfl ⟨by rw [HE0.out HNE.out, HNE.out], HEND.out _ (by first | exact below_set4 (Below.refl _ _) (Nat.le_refl _) _ _ _ _ | exact below_set4 (Below.refl _ _).drew (Nat.le_refl _) _ _ _ _ | exact (below_set4 (Below.refl _ _) (Nat.le_refl _) _ _ _ _).drew)⟩
            · have HEX2 : Hid (∀ i, i < m + 1 → exP a d r i) := fun i hi => by
                by_cases e : i = m
                · rw [e]; have := hpf.out; rw [if_pos rfl] at this; exact this
                · exact hex.out i (by omega)
              clear hst hrb hib hcb hkp hpf ym fm hfz hex
              generalize (a.putB d r m u).cell d r = CU at *
              by_cases hv2 : v < 256
              · have hvi : (v : Int) < 256 := by omega
                go_wp2_with fail
                go_region
                all_goals
                  go_wp2_with fail
                  obtain ⟨z1, z2, z3, z4, z5⟩ := HKX.out _ rfl rfl rfl rfl
                  simp only [if_true] at z4
                  first
                    | exact ⟨⟨m + 1, by omega, by go_num, HEX2, z1, z2, z3, z4, z5⟩, by simp [intOf]; omega⟩
                    | exact ⟨⟨m + 1, by omega, by go_num, HEX2, z1.heap rfl, z2.drew, z3.drew, z4.drew, z5.drew⟩, by simp [intOf]; omega⟩
              · have hvi : ¬ ((v : Int) < 256) := by omega
                go_wp2_with fail
                go_region
                all_goals
                  go_wp2_with fail
                  obtain ⟨z1, z2, z3, z4, z5⟩ := HKX.out _ rfl rfl rfl rfl
                  simp only [if_true] at z4
                  first
                    | exact ⟨⟨m + 1, by omega, by go_num, HEX2, z1, z2, z3, z4, z5⟩, by simp [intOf]; omega⟩
                    | exact ⟨⟨m + 1, by omega, by go_num, HEX2, z1.heap rfl, z2.drew, z3.drew, z4.drew, z5.drew⟩, by simp [intOf]; omega⟩
        · have hme : m = 4 := by omega
          have hmi : ¬ ((m : Int) < 4) := by omega
          have HYE : Hid (explB a d r = true) := HXI.out.2 (fun i hi => hex.out i (by omega))
          have HC4 : Hid (BoxAt wr (w.heap.size + 2) (mixC (a.cell d r) (mendC a d r) 4)) := hme ▸ hcb
          obtain ⟨r0, r1, r2, r3⟩ := hrb.out.cells
          obtain ⟨q0, q1, q2, q3⟩ := hrb.out.frz
          have hrl := hrb.out.lt
          obtain ⟨k0, k1, k2, k3⟩ := HC4.out.cells
          have hkl : w.heap.size + 1 + 1 < wr.heap.size := HC4.out.lt
          have HEND : Hid (∀ W : World, Below w.heap.size wr W → RWent yb a V w a V left dn W) := fun W hb => by
            have z6 := HFN.out _ hkp.out
            exact ⟨hri1.out.of_block (fun b hb2 => hb.block b (HLT.out b hb2)), ⟨hb.os.trans z6.os, hb.tape.trans z6.tape, hb.output.trans z6.output, Nat.le_trans z6.size hb.size, fun b hb2 hn => (hb.block b hb2).trans (z6.block b hb2 hn)⟩, fun _ hb => .inl hb⟩
          have HEC2 : Hid (explC a d r = mixC (a.cell d r) (mendC a d r) 4) := HE1.out HYE.out
          clear hri1 hrb hib hcb hkp hex HC4 hme
          generalize mixC (a.cell d r) (mendC a d r) 4 = CM at *
          go_wp2_with fail
          exact bodyPost_ret (v := .tuple #[.agg #[.int .u8 CM.b0, .int .u8 CM.b1, .int .u8 CM.b2, .int .u8 CM.b3], .bool true]) (by simp [results, Tryz.results94, go_sem, r0, r1, r2, r3]) rfl ⟨by rw [HEC2.out, HYE.out], HEND.out _ (by first | exact below_set4 (Below.refl _ _) (Nat.le_refl _) _ _ _ _ | exact below_set4 (Below.refl _ _).drew (Nat.le_refl _) _ _ _ _ | exact (below_set4 (Below.refl _ _) (Nat.le_refl _) _ _ _ _).drew)⟩
end Go.Proofs.YtfpoiikhhjdpdaaGreat
