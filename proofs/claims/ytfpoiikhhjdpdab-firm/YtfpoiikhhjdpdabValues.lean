/- The value of a cell, and what the missing cells of a row add up to. -/
import Derived.Test.YtfpoiikhhjdpdabHold
namespace Go.Proofs.Ytfpoiikhhjdpdab
open Go.RowKit
set_option linter.unusedVariables false
attribute [local go_sem ↓] Go.wp_at_zero Go.wp_at_succ
theorem below_cell' {X w2 : World} (h : Below X.heap.size X w2) {p : Addr} {v : Value} (hc : X.cell? p = some v) : w2.cell? p = some v := (h.cell (block_lt_of_cell hc)).trans hc
/-- A cell that is a variable: in a block of its own. -/
def BoxAt (w : World) (b : Nat) (c : C4) : Prop := w.rowIs b 48 4 (fun j => .int .u8 (c.at j))
theorem BoxAt.cells {w : World} {b : Nat} {c : C4} (h : BoxAt w b c) : w.cell? ⟨b, 0, none⟩ = some (.int .u8 c.b0) ∧ w.cell? ⟨b, 1, none⟩ = some (.int .u8 c.b1) ∧ w.cell? ⟨b, 2, none⟩ = some (.int .u8 c.b2) ∧ w.cell? ⟨b, 3, none⟩ = some (.int .u8 c.b3) :=
  ⟨h.cell (i := 0) (by omega), h.cell (i := 1) (by omega), h.cell (i := 2) (by omega), h.cell (i := 3) (by omega)⟩
theorem BoxAt.frz {w : World} {b : Nat} {c : C4} (h : BoxAt w b c) : w.frozen? ⟨b, 0, none⟩ = false ∧ w.frozen? ⟨b, 1, none⟩ = false ∧ w.frozen? ⟨b, 2, none⟩ = false ∧ w.frozen? ⟨b, 3, none⟩ = false :=
  ⟨h.frozen 0, h.frozen 1, h.frozen 2, h.frozen 3⟩
theorem BoxAt.lt {w : World} {b : Nat} {c : C4} (h : BoxAt w b c) : b < w.heap.size := World.rowIs.lt h
theorem BoxAt.below {w w' : World} {b : Nat} {c : C4} (h : BoxAt w b c) (k : Below w.heap.size w w') : BoxAt w' b c := World.rowIs.of_block h (k.block b (World.rowIs.lt h))
theorem BoxAt.drewN {w : World} {b : Nat} {c : C4} (h : BoxAt w b c) (n : Nat) : BoxAt (w.drewN n) b c := World.rowIs.of_block h rfl
theorem BoxAt.drew {w : World} {b : Nat} {c : C4} (h : BoxAt w b c) : BoxAt w.drew b c := World.rowIs.of_block h rfl
theorem BoxAt.new (w : World) (c : C4) (H : Nat) (hH : w.heap.size = H) : BoxAt (w.alloc (.cells #[.int .u8 c.b0, .int .u8 c.b1, .int .u8 c.b2, .int .u8 c.b3] 48)) H c := box_row w c H hH
theorem BoxAt.new0 (w : World) (H : Nat) (hH : w.heap.size = H) : BoxAt (w.alloc (.cells #[.int .u8 0, .int .u8 0, .int .u8 0, .int .u8 0] 48)) H C4.zero := box_row w C4.zero H hH
theorem BoxAt.alloc {w : World} {b : Nat} {c : C4} (h : BoxAt w b c) (o : Obj) : BoxAt (w.alloc o) b c := h.below ((Below.refl _ _).alloc (Nat.le_refl _) o)
theorem BoxAt.set {w : World} {b : Nat} {c : C4} (h : BoxAt w b c) (x : C4) : BoxAt ((((w.setCell ⟨b, 0, none⟩ (.int .u8 x.b0)).setCell ⟨b, 1, none⟩ (.int .u8 x.b1)).setCell ⟨b, 2, none⟩ (.int .u8 x.b2)).setCell ⟨b, 3, none⟩ (.int .u8 x.b3)) b x := by
  refine World.rowIs.congr (World.rowIs.set (World.rowIs.set (World.rowIs.set (World.rowIs.set h 0 _) 1 _) 2 _) 3 _) ?_
  intro j hj
  have : j = 0 ∨ j = 1 ∨ j = 2 ∨ j = 3 := by omega
  rcases this with rfl | rfl | rfl | rfl <;> rfl
theorem BoxAt.setOther {w : World} {b : Nat} {c : C4} (h : BoxAt w b c) {p : Addr} (hp : p.block ≠ b) (v : Value) : BoxAt (w.setCell p v) b c := World.rowIs.setOther h (fun e => hp e.symm) v
theorem BoxAt.other4 {w : World} {b : Nat} {c : C4} (h : BoxAt w b c) {g : Nat} (hg : g ≠ b) (v0 v1 v2 v3 : Value) : BoxAt ((((w.setCell ⟨g, 0, none⟩ v0).setCell ⟨g, 1, none⟩ v1).setCell ⟨g, 2, none⟩ v2).setCell ⟨g, 3, none⟩ v3) b c :=
  (((h.setOther hg _).setOther hg _).setOther hg _).setOther hg _
theorem below_set4 {B : Nat} {w w' : World} (h : Below B w w') {g : Nat} (hg : B ≤ g) (v0 v1 v2 v3 : Value) : Below B w ((((w'.setCell ⟨g, 0, none⟩ v0).setCell ⟨g, 1, none⟩ v1).setCell ⟨g, 2, none⟩ v2).setCell ⟨g, 3, none⟩ v3) :=
  (((h.setCell hg _).setCell hg _).setCell hg _).setCell hg _
def recSum (r : Nat) (l : List Rec) (c : C4) : C4 := l.foldl (fun c x => if x.row = r then c.xor x.c else c) c
def valC (s : Ab) (d r : Nat) : C4 := recSum r (s.recs d) (s.cell d r)
theorem recSum_ok {r : Nat} {l : List Rec} {c : C4} (hc : c.ok) (hl : ∀ x ∈ l, x.c.ok) : (recSum r l c).ok := by
  induction l generalizing c with
  | nil => exact hc
  | cons x l ih =>
    refine ih (c := if x.row = r then c.xor x.c else c) ?_ (fun y hy => hl y (List.mem_cons_of_mem _ hy))
    split
    · exact C4.xor_ok hc (hl x (List.mem_cons_self ..))
    · exact hc
theorem recSum_succ (r : Nat) (l : List Rec) (c : C4) (k : Nat) (x : Rec) (h : l[k]? = some x) : recSum r (l.take (k + 1)) c = if x.row = r then (recSum r (l.take k) c).xor x.c else recSum r (l.take k) c := by
  unfold recSum
  rw [List.take_add_one, h]
  simp [List.foldl_append]
theorem valC_ok {s : Ab} (h : s.ok) (d r : Nat) : (valC s d r).ok := recSum_ok (h.cells d r) (fun x hx => (h.recs d x hx).2)
set_option maxRecDepth 100000 in
set_option maxHeartbeats 1000000 in
theorem value_any (hb : Nat) (s : St) (d r : Nat) (w : World) (h : HoardIn w hb s) (hd : d < 6) (hr : r < 6) :
    Calls Try.prog 87 #[.pointer (some ⟨hb, 4 + d * 32, none⟩), .int .i64 r] w fun e w' => e = .returned (valC s d r).val ∧ Below w.heap.size w w' := by
  have hri : (r : Int) < 6 := by omega
  obtain ⟨c0, c1, c2, c3⟩ := h.cell d r hd hr
  have HH : Hid (HoardIn w hb s) := h
  have hlen := h.ok.len d
  have hM := h.ok.M8
  have hlt0 := h.row.lt
  obtain ⟨p, cap, hv, hrec⟩ := (h.logs d hd).slice
  have HV : Hid (s.lv d = .slice p (s.recs d).length cap) := hv
  have HREC : Hid _ := hrec
  have HOK : Hid (∀ x ∈ s.recs d, x.c.ok) := fun x hx => (h.ok.recs d x hx).2
  have HC : Hid ((s.cell d r).ok) := h.ok.cells d r
  clear h hv hrec
  generalize hln : (s.recs d).length = len at *
  have HLN : Hid ((s.recs d).length = len) := hln
  clear hln
  go_enter Try.func87, Try.ntmps87
  go_wp2
  clear c0 c1 c2 c3
  go_loopw [6] (fun i wr => ∃ (k : Nat) (S : C4), k ≤ len ∧ i = .int .i64 k ∧ Hid (S = recSum r ((s.recs d).take k) (s.cell d r)) ∧ Hid (BoxAt wr (w.heap.size + 1) S) ∧ Hid (BoxAt wr w.heap.size C4.zero) ∧ Below w.heap.size w wr) (fun i _ => len - (intOf i).toNat)
  case atStart =>
    refine ⟨0, s.cell d r, by omega, rfl, rfl, ?_, ?_, ?_⟩
    · exact (BoxAt.new _ (s.cell d r) _ (by simp))
    · exact (BoxAt.new0 w _ rfl).alloc _
    · repeat (first | exact Below.refl _ _ | refine Below.drew ?_ | refine Below.alloc ?_ (by simp <;> omega) _)
  case round =>
    obtain ⟨k, S, hk, rfl, hS, hbox, hres, hbel⟩ := hrel
    have h1 := HH.out.below hbel
    have hl := h1.log d hd
    rw [HV.out] at hl
    have hlt2 := h1.row.lt
    obtain ⟨b0, b1, b2, b3⟩ := hbox.out.cells
    obtain ⟨f0, f1, f2, f3⟩ := hbox.out.frz
    have hbl := hbox.out.lt
    clear h1
    by_cases hlt : k < len
    · have hki : (k : Int) < (len : Int) := by omega
      obtain ⟨g, x, rfl, hg, hx, y0, y1, y2, y3, y4⟩ := HREC.out k hlt
      have z0 := below_cell' hbel y0
      have z1 := below_cell' hbel y1
      have z2 := below_cell' hbel y2
      have z3 := below_cell' hbel y3
      have z4 := below_cell' hbel y4
      clear y0 y1 y2 y3 y4
      have HXO : Hid (x.c.ok) := HOK.out x (List.mem_of_getElem? hx)
      have HSO : Hid (S.ok) := hS.out ▸ recSum_ok HC.out (fun x hx => HOK.out x (List.mem_of_mem_take hx))
      have HS : Hid (recSum r ((s.recs d).take (k + 1)) (s.cell d r) = if x.row = r then S.xor x.c else S) := (show _ = _ by rw [hS.out]; exact recSum_succ r _ _ k x hx)
      clear hx
      by_cases e : x.row = r
      · have ei : ((x.row : Int) == (r : Int)) = true := by rw [e]; simp
        have HS2 : Hid (S.xor x.c = recSum r ((s.recs d).take (k + 1)) (s.cell d r)) := (show _ = _ by rw [HS.out, if_pos e])
        have HADD : Hid (∀ W, Calls Try.prog 75 #[.agg #[.int .u8 S.b0, .int .u8 S.b1, .int .u8 S.b2, .int .u8 S.b3], .agg #[.int .u8 x.c.b0, .int .u8 x.c.b1, .int .u8 x.c.b2, .int .u8 x.c.b3]] W fun e w' => e = .returned (.agg #[.int .u8 (S.xor x.c).b0, .int .u8 (S.xor x.c).b1, .int .u8 (S.xor x.c).b2, .int .u8 (S.xor x.c).b3]) ∧ Below W.heap.size W w') := fun W => Add_any S x.c W HSO.out HXO.out
        have hrowx : x.row = r := e
        subst hrowx
        clear e HS hS
        go_wp2_with fail
        go_region_with ((go_at_call 75; refine (HADD.out _).mono ?_; rintro e w2 ⟨rfl, hbel2⟩; obtain ⟨e0, e1, e2, e3⟩ := (hbox.out.drew.below hbel2).cells; obtain ⟨q0, q1, q2, q3⟩ := (hbox.out.drew.below hbel2).frz))
        all_goals
          go_wp2_with fail
          refine ⟨⟨k + 1, S.xor x.c, by omega, by go_num, HS2, ?_, ?_, ?_⟩, by simp [intOf]; omega⟩
          · exact (hbox.out.drew.below hbel2).set _
          · exact (hres.out.drew.below hbel2).other4 (by omega) _ _ _ _
          · exact below_set4 (hbel.drew.trans (hbel2.mono hbel.size)) (by omega) _ _ _ _
      · have ei : ((x.row : Int) == (r : Int)) = false := by rw [beq_eq_false_iff_ne]; omega
        have HS2 : Hid (S = recSum r ((s.recs d).take (k + 1)) (s.cell d r)) := (show _ = _ by rw [HS.out, if_neg e])
        clear e HS
        go_wp2_with fail
        refine ⟨⟨k + 1, S, by omega, by go_num, HS2, hbox, hres, hbel⟩, by simp [intOf]; omega⟩
    · have hke : k = len := by omega
      have HKE : Hid (k = len) := hke
      have hlti : ¬ ((k : Int) < (len : Int)) := by omega
      obtain ⟨r0, r1, r2, r3⟩ := hres.out.cells
      obtain ⟨g0, g1, g2, g3⟩ := hres.out.frz
      clear hke
      go_wp2_with fail
      refine bodyPost_ret (v := S.val) (by simp [results, Try.results87, go_sem, r0, r1, r2, r3, C4.val]) rfl ⟨?_, ?_⟩
      · unfold valC
        rw [hS.out, List.take_of_length_le (by have := HLN.out; have := HKE.out; omega)]
      · exact below_set4 hbel (Nat.le_refl _) _ _ _ _
end Go.Proofs.Ytfpoiikhhjdpdab
