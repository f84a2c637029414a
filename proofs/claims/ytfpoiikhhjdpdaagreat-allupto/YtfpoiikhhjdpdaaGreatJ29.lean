import Derived.Test.YtfpoiikhhjdpdaaGreatJ28
import Derived.Test.YtfpoiikhhjdpdaaGreatJ18
/- hoardlaw.asked: Steps, Drive, Cell. -/
namespace Go.Proofs.YtfpoiikhhjdpdaaGreat
open Go.RowKit
set_option linter.unusedVariables false
attribute [local go_sem ↓] Go.wp_at_zero Go.wp_at_succ
/-- The cells that the walk of a question reads. -/
def ACells (pb x y hs : Nat) (b c : Int) (W : World) : Prop :=
  W.cell? ⟨pb, 0, none⟩ = some (.pointer (some ⟨x, 0, none⟩)) ∧ W.cell? ⟨pb, 1, none⟩ = some (.pointer (some ⟨y, 0, none⟩)) ∧ W.cell? ⟨hs, 2, none⟩ = some (.int .i64 b) ∧ W.cell? ⟨hs, 3, none⟩ = some (.int .i64 c)
theorem ACells.below {pb x y hs : Nat} {b c : Int} {W W' : World} (h : ACells pb x y hs b c W) (k : Below W.heap.size W W') : ACells pb x y hs b c W' := by
  obtain ⟨a1, a2, a3, a4⟩ := h
  exact ⟨below_cell' k a1, below_cell' k a2, below_cell' k a3, below_cell' k a4⟩
/-- A question in a world like one that lies above. -/
theorem piece_ask {w W1 W : World} {pb x y hs : Nat} {b c : Int} {F : Nat} {args : Array Value} {v : Value} (hX : ∀ W, Below w.heap.size w W → Says F args v W) (hb : Hid (Below w.heap.size w W1)) (hc : Hid (ACells pb x y hs b c W1)) (k : Below W1.heap.size W1 W) :
    Calls Tryz.prog F args W fun e w1 => e = .returned v ∧ Hid (Below w.heap.size w w1) ∧ Hid (ACells pb x y hs b c w1) := by
  have kW : Below w.heap.size w W := hb.out.trans (k.mono (Kept.of_below (S := fun _ => False) hb.out).size)
  have hcW : ACells pb x y hs b c W := hc.out.below k
  refine (hX W kW).mono ?_
  rintro e w1 ⟨rfl, k1⟩
  exact ⟨rfl, kW.trans (k1.mono (Kept.of_below (S := fun _ => False) kW).size), hcW.below k1⟩
theorem below_like {W1 W : World} (hh : W.heap = W1.heap) (ho : W.os = W1.os) (ht : W.tape = W1.tape) (hp : W.output = W1.output) : Below W1.heap.size W1 W := ⟨ho, ht, hp, by rw [hh]; exact Nat.le_refl _, fun i _ => by rw [hh]⟩
set_option maxRecDepth 100000 in
set_option maxHeartbeats 1000000 in
theorem asked_steps (tb pb x y : Nat) (q : PSt) (N : Nat) (o : OpV) (w : World) (hk : o.k = 6) (hb0 : w.cell? ⟨pb, 0, none⟩ = some (.pointer (some ⟨x, 0, none⟩))) (hb1 : w.cell? ⟨pb, 1, none⟩ = some (.pointer (some ⟨y, 0, none⟩))) (p : PairAt w x y q N) :
    Calls Tryz.prog 15 #[.pointer (some ⟨tb, 0, none⟩), o.val, .pointer (some ⟨pb, 0, none⟩)] w fun e w' => e = .returned (.bool true) ∧ Below w.heap.size w w' := by
  obtain ⟨k, a0, b0, c0, d0, e0, s0⟩ := o
  simp only at hk
  subst hk
  obtain ⟨rk, rz, hXY⟩ := pair_steps w x y q N p
  have HX : Hid (∀ W1 W, Hid (Below w.heap.size w W1) → Hid (ACells pb x y w.heap.size b0 c0 W1) → Below W1.heap.size W1 W → Calls Tryz.prog 29 #[.pointer (some ⟨x, 0, none⟩)] W fun e w1 => e = .returned (.tuple #[.int .i64 rk, .int .i64 rz]) ∧ Hid (Below w.heap.size w w1) ∧ Hid (ACells pb x y w.heap.size b0 c0 w1)) := fun W1 W h1 h2 h3 => piece_ask (fun W hW => (hXY W hW).1) h1 h2 h3
  have HY : Hid (∀ W1 W, Hid (Below w.heap.size w W1) → Hid (ACells pb x y w.heap.size b0 c0 W1) → Below W1.heap.size W1 W → Calls Tryz.prog 30 #[.pointer (some ⟨y, 0, none⟩)] W fun e w1 => e = .returned (.tuple #[.int .i64 rk, .int .i64 rz]) ∧ Hid (Below w.heap.size w w1) ∧ Hid (ACells pb x y w.heap.size b0 c0 w1)) := fun W1 W h1 h2 h3 => piece_ask (fun W hW => (hXY W hW).2) h1 h2 h3
  have hpl : pb < w.heap.size := block_lt_of_cell hb0
  clear hXY p
  unfold OpV.val
  go_enter Tryz.func15, Tryz.ntmps15
  have HWA : Hid (Below w.heap.size w (w.alloc (Obj.cells #[.int .i64 6, .int .i64 a0, .int .i64 b0, .int .i64 c0, .int .i64 d0, .int .i64 e0, .string s0] 35))) := below_al _ _
  have HWC : Hid (ACells pb x y w.heap.size b0 c0 (w.alloc (Obj.cells #[.int .i64 6, .int .i64 a0, .int .i64 b0, .int .i64 c0, .int .i64 d0, .int .i64 e0, .string s0] 35))) := ⟨below_cell' HWA.out hb0, below_cell' HWA.out hb1, by simp [go_sem], by simp [go_sem]⟩
  go_wp2_with (go_at_call 29; go_must (refine (HX.out _ _ HWA HWC (below_like (by rfl) (by rfl) (by rfl) (by rfl))).mono ?_))
  rintro e w1 ⟨rfl, K1, C1⟩
  obtain ⟨t0, t1, t2, t3⟩ := C1.out
  go_wp2_with (go_at_call 30; go_must (refine (HY.out _ _ K1 C1 (below_like (by rfl) (by rfl) (by rfl) (by rfl))).mono ?_))
  rintro e w2 ⟨rfl, K2, C2⟩
  go_wp2_with fail
  go_ret
  exact ⟨by simp, K2.out⟩
/-- A box of three cells. -/
def D3F (l : Bool) (u r : Int) (j : Nat) : Value := if j = 0 then .bool l else if j = 1 then .int .i64 u else .int .i64 r
def D3 (W : World) (b : Nat) (l : Bool) (u r : Int) : Prop := W.rowIs b 71 3 (D3F l u r)
theorem D3.below {W W' : World} {b : Nat} {l : Bool} {u r : Int} (h : D3 W b l u r) (k : Below W.heap.size W W') : D3 W' b l u r := World.rowIs.of_block h (k.block b (World.rowIs.lt h))
theorem D3.cells {W : World} {b : Nat} {l : Bool} {u r : Int} (h : D3 W b l u r) : W.cell? ⟨b, 0, none⟩ = some (.bool l) ∧ W.cell? ⟨b, 1, none⟩ = some (.int .i64 u) ∧ W.cell? ⟨b, 2, none⟩ = some (.int .i64 r) := ⟨h.cell (i := 0) (by omega), h.cell (i := 1) (by omega), h.cell (i := 2) (by omega)⟩
theorem D3.frz {W : World} {b : Nat} {l : Bool} {u r : Int} (h : D3 W b l u r) : W.frozen? ⟨b, 0, none⟩ = false ∧ W.frozen? ⟨b, 1, none⟩ = false ∧ W.frozen? ⟨b, 2, none⟩ = false := ⟨h.frozen 0, h.frozen 1, h.frozen 2⟩
theorem D3.new (w : World) (l : Bool) (u r : Int) (H : Nat) (hH : w.heap.size = H) : D3 (w.alloc (.cells #[.bool l, .int .i64 u, .int .i64 r] 71)) H l u r := by
  subst hH
  refine World.rowIs_alloc w _ _ _ ?_
  intro i hi
  have hi' : i < 3 := hi
  have : i = 0 ∨ i = 1 ∨ i = 2 := by omega
  rcases this with rfl | rfl | rfl <;> rfl
theorem D3.set {w : World} {b : Nat} {l l' : Bool} {u r u' r' : Int} (h : D3 w b l u r) : D3 (((w.setCell ⟨b, 0, none⟩ (.bool l')).setCell ⟨b, 1, none⟩ (.int .i64 u')).setCell ⟨b, 2, none⟩ (.int .i64 r')) b l' u' r' := by
  refine World.rowIs.congr (World.rowIs.set (World.rowIs.set (World.rowIs.set h 0 _) 1 _) 2 _) ?_
  intro j hj
  have : j = 0 ∨ j = 1 ∨ j = 2 := by omega
  rcases this with rfl | rfl | rfl <;> rfl
theorem below_set3 {B : Nat} {w w' : World} (h : Below B w w') {g : Nat} (hg : B ≤ g) (v0 v1 v2 : Value) : Below B w (((w'.setCell ⟨g, 0, none⟩ v0).setCell ⟨g, 1, none⟩ v1).setCell ⟨g, 2, none⟩ v2) :=
  ((h.setCell hg _).setCell hg _).setCell hg _
set_option maxRecDepth 100000 in
set_option maxHeartbeats 1000000 in
theorem asked_drive (tb pb x y : Nat) (q : PSt) (N : Nat) (o : OpV) (w : World) (hk : o.k = 7) (hb0 : w.cell? ⟨pb, 0, none⟩ = some (.pointer (some ⟨x, 0, none⟩))) (hb1 : w.cell? ⟨pb, 1, none⟩ = some (.pointer (some ⟨y, 0, none⟩))) (p : PairAt w x y q N) :
    Calls Tryz.prog 15 #[.pointer (some ⟨tb, 0, none⟩), o.val, .pointer (some ⟨pb, 0, none⟩)] w fun e w' => e = .returned (.bool true) ∧ Below w.heap.size w w' := by
  obtain ⟨k, a0, b0, c0, d0, e0, s0⟩ := o
  simp only at hk
  subst hk
  obtain ⟨rl, ru, rr, rz, hXY⟩ := pair_drive w x y q N b0 p
  have HX : Hid (∀ W, Below w.heap.size w W → Calls Tryz.prog 31 #[.pointer (some ⟨x, 0, none⟩), .int .i64 b0] W fun e w1 => e = .returned (.tuple #[.agg #[.bool rl, .int .i64 ru, .int .i64 rr], .int .i64 rz]) ∧ Below W.heap.size W w1) := fun W hW => (hXY W hW).1
  have HY : Hid (∀ W, Below w.heap.size w W → Calls Tryz.prog 32 #[.pointer (some ⟨y, 0, none⟩), .int .i64 b0] W fun e w1 => e = .returned (.tuple #[.agg #[.bool rl, .int .i64 ru, .int .i64 rr], .int .i64 rz]) ∧ Below W.heap.size W w1) := fun W hW => (hXY W hW).2
  have hpl : pb < w.heap.size := block_lt_of_cell hb0
  clear hXY p
  unfold OpV.val
  go_enter Tryz.func15, Tryz.ntmps15
  have HWA : Hid (Below w.heap.size w (w.alloc (Obj.cells #[.int .i64 7, .int .i64 a0, .int .i64 b0, .int .i64 c0, .int .i64 d0, .int .i64 e0, .string s0] 35))) := below_al _ _
  have HWC : Hid (ACells pb x y w.heap.size b0 c0 (w.alloc (Obj.cells #[.int .i64 7, .int .i64 a0, .int .i64 b0, .int .i64 c0, .int .i64 d0, .int .i64 e0, .string s0] 35))) := ⟨below_cell' HWA.out hb0, below_cell' HWA.out hb1, by simp [go_sem], by simp [go_sem]⟩
  go_upto_region 13 with fail
  obtain ⟨t0, t1, t2, t3⟩ := HWC.out
  have HL0 : Hid (w.heap.size ≤ (w.alloc (Obj.cells #[.int .i64 7, .int .i64 a0, .int .i64 b0, .int .i64 c0, .int .i64 d0, .int .i64 e0, .string s0] 35)).heap.size) := HWA.out.size
  generalize (w.alloc (Obj.cells #[.int .i64 7, .int .i64 a0, .int .i64 b0, .int .i64 c0, .int .i64 d0, .int .i64 e0, .string s0] 35)) = W0 at *
  go_cut [16, 17] (fun s16 s17 wx => ∃ cb, s16 = .pointer (some ⟨cb, 0, none⟩) ∧ s17 = .int .i64 rz ∧ D3 wx cb rl ru rr ∧ Below W0.heap.size W0 wx)
  case first =>
    have n1 := World.new_ne W0 _ t0
    have n2 := World.new_ne W0 _ t2
    go_region_held3 (fun W => W.cell? ⟨pb, 0, none⟩ = some (.pointer (some ⟨x, 0, none⟩)) ∧ W.cell? ⟨w.heap.size, 2, none⟩ = some (.int .i64 b0)) (go_keep) (first | (go_at_call 31; refine (HX.out _ (by repeat (first | exact HWA.out | refine Below.drew ?_ | refine Below.alloc ?_ HL0.out _))).mono ?_; rintro e w3 ⟨rfl, k3⟩; (have g0 : w3.cell? ⟨pb, 0, none⟩ = some (.pointer (some ⟨x, 0, none⟩)) := below_cell' k3 (below_cell' (by repeat (first | exact Below.refl _ _ | refine Below.drew ?_ | refine Below.alloc ?_ (Nat.le_refl _) _)) t0)); (have g2 : w3.cell? ⟨w.heap.size, 2, none⟩ = some (.int .i64 b0) := below_cell' k3 (below_cell' (by repeat (first | exact Below.refl _ _ | refine Below.drew ?_ | refine Below.alloc ?_ (Nat.le_refl _) _)) t2)); (try (have hB9 : D3 w3 W0.heap.size false 0 0 := (D3.new W0 false 0 0 _ rfl).below (below_from k3 rfl rfl rfl rfl); obtain ⟨z0, z1, z2⟩ := hB9.cells; obtain ⟨q0, q1, q2⟩ := hB9.frz; have HB9 : Hid (D3 w3 W0.heap.size false 0 0) := hB9; clear hB9)); have K3 : Hid (Below W0.heap.size W0 w3) := (by first | exact below_from k3 rfl rfl rfl rfl | exact ((below_al W0 (.cells #[.bool false, .int .i64 0, .int .i64 0] 71)).drew).trans (k3.mono (below_al W0 (.cells #[.bool false, .int .i64 0, .int .i64 0] 71)).size)); clear k3))
    all_goals
      go_wp2_with fail
      go_meet
      first
        | exact ⟨W0.heap.size, rfl, rfl, HB9.out.set, below_set3 K3.out (Nat.le_refl _) _ _ _⟩
        | exact ⟨w3.heap.size, rfl, rfl, D3.new w3 rl ru rr _ rfl, K3.out.alloc K3.out.size _⟩
  case rest =>
    obtain ⟨cb, rfl, rfl, hd3, hbw⟩ := hcut
    have HD1 : Hid (D3 wc cb rl ru rr) := hd3
    have HWB : Hid (Below w.heap.size w wc) := HWA.out.trans (hbw.mono HL0.out)
    have HCC : Hid (ACells pb x y w.heap.size b0 c0 wc) := HWC.out.below hbw
    clear hd3 hbw t0 t1 t2 t3 HWA HWC HL0 HX
    generalize hWW : wc = W0' at *
    clear hWW
    clear wc W0
    rename World => W0
    obtain ⟨t0, t1, t2, t3⟩ := HCC.out
    obtain ⟨f0, f1, f2⟩ := HD1.out.cells
    have HL0 : Hid (w.heap.size ≤ W0.heap.size) := HWB.out.size
    go_upto_region 14 with fail
    go_cut [18, 19] (fun s18 s19 wx => ∃ cb, s18 = .pointer (some ⟨cb, 0, none⟩) ∧ s19 = .int .i64 rz ∧ D3 wx cb rl ru rr ∧ Below W0.heap.size W0 wx)
    case first =>
      have n1 := World.new_ne W0 _ t1
      have n2 := World.new_ne W0 _ t2
      go_region_held3 (fun W => W.cell? ⟨pb, 1, none⟩ = some (.pointer (some ⟨y, 0, none⟩)) ∧ W.cell? ⟨w.heap.size, 2, none⟩ = some (.int .i64 b0)) (go_keep) (first | (go_at_call 32; refine (HY.out _ (by repeat (first | exact HWB.out | refine Below.drew ?_ | refine Below.alloc ?_ HL0.out _))).mono ?_; rintro e w3 ⟨rfl, k3⟩; (have g0 : w3.cell? ⟨pb, 1, none⟩ = some (.pointer (some ⟨y, 0, none⟩)) := below_cell' k3 (below_cell' (by repeat (first | exact Below.refl _ _ | refine Below.drew ?_ | refine Below.alloc ?_ (Nat.le_refl _) _)) t1)); (have g2 : w3.cell? ⟨w.heap.size, 2, none⟩ = some (.int .i64 b0) := below_cell' k3 (below_cell' (by repeat (first | exact Below.refl _ _ | refine Below.drew ?_ | refine Below.alloc ?_ (Nat.le_refl _) _)) t2)); (try (have hB9 : D3 w3 W0.heap.size false 0 0 := (D3.new W0 false 0 0 _ rfl).below (below_from k3 rfl rfl rfl rfl); obtain ⟨z0, z1, z2⟩ := hB9.cells; obtain ⟨q0, q1, q2⟩ := hB9.frz; have HB9 : Hid (D3 w3 W0.heap.size false 0 0) := hB9; clear hB9)); have K3 : Hid (Below W0.heap.size W0 w3) := (by first | exact below_from k3 rfl rfl rfl rfl | exact ((below_al W0 (.cells #[.bool false, .int .i64 0, .int .i64 0] 71)).drew).trans (k3.mono (below_al W0 (.cells #[.bool false, .int .i64 0, .int .i64 0] 71)).size)); clear k3))
      all_goals
        go_wp2_with fail
        go_meet
        first
          | exact ⟨W0.heap.size, rfl, rfl, HB9.out.set, below_set3 K3.out (Nat.le_refl _) _ _ _⟩
          | exact ⟨w3.heap.size, rfl, rfl, D3.new w3 rl ru rr _ rfl, K3.out.alloc K3.out.size _⟩
    case rest =>
      obtain ⟨cb2, rfl, rfl, hd3, hbw⟩ := hcut
      have HWB2 : Hid (Below w.heap.size w wc) := HWB.out.trans (hbw.mono HL0.out)
      obtain ⟨h0, h1, h2⟩ := (HD1.out.below hbw).cells
      obtain ⟨i0, i1, i2⟩ := hd3.cells
      clear hd3 hbw t0 t1 t2 t3 f0 f1 f2 HCC HD1 HL0 HY
      go_wp2_with fail
      go_ret
      exact ⟨by simp, HWB2.out⟩
end Go.Proofs.YtfpoiikhhjdpdaaGreat
