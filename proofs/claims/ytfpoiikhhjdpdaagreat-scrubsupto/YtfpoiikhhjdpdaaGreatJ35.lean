import Derived.Test.YtfpoiikhhjdpdaaGreatJ34
import Derived.Test.YtfpoiikhhjdpdaaGreatJ31
import Derived.Test.YtfpoiikhhjdpdaaGreatJ33
/- hoardlaw.asked: Log. -/
namespace Go.Proofs.YtfpoiikhhjdpdaaGreat
open Go.RowKit
set_option linter.unusedVariables false
attribute [local go_sem ↓] Go.wp_at_zero Go.wp_at_succ
/-- The program's list, in a world above w. -/
structure RL (w : World) (k : Nat) (g : List Rec) (pa : Option Addr) (ca : Nat) (w1 : World) : Prop where
  bel : Below w.heap.size w w1
  own : ∃ xs, w1.ownsRow 0 92 5 (.slice pa k ca) k xs
  new : ∀ b, (Value.slice pa k ca).ownBlock = some b → w.heap.size ≤ b
  recs : RecsAt w1 pa g
theorem RL.below {w : World} {k : Nat} {g : List Rec} {pa : Option Addr} {ca : Nat} {w1 w2 : World} (h : RL w k g pa ca w1) (kk : Below w1.heap.size w1 w2) : RL w k g pa ca w2 := by
  obtain ⟨xs, ho⟩ := h.own
  exact ⟨h.bel.trans (kk.mono h.bel.size), ⟨xs, own_block ho (fun b hb => kk.block b (World.ownsRow.lt ho b hb).2)⟩, h.new, h.recs.below kk⟩
theorem recs_of_own {w : World} {B ca : Nat} {pa : Option Addr} {L : List Rec} (h : w.ownsRow B 92 5 (.slice pa L.length ca) L.length (recCells L)) : RecsAt w pa L := by
  have h0 : LogAt w (.slice pa L.length ca) L := ownsRow_base h (fun _ _ => Nat.zero_le _)
  obtain ⟨p, cap, e, hr⟩ := h0.recs
  injection e with e1 _ _
  rw [e1]; exact hr
theorem piece_lx {w W1 W : World} {pb x y hs : Nat} {b c : Int} {k : Nat} {g : List Rec} {z : Int} (hgk : g.length = k) (hX : ∀ W, Below w.heap.size w W → Calls Tryz.prog 36 #[.pointer (some ⟨x, 0, none⟩), .int .i64 b] W (XLog g z W)) (hb : Hid (Below w.heap.size w W1)) (hc : Hid (ACells pb x y hs b c W1)) (kk : Below W1.heap.size W1 W) :
    Calls Tryz.prog 36 #[.pointer (some ⟨x, 0, none⟩), .int .i64 b] W fun e w1 => ∃ pa ca, e = .returned (.tuple #[.slice pa k ca, .int .i64 z]) ∧ Hid (z ≠ 0 → pa = none) ∧ Hid (RL w k g pa ca w1) ∧ ACells pb x y hs b c w1 := by
  subst hgk
  have kW : Below w.heap.size w W := hb.out.trans (kk.mono hb.out.size)
  have hcW : ACells pb x y hs b c W := hc.out.below kk
  refine (hX W kW).mono ?_
  rintro e w1 ⟨pa, ca, rfl, hz, ho, k1⟩
  exact ⟨pa, ca, rfl, hz, ⟨kW.trans (k1.mono kW.size), ⟨_, ownsRow_base ho (fun _ _ => Nat.zero_le _)⟩, fun b hb => Nat.le_trans kW.size (World.ownsRow.lt ho b hb).1, recs_of_own ho⟩, hcW.below k1⟩
theorem piece_ly {w w1 W : World} {pb x y hs : Nat} {b c : Int} {k : Nat} {g : List Rec} {z : Int} {pa : Option Addr} {ca : Nat} (hgk : g.length = k) (hY : ∀ W, Below w.heap.size w W → Calls Tryz.prog 37 #[.pointer (some ⟨y, 0, none⟩), .int .i64 b] W (YLog g z W)) (h : Hid (RL w k g pa ca w1)) (hc : Hid (ACells pb x y hs b c w1)) (kk : Below w1.heap.size w1 W) :
    Calls Tryz.prog 37 #[.pointer (some ⟨y, 0, none⟩), .int .i64 b] W fun e w2 => ∃ pb' cb, e = .returned (.tuple #[.slice pb' k cb, .int .i64 z]) ∧ Hid (RL w k g pa ca w2) ∧ Hid (RecsAt w2 pb' g) ∧ ACells pb x y hs b c w2 := by
  subst hgk
  have hR := h.out.below kk
  refine (hY W hR.bel).mono ?_
  rintro e w2 ⟨pb', cb, rfl, hby, k1⟩
  exact ⟨pb', cb, rfl, hR.below k1, hby, (hc.out.below kk).below k1⟩
theorem piece_ls {w w2 : World} {k : Nat} {g : List Rec} {pa pb' : Option Addr} {ca cb : Nat} (hgk : g.length = k) (hk : k ≤ 100) (h : Hid (RL w k g pa ca w2)) (hB : Hid (RecsAt w2 pb' g)) :
    Calls Tryz.prog 38 #[.slice pa k ca, .slice pb' k cb] w2 fun e w3 => e = .returned (.bool true) ∧ Hid (RL w k g pa ca w3) := by
  subst hgk
  refine (lsameLog_eq pa pb' ca cb g w2 (by omega) h.out.recs hB.out).mono ?_
  rintro e w3 ⟨rfl, k1⟩
  exact ⟨rfl, h.out.below k1⟩
theorem piece_lo {T w w3 : World} {tag : Nat → Nat} {G : GSt} {N : Nat} {k : Nat} {g : List Rec} {pa : Option Addr} {ca : Nat} (hk : k ≤ 100) (hN : N ≤ 220000000) (hG : Great T w tag G N) (h : Hid (RL w k g pa ca w3)) :
    Calls Tryz.prog 39 #[.pointer (some ⟨T.heap.size, 1, none⟩), .slice pa k ca] w3 fun e w' => e = .returned (.tuple #[]) ∧ Hid (∃ tag' G', Great T w' tag' G' (N + 200)) := by
  obtain ⟨xs, ho⟩ := h.out.own
  exact (ownLog_great (hG.below h.out.bel) hN pa k ca xs ho hk (fun b hb => ⟨Nat.le_trans hG.bel.size (h.out.new b hb), tagN_ge (h.out.new b hb)⟩)).mono (fun e w' hh => ⟨hh.1, hh.2⟩)
set_option maxRecDepth 100000 in
set_option maxHeartbeats 1000000 in
theorem asked_log0 (T : World) (tag : Nat → Nat) (G : GSt) (pb x y : Nat) (N : Nat) (o : OpV) (w : World) (hk : o.k = 9) (hb0 : w.cell? ⟨pb, 0, none⟩ = some (.pointer (some ⟨x, 0, none⟩))) (hb1 : w.cell? ⟨pb, 1, none⟩ = some (.pointer (some ⟨y, 0, none⟩))) (hN : N ≤ 220000000) (hG : Great T w tag G N)
    (k : Nat) (g : List Rec) (z : Int) (hgk : g.length = k) (hk1 : k ≤ 100) (hz : z = 0)
    (hX : ∀ W, Below w.heap.size w W → Calls Tryz.prog 36 #[.pointer (some ⟨x, 0, none⟩), .int .i64 o.b] W (XLog g z W)) (hY : ∀ W, Below w.heap.size w W → Calls Tryz.prog 37 #[.pointer (some ⟨y, 0, none⟩), .int .i64 o.b] W (YLog g z W)) :
    Calls Tryz.prog 15 #[.pointer (some ⟨T.heap.size, 0, none⟩), o.val, .pointer (some ⟨pb, 0, none⟩)] w fun e w' => e = .returned (.bool true) ∧ ∃ tag' G', Great T w' tag' G' (N + 200) := by
  obtain ⟨kk, a0, b0, c0, d0, e0, s0⟩ := o
  simp only at hk hX hY
  subst hk
  have H1 : Hid (∀ W1 W, Hid (Below w.heap.size w W1) → Hid (ACells pb x y w.heap.size b0 c0 W1) → Below W1.heap.size W1 W → Calls Tryz.prog 36 #[.pointer (some ⟨x, 0, none⟩), .int .i64 b0] W fun e w1 => ∃ pa ca, e = .returned (.tuple #[.slice pa k ca, .int .i64 z]) ∧ Hid (z ≠ 0 → pa = none) ∧ Hid (RL w k g pa ca w1) ∧ ACells pb x y w.heap.size b0 c0 w1) := fun W1 W h1 h2 h3 => piece_lx hgk hX h1 h2 h3
  have H2 : Hid (∀ pa ca w1 W, Hid (RL w k g pa ca w1) → Hid (ACells pb x y w.heap.size b0 c0 w1) → Below w1.heap.size w1 W → Calls Tryz.prog 37 #[.pointer (some ⟨y, 0, none⟩), .int .i64 b0] W fun e w2 => ∃ pb' cb, e = .returned (.tuple #[.slice pb' k cb, .int .i64 z]) ∧ Hid (RL w k g pa ca w2) ∧ Hid (RecsAt w2 pb' g) ∧ ACells pb x y w.heap.size b0 c0 w2) := fun pa ca w1 W h1 h2 h3 => piece_ly hgk hY h1 h2 h3
  have H3 : Hid (∀ pa ca pb' cb w2, Hid (RL w k g pa ca w2) → Hid (RecsAt w2 pb' g) → Calls Tryz.prog 38 #[.slice pa k ca, .slice pb' k cb] w2 fun e w3 => e = .returned (.bool true) ∧ Hid (RL w k g pa ca w3)) := fun pa ca pb' cb w2 h1 h2 => piece_ls hgk hk1 h1 h2
  have H4 : Hid (∀ pa ca w3, Hid (RL w k g pa ca w3) → Calls Tryz.prog 39 #[.pointer (some ⟨T.heap.size, 1, none⟩), .slice pa k ca] w3 fun e w' => e = .returned (.tuple #[]) ∧ Hid (∃ tag' G', Great T w' tag' G' (N + 200))) := fun pa ca w3 h => piece_lo hk1 hN hG h
  have hpl : pb < w.heap.size := block_lt_of_cell hb0
  clear hX hY hG hN hk1 hgk
  unfold OpV.val
  go_enter Tryz.func15, Tryz.ntmps15
  have HWA : Hid (Below w.heap.size w (w.alloc (Obj.cells #[.int .i64 9, .int .i64 a0, .int .i64 b0, .int .i64 c0, .int .i64 d0, .int .i64 e0, .string s0] 35))) := below_al _ _
  have HWC : Hid (ACells pb x y w.heap.size b0 c0 (w.alloc (Obj.cells #[.int .i64 9, .int .i64 a0, .int .i64 b0, .int .i64 c0, .int .i64 d0, .int .i64 e0, .string s0] 35))) := ⟨below_cell' HWA.out hb0, below_cell' HWA.out hb1, by simp [go_sem], by simp [go_sem]⟩
  go_wp2_with fail
  go_region_held3 (fun W => W.cell? ⟨pb, 0, none⟩ = some (.pointer (some ⟨x, 0, none⟩)) ∧ W.cell? ⟨w.heap.size, 2, none⟩ = some (.int .i64 b0)) (go_keep) (first | (go_at_call 36; refine (H1.out _ _ HWA HWC (below_like (by rfl) (by rfl) (by rfl) (by rfl))).mono ?_; rintro e w1 ⟨pa, ca, rfl, hz1, hR1, hC1⟩; have HC1 : Hid (ACells pb x y w.heap.size b0 c0 w1) := hC1; obtain ⟨t0, t1, t2, t3⟩ := hC1))
  all_goals
    clear H1 HWA HWC
    go_wp2_with fail
    go_region_held3 (fun W => W.cell? ⟨pb, 1, none⟩ = some (.pointer (some ⟨y, 0, none⟩)) ∧ W.cell? ⟨w.heap.size, 2, none⟩ = some (.int .i64 b0)) (go_keep) (first | (go_at_call 37; refine (H2.out pa ca w1 _ hR1 HC1 (below_like (by rfl) (by rfl) (by rfl) (by rfl))).mono ?_; rintro e w2 ⟨pb2, cb, rfl, hR2, hB2, hC2⟩; clear t0 t1 t2 t3; obtain ⟨t0, t1, t2, t3⟩ := hC2))
    all_goals
      clear H2 HC1 hR1
      clear t0 t1 t2 t3
      go_wp2_with (go_at_call 38; go_must (refine (H3.out pa ca pb2 cb _ hR2 hB2).mono ?_))
      rintro e w3 ⟨rfl, hR3⟩
      clear H3 hR2 hB2
      go_wp2_with (go_at_call 39; go_must (refine (H4.out pa ca _ hR3).mono ?_))
      rintro e w4 ⟨rfl, hF⟩
      clear H4 hR3
      subst hz
      go_wp2_with fail
      go_ret
      exact ⟨by simp, hF.out⟩
set_option maxRecDepth 100000 in
set_option maxHeartbeats 1000000 in
theorem asked_logE (T : World) (tag : Nat → Nat) (G : GSt) (pb x y : Nat) (N : Nat) (o : OpV) (w : World) (hk : o.k = 9) (hb0 : w.cell? ⟨pb, 0, none⟩ = some (.pointer (some ⟨x, 0, none⟩))) (hb1 : w.cell? ⟨pb, 1, none⟩ = some (.pointer (some ⟨y, 0, none⟩))) (hN : N ≤ 220000000) (hG : Great T w tag G N)
    (k : Nat) (g : List Rec) (z : Int) (hgk : g.length = k) (hk1 : k ≤ 100) (hz : z ≠ 0)
    (hX : ∀ W, Below w.heap.size w W → Calls Tryz.prog 36 #[.pointer (some ⟨x, 0, none⟩), .int .i64 o.b] W (XLog g z W)) (hY : ∀ W, Below w.heap.size w W → Calls Tryz.prog 37 #[.pointer (some ⟨y, 0, none⟩), .int .i64 o.b] W (YLog g z W)) :
    Calls Tryz.prog 15 #[.pointer (some ⟨T.heap.size, 0, none⟩), o.val, .pointer (some ⟨pb, 0, none⟩)] w fun e w' => e = .returned (.bool true) ∧ ∃ tag' G', Great T w' tag' G' (N + 200) := by
  obtain ⟨kk, a0, b0, c0, d0, e0, s0⟩ := o
  simp only at hk hX hY
  subst hk
  have H1 : Hid (∀ W1 W, Hid (Below w.heap.size w W1) → Hid (ACells pb x y w.heap.size b0 c0 W1) → Below W1.heap.size W1 W → Calls Tryz.prog 36 #[.pointer (some ⟨x, 0, none⟩), .int .i64 b0] W fun e w1 => ∃ pa ca, e = .returned (.tuple #[.slice pa k ca, .int .i64 z]) ∧ Hid (z ≠ 0 → pa = none) ∧ Hid (RL w k g pa ca w1) ∧ ACells pb x y w.heap.size b0 c0 w1) := fun W1 W h1 h2 h3 => piece_lx hgk hX h1 h2 h3
  have H2 : Hid (∀ pa ca w1 W, Hid (RL w k g pa ca w1) → Hid (ACells pb x y w.heap.size b0 c0 w1) → Below w1.heap.size w1 W → Calls Tryz.prog 37 #[.pointer (some ⟨y, 0, none⟩), .int .i64 b0] W fun e w2 => ∃ pb' cb, e = .returned (.tuple #[.slice pb' k cb, .int .i64 z]) ∧ Hid (RL w k g pa ca w2) ∧ Hid (RecsAt w2 pb' g) ∧ ACells pb x y w.heap.size b0 c0 w2) := fun pa ca w1 W h1 h2 h3 => piece_ly hgk hY h1 h2 h3
  have H3 : Hid (∀ pa ca pb' cb w2, Hid (RL w k g pa ca w2) → Hid (RecsAt w2 pb' g) → Calls Tryz.prog 38 #[.slice pa k ca, .slice pb' k cb] w2 fun e w3 => e = .returned (.bool true) ∧ Hid (RL w k g pa ca w3)) := fun pa ca pb' cb w2 h1 h2 => piece_ls hgk hk1 h1 h2
  have H4 : Hid (∀ pa ca w3, Hid (RL w k g pa ca w3) → Calls Tryz.prog 39 #[.pointer (some ⟨T.heap.size, 1, none⟩), .slice pa k ca] w3 fun e w' => e = .returned (.tuple #[]) ∧ Hid (∃ tag' G', Great T w' tag' G' (N + 200))) := fun pa ca w3 h => piece_lo hk1 hN hG h
  have hpl : pb < w.heap.size := block_lt_of_cell hb0
  clear hX hY hG hN hk1 hgk
  unfold OpV.val
  go_enter Tryz.func15, Tryz.ntmps15
  have HWA : Hid (Below w.heap.size w (w.alloc (Obj.cells #[.int .i64 9, .int .i64 a0, .int .i64 b0, .int .i64 c0, .int .i64 d0, .int .i64 e0, .string s0] 35))) := below_al _ _
  have HWC : Hid (ACells pb x y w.heap.size b0 c0 (w.alloc (Obj.cells #[.int .i64 9, .int .i64 a0, .int .i64 b0, .int .i64 c0, .int .i64 d0, .int .i64 e0, .string s0] 35))) := ⟨below_cell' HWA.out hb0, below_cell' HWA.out hb1, by simp [go_sem], by simp [go_sem]⟩
  go_wp2_with fail
  go_region_held3 (fun W => W.cell? ⟨pb, 0, none⟩ = some (.pointer (some ⟨x, 0, none⟩)) ∧ W.cell? ⟨w.heap.size, 2, none⟩ = some (.int .i64 b0)) (go_keep) (first | (go_at_call 36; refine (H1.out _ _ HWA HWC (below_like (by rfl) (by rfl) (by rfl) (by rfl))).mono ?_; rintro e w1 ⟨pa, ca, rfl, hz1, hR1, hC1⟩; have HC1 : Hid (ACells pb x y w.heap.size b0 c0 w1) := hC1; obtain ⟨t0, t1, t2, t3⟩ := hC1))
  all_goals
    clear H1 HWA HWC
    go_wp2_with fail
    go_region_held3 (fun W => W.cell? ⟨pb, 1, none⟩ = some (.pointer (some ⟨y, 0, none⟩)) ∧ W.cell? ⟨w.heap.size, 2, none⟩ = some (.int .i64 b0)) (go_keep) (first | (go_at_call 37; refine (H2.out pa ca w1 _ hR1 HC1 (below_like (by rfl) (by rfl) (by rfl) (by rfl))).mono ?_; rintro e w2 ⟨pb2, cb, rfl, hR2, hB2, hC2⟩; clear t0 t1 t2 t3; obtain ⟨t0, t1, t2, t3⟩ := hC2))
    all_goals
      clear H2 HC1 hR1
      clear t0 t1 t2 t3
      go_wp2_with (go_at_call 38; go_must (refine (H3.out pa ca pb2 cb _ hR2 hB2).mono ?_))
      rintro e w3 ⟨rfl, hR3⟩
      clear H3 hR2 hB2
      go_wp2_with (go_at_call 39; go_must (refine (H4.out pa ca _ hR3).mono ?_))
      rintro e w4 ⟨rfl, hF⟩
      clear H4 hR3
      obtain rfl := hz1.out hz
      have hz2 : (z == 0) = false := by rw [beq_eq_false_iff_ne]; exact hz
      clear hz1
      have hnl := nil_recs k ca w4
      go_wp2_with fail
      go_ret
      exact ⟨by simp, hF.out⟩
theorem asked_log (T : World) (tag : Nat → Nat) (G : GSt) (N i : Nat) (o : OpV) (w : World) (hk : o.k = 9) (hi : i < G.n) (hN : N ≤ 220000000) (hG : Great T w tag G N) :
    Calls Tryz.prog 15 #[.pointer (some ⟨T.heap.size, 0, none⟩), o.val, .pointer (some ⟨G.pb i, 0, none⟩)] w fun e w' => e = .returned (.bool true) ∧ ∃ tag' G', Great T w' tag' G' (N + 200) := by
  obtain ⟨g, z, hk1, hX, hY⟩ := pair_log w _ _ _ N o.b (hG.pr i hi)
  by_cases hz : z = 0
  · exact asked_log0 T tag G _ _ _ N o w hk ((hG.box i hi).cell (i := 0) (by omega)) ((hG.box i hi).cell (i := 1) (by omega)) hN hG _ g z rfl hk1 hz hX hY
  · exact asked_logE T tag G _ _ _ N o w hk ((hG.box i hi).cell (i := 0) (by omega)) ((hG.box i hi).cell (i := 1) (by omega)) hN hG _ g z rfl hk1 hz hX hY
end Go.Proofs.YtfpoiikhhjdpdaaGreat
