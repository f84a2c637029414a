import Derived.Test.YtfpoiikhhjdpdaaGreatJ01
import Derived.Test.YtfpoiikhhjdpdaaGreatJ18
import Derived.Test.YtfpoiikhhjdpdaaGreatJ20
import Derived.Test.YtfpoiikhhjdpdaaGreatJ21
/- hoardlaw.made. -/
namespace Go.Proofs.YtfpoiikhhjdpdaaGreat
open Go.RowKit
set_option linter.unusedVariables false
attribute [local go_sem ↓] Go.wp_at_zero Go.wp_at_succ
/-- A new pair. -/
theorem pair_new {w1 w2 : World} {x y a b c d N : Nat} {V : Nat → Value} (hx : HoardAt w1 x (newSt a b c d)) (k : Below w1.heap.size w1 w2) (hy : RefIn w2 y (newAb a b c d) V (-1) false) (hf : ∀ j, RFoot y (newAb a b c d) V j → w1.heap.size ≤ j) : PairAt w2 x y ⟨newSt a b c d, newAb a b c d, V, -1, false⟩ N := by
  refine ⟨fun _ => hx.below k, fun h => (by cases h), hy, fun j hj hr => ?_, ⟨fun _ => ⟨rfl, rfl⟩, fun h => (by cases h), fun b hb => (by cases hb), Fit.new a b c d, Nat.zero_le _⟩⟩
  have h1 := hx.foot_lt (hx.footD hj)
  have h2 := hf j hr
  omega
set_option maxRecDepth 100000 in
set_option maxHeartbeats 1000000 in
theorem made_no (T : World) (o : OpV) (w : World) (hs : shapeB o.a o.b o.c o.d = false) :
    Calls Tryz.prog 13 #[.pointer (some ⟨T.heap.size, 0, none⟩), o.val] w fun e w' => e = .returned (.bool true) ∧ Below w.heap.size w w' := by
  obtain ⟨k, a0, b0, c0, d0, e0, s0⟩ := o
  simp only at hs
  unfold OpV.val
  have HX : Hid (∀ W, Calls Tryz.prog 23 #[.agg #[.int .i64 a0, .int .i64 b0, .int .i64 c0, .int .i64 d0]] W fun e w' => e = .returned (.tuple #[.pointer none, .int .i64 2]) ∧ Below W.heap.size W w') := fun W => New_no a0 b0 c0 d0 W hs
  have HY : Hid (∀ W, Calls Tryz.prog 24 #[.agg #[.int .i64 a0, .int .i64 b0, .int .i64 c0, .int .i64 d0]] W fun e w' => e = .returned (.tuple #[.pointer none, .int .i64 2]) ∧ Below W.heap.size W w') := fun W => rNew_no a0 b0 c0 d0 W hs
  clear hs
  go_enter Tryz.func13, Tryz.ntmps13
  go_wp2_with (go_at_call 23; go_must (refine (HX.out _).mono ?_))
  rintro e w1 ⟨rfl, k1⟩
  have u0 : w1.cell? ⟨w.heap.size + 1, 0, none⟩ = some (.int .i64 a0) := below_cell' k1 (by simp [go_sem])
  have u1 : w1.cell? ⟨w.heap.size + 1, 1, none⟩ = some (.int .i64 b0) := below_cell' k1 (by simp [go_sem])
  have u2 : w1.cell? ⟨w.heap.size + 1, 2, none⟩ = some (.int .i64 c0) := below_cell' k1 (by simp [go_sem])
  have u3 : w1.cell? ⟨w.heap.size + 1, 3, none⟩ = some (.int .i64 d0) := below_cell' k1 (by simp [go_sem])
  have K1 : Hid (Below w.heap.size w w1) := (((Below.refl _ _).alloc (Nat.le_refl _) _).alloc (by simp) _).trans (k1.mono (by simp; omega))
  clear k1 HX
  go_wp2_with (go_at_call 24; go_must (refine (HY.out _).mono ?_))
  rintro e w2 ⟨rfl, k2⟩
  have K2 : Hid (Below w.heap.size w w2) := K1.out.trans (k2.mono K1.out.size)
  clear k2 HY u0 u1 u2 u3
  go_wp2_with fail
  go_ret
  exact ⟨by simp, K2.out⟩
set_option maxRecDepth 100000 in
set_option maxHeartbeats 1000000 in
theorem made_ok (tb : Nat) (pv : Value) (n : Nat) (F : Nat → Value) (k a b c d : Nat) (e0 : Int) (s0 : ByteArray) (w : World) (hs : shapeB a b c d = true) (ht : w.cell? ⟨tb, 0, none⟩ = some pv) (hf : w.frozen? ⟨tb, 0, none⟩ = false) (hps : OwnFn w 38 1 pv n F) (hn : n ≤ 1100000) (hap : pv.ownBlock ≠ some tb) (k0 : Int) :
    Calls Tryz.prog 13 #[.pointer (some ⟨tb, 0, none⟩), (OpV.mk k0 a b c d e0 s0).val] w fun e w' => e = .returned (.bool true) ∧ ∃ x y pb V v' w1 w2 w3, HoardAt w1 x (newSt a b c d) ∧ w.heap.size ≤ x ∧ Below w.heap.size w w1 ∧ Below w1.heap.size w1 w2 ∧ RefIn w2 y (newAb a b c d) V (-1) false ∧ (∀ j, RFoot y (newAb a b c d) V j → w1.heap.size ≤ j) ∧ w2.rowIs pb 63 2 (fun j => if j = 0 then .pointer (some ⟨x, 0, none⟩) else .pointer (some ⟨y, 0, none⟩)) ∧ w1.heap.size ≤ pb ∧ ¬ RFoot y (newAb a b c d) V pb ∧ Lies w2 w3 pv v' ∧ OwnFn w3 38 1 v' (n + 1) (fun i => if i < n then F i else .pointer (some ⟨pb, 0, none⟩)) ∧ Like (w3.setCell ⟨tb, 0, none⟩ v') w' := by
  unfold OpV.val
  have htl : tb < w.heap.size := block_lt_of_cell ht
  have HX : Hid (∀ W, Calls Tryz.prog 23 #[.agg #[.int .i64 a, .int .i64 b, .int .i64 c, .int .i64 d]] W fun e w' => ∃ hb, e = .returned (.tuple #[.pointer (some ⟨hb, 0, none⟩), .int .i64 0]) ∧ W.heap.size ≤ hb ∧ HoardAt w' hb (newSt a b c d) ∧ Below W.heap.size W w') := fun W => New_ok a b c d W hs
  have HY : Hid (∀ W, Calls Tryz.prog 24 #[.agg #[.int .i64 a, .int .i64 b, .int .i64 c, .int .i64 d]] W fun e w' => ∃ yb V, e = .returned (.tuple #[.pointer (some ⟨yb, 0, none⟩), .int .i64 0]) ∧ RefIn w' yb (newAb a b c d) V (-1) false ∧ (∀ k, RFoot yb (newAb a b c d) V k → W.heap.size ≤ k) ∧ Below W.heap.size W w') := fun W => rNew_ok a b c d W hs
  obtain ⟨pp, pc, rfl⟩ := own_wid hps
  have HPS : Hid (OwnFn w 38 1 (.slice pp n pc) n F) := hps
  have HAP : Hid ((Value.slice pp n pc).ownBlock ≠ some tb) := hap
  clear hs hps hap
  go_enter Tryz.func13, Tryz.ntmps13
  go_wp2_with (go_at_call 23; go_must (refine (HX.out _).mono ?_))
  rintro e w1 ⟨x, rfl, hxl, hx, k1⟩
  have u0 : w1.cell? ⟨w.heap.size + 1, 0, none⟩ = some (.int .i64 a) := below_cell' k1 (by simp [go_sem])
  have u1 : w1.cell? ⟨w.heap.size + 1, 1, none⟩ = some (.int .i64 b) := below_cell' k1 (by simp [go_sem])
  have u2 : w1.cell? ⟨w.heap.size + 1, 2, none⟩ = some (.int .i64 c) := below_cell' k1 (by simp [go_sem])
  have u3 : w1.cell? ⟨w.heap.size + 1, 3, none⟩ = some (.int .i64 d) := below_cell' k1 (by simp [go_sem])
  have K1 : Hid (Below w.heap.size w w1) := (((Below.refl _ _).alloc (Nat.le_refl _) _).alloc (by simp) _).trans (k1.mono (by simp; omega))
  have HXL : Hid (w.heap.size ≤ x) := (show _ ≤ _ by simp at hxl; omega)
  have HX1 : Hid (HoardAt w1 x (newSt a b c d)) := hx
  clear k1 hxl hx HX
  go_wp2_with (go_at_call 24; go_must (refine (HY.out _).mono ?_))
  rintro e w2 ⟨y, V, rfl, hy, hyf, k2⟩
  have K2 : Hid (Below w1.heap.size w1 w2) := k2
  have HY2 : Hid (RefIn w2 y (newAb a b c d) V (-1) false) := hy
  have HF2 : Hid (∀ k, RFoot y (newAb a b c d) V k → w1.heap.size ≤ k) := hyf
  have T2 : w2.cell? ⟨tb, 0, none⟩ = some (.slice pp n pc) := below_cell' K2.out (below_cell' K1.out ht)
  have Z2 : w2.frozen? ⟨tb, 0, none⟩ = false := by
    rw [K2.out.frozen (Nat.lt_of_lt_of_le htl K1.out.size), K1.out.frozen htl]; exact hf
  clear k2 hy hyf HY u0 u1 u2 u3 ht hf
  have HB2 : Hid (Below w2.heap.size w2 ((w2.alloc (Obj.cells #[.pointer (some ⟨x, 0, none⟩), .pointer (some ⟨y, 0, none⟩)] 63)).alloc (Obj.cells #[.pointer (some ⟨w2.heap.size, 0, none⟩)] 38))) := ((Below.refl _ _).alloc (Nat.le_refl _) _).alloc (by simp) _
  have HO2 : Hid (((w2.alloc (Obj.cells #[.pointer (some ⟨x, 0, none⟩), .pointer (some ⟨y, 0, none⟩)] 63)).alloc (Obj.cells #[.pointer (some ⟨w2.heap.size, 0, none⟩)] 38)).ownsRow 0 38 1 (.slice pp n pc) n ((List.range (n * 1)).map F)) := (show World.ownsRow _ _ _ _ _ _ _ from by
    have h1 := own_block HPS.out (fun g hg => K1.out.block g (HPS.out.lt hg))
    have h2 := own_block h1 (fun g hg => K2.out.block g (World.ownsRow.lt h1 g hg).2)
    exact own_block h2 (fun g hg => HB2.out.block g (World.ownsRow.lt h2 g hg).2))
  have HNW : Hid (∀ (j : Nat) (u : Value), [Value.pointer (some ⟨w2.heap.size, 0, none⟩)][j]? = some u → ((w2.alloc (Obj.cells #[.pointer (some ⟨x, 0, none⟩), .pointer (some ⟨y, 0, none⟩)] 63)).alloc (Obj.cells #[.pointer (some ⟨w2.heap.size, 0, none⟩)] 38)).cell? ((⟨w2.heap.size + 1, 0, none⟩ : Addr).add j) = some u) := fun j u hu => (show _ = _ by
    have h1 := cell_one_new (w2.alloc (Obj.cells #[.pointer (some ⟨x, 0, none⟩), .pointer (some ⟨y, 0, none⟩)] 63)) (.pointer (some ⟨w2.heap.size, 0, none⟩)) 38 j u hu
    simpa using h1)
  have hone : ∀ u ∈ [Value.pointer (some ⟨w2.heap.size, 0, none⟩)], u.oneCell' = true := by simp [Value.oneCell']
  go_wp2_with (at_builtin; go_must (refine wpl_append2 appPair (by rfl) _ _ (by rfl) 0 (.slice pp n pc) n ((List.range (n * 1)).map F) (by rfl) HO2.out ⟨w2.heap.size + 1, 0, none⟩ 1 1 [.pointer (some ⟨w2.heap.size, 0, none⟩)] (by rfl) (by rfl) HNW.out hone (by omega) (by simp only [maxLen]; omega) (by omega) (by omega) ?_))
  intro g3 c3 w3 ho3 hl3
  obtain ⟨q1, q2, q3, q4, q5⟩ := hl3.kept
  have hbt : w3.heap[tb]? = w2.heap[tb]? := (q5 tb (by have := K1.out.size; have := K2.out.size; simp; omega) HAP.out).trans (HB2.out.block tb (by have := K1.out.size; have := K2.out.size; omega))
  have T3 : w3.cell? ⟨tb, 0, none⟩ = some (.slice pp n pc) := by rw [World.cell?_of_block (w := w2) hbt]; exact T2
  have Z3 : w3.frozen? ⟨tb, 0, none⟩ = false := by rw [World.frozen?_of_block (w := w2) hbt]; exact Z2
  have HO3 : Hid _ := ho3
  have HL3 : Hid _ := hl3
  clear q1 q2 q3 q4 q5 ho3 hl3 T2 Z2 HO2 HNW hone
  go_wp2_with fail
  go_ret
  have hK : Below w1.heap.size w1 ((w2.alloc (Obj.cells #[.pointer (some ⟨x, 0, none⟩), .pointer (some ⟨y, 0, none⟩)] 63)).alloc (Obj.cells #[.pointer (some ⟨w2.heap.size, 0, none⟩)] 38)) := K2.out.trans (HB2.out.mono K2.out.size)
  refine ⟨by simp, x, y, w2.heap.size, V, _, w1, _, w3, HX1.out, HXL.out, K1.out, hK, HY2.out.below HB2.out, HF2.out, ?_, K2.out.size, fun hf => ?_, HL3.out, ?_, Like.refl _⟩
  · have h1 : (w2.alloc (Obj.cells #[.pointer (some ⟨x, 0, none⟩), .pointer (some ⟨y, 0, none⟩)] 63)).rowIs w2.heap.size 63 2 (fun j => if j = 0 then .pointer (some ⟨x, 0, none⟩) else .pointer (some ⟨y, 0, none⟩)) := by
      refine World.rowIs_alloc w2 _ _ _ ?_
      intro i hi
      have hi' : i < 2 := hi
      have : i = 0 ∨ i = 1 := by omega
      rcases this with rfl | rfl <;> rfl
    exact h1.of_block (((Below.refl _ _).alloc (Nat.le_refl _) _).block _ h1.lt)
  · have := HY2.out.foot_lt hf
    omega
  · unfold OwnFn
    have e : (List.range ((n + 1) * 1)).map (fun i => if i < n then F i else .pointer (some ⟨w2.heap.size, 0, none⟩)) = (List.range n).map F ++ [Value.pointer (some ⟨w2.heap.size, 0, none⟩)] := by
      rw [Nat.mul_one, List.range_succ, List.map_append]
      congr 1
      · exact List.map_congr_left (fun j hj => if_pos (List.mem_range.1 hj))
      · simp
    rw [e]
    exact HO3.out
theorem likeBelow {a b : World} (h : Like a b) : Below a.heap.size a b := ⟨h.os, h.tape, h.output, by rw [h.heap]; exact Nat.le_refl _, fun i _ => by rw [h.heap]⟩
theorem made_great {T w : World} {tag : Nat → Nat} {G : GSt} {N : Nat} (o : OpV) (h : Great T w tag G N) (hN : N ≤ 220000000) :
    Calls Tryz.prog 13 #[.pointer (some ⟨T.heap.size, 0, none⟩), o.val] w fun e w' => e = .returned (.bool true) ∧ ∃ tag' G', Great T w' tag' G' (N + 200) := by
  cases hs : shapeB o.a o.b o.c o.d
  · exact (made_no T o w hs).mono (fun e w' hh => ⟨hh.1, _, _, (h.below hh.2).mono (by omega)⟩)
  · obtain ⟨k, a0, b0, c0, d0, e0, s0⟩ := o
    simp only at hs
    have hr : 1 ≤ a0 ∧ 1 ≤ b0 ∧ 1 ≤ c0 ∧ 1 ≤ d0 := by
      simp only [shapeB, Bool.and_eq_true, decide_eq_true_eq] at hs
      omega
    obtain ⟨a, rfl⟩ : ∃ a : Nat, a0 = (a : Int) := ⟨a0.toNat, by omega⟩
    obtain ⟨b, rfl⟩ : ∃ b : Nat, b0 = (b : Int) := ⟨b0.toNat, by omega⟩
    obtain ⟨c, rfl⟩ : ∃ c : Nat, c0 = (c : Int) := ⟨c0.toNat, by omega⟩
    obtain ⟨d, rfl⟩ : ∃ d : Nat, d0 = (d : Int) := ⟨d0.toNat, by omega⟩
    have hc := h.cnt.1
    refine (made_ok T.heap.size G.pv G.n _ 0 a b c d e0 s0 w hs (h.top.cell (i := 0) (by omega)) (h.top.frozen 0) h.ps (by omega) (fun e => ?_) k).mono ?_
    · have := (h.ps_t _ e).2; have := h.top_t; omega
    · rintro e w' ⟨rfl, x, y, pb, V, v', w1, w2, w3, hx, hxl, k1, k2, hy, hyf, hbox, hpb, hnp, hl, ho, hlk⟩
      refine ⟨rfl, ?_⟩
      have kk : Below w.heap.size w w2 := k1.trans (k2.mono k1.size)
      have g1 : Great T w2 (tagN tag w.heap.size 6) G N := h.below kk
      have g2 : Great T w2 (fun i => if i < w.heap.size then tag i else if i = pb then 5 else 7 + G.n) G (N + 200) := (g1.retag _ (fun i hi => by
        by_cases e : i < w.heap.size
        · rw [tagN_lt e]; exact if_pos e
        · rw [tagN_ge (by omega)] at hi; exact absurd rfl hi)).mono (by omega)
      have hTw := h.bel.size
      have hww := k1.size
      have hxlt : x < w1.heap.size := hx.toHoardIn.row.lt
      have g3 := g2.addP v' pb x y ⟨newSt a b c d, newAb a b c d, V, -1, false⟩ hl (ho.congr (fun j hj => by
        by_cases e : j < G.n
        · rw [if_pos e, if_neg (by omega)]
        · rw [if_neg e, if_pos (by omega)])) (by omega) hbox ⟨by omega, by rw [if_neg (by omega), if_pos rfl]⟩ (pair_new hx k2 hy hyf) (fun i hi => by
        have hi2 : w.heap.size ≤ i ∧ i ≠ pb := by
          rcases hi with h1 | h1
          · rcases hx.footD h1 with rfl | ⟨dd, _, e⟩
            · omega
            · cases e
          · have := hyf i h1
            exact ⟨by omega, fun e => hnp (by rw [← e]; exact h1)⟩
        refine ⟨by omega, ?_⟩
        rw [if_neg (by omega), if_neg hi2.2])
      exact ⟨_, _, g3.below (likeBelow hlk)⟩
end Go.Proofs.YtfpoiikhhjdpdaaGreat

/- hoardlaw.step: New. -/
namespace Go.Proofs.YtfpoiikhhjdpdaaGreat
open Go.RowKit
set_option linter.unusedVariables false
attribute [local go_sem ↓] Go.wp_at_zero Go.wp_at_succ
set_option maxRecDepth 100000 in
set_option maxHeartbeats 1000000 in
theorem step_3 (T : World) (tag : Nat → Nat) (G : GSt) (N : Nat) (o : OpV) (w : World) (hk : o.k = 3) (hN : N ≤ 220000000) (hG : Great T w tag G N) :
    Calls Tryz.prog 10 #[.pointer (some ⟨T.heap.size, 0, none⟩), o.val] w fun e w' => e = .returned (.bool true) ∧ ∃ tag' G', Great T w' tag' G' (N + 200) := by
  have HM : Hid (∀ W, Below w.heap.size w W → Calls Tryz.prog 13 #[.pointer (some ⟨T.heap.size, 0, none⟩), o.val] W fun e w' => e = .returned (.bool true) ∧ Hid (∃ tag' G', Great T w' tag' G' (N + 200))) := fun W hW => (made_great o (hG.below hW) hN).mono (fun e w' hh => ⟨hh.1, hh.2⟩)
  obtain ⟨k, a0, b0, c0, d0, e0, s0⟩ := o
  simp only at hk
  subst hk
  unfold OpV.val at HM ⊢
  simp only at HM ⊢
  clear hG hN
  have HWA : Hid (Below w.heap.size w (w.alloc (Obj.cells #[.int .i64 3, .int .i64 a0, .int .i64 b0, .int .i64 c0, .int .i64 d0, .int .i64 e0, .string s0] 35))) := below_al _ _
  go_enter Tryz.func10, Tryz.ntmps10
  go_wp2_with (go_at_call 13; go_must (refine (HM.out _ (by repeat (first | exact HWA.out | refine Below.drew ?_))).mono ?_))
  rintro e w2 ⟨rfl, hP⟩
  go_wp2_with fail
  go_ret
  exact ⟨by simp, hP.out⟩
end Go.Proofs.YtfpoiikhhjdpdaaGreat
