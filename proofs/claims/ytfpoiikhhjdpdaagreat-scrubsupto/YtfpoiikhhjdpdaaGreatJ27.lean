import Derived.Test.YtfpoiikhhjdpdaaGreatJ26
/- The document: a Write that is done, block by block, up to a break. -/
namespace Go.Proofs.YtfpoiikhhjdpdaaGreat
open Go.RowKit
set_option linter.unusedVariables false
attribute [local go_sem ↓] Go.wp_at_zero Go.wp_at_succ
theorem wrap_big (n : Int) (h0 : -9223372036854775808 ≤ n) (h : n ≤ 9223372036854775807) : IntKind.i64.wrap n = n := by rw [IntKind.wrap_i64]; omega
/-- A block in one: what the document's steps come to. -/
theorem block_done (A : Ab) (b f n : Nat) (g : Nat → Nat) (hD : 1 ≤ A.D) (he : (abNew A b f n g).beq (holdC A (b % A.D) (b / A.D)) = false) :
    { abTakes A (b % A.D) (b / A.D) (abNew A b f n g) ((holdC A (b % A.D) (b / A.D)).xor (abNew A b f n g)) (takersL A (b % A.D) (b / A.D)) with steps := A.steps + costN A (b % A.D) (b / A.D) } = abBlock A b f n g := by
  have he2 : ¬ (abNew A b f n g = holdC A (b % A.D) (b / A.D)) := fun e => by rw [(C4.beq_iff _ _).2 e] at he; cases he
  rw [block_takes A b f n g hD he2]
  unfold Ab.addSteps
  rw [(takes_props A (b % A.D) (b / A.D) (abNew A b f n g) _ _).2.2.1]
theorem block_cut (A : Ab) (b f n : Nat) (g : Nat → Nat) (j : Nat) (hj : 0 < j) (hD : 1 ≤ A.D) (he : (abNew A b f n g).beq (holdC A (b % A.D) (b / A.D)) = false) :
    (abTakes (A.addSteps j) (b % A.D) (b / A.D) (abNew A b f n g) ((holdC A (b % A.D) (b / A.D)).xor (abNew A b f n g)) (takersL A (b % A.D) (b / A.D))).setBrk none = abDown A b f n g j := by
  have he2 : ¬ (abNew A b f n g = holdC A (b % A.D) (b / A.D)) := fun e => by rw [(C4.beq_iff _ _).2 e] at he; cases he
  unfold abDown
  rw [if_neg (by omega)]
  rw [takes_addSteps, block_takes A b f n g hD he2]
  unfold Ab.addSteps Ab.setBrk
  rw [(takes_props A (b % A.D) (b / A.D) (abNew A b f n g) _ _).2.2.1]
theorem parL_steps (A : Ab) (j r k : Nat) : parL (A.addSteps j) r k = parL A r k := by
  induction k with
  | zero => rfl
  | succ k ih =>
    show (if avB A (A.D + k) r then parL (A.addSteps j) r k ++ [A.D + k] else parL (A.addSteps j) r k) = _
    rw [ih]; rfl
theorem takers_steps (A : Ab) (j c r : Nat) : takersL (A.addSteps j) c r = takersL A c r := by
  show parL (A.addSteps j) r A.P ++ _ = _
  rw [parL_steps]; rfl
theorem RWent.own5 {yb : Nat} {a A : Ab} {V V' : Nat → Value} {l : Int} {dn : Bool} {w w' : World} (h : RWent yb a V w A V' l dn w') (s : Nat) : RWent yb a V w { A with steps := s } V' l dn (w'.setCell ⟨yb, 5, none⟩ (.int .i64 (s : Nat))) := ⟨h.at'.setSteps s, h.kept.setCell (.inl (.inl rfl)) _, h.foot⟩
theorem RWent.own6 {yb : Nat} {a A : Ab} {V V' : Nat → Value} {l : Int} {dn : Bool} {w w' : World} (h : RWent yb a V w A V' l dn w') (s : Int) : RWent yb a V w A V' s dn (w'.setCell ⟨yb, 6, none⟩ (.int .i64 s)) := ⟨h.at'.setLeft s, h.kept.setCell (.inl (.inl rfl)) _, h.foot⟩
theorem RWent.own7 {yb : Nat} {a A : Ab} {V V' : Nat → Value} {l : Int} {dn : Bool} {w w' : World} (h : RWent yb a V w A V' l dn w') (s : Bool) : RWent yb a V w A V' l s (w'.setCell ⟨yb, 7, none⟩ (.bool s)) := ⟨h.at'.setDown s, h.kept.setCell (.inl (.inl rfl)) _, h.foot⟩
theorem RWent.setBrk {yb : Nat} {a A : Ab} {V V' : Nat → Value} {l : Int} {dn : Bool} {w w' : World} (h : RWent yb a V w A V' l dn w') (s : Option Nat) : RWent yb a V w (A.setBrk s) V' l dn w' := ⟨h.at'.brk s, h.kept, h.foot⟩
theorem RWent.like {yb : Nat} {a A : Ab} {V V' : Nat → Value} {l : Int} {dn : Bool} {w w' w'' : World} (h : RWent yb a V w A V' l dn w') (e1 : w''.heap = w'.heap) (e2 : w''.os = w'.os) (e3 : w''.tape = w'.tape) (e4 : w''.output = w'.output) : RWent yb a V w A V' l dn w'' :=
  ⟨h.at'.heap e1, ⟨e2.trans h.kept.os, e3.trans h.kept.tape, e4.trans h.kept.output, by rw [e1]; exact h.kept.size, fun i hi hn => by rw [e1]; exact h.kept.block i hi hn⟩, h.foot⟩
theorem RPost.like {yb : Nat} {a : Ab} {V : Nat → Value} {w : World} {f n : Nat} {g : Nat → Nat} {e : Ending} {w' w'' : World} (h : RPost yb a V w f n g e w') (e1 : w''.heap = w'.heap) (e2 : w''.os = w'.os) (e3 : w''.tape = w'.tape) (e4 : w''.output = w'.output) : RPost yb a V w f n g e w'' := by
  rcases h with ⟨h1, h2, V', h3⟩ | ⟨h1, m, j, h2, h3, h4, V', h5⟩
  · exact .inl ⟨h1, h2, V', h3.like e1 e2 e3 e4⟩
  · exact .inr ⟨h1, m, j, h2, h3, h4, V', h5.like e1 e2 e3 e4⟩
/-- The same bytes: nothing. -/
theorem block_same (A : Ab) (b f n : Nat) (g : Nat → Nat) (he : (abNew A b f n g).beq (holdC A (b % A.D) (b / A.D)) = true) : abBlock A b f n g = A ∧ blockN A b f n g = 0 := by
  unfold abBlock blockN
  rw [if_pos he, if_pos he]
  exact ⟨rfl, rfl⟩
theorem blockN_diff (A : Ab) (b f n : Nat) (g : Nat → Nat) (he : (abNew A b f n g).beq (holdC A (b % A.D) (b / A.D)) = false) : blockN A b f n g = costN A (b % A.D) (b / A.D) := by
  unfold blockN
  rw [he]; rfl
theorem lft_none {a : Ab} (h : a.brk = none) : lft a = -1 := by unfold lft; rw [h]
theorem lft_some {a : Ab} {k : Nat} (h : a.brk = some k) : lft a = (k : Int) - a.steps := by unfold lft; rw [h]
theorem hit_none {a : Ab} (h : a.brk = none) (c : Nat) : brkHit a c = none := by unfold brkHit; rw [h]
theorem hit_miss {a : Ab} {k c : Nat} (h : a.brk = some k) (hc : a.steps + c ≤ k) : brkHit a c = none := by
  unfold brkHit; rw [h]
  simp only
  rw [if_neg (by omega)]
theorem hit_at {a : Ab} {k c : Nat} (h : a.brk = some k) (hs : a.steps ≤ k) (hc : k < a.steps + c) : brkHit a c = some (k - a.steps) := by
  unfold brkHit; rw [h]
  simp only
  rw [if_pos ⟨hs, hc⟩]
theorem hit_zero (a : Ab) : brkHit a 0 = none := by
  unfold brkHit
  split
  · rfl
  · rw [if_neg (by omega)]
theorem cost_le (A : Ab) (d r : Nat) : costN A d r ≤ 3 + A.P := by
  rw [costN_eq]
  have := parP_len A r A.P
  split <;> omega
set_option maxRecDepth 100000 in
set_option maxHeartbeats 2000000 in
theorem rWrite_all (yb : Nat) (a : Ab) (V : Nat → Value) (f : Nat) (p : Option Addr) (n cap : Nat) (g : Nat → Nat) (w : World) (h : RefIn w yb a V (lft a) false) (hh : hasB a f n = true) (hg : anyGone a f (blkEnd f n - f / 4) = false) (hd : BytesAt w p n g) (hF : ∀ b o, p = some ⟨b, o, none⟩ → ¬ RFoot yb a V b) (hst : a.steps ≤ 1000000000000) (hbk : ∀ k, a.brk = some k → a.steps ≤ k ∧ k ≤ 1000000000000) :
    Calls Tryz.prog 43 #[.pointer (some ⟨yb, 0, none⟩), .int .i64 f, .slice p n cap] w fun e w' => RPost yb a V w f n g e w' := by
  obtain ⟨n1, n2, n3, n4⟩ := has_nums h.ok hh
  have hD := h.ok.D4
  have hD1 := h.ok.D1
  have hR := h.ok.R6
  have hP := h.ok.P2
  have HW : Hid (Calls Tryz.prog 68 #[.pointer (some ⟨yb, 0, none⟩), .int .i64 f, .int .i64 n] w fun e w' => e = .returned (.bool true) ∧ ∃ q, w' = w.drewN q) := (show Calls _ _ _ _ _ by
    have h1 := rwithin_any yb a V (lft a) false f n w h (by omega)
    rw [hh] at h1; exact h1)
  have HB : Hid (∀ W, Calls Tryz.prog 69 #[.int .i64 f, .int .i64 n] W fun e w' => e = .returned (.tuple #[.int .i64 (rFirst f n : Nat), .int .i64 (rBehind f n : Nat)]) ∧ w' = W) := fun W => rblocks_any f n W (by omega) (by omega)
  have HG : Hid (∀ W, Below w.heap.size w W → Calls Tryz.prog 70 #[.pointer (some ⟨yb, 0, none⟩), .int .i64 (rFirst f n : Nat), .int .i64 (rBehind f n : Nat)] W fun e w' => e = .returned (.bool false) ∧ Below W.heap.size W w') := fun W hW => (show Calls _ _ _ _ _ by
    have h1 := anyGone_of h f n hh W hW
    rw [hg] at h1; exact h1)
  have HGN : Hid (∀ b, rFirst f n ≤ b → b < rBehind f n → blkGone a b = false) := fun b h1 h2 => by
    have h3 := hg
    rw [← gone_same] at h3
    cases hbg : blkGone a b
    · rfl
    · have h4 : goneR a (rFirst f n) (b - rFirst f n + 1) = true := by
        simp only [goneR]
        rw [show rFirst f n + (b - rFirst f n) = b by omega, hbg]; simp
      have h5 := goneR_yes a (rFirst f n) (b - rFirst f n + 1) (rBehind f n - rFirst f n - (b - rFirst f n + 1)) h4
      rw [show b - rFirst f n + 1 + (rBehind f n - rFirst f n - (b - rFirst f n + 1)) = rBehind f n - rFirst f n by omega, h3] at h5
      cases h5
  have HFB : Hid (blkEnd f n - f / 4 = rBehind f n - rFirst f n ∧ (rFirst f n < rBehind f n → rFirst f n = f / 4)) := (show _ ∧ _ by unfold rFirst rBehind blkEnd; split <;> omega)
  obtain ⟨_, _, _, _, _, _, _, c7⟩ := h.cells
  have hlt := h.row.lt
  have HH : Hid (RefIn w yb a V (lft a) false) := h
  have HDT : Hid (BytesAt w p n g) := hd
  have HFF : Hid (∀ b o, p = some ⟨b, o, none⟩ → ¬ RFoot yb a V b) := hF
  have HBK : Hid (∀ k, a.brk = some k → a.steps ≤ k ∧ k ≤ 1000000000000) := hbk
  clear h hh hg hd hF hbk
  generalize hF1 : rFirst f n = F1 at *
  generalize hB1 : rBehind f n = B1 at *
  clear hF1 hB1
  have hB24 : B1 ≤ 24 := by omega
  go_enter Tryz.func43, Tryz.ntmps43
  go_wp2_with fail
  refine HW.out.mono ?_
  rintro e w1 ⟨rfl, q, rfl⟩
  go_wp2_with fail
  refine (HB.out _).mono ?_
  rintro e w1 ⟨rfl, rfl⟩
  go_wp2_with fail
  refine (HG.out _ (below_drewN (Below.refl _ _) q)).mono ?_
  rintro e w2 ⟨rfl, k2⟩
  have HB2 : Hid (RWent yb a V w (abBlocks a f n g 0) V (lft (abBlocks a f n g 0)) false w2) := RWent.below HH.out ((below_drewN (Below.refl _ _) q).trans (k2.mono (by simp)))
  clear k2 c7 HW HB HG hlt
  go_wp2_with fail
  go_loopw [11, 12, 13, 14, 15, 16, 17, 18, 19] (fun c _ _ _ _ _ _ _ _ wr => ∃ (m b : Nat) (V' : Nat → Value), Hid (b = F1 + m) ∧ b ≤ B1 ∧ c = .int .i64 b ∧ Hid (RWent yb a V w (abBlocks a f n g m) V' (lft (abBlocks a f n g m)) false wr) ∧ Hid (∀ m', m' < m → brkHit (abBlocks a f n g m') (blockN (abBlocks a f n g m') (f / 4 + m') f n g) = none) ∧ Hid (∀ k, (abBlocks a f n g m).brk = some k → (abBlocks a f n g m).steps ≤ k)) (fun c _ _ _ _ _ _ _ _ _ => B1 - (intOf c).toNat)
  case atStart => exact ⟨0, F1, V, rfl, by omega, rfl, HB2, fun m' hm' => (by omega), fun k hk => (HBK.out k hk).1⟩
  case round =>
    clear HB2
    obtain ⟨m, b, V', hbm, hbB, rfl, hwt, hno, hsl⟩ := hrel
    have h1 := hwt.out.at'
    obtain ⟨c0, _, _, _, _, c5, c6, c7⟩ := h1.cells
    have hlt1 := h1.row.lt
    have hbi := blocks_inv a f n g m
    have hbr := blocks_brk a f n g hD1 m
    have h1D := hbi.1.D
    have h1P := hbi.1.P
    have h1R := hbi.1.R
    rw [h1D] at c0
    by_cases hbl : b < B1
    · have hbi' : (b : Int) < (B1 : Int) := by omega
      have hb24 : b < 24 := by omega
      have hbDR : b < a.D * a.R := by omega
      have hFf : f / 4 + m = b := by have := hbm.out; have := HFB.out.2 (by omega); omega
      have hm24 : m < 24 := by have := hbm.out; omega
      have hst1 : (abBlocks a f n g m).steps ≤ 1000000000200 := by
        have := hbi.2
        have h3 : m * (3 + a.P) ≤ 24 * 5 := Nat.mul_le_mul (by omega) (by omega)
        omega
      have hgm := blocks_good a f n g m (b % a.D) (b / a.D) hD1 (show avB a (b % a.D) (b / a.D) = true ∨ goneB a (b / a.D) = false from by
        have := HGN.out b (by have := hbm.out; omega) hbl
        unfold blkGone at this
        cases hav : avB a (b % a.D) (b / a.D)
        · rw [hav] at this; right; simpa using this
        · left; rfl)
      have HSU : Hid (abBlocks a f n g (m + 1) = abBlock (abBlocks a f n g m) b f n g) := (show _ = _ by rw [← hFf]; rfl)
      have HBN : Hid (∀ k, (abBlocks a f n g m).brk = some k → k ≤ 1000000000000) := fun k hk => by rw [hbr] at hk; exact (HBK.out k hk).2
      have HMB : Hid (m < blkEnd f n - f / 4) := (show _ < _ by have := hbm.out; have := HFB.out.1; omega)
      have HBM1 : Hid (b + 1 = F1 + (m + 1)) := (show _ = _ by have := hbm.out; omega)
      have H1 : Hid (RefIn wr yb (abBlocks a f n g m) V' (lft (abBlocks a f n g m)) false) := h1
      have HDW : Hid (BytesAt wr p n g) := HDT.out.kept hwt.out.kept HFF.out
      have hAok := h1.ok
      clear hbi hbr h1
      generalize hA : abBlocks a f n g m = A at *
      have HAE : Hid (abBlocks a f n g m = A) := hA
      clear hA
      have hc4 : b % a.D < a.D := Nat.mod_lt _ (by omega)
      have hr6 : b / a.D < a.R := Nat.div_lt_of_lt_mul hbDR
      have hmodi : (b : Int) % (a.D : Int) = ((b % a.D : Nat) : Int) := by simp
      have hdivi : (b : Int) / (a.D : Int) = ((b / a.D : Nat) : Int) := by simp
      have hmodt : (b : Int).tmod (a.D : Int) = ((b % a.D : Nat) : Int) := by rw [Int.tmod_eq_emod_of_nonneg (by omega)]; simp
      have hdivt : (b : Int).tdiv (a.D : Int) = ((b / a.D : Nat) : Int) := by rw [Int.tdiv_eq_ediv_of_nonneg (by omega)]; simp
      have hD0 : (0 : Int) < (a.D : Int) := by omega
      have hdl : b / a.D < 24 := by omega
      have HHO : Hid (Calls Tryz.prog 71 #[.pointer (some ⟨yb, 0, none⟩), .int .i64 (b % a.D : Nat), .int .i64 (b / a.D : Nat)] wr fun e w' => e = .returned (.agg #[.int .u8 (holdC A (b % a.D) (b / a.D)).b0, .int .u8 (holdC A (b % a.D) (b / a.D)).b1, .int .u8 (holdC A (b % a.D) (b / a.D)).b2, .int .u8 (holdC A (b % a.D) (b / a.D)).b3]) ∧ Below wr.heap.size wr w') := rholds_any yb A V' (lft A) false (b % a.D) (b / a.D) wr H1.out (by rw [h1D]; exact hc4) (by rw [h1R]; exact hr6) hgm
      have HXO : Hid ((holdC A (b % a.D) (b / a.D)).ok) := holdC_ok hAok _ _
      have HNW : Hid (abNew A b f n g = (holdC A (b % a.D) (b / a.D)).overlay ((b : Int) * 4 - f) n g) := (show _ = _ by unfold abNew; rw [h1D])
      have HCO : Hid (∀ W, Below wr.heap.size wr W → Calls Tryz.prog 81 #[.pointer (some ⟨yb, 0, none⟩), .int .i64 (b % a.D : Nat), .int .i64 (b / a.D : Nat)] W fun e w' => e = .returned (.int .i64 (costN A (b % a.D) (b / a.D) : Nat)) ∧ Below W.heap.size W w') := fun W hW => rcost_any yb A V' (lft A) false (b % a.D) (b / a.D) W (H1.out.below hW) (by rw [h1D]; exact hc4) (by rw [h1R]; exact hr6)
      have hcl := cost_le A (b % a.D) (b / a.D)
      have HBL : Hid (∀ (W : World) (X F : C4) (A' : Ab) (V2 : Nat → Value) (l2 : Int), A'.D = a.D → A'.R = a.R → X.ok → F.ok → RefIn W yb A' V2 l2 false → Calls Tryz.prog 82 #[.pointer (some ⟨yb, 0, none⟩), .int .i64 (b % a.D : Nat), .int .i64 (b / a.D : Nat), .agg #[.int .u8 X.b0, .int .u8 X.b1, .int .u8 X.b2, .int .u8 X.b3], .agg #[.int .u8 F.b0, .int .u8 F.b1, .int .u8 F.b2, .int .u8 F.b3]] W fun e w' => e = .returned (.tuple #[]) ∧ ∃ V3, RWent yb A' V2 W (abTakes A' (b % a.D) (b / a.D) F (X.xor F) (takersL A' (b % a.D) (b / a.D))) V3 l2 false w') := fun W X F A' V2 l2 e1 e2 hX hFo hW => rblock_any yb A' V2 l2 false (b % a.D) (b / a.D) X F W hW (by rw [e1]; exact hc4) (by rw [e2]; exact hr6) hX hFo
      have HBD : Hid ((abNew A b f n g).beq (holdC A (b % a.D) (b / a.D)) = false → { abTakes A (b % a.D) (b / a.D) (abNew A b f n g) ((holdC A (b % a.D) (b / a.D)).xor (abNew A b f n g)) (takersL A (b % a.D) (b / a.D)) with steps := A.steps + costN A (b % a.D) (b / a.D) } = abBlock A b f n g ∧ blockN A b f n g = costN A (b % a.D) (b / a.D)) := fun he => by
        have h2 := block_done A b f n g (by rw [h1D]; exact hD1) (by rw [h1D]; exact he)
        have h3 := blockN_diff A b f n g (by rw [h1D]; exact he)
        rw [h1D] at h2 h3
        exact ⟨h2, h3⟩
      have HBC : Hid (∀ j, 0 < j → (abNew A b f n g).beq (holdC A (b % a.D) (b / a.D)) = false → (abTakes (A.addSteps j) (b % a.D) (b / a.D) (abNew A b f n g) ((holdC A (b % a.D) (b / a.D)).xor (abNew A b f n g)) (takersL A (b % a.D) (b / a.D))).setBrk none = abDown A b f n g j) := fun j hj he => by
        have h2 := block_cut A b f n g j hj (by rw [h1D]; exact hD1) (by rw [h1D]; exact he)
        rw [h1D] at h2; exact h2
      have HBS : Hid ((abNew A b f n g).beq (holdC A (b % a.D) (b / a.D)) = true → abBlock A b f n g = A ∧ blockN A b f n g = 0) := fun he => block_same A b f n g (by rw [h1D]; exact he)
      have HFO : Hid (∀ st : Int, ((holdC A (b % a.D) (b / a.D)).overlay st n g).ok) := fun st => overlay_ok HXO.out (fun i hi => by obtain ⟨_, _, _, _, h3⟩ := HDT.out i hi; exact h3)
      have HTK : Hid (takersL A (b % a.D) (b / a.D) = takersL A (b % a.D) (b / a.D)) := rfl
      have HADR : Hid (A.D = a.D ∧ A.R = a.R) := ⟨h1D, h1R⟩
      rw [HNW.out] at HBD HBC HBS
      generalize hX : holdC A (b % a.D) (b / a.D) = X at *
      generalize hcst : costN A (b % a.D) (b / a.D) = cst at *
      have HXE : Hid (holdC A (b % a.D) (b / a.D) = X) := hX
      clear hX hcst hgm
      have hdm4 : b % a.D < 4 := by omega
      generalize hcc : b % a.D = cc at *
      generalize hrr : b / a.D = rr at *
      have HCR : Hid (b % a.D = cc ∧ b / a.D = rr) := ⟨hcc, hrr⟩
      clear hcc hrr
      have hwd : IntKind.i64.wrap (rr : Int) = (rr : Int) := wrap_i64_small _ (by omega) (by omega)
      go_wp2_with fail
      refine HHO.out.mono ?_
      rintro e w3 ⟨rfl, k3⟩
      have hs3 := k3.size
      have HXQ : Hid (BoxAt ((w3.alloc (.cells #[.int .u8 X.b0, .int .u8 X.b1, .int .u8 X.b2, .int .u8 X.b3] 75)).alloc (.cells #[.int .u8 X.b0, .int .u8 X.b1, .int .u8 X.b2, .int .u8 X.b3] 75)) w3.heap.size X) := (BoxAt.new w3 X _ rfl).alloc _
      have HFQ : Hid (BoxAt ((w3.alloc (.cells #[.int .u8 X.b0, .int .u8 X.b1, .int .u8 X.b2, .int .u8 X.b3] 75)).alloc (.cells #[.int .u8 X.b0, .int .u8 X.b1, .int .u8 X.b2, .int .u8 X.b3] 75)) (w3.heap.size + 1) X) := BoxAt.new _ X _ (by simp)
      have HWQ : Hid (Below wr.heap.size wr ((w3.alloc (.cells #[.int .u8 X.b0, .int .u8 X.b1, .int .u8 X.b2, .int .u8 X.b3] 75)).alloc (.cells #[.int .u8 X.b0, .int .u8 X.b1, .int .u8 X.b2, .int .u8 X.b3] 75))) := (k3.alloc hs3 _).alloc (by simp; omega) _
      clear HHO k3 c0
      go_wp2_with fail
      generalize (w3.alloc (.cells #[.int .u8 X.b0, .int .u8 X.b1, .int .u8 X.b2, .int .u8 X.b3] 75)).alloc (.cells #[.int .u8 X.b0, .int .u8 X.b1, .int .u8 X.b2, .int .u8 X.b3] 75) = wq at *
      generalize w3.heap.size = xb at *
      obtain ⟨st, hst0⟩ : ∃ st : Int, (b : Int) * 4 - f = st := ⟨_, rfl⟩
      rw [hst0] at HBD HBC HBS HNW
      have HF0 : Hid (wq.rowIs (xb + 1) 75 4 (fun j => .int .u8 (if j < 0 then ovl X st n g j else X.at j : Nat))) := World.rowIs.congr HFQ.out (fun j hj => by rw [if_neg (by omega)])
      have HS0 : Hid (sameTo X st n g 0 = true) := rfl
      have hstb : -100 ≤ st ∧ st ≤ 100 := by omega
      have HDI : Hid (∀ (W : World), Kept (fun q => q = xb + 1) wq W → ∀ i, i < n → ∃ b o, p = some ⟨b, o, none⟩ ∧ W.cell? ⟨b, o + i, none⟩ = some (.int .u8 (g i)) ∧ g i < 256 ∧ b ≠ xb + 1) := fun W hW i hi => by
        obtain ⟨b', o', e1, e2, e3⟩ := HDW.out i hi
        have hb' := block_lt_of_cell e2
        simp only at hb'
        exact ⟨b', o', e1, hW.cell (p := ⟨b', _, none⟩) (by show ¬ (b' = xb + 1); omega) (below_cell' HWQ.out e2), e3, by omega⟩
      have HBQ : Hid (∀ W, Kept (fun q => q = xb + 1) wq W → Below wr.heap.size wr W) := fun W hW => HWQ.out.trans ⟨hW.os, hW.tape, hW.output, hW.size, fun q hq => hW.block q (Nat.lt_of_lt_of_le hq HWQ.out.size) (by show ¬ (q = xb + 1); omega)⟩
      have HIQ : Hid (∀ W W', Kept (fun q => q = xb + 1) wq W → Below W.heap.size W W' → RWent yb a V w A V' (lft A) false W') := fun W W' hW hW' => hwt.out.trans (RWent.below H1.out ((HBQ.out W hW).trans (hW'.mono (HBQ.out W hW).size)))
      clear HFQ
      go_loopw [16, 17, 18] (fun sm c _ wi => ∃ (k : Nat), k ≤ 4 ∧ c = .int .i64 k ∧ sm = .bool (sameTo X st n g k) ∧ Hid (wi.rowIs (xb + 1) 75 4 (fun j => .int .u8 (if j < k then ovl X st n g j else X.at j : Nat))) ∧ Hid (Kept (fun q => q = xb + 1) wq wi)) (fun _ c _ _ => 4 - (intOf c).toNat)
      case atStart => exact ⟨0, by omega, rfl, by rw [HS0.out], HF0, Kept.refl _ _⟩
      case round =>
        clear HF0 HS0
        obtain ⟨k, hk, rfl, rfl, hrow, hkq⟩ := hrel
        have hbo : BoxAt wr xb X := World.rowIs.of_block HXQ.out (hkq.out.block _ HXQ.out.lt (by omega))
        by_cases hk4 : k < 4
        · have hki : (k : Int) < 4 := by omega
          obtain ⟨ii, hii⟩ : ∃ ii : Int, st + k = ii := ⟨_, rfl⟩
          have hiw : (b : Int) * 4 + (k : Int) - (f : Int) = ii := by omega
          have hib : -100 ≤ ii ∧ ii ≤ 110 := by omega
          have HOV : Hid (ovl X st n g k = if 0 ≤ ii ∧ ii < n then g ii.toNat else X.at k) := (show _ = _ by unfold ovl; rw [hii])
          have HSS : Hid (sameTo X st n g (k + 1) = (sameTo X st n g k && (ovl X st n g k == X.at k))) := rfl
          have z0 := World.rowIs.cell hbo (i := k) (by omega)
          have hzl := hbo.lt
          have y0 := hrow.out.cell (i := k) (by omega)
          rw [if_neg (by omega)] at y0
          have f0 := hrow.out.frozen k
          have hyl := hrow.out.lt
          by_cases h1 : 0 ≤ ii
          · by_cases h2 : ii < n
            · obtain ⟨db, dof, rfl, hbyte, hbl2, hdne⟩ := HDI.out wr hkq.out ii.toNat (by omega)
              have hdl2 := block_lt_of_cell hbyte
              simp only at hdl2
              rw [if_pos ⟨h1, h2⟩] at HOV
              have HR5 : Hid ((wr.setCell ⟨xb + 1, k, none⟩ (.int .u8 (g ii.toNat : Nat))).rowIs (xb + 1) 75 4 (fun j => .int .u8 (if j < k + 1 then ovl X st n g j else X.at j : Nat))) := (hrow.out.set k _).congr (fun j hj => by
                by_cases e : j = k
                · rw [if_pos e, if_pos (by omega), e, HOV.out]
                · rw [if_neg e]
                  by_cases e2 : j < k
                  · rw [if_pos e2, if_pos (by omega)]
                  · rw [if_neg e2, if_neg (by omega)])
              have HK5 : Hid (Kept (fun q => q = xb + 1) wq (wr.setCell ⟨xb + 1, k, none⟩ (.int .u8 (g ii.toNat : Nat)))) := hkq.out.setCell (p := ⟨xb + 1, k, none⟩) (.inl rfl) _
              rw [HOV.out] at HSS
              generalize hgi : g ii.toNat = gi at *
              generalize hxk : X.at k = xk at *
              have hii2 : ((ii.toNat : Nat) : Int) = ii := by omega
              generalize ii.toNat = ni at *
              clear hgi hxk hrow hkq hbo hii h1
              subst hii2
              have hni : (ni : Int) < (n : Int) := h2
              generalize hsm : sameTo X st n g k = sm at *
              clear hsm
              cases sm
              · have HS5 : Hid (sameTo X st n g (k + 1) = false) := HSS
                clear HSS
                go_wp2_with fail
                go_region
                all_goals
                  go_wp2_with fail
                  exact ⟨⟨k + 1, by omega, by go_num, by rw [HS5.out], by first | exact HR5 | exact World.rowIs.of_block HR5.out rfl, by first | exact HK5 | exact HK5.out.drew⟩, by simp [intOf]; omega⟩
              · by_cases hge : gi = xk
                · have hgb : ((gi : Int) == (xk : Int)) = true := by rw [beq_iff_eq]; omega
                  have HS5 : Hid (sameTo X st n g (k + 1) = true) := (show _ = _ by rw [HSS.out, hge]; simp)
                  clear HSS hge
                  go_wp2_with fail
                  go_region
                  all_goals
                    go_wp2_with fail
                    exact ⟨⟨k + 1, by omega, by go_num, by rw [HS5.out], by first | exact HR5 | exact World.rowIs.of_block HR5.out rfl, by first | exact HK5 | exact HK5.out.drew⟩, by simp [intOf]; omega⟩
                · have hgb : ((gi : Int) == (xk : Int)) = false := by rw [beq_eq_false_iff_ne]; omega
                  have HS5 : Hid (sameTo X st n g (k + 1) = false) := (show _ = _ by rw [HSS.out]; simp [hge])
                  clear HSS hge
                  go_wp2_with fail
                  go_region
                  all_goals
                    go_wp2_with fail
                    exact ⟨⟨k + 1, by omega, by go_num, by rw [HS5.out], by first | exact HR5 | exact World.rowIs.of_block HR5.out rfl, by first | exact HK5 | exact HK5.out.drew⟩, by simp [intOf]; omega⟩
            · rw [if_neg (by omega)] at HOV
              have HS5 : Hid (sameTo X st n g (k + 1) = sameTo X st n g k) := (show _ = _ by rw [HSS.out, HOV.out]; simp)
              have HR5 : Hid (wr.rowIs (xb + 1) 75 4 (fun j => .int .u8 (if j < k + 1 then ovl X st n g j else X.at j : Nat))) := hrow.out.congr (fun j hj => by
                by_cases e : j = k
                · rw [if_neg (by omega), if_pos (by omega), e, HOV.out]
                · by_cases e2 : j < k
                  · rw [if_pos e2, if_pos (by omega)]
                  · rw [if_neg e2, if_neg (by omega)])
              have hii2 : ((ii.toNat : Nat) : Int) = ii := by omega
              generalize ii.toNat = ni at *
              clear hrow hbo hii h1 HOV HSS
              subst hii2
              have hni : ¬ ((ni : Int) < (n : Int)) := h2
              go_wp2_with fail
              exact ⟨⟨k + 1, by omega, by go_num, by rw [HS5.out], HR5, hkq⟩, by simp [intOf]; omega⟩
          · rw [if_neg (by omega)] at HOV
            have HS5 : Hid (sameTo X st n g (k + 1) = sameTo X st n g k) := (show _ = _ by rw [HSS.out, HOV.out]; simp)
            have HR5 : Hid (wr.rowIs (xb + 1) 75 4 (fun j => .int .u8 (if j < k + 1 then ovl X st n g j else X.at j : Nat))) := hrow.out.congr (fun j hj => by
              by_cases e : j = k
              · rw [if_neg (by omega), if_pos (by omega), e, HOV.out]
              · by_cases e2 : j < k
                · rw [if_pos e2, if_pos (by omega)]
                · rw [if_neg e2, if_neg (by omega)])
            have h1' : decide (0 ≤ ii) = false := by simpa using h1
            clear hrow hbo hii HOV HSS
            go_wp2_with fail
            exact ⟨⟨k + 1, by omega, by go_num, by rw [HS5.out], HR5, hkq⟩, by simp [intOf]; omega⟩
        · have hke : k = 4 := by omega
          have hki : ¬ ((k : Int) < 4) := by omega
          have HFR : Hid (BoxAt wr (xb + 1) (X.overlay st n g)) := (show BoxAt _ _ _ from hrow.out.congr (fun j hj => by
            rw [if_pos (by omega)]; unfold C4.overlay; rw [C4.at_mk4 _ j hj]))
          have HXR : Hid (BoxAt wr xb X) := hbo
          have HSE : Hid (sameTo X st n g k = (X.overlay st n g).beq X) := (show _ = _ by rw [hke]; exact sameTo_four X st n g)
          clear hke hrow hbo
          rw [HSE.out]
          have HBW := HBQ.out wr hkq.out
          have hFok := HFO.out st
          generalize hFX : X.overlay st n g = FX at *
          cases hbq : FX.beq X
          · have hBD := HBD.out hbq
            have hBC := HBC.out
            clear HBS
            have HCW : Hid (Calls Tryz.prog 81 #[.pointer (some ⟨yb, 0, none⟩), .int .i64 cc, .int .i64 rr] wr fun e w' => e = .returned (.int .i64 (cst : Nat)) ∧ Below wr.heap.size wr w') := HCO.out wr HBW
            go_wp2_with fail
            refine HCW.out.mono ?_
            rintro e w4 ⟨rfl, k4⟩
            have HR4 : Hid (RWent yb a V w A V' (lft A) false w4) := HIQ.out wr w4 hkq.out k4
            have HF4 : Hid (BoxAt w4 (xb + 1) FX) := HFR.out.below k4
            have HX4 : Hid (BoxAt w4 xb X) := HXR.out.below k4
            obtain ⟨_, _, _, _, _, c5, c6, c7⟩ := HR4.out.at'.cells
            have hlt4 := HR4.out.at'.row.lt
            have x0 := HX4.out.cells
            have y0 := HF4.out.cells
            clear HCW k4 hkq HBW
            have f5 := HR4.out.at'.row.frozen 5
            have f6 := HR4.out.at'.row.frozen 6
            have f7 := HR4.out.at'.row.frozen 7
            have HBB : Hid ((abBlock A b f n g).brk = A.brk ∧ (abBlock A b f n g).steps = A.steps + cst) := (show _ ∧ _ from ⟨block_brk A b f n g (by rw [HADR.out.1]; exact hD1), by rw [← hBD.1]⟩)
            have HBLK : Hid (∀ (W : World) (j : Nat) (V2 : Nat → Value) (l2 : Int), RefIn W yb (A.addSteps j) V2 l2 false → Calls Tryz.prog 82 #[.pointer (some ⟨yb, 0, none⟩), .int .i64 cc, .int .i64 rr, .agg #[.int .u8 X.b0, .int .u8 X.b1, .int .u8 X.b2, .int .u8 X.b3], .agg #[.int .u8 FX.b0, .int .u8 FX.b1, .int .u8 FX.b2, .int .u8 FX.b3]] W fun e w' => e = .returned (.tuple #[]) ∧ ∃ V3, RWent yb (A.addSteps j) V2 W (abTakes (A.addSteps j) cc rr FX (X.xor FX) (takersL A cc rr)) V3 l2 false w') := fun W j V2 l2 hW => (show Calls _ _ _ _ _ by
              have h3 := HBL.out W X FX (A.addSteps j) V2 l2 HADR.out.1 HADR.out.2 HXO.out hFok hW
              rw [takers_steps] at h3; exact h3)
            have HFF2 : Hid (f / 4 + m = b) := hFf
            have HTS : Hid (∀ j, (abTakes (A.addSteps j) cc rr FX (X.xor FX) (takersL A cc rr)).steps = A.steps + j) := fun j => (takes_props (A.addSteps j) cc rr FX _ _).2.2.1
            have HE1 : Hid ({ abTakes A cc rr FX (X.xor FX) (takersL A cc rr) with steps := A.steps + cst } = abBlock A b f n g ∧ blockN A b f n g = cst) := hBD
            have HE2 : Hid (∀ j, 0 < j → (abTakes (A.addSteps j) cc rr FX (X.xor FX) (takersL A cc rr)).setBrk none = abDown A b f n g j) := fun j hj => hBC j hj hbq
            have hA0 : A.addSteps 0 = A := rfl
            have hstA : A.steps ≤ 1000000000200 := hst1
            have hcst : cst ≤ 5 := by have := HADR.out; omega
            clear HBL HBD HBC hBD hBC HFO HIQ HBQ HDI HXQ HWQ HCO HTK HFR HXR HSE hbq hFX
            cases hbk2 : A.brk with
            | none =>
              rw [lft_none hbk2] at c6
              have HNH : Hid (∀ m', m' < m + 1 → brkHit (abBlocks a f n g m') (blockN (abBlocks a f n g m') (f / 4 + m') f n g) = none) := fun m' hm' => by
                by_cases e : m' = m
                · rw [e, HAE.out]; exact hit_none hbk2 _
                · exact hno.out m' (by omega)
              have HL : Hid (lft (abBlock A b f n g) = lft A) := (show _ = _ by rw [lft_none hbk2, lft_none (by rw [HBB.out.1]; exact hbk2)])
              have HS6 : Hid (∀ k, (abBlock A b f n g).brk = some k → (abBlock A b f n g).steps ≤ k) := fun k hk => by rw [HBB.out.1, hbk2] at hk; cases hk
              go_wp2_with fail
              refine (HBLK.out w4 0 V' (lft A) HR4.out.at').mono ?_
              rintro e w5 ⟨rfl, V3, hw5⟩
              have hw6 := (HR4.out.trans hw5)
              obtain ⟨_, _, _, _, _, d5, d6, d7⟩ := hw6.at'.cells
              have hlt5 := hw6.at'.row.lt
              have g5 := hw6.at'.row.frozen 5
              have g6 := hw6.at'.row.frozen 6
              rw [HTS.out 0] at d5
              rw [lft_none hbk2] at d6
              have HW6 : Hid (RWent yb a V w (abBlocks a f n g (m + 1)) V3 (lft (abBlocks a f n g (m + 1))) false (w5.setCell ⟨yb, 5, none⟩ (.int .i64 (A.steps + cst : Nat)))) := (show RWent _ _ _ _ _ _ _ _ _ by
                rw [HSU.out, HL.out, ← HE1.out.1]
                exact hw6.own5 (A.steps + cst))
              rw [Nat.add_zero] at d5
              clear hw5 hw6 c5 c6 c7 x0 y0 f5 f6 f7 HR4 HF4 HX4 HBLK hwt
              rw [← HSU.out] at HS6
              go_wp2_with fail
              exact ⟨⟨m + 1, b + 1, V3, HBM1, by omega, by go_num, HW6, HNH, HS6⟩, by simp [intOf]; omega⟩
            | some kb =>
              have hsk := hsl.out kb hbk2
              have hkb := HBN.out kb hbk2
              obtain ⟨lf, hlf⟩ : ∃ lf : Nat, kb - A.steps = lf := ⟨_, rfl⟩
              have hle : lft A = (lf : Int) := by rw [lft_some hbk2]; omega
              rw [hle] at c6
              have hlfb : lf ≤ 1000000000000 := by omega
              by_cases hhit : lf < cst
              · have hhi : (lf : Int) < (cst : Int) := by omega
                have HHT : Hid (brkHit A (blockN A b f n g) = some lf) := (show _ = _ by rw [HE1.out.2, hit_at hbk2 hsk (by omega), hlf])
                have hsum : (A.steps : Int) + (lf : Int) = ((A.steps + lf : Nat) : Int) := by omega
                have HR5 : Hid (RWent yb a V w (A.addSteps lf) V' (lft A) false (w4.setCell ⟨yb, 5, none⟩ (.int .i64 (A.steps + lf : Nat)))) := HR4.out.own5 (A.steps + lf)
                have HF5 : Hid (BoxAt (w4.setCell ⟨yb, 5, none⟩ (.int .i64 (A.steps + lf : Nat))) (xb + 1) FX ∧ BoxAt (w4.setCell ⟨yb, 5, none⟩ (.int .i64 (A.steps + lf : Nat))) xb X) := (show _ ∧ _ from ⟨HF4.out.setOther (by show yb ≠ xb + 1; omega) _, HX4.out.setOther (by show yb ≠ xb; omega) _⟩)
                by_cases hl0 : lf = 0
                · have HRP : Hid (RPost yb a V w f n g (.returned (.int .i64 3)) (((w4.setCell ⟨yb, 5, none⟩ (.int .i64 (A.steps + lf : Nat))).setCell ⟨yb, 6, none⟩ (.int .i64 (-1))).setCell ⟨yb, 7, none⟩ (.bool true))) := (show RPost _ _ _ _ _ _ _ _ _ from .inr ⟨rfl, m, lf, HMB.out, hno.out, by rw [HAE.out, HFF2.out]; exact HHT.out, V', by
                    rw [HAE.out, HFF2.out, hl0]
                    have h3 := ((HR5.out.own6 (-1)).own7 true).setBrk none
                    rw [hl0] at h3
                    exact h3⟩)
                  have hli : ¬ ((0 : Int) < (lf : Int)) := by omega
                  have hwr : IntKind.i64.wrap ((A.steps : Int) + (lf : Int)) = ((A.steps + lf : Nat) : Int) := by rw [wrap_big _ (by omega) (by omega)]; omega
                  generalize hsl2 : A.steps + lf = sl2 at *
                  clear hsl2 HR5 HF5 HBLK hl0 hsum
                  go_wp2_with fail
                  go_region
                  all_goals
                    go_wp2_with fail
                    go_ret
                    exact HRP.out.like rfl rfl rfl rfl
                · have hli : (0 : Int) < (lf : Int) := by omega
                  have HRP : Hid (∀ (w5 : World) (V3 : Nat → Value), RWent yb (A.addSteps lf) V' (w4.setCell ⟨yb, 5, none⟩ (.int .i64 (A.steps + lf : Nat))) (abTakes (A.addSteps lf) cc rr FX (X.xor FX) (takersL A cc rr)) V3 (lft A) false w5 → RPost yb a V w f n g (.returned (.int .i64 3)) ((w5.setCell ⟨yb, 6, none⟩ (.int .i64 (-1))).setCell ⟨yb, 7, none⟩ (.bool true)) ∧ w5.cell? ⟨yb, 6, none⟩ = some (.int .i64 lf) ∧ w5.cell? ⟨yb, 7, none⟩ = some (.bool false) ∧ yb < w5.heap.size ∧ w5.frozen? ⟨yb, 6, none⟩ = false ∧ w5.frozen? ⟨yb, 7, none⟩ = false) := fun w5 V3 hw5 => by
                    have h3 := HR5.out.trans hw5
                    obtain ⟨_, _, _, _, _, _, d6, d7⟩ := h3.at'.cells
                    rw [hle] at d6
                    refine ⟨.inr ⟨rfl, m, lf, HMB.out, hno.out, by rw [HAE.out, HFF2.out]; exact HHT.out, V3, ?_⟩, d6, d7, h3.at'.row.lt, h3.at'.row.frozen 6, h3.at'.row.frozen 7⟩
                    rw [HAE.out, HFF2.out, ← HE2.out lf (by omega)]
                    exact ((h3.own6 (-1)).own7 true).setBrk none
                  have HB5 : Hid (∀ W, W.heap = (w4.setCell ⟨yb, 5, none⟩ (.int .i64 (A.steps + lf : Nat))).heap → W.os = w4.os → W.tape = w4.tape → W.output = w4.output → Calls Tryz.prog 82 #[.pointer (some ⟨yb, 0, none⟩), .int .i64 cc, .int .i64 rr, .agg #[.int .u8 X.b0, .int .u8 X.b1, .int .u8 X.b2, .int .u8 X.b3], .agg #[.int .u8 FX.b0, .int .u8 FX.b1, .int .u8 FX.b2, .int .u8 FX.b3]] W fun e w' => e = .returned (.tuple #[]) ∧ ∃ V3, RWent yb (A.addSteps lf) V' (w4.setCell ⟨yb, 5, none⟩ (.int .i64 (A.steps + lf : Nat))) (abTakes (A.addSteps lf) cc rr FX (X.xor FX) (takersL A cc rr)) V3 (lft A) false w') := fun W e1 e2 e3 e4 => (HBLK.out W lf V' (lft A) (HR5.out.at'.heap e1)).mono (fun e w' hh => by
                    obtain ⟨h3, V3, h4⟩ := hh
                    exact ⟨h3, V3, ⟨h4.at', ⟨h4.kept.os.trans e2, h4.kept.tape.trans e3, h4.kept.output.trans e4, by rw [← e1]; exact h4.kept.size, fun i hi hn => by rw [h4.kept.block i (by rw [e1]; exact hi) hn, e1]⟩, fun q hq => by
                      rcases h4.foot q hq with h5 | h5
                      · exact .inl h5
                      · exact .inr (by rw [← e1]; exact h5)⟩⟩)
                  have hwr : IntKind.i64.wrap ((A.steps : Int) + (lf : Int)) = ((A.steps + lf : Nat) : Int) := by rw [wrap_big _ (by omega) (by omega)]; omega
                  have hxn : yb ≠ xb ∧ yb ≠ xb + 1 := by constructor <;> omega
                  obtain ⟨x00, x01, x02, x03⟩ := x0
                  obtain ⟨y00, y01, y02, y03⟩ := y0
                  obtain ⟨hxn1, hxn2⟩ := hxn
                  have hxl := HX4.out.lt
                  have hyl := HF4.out.lt
                  generalize hsl2 : A.steps + lf = sl2 at *
                  clear hsl2 HR5 HF5 HBLK hl0 hsum
                  go_wp2_with fail
                  go_region
                  go_wp2_with fail
                  refine (HB5.out _ (by rfl) (by rfl) (by rfl) (by rfl)).mono ?_
                  rintro e w5 ⟨rfl, V3, hw5⟩
                  obtain ⟨t1, t2, t3, t4, t5, t6⟩ := HRP.out w5 V3 hw5
                  have HT1 : Hid (RPost yb a V w f n g (.returned (.int .i64 3)) ((w5.setCell ⟨yb, 6, none⟩ (.int .i64 (-1))).setCell ⟨yb, 7, none⟩ (.bool true))) := t1
                  clear t1 hw5 HRP HB5 c5 c6 c7 f5 f6 f7 x00 x01 x02 x03 y00 y01 y02 y03 hlt4
                  go_wp2_with fail
                  go_ret
                  exact HT1.out.like rfl rfl rfl rfl
              · have hhi : ¬ ((lf : Int) < (cst : Int)) := by omega
                have HNH : Hid (∀ m', m' < m + 1 → brkHit (abBlocks a f n g m') (blockN (abBlocks a f n g m') (f / 4 + m') f n g) = none) := fun m' hm' => by
                  by_cases e : m' = m
                  · rw [e, HAE.out, HFF2.out, HE1.out.2]; exact hit_miss hbk2 (by omega)
                  · exact hno.out m' (by omega)
                have HL : Hid (lft (abBlock A b f n g) = ((lf - cst : Nat) : Int)) := (show _ = _ by rw [lft_some (by rw [HBB.out.1]; exact hbk2), HBB.out.2]; omega)
                have HS6 : Hid (∀ k, (abBlock A b f n g).brk = some k → (abBlock A b f n g).steps ≤ k) := fun k hk => by
                  rw [HBB.out.1, hbk2] at hk; injection hk with hk; rw [HBB.out.2]; omega
                have hwr2 : IntKind.i64.wrap ((lf : Int) - (cst : Int)) = ((lf - cst : Nat) : Int) := by rw [wrap_big _ (by omega) (by omega)]; omega
                have hwr3 : (lf : Int) - (cst : Int) = ((lf - cst : Nat) : Int) := by omega
                go_wp2_with fail
                refine (HBLK.out w4 0 V' (lft A) HR4.out.at').mono ?_
                rintro e w5 ⟨rfl, V3, hw5⟩
                have hw6 := (HR4.out.trans hw5)
                obtain ⟨_, _, _, _, _, d5, d6, d7⟩ := hw6.at'.cells
                have hlt5 := hw6.at'.row.lt
                have g5 := hw6.at'.row.frozen 5
                have g6 := hw6.at'.row.frozen 6
                rw [HTS.out 0] at d5
                rw [hle] at d6
                have HW6 : Hid (RWent yb a V w (abBlocks a f n g (m + 1)) V3 (lft (abBlocks a f n g (m + 1))) false ((w5.setCell ⟨yb, 5, none⟩ (.int .i64 (A.steps + cst : Nat))).setCell ⟨yb, 6, none⟩ (.int .i64 (lf - cst : Nat)))) := (show RWent _ _ _ _ _ _ _ _ _ by
                  rw [HSU.out, HL.out, ← HE1.out.1]
                  exact (hw6.own5 (A.steps + cst)).own6 _)
                rw [Nat.add_zero] at d5
                clear hw5 hw6 c5 c6 c7 x0 y0 f5 f6 f7 HR4 HF4 HX4 HBLK hwt
                rw [← HSU.out] at HS6
                generalize hlc : lf - cst = lc at *
                clear hlc
                go_wp2_with fail
                first
                  | exact ⟨⟨m + 1, b + 1, V3, HBM1, by omega, by go_num, HW6, HNH, HS6⟩, by simp [intOf]; omega⟩
                  | (go_region
                     all_goals
                       go_wp2_with fail
                       exact ⟨⟨m + 1, b + 1, V3, HBM1, by omega, by go_num, HW6.out.like rfl rfl rfl rfl, HNH, HS6⟩, by simp [intOf]; omega⟩)
          · have hBS := HBS.out hbq
            have HNH : Hid (∀ m', m' < m + 1 → brkHit (abBlocks a f n g m') (blockN (abBlocks a f n g m') (f / 4 + m') f n g) = none) := fun m' hm' => by
              by_cases e : m' = m
              · rw [e, HAE.out, hFf, hBS.2]; exact hit_zero _
              · exact hno.out m' (by omega)
            have HW6 : Hid (RWent yb a V w (abBlocks a f n g (m + 1)) V' (lft (abBlocks a f n g (m + 1))) false wr) := (show RWent _ _ _ _ _ _ _ _ _ by
              rw [HSU.out, hBS.1]; exact HIQ.out wr wr hkq.out (Below.refl _ _))
            have HS6 : Hid (∀ k, (abBlocks a f n g (m + 1)).brk = some k → (abBlocks a f n g (m + 1)).steps ≤ k) := fun k hk => by
              rw [HSU.out, hBS.1] at hk ⊢; exact hsl.out k hk
            clear hBS HBS HBD HBC HIQ
            go_wp2_with fail
            exact ⟨⟨m + 1, b + 1, V', HBM1, by omega, by go_num, HW6, HNH, HS6⟩, by simp [intOf]; omega⟩
    · have hbe : b = B1 := by omega
      have hbi' : ¬ ((b : Int) < (B1 : Int)) := by omega
      have HRP : Hid (RPost yb a V w f n g (.returned (.int .i64 0)) wr) := (show RPost _ _ _ _ _ _ _ _ _ by
        have hm : m = blkEnd f n - f / 4 := by have := hbm.out; have := HFB.out.1; omega
        refine .inl ⟨rfl, by rw [← hm]; exact hno.out, V', ?_⟩
        unfold abWrite
        rw [← hm]; exact hwt.out)
      clear h1 hbe
      go_wp2_with fail
      go_ret
      exact HRP.out
end Go.Proofs.YtfpoiikhhjdpdaaGreat
