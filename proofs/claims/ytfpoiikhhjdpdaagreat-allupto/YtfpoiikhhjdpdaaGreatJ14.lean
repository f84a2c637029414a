import Derived.Test.YtfpoiikhhjdpdaaGreatJ13
/- Which drives explain why the equations of a row do not hold; mending. -/
namespace Go.Proofs.YtfpoiikhhjdpdaaGreat
open Go.RowKit
set_option linter.unusedVariables false
attribute [local go_sem ↓] Go.wp_at_zero Go.wp_at_succ
def exTo (s : Ab) (d r : Nat) : Nat → Bool
  | 0 => true
  | n + 1 => exTo s d r n && (msum s (s.D + n) r s.D).beq ((mendC s d r).scale (shareN s (s.D + n) d))
def explB (s : Ab) (d r : Nat) : Bool := exTo s d r s.P
theorem exTo_iff (s : Ab) (d r n : Nat) : exTo s d r n = true ↔ ∀ p, p < n → msum s (s.D + p) r s.D = (mendC s d r).scale (shareN s (s.D + p) d) := by
  induction n with
  | zero => simp [exTo]
  | succ n ih =>
    simp only [exTo, Bool.and_eq_true, ih, C4.beq_iff]
    constructor
    · intro ⟨h1, h2⟩ d hd
      by_cases e : d = n
      · subst e; exact h2
      · exact h1 d (by omega)
    · intro h
      exact ⟨fun d hd => h d (by omega), h n (by omega)⟩
set_option maxRecDepth 100000 in
set_option maxHeartbeats 2000000 in
theorem explains_any (hb : Nat) (s : St) (d r : Nat) (w : World) (h : HoardIn w hb s) (hd : d < s.D + s.P) (hr : r < 6) :
    Calls Tryz.prog 116 #[.pointer (some ⟨hb, 0, none⟩), .int .i64 d, .int .i64 r] w fun e w' => e = .returned (.bool (explB s d r)) ∧ Below w.heap.size w w' := by
  have hD := h.ok.D4
  have hP := h.ok.P2
  have HH : Hid (HoardIn w hb s) := h
  have HM : Hid (∀ W, HoardIn W hb s → Calls Tryz.prog 117 #[.pointer (some ⟨hb, 0, none⟩), .int .i64 d, .int .i64 r] W fun e w' => e = .returned (.agg #[.int .u8 (mendC s d r).b0, .int .u8 (mendC s d r).b1, .int .u8 (mendC s d r).b2, .int .u8 (mendC s d r).b3]) ∧ Below W.heap.size W w') := fun W hW => mending_any hb s d r W hW hd hr
  have HMO : Hid ((mendC s d r).ok) := mendC_ok h.ok d r
  have HEX : Hid (∀ k, exTo s d r (k + 1) = (exTo s d r k && (msum s (s.D + k) r s.D).beq ((mendC s d r).scale (shareN s (s.D + k) d)))) := fun _ => rfl
  have HIF : Hid (explB s d r = true → ∀ p, p < s.P → msum s (s.D + p) r s.D = (mendC s d r).scale (shareN s (s.D + p) d)) := (exTo_iff s d r s.P).1
  generalize mendC s d r = mc at *
  clear h
  go_enter Tryz.func116, Tryz.ntmps116
  go_wp2_with fail
  refine (HM.out _ HH.out).mono ?_
  rintro e w1 ⟨rfl, k1⟩
  have h1 := HH.out.below k1
  have c00 := h1.shape.1
  have hlt0 := h1.row.lt
  have K1 : Hid (Below w.heap.size w (w1.alloc (.cells #[.int .u8 mc.b0, .int .u8 mc.b1, .int .u8 mc.b2, .int .u8 mc.b3] 75))) := k1.alloc k1.size _
  have B1 : Hid (BoxAt (w1.alloc (.cells #[.int .u8 mc.b0, .int .u8 mc.b1, .int .u8 mc.b2, .int .u8 mc.b3] 75)) w1.heap.size mc) := BoxAt.new _ _ _ rfl
  clear h1
  go_wp2_with fail
  clear c00 hlt0 k1
  go_loopw [8, 9, 10] (fun c _ _ wr => ∃ (k p : Nat), k ≤ s.P ∧ Hid (p = s.D + k) ∧ p ≤ s.D + s.P ∧ c = .int .i64 p ∧ Hid (exTo s d r k = true) ∧ Hid (BoxAt wr w1.heap.size mc) ∧ Below w.heap.size w wr) (fun c _ _ _ => s.D + s.P - (intOf c).toNat)
  case atStart => exact ⟨0, s.D, by omega, (show _ = _ by omega), by omega, rfl, rfl, B1, K1.out⟩
  case round =>
    clear B1 K1
    obtain ⟨k, p, hk, hpk, hps, rfl, heq, hbox, hbel⟩ := hrel
    have h1 := HH.out.below hbel
    obtain ⟨c0, c1, _⟩ := h1.shape
    have hlt2 := h1.row.lt
    by_cases hlt : p < s.D + s.P
    · have hki : (p : Int) < (s.D : Int) + s.P := by omega
      have hk6 : (p : Int) < 6 := by omega
      have hkp : k + 1 ≤ s.P := by have := hpk.out; omega
      have HDD : Hid (p + 1 = s.D + (k + 1)) := (show _ = _ by have := hpk.out; omega)
      have HG : Hid (∀ W, HoardIn W hb s → Calls Tryz.prog 115 #[.pointer (some ⟨hb, 0, none⟩), .int .i64 p, .int .i64 r] W fun e w' => e = .returned (.agg #[.int .u8 (msum s p r s.D).b0, .int .u8 (msum s p r s.D).b1, .int .u8 (msum s p r s.D).b2, .int .u8 (msum s p r s.D).b3]) ∧ Below W.heap.size W w') := fun W hW => gap_any hb s p r W hW (by omega) hr
      have HSH : Hid (∀ W, HoardIn W hb s → Calls Tryz.prog 122 #[.pointer (some ⟨hb, 0, none⟩), .int .i64 p, .int .i64 d] W fun e w' => e = .returned (.int .u8 (shareN s p d : Nat)) ∧ Below W.heap.size W w') := fun W hW => share_any hb s p d W hW hd
      have hsl := shareN_lt s HH.out.ok p d
      have HE : Hid (exTo s d r (k + 1) = ((msum s p r s.D).beq (mc.scale (shareN s p d)))) := (show _ = _ by rw [HEX.out, heq.out, hpk.out, Bool.true_and])
      have HF : Hid (((msum s p r s.D).beq (mc.scale (shareN s p d))) = false → explB s d r = false) := fun hh => by
        have : ¬ (explB s d r = true) := fun he => by
          have := HIF.out he k (by omega)
          rw [← hpk.out] at this
          rw [(C4.beq_iff _ _).2 this] at hh; cases hh
        simpa using this
      generalize msum s p r s.D = x at *
      generalize shareN s p d = sh at *
      have HSC : Hid (∀ W, Calls Tryz.prog 113 #[.int .u8 sh, .agg #[.int .u8 mc.b0, .int .u8 mc.b1, .int .u8 mc.b2, .int .u8 mc.b3]] W fun e w' => e = .returned (.agg #[.int .u8 (mc.scale sh).b0, .int .u8 (mc.scale sh).b1, .int .u8 (mc.scale sh).b2, .int .u8 (mc.scale sh).b3]) ∧ Below W.heap.size W w') := fun W => Scale_any sh mc W hsl HMO.out
      generalize mc.scale sh = y at *
      have H1 : Hid (HoardIn wr hb s) := h1
      have hrunA : Hid (∀ W, (Op.equalIn 10000 75 (.agg #[.int .u8 x.b0, .int .u8 x.b1, .int .u8 x.b2, .int .u8 x.b3]) (.agg #[.int .u8 y.b0, .int .u8 y.b1, .int .u8 y.b2, .int .u8 y.b3])).run Tryz.prog W = .ok (x.beq y) W) := fun W => cell_run x y _ rfl W
      clear h1 heq
      go_wp2_with fail
      go_quiet (fail)
      go_wp2_with fail
      refine (HSH.out _ (H1.out.drewN _)).mono ?_
      rintro e w2 ⟨rfl, k2⟩
      have K2 : Hid (Below wr.heap.size wr w2) := (below_drewN (Below.refl _ _) _).trans k2
      clear k2
      obtain ⟨b0, b1, b2, b3⟩ := (hbox.out.below K2.out).cells
      have hbl2 := (hbox.out.below K2.out).lt
      go_wp2_with fail
      refine (HSC.out _).mono ?_
      rintro e w3 ⟨rfl, k3⟩
      have K3 : Hid (Below wr.heap.size wr (w3.alloc (.cells #[.int .u8 y.b0, .int .u8 y.b1, .int .u8 y.b2, .int .u8 y.b3] 75))) := (K2.out.trans (k3.mono K2.out.size)).alloc (by have := K2.out.size; have := k3.size; omega) _
      have B3 : Hid (BoxAt (w3.alloc (.cells #[.int .u8 y.b0, .int .u8 y.b1, .int .u8 y.b2, .int .u8 y.b3] 75)) w3.heap.size y) := BoxAt.new _ _ _ rfl
      have h3 : HoardIn (w3.alloc (.cells #[.int .u8 y.b0, .int .u8 y.b1, .int .u8 y.b2, .int .u8 y.b3] 75)) hb s := H1.out.below K3.out
      have H3 : Hid _ := h3
      clear k3 h3 b0 b1 b2 b3 hbl2
      go_wp2_with fail
      generalize w3.alloc (.cells #[.int .u8 y.b0, .int .u8 y.b1, .int .u8 y.b2, .int .u8 y.b3] 75) = w4 at *
      obtain ⟨m0, m1, m2, m3⟩ := B3.out.cells
      have hml := B3.out.lt
      have hrun := hrunA.out
      clear hrunA
      cases hx : (x.beq y)
      · rw [hx] at hrun
        have HF2 : Hid (explB s d r = false) := HF.out hx
        clear HF HE hx
        go_region_with ((go_at_call 115; go_must (refine (HG.out _ (H3.out.heap (by rfl))).mono ?_); rintro e w5 ⟨rfl, k5⟩; have K5 : Below w4.heap.size w4 w5 := below_from k5 rfl rfl rfl rfl; obtain ⟨n0, n1, n2, n3⟩ := (B3.out.below K5).cells; have hnl := (B3.out.below K5).lt))
        all_goals
          have K6 : Below wr.heap.size wr w5 := K3.out.trans (K5.mono K3.out.size)
          have HB6 : Hid (Below w.heap.size w w5) := hbel.trans (K6.mono hbel.size)
          clear K5 K6 k5
          go_wp2_with fail
          go_ret
          exact ⟨by rw [HF2.out]; rfl, by first | exact HB6.out | exact HB6.out.drew⟩
      · rw [hx] at hrun
        have HE2 : Hid (exTo s d r (k + 1) = true) := HE.out.trans hx
        clear HF HE hx
        go_region_with ((go_at_call 115; go_must (refine (HG.out _ (H3.out.heap (by rfl))).mono ?_); rintro e w5 ⟨rfl, k5⟩; have K5 : Below w4.heap.size w4 w5 := below_from k5 rfl rfl rfl rfl; obtain ⟨n0, n1, n2, n3⟩ := (B3.out.below K5).cells; have hnl := (B3.out.below K5).lt))
        all_goals
          have K6 : Below wr.heap.size wr w5 := K3.out.trans (K5.mono K3.out.size)
          have HB6 : Hid (Below w.heap.size w w5) := hbel.trans (K6.mono hbel.size)
          have HX6 : Hid (BoxAt w5 w1.heap.size mc) := hbox.out.below K6
          clear K5 K6 k5
          go_wp2_with fail
          exact ⟨⟨k + 1, p + 1, hkp, HDD, by omega, by go_num, HE2, by first | exact HX6 | exact HX6.out.drew, by first | exact HB6.out | exact HB6.out.drew⟩, by simp [intOf]; omega⟩
    · have hki : ¬ ((p : Int) < (s.D : Int) + s.P) := by omega
      have HN : Hid (explB s d r = true) := (show _ = _ by unfold explB; rw [show s.P = k by have := hpk.out; omega]; exact heq.out)
      clear h1
      go_wp2_with fail
      go_quiet (fail)
      go_wp2_with fail
      go_ret
      exact ⟨by rw [HN.out]; rfl, below_drewN hbel _⟩
def explL (s : Ab) (r : Nat) : Nat → List Nat
  | 0 => []
  | n + 1 => if explB s n r then explL s r n ++ [n] else explL s r n
theorem explL_len (s : Ab) (r m : Nat) : (explL s r m).length ≤ m := by
  induction m with
  | zero => exact Nat.le_refl _
  | succ m ih =>
    simp only [explL]
    split
    · rw [List.length_append]; simp only [List.length_cons, List.length_nil]; omega
    · omega
set_option maxRecDepth 100000 in
set_option maxHeartbeats 1000000 in
theorem explaining_any (hb : Nat) (s : St) (r : Nat) (w : World) (h : HoardIn w hb s) (hr : r < 6) :
    Calls Tryz.prog 92 #[.pointer (some ⟨hb, 0, none⟩), .int .i64 r] w fun e w' => ∃ v, e = .returned v ∧ IntsAt w' w.heap.size v (explL s r (s.D + s.P)) ∧ Below w.heap.size w w' := by
  have hD := h.ok.D4
  have hP := h.ok.P2
  have HH : Hid (HoardIn w hb s) := h
  have H0 : Hid (IntsAt (w.alloc (.cells #[] 3)) w.heap.size (.slice (some ⟨w.heap.size, 0, none⟩) 0 0) []) := World.ownsRow_made w #[] 0 (Nat.le_refl _) (by decide) rfl
  clear h
  go_enter Tryz.func92, Tryz.ntmps92
  go_wp2_with fail
  go_loopw [5, 6] (fun l c wr => ∃ (d : Nat) (v : Value), d ≤ s.D + s.P ∧ c = .int .i64 d ∧ l = v ∧ Hid (IntsAt wr w.heap.size v (explL s r d)) ∧ Below w.heap.size w wr) (fun _ c _ => s.D + s.P - (intOf c).toNat)
  case atStart => exact ⟨0, _, by omega, rfl, rfl, H0, (Below.refl _ _).alloc (Nat.le_refl _) _⟩
  case round =>
    obtain ⟨d, v, hds, rfl, rfl, hown, hbel⟩ := hrel
    have h1 := HH.out.below hbel
    obtain ⟨c0, c1, _⟩ := h1.shape
    have hlt2 := h1.row.lt
    by_cases hlt : d < s.D + s.P
    · have hki : (d : Int) < (s.D : Int) + s.P := by omega
      have HA : Hid (∀ W, HoardIn W hb s → Calls Tryz.prog 116 #[.pointer (some ⟨hb, 0, none⟩), .int .i64 d, .int .i64 r] W fun e w' => e = .returned (.bool (explB s d r)) ∧ Below W.heap.size W w') := fun W hW => explains_any hb s d r W hW hlt hr
      have hlen := explL_len s r d
      have H1 : Hid (HoardIn wr hb s) := h1
      clear h1
      cases hav : explB s d r
      · rw [hav] at HA
        have HL : Hid (explL s r (d + 1) = explL s r d) := (show _ = _ by simp only [explL, hav]; rfl)
        go_wp2_with fail
        go_quiet (fail)
        go_wp2_with fail
        refine (HA.out _ (H1.out.drewN _)).mono ?_
        rintro e w2 ⟨rfl, k2⟩
        have K2 : Hid (Below wr.heap.size wr w2) := (below_drewN (Below.refl _ _) _).trans k2
        clear k2
        go_wp2_with fail
        refine ⟨⟨d + 1, _, by omega, by go_num, rfl, ?_, hbel.trans (K2.out.mono hbel.size)⟩, by simp [intOf]; omega⟩
        rw [HL.out]; exact hown.out.below K2.out
      · rw [hav] at HA
        have HL : Hid (explL s r (d + 1) = explL s r d ++ [d]) := (show _ = _ by simp only [explL, hav]; rfl)
        generalize hL : explL s r d = L at *
        generalize hln : L.length = ln at *
        have HLN : Hid (L.length = ln) := hln
        have hsz := hbel.size
        have hln24 : ln ≤ 24 := by omega
        have hil : (intsOf L).length = ln := by unfold intsOf; rw [List.length_map]; exact hln
        clear hL hln
        go_wp2_with fail
        go_quiet (fail)
        go_wp2_with fail
        refine (HA.out _ (H1.out.drewN _)).mono ?_
        rintro e w2 ⟨rfl, k2⟩
        have K2 : Below wr.heap.size wr w2 := (below_drewN (Below.refl _ _) _).trans k2
        have hbel2 : Below w.heap.size w w2 := hbel.trans (K2.mono hbel.size)
        have hown2 : Hid (IntsAt w2 w.heap.size u5 L) := hown.out.below K2
        clear k2 K2
        have HO : Hid ((w2.alloc (Obj.cells #[.int .i64 d] 3)).ownsRow w.heap.size 3 1 u5 ln (intsOf L)) := by
          have h1 : w2.ownsRow w.heap.size 3 1 u5 ln (intsOf L) := HLN.out ▸ hown2.out
          exact h1.alloc _
        have HNW : Hid (∀ j u, [Value.int .i64 d][j]? = some u → (w2.alloc (Obj.cells #[.int .i64 d] 3)).cell? ((⟨w2.heap.size, 0, none⟩ : Addr).add j) = some u) := cell_one_new _ _ _
        have hsz2 := hbel2.size
        go_wp2_with (at_builtin; go_must (refine wpl_append appInt (by rfl) _ _ (by rfl) w.heap.size _ ln (intsOf L) (by rfl) HO.out ⟨w2.heap.size, 0, none⟩ 1 1 [.int .i64 d] (by rfl) (by rfl) HNW.out (by simp [Value.oneCell']) ?_ ?_ ?_ ?_))
        · simp only [maxLen]; omega
        · omega
        · simp; omega
        · intro v' w3 hown3 hgr hat
          have hb3 : Below w.heap.size w w3 := by
            have k0 : Below w.heap.size w (w2.alloc (Obj.cells #[.int .i64 d] 3)) := hbel2.alloc hsz2 _
            exact k0.trans (grown_below hgr (by simp; omega) (fun k hk => (World.ownsRow.lt HO.out k hk).1))
          have HF : Hid (IntsAt w3 w.heap.size v' (explL s r (d + 1))) := by
            show World.ownsRow _ _ _ _ _ _ _
            rw [show (explL s r (d + 1)).length = ln + 1 by rw [HL.out, List.length_append, HLN.out]; rfl, show intsOf (explL s r (d + 1)) = intsOf L ++ [.int .i64 d] by rw [HL.out]; unfold intsOf; rw [List.map_append]; rfl]
            exact hown3
          clear hown3 hgr hat HO HNW
          go_wp2_with fail
          first
            | exact ⟨⟨d + 1, v', by omega, by go_num, rfl, HF, hb3⟩, by simp [intOf]; omega⟩
            | (go_roundw
               case rel => exact ⟨d + 1, v', by omega, by go_num, rfl, HF, hb3⟩
               case measure => simp [intOf]; omega)
    · have hki : ¬ ((d : Int) < (s.D : Int) + s.P) := by omega
      have hke : d = s.D + s.P := by omega
      have HKE : Hid (d = s.D + s.P) := hke
      clear h1 hke
      go_wp2_with fail
      go_quiet (fail)
      go_wp2_with fail
      go_ret
      have h1 := hown.out
      rw [HKE.out] at h1
      exact ⟨_, rfl, h1.below (below_drewN (Below.refl _ _) _), below_drewN hbel _⟩
set_option maxRecDepth 100000 in
set_option maxHeartbeats 2000000 in
theorem mend_any (hb : Nat) (s : St) (d r : Nat) (w : World) (h : HoardIn w hb s) (hd : d < s.D + s.P) (hr : r < 6) :
    Calls Tryz.prog 93 #[.pointer (some ⟨hb, 0, none⟩), .int .i64 d, .int .i64 r] w fun e w' => e = .returned (.tuple #[]) ∧ WentIn hb s w (s.setCell d r ((s.cell d r).xor (mendC s d r))) w' := by
  have hD := h.ok.D4
  have hP := h.ok.P2
  have hri : (r : Int) < 6 := by omega
  have hdi : (d : Int) < 6 := by omega
  have hd6 : d < 6 := by omega
  have HH : Hid (HoardIn w hb s) := h
  have HM : Hid (∀ W, HoardIn W hb s → Calls Tryz.prog 117 #[.pointer (some ⟨hb, 0, none⟩), .int .i64 d, .int .i64 r] W fun e w' => e = .returned (.agg #[.int .u8 (mendC s d r).b0, .int .u8 (mendC s d r).b1, .int .u8 (mendC s d r).b2, .int .u8 (mendC s d r).b3]) ∧ Below W.heap.size W w') := fun W hW => mending_any hb s d r W hW hd hr
  have HAD : Hid (∀ W, Calls Tryz.prog 108 #[.agg #[.int .u8 (s.cell d r).b0, .int .u8 (s.cell d r).b1, .int .u8 (s.cell d r).b2, .int .u8 (s.cell d r).b3], .agg #[.int .u8 (mendC s d r).b0, .int .u8 (mendC s d r).b1, .int .u8 (mendC s d r).b2, .int .u8 (mendC s d r).b3]] W fun e w' => e = .returned (.agg #[.int .u8 ((s.cell d r).xor (mendC s d r)).b0, .int .u8 ((s.cell d r).xor (mendC s d r)).b1, .int .u8 ((s.cell d r).xor (mendC s d r)).b2, .int .u8 ((s.cell d r).xor (mendC s d r)).b3]) ∧ Below W.heap.size W w') := fun W => Add_any _ _ W (h.ok.cells d r) (mendC_ok h.ok d r)
  have HXO : Hid (((s.cell d r).xor (mendC s d r)).ok) := C4.xor_ok (h.ok.cells d r) (mendC_ok h.ok d r)
  generalize mendC s d r = mc at *
  generalize hxc : (s.cell d r).xor mc = xc at *
  have HSET : Hid (∀ W, HoardIn W hb s → HoardIn ((((W.setCell ⟨hb, 4 + d * 32 + 7 + r * 4, none⟩ (.int .u8 xc.b0)).setCell ⟨hb, 4 + d * 32 + 7 + r * 4 + 1, none⟩ (.int .u8 xc.b1)).setCell ⟨hb, 4 + d * 32 + 7 + r * 4 + 2, none⟩ (.int .u8 xc.b2)).setCell ⟨hb, 4 + d * 32 + 7 + r * 4 + 3, none⟩ (.int .u8 xc.b3)) hb (s.setCell d r xc)) := fun W hW => hW.setCell d r xc hd6 hr HXO.out
  clear h hxc
  go_enter Tryz.func93, Tryz.ntmps93
  go_wp2_with fail
  refine (HM.out _ HH.out).mono ?_
  rintro e w1 ⟨rfl, k1⟩
  have K2 : Hid (Below w.heap.size w (w1.alloc (.cells #[.int .u8 mc.b0, .int .u8 mc.b1, .int .u8 mc.b2, .int .u8 mc.b3] 75))) := k1.alloc k1.size _
  have B2 : Hid (BoxAt (w1.alloc (.cells #[.int .u8 mc.b0, .int .u8 mc.b1, .int .u8 mc.b2, .int .u8 mc.b3] 75)) w1.heap.size mc) := BoxAt.new _ _ _ rfl
  clear k1
  go_wp2_with fail
  generalize w1.alloc (.cells #[.int .u8 mc.b0, .int .u8 mc.b1, .int .u8 mc.b2, .int .u8 mc.b3] 75) = w2 at *
  have h2 := HH.out.below K2.out
  obtain ⟨y0, y1, y2, y3⟩ := h2.cell d r hd6 hr
  obtain ⟨b0, b1, b2, b3⟩ := B2.out.cells
  have hlt2 := h2.row.lt
  have hbl := B2.out.lt
  have H2 : Hid (HoardIn w2 hb s) := h2
  clear h2
  generalize s.cell d r = cl at *
  go_region_with ((go_at_call 108; refine (HAD.out _).mono ?_; rintro e w3 ⟨rfl, k3⟩; have K3 : Below w2.heap.size w2 w3 := below_from k3 rfl rfl rfl rfl; have h3 := H2.out.below K3; obtain ⟨z0, z1, z2, z3⟩ := h3.cell d r hd6 hr; have hlt3 := h3.row.lt; have q0 := h3.row.frozen (4 + d * 32 + 7 + r * 4); have q1 := h3.row.frozen (4 + d * 32 + 7 + r * 4 + 1); have q2 := h3.row.frozen (4 + d * 32 + 7 + r * 4 + 2); have q3 := h3.row.frozen (4 + d * 32 + 7 + r * 4 + 3)))
  all_goals
    go_wp2_with fail
    go_end0
    have H4 := HSET.out _ h3
    have k4 : Kept (Foot hb s) w3 ((((w3.setCell ⟨hb, 4 + d * 32 + 7 + r * 4, none⟩ (.int .u8 xc.b0)).setCell ⟨hb, 4 + d * 32 + 7 + r * 4 + 1, none⟩ (.int .u8 xc.b1)).setCell ⟨hb, 4 + d * 32 + 7 + r * 4 + 2, none⟩ (.int .u8 xc.b2)).setCell ⟨hb, 4 + d * 32 + 7 + r * 4 + 3, none⟩ (.int .u8 xc.b3)) :=
      ((((Kept.refl _ _).setCell (.inl (.inl rfl)) _).setCell (.inl (.inl rfl)) _).setCell (.inl (.inl rfl)) _).setCell (.inl (.inl rfl)) _
    refine ⟨rfl, (WentIn.below HH.out (K2.out.trans (K3.mono K2.out.size))).trans ⟨H4.of_block (fun _ _ => rfl), k4, fun k hk => .inl (foot_lay rfl hk)⟩⟩
end Go.Proofs.YtfpoiikhhjdpdaaGreat
