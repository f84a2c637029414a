import Derived.Test.YtfpoiikhhjdpdaaGreatJ03
/- The document: what a data cell holds. -/
namespace Go.Proofs.YtfpoiikhhjdpdaaGreat
open Go.RowKit
set_option linter.unusedVariables false
attribute [local go_sem ↓] Go.wp_at_zero Go.wp_at_succ
theorem rfound_any (yb : Nat) (a : Ab) (V : Nat → Value) (left : Int) (dn : Bool) (r i : Nat) (pl pp : Option Addr) (cl cp : Nat) (w : World) (h : RefIn w yb a V left dn) (hr : r < a.R) (hi : i < 4) (hl : NumsAt w pl (missL a r a.D)) (hp : NumsAt w pp (parP a r a.P)) (h1 : 1 ≤ (missL a r a.D).length) (h2 : (missL a r a.D).length ≤ (parP a r a.P).length) :
    Calls Tryz.prog 104 #[.pointer (some ⟨yb, 0, none⟩), .int .i64 r, .int .i64 i, .slice pl (missL a r a.D).length cl, .slice pp (parP a r a.P).length cp] w fun e w' => ∃ g, e = .returned (.slice (some ⟨g, 0, none⟩) (missL a r a.D).length (missL a r a.D).length) ∧ w.heap.size ≤ g ∧ w'.rowIs g 5 (missL a r a.D).length (fun k => .int .u8 (solG a r i k : Nat)) ∧ Below w.heap.size w w' := by
  have hpl := parP_len a r a.P
  have hP := h.ok.P2
  by_cases e : (missL a r a.D).length = 1
  · have := found_one yb a V left dn r i pl pp cl cp w h hr hi hl hp e (by omega)
    rw [e]; exact this
  · have e2 : (missL a r a.D).length = 2 := by omega
    have e3 : (parP a r a.P).length = 2 := by omega
    have := found_two yb a V left dn r i pl pp cl cp w h hr hi hl hp e2 e3
    rw [e2, e3]; exact this
/-- Of a missing cell the solution is what it holds. -/
theorem pick_sol (a : Ab) (d r i : Nat) (hd : d < a.D) (hav : avB a d r = false) : pickTo (missL a r a.D) (solG a r i) d 0 (missL a r a.D).length = (holdC a d r).at i := by
  obtain ⟨h1, h2⟩ := missL_at a r d a.D hd hav
  rw [pick_in _ (missL_nodup a r a.D) _ d 0 _ h1 h2 _ (Nat.le_refl _) h2]
  unfold solG holdC
  rw [h1, hav]
  rfl
theorem IntsAt.nums {w : World} {B : Nat} {v : Value} {l : List Nat} (h : IntsAt w B v l) : ∃ p cap, v = .slice p l.length cap ∧ NumsAt w p l := by
  obtain ⟨p, cap, e, hc⟩ := h.slice
  refine ⟨p, cap, e, fun k hk => ?_⟩
  obtain ⟨b, e1, hc1⟩ := hc k hk
  exact ⟨b, 0, e1, by rw [Nat.zero_add]; exact hc1⟩
set_option maxRecDepth 100000 in
set_option maxHeartbeats 2000000 in
theorem rholds_av (yb : Nat) (a : Ab) (V : Nat → Value) (left : Int) (dn : Bool) (d r : Nat) (w : World) (h : RefIn w yb a V left dn) (hd : d < a.D) (hr : r < a.R) (hav : avB a d r = true) :
    Calls Tryz.prog 71 #[.pointer (some ⟨yb, 0, none⟩), .int .i64 d, .int .i64 r] w fun e w' => e = .returned (holdC a d r).val ∧ Below w.heap.size w w' := by
  have HV : Hid (holdC a d r = a.cell d r) := (show _ = _ by unfold holdC; rw [hav]; rfl)
  rw [HV.out]
  have hD := h.ok.D4
  have hR := h.ok.R6
  have HA : Hid (∀ W, Below w.heap.size w W → Calls Tryz.prog 77 #[.pointer (some ⟨yb, 0, none⟩), .int .i64 d, .int .i64 r] W fun e w' => e = .returned (.bool true) ∧ w' = W) := fun W hW => by
    have := ravail_any yb a V left dn d r W (h.below hW) (by omega) hr
    rw [hav] at this; exact this
  have h' : RefIn (w.alloc (.cells #[.int .u8 0, .int .u8 0, .int .u8 0, .int .u8 0] 75)) yb a V left dn := h.below ((Below.refl _ _).alloc (Nat.le_refl _) _)
  obtain ⟨_, _, _, _, c4, _⟩ := h'.cells
  have hlt := h'.row.lt
  obtain ⟨g, cap, e0, hg, hgy, hdr⟩ := h'.drive
  obtain ⟨_, _, d2, _⟩ := hdr d (by omega)
  obtain ⟨gc, capc, ec, hgc, _, hce⟩ := h'.cellsOf d (by omega)
  have b0 : (w.alloc (.cells #[.int .u8 0, .int .u8 0, .int .u8 0, .int .u8 0] 75)).cell? ⟨gc, r * 4, none⟩ = some (.int .u8 (a.cell d r).b0) := hce r 0 hr (by omega)
  have b1 : (w.alloc (.cells #[.int .u8 0, .int .u8 0, .int .u8 0, .int .u8 0] 75)).cell? ⟨gc, r * 4 + 1, none⟩ = some (.int .u8 (a.cell d r).b1) := hce r 1 hr (by omega)
  have b2 : (w.alloc (.cells #[.int .u8 0, .int .u8 0, .int .u8 0, .int .u8 0] 75)).cell? ⟨gc, r * 4 + 2, none⟩ = some (.int .u8 (a.cell d r).b2) := hce r 2 hr (by omega)
  have b3 : (w.alloc (.cells #[.int .u8 0, .int .u8 0, .int .u8 0, .int .u8 0] 75)).cell? ⟨gc, r * 4 + 3, none⟩ = some (.int .u8 (a.cell d r).b3) := hce r 3 hr (by omega)
  rw [e0] at c4
  rw [ec] at d2
  have hdi : (d : Int) < ((a.D + a.P : Nat) : Int) := by omega
  have hri : (r : Int) < (a.R : Int) := by omega
  have hd4 : d < 4 := by omega
  clear h h' hdr hce e0 ec hav HV
  generalize a.D + a.P = n at *
  generalize a.cell d r = C at *
  unfold C4.val
  go_enter Tryz.func71, Tryz.ntmps71
  go_wp2_with fail
  refine (HA.out _ (by first | exact Below.refl _ _ | exact (Below.refl _ _).alloc (Nat.le_refl _) _)).mono ?_
  rintro e w1 ⟨rfl, rfl⟩
  go_wp2_with fail
  exact bodyPost_ret (v := .agg #[.int .u8 C.b0, .int .u8 C.b1, .int .u8 C.b2, .int .u8 C.b3]) (by simp [results, Tryz.results71, go_sem]) rfl ⟨rfl, by repeat (first | exact Below.refl _ _ | refine Below.setCell ?_ (by simp) _ | refine below_drewN ?_ _ | refine Below.drew ?_ | refine Below.alloc ?_ (by simp <;> omega) _)⟩
/-- Only one block has turned, and it is new. -/
theorem kept_one {w0 w w' : World} {cb : Nat} (h : Below w0.heap.size w0 w) (k : Kept (fun g => g = cb) w w') (hc : w0.heap.size ≤ cb) : Below w0.heap.size w0 w' :=
  ⟨k.os.trans h.os, k.tape.trans h.tape, k.output.trans h.output, Nat.le_trans h.size k.size, fun g hg => (k.block g (Nat.lt_of_lt_of_le hg h.size) (by omega)).trans (h.block g hg)⟩
set_option maxRecDepth 100000 in
set_option maxHeartbeats 4000000 in
theorem rholds_no (yb : Nat) (a : Ab) (V : Nat → Value) (left : Int) (dn : Bool) (d r : Nat) (w : World) (h : RefIn w yb a V left dn) (hd : d < a.D) (hr : r < a.R) (hav : avB a d r = false) (hg : goneB a r = false) :
    Calls Tryz.prog 71 #[.pointer (some ⟨yb, 0, none⟩), .int .i64 d, .int .i64 r] w fun e w' => e = .returned (holdC a d r).val ∧ Below w.heap.size w w' := by
  have hD := h.ok.D4
  have hlen1 : 1 ≤ (missL a r a.D).length := by have := (missL_at a r d a.D hd hav).2; omega
  have hlen2 : (missL a r a.D).length ≤ (parP a r a.P).length := by
    simp only [goneB, decide_eq_false_iff_not] at hg
    rw [parL_parP, List.length_map] at hg
    omega
  have hlenD := missL_len a r a.D
  have HA : Hid (∀ W, Below w.heap.size w W → Calls Tryz.prog 77 #[.pointer (some ⟨yb, 0, none⟩), .int .i64 d, .int .i64 r] W fun e w' => e = .returned (.bool false) ∧ w' = W) := fun W hW => by
    have := ravail_any yb a V left dn d r W (h.below hW) (by omega) hr
    rw [hav] at this; exact this
  have HM : Hid (∀ W, Below w.heap.size w W → Calls Tryz.prog 87 #[.pointer (some ⟨yb, 0, none⟩), .int .i64 r] W fun e w' => ∃ v1 v2, e = .returned (.tuple #[v1, v2]) ∧ IntsAt w' W.heap.size v1 (missL a r a.D) ∧ IntsAt w' W.heap.size v2 (parP a r a.P) ∧ Below W.heap.size W w') := fun W hW => rmissing_any yb a V left dn r W (h.below hW) hr
  have HF : Hid (∀ (i : Nat) (pl pp : Option Addr) (cl cp : Nat) (W : World), i < 4 → Below w.heap.size w W → NumsAt W pl (missL a r a.D) → NumsAt W pp (parP a r a.P) → Calls Tryz.prog 104 #[.pointer (some ⟨yb, 0, none⟩), .int .i64 r, .int .i64 i, .slice pl (missL a r a.D).length cl, .slice pp (parP a r a.P).length cp] W fun e w' => ∃ g, e = .returned (.slice (some ⟨g, 0, none⟩) (missL a r a.D).length (missL a r a.D).length) ∧ W.heap.size ≤ g ∧ w'.rowIs g 5 (missL a r a.D).length (fun k => .int .u8 (solG a r i k : Nat)) ∧ Below W.heap.size W w') := fun i pl pp cl cp W hi hW hl hp => rfound_any yb a V left dn r i pl pp cl cp W (h.below hW) hr hi hl hp hlen1 hlen2
  have HPK : Hid (∀ i, pickTo (missL a r a.D) (solG a r i) d 0 (missL a r a.D).length = (holdC a d r).at i) := fun i => pick_sol a d r i hd hav
  have HSL : Hid (∀ i k, solG a r i k < 256) := fun i k => solG_lt a r i k
  clear h hav hg hlen2
  generalize holdC a d r = C at *
  generalize missL a r a.D = l at *
  generalize parP a r a.P = ps at *
  generalize hln : l.length = ln at *
  have HLN : Hid (l.length = ln) := hln
  clear hln
  generalize hpn : ps.length = pn at *
  have HPN : Hid (ps.length = pn) := hpn
  clear hpn
  have HR0 : Hid (BoxAt ((w.alloc (.cells #[.int .u8 0, .int .u8 0, .int .u8 0, .int .u8 0] 75)).alloc (.cells #[.int .u8 0, .int .u8 0, .int .u8 0, .int .u8 0] 75)) w.heap.size C4.zero) := (BoxAt.new0 w _ rfl).alloc _
  have HC0 : Hid (BoxAt ((w.alloc (.cells #[.int .u8 0, .int .u8 0, .int .u8 0, .int .u8 0] 75)).alloc (.cells #[.int .u8 0, .int .u8 0, .int .u8 0, .int .u8 0] 75)) (w.heap.size + 1) C4.zero) := BoxAt.new0 _ _ (by simp)
  have HB0 : Hid (Below w.heap.size w ((w.alloc (.cells #[.int .u8 0, .int .u8 0, .int .u8 0, .int .u8 0] 75)).alloc (.cells #[.int .u8 0, .int .u8 0, .int .u8 0, .int .u8 0] 75))) := ((Below.refl _ _).alloc (Nat.le_refl _) _).alloc (by simp) _
  unfold C4.val
  go_enter Tryz.func71, Tryz.ntmps71
  go_wp2_with fail
  refine (HA.out _ (by first | exact Below.refl _ _ | exact (Below.refl _ _).alloc (Nat.le_refl _) _)).mono ?_
  rintro e w1 ⟨rfl, rfl⟩
  go_wp2_with fail
  generalize (w.alloc (.cells #[.int .u8 0, .int .u8 0, .int .u8 0, .int .u8 0] 75)).alloc (.cells #[.int .u8 0, .int .u8 0, .int .u8 0, .int .u8 0] 75) = wb at *
  refine (HM.out _ HB0.out).mono ?_
  rintro e w2 ⟨v1, v2, rfl, hi1, hi2, k2⟩
  have HI1 : Hid (IntsAt w2 wb.heap.size v1 l) := hi1
  have HI2 : Hid (IntsAt w2 wb.heap.size v2 ps) := hi2
  have HR2 : Hid (BoxAt w2 w.heap.size C4.zero) := HR0.out.below k2
  have HC2 : Hid (w2.rowIs (w.heap.size + 1) 75 4 (fun j => .int .u8 (if j < 0 then C.at j else 0 : Nat))) := World.rowIs.congr (HC0.out.below k2) (fun j _ => by
    rw [if_neg (by omega)]
    unfold C4.at C4.zero
    split <;> try rfl
    split <;> try rfl
    split <;> rfl)
  have HB2 : Hid (Below w.heap.size w w2) := HB0.out.trans (k2.mono HB0.out.size)
  have HWS : Hid (w.heap.size + 1 < wb.heap.size) := HC0.out.lt
  obtain ⟨p1, q1, hv1, _⟩ := hi1.nums
  obtain ⟨p2, q2, hv2, _⟩ := hi2.nums
  rw [HLN.out] at hv1
  rw [HPN.out] at hv2
  subst hv1 hv2
  clear hi1 hi2 k2 HR0 HC0 HB0 HA HM
  have HN1 : Hid (∀ W, Kept (fun g => g = w.heap.size + 1) w2 W → NumsAt W p1 l ∧ NumsAt W p2 ps) := fun W hW => by
    have e1 := HI1.out.of_block (w' := W) (fun g hg => hW.block g (HI1.out.ltB g hg).2 (by have := (HI1.out.ltB g hg).1; have := HWS.out; omega))
    have e2 := HI2.out.of_block (w' := W) (fun g hg => hW.block g (HI2.out.ltB g hg).2 (by have := (HI2.out.ltB g hg).1; have := HWS.out; omega))
    obtain ⟨x1, y1, z1, n1⟩ := e1.nums
    obtain ⟨x2, y2, z2, n2⟩ := e2.nums
    simp only [Value.slice.injEq] at z1 z2
    rw [z1.1, z2.1]
    exact ⟨n1, n2⟩
  go_wp2_with fail
  go_loopw [11, 12, 13] (fun c _ _ wr => ∃ k : Nat, k ≤ 4 ∧ c = .int .i64 k ∧ Hid (wr.rowIs (w.heap.size + 1) 75 4 (fun j => .int .u8 (if j < k then C.at j else 0 : Nat))) ∧ Hid (BoxAt wr w.heap.size C4.zero) ∧ Hid (Kept (fun g => g = w.heap.size + 1) w2 wr)) (fun c _ _ _ => 4 - (intOf c).toNat)
  case atStart => exact ⟨0, by omega, rfl, HC2, HR2, Kept.refl _ _⟩
  case round =>
    clear HC2 HR2
    obtain ⟨k, hk, rfl, hrow, hres, hkp⟩ := hrel
    have HBW : Hid (Below w.heap.size w wr) := kept_one HB2.out hkp.out (by omega)
    by_cases hk4 : k < 4
    · have hki : (k : Int) < 4 := by omega
      obtain ⟨n1, n2⟩ := HN1.out wr hkp.out
      have HF1 : Hid (Calls Tryz.prog 104 #[.pointer (some ⟨yb, 0, none⟩), .int .i64 r, .int .i64 k, .slice p1 ln q1, .slice p2 pn q2] wr fun e w' => ∃ g, e = .returned (.slice (some ⟨g, 0, none⟩) ln ln) ∧ wr.heap.size ≤ g ∧ w'.rowIs g 5 ln (fun j => .int .u8 (solG a r k j : Nat)) ∧ Below wr.heap.size wr w') := HF.out k p1 p2 q1 q2 wr hk4 HBW.out n1 n2
      have HPK1 := HPK.out k
      have HSL1 : Hid (∀ j, solG a r k j < 256) := HSL.out k
      generalize solG a r k = G at *
      clear n1 n2
      go_wp2_with fail
      refine HF1.out.mono ?_
      rintro e w3 ⟨g, rfl, hg, hgrow, k3⟩
      have HG3 : Hid (w3.rowIs g 5 ln (fun j => .int .u8 (G j : Nat))) := hgrow
      have HGN : Hid (g ≠ w.heap.size + 1) := (show _ ≠ _ by have := hrow.out.lt; omega)
      have HRW3 : Hid (w3.rowIs (w.heap.size + 1) 75 4 (fun j => .int .u8 (if j = k then pickTo l G d 0 0 else if j < k then C.at j else 0 : Nat))) := (hrow.out.of_block (k3.block _ hrow.out.lt)).congr (fun j hj => by
        by_cases e : j = k
        · rw [if_pos e, if_neg (by omega)]; rfl
        · rw [if_neg e])
      have HRE3 : Hid (BoxAt w3 w.heap.size C4.zero) := hres.out.below k3
      have HKP3 : Hid (Kept (fun g => g = w.heap.size + 1) w2 w3) := hkp.out.trans (Kept.of_below k3)
      clear hgrow k3 hg hrow hres hkp HF1 HBW
      go_wp2_with fail
      go_loopw [13] (fun c wi => ∃ m : Nat, m ≤ ln ∧ c = .int .i64 m ∧ Hid (wi.rowIs (w.heap.size + 1) 75 4 (fun j => .int .u8 (if j = k then pickTo l G d 0 m else if j < k then C.at j else 0 : Nat))) ∧ Hid (BoxAt wi w.heap.size C4.zero) ∧ Hid (Kept (fun g => g = w.heap.size + 1) w2 wi) ∧ Hid (wi.rowIs g 5 ln (fun j => .int .u8 (G j : Nat)))) (fun c _ => ln - (intOf c).toNat)
      case atStart => exact ⟨0, by omega, rfl, HRW3, HRE3, HKP3, HG3⟩
      case round =>
        clear HRW3 HRE3 HKP3 HG3
        obtain ⟨m, hm, rfl, hrow, hres, hkp, hgr⟩ := hrel
        by_cases hml : m < ln
        · have hmi : (m : Int) < (ln : Int) := by omega
          obtain ⟨b1, o1, hp1, y0⟩ := (HN1.out wr hkp.out).1 m (by have := HLN.out; omega)
          subst hp1
          have hyl := block_lt_of_cell y0
          simp only at hyl
          have y1 := hgr.out.cell (i := m) hml
          have hgl := hgr.out.lt
          have z0 := hrow.out.cell (i := k) (by omega)
          have f0 := hrow.out.frozen k
          have hcl := hrow.out.lt
          have hm8 : m < 8 := by omega
          have HPS : Hid (pickTo l G d 0 (m + 1) = if l.getD m 0 = d then G m else pickTo l G d 0 m) := rfl
          have hps := HPS.out
          generalize hlk : l.getD m 0 = lk at *
          clear hlk HPS
          by_cases hld : lk = d
          · have hldi : ((lk : Int) == (d : Int)) = true := by rw [beq_iff_eq]; omega
            rw [if_pos hld] at hps
            have HR5 : Hid ((wr.setCell ⟨w.heap.size + 1, k, none⟩ (.int .u8 (G m : Nat))).rowIs (w.heap.size + 1) 75 4 (fun j => .int .u8 (if j = k then pickTo l G d 0 (m + 1) else if j < k then C.at j else 0 : Nat))) := (hrow.out.set k _).congr (fun j hj => by
              by_cases e : j = k
              · rw [if_pos e, if_pos e, hps]
              · rw [if_neg e, if_neg e, if_neg e])
            have HE5 : Hid (BoxAt (wr.setCell ⟨w.heap.size + 1, k, none⟩ (.int .u8 (G m : Nat))) w.heap.size C4.zero) := hres.out.setOther (by simp) _
            have HK5 : Hid (Kept (fun g => g = w.heap.size + 1) w2 (wr.setCell ⟨w.heap.size + 1, k, none⟩ (.int .u8 (G m : Nat)))) := hkp.out.setCell (.inl rfl) _
            have HG5 : Hid ((wr.setCell ⟨w.heap.size + 1, k, none⟩ (.int .u8 (G m : Nat))).rowIs g 5 ln (fun j => .int .u8 (G j : Nat))) := hgr.out.setOther (by have := HGN.out; simpa using this) _
            clear hld hps hrow hres hkp hgr
            go_wp2_with fail
            first
              | exact ⟨⟨m + 1, by omega, by go_num, HR5, HE5, HK5, HG5⟩, by simp [intOf]; omega⟩
              | (go_region
                 all_goals
                   go_wp2_with fail
                   exact ⟨⟨m + 1, by omega, by go_num, World.rowIs.of_block HR5.out rfl, HE5.out.drew, HK5.out.drew, World.rowIs.of_block HG5.out rfl⟩, by simp [intOf]; omega⟩)
          · have hldi : ((lk : Int) == (d : Int)) = false := by rw [beq_eq_false_iff_ne]; omega
            rw [if_neg hld] at hps
            have HR5 : Hid (wr.rowIs (w.heap.size + 1) 75 4 (fun j => .int .u8 (if j = k then pickTo l G d 0 (m + 1) else if j < k then C.at j else 0 : Nat))) := (show World.rowIs _ _ _ _ _ by rw [hps]; exact hrow.out)
            clear hld hps hrow
            go_wp2_with fail
            exact ⟨⟨m + 1, by omega, by go_num, HR5, hres, hkp, hgr⟩, by simp [intOf]; omega⟩
        · have hme : m = ln := by omega
          have hmi : ¬ ((m : Int) < (ln : Int)) := by omega
          have HR6 : Hid (wr.rowIs (w.heap.size + 1) 75 4 (fun j => .int .u8 (if j < k + 1 then C.at j else 0 : Nat))) := hrow.out.congr (fun j hj => by
            rw [hme, HPK1]
            by_cases e : j = k
            · rw [if_pos e, if_pos (by omega), e]
            · rw [if_neg e]
              by_cases e2 : j < k
              · rw [if_pos e2, if_pos (by omega)]
              · rw [if_neg e2, if_neg (by omega)])
          clear hme hrow hgr
          go_wp2_with fail
          exact ⟨⟨k + 1, by omega, by go_num, HR6, hres, hkp⟩, by simp [intOf]; omega⟩
    · have hke : k = 4 := by omega
      subst hke
      have hki : ¬ ((4 : Int) < 4) := by omega
      have c0 := hrow.out.cell (i := 0) (by omega)
      have c1 := hrow.out.cell (i := 1) (by omega)
      have c2 := hrow.out.cell (i := 2) (by omega)
      have c3 := hrow.out.cell (i := 3) (by omega)
      simp only [Nat.reduceLT, if_true] at c0 c1 c2 c3
      obtain ⟨r0, r1, r2, r3⟩ := hres.out.cells
      obtain ⟨g0, g1, g2, g3⟩ := hres.out.frz
      have hrl := hres.out.lt
      have hcl := hrow.out.lt
      have d0 : C.at 0 = C.b0 := rfl
      have d1 : C.at 1 = C.b1 := rfl
      have d2 : C.at 2 = C.b2 := rfl
      have d3 : C.at 3 = C.b3 := rfl
      rw [d0] at c0
      rw [d1] at c1
      rw [d2] at c2
      rw [d3] at c3
      clear d0 d1 d2 d3 hrow
      go_wp2_with fail
      refine bodyPost_ret (v := .agg #[.int .u8 C.b0, .int .u8 C.b1, .int .u8 C.b2, .int .u8 C.b3]) (by simp [results, Tryz.results71, go_sem, r0, r1, r2, r3]) rfl ⟨rfl, ?_⟩
      exact below_set4 HBW.out (Nat.le_refl _) _ _ _ _
end Go.Proofs.YtfpoiikhhjdpdaaGreat

/- What a parity cell must have; whether a block is gone; a cell is laid. -/
namespace Go.Proofs.YtfpoiikhhjdpdaaGreat
open Go.RowKit
set_option linter.unusedVariables false
attribute [local go_sem ↓] Go.wp_at_zero Go.wp_at_succ
def psum (s : Ab) (d r : Nat) : Nat → C4
  | 0 => C4.zero
  | k + 1 => (psum s d r k).xor ((holdC s k r).scale (wgt s d k))
theorem psum_ok (s : Ab) (d r k : Nat) (hk : k ≤ 4) : (psum s d r k).ok := by
  induction k with
  | zero => exact C4.zero_ok
  | succ k ih => exact C4.xor_ok (ih (by omega)) (C4.scale_ok (wgt_lt s d k (by omega)))
set_option maxRecDepth 100000 in
set_option maxHeartbeats 2000000 in
theorem paritySum_any (hb : Nat) (s : St) (d r : Nat) (w : World) (h : HoardIn w hb s) (hd : d < 6) (hr : r < 6) :
    Calls Tryz.prog 110 #[.pointer (some ⟨hb, 0, none⟩), .int .i64 d, .int .i64 r] w fun e w' => e = .returned (psum s d r s.D).val ∧ Below w.heap.size w w' := by
  have HH : Hid (HoardIn w hb s) := h
  have hlt0 := h.row.lt
  have hD := h.ok.D4
  have HOK : Hid (s.ok) := h.ok
  clear h
  go_enter Tryz.func110, Tryz.ntmps110
  go_wp2_with fail
  go_loopw [8, 9] (fun c _ wr => ∃ (k : Nat) (S : C4), k ≤ s.D ∧ c = .int .i64 k ∧ Hid (S = psum s d r k) ∧ Hid (BoxAt wr (w.heap.size + 1) S) ∧ Hid (BoxAt wr w.heap.size C4.zero) ∧ Below w.heap.size w wr) (fun c _ _ => s.D - (intOf c).toNat)
  case atStart =>
    refine ⟨0, C4.zero, by omega, rfl, rfl, BoxAt.new0 _ _ (by simp), (BoxAt.new0 w _ rfl).alloc _, ?_⟩
    repeat (first | exact Below.refl _ _ | refine Below.drew ?_ | refine Below.alloc ?_ (by simp <;> omega) _)
  case round =>
    obtain ⟨k, S, hk, rfl, hS, hbox, hres, hbel⟩ := hrel
    have h1 := HH.out.below hbel
    obtain ⟨c0, _⟩ := h1.shape
    by_cases hlt : k < s.D
    · have hki : (k : Int) < (s.D : Int) := by omega
      have HO : Hid (∀ W, HoardIn W hb s → Calls Tryz.prog 67 #[.pointer (some ⟨hb, 0, none⟩), .int .i64 k, .int .i64 r] W fun e w' => e = .returned (holdC s k r).val ∧ Below W.heap.size W w') := fun W hW => holds_any hb s k r W hW (by omega) hr
      have HSO : Hid (S.ok) := hS.out ▸ psum_ok s d r k (by omega)
      have hwl := wgt_lt s d k (by omega)
      have hco : Hid ((holdC s k r).ok) := holdC_ok HOK.out k r
      have HS2 : Hid (S.xor ((holdC s k r).scale (wgt s d k)) = psum s d r (k + 1)) := (show _ = _ by simp only [psum]; rw [← hS.out])
      have HW : Hid (∀ W : World, HoardIn W hb s → Calls Tryz.prog 112 #[.pointer (some ⟨hb, 0, none⟩), .int .i64 d, .int .i64 k] W fun e w' => e = .returned (.int .u8 (wgt s d k : Nat)) ∧ w' = W) := fun W e => weight_any hb s d k W e (by omega)
      generalize hcc : holdC s k r = cl at *
      generalize hww : wgt s d k = wg at *
      have HSC : Hid (∀ W, Calls Tryz.prog 113 #[.int .u8 wg, .agg #[.int .u8 cl.b0, .int .u8 cl.b1, .int .u8 cl.b2, .int .u8 cl.b3]] W fun e w' => e = .returned (.agg #[.int .u8 (cl.scale wg).b0, .int .u8 (cl.scale wg).b1, .int .u8 (cl.scale wg).b2, .int .u8 (cl.scale wg).b3]) ∧ Below W.heap.size W w') := fun W => Scale_any wg cl W hwl hco.out
      have HPO : Hid ((cl.scale wg).ok) := C4.scale_ok hwl
      generalize hpp : cl.scale wg = pr at *
      have HADD : Hid (∀ W, Calls Tryz.prog 108 #[.agg #[.int .u8 S.b0, .int .u8 S.b1, .int .u8 S.b2, .int .u8 S.b3], .agg #[.int .u8 pr.b0, .int .u8 pr.b1, .int .u8 pr.b2, .int .u8 pr.b3]] W fun e w' => e = .returned (.agg #[.int .u8 (S.xor pr).b0, .int .u8 (S.xor pr).b1, .int .u8 (S.xor pr).b2, .int .u8 (S.xor pr).b3]) ∧ Below W.heap.size W w') := fun W => Add_any S pr W HSO.out HPO.out
      clear hcc hww hpp hS
      unfold C4.val at HO
      go_wp2_with fail
      refine Calls.mono (HO.out _ h1) ?_
      rintro e w1 ⟨rfl, k1⟩
      have K1 : Below w.heap.size w w1 := hbel.trans (k1.mono hbel.size)
      have X1 : Hid (BoxAt w1 (w.heap.size + 1) S) := hbox.out.below k1
      have Z1 : Hid (BoxAt w1 w.heap.size C4.zero) := hres.out.below k1
      clear h1 c0 k1 hbel hbox hres
      have K2 : Below w.heap.size w (w1.alloc (.cells #[.int .u8 cl.b0, .int .u8 cl.b1, .int .u8 cl.b2, .int .u8 cl.b3] 75)) := K1.alloc K1.size _
      have X2 : Hid (BoxAt (w1.alloc (.cells #[.int .u8 cl.b0, .int .u8 cl.b1, .int .u8 cl.b2, .int .u8 cl.b3] 75)) (w.heap.size + 1) S) := X1.out.alloc _
      have Z2 : Hid (BoxAt (w1.alloc (.cells #[.int .u8 cl.b0, .int .u8 cl.b1, .int .u8 cl.b2, .int .u8 cl.b3] 75)) w.heap.size C4.zero) := Z1.out.alloc _
      have Y2 : Hid (BoxAt (w1.alloc (.cells #[.int .u8 cl.b0, .int .u8 cl.b1, .int .u8 cl.b2, .int .u8 cl.b3] 75)) w1.heap.size cl) := BoxAt.new _ _ _ rfl
      have hb12 : w.heap.size + 1 < w1.heap.size := X1.out.lt
      clear K1 X1 Z1
      go_wp2_with fail
      generalize w1.alloc (.cells #[.int .u8 cl.b0, .int .u8 cl.b1, .int .u8 cl.b2, .int .u8 cl.b3] 75) = w2 at *
      generalize w1.heap.size = yb at *
      have h2 := HH.out.below K2
      obtain ⟨b0, b1, b2, b3⟩ := X2.out.cells
      obtain ⟨y0, y1, y2, y3⟩ := Y2.out.cells
      go_region_with (first
        | (go_at_call 112; go_must (refine (HW.out _ (h2.heap (by rfl))).mono ?_); rintro e W ⟨rfl, rfl⟩)
        | (go_at_call 113; go_must (refine (HSC.out _).mono ?_); rintro e w3 ⟨rfl, k3⟩; have K3 : Below w2.heap.size w2 w3 := below_from k3 rfl rfl rfl rfl; obtain ⟨e0, e1, e2, e3⟩ := (X2.out.below K3).cells; obtain ⟨q0, q1, q2, q3⟩ := (X2.out.below K3).frz)
        | (go_at_call 108; go_must (refine (HADD.out _).mono ?_); rintro e w4 ⟨rfl, k4⟩; have K4 : Below w2.heap.size w2 w4 := K3.trans ((below_from k4 rfl rfl rfl rfl : Below w3.heap.size w3 w4).mono K3.size); obtain ⟨m0, m1, m2, m3⟩ := (X2.out.below K4).cells; obtain ⟨n0, n1, n2, n3⟩ := (X2.out.below K4).frz))
      all_goals
        go_wp2_with fail
        refine ⟨⟨k + 1, S.xor pr, by omega, by go_num, HS2, ?_, ?_, ?_⟩, by simp [intOf]; omega⟩
        · exact (X2.out.below K4).set _
        · exact (Z2.out.below K4).other4 (by omega) _ _ _ _
        · exact below_set4 (K2.trans (K4.mono K2.size)) (by omega) _ _ _ _
    · have hke : k = s.D := by omega
      have HKE : Hid (k = s.D) := hke
      have hlti : ¬ ((k : Int) < (s.D : Int)) := by omega
      obtain ⟨r0, r1, r2, r3⟩ := hres.out.cells
      obtain ⟨g0, g1, g2, g3⟩ := hres.out.frz
      obtain ⟨b0, b1, b2, b3⟩ := hbox.out.cells
      clear hke
      go_wp2_with fail
      refine bodyPost_ret (v := S.val) (by simp [results, Tryz.results110, go_sem, r0, r1, r2, r3, C4.val]) rfl ⟨?_, ?_⟩
      · rw [hS.out, HKE.out]
      · exact below_set4 hbel (Nat.le_refl _) _ _ _ _
/-- Is block b gone? -/
def blkGone (s : Ab) (b : Nat) : Bool := !avB s (b % s.D) (b / s.D) && goneB s (b / s.D)
def anyGone (s : Ab) (a : Nat) : Nat → Bool
  | 0 => false
  | m + 1 => anyGone s a m || blkGone s (a / 4 + m)
set_option maxRecDepth 100000 in
set_option maxHeartbeats 2000000 in
theorem isAnyGone_any (hb : Nat) (s : St) (a n : Nat) (w : World) (h : HoardIn w hb s) (han : a + n ≤ s.D * s.R * 4) :
    Calls Tryz.prog 65 #[.pointer (some ⟨hb, 0, none⟩), .int .i64 a, .int .i64 n] w fun e w' => e = .returned (.bool (anyGone s a (blkEnd a n - a / 4))) ∧ Below w.heap.size w w' := by
  have HH : Hid (HoardIn w hb s) := h
  have hD := h.ok.D4
  have hD1 := h.ok.D1
  have hR := h.ok.R6
  have hal : s.D * s.R ≤ 24 := by have := all_le s h.ok; have : ((s.D * s.R : Nat) : Int) = (s.D : Int) * s.R := by simp
                                  omega
  have HEN : Hid (n ≠ 0 → blkEnd a n ≤ s.D * s.R) := fun hn => by unfold blkEnd; rw [if_neg hn]; omega
  have he24 : blkEnd a n ≤ 24 := by unfold blkEnd; split <;> omega
  have hfe : a / 4 ≤ blkEnd a n := by unfold blkEnd; split <;> omega
  have HN0 : Hid (n = 0 → blkEnd a n = a / 4) := fun hn => by unfold blkEnd; rw [if_pos hn]
  clear h
  go_enter Tryz.func65, Tryz.ntmps65
  go_wp2_with fail
  refine (blocks_any a n w (by omega) (by omega)).mono ?_
  rintro e w1 ⟨rfl, rfl⟩
  go_wp2_with fail
  go_loopw [9, 10, 11] (fun i _ _ wr => ∃ (m bk : Nat), Hid (bk = a / 4 + m) ∧ bk ≤ blkEnd a n ∧ i = .int .i64 bk ∧ Hid (anyGone s a m = false) ∧ Below w1.heap.size w1 wr) (fun i _ _ _ => blkEnd a n - (intOf i).toNat)
  case atStart => exact ⟨0, a / 4, rfl, hfe, by go_num, rfl, Below.refl _ _⟩
  case round =>
    obtain ⟨m, bk, hbk, hbe, rfl, hng, hbel⟩ := hrel
    have HB : Hid (Below w1.heap.size w1 wr) := hbel
    have h1 := HH.out.below hbel
    by_cases hlt : bk < blkEnd a n
    · have hlti : (bk : Int) < (blkEnd a n : Int) := by omega
      have hbDR : bk < s.D * s.R := by
        by_cases hn : n = 0
        · have := HN0.out hn; have := hbk.out; omega
        · have := HEN.out hn; omega
      have hc4 : bk % s.D < 4 := by have := Nat.mod_lt bk (show 0 < s.D by omega); omega
      have hr6 : bk / s.D < 6 := by have : bk / s.D < s.R := Nat.div_lt_of_lt_mul hbDR
                                    omega
      have HG : Hid (anyGone s a (m + 1) = blkGone s bk) := (show _ = _ by simp only [anyGone]; rw [hng.out, ← hbk.out, Bool.false_or])
      have HBG : Hid (blkGone s bk = (!avB s (bk % s.D) (bk / s.D) && goneB s (bk / s.D))) := rfl
      have hbk24 : bk < 24 := by omega
      have HPL : Hid (∀ W, HoardIn W hb s → Calls Tryz.prog 66 #[.pointer (some ⟨hb, 0, none⟩), .int .i64 bk] W fun e w' => e = .returned (.tuple #[.int .i64 (bk % s.D : Nat), .int .i64 (bk / s.D : Nat)]) ∧ ∃ n, w' = W.drewN n) := fun W hW => place_any hb s bk W hW (by omega)
      generalize bk % s.D = c at *
      generalize bk / s.D = r at *
      have hci : (c : Int) < 6 := by omega
      have HAV : Hid (∀ W, HoardIn W hb s → Calls Tryz.prog 76 #[.pointer (some ⟨hb, 4 + c * 32, none⟩), .int .i64 r] W fun e w' => e = .returned (.bool (avB s c r)) ∧ w' = W) := fun W hW => has_any hb s c r W hW (by omega) hr6
      have HGO : Hid (∀ W, HoardIn W hb s → Calls Tryz.prog 97 #[.pointer (some ⟨hb, 0, none⟩), .int .i64 r] W fun e w' => e = .returned (.bool (goneB s r)) ∧ Below W.heap.size W w') := fun W hW => hasGone_any hb s r W hW hr6
      have HM : Hid (bk + 1 = a / 4 + (m + 1)) := (show _ = _ by have := hbk.out; omega)
      have HEND : Hid (anyGone s a (m + 1) = true → anyGone s a (blkEnd a n - a / 4) = true) := by
        intro hh
        have : ∀ k, anyGone s a (m + 1 + k) = true := by
          intro k
          induction k with
          | zero => exact hh
          | succ k ih => rw [show m + 1 + (k + 1) = (m + 1 + k) + 1 by omega]; simp only [anyGone]; rw [ih]; rfl
        have hx := this (blkEnd a n - a / 4 - (m + 1))
        rwa [show m + 1 + (blkEnd a n - a / 4 - (m + 1)) = blkEnd a n - a / 4 by have := hbk.out; omega] at hx
      clear hc4 hbDR hng
      go_wp2_with fail
      refine (HPL.out _ h1).mono ?_
      rintro e w2 ⟨rfl, q, rfl⟩
      have h2 := h1.drewN q
      have HB2 : Hid (Below w1.heap.size w1 (wr.drewN q)) := below_drewN hbel q
      clear h1 hbel HB
      generalize wr.drewN q = w2 at *
      have hlt3 := h2.row.lt
      cases hav : avB s c r
      · rw [hav] at HAV HBG
        cases hgo : goneB s r
        · rw [hgo] at HGO HBG
          go_wp2_with fail
          refine (HAV.out _ h2).mono ?_
          rintro e w3 ⟨rfl, rfl⟩
          go_wp2_with fail
          refine (HGO.out _ h2).mono ?_
          rintro e w4 ⟨rfl, k4⟩
          go_wp2_with fail
          exact ⟨⟨m + 1, bk + 1, HM, by omega, by go_num, (show _ = _ by rw [HG.out, HBG.out]; rfl), HB2.out.trans (k4.mono HB2.out.size)⟩, by simp [intOf]; omega⟩
        · rw [hgo] at HGO HBG
          go_wp2_with fail
          refine (HAV.out _ h2).mono ?_
          rintro e w3 ⟨rfl, rfl⟩
          go_wp2_with fail
          refine (HGO.out _ h2).mono ?_
          rintro e w4 ⟨rfl, k4⟩
          go_wp2_with fail
          go_ret
          exact ⟨by rw [HEND.out (by rw [HG.out, HBG.out]; rfl)]; rfl, HB2.out.trans (k4.mono HB2.out.size)⟩
      · rw [hav] at HAV HBG
        go_wp2_with fail
        refine (HAV.out _ h2).mono ?_
        rintro e w3 ⟨rfl, rfl⟩
        go_wp2_with fail
        exact ⟨⟨m + 1, bk + 1, HM, by omega, by go_num, (show _ = _ by rw [HG.out, HBG.out]; rfl), HB2.out⟩, by simp [intOf]; omega⟩
    · have hlti : ¬ ((bk : Int) < (blkEnd a n : Int)) := by omega
      have HME : Hid (blkEnd a n - a / 4 = m) := (show _ = _ by have := hbk.out; omega)
      go_wp2_with fail
      go_ret
      exact ⟨by rw [HME.out, hng.out]; rfl, HB.out⟩
end Go.Proofs.YtfpoiikhhjdpdaaGreat

/- The document: is one of some blocks gone; what a parity cell must be. -/
namespace Go.Proofs.YtfpoiikhhjdpdaaGreat
open Go.RowKit
set_option linter.unusedVariables false
attribute [local go_sem ↓] Go.wp_at_zero Go.wp_at_succ
theorem rholds_any (yb : Nat) (a : Ab) (V : Nat → Value) (left : Int) (dn : Bool) (d r : Nat) (w : World) (h : RefIn w yb a V left dn) (hd : d < a.D) (hr : r < a.R) (hg : avB a d r = true ∨ goneB a r = false) :
    Calls Tryz.prog 71 #[.pointer (some ⟨yb, 0, none⟩), .int .i64 d, .int .i64 r] w fun e w' => e = .returned (holdC a d r).val ∧ Below w.heap.size w w' := by
  cases hav : avB a d r
  · rcases hg with h1 | h1
    · rw [hav] at h1; cases h1
    · exact rholds_no yb a V left dn d r w h hd hr hav h1
  · exact rholds_av yb a V left dn d r w h hd hr hav
/-- Is one of the m blocks from f on gone? -/
def goneR (a : Ab) (f : Nat) : Nat → Bool
  | 0 => false
  | m + 1 => goneR a f m || blkGone a (f + m)
theorem goneR_any (a : Ab) (x m : Nat) : goneR a (x / 4) m = anyGone a x m := by
  induction m with
  | zero => rfl
  | succ m ih => simp only [goneR, anyGone, ih]
theorem goneR_yes (a : Ab) (f m k : Nat) (h : goneR a f m = true) : goneR a f (m + k) = true := by
  induction k with
  | zero => exact h
  | succ k ih => rw [show m + (k + 1) = (m + k) + 1 by omega]; simp only [goneR]; rw [ih]; rfl
set_option maxRecDepth 100000 in
set_option maxHeartbeats 2000000 in
theorem ranyGone_any (yb : Nat) (a : Ab) (V : Nat → Value) (left : Int) (dn : Bool) (f n : Nat) (w : World) (h : RefIn w yb a V left dn) (hn : f + n ≤ a.D * a.R) :
    Calls Tryz.prog 70 #[.pointer (some ⟨yb, 0, none⟩), .int .i64 f, .int .i64 (f + n : Nat)] w fun e w' => e = .returned (.bool (goneR a f n)) ∧ Below w.heap.size w w' := by
  have hD := h.ok.D4
  have hD1 := h.ok.D1
  have hR := h.ok.R6
  have HH : Hid (RefIn w yb a V left dn) := h
  have hal : a.D * a.R ≤ 24 := Nat.mul_le_mul hD hR
  clear h
  obtain ⟨bn, hbn⟩ : ∃ bn, f + n = bn := ⟨_, rfl⟩
  rw [hbn]
  go_enter Tryz.func70, Tryz.ntmps70
  go_wp2_with fail
  go_loopw [7, 8] (fun c _ wr => ∃ (m b : Nat), m ≤ n ∧ Hid (b = f + m) ∧ b ≤ bn ∧ c = .int .i64 b ∧ Hid (goneR a f m = false) ∧ Below w.heap.size w wr) (fun c _ _ => bn - (intOf c).toNat)
  case atStart => exact ⟨0, f, by omega, rfl, by omega, rfl, rfl, Below.refl _ _⟩
  case round =>
    obtain ⟨m, b, hm, hbm, hb, rfl, hgn, hbel⟩ := hrel
    have h1 := HH.out.below hbel
    obtain ⟨c0, _⟩ := h1.cells
    have hlt := h1.row.lt
    by_cases hbl : b < bn
    · have hbi : (b : Int) < (bn : Int) := by omega
      have hb24 : b < 24 := by omega
      have hbDR : b < a.D * a.R := by omega
      have hc4 : b % a.D < a.D := Nat.mod_lt _ (by omega)
      have hr6 : b / a.D < a.R := Nat.div_lt_of_lt_mul hbDR
      have hmodi : (b : Int) % (a.D : Int) = ((b % a.D : Nat) : Int) := by simp
      have hdivi : (b : Int) / (a.D : Int) = ((b / a.D : Nat) : Int) := by simp
      have hmodt : (b : Int).tmod (a.D : Int) = ((b % a.D : Nat) : Int) := by rw [Int.tmod_eq_emod_of_nonneg (by omega)]; simp
      have hdivt : (b : Int).tdiv (a.D : Int) = ((b / a.D : Nat) : Int) := by rw [Int.tdiv_eq_ediv_of_nonneg (by omega)]; simp
      have hD0 : (0 : Int) < (a.D : Int) := by omega
      have HG : Hid (∀ (W : World) (z1 z2 : Int), z1 = ((b % a.D : Nat) : Int) → z2 = ((b / a.D : Nat) : Int) → RefIn W yb a V left dn → Calls Tryz.prog 103 #[.pointer (some ⟨yb, 0, none⟩), .int .i64 z1, .int .i64 z2] W fun e w' => e = .returned (.bool (blkGone a b)) ∧ Below W.heap.size W w') := fun W z1 z2 e1 e2 hW => by
        subst e1 e2
        exact rgone_any yb a V left dn (b % a.D) (b / a.D) W hW (by omega) hr6
      have HGS : Hid (goneR a f (m + 1) = blkGone a b) := (show _ = _ by simp only [goneR]; rw [hgn.out, ← hbm.out, Bool.false_or])
      have H1 : Hid (RefIn wr yb a V left dn) := h1
      have HBM : Hid (b + 1 = f + (m + 1)) := (show _ = _ by have := hbm.out; omega)
      have hmn : m + 1 ≤ n := by have := hbm.out; omega
      have hdl : b / a.D < 24 := by omega
      generalize b % a.D = cc at *
      generalize b / a.D = rr at *
      have hwd : IntKind.i64.wrap (rr : Int) = (rr : Int) := wrap_i64_small _ (by omega) (by omega)
      have HGE : Hid (blkGone a b = true → goneR a f n = true) := fun hx => by
        have := goneR_yes a f (m + 1) (n - (m + 1)) (HGS.out.trans hx)
        rwa [show m + 1 + (n - (m + 1)) = n by omega] at this
      clear h1 hbn
      generalize blkGone a b = bg at *
      go_wp2_with fail
      go_region_with ((go_at_call 103; go_must (refine (HG.out _ _ _ (by first | rfl | exact hmodi | exact hmodt) (by first | rfl | exact hdivi | exact hdivt | (rw [hdivt]; exact hwd) | (rw [hdivi]; exact hwd) | exact hwd) (H1.out.heap (by rfl))).mono ?_); rintro e w3 ⟨rfl, k3⟩; have K3 : Below wr.heap.size wr w3 := below_from k3 rfl rfl rfl rfl))
      all_goals
        have HB3 : Hid (Below w.heap.size w w3) := hbel.trans (K3.mono hbel.size)
        clear K3 k3
        cases bg
        · have HG2 : Hid (goneR a f (m + 1) = false) := HGS
          go_wp2_with fail
          exact ⟨⟨m + 1, b + 1, hmn, HBM, by omega, by go_num, HG2, by first | exact HB3.out | exact HB3.out.drew⟩, by simp [intOf]; omega⟩
        · have HG2 : Hid (goneR a f n = true) := HGE.out rfl
          go_wp2_with fail
          go_ret
          exact ⟨by rw [HG2.out]; rfl, by first | exact HB3.out | exact HB3.out.drew⟩
    · have hbi : ¬ ((b : Int) < (bn : Int)) := by omega
      have HME : Hid (goneR a f n = false) := (show _ = _ by rw [show n = m by have := hbm.out; omega]; exact hgn.out)
      clear h1 c0
      go_wp2_with fail
      go_ret
      exact ⟨by rw [HME.out]; rfl, hbel⟩
end Go.Proofs.YtfpoiikhhjdpdaaGreat

/- The document: the bytes by which a parity drive's equation holds. -/
namespace Go.Proofs.YtfpoiikhhjdpdaaGreat
open Go.RowKit
set_option linter.unusedVariables false
attribute [local go_sem ↓] Go.wp_at_zero Go.wp_at_succ
set_option maxRecDepth 100000 in
set_option maxHeartbeats 2000000 in
theorem rparity_any (yb : Nat) (a : Ab) (V : Nat → Value) (left : Int) (dn : Bool) (p r : Nat) (w : World) (h : RefIn w yb a V left dn) (hr : r < a.R) (hg : goneB a r = false) :
    Calls Tryz.prog 88 #[.pointer (some ⟨yb, 0, none⟩), .int .i64 p, .int .i64 r] w fun e w' => e = .returned (psum a (a.D + p) r a.D).val ∧ Below w.heap.size w w' := by
  have hD := h.ok.D4
  have HH : Hid (RefIn w yb a V left dn) := h
  have HHO : Hid (∀ (d : Nat) (W : World), d < a.D → Below w.heap.size w W → Calls Tryz.prog 71 #[.pointer (some ⟨yb, 0, none⟩), .int .i64 d, .int .i64 r] W fun e w' => e = .returned (.agg #[.int .u8 (holdC a d r).b0, .int .u8 (holdC a d r).b1, .int .u8 (holdC a d r).b2, .int .u8 (holdC a d r).b3]) ∧ Below W.heap.size W w') := fun d W hd hW => rholds_any yb a V left dn d r W (h.below hW) hd hr (.inr hg)
  have HOK : Hid (∀ d, (holdC a d r).ok) := fun d => holdC_ok h.ok d r
  have HPO : Hid (∀ k, k ≤ 4 → (psum a (a.D + p) r k).ok) := fun k hk => psum_ok a _ r k hk
  have HPS : Hid (∀ k, psum a (a.D + p) r (k + 1) = (psum a (a.D + p) r k).xor ((holdC a k r).scale (rW p k))) := fun k => (show _ = _ by rw [rW_wgt a p k]; rfl)
  have HP0 : Hid (psum a (a.D + p) r 0 = C4.zero) := rfl
  have HR0 : Hid (BoxAt ((w.alloc (.cells #[.int .u8 0, .int .u8 0, .int .u8 0, .int .u8 0] 75)).alloc (.cells #[.int .u8 0, .int .u8 0, .int .u8 0, .int .u8 0] 75)) w.heap.size C4.zero) := (BoxAt.new0 w _ rfl).alloc _
  have HC0 : Hid (BoxAt ((w.alloc (.cells #[.int .u8 0, .int .u8 0, .int .u8 0, .int .u8 0] 75)).alloc (.cells #[.int .u8 0, .int .u8 0, .int .u8 0, .int .u8 0] 75)) (w.heap.size + 1) (psum a (a.D + p) r 0)) := BoxAt.new0 _ _ (by simp)
  have HB0 : Hid (Below w.heap.size w ((w.alloc (.cells #[.int .u8 0, .int .u8 0, .int .u8 0, .int .u8 0] 75)).alloc (.cells #[.int .u8 0, .int .u8 0, .int .u8 0, .int .u8 0] 75))) := ((Below.refl _ _).alloc (Nat.le_refl _) _).alloc (by simp) _
  clear h hg
  go_enter Tryz.func88, Tryz.ntmps88
  go_wp2_with fail
  generalize (w.alloc (.cells #[.int .u8 0, .int .u8 0, .int .u8 0, .int .u8 0] 75)).alloc (.cells #[.int .u8 0, .int .u8 0, .int .u8 0, .int .u8 0] 75) = wb at *
  go_loopw [8, 9, 10] (fun c _ _ wr => ∃ k : Nat, k ≤ a.D ∧ c = .int .i64 k ∧ Hid (BoxAt wr (w.heap.size + 1) (psum a (a.D + p) r k)) ∧ Hid (BoxAt wr w.heap.size C4.zero) ∧ Below w.heap.size w wr) (fun c _ _ _ => a.D - (intOf c).toNat)
  case atStart => exact ⟨0, by omega, rfl, HC0, HR0, HB0.out⟩
  case round =>
    clear HC0 HR0 HB0
    obtain ⟨k, hk, rfl, hC, hR, hbel⟩ := hrel
    obtain ⟨c0, _⟩ := (HH.out.below hbel).cells
    have hlt := (HH.out.below hbel).row.lt
    by_cases hkD : k < a.D
    · have hki : (k : Int) < (a.D : Int) := by omega
      have hk4 : k < 4 := by omega
      have HH1 : Hid (Calls Tryz.prog 71 #[.pointer (some ⟨yb, 0, none⟩), .int .i64 k, .int .i64 r] wr fun e w' => e = .returned (.agg #[.int .u8 (holdC a k r).b0, .int .u8 (holdC a k r).b1, .int .u8 (holdC a k r).b2, .int .u8 (holdC a k r).b3]) ∧ Below wr.heap.size wr w') := HHO.out k wr hkD hbel
      have HPK := HPS.out k
      have HXO : Hid ((holdC a k r).ok) := HOK.out k
      have HCO : Hid ((psum a (a.D + p) r k).ok) := HPO.out k (by omega)
      generalize holdC a k r = X at *
      generalize hps : psum a (a.D + p) r k = S at *
      have hwl := rW_lt p k hk4
      have HT : Hid (∀ W, Calls Tryz.prog 109 #[.int .i64 p, .int .i64 k] W fun e w' => e = .returned (.int .u8 (rW p k : Nat)) ∧ w' = W) := fun W => rtimes_any p k W hk4
      generalize rW p k = wg at *
      clear hps
      go_wp2_with fail
      clear c0 hlt
      refine HH1.out.mono ?_
      rintro e w3 ⟨rfl, k3⟩
      have HC3 : Hid (BoxAt (w3.alloc (.cells #[.int .u8 X.b0, .int .u8 X.b1, .int .u8 X.b2, .int .u8 X.b3] 75)) (w.heap.size + 1) S) := (hC.out.below k3).alloc _
      have HR3 : Hid (BoxAt (w3.alloc (.cells #[.int .u8 X.b0, .int .u8 X.b1, .int .u8 X.b2, .int .u8 X.b3] 75)) w.heap.size C4.zero) := (hR.out.below k3).alloc _
      have HX3 : Hid (BoxAt (w3.alloc (.cells #[.int .u8 X.b0, .int .u8 X.b1, .int .u8 X.b2, .int .u8 X.b3] 75)) w3.heap.size X) := BoxAt.new _ _ _ rfl
      have HB3 : Hid (Below w.heap.size w (w3.alloc (.cells #[.int .u8 X.b0, .int .u8 X.b1, .int .u8 X.b2, .int .u8 X.b3] 75))) := (hbel.trans (k3.mono hbel.size)).alloc (by have := hbel.size; have := k3.size; omega) _
      have HNX : Hid (w3.heap.size ≠ w.heap.size + 1 ∧ w3.heap.size ≠ w.heap.size) := (show _ ∧ _ from ⟨by have := (hC.out.below k3).lt; omega, by have := (hR.out.below k3).lt; omega⟩)
      clear k3 hC hR hbel HH1
      go_wp2_with fail
      generalize w3.alloc (.cells #[.int .u8 X.b0, .int .u8 X.b1, .int .u8 X.b2, .int .u8 X.b3] 75) = w4 at *
      generalize w3.heap.size = xb at *
      have HC4 : Hid (w4.rowIs (w.heap.size + 1) 75 4 (fun j => .int .u8 (if j < 0 then S.at j ^^^ Hd.mul (X.at j) wg else S.at j : Nat))) := World.rowIs.congr HC3.out (fun j _ => by rw [if_neg (by omega)])
      clear HC3
      go_loopw [10] (fun c wi => ∃ m : Nat, m ≤ 4 ∧ c = .int .i64 m ∧ Hid (wi.rowIs (w.heap.size + 1) 75 4 (fun j => .int .u8 (if j < m then S.at j ^^^ Hd.mul (X.at j) wg else S.at j : Nat))) ∧ Hid (BoxAt wi w.heap.size C4.zero) ∧ Hid (BoxAt wi xb X) ∧ Hid (Below w.heap.size w wi)) (fun c _ => 4 - (intOf c).toNat)
      case atStart => exact ⟨0, by omega, rfl, HC4, HR3, HX3, HB3⟩
      case round =>
        clear HC4 HR3 HX3 HB3
        obtain ⟨m, hm, rfl, hrow, hres, hx, hbel⟩ := hrel
        by_cases hm4 : m < 4
        · have hmi : (m : Int) < 4 := by omega
          have y0 := hrow.out.cell (i := m) (by omega)
          rw [if_neg (by omega)] at y0
          have f0 := hrow.out.frozen m
          have z0 := World.rowIs.cell hx.out (i := m) (by omega)
          have hyl := hrow.out.lt
          have hzl := hx.out.lt
          have hsl := C4.at_lt HCO.out m
          have hxl := C4.at_lt HXO.out m
          have HMU : Hid (∀ W, Calls Tryz.prog 20 #[.int .u8 (X.at m : Nat), .int .u8 wg] W fun e w' => e = .returned (.int .u8 (Hd.mul (X.at m) wg : Nat)) ∧ w' = W) := fun W => rmul_any (X.at m) wg W hxl hwl
          have hmu := Hd.mul_lt (X.at m) wg hxl
          have hxx := u8_xor_nat (S.at m) (Hd.mul (X.at m) wg) hsl hmu
          have HR5 : Hid ((wr.setCell ⟨w.heap.size + 1, m, none⟩ (.int .u8 (S.at m ^^^ Hd.mul (X.at m) wg : Nat))).rowIs (w.heap.size + 1) 75 4 (fun j => .int .u8 (if j < m + 1 then S.at j ^^^ Hd.mul (X.at j) wg else S.at j : Nat))) := (hrow.out.set m _).congr (fun j hj => by
            by_cases e : j = m
            · rw [if_pos e, if_pos (by omega), e]
            · rw [if_neg e]
              by_cases e2 : j < m
              · rw [if_pos e2, if_pos (by omega)]
              · rw [if_neg e2, if_neg (by omega)])
          have HE5 : Hid (BoxAt (wr.setCell ⟨w.heap.size + 1, m, none⟩ (.int .u8 (S.at m ^^^ Hd.mul (X.at m) wg : Nat))) w.heap.size C4.zero) := hres.out.setOther (by simp) _
          have HX5 : Hid (BoxAt (wr.setCell ⟨w.heap.size + 1, m, none⟩ (.int .u8 (S.at m ^^^ Hd.mul (X.at m) wg : Nat))) xb X) := hx.out.setOther (by have := HNX.out.1; simp; omega) _
          have HB5 : Hid (Below w.heap.size w (wr.setCell ⟨w.heap.size + 1, m, none⟩ (.int .u8 (S.at m ^^^ Hd.mul (X.at m) wg : Nat)))) := hbel.out.setCell (by simp) _
          generalize Hd.mul (X.at m) wg = mu at *
          generalize X.at m = xm at *
          generalize S.at m = sm at *
          clear hrow hres hx hbel
          go_wp2_with fail
          go_region_with (first
            | (go_at_call 109; go_must (refine (HT.out _).mono ?_); rintro e W ⟨rfl, rfl⟩)
            | (go_at_call 20; go_must (refine (HMU.out _).mono ?_); rintro e W ⟨rfl, rfl⟩))
          all_goals
            go_wp2_with fail
            exact ⟨⟨m + 1, by omega, by go_num, by first | exact HR5 | exact World.rowIs.of_block HR5.out rfl, by first | exact HE5 | exact HE5.out.drew, by first | exact HX5 | exact HX5.out.drew, by first | exact HB5 | exact HB5.out.drew⟩, by simp [intOf]; omega⟩
        · have hme : m = 4 := by omega
          have hmi : ¬ ((m : Int) < 4) := by omega
          have HR6 : Hid (BoxAt wr (w.heap.size + 1) (psum a (a.D + p) r (k + 1))) := (show BoxAt _ _ _ from hrow.out.congr (fun j hj => by
            rw [if_pos (by omega), HPK, C4.at_xor, C4.at_scale, Hd.mul_comm wg _ hwl (C4.at_lt HXO.out j)]))
          clear hme hrow
          go_wp2_with fail
          exact ⟨⟨k + 1, by omega, by go_num, HR6, hres, hbel.out⟩, by simp [intOf]; omega⟩
    · have hke : k = a.D := by omega
      have hki : ¬ ((k : Int) < (a.D : Int)) := by omega
      obtain ⟨r0, r1, r2, r3⟩ := hR.out.cells
      obtain ⟨g0, g1, g2, g3⟩ := hR.out.frz
      have hrl := hR.out.lt
      have HCE : Hid (BoxAt wr (w.heap.size + 1) (psum a (a.D + p) r a.D)) := (show BoxAt _ _ _ by have h2 := hC.out; rw [hke] at h2; exact h2)
      clear hke hC
      generalize hps : psum a (a.D + p) r a.D = S at *
      have HSE : Hid (psum a (a.D + p) r a.D = S) := hps
      clear hps
      obtain ⟨s0, s1, s2, s3⟩ := HCE.out.cells
      have hsl := HCE.out.lt
      go_wp2_with fail
      refine bodyPost_ret (v := S.val) (by simp [results, Tryz.results88, go_sem, r0, r1, r2, r3, C4.val]) rfl ⟨by rw [HSE.out], ?_⟩
      exact below_set4 hbel (Nat.le_refl _) _ _ _ _
end Go.Proofs.YtfpoiikhhjdpdaaGreat

/- What the calls do to a hoard, in plain mathematics; what stays true: each available cell is what the bytes want. -/
namespace Go.Proofs.YtfpoiikhhjdpdaaGreat
open Go.RowKit
set_option linter.unusedVariables false
def Ab.setCell (a : Ab) (d r : Nat) (c : C4) : Ab := { a with cell := fun d' r' => if d' = d ∧ r' = r then c else a.cell d' r' }
def Ab.setUb (a : Ab) (d r : Nat) (b : Bool) : Ab := { a with ub := fun d' r' => if d' = d ∧ r' = r then b else a.ub d' r' }
def Ab.layC (a : Ab) (d r : Nat) (c : C4) : Ab := (a.setCell d r c).setUb d r false
def Ab.setLog (a : Ab) (d : Nat) (l : List Rec) : Ab := { a with recs := fun d' => if d' = d then l else a.recs d' }
def Ab.addSteps (a : Ab) (n : Nat) : Ab := { a with steps := a.steps + n }
def Ab.newDrive (s : Ab) (d : Nat) (lo : Bool) (n : Nat) : Ab :=
  { s with lost := fun d' => if d' = d then lo else s.lost d', ub := fun d' r => if d' = d then decide (r < n) else s.ub d' r, cell := fun d' r => if d' = d then C4.zero else s.cell d' r, recs := fun d' => if d' = d then [] else s.recs d' }
def abApply (a : Ab) (d : Nat) (l : List Rec) : Ab := l.foldl (fun a r => a.setCell d r.row ((a.cell d r.row).xor r.c)) a
def abMerge (a : Ab) (d n : Nat) : Ab := (abApply a d ((a.recs d).take n)).setLog d ((a.recs d).drop n)
def abNote (a : Ab) (d : Nat) (r : Rec) : Ab := if (a.recs d).length < a.M then a.setLog d (a.recs d ++ [r]) else (abApply a d ((a.recs d).take 1)).setLog d ((a.recs d).drop 1 ++ [r])
/-- Two hoards of one shape. -/
structure SameAb (a b : Ab) : Prop where
  D : b.D = a.D
  P : b.P = a.P
  R : b.R = a.R
  M : b.M = a.M
  brk : b.brk = a.brk
theorem SameAb.refl (a : Ab) : SameAb a a := ⟨rfl, rfl, rfl, rfl, rfl⟩
theorem SameAb.trans {a b c : Ab} (h : SameAb a b) (k : SameAb b c) : SameAb a c := ⟨k.D.trans h.D, k.P.trans h.P, k.R.trans h.R, k.M.trans h.M, k.brk.trans h.brk⟩
theorem apply_props (a : Ab) (d : Nat) (l : List Rec) : SameAb a (abApply a d l) ∧ (abApply a d l).lost = a.lost ∧ (abApply a d l).ub = a.ub ∧ (abApply a d l).recs = a.recs ∧ (abApply a d l).steps = a.steps := by
  induction l generalizing a with
  | nil => exact ⟨SameAb.refl a, rfl, rfl, rfl, rfl⟩
  | cons x l ih =>
    have := ih (a.setCell d x.row ((a.cell d x.row).xor x.c))
    exact ⟨⟨this.1.D, this.1.P, this.1.R, this.1.M, this.1.brk⟩, this.2⟩
theorem apply_cell (a : Ab) (d : Nat) (l : List Rec) (d' r : Nat) : (abApply a d l).cell d' r = if d' = d then recSum r l (a.cell d r) else a.cell d' r := by
  induction l generalizing a with
  | nil => show a.cell d' r = _; split
           · rename_i h; rw [h]; rfl
           · rfl
  | cons x l ih =>
    show (abApply (a.setCell d x.row ((a.cell d x.row).xor x.c)) d l).cell d' r = _
    rw [ih]
    by_cases e : d' = d
    · rw [if_pos e, if_pos e]
      show recSum r l (if d = d ∧ r = x.row then _ else _) = recSum r l (if x.row = r then _ else _)
      by_cases e2 : x.row = r
      · rw [if_pos e2, if_pos ⟨rfl, e2.symm⟩, e2]
      · rw [if_neg e2, if_neg (fun h => e2 h.2.symm)]
    · rw [if_neg e, if_neg e]
      show (if d' = d ∧ r = x.row then _ else _) = _
      rw [if_neg (fun h => e h.1)]
theorem recSum_append (r : Nat) (l m : List Rec) (c : C4) : recSum r (l ++ m) c = recSum r m (recSum r l c) := by
  unfold recSum; rw [List.foldl_append]
theorem recSum_one (r : Nat) (x : Rec) (c : C4) : recSum r [x] c = if x.row = r then c.xor x.c else c := rfl
theorem recSum_none (r : Nat) (l : List Rec) (c : C4) (h : ∀ x ∈ l, x.row ≠ r) : recSum r l c = c := by
  induction l generalizing c with
  | nil => rfl
  | cons x l ih =>
    show recSum r l (if x.row = r then c.xor x.c else c) = c
    rw [if_neg (h x (List.mem_cons_self ..))]
    exact ih c (fun y hy => h y (List.mem_cons_of_mem _ hy))
theorem merge_val (a : Ab) (d n d' r : Nat) : valC (abMerge a d n) d' r = valC a d' r := by
  unfold valC abMerge
  show recSum r (if d' = d then (a.recs d).drop n else (abApply a d _).recs d') ((abApply a d _).cell d' r) = _
  rw [apply_cell, (apply_props a d _).2.2.2.1]
  by_cases e : d' = d
  · subst e
    rw [if_pos rfl, if_pos rfl, ← recSum_append, List.take_append_drop]
  · rw [if_neg e, if_neg e]
theorem note_val (a : Ab) (d : Nat) (x : Rec) (d' r : Nat) : valC (abNote a d x) d' r = if d' = d ∧ x.row = r then (valC a d' r).xor x.c else valC a d' r := by
  by_cases e : d' = d
  · subst e
    have key : valC (abNote a d' x) d' r = recSum r [x] (valC a d' r) := by
      unfold abNote
      split
      · unfold valC
        show recSum r (if d' = d' then a.recs d' ++ [x] else _) (a.cell d' r) = _
        rw [if_pos rfl, recSum_append]
      · unfold valC
        show recSum r (if d' = d' then (a.recs d').drop 1 ++ [x] else _) ((abApply a d' _).cell d' r) = _
        rw [if_pos rfl, recSum_append, apply_cell, if_pos rfl, ← recSum_append r _ ((a.recs d').drop 1), List.take_append_drop]
    rw [key, recSum_one]
    by_cases e2 : x.row = r
    · rw [if_pos e2, if_pos ⟨rfl, e2⟩]
    · rw [if_neg e2, if_neg (fun h => e2 h.2)]
  · rw [if_neg (fun h => e h.1)]
    unfold abNote
    split
    · unfold valC
      show recSum r (if d' = d then _ else a.recs d') (a.cell d' r) = _
      rw [if_neg e]
    · unfold valC
      show recSum r (if d' = d then _ else (abApply a d _).recs d') ((abApply a d _).cell d' r) = _
      rw [if_neg e, apply_cell, if_neg e, (apply_props a d _).2.2.2.1]
theorem note_props (a : Ab) (d : Nat) (x : Rec) : SameAb a (abNote a d x) ∧ (abNote a d x).lost = a.lost ∧ (abNote a d x).ub = a.ub ∧ (abNote a d x).steps = a.steps ∧ (∀ d' r, d' ≠ d → (abNote a d x).cell d' r = a.cell d' r) ∧ (∀ d', d' ≠ d → (abNote a d x).recs d' = a.recs d') ∧ ((abNote a d x).recs d = (if (a.recs d).length < a.M then a.recs d else (a.recs d).drop 1) ++ [x]) := by
  unfold abNote
  split
  · refine ⟨⟨rfl, rfl, rfl, rfl, rfl⟩, rfl, rfl, rfl, fun _ _ _ => rfl, fun d' h => ?_, ?_⟩
    · simp only [Ab.setLog]; rw [if_neg h]
    · simp only [Ab.setLog, if_true]
  · have hp := apply_props a d ((a.recs d).take 1)
    refine ⟨⟨hp.1.D, hp.1.P, hp.1.R, hp.1.M, hp.1.brk⟩, hp.2.1, hp.2.2.1, hp.2.2.2.2, fun d' r h => ?_, fun d' h => ?_, ?_⟩
    · show (abApply a d _).cell d' r = _
      rw [apply_cell, if_neg h]
    · simp only [Ab.setLog]; rw [if_neg h, hp.2.2.2.1]
    · simp only [Ab.setLog, if_true]
theorem recs_cell_ok {a : Ab} (h : a.ok) (d : Nat) (l : List Rec) (hl : ∀ x ∈ l, x.c.ok) (d' r : Nat) : ((abApply a d l).cell d' r).ok := by
  rw [apply_cell]
  split
  · exact recSum_ok (h.cells d r) hl
  · exact h.cells d' r
theorem merge_ok {a : Ab} (h : a.ok) (d n : Nat) : (abMerge a d n).ok := by
  have hp := apply_props a d ((a.recs d).take n)
  have e : ∀ d', (abMerge a d n).recs d' = if d' = d then (a.recs d).drop n else a.recs d' := fun d' => by
    unfold abMerge; simp only [Ab.setLog]; rw [hp.2.2.2.1]
  refine ⟨hp.1.D ▸ h.D1, hp.1.D ▸ h.D4, hp.1.P ▸ h.P1, hp.1.P ▸ h.P2, hp.1.R ▸ h.R1, hp.1.R ▸ h.R6, hp.1.M ▸ h.M1, hp.1.M ▸ h.M8, fun d' r => ?_, fun d' => ?_, fun d' x hx => ?_, fun d' hd' => ?_⟩
  · exact recs_cell_ok h d _ (fun x hx => (h.recs d x (List.mem_of_mem_take hx)).2) d' r
  · rw [e, show (abMerge a d n).M = a.M from hp.1.M]
    split
    · rename_i hd; have := h.len d; rw [List.length_drop]; omega
    · exact h.len d'
  · rw [e] at hx
    rw [show (abMerge a d n).R = a.R from hp.1.R]
    split at hx
    · exact h.recs d x (List.mem_of_mem_drop hx)
    · exact h.recs d' x hx
  · rw [e]
    have hd2 : d' < a.D := by rw [← hp.1.D]; exact hd'
    split
    · rename_i hd; rw [← hd, h.data d' hd2, List.drop_nil]
    · exact h.data d' hd2
theorem note_ok {a : Ab} (h : a.ok) (d : Nat) (x : Rec) (hd : a.D ≤ d) (hx : x.row < a.R) (hc : x.c.ok) : (abNote a d x).ok := by
  have hp := note_props a d x
  have hM1 := h.M1
  refine ⟨hp.1.D ▸ h.D1, hp.1.D ▸ h.D4, hp.1.P ▸ h.P1, hp.1.P ▸ h.P2, hp.1.R ▸ h.R1, hp.1.R ▸ h.R6, hp.1.M ▸ h.M1, hp.1.M ▸ h.M8, fun d' r => ?_, fun d' => ?_, fun d' y hy => ?_, fun d' hd' => ?_⟩
  · unfold abNote
    split
    · exact h.cells d' r
    · exact recs_cell_ok h d _ (fun x hx => (h.recs d x (List.mem_of_mem_take hx)).2) d' r
  · rw [hp.1.M]
    by_cases e : d' = d
    · subst e
      rw [hp.2.2.2.2.2.2, List.length_append]
      have := h.len d'
      split
      · simp; omega
      · rw [List.length_drop]; simp; omega
    · rw [hp.2.2.2.2.2.1 d' e]; exact h.len d'
  · rw [hp.1.R]
    by_cases e : d' = d
    · subst e
      rw [hp.2.2.2.2.2.2] at hy
      rcases List.mem_append.1 hy with hy | hy
      · split at hy
        · exact h.recs d' y hy
        · exact h.recs d' y (List.mem_of_mem_drop hy)
      · have : y = x := by simpa using hy
        subst this; exact ⟨hx, hc⟩
    · rw [hp.2.2.2.2.2.1 d' e] at hy; exact h.recs d' y hy
  · have hd2 : d' < a.D := by rw [← hp.1.D]; exact hd'
    rw [hp.2.2.2.2.2.1 d' (by omega)]; exact h.data d' hd2
/- Availability. -/
theorem avB_congr {a b : Ab} (h1 : b.lost = a.lost) (h2 : b.ub = a.ub) (d r : Nat) : avB b d r = avB a d r := by unfold avB; rw [h1, h2]
theorem missL_mono {a b : Ab} {r : Nat} (h : ∀ d, avB a d r = true → avB b d r = true) (k : Nat) : (missL b r k).length ≤ (missL a r k).length := by
  induction k with
  | zero => exact Nat.le_refl _
  | succ k ih =>
    simp only [missL]
    cases ha : avB a k r
    · cases hb : avB b k r
      · simp; exact ih
      · simp; omega
    · rw [h k ha]; simp; exact ih
theorem parL_mono {a b : Ab} {r : Nat} (hD : b.D = a.D) (h : ∀ d, avB a d r = true → avB b d r = true) (k : Nat) : (parL a r k).length ≤ (parL b r k).length := by
  induction k with
  | zero => exact Nat.le_refl _
  | succ k ih =>
    simp only [parL, hD]
    cases ha : avB a (a.D + k) r
    · cases hb : avB b (a.D + k) r
      · simp; exact ih
      · simp; omega
    · rw [h _ ha]; simp; exact ih
theorem goneB_mono {a b : Ab} {r : Nat} (hD : b.D = a.D) (hP : b.P = a.P) (h : ∀ d, avB a d r = true → avB b d r = true) (hg : goneB a r = false) : goneB b r = false := by
  simp only [goneB, decide_eq_false_iff_not] at hg ⊢
  have h1 := missL_mono h a.D
  have h2 := parL_mono hD h a.P
  rw [hD, hP]; omega
/-- What is true of a hoard whose bytes are f. -/
structure AInv (a : Ab) (f : Nat → Nat) : Prop where
  ok : a.ok
  bound : ∀ i, f i < 256
  data : ∀ r, r < a.R → RowData a f r
  par : ∀ r, r < a.R → RowPar a f r
  recs : ∀ d, ∀ x ∈ a.recs d, avB a d x.row = true
theorem wsum_congr {a b : Ab} {f g : Nat → Nat} {r d : Nat} (hD : b.D = a.D) (k : Nat) (h : ∀ c, c < k → blkC a.D g c r = blkC a.D f c r) : wsum b g d r k = wsum a f d r k := by
  induction k with
  | zero => rfl
  | succ k ih =>
    simp only [wsum]
    rw [ih (fun c hc => h c (by omega)), hD, h k (by omega), show wgt b d k = wgt a d k by unfold wgt; rw [hD]]
/-- The same hoard, other words for the same bytes. -/
theorem AInv.congr {a : Ab} {f g : Nat → Nat} (h : AInv a f) (hg : ∀ i, g i < 256) (he : ∀ c r, c < a.D → r < a.R → blkC a.D g c r = blkC a.D f c r) : AInv a g := by
  refine ⟨h.ok, hg, fun r hr d hd hav => ?_, fun r hr d h1 h2 hav => ?_, h.recs⟩
  · rw [h.data r hr d hd hav, he d r hd hr]
  · rw [h.par r hr d h1 h2 hav]; exact (wsum_congr rfl a.D (fun c hc => he c r hc hr)).symm
theorem AInv.holds {a : Ab} {f : Nat → Nat} (h : AInv a f) (r : Nat) (hr : r < a.R) (hg : goneB a r = false) (c : Nat) (hc : c < a.D) : holdC a c r = blkC a.D f c r := holdC_eq h.ok h.bound (h.data r hr) (h.par r hr) hg c hc
/-- Records are merged. -/
theorem AInv.merge {a : Ab} {f : Nat → Nat} (h : AInv a f) (d n : Nat) (hd : a.D ≤ d) : AInv (abMerge a d n) f := by
  have hp := apply_props a d ((a.recs d).take n)
  have hav : ∀ d' r, avB (abMerge a d n) d' r = avB a d' r := fun d' r => avB_congr hp.2.1 hp.2.2.1 d' r
  have hD : (abMerge a d n).D = a.D := hp.1.D
  have hP : (abMerge a d n).P = a.P := hp.1.P
  have hR : (abMerge a d n).R = a.R := hp.1.R
  refine ⟨merge_ok h.ok d n, h.bound, fun r hr d' hd' ha => ?_, fun r hr d' h1 h2 ha => ?_, fun d' x hx => ?_⟩
  · rw [hD] at hd' ⊢; rw [hR] at hr; rw [hav] at ha
    show (abApply a d _).cell d' r = _
    rw [apply_cell, if_neg (by omega)]; exact h.data r hr d' hd' ha
  · rw [hD] at h1 h2; rw [hP] at h2; rw [hR] at hr; rw [hav] at ha
    rw [merge_val, h.par r hr d' h1 h2 ha]
    rw [show (abMerge a d n).D = a.D from hD]; exact (wsum_congr hD a.D (fun _ _ => rfl)).symm
  · rw [hav]
    unfold abMerge at hx
    simp only [Ab.setLog] at hx
    split at hx
    · rename_i e; rw [e]; exact h.recs d x (List.mem_of_mem_drop hx)
    · rw [hp.2.2.2.1] at hx; exact h.recs d' x hx
theorem newDrive_ok {a : Ab} (h : a.ok) (d : Nat) (lo : Bool) (n : Nat) : (a.newDrive d lo n).ok := by
  refine ⟨h.D1, h.D4, h.P1, h.P2, h.R1, h.R6, h.M1, h.M8, fun d' r => ?_, fun d' => ?_, fun d' => ?_, fun d' hd' => ?_⟩
  · simp only [Ab.newDrive]; split
    · exact C4.zero_ok
    · exact h.cells d' r
  · simp only [Ab.newDrive]; split
    · simp
    · exact h.len d'
  · simp only [Ab.newDrive]; split
    · simp
    · exact h.recs d'
  · simp only [Ab.newDrive] at hd' ⊢; split
    · rfl
    · exact h.data d' hd'
theorem newDrive_av (a : Ab) (d : Nat) (lo : Bool) (n d' r : Nat) : avB (a.newDrive d lo n) d' r = if d' = d then (!lo && !decide (r < n)) else avB a d' r := by
  unfold avB Ab.newDrive
  by_cases e : d' = d
  · simp only [e, if_true]
  · simp only [e, if_false]
/-- A drive comes new: none of its cells is available. -/
theorem AInv.newDrive {a : Ab} {f : Nat → Nat} (h : AInv a f) (d : Nat) (lo : Bool) (n : Nat) (hn : lo = true ∨ n = a.R) : AInv (a.newDrive d lo n) f := by
  have hno : ∀ r, r < a.R → avB (a.newDrive d lo n) d r = false := fun r hr => by
    rw [newDrive_av, if_pos rfl]
    rcases hn with rfl | rfl
    · rfl
    · rw [decide_eq_true hr]; simp
  have hav : ∀ d' r, d' ≠ d → avB (a.newDrive d lo n) d' r = avB a d' r := fun d' r e => by rw [newDrive_av, if_neg e]
  refine ⟨newDrive_ok h.ok d lo n, h.bound, fun r hr d' hd' ha => ?_, fun r hr d' h1 h2 ha => ?_, fun d' x hx => ?_⟩
  · by_cases e : d' = d
    · subst e; rw [hno r hr] at ha; simp at ha
    · rw [hav d' r e] at ha
      show (if d' = d then _ else a.cell d' r) = _
      rw [if_neg e]; exact h.data r hr d' hd' ha
  · by_cases e : d' = d
    · subst e; rw [hno r hr] at ha; simp at ha
    · rw [hav d' r e] at ha
      have : valC (a.newDrive d lo n) d' r = valC a d' r := by
        unfold valC Ab.newDrive
        simp only [e, if_false]
      rw [this, h.par r hr d' h1 h2 ha]; exact (wsum_congr (a := a) (b := a.newDrive d lo n) rfl a.D (fun _ _ => rfl)).symm
  · simp only [Ab.newDrive] at hx
    split at hx
    · simp at hx
    · rename_i e; rw [hav d' _ e]; exact h.recs d' x hx
theorem lay_av (a : Ab) (d r : Nat) (c : C4) (d' r' : Nat) : avB (a.layC d r c) d' r' = if d' = d ∧ r' = r then !a.lost d else avB a d' r' := by
  unfold avB Ab.layC Ab.setUb Ab.setCell
  by_cases e : d' = d ∧ r' = r
  · simp only [e, and_self, if_true]; simp
  · simp only [e, if_false]
theorem lay_ok {a : Ab} (h : a.ok) (d r : Nat) (c : C4) (hc : c.ok) : (a.layC d r c).ok := by
  refine ⟨h.D1, h.D4, h.P1, h.P2, h.R1, h.R6, h.M1, h.M8, fun d' r' => ?_, h.len, h.recs, h.data⟩
  show (if d' = d ∧ r' = r then c else a.cell d' r').ok
  split
  · exact hc
  · exact h.cells d' r'
theorem lay_av_mono (a : Ab) (d r : Nat) (c : C4) (hl : a.lost d = false) (d' r' : Nat) (h : avB a d' r' = true) : avB (a.layC d r c) d' r' = true := by
  rw [lay_av]
  split
  · rw [hl]; rfl
  · exact h
theorem psum_eq {a : Ab} {f : Nat → Nat} {r : Nat} (h : ∀ c, c < a.D → holdC a c r = blkC a.D f c r) (d k : Nat) (hk : k ≤ a.D) : psum a d r k = wsum a f d r k := by
  induction k with
  | zero => rfl
  | succ k ih => simp only [psum, wsum]; rw [ih (by omega), h k (by omega)]
/-- A cell is built. -/
def abRbC (a : Ab) (d r : Nat) : C4 := if a.D ≤ d then psum a d r a.D else holdC a d r
theorem AInv.build {a : Ab} {f : Nat → Nat} (h : AInv a f) (d r : Nat) (hd : d < a.D + a.P) (hr : r < a.R) (hl : a.lost d = false) (hav : avB a d r = false) (hg : goneB a r = false) : AInv (a.layC d r (abRbC a d r)) f := by
  have hh := h.holds r hr hg
  have hco : (abRbC a d r).ok := by
    unfold abRbC; split
    · exact psum_ok a d r a.D h.ok.D4
    · exact holdC_ok h.ok d r
  have hval : ∀ d' r', ¬ (d' = d ∧ r' = r) → valC (a.layC d r (abRbC a d r)) d' r' = valC a d' r' := fun d' r' e => by
    unfold valC
    show recSum r' (a.recs d') (if d' = d ∧ r' = r then _ else a.cell d' r') = _
    rw [if_neg e]
  refine ⟨lay_ok h.ok d r _ hco, h.bound, fun r' hr' d' hd' ha => ?_, fun r' hr' d' h1 h2 ha => ?_, fun d' x hx => ?_⟩
  · show (if d' = d ∧ r' = r then _ else a.cell d' r') = _
    by_cases e : d' = d ∧ r' = r
    · rw [if_pos e]
      obtain ⟨rfl, rfl⟩ := e
      unfold abRbC
      rw [if_neg (by have : d' < a.D := hd'; omega)]
      exact hh d' hd'
    · rw [if_neg e]
      rw [lay_av, if_neg e] at ha
      exact h.data r' hr' d' hd' ha
  · by_cases e : d' = d ∧ r' = r
    · obtain ⟨rfl, rfl⟩ := e
      have h1' : a.D ≤ d' := h1
      have : valC (a.layC d' r' (abRbC a d' r')) d' r' = abRbC a d' r' := by
        unfold valC
        show recSum r' (a.recs d') (if d' = d' ∧ r' = r' then _ else _) = _
        rw [if_pos ⟨rfl, rfl⟩]
        refine recSum_none r' _ _ (fun x hx e => ?_)
        have := h.recs d' x hx
        rw [e, hav] at this; simp at this
      rw [this]
      have e2 : abRbC a d' r' = wsum a f d' r' a.D := by
        unfold abRbC
        rw [if_pos h1', psum_eq hh d' a.D (Nat.le_refl _)]
      rw [e2]
      exact (wsum_congr (a := a) (b := a.layC d' r' _) rfl a.D (fun _ _ => rfl)).symm
    · rw [hval d' r' e]
      rw [lay_av, if_neg e] at ha
      rw [h.par r' hr' d' h1 h2 ha]
      exact (wsum_congr (a := a) (b := a.layC d r _) rfl a.D (fun _ _ => rfl)).symm
  · exact lay_av_mono a d r _ hl d' _ (h.recs d' x hx)
end Go.Proofs.YtfpoiikhhjdpdaaGreat

/- A write, in plain mathematics. -/
namespace Go.Proofs.YtfpoiikhhjdpdaaGreat
open Go.RowKit
set_option linter.unusedVariables false
def C4.beq (x y : C4) : Bool := x.b0 == y.b0 && x.b1 == y.b1 && x.b2 == y.b2 && x.b3 == y.b3
theorem C4.beq_iff (x y : C4) : x.beq y = true ↔ x = y := by
  obtain ⟨x0, x1, x2, x3⟩ := x
  obtain ⟨y0, y1, y2, y3⟩ := y
  simp [C4.beq, and_assoc]
/-- The first k parity drives have got their record, those whose cell is available. -/
def abNoted (a : Ab) (c row : Nat) (x : C4) : Nat → Ab
  | 0 => a.addSteps 1
  | k + 1 => if avB a (a.D + k) row then (abNote (abNoted a c row x k) (a.D + k) ⟨row, x.scale (wgt a (a.D + k) c)⟩).addSteps 1 else abNoted a c row x k
def abNew (a : Ab) (b fr n : Nat) (g : Nat → Nat) : C4 := (holdC a (b % a.D) (b / a.D)).overlay ((b : Int) * 4 - fr) n g
def abLaid (a : Ab) (c row : Nat) (x : C4) : Ab := if a.lost c then a else (a.layC c row x).addSteps 1
def abBlock (a : Ab) (b fr n : Nat) (g : Nat → Nat) : Ab :=
  if (abNew a b fr n g).beq (holdC a (b % a.D) (b / a.D)) then a
  else (abLaid (abNoted a (b % a.D) (b / a.D) ((holdC a (b % a.D) (b / a.D)).xor (abNew a b fr n g)) a.P) (b % a.D) (b / a.D) (abNew a b fr n g)).addSteps 1
def abBlocks (a : Ab) (fr n : Nat) (g : Nat → Nat) : Nat → Ab
  | 0 => a
  | m + 1 => abBlock (abBlocks a fr n g m) (fr / 4 + m) fr n g
def abWrite (a : Ab) (fr n : Nat) (g : Nat → Nat) : Ab := abBlocks a fr n g (blkEnd fr n - fr / 4)
theorem steps_ok {a : Ab} (h : a.ok) (n : Nat) : (a.addSteps n).ok := ⟨h.D1, h.D4, h.P1, h.P2, h.R1, h.R6, h.M1, h.M8, h.cells, h.len, h.recs, h.data⟩
/-- How many of the first k parity cells of the row are available. -/
def parN (a : Ab) (row k : Nat) : Nat := (parL a row k).length
theorem noted_props (a : Ab) (c row : Nat) (x : C4) (k : Nat) : SameAb a (abNoted a c row x k) ∧ (abNoted a c row x k).lost = a.lost ∧ (abNoted a c row x k).ub = a.ub ∧ (abNoted a c row x k).steps = a.steps + 1 + parN a row k ∧ (∀ d r, d < a.D ∨ a.D + k ≤ d → (abNoted a c row x k).cell d r = a.cell d r) ∧ (∀ d, d < a.D ∨ a.D + k ≤ d → (abNoted a c row x k).recs d = a.recs d) := by
  induction k with
  | zero => exact ⟨⟨rfl, rfl, rfl, rfl, rfl⟩, rfl, rfl, rfl, fun _ _ _ => rfl, fun _ _ => rfl⟩
  | succ k ih =>
    obtain ⟨i1, i2, i3, i4, i5, i6⟩ := ih
    simp only [abNoted, parN, parL]
    cases hav : avB a (a.D + k) row
    · simp only [Bool.false_eq_true, if_false]
      exact ⟨i1, i2, i3, i4, fun d r h => i5 d r (by omega), fun d h => i6 d (by omega)⟩
    · simp only [if_true]
      have hp := note_props (abNoted a c row x k) (a.D + k) ⟨row, x.scale (wgt a (a.D + k) c)⟩
      refine ⟨⟨hp.1.D.trans i1.D, hp.1.P.trans i1.P, hp.1.R.trans i1.R, hp.1.M.trans i1.M, hp.1.brk.trans i1.brk⟩, hp.2.1.trans i2, hp.2.2.1.trans i3, ?_, fun d r h => ?_, fun d h => ?_⟩
      · show (abNote _ _ _).steps + 1 = _
        rw [hp.2.2.2.1, i4, List.length_append]; simp only [parN, List.length_singleton]; omega
      · show (abNote _ _ _).cell d r = _
        rw [hp.2.2.2.2.1 d r (by omega), i5 d r (by omega)]
      · show (abNote _ _ _).recs d = _
        rw [hp.2.2.2.2.2.1 d (by omega), i6 d (by omega)]
theorem noted_ok {a : Ab} (h : a.ok) (c row : Nat) (x : C4) (k : Nat) (hc : c < 4) (hr : row < a.R) (hx : x.ok) : (abNoted a c row x k).ok := by
  induction k with
  | zero => exact steps_ok h 1
  | succ k ih =>
    have hp := noted_props a c row x k
    simp only [abNoted]
    split
    · exact steps_ok (note_ok ih _ _ (by rw [hp.1.D]; omega) (by rw [hp.1.R]; exact hr) (C4.scale_ok (wgt_lt a _ c hc))) 1
    · exact ih
/-- The values behind the notes. -/
theorem noted_val (a : Ab) (c row : Nat) (x : C4) (k d r : Nat) : valC (abNoted a c row x k) d r = if a.D ≤ d ∧ d < a.D + k ∧ avB a d row = true ∧ r = row then (valC a d r).xor (x.scale (wgt a d c)) else valC a d r := by
  induction k with
  | zero => rw [if_neg (by omega)]; rfl
  | succ k ih =>
    simp only [abNoted]
    cases hav : avB a (a.D + k) row
    · simp only [Bool.false_eq_true, if_false]
      rw [ih]
      by_cases e : d = a.D + k
      · subst e
        rw [if_neg (by omega), if_neg (by rw [hav]; simp)]
      · by_cases h : a.D ≤ d ∧ d < a.D + k ∧ avB a d row = true ∧ r = row
        · rw [if_pos h, if_pos ⟨h.1, by omega, h.2.2⟩]
        · rw [if_neg h, if_neg (fun h' => h ⟨h'.1, by omega, h'.2.2⟩)]
    · simp only [if_true]
      show valC (abNote _ _ _) d r = _
      rw [note_val, ih]
      by_cases e : d = a.D + k
      · subst e
        have hn : ¬ (a.D ≤ a.D + k ∧ a.D + k < a.D + k ∧ avB a (a.D + k) row = true ∧ r = row) := by omega
        rw [if_neg hn]
        by_cases e2 : row = r
        · subst e2
          rw [if_pos ⟨rfl, rfl⟩, if_pos ⟨by omega, by omega, hav, rfl⟩]
        · rw [if_neg (fun h => e2 h.2), if_neg (fun h => e2 h.2.2.2.symm)]
      · rw [if_neg (fun h => e h.1)]
        by_cases h : a.D ≤ d ∧ d < a.D + k ∧ avB a d row = true ∧ r = row
        · rw [if_pos h, if_pos ⟨h.1, by omega, h.2.2⟩]
        · rw [if_neg h, if_neg (fun h' => h ⟨h'.1, by omega, h'.2.2⟩)]
theorem noted_recs (a : Ab) (c row : Nat) (x : C4) (k d : Nat) (y : Rec) (hy : y ∈ (abNoted a c row x k).recs d) : y ∈ a.recs d ∨ (y.row = row ∧ avB a d row = true) := by
  induction k with
  | zero => exact .inl hy
  | succ k ih =>
    simp only [abNoted] at hy
    cases hav : avB a (a.D + k) row
    · rw [hav] at hy; simp only [Bool.false_eq_true, if_false] at hy; exact ih hy
    · rw [hav] at hy; simp only [if_true] at hy
      have hy : y ∈ (abNote (abNoted a c row x k) (a.D + k) ⟨row, x.scale (wgt a (a.D + k) c)⟩).recs d := hy
      have hp := note_props (abNoted a c row x k) (a.D + k) ⟨row, x.scale (wgt a (a.D + k) c)⟩
      by_cases e : d = a.D + k
      · subst e
        rw [hp.2.2.2.2.2.2] at hy
        rcases List.mem_append.1 hy with hy | hy
        · refine ih ?_
          split at hy
          · exact hy
          · exact List.mem_of_mem_drop hy
        · have : y = ⟨row, x.scale (wgt a (a.D + k) c)⟩ := by simpa using hy
          subst this; exact .inr ⟨rfl, hav⟩
      · rw [hp.2.2.2.2.2.1 d e] at hy; exact ih hy
/-- The bytes behind a write of block b: of n bytes g from byte fr on. -/
def fB (f : Nat → Nat) (b fr n : Nat) (g : Nat → Nat) (i : Nat) : Nat := if i / 4 = b ∧ fr ≤ i ∧ i < fr + n then g (i - fr) else f i
theorem blkC_at (D : Nat) (f : Nat → Nat) (d r i : Nat) (hi : i < 4) : (blkC D f d r).at i = f ((r * D + d) * 4 + i) := C4.at_mk4 _ i hi
theorem blk_new (D : Nat) (f : Nat → Nat) (b fr n : Nat) (g : Nat → Nat) (hD : 0 < D) : blkC D (fB f b fr n g) (b % D) (b / D) = (blkC D f (b % D) (b / D)).overlay ((b : Int) * 4 - fr) n g := by
  have hb : b / D * D + b % D = b := Nat.div_add_mod' b D
  refine C4.ext' (fun i hi => ?_)
  rw [blkC_at _ _ _ _ _ hi, hb]
  unfold C4.overlay
  rw [C4.at_mk4 _ i hi]
  unfold ovl fB
  rw [blkC_at _ _ _ _ _ hi, hb]
  by_cases h : fr ≤ b * 4 + i ∧ b * 4 + i < fr + n
  · rw [if_pos ⟨by omega, h⟩, if_pos (by omega)]
    congr 1; omega
  · rw [if_neg (fun hh => h hh.2), if_neg (by omega)]
theorem blk_other (D : Nat) (f : Nat → Nat) (b fr n : Nat) (g : Nat → Nat) (c r : Nat) (hc : c < D) (h : ¬ (c = b % D ∧ r = b / D)) : blkC D (fB f b fr n g) c r = blkC D f c r := by
  refine C4.ext' (fun i hi => ?_)
  rw [blkC_at _ _ _ _ _ hi, blkC_at _ _ _ _ _ hi]
  unfold fB
  rw [if_neg]
  rintro ⟨h1, _⟩
  have h2 : r * D + c = b := by omega
  refine h ⟨?_, ?_⟩
  · rw [← h2, Nat.add_comm, Nat.add_mul_mod_self_right]; exact (Nat.mod_eq_of_lt hc).symm
  · rw [← h2, Nat.add_comm, Nat.add_mul_div_right _ _ (by omega), Nat.div_eq_of_lt hc]; omega
theorem wsum_upd (a : Ab) (f f' : Nat → Nat) (d r c k : Nat) (h : ∀ c', c' < k → c' ≠ c → blkC a.D f' c' r = blkC a.D f c' r) : wsum a f' d r k = if c < k then (wsum a f d r k).xor (((blkC a.D f c r).xor (blkC a.D f' c r)).scale (wgt a d c)) else wsum a f d r k := by
  induction k with
  | zero => rw [if_neg (by omega)]; rfl
  | succ k ih =>
    have ih := ih (fun c' h1 h2 => h c' (by omega) h2)
    simp only [wsum]
    by_cases e : c = k
    · subst e
      rw [if_neg (by omega)] at ih
      rw [if_pos (by omega), ih, C4.scale_xor, C4.xor_assoc]
      congr 1
      rw [← C4.xor_assoc, C4.xor_self, C4.zero_xor]
    · rw [ih, h k (by omega) (fun hh => e hh.symm)]
      by_cases h1 : c < k
      · rw [if_pos h1, if_pos (by omega), C4.xor_assoc, C4.xor_assoc]
        congr 1
        rw [C4.xor_comm]
      · rw [if_neg h1, if_neg (by omega)]
theorem fB_bound {f : Nat → Nat} {b fr n : Nat} {g : Nat → Nat} (hf : ∀ i, f i < 256) (hg : ∀ i, i < n → g i < 256) (i : Nat) : fB f b fr n g i < 256 := by
  unfold fB
  split
  · exact hg _ (by omega)
  · exact hf i
theorem overlay_ok {c : C4} {st : Int} {n : Nat} {f : Nat → Nat} (hc : c.ok) (hf : ∀ i, i < n → f i < 256) : (c.overlay st n f).ok := by
  refine C4.ok_of (fun i hi => ?_)
  unfold C4.overlay
  rw [C4.at_mk4 _ i hi]
  unfold ovl
  split
  · exact hf _ (by omega)
  · exact C4.at_lt hc i
theorem laid_props (a : Ab) (c row : Nat) (x : C4) : SameAb a (abLaid a c row x) ∧ (abLaid a c row x).lost = a.lost ∧ (abLaid a c row x).recs = a.recs := by
  unfold abLaid
  split
  · exact ⟨SameAb.refl a, rfl, rfl⟩
  · exact ⟨⟨rfl, rfl, rfl, rfl, rfl⟩, rfl, rfl⟩
theorem laid_av (a : Ab) (c row : Nat) (x : C4) (d r : Nat) : avB (abLaid a c row x) d r = if d = c ∧ r = row ∧ a.lost c = false then true else avB a d r := by
  unfold abLaid
  cases hl : a.lost c
  · simp only [Bool.false_eq_true, if_false, and_true]
    show avB (a.layC c row x) d r = _
    rw [lay_av, hl]; rfl
  · simp only [if_true]
    rw [if_neg (by simp)]
theorem laid_cell (a : Ab) (c row : Nat) (x : C4) (d r : Nat) : (abLaid a c row x).cell d r = if d = c ∧ r = row ∧ a.lost c = false then x else a.cell d r := by
  unfold abLaid
  cases hl : a.lost c
  · simp only [Bool.false_eq_true, if_false, and_true]; rfl
  · simp only [if_true]; rw [if_neg (by simp)]
theorem av_lost {a : Ab} {d r : Nat} (h : avB a d r = true) : a.lost d = false := by
  unfold avB at h
  simp at h; exact h.1
/-- A block is written. -/
theorem AInv.block {a : Ab} {f : Nat → Nat} (h : AInv a f) (b fr n : Nat) (g : Nat → Nat) (hg : ∀ i, i < n → g i < 256) (hb : b < a.D * a.R) (hgood : goneB a (b / a.D) = false) : AInv (abBlock a b fr n g) (fB f b fr n g) := by
  have hD1 := h.ok.D1
  have hD4 := h.ok.D4
  have hc : b % a.D < a.D := Nat.mod_lt b (by omega)
  have hr : b / a.D < a.R := Nat.div_lt_of_lt_mul hb
  have hold := h.holds (b / a.D) hr hgood (b % a.D) hc
  have hnew : abNew a b fr n g = blkC a.D (fB f b fr n g) (b % a.D) (b / a.D) := by
    unfold abNew; rw [hold, blk_new _ _ _ _ _ _ (by omega)]
  have hfb := fB_bound (b := b) (fr := fr) h.bound hg
  unfold abBlock
  split
  · rename_i e
    have e := (C4.beq_iff _ _).1 e
    refine h.congr hfb (fun c r hc' hr' => ?_)
    by_cases ec : c = b % a.D ∧ r = b / a.D
    · obtain ⟨rfl, rfl⟩ := ec
      rw [← hnew, e, hold]
    · exact blk_other _ _ _ _ _ _ _ _ hc' ec
  · have hnok : (abNew a b fr n g).ok := by rw [hnew]; exact blkC_ok hfb _ _
    have hook : (holdC a (b % a.D) (b / a.D)).ok := holdC_ok h.ok _ _
    have hother := fun c r hc' (e : ¬ (c = b % a.D ∧ r = b / a.D)) => blk_other a.D f b fr n g c r hc' e
    rw [hold] at hook
    rw [hold]
    generalize hcc : b % a.D = c at *
    generalize hrr : b / a.D = row at *
    generalize hx : (blkC a.D f c row).xor (abNew a b fr n g) = x
    have hxo : x.ok := by rw [← hx]; exact C4.xor_ok hook hnok
    have np := noted_props a c row x a.P
    have nv := noted_val a c row x a.P
    have nr := noted_recs a c row x a.P
    have no := noted_ok h.ok c row x a.P (by omega) hr hxo
    generalize abNoted a c row x a.P = a1 at *
    have lp := laid_props a1 c row (abNew a b fr n g)
    have lav := laid_av a1 c row (abNew a b fr n g)
    have lc := laid_cell a1 c row (abNew a b fr n g)
    have lo : (abLaid a1 c row (abNew a b fr n g)).ok := by
      unfold abLaid; split
      · exact no
      · exact steps_ok (lay_ok no c row _ hnok) 1
    generalize abLaid a1 c row (abNew a b fr n g) = a2 at *
    have hD : a2.D = a.D := lp.1.D.trans np.1.D
    have hP : a2.P = a.P := lp.1.P.trans np.1.P
    have hR : a2.R = a.R := lp.1.R.trans np.1.R
    have hl1 : a1.lost = a.lost := np.2.1
    have hav1 : ∀ d r, avB a1 d r = avB a d r := fun d r => avB_congr np.2.1 np.2.2.1 d r
    have hav : ∀ d r, avB (a2.addSteps 1) d r = if d = c ∧ r = row ∧ a.lost c = false then true else avB a d r := fun d r => by
      show avB a2 d r = _
      rw [lav, hl1, hav1]
    refine ⟨steps_ok lo 1, hfb, fun r hr' d hd ha => ?_, fun r hr' d h1 h2 ha => ?_, fun d y hy => ?_⟩
    · show a2.cell d r = blkC a2.D _ d r
      have hd : d < a.D := by rw [← hD]; exact hd
      have hr' : r < a.R := by rw [← hR]; exact hr'
      rw [lc, hl1, hD]
      rw [hav] at ha
      by_cases e : d = c ∧ r = row ∧ a.lost c = false
      · rw [if_pos e]
        obtain ⟨rfl, rfl, _⟩ := e
        exact hnew
      · rw [if_neg e] at ha ⊢
        rw [np.2.2.2.2.1 d r (.inl hd), h.data r hr' d hd ha]
        refine (hother d r hd (fun ec => e ⟨ec.1, ec.2, ?_⟩)).symm
        rw [← ec.1]; exact av_lost ha
    · have h1 : a.D ≤ d := by rw [← hD]; exact h1
      have h2 : d < a.D + a.P := by have h2 : d < a2.D + a2.P := h2; rw [hD, hP] at h2; exact h2
      have hr' : r < a.R := by rw [← hR]; exact hr'
      rw [hav, if_neg (by omega)] at ha
      have hval : valC (a2.addSteps 1) d r = valC a1 d r := by
        unfold valC
        show recSum r (a2.recs d) (a2.cell d r) = _
        rw [lp.2.2, lc, if_neg (by omega)]
      rw [hval, nv]
      have hw : wsum (a2.addSteps 1) (fB f b fr n g) d r (a2.addSteps 1).D = wsum a (fB f b fr n g) d r a.D := by
        show wsum (a2.addSteps 1) _ d r a2.D = _
        rw [hD]
        exact wsum_congr (a := a) (b := a2.addSteps 1) hD a.D (fun _ _ => rfl)
      rw [hw]
      by_cases er : r = row
      · subst er
        rw [if_pos ⟨h1, h2, ha, rfl⟩, h.par r hr' d h1 h2 ha, wsum_upd a f (fB f b fr n g) d r c a.D (fun c' h1 h2 => hother c' r h1 (fun ec => h2 ec.1)), if_pos hc, ← hnew, hx]
      · rw [if_neg (fun hh => er hh.2.2.2), h.par r hr' d h1 h2 ha]
        exact (wsum_congr (a := a) (b := a) rfl a.D (fun c' hc' => hother c' r hc' (fun ec => er ec.2))).symm
    · have hy : y ∈ a2.recs d := hy
      rw [lp.2.2] at hy
      rw [hav]
      split
      · rfl
      · rcases nr d y hy with h3 | ⟨h3, h4⟩
        · exact h.recs d y h3
        · rw [h3]; exact h4
theorem block_mono (a : Ab) (b fr n : Nat) (g : Nat → Nat) : SameAb a (abBlock a b fr n g) ∧ (abBlock a b fr n g).lost = a.lost ∧ ∀ d r, avB (abBlock a b fr n g) d r = if d = b % a.D ∧ r = b / a.D ∧ a.lost (b % a.D) = false ∧ (abNew a b fr n g).beq (holdC a (b % a.D) (b / a.D)) = false then true else avB a d r := by
  unfold abBlock
  cases he : (abNew a b fr n g).beq (holdC a (b % a.D) (b / a.D))
  · simp only [Bool.false_eq_true, if_false, and_true]
    have np := noted_props a (b % a.D) (b / a.D) ((holdC a (b % a.D) (b / a.D)).xor (abNew a b fr n g)) a.P
    have lp := laid_props (abNoted a (b % a.D) (b / a.D) ((holdC a (b % a.D) (b / a.D)).xor (abNew a b fr n g)) a.P) (b % a.D) (b / a.D) (abNew a b fr n g)
    refine ⟨⟨lp.1.D.trans np.1.D, lp.1.P.trans np.1.P, lp.1.R.trans np.1.R, lp.1.M.trans np.1.M, lp.1.brk.trans np.1.brk⟩, lp.2.1.trans np.2.1, fun d r => ?_⟩
    show avB (abLaid _ _ _ _) d r = _
    rw [laid_av, np.2.1, avB_congr np.2.1 np.2.2.1]
  · rw [if_pos rfl]
    exact ⟨SameAb.refl a, rfl, fun d r => by rw [if_neg (fun h => Bool.noConfusion h.2.2.2)]⟩
theorem block_av (a : Ab) (b fr n : Nat) (g : Nat → Nat) (d r : Nat) (h : avB a d r = true) : avB (abBlock a b fr n g) d r = true := by
  rw [(block_mono a b fr n g).2.2]
  split
  · rfl
  · exact h
theorem block_good (a : Ab) (b fr n : Nat) (g : Nat → Nat) (r : Nat) (h : goneB a r = false) : goneB (abBlock a b fr n g) r = false :=
  goneB_mono (block_mono a b fr n g).1.D (block_mono a b fr n g).1.P (fun d hd => block_av a b fr n g d r hd) h
/-- The bytes behind the first m blocks of a write. -/
def fBs (f : Nat → Nat) (fr n : Nat) (g : Nat → Nat) (m i : Nat) : Nat := if i / 4 < fr / 4 + m ∧ fr ≤ i ∧ i < fr + n then g (i - fr) else f i
theorem fBs_succ (f : Nat → Nat) (fr n : Nat) (g : Nat → Nat) (m : Nat) : fB (fBs f fr n g m) (fr / 4 + m) fr n g = fBs f fr n g (m + 1) := by
  funext i
  unfold fB fBs
  by_cases h1 : fr ≤ i ∧ i < fr + n
  · by_cases h2 : i / 4 < fr / 4 + m
    · rw [if_neg (by omega), if_pos ⟨h2, h1⟩, if_pos ⟨by omega, h1⟩]
    · by_cases h3 : i / 4 = fr / 4 + m
      · rw [if_pos ⟨h3, h1⟩, if_pos ⟨by omega, h1⟩]
      · rw [if_neg (by omega), if_neg (by omega), if_neg (by omega)]
  · rw [if_neg (fun h => h1 h.2), if_neg (fun h => h1 h.2), if_neg (fun h => h1 h.2)]
theorem AInv.blocks {a : Ab} {f : Nat → Nat} (h : AInv a f) (fr n : Nat) (g : Nat → Nat) (hg : ∀ i, i < n → g i < 256) (m : Nat) (hm : fr / 4 + m ≤ a.D * a.R) (hgood : ∀ r, r < a.R → goneB a r = false) :
    AInv (abBlocks a fr n g m) (fBs f fr n g m) ∧ SameAb a (abBlocks a fr n g m) ∧ (abBlocks a fr n g m).lost = a.lost ∧ (∀ d r, avB a d r = true → avB (abBlocks a fr n g m) d r = true) ∧ ∀ r, r < a.R → goneB (abBlocks a fr n g m) r = false := by
  induction m with
  | zero =>
    refine ⟨?_, SameAb.refl a, rfl, fun _ _ h => h, hgood⟩
    have : fBs f fr n g 0 = f := by
      funext i; unfold fBs; rw [if_neg (by omega)]
    rw [this]; exact h
  | succ m ih =>
    obtain ⟨i1, i2, i3, i4, i5⟩ := ih (by omega)
    have bm := block_mono (abBlocks a fr n g m) (fr / 4 + m) fr n g
    have hlt : fr / 4 + m < a.D * a.R := by omega
    refine ⟨?_, i2.trans bm.1, bm.2.1.trans i3, fun d r hd => block_av _ _ _ _ _ d r (i4 d r hd), fun r hr => block_good _ _ _ _ _ r (i5 r hr)⟩
    have := i1.block (fr / 4 + m) fr n g hg (by rw [i2.D, i2.R]; exact hlt) (by rw [i2.D]; exact i5 _ (Nat.div_lt_of_lt_mul hlt))
    rw [fBs_succ] at this
    exact this
/-- A write: the bytes are those that were written. -/
def fW (f : Nat → Nat) (fr n : Nat) (g : Nat → Nat) (i : Nat) : Nat := if fr ≤ i ∧ i < fr + n then g (i - fr) else f i
theorem AInv.write {a : Ab} {f : Nat → Nat} (h : AInv a f) (fr n : Nat) (g : Nat → Nat) (hg : ∀ i, i < n → g i < 256) (hn : fr + n ≤ a.D * a.R * 4) (hgood : ∀ r, r < a.R → goneB a r = false) :
    AInv (abWrite a fr n g) (fW f fr n g) ∧ SameAb a (abWrite a fr n g) ∧ (abWrite a fr n g).lost = a.lost ∧ (∀ d r, avB a d r = true → avB (abWrite a fr n g) d r = true) ∧ ∀ r, r < a.R → goneB (abWrite a fr n g) r = false := by
  have he : fr / 4 + (blkEnd fr n - fr / 4) ≤ a.D * a.R := by unfold blkEnd; split <;> omega
  have := h.blocks fr n g hg (blkEnd fr n - fr / 4) he hgood
  have e : fBs f fr n g (blkEnd fr n - fr / 4) = fW f fr n g := by
    funext i
    unfold fBs fW
    by_cases h1 : fr ≤ i ∧ i < fr + n
    · have h2 : i / 4 < fr / 4 + (blkEnd fr n - fr / 4) := by unfold blkEnd; rw [if_neg (by omega)]; omega
      rw [if_pos h1, if_pos ⟨h2, h1⟩]
    · rw [if_neg h1, if_neg (fun h => h1 h.2)]
  rw [e] at this
  exact this
end Go.Proofs.YtfpoiikhhjdpdaaGreat
