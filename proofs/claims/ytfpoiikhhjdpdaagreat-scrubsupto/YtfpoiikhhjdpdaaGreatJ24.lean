import Derived.Test.YtfpoiikhhjdpdaaGreatJ20
import Derived.Test.YtfpoiikhhjdpdaaGreatJ23
/- The document: all steps of a block's write. -/
namespace Go.Proofs.YtfpoiikhhjdpdaaGreat
open Go.RowKit
set_option linter.unusedVariables false
attribute [local go_sem ↓] Go.wp_at_zero Go.wp_at_succ
/-- One parity drive has taken its record. -/
theorem takes_par (a : Ab) (d r : Nat) (nw x : C4) (p : Nat) (hd : d < a.D) (hav : avB a (a.D + p) r = true) :
    abTakes a d r nw x (parL a r (p + 1)) = abNote (abTakes a d r nw x (parL a r p)) (a.D + p) ⟨r, x.scale (rW p d)⟩ := by
  simp only [parL, hav, if_true]
  rw [abTakes_snoc]
  unfold abTake
  rw [if_neg (by omega)]
  have : wgt (abTakes a d r nw x (parL a r p)) (a.D + p) d = rW p d := by
    rw [rW_wgt a p d]
    unfold wgt; rw [(takes_props a d r nw x _).1.D]
  rw [this]
theorem takes_skip (a : Ab) (d r : Nat) (nw x : C4) (p : Nat) (hav : avB a (a.D + p) r = false) : abTakes a d r nw x (parL a r (p + 1)) = abTakes a d r nw x (parL a r p) := by
  simp only [parL, hav, Bool.false_eq_true, if_false]
theorem parL_ge (a : Ab) (r k d : Nat) (h : d ∈ parL a r k) : a.D ≤ d := by
  induction k with
  | zero => simp [parL] at h
  | succ k ih =>
    simp only [parL] at h
    split at h
    · rw [List.mem_append] at h
      rcases h with h | h
      · exact ih h
      · rw [List.mem_singleton.1 h]; omega
    · exact ih h
theorem takes_ub (a : Ab) (c r : Nat) (nw x : C4) (l : List Nat) (hl : ∀ d ∈ l, d ≠ c) : (abTakes a c r nw x l).ub = a.ub := by
  induction l generalizing a with
  | nil => rfl
  | cons d l ih =>
    have h1 : (abTake a c r nw x d).ub = a.ub := by
      unfold abTake
      rw [if_neg (hl d (by simp))]
      exact (note_props a d _).2.2.1
    show (abTakes (abTake a c r nw x d) c r nw x l).ub = _
    rw [ih _ (fun d' hd' => hl d' (by simp [hd'])), h1]
theorem takes_av (a : Ab) (c r : Nat) (nw x : C4) (p : Nat) (hc : c < a.D) (d r' : Nat) : avB (abTakes a c r nw x (parL a r p)) d r' = avB a d r' :=
  avB_congr (takes_props a c r nw x _).2.1 (takes_ub a c r nw x _ (fun d hd => by have := parL_ge a r p d hd; omega)) d r'
/-- A log gets one record more: the drives' list is stored into. -/
theorem RefIn.noteAt {w W w2 : World} {yb : Nat} {a : Ab} {V : Nat → Value} {left : Int} {dn : Bool} (h : RefIn w yb a V left dn) (d : Nat) (x : Rec) (hd : d < a.D + a.P) (hp : a.D ≤ d) (hlen : (a.recs d).length < a.M) (hx : x.row < a.R) (hc : x.c.ok) (g cap : Nat) (hV : V 0 = .slice (some ⟨g, 0, none⟩) (a.D + a.P) cap)
    (k : Below w.heap.size w W) (v' : Value) (hown : w2.ownsRow 0 92 5 v' ((a.recs d).length + 1) (recCells (a.recs d) ++ x.cells)) (hl : Lies W w2 (V (3 + 3 * d)) v') :
    RWent yb a V w (a.setLog d (a.recs d ++ [x])) (setV V (3 + 3 * d) v') left dn (w2.setCell ⟨g, d * 4 + 3, none⟩ v') := by
  obtain ⟨k1, k2, k3, k4, k5⟩ := hl.kept
  have hkept : Kept (RFoot yb a V) w w2 := ⟨k1.trans k.os, k2.trans k.tape, k3.trans k.output, Nat.le_trans k.size k4, fun i hi hn => (k5 i (Nat.lt_of_lt_of_le hi k.size) (fun e => hn (.inr ⟨3 + 3 * d, by omega, e⟩))).trans (k.block i hi)⟩
  have hvb : ∀ b, v'.ownBlock = some b → (V (3 + 3 * d)).ownBlock = some b ∨ w.heap.size ≤ b := fun b hb => by
    rcases hl.block hb with h1 | h1
    · exact .inl h1
    · exact .inr (Nat.le_trans k.size h1)
  have hlog : LogAt w2 v' (a.recs d ++ [x]) := by
    show World.ownsRow _ _ _ _ _ _ _
    rw [List.length_append, recCells_snoc]; exact hown
  refine ⟨h.setLog (w1 := w2) d _ v' hd hp g cap hV (fun b hb hne => (k5 b (Nat.lt_of_lt_of_le (h.foot_lt hb) k.size) hne).trans (k.block b (h.foot_lt hb))) hlog (by rw [List.length_append]; simp; omega) (fun y hy => ?_) hvb, hkept.setCell (.inl (.inr ⟨0, by omega, by rw [hV]; rfl⟩)) _, fun b hb => ?_⟩
  · rw [List.mem_append] at hy
    rcases hy with hy | hy
    · exact h.ok.recs d y hy
    · rw [List.mem_singleton.1 hy]; exact ⟨hx, hc⟩
  · rcases hb with h1 | ⟨i, hi, h1⟩
    · exact .inl (.inl h1)
    · replace hi : i < 1 + 3 * (a.D + a.P) := hi
      by_cases e : i = 3 + 3 * d
      · rw [e, setV_same] at h1
        rcases hvb b h1 with h2 | h2
        · exact .inl (.inr ⟨3 + 3 * d, by omega, h2⟩)
        · exact .inr h2
      · rw [setV_ne _ _ _ _ e] at h1
        exact .inl (.inr ⟨i, hi, h1⟩)
theorem RWent.drew {yb : Nat} {a : Ab} {V : Nat → Value} {w : World} {a' : Ab} {V' : Nat → Value} {left' : Int} {dn' : Bool} {w' : World} (h : RWent yb a V w a' V' left' dn' w') : RWent yb a V w a' V' left' dn' w'.drew := ⟨h.at'.heap rfl, h.kept.drew, h.foot⟩
theorem zero_at (j : Nat) (hj : j < 4) : C4.zero.at j = 0 := by
  have : j = 0 ∨ j = 1 ∨ j = 2 ∨ j = 3 := by omega
  rcases this with rfl | rfl | rfl | rfl <;> rfl
set_option maxRecDepth 100000 in
set_option maxHeartbeats 2000000 in
theorem rblock_any (yb : Nat) (a : Ab) (V : Nat → Value) (left : Int) (dn : Bool) (d r : Nat) (old fresh : C4) (w : World) (h : RefIn w yb a V left dn) (hd : d < a.D) (hr : r < a.R) (ho : old.ok) (hf : fresh.ok) :
    Calls Tryz.prog 82 #[.pointer (some ⟨yb, 0, none⟩), .int .i64 d, .int .i64 r, old.val, fresh.val] w fun e w' => e = .returned (.tuple #[]) ∧ ∃ V', RWent yb a V w (abTakes a d r fresh (old.xor fresh) (takersL a d r)) V' left dn w' := by
  have hD := h.ok.D4
  have hP := h.ok.P2
  have hR := h.ok.R6
  have hM := h.ok.M8
  have HH : Hid (RefIn w yb a V left dn) := h
  have HO : Hid old.ok := ho
  have HF : Hid fresh.ok := hf
  unfold C4.val
  clear h ho hf
  have HB0 : Hid (Below w.heap.size w ((w.alloc (.cells #[.int .u8 old.b0, .int .u8 old.b1, .int .u8 old.b2, .int .u8 old.b3] 75)).alloc (.cells #[.int .u8 fresh.b0, .int .u8 fresh.b1, .int .u8 fresh.b2, .int .u8 fresh.b3] 75))) := ((Below.refl _ _).alloc (Nat.le_refl _) _).alloc (by simp) _
  have HBO : Hid (BoxAt ((w.alloc (.cells #[.int .u8 old.b0, .int .u8 old.b1, .int .u8 old.b2, .int .u8 old.b3] 75)).alloc (.cells #[.int .u8 fresh.b0, .int .u8 fresh.b1, .int .u8 fresh.b2, .int .u8 fresh.b3] 75)) w.heap.size old) := (BoxAt.new w _ _ rfl).alloc _
  have HBF : Hid (BoxAt ((w.alloc (.cells #[.int .u8 old.b0, .int .u8 old.b1, .int .u8 old.b2, .int .u8 old.b3] 75)).alloc (.cells #[.int .u8 fresh.b0, .int .u8 fresh.b1, .int .u8 fresh.b2, .int .u8 fresh.b3] 75)) (w.heap.size + 1) fresh) := BoxAt.new _ _ _ (by simp)
  go_enter Tryz.func82, Tryz.ntmps82
  go_wp2_with fail
  generalize (w.alloc (.cells #[.int .u8 old.b0, .int .u8 old.b1, .int .u8 old.b2, .int .u8 old.b3] 75)).alloc (.cells #[.int .u8 fresh.b0, .int .u8 fresh.b1, .int .u8 fresh.b2, .int .u8 fresh.b3] 75) = wb at *
  have HNR : Hid (∀ b, w.heap.size ≤ b → ¬ RFoot yb a V b) := fun b hb hf => by have := HH.out.foot_lt hf; omega
  have HIB : Hid (RefIn wb yb a V left dn) := HH.out.below HB0.out
  go_loopw [10, 11, 12, 13, 14] (fun c _ _ _ _ wr => ∃ (p : Nat) (V' : Nat → Value), p ≤ a.P ∧ c = .int .i64 p ∧ Hid (RWent yb a V wb (abTakes a d r fresh (old.xor fresh) (parL a r p)) V' left dn wr)) (fun c _ _ _ _ _ => a.P - (intOf c).toNat)
  case atStart => exact ⟨0, V, by omega, rfl, RWent.below HIB.out (Below.refl _ _)⟩
  case round =>
    obtain ⟨p, V', hp, rfl, hwt⟩ := hrel
    have h1 := hwt.out.at'
    have hpr := takes_props a d r fresh (old.xor fresh) (parL a r p)
    have hbo : BoxAt wr w.heap.size old := World.rowIs.of_block HBO.out (hwt.out.kept.block _ HBO.out.lt (HNR.out _ (Nat.le_refl _)))
    have hbf : BoxAt wr (w.heap.size + 1) fresh := World.rowIs.of_block HBF.out (hwt.out.kept.block _ HBF.out.lt (HNR.out _ (by omega)))
    obtain ⟨c0, c1, _, c3, c4, _⟩ := h1.cells
    have hlt := h1.row.lt
    rw [hpr.1.D] at c0
    rw [hpr.1.P] at c1
    rw [hpr.1.M] at c3
    by_cases hpP : p < a.P
    · have hpi : (p : Int) < (a.P : Int) := by omega
      have hp2 : p < 2 := by omega
      have HA : Hid (Calls Tryz.prog 77 #[.pointer (some ⟨yb, 0, none⟩), .int .i64 (a.D + p : Nat), .int .i64 r] wr fun e w' => e = .returned (.bool (avB a (a.D + p) r)) ∧ w' = wr) := (show Calls _ _ _ _ _ by
        have h2 := ravail_any yb _ V' left dn (a.D + p) r wr h1 (by rw [hpr.1.D, hpr.1.P]; omega) (by rw [hpr.1.R]; exact hr)
        rw [takes_av a d r fresh (old.xor fresh) p hd] at h2
        exact h2)
      obtain ⟨kk, hkk⟩ : ∃ kk, a.D + p = kk := ⟨_, rfl⟩
      have hkw : IntKind.i64.wrap ((a.D : Int) + (p : Int)) = (kk : Int) := by rw [wrap_i64_small _ (by omega) (by omega)]; omega
      have hks : (a.D : Int) + (p : Int) = (kk : Int) := by omega
      have hk6 : kk < 6 := by omega
      have HKK : Hid (a.D + p = kk) := hkk
      have H1 : Hid (RefIn wr yb (abTakes a d r fresh (old.xor fresh) (parL a r p)) V' left dn) := h1
      have HPR : Hid (SameAb a (abTakes a d r fresh (old.xor fresh) (parL a r p))) := hpr.1
      rw [hkk] at HA
      cases hav : avB a (a.D + p) r
      · have HSK : Hid (abTakes a d r fresh (old.xor fresh) (parL a r (p + 1)) = abTakes a d r fresh (old.xor fresh) (parL a r p)) := takes_skip a d r fresh _ p hav
        rw [hkk] at hav
        rw [hav] at HA
        clear hkk h1 hpr hbo hbf c4
        go_wp2_with fail
        refine HA.out.mono ?_
        rintro e w2 ⟨rfl, hw2⟩
        obtain rfl := hw2.symm
        go_wp2_with fail
        refine ⟨⟨p + 1, V', by omega, by go_num, ?_⟩, by simp [intOf]; omega⟩
        rw [HSK.out]; exact hwt
      · have HSK : Hid (abTakes a d r fresh (old.xor fresh) (parL a r (p + 1)) = abNote (abTakes a d r fresh (old.xor fresh) (parL a r p)) (a.D + p) ⟨r, (old.xor fresh).scale (rW p d)⟩) := takes_par a d r fresh _ p hd hav
        obtain ⟨g, cap, e0, hg, hgy, hdr⟩ := h1.drive
        rw [hpr.1.D, hpr.1.P] at e0
        obtain ⟨_, _, _, d3⟩ := hdr kk (by rw [hpr.1.D, hpr.1.P]; omega)
        have hlg := h1.lg kk (by rw [hpr.1.D, hpr.1.P]; omega)
        obtain ⟨pl, capl, el, _⟩ := hlg.slice
        have hlenM := h1.ok.len kk
        rw [hpr.1.M] at hlenM
        rw [hkk] at hav
        rw [hav] at HA
        have HE0 : Hid (V' 0 = .slice (some ⟨g, 0, none⟩) (a.D + a.P) cap) := e0
        rw [e0] at c4
        rw [el] at d3
        have hki : (kk : Int) < ((a.D + a.P : Nat) : Int) := by omega
        have HBO1 : Hid (BoxAt wr w.heap.size old) := hbo
        have HBF1 : Hid (BoxAt wr (w.heap.size + 1) fresh) := hbf
        clear hkk h1 hpr hbo hbf hdr e0 el hlg hav
        generalize hap : abTakes a d r fresh (old.xor fresh) (parL a r p) = ap at *
        generalize hln : (ap.recs kk).length = ln at *
        have HLN : Hid ((ap.recs kk).length = ln) := hln
        clear hap hln
        generalize hnn : a.D + a.P = nn at *
        have HNN : Hid (a.D + a.P = nn) := hnn
        clear hnn
        by_cases hfull : ln = a.M
        · have hfi : ((ln : Int) == (a.M : Int)) = true := by rw [beq_iff_eq]; omega
          obtain ⟨x0, l0, hx0⟩ : ∃ x l, ap.recs kk = x :: l := by
            cases hq : ap.recs kk with
            | nil => have := HLN.out; rw [hq, List.length_nil] at this; have := HH.out.ok.M1; omega
            | cons x l => exact ⟨x, l, rfl⟩
          have HME : Hid (∀ W, W.heap = wr.heap → Calls Tryz.prog 84 #[.pointer (some ⟨yb, 0, none⟩), .int .i64 kk] W fun e w' => e = .returned (.tuple #[]) ∧ ∃ V'', RWent yb ap V' W (abMerge ap kk 1) V'' left dn w') := fun W hW => rmerge_any yb ap V' left dn kk W (H1.out.heap hW) (by rw [HPR.out.D, HPR.out.P, HNN.out]; omega) (by rw [HPR.out.D]; have := HKK.out; omega) x0 l0 hx0
          clear hx0
          go_wp2_with fail
          refine HA.out.mono ?_
          rintro e w2 ⟨rfl, hw2⟩
          obtain rfl := hw2.symm
          go_wp2_with fail
          go_region
          go_wp2_with fail
          refine (HME.out _ (by rfl)).mono ?_
          rintro e wm ⟨rfl, V2, hwm⟩
          replace hwm : RWent yb ap V' wr (abMerge ap kk 1) V2 left dn wm := ⟨hwm.at', ⟨hwm.kept.os, hwm.kept.tape, hwm.kept.output, hwm.kept.size, hwm.kept.block⟩, hwm.foot⟩
          have HWM : Hid (RWent yb a V wb (abMerge ap kk 1) V2 left dn wm) := hwt.out.trans hwm
          have HBO2 : Hid (BoxAt wm w.heap.size old) := World.rowIs.of_block HBO1.out (hwm.kept.block _ HBO1.out.lt (fun hf => by
            rcases hwt.out.foot _ hf with h3 | h3
            · exact HNR.out _ (Nat.le_refl _) h3
            · have := HBF.out.lt; omega))
          have HBF2 : Hid (BoxAt wm (w.heap.size + 1) fresh) := World.rowIs.of_block HBF1.out (hwm.kept.block _ HBF1.out.lt (fun hf => by
            rcases hwt.out.foot _ hf with h3 | h3
            · exact HNR.out _ (by omega) h3
            · have := HBF.out.lt; omega))
          clear hwm c0 c1 c3 c4 d3 hlt hg
          go_wp2_with fail
          have HWQ : Hid (Below wm.heap.size wm (wm.alloc (.cells #[.int .u8 0, .int .u8 0, .int .u8 0, .int .u8 0] 75))) := ((Below.refl _ _).alloc (Nat.le_refl _) _)
          have HCQ : Hid (BoxAt (wm.alloc (.cells #[.int .u8 0, .int .u8 0, .int .u8 0, .int .u8 0] 75)) wm.heap.size C4.zero) := BoxAt.new0 _ _ rfl
          generalize wm.alloc (.cells #[.int .u8 0, .int .u8 0, .int .u8 0, .int .u8 0] 75) = wq at *
          obtain ⟨cb, hcb⟩ : ∃ cb, wm.heap.size = cb := ⟨_, rfl⟩
          have hcbw : w.heap.size + 2 ≤ cb := by have := HWM.out.kept.size; have := HBF.out.lt; omega
          have hcbb : wb.heap.size ≤ cb := by have := HWM.out.kept.size; omega
          have hmp := merge_props ap kk 1
          have hmr := merge_recs ap kk 1
          obtain ⟨a2, ha2⟩ : ∃ a2, abMerge ap kk 1 = a2 := ⟨_, rfl⟩
          have HRQ : Hid (RWent yb a V wb a2 V2 left dn wq) := (show RWent _ _ _ _ _ _ _ _ _ by rw [← ha2]; exact HWM.out.trans (RWent.below HWM.out.at' HWQ.out))
          have HBOQ : Hid (BoxAt wq w.heap.size old) := HBO2.out.below HWQ.out
          have HBFQ : Hid (BoxAt wq (w.heap.size + 1) fresh) := HBF2.out.below HWQ.out
          have HNC : Hid (∀ b, RFoot yb a2 V2 b → b ≠ cb) := fun b hb e => by rw [← ha2] at hb; have := HWM.out.at'.foot_lt hb; omega
          have HNN2 : Hid (a2.D + a2.P = nn) := (show _ = _ by rw [← ha2, hmp.1.D, hmp.1.P, HPR.out.D, HPR.out.P]; exact HNN.out)
          have HNOTE : Hid ((a2.recs kk).length < a.M ∧ ∀ x, abNote ap kk x = a2.setLog kk (a2.recs kk ++ [x])) := (show _ ∧ _ by
            rw [← ha2]
            refine ⟨by rw [hmr, List.length_drop, HLN.out]; have := HH.out.ok.M1; omega, fun x => ?_⟩
            exact abNote_full ap kk x (by rw [HPR.out.M, HLN.out]; omega))
          have HSM : Hid (SameAb a a2) := (show SameAb a a2 by rw [← ha2]; exact HPR.out.trans hmp.1)
          rw [hcb] at HCQ ⊢
          clear hcb HWQ H1 HBO1 HBF1 ha2 hwt HE0 HA HME HWM HBO2 HBF2 hmp hmr hgy
          have hwl := rW_lt p d (by omega)
          have HT : Hid (∀ W, Calls Tryz.prog 109 #[.int .i64 p, .int .i64 d] W fun e w' => e = .returned (.int .u8 (rW p d : Nat)) ∧ w' = W) := fun W => rtimes_any p d W (by omega)
          generalize rW p d = wg at *
          have HC0 : Hid (wq.rowIs cb 75 4 (fun j => .int .u8 (if j < 0 then Hd.mul (old.at j ^^^ fresh.at j) wg else 0 : Nat))) := World.rowIs.congr HCQ.out (fun j hj => by rw [if_neg (by omega), zero_at j hj])
          clear HCQ
          go_loopw [14] (fun c wi => ∃ m : Nat, m ≤ 4 ∧ c = .int .i64 m ∧ Hid (wi.rowIs cb 75 4 (fun j => .int .u8 (if j < m then Hd.mul (old.at j ^^^ fresh.at j) wg else 0 : Nat))) ∧ Hid (Kept (fun b => b = cb) wq wi)) (fun c _ => 4 - (intOf c).toNat)
          case atStart => exact ⟨0, by omega, rfl, HC0, Kept.refl _ _⟩
          case round =>
            clear HC0
            obtain ⟨m, hm, rfl, hrow, hkq⟩ := hrel
            have hbo : BoxAt wr w.heap.size old := World.rowIs.of_block HBOQ.out (hkq.out.block _ HBOQ.out.lt (by omega))
            have hbf : BoxAt wr (w.heap.size + 1) fresh := World.rowIs.of_block HBFQ.out (hkq.out.block _ HBFQ.out.lt (by omega))
            by_cases hm4 : m < 4
            · have hmi : (m : Int) < 4 := by omega
              have y0 := hrow.out.cell (i := m) (by omega)
              have f0 := hrow.out.frozen m
              have z0 := World.rowIs.cell hbo (i := m) (by omega)
              have z1 := World.rowIs.cell hbf (i := m) (by omega)
              have hyl := hrow.out.lt
              have hol := hbo.lt
              have hfl := hbf.lt
              have hxl := C4.at_lt HO.out m
              have hyy := C4.at_lt HF.out m
              have hxx := u8_xor_nat (old.at m) (fresh.at m) hxl hyy
              have hxo := Hd.xor_lt _ _ hxl hyy
              have HMU : Hid (∀ W, Calls Tryz.prog 20 #[.int .u8 (old.at m ^^^ fresh.at m : Nat), .int .u8 wg] W fun e w' => e = .returned (.int .u8 (Hd.mul (old.at m ^^^ fresh.at m) wg : Nat)) ∧ w' = W) := fun W => rmul_any _ wg W hxo hwl
              have HR5 : Hid ((wr.setCell ⟨cb, m, none⟩ (.int .u8 (Hd.mul (old.at m ^^^ fresh.at m) wg : Nat))).rowIs cb 75 4 (fun j => .int .u8 (if j < m + 1 then Hd.mul (old.at j ^^^ fresh.at j) wg else 0 : Nat))) := (hrow.out.set m _).congr (fun j hj => by
                by_cases e : j = m
                · rw [if_pos e, if_pos (by omega), e]
                · rw [if_neg e]
                  by_cases e2 : j < m
                  · rw [if_pos e2, if_pos (by omega)]
                  · rw [if_neg e2, if_neg (by omega)])
              have HK5 : Hid (Kept (fun b => b = cb) wq (wr.setCell ⟨cb, m, none⟩ (.int .u8 (Hd.mul (old.at m ^^^ fresh.at m) wg : Nat)))) := hkq.out.setCell (p := ⟨cb, m, none⟩) (.inl rfl) _
              generalize Hd.mul (old.at m ^^^ fresh.at m) wg = mu at *
              generalize old.at m ^^^ fresh.at m = xo at *
              generalize old.at m = om at *
              generalize fresh.at m = fm at *
              clear hrow hkq hbo hbf
              go_wp2_with fail
              go_region_with (first
                | (go_at_call 109; go_must (refine (HT.out _).mono ?_); rintro e W ⟨rfl, rfl⟩)
                | (go_at_call 20; go_must (refine (HMU.out _).mono ?_); rintro e W ⟨rfl, rfl⟩))
              all_goals
                go_wp2_with fail
                exact ⟨⟨m + 1, by omega, by go_num, by first | exact HR5 | exact World.rowIs.of_block HR5.out rfl, by first | exact HK5 | exact HK5.out.drew⟩, by simp [intOf]; omega⟩
            · have hme : m = 4 := by omega
              have hmi : ¬ ((m : Int) < 4) := by omega
              have HBC : Hid (BoxAt wr cb ((old.xor fresh).scale wg)) := (show BoxAt _ _ _ from hrow.out.congr (fun j hj => by
                rw [if_pos (by omega), C4.at_scale, C4.at_xor, Hd.mul_comm wg _ hwl (Hd.xor_lt _ _ (C4.at_lt HO.out j) (C4.at_lt HF.out j))]))
              have HKQ := hkq
              clear hme hrow hkq hbo hbf
              have h2 : RefIn wr yb a2 V2 left dn := HRQ.out.at'.of_block (fun b hb => HKQ.out.block b (HRQ.out.at'.foot_lt hb) (fun e => HNC.out b hb e))
              obtain ⟨_, _, _, _, q4, _⟩ := h2.cells
              have hlt2 := h2.row.lt
              obtain ⟨g2, cap2, e2, hg2, hgy2, hdr2⟩ := h2.drive
              obtain ⟨_, _, _, q3⟩ := hdr2 kk (by rw [HNN2.out]; omega)
              have hlg2 := h2.lg kk (by rw [HNN2.out]; omega)
              obtain ⟨p2, capl2, el2, _⟩ := hlg2.slice
              rw [HNN2.out] at e2
              have hf2 : wr.frozen? ⟨g2, kk * 4 + 3, none⟩ = false := (show _ = _ by
                have h1 := h2.dr
                rw [HNN2.out, e2] at h1
                exact World.ownsRow.frozenAt h1 _)
              have HOW : Hid (wr.ownsRow 0 92 5 (V2 (3 + 3 * kk)) (a2.recs kk).length (recCells (a2.recs kk))) := hlg2
              have HAP2 : Hid (V2 0 = .slice (some ⟨g2, 0, none⟩) nn cap2 ∧ V2 (3 + 3 * kk) = .slice p2 (a2.recs kk).length capl2) := ⟨e2, el2⟩
              have hneg : (Value.slice p2 (a2.recs kk).length capl2).ownBlock ≠ some g2 := fun e => h2.ap2 0 (3 + 3 * kk) g2 (by rw [HNN2.out]; omega) (by rw [HNN2.out]; omega) (by omega) (by rw [e2]; rfl) (by rw [el2]; exact e)
              have H2 : Hid (RefIn wr yb a2 V2 left dn) := h2
              rw [el2] at q3 HOW
              rw [e2] at q4
              have hcl2 := recCells_length (a2.recs kk)
              obtain ⟨s0, s1, s2, s3⟩ := HBC.out.cells
              have hsl := HBC.out.lt
              have HCK : Hid (((old.xor fresh).scale wg).ok) := C4.scale_ok hwl
              generalize (old.xor fresh).scale wg = SC at *
              clear h2 hdr2 e2 el2 hlg2
              generalize hl2 : (a2.recs kk).length = l2 at *
              have HL2 : Hid ((a2.recs kk).length = l2) := hl2
              clear hl2
              have hg2cb : g2 ≠ cb := fun e => HNC.out g2 (.inr ⟨0, by omega, by rw [HAP2.out.1]; rfl⟩) e
              have hyn : (Value.slice p2 l2 capl2).ownBlock ≠ some yb := fun e => H2.out.ap (3 + 3 * kk) (by rw [HNN2.out]; omega) (by rw [HAP2.out.2]; exact e)
              have hcn : (Value.slice p2 l2 capl2).ownBlock ≠ some cb := fun e => HNC.out cb (.inr ⟨3 + 3 * kk, by rw [HNN2.out]; omega, by rw [HAP2.out.2]; exact e⟩) rfl
              have HFIN : Hid (∀ g5 c5 w5, w5.ownsRow 0 92 5 (.slice (some ⟨g5, 0, none⟩) (l2 + 1) c5) (l2 + 1) (recCells (a2.recs kk) ++ Rec.cells ⟨r, SC⟩) → Lies (wr.alloc (Obj.cells #[.int .i64 r, .int .u8 SC.b0, .int .u8 SC.b1, .int .u8 SC.b2, .int .u8 SC.b3] 92)).drew w5 (.slice p2 l2 capl2) (.slice (some ⟨g5, 0, none⟩) (l2 + 1) c5) → RWent yb a V wb (abTakes a d r fresh (old.xor fresh) (parL a r (p + 1))) (setV V2 (3 + 3 * kk) (.slice (some ⟨g5, 0, none⟩) (l2 + 1) c5)) left dn (w5.setCell ⟨g2, kk * 4 + 3, none⟩ (.slice (some ⟨g5, 0, none⟩) (l2 + 1) c5))) := fun g5 c5 w5 hown5 hl5 => by
                have hb0 : Below wr.heap.size wr (wr.alloc (Obj.cells #[.int .i64 r, .int .u8 SC.b0, .int .u8 SC.b1, .int .u8 SC.b2, .int .u8 SC.b3] 92)).drew := ((Below.refl _ _).alloc (Nat.le_refl _) _).drew
                have hr1 : RWent yb a V wb a2 V2 left dn wr := ⟨H2.out, HRQ.out.kept.trans' HKQ.out (fun i hi => .inr (by have : i = cb := hi; omega)), HRQ.out.foot⟩
                have hr2 := H2.out.noteAt (W := (wr.alloc (Obj.cells #[.int .i64 r, .int .u8 SC.b0, .int .u8 SC.b1, .int .u8 SC.b2, .int .u8 SC.b3] 92)).drew) (w2 := w5) kk ⟨r, SC⟩ (by rw [HNN2.out]; omega) (by rw [HSM.out.D]; have := HKK.out; omega) (by rw [HSM.out.M, HL2.out]; exact HNOTE.out.1) (by rw [HSM.out.R]; exact hr) HCK.out g2 cap2 (by rw [HNN2.out]; exact HAP2.out.1) hb0 (.slice (some ⟨g5, 0, none⟩) (l2 + 1) c5) (by rw [HL2.out]; exact hown5) (by rw [HAP2.out.2]; exact hl5)
                have hr3 := hr1.trans hr2
                rw [HSK.out, HKK.out, HNOTE.out.2]
                exact hr3
              have hl28 : l2 < 8 := by have := HNOTE.out.1; omega
              clear HBOQ HBFQ HRQ HKQ H2 HAP2 HNC HNN2 HNOTE HSM HSK HCK HT HBC HL2 HPR HLN HKK HNN HIB HNR HBO HBF HB0 HH HO HF hfi hcl2
              go_wp2_with fail
              refine reg14 yb g2 cap2 nn kk r cb l2 capl2 p2 SC (recCells (a2.recs kk)) wr _ _ _ _ _ _ _ _ _ _ _ _ _ _ _ _ _ _ _ _ _ _ _ _ _ _ _ _ _ _ _ _ _ _ _ _ _ _ _ _ _ _ _ _ _ _ _ _ _ _ _ _ _ _ _ _ _ _ _ _ _ _ _ _ _ _ _ _ _ _ _ _ _ _ _ _ _ _ _ _ _ _ _ _ _ _ _ _ _ _ _ _ _ _ _ _ _ _ _ _ _ _ _ _ _ _ _ _ _ _ _ _ _ _ _ _ _ _ _ hki hk6 q4 q3 hf2 hlt2 hg2 s0 s1 s2 s3 hsl HOW.out hl28 hneg hyn hcn hgy2 hg2cb ?_
              intro g5 c5 w5 v72 v73 v74 v75 v76 v77 v78 v79 v80 v81 v82 v83 v84 v85 v86 v87 v88 v89 v90 v91 hown5 hl5
              have HT6 : Hid (RWent yb a V wb (abTakes a d r fresh (old.xor fresh) (parL a r (p + 1))) (setV V2 (3 + 3 * kk) (.slice (some ⟨g5, 0, none⟩) (l2 + 1) c5)) left dn (w5.setCell ⟨g2, kk * 4 + 3, none⟩ (.slice (some ⟨g5, 0, none⟩) (l2 + 1) c5))) := HFIN.out g5 c5 w5 hown5 hl5
              clear hown5 hl5 HFIN HOW q4 q3 hf2 s0 s1 s2 s3
              go_wp2_with fail
              exact ⟨⟨p + 1, _, by omega, by go_num, HT6⟩, by simp [intOf]; omega⟩
        · have hfi : ((ln : Int) == (a.M : Int)) = false := by rw [beq_eq_false_iff_ne]; omega
          go_wp2_with fail
          refine HA.out.mono ?_
          rintro e w2 ⟨rfl, hw2⟩
          obtain rfl := hw2.symm
          go_wp2_with fail
          go_region
          go_wp2_with fail
          have HWQ : Hid (Below wr.heap.size wr (wr.alloc (.cells #[.int .u8 0, .int .u8 0, .int .u8 0, .int .u8 0] 75)).drew) := ((Below.refl _ _).alloc (Nat.le_refl _) _).drew
          have HCQ : Hid (BoxAt (wr.alloc (.cells #[.int .u8 0, .int .u8 0, .int .u8 0, .int .u8 0] 75)).drew wr.heap.size C4.zero) := BoxAt.new0 _ _ rfl
          generalize (wr.alloc (.cells #[.int .u8 0, .int .u8 0, .int .u8 0, .int .u8 0] 75)).drew = wq at *
          obtain ⟨cb, hcb⟩ : ∃ cb, wr.heap.size = cb := ⟨_, rfl⟩
          obtain ⟨a2, V2, ha2⟩ : ∃ a2 V2, a2 = ap ∧ V2 = V' := ⟨_, _, rfl, rfl⟩
          have hcbw : w.heap.size + 2 ≤ cb := by have := hwt.out.kept.size; have := HBF.out.lt; omega
          have hcbb : wb.heap.size ≤ cb := by have := hwt.out.kept.size; omega
          have HRQ : Hid (RWent yb a V wb a2 V2 left dn wq) := (show RWent _ _ _ _ _ _ _ _ _ by rw [ha2.1, ha2.2]; exact hwt.out.trans (RWent.below H1.out HWQ.out))
          have HBOQ : Hid (BoxAt wq w.heap.size old) := HBO1.out.below HWQ.out
          have HBFQ : Hid (BoxAt wq (w.heap.size + 1) fresh) := HBF1.out.below HWQ.out
          have HNC : Hid (∀ b, RFoot yb a2 V2 b → b ≠ cb) := fun b hb e => by rw [ha2.1, ha2.2] at hb; have := H1.out.foot_lt hb; omega
          have HNN2 : Hid (a2.D + a2.P = nn) := (show _ = _ by rw [ha2.1, HPR.out.D, HPR.out.P]; exact HNN.out)
          have HNOTE : Hid ((a2.recs kk).length < a.M ∧ ∀ x, abNote ap kk x = a2.setLog kk (a2.recs kk ++ [x])) := (show _ ∧ _ by
            rw [ha2.1]
            refine ⟨by rw [HLN.out]; omega, fun x => ?_⟩
            unfold abNote
            rw [if_pos (by rw [HPR.out.M, HLN.out]; omega)])
          have HSM : Hid (SameAb a a2) := (show SameAb a a2 by rw [ha2.1]; exact HPR.out)
          rw [hcb] at HCQ ⊢
          clear hcb HWQ H1 HBO1 HBF1 c0 c1 c3 c4 d3 hlt hg hgy ha2 hwt HE0 HA
          have hwl := rW_lt p d (by omega)
          have HT : Hid (∀ W, Calls Tryz.prog 109 #[.int .i64 p, .int .i64 d] W fun e w' => e = .returned (.int .u8 (rW p d : Nat)) ∧ w' = W) := fun W => rtimes_any p d W (by omega)
          generalize rW p d = wg at *
          have HC0 : Hid (wq.rowIs cb 75 4 (fun j => .int .u8 (if j < 0 then Hd.mul (old.at j ^^^ fresh.at j) wg else 0 : Nat))) := World.rowIs.congr HCQ.out (fun j hj => by rw [if_neg (by omega), zero_at j hj])
          clear HCQ
          go_loopw [14] (fun c wi => ∃ m : Nat, m ≤ 4 ∧ c = .int .i64 m ∧ Hid (wi.rowIs cb 75 4 (fun j => .int .u8 (if j < m then Hd.mul (old.at j ^^^ fresh.at j) wg else 0 : Nat))) ∧ Hid (Kept (fun b => b = cb) wq wi)) (fun c _ => 4 - (intOf c).toNat)
          case atStart => exact ⟨0, by omega, rfl, HC0, Kept.refl _ _⟩
          case round =>
            clear HC0
            obtain ⟨m, hm, rfl, hrow, hkq⟩ := hrel
            have hbo : BoxAt wr w.heap.size old := World.rowIs.of_block HBOQ.out (hkq.out.block _ HBOQ.out.lt (by omega))
            have hbf : BoxAt wr (w.heap.size + 1) fresh := World.rowIs.of_block HBFQ.out (hkq.out.block _ HBFQ.out.lt (by omega))
            by_cases hm4 : m < 4
            · have hmi : (m : Int) < 4 := by omega
              have y0 := hrow.out.cell (i := m) (by omega)
              have f0 := hrow.out.frozen m
              have z0 := World.rowIs.cell hbo (i := m) (by omega)
              have z1 := World.rowIs.cell hbf (i := m) (by omega)
              have hyl := hrow.out.lt
              have hol := hbo.lt
              have hfl := hbf.lt
              have hxl := C4.at_lt HO.out m
              have hyy := C4.at_lt HF.out m
              have hxx := u8_xor_nat (old.at m) (fresh.at m) hxl hyy
              have hxo := Hd.xor_lt _ _ hxl hyy
              have HMU : Hid (∀ W, Calls Tryz.prog 20 #[.int .u8 (old.at m ^^^ fresh.at m : Nat), .int .u8 wg] W fun e w' => e = .returned (.int .u8 (Hd.mul (old.at m ^^^ fresh.at m) wg : Nat)) ∧ w' = W) := fun W => rmul_any _ wg W hxo hwl
              have HR5 : Hid ((wr.setCell ⟨cb, m, none⟩ (.int .u8 (Hd.mul (old.at m ^^^ fresh.at m) wg : Nat))).rowIs cb 75 4 (fun j => .int .u8 (if j < m + 1 then Hd.mul (old.at j ^^^ fresh.at j) wg else 0 : Nat))) := (hrow.out.set m _).congr (fun j hj => by
                by_cases e : j = m
                · rw [if_pos e, if_pos (by omega), e]
                · rw [if_neg e]
                  by_cases e2 : j < m
                  · rw [if_pos e2, if_pos (by omega)]
                  · rw [if_neg e2, if_neg (by omega)])
              have HK5 : Hid (Kept (fun b => b = cb) wq (wr.setCell ⟨cb, m, none⟩ (.int .u8 (Hd.mul (old.at m ^^^ fresh.at m) wg : Nat)))) := hkq.out.setCell (p := ⟨cb, m, none⟩) (.inl rfl) _
              generalize Hd.mul (old.at m ^^^ fresh.at m) wg = mu at *
              generalize old.at m ^^^ fresh.at m = xo at *
              generalize old.at m = om at *
              generalize fresh.at m = fm at *
              clear hrow hkq hbo hbf
              go_wp2_with fail
              go_region_with (first
                | (go_at_call 109; go_must (refine (HT.out _).mono ?_); rintro e W ⟨rfl, rfl⟩)
                | (go_at_call 20; go_must (refine (HMU.out _).mono ?_); rintro e W ⟨rfl, rfl⟩))
              all_goals
                go_wp2_with fail
                exact ⟨⟨m + 1, by omega, by go_num, by first | exact HR5 | exact World.rowIs.of_block HR5.out rfl, by first | exact HK5 | exact HK5.out.drew⟩, by simp [intOf]; omega⟩
            · have hme : m = 4 := by omega
              have hmi : ¬ ((m : Int) < 4) := by omega
              have HBC : Hid (BoxAt wr cb ((old.xor fresh).scale wg)) := (show BoxAt _ _ _ from hrow.out.congr (fun j hj => by
                rw [if_pos (by omega), C4.at_scale, C4.at_xor, Hd.mul_comm wg _ hwl (Hd.xor_lt _ _ (C4.at_lt HO.out j) (C4.at_lt HF.out j))]))
              have HKQ := hkq
              clear hme hrow hkq hbo hbf
              have h2 : RefIn wr yb a2 V2 left dn := HRQ.out.at'.of_block (fun b hb => HKQ.out.block b (HRQ.out.at'.foot_lt hb) (fun e => HNC.out b hb e))
              obtain ⟨_, _, _, _, q4, _⟩ := h2.cells
              have hlt2 := h2.row.lt
              obtain ⟨g2, cap2, e2, hg2, hgy2, hdr2⟩ := h2.drive
              obtain ⟨_, _, _, q3⟩ := hdr2 kk (by rw [HNN2.out]; omega)
              have hlg2 := h2.lg kk (by rw [HNN2.out]; omega)
              obtain ⟨p2, capl2, el2, _⟩ := hlg2.slice
              rw [HNN2.out] at e2
              have hf2 : wr.frozen? ⟨g2, kk * 4 + 3, none⟩ = false := (show _ = _ by
                have h1 := h2.dr
                rw [HNN2.out, e2] at h1
                exact World.ownsRow.frozenAt h1 _)
              have HOW : Hid (wr.ownsRow 0 92 5 (V2 (3 + 3 * kk)) (a2.recs kk).length (recCells (a2.recs kk))) := hlg2
              have HAP2 : Hid (V2 0 = .slice (some ⟨g2, 0, none⟩) nn cap2 ∧ V2 (3 + 3 * kk) = .slice p2 (a2.recs kk).length capl2) := ⟨e2, el2⟩
              have hneg : (Value.slice p2 (a2.recs kk).length capl2).ownBlock ≠ some g2 := fun e => h2.ap2 0 (3 + 3 * kk) g2 (by rw [HNN2.out]; omega) (by rw [HNN2.out]; omega) (by omega) (by rw [e2]; rfl) (by rw [el2]; exact e)
              have H2 : Hid (RefIn wr yb a2 V2 left dn) := h2
              rw [el2] at q3 HOW
              rw [e2] at q4
              have hcl2 := recCells_length (a2.recs kk)
              obtain ⟨s0, s1, s2, s3⟩ := HBC.out.cells
              have hsl := HBC.out.lt
              have HCK : Hid (((old.xor fresh).scale wg).ok) := C4.scale_ok hwl
              generalize (old.xor fresh).scale wg = SC at *
              clear h2 hdr2 e2 el2 hlg2
              generalize hl2 : (a2.recs kk).length = l2 at *
              have HL2 : Hid ((a2.recs kk).length = l2) := hl2
              clear hl2
              have hg2cb : g2 ≠ cb := fun e => HNC.out g2 (.inr ⟨0, by omega, by rw [HAP2.out.1]; rfl⟩) e
              have hyn : (Value.slice p2 l2 capl2).ownBlock ≠ some yb := fun e => H2.out.ap (3 + 3 * kk) (by rw [HNN2.out]; omega) (by rw [HAP2.out.2]; exact e)
              have hcn : (Value.slice p2 l2 capl2).ownBlock ≠ some cb := fun e => HNC.out cb (.inr ⟨3 + 3 * kk, by rw [HNN2.out]; omega, by rw [HAP2.out.2]; exact e⟩) rfl
              have HFIN : Hid (∀ g5 c5 w5, w5.ownsRow 0 92 5 (.slice (some ⟨g5, 0, none⟩) (l2 + 1) c5) (l2 + 1) (recCells (a2.recs kk) ++ Rec.cells ⟨r, SC⟩) → Lies (wr.alloc (Obj.cells #[.int .i64 r, .int .u8 SC.b0, .int .u8 SC.b1, .int .u8 SC.b2, .int .u8 SC.b3] 92)).drew w5 (.slice p2 l2 capl2) (.slice (some ⟨g5, 0, none⟩) (l2 + 1) c5) → RWent yb a V wb (abTakes a d r fresh (old.xor fresh) (parL a r (p + 1))) (setV V2 (3 + 3 * kk) (.slice (some ⟨g5, 0, none⟩) (l2 + 1) c5)) left dn (w5.setCell ⟨g2, kk * 4 + 3, none⟩ (.slice (some ⟨g5, 0, none⟩) (l2 + 1) c5))) := fun g5 c5 w5 hown5 hl5 => by
                have hb0 : Below wr.heap.size wr (wr.alloc (Obj.cells #[.int .i64 r, .int .u8 SC.b0, .int .u8 SC.b1, .int .u8 SC.b2, .int .u8 SC.b3] 92)).drew := ((Below.refl _ _).alloc (Nat.le_refl _) _).drew
                have hr1 : RWent yb a V wb a2 V2 left dn wr := ⟨H2.out, HRQ.out.kept.trans' HKQ.out (fun i hi => .inr (by have : i = cb := hi; omega)), HRQ.out.foot⟩
                have hr2 := H2.out.noteAt (W := (wr.alloc (Obj.cells #[.int .i64 r, .int .u8 SC.b0, .int .u8 SC.b1, .int .u8 SC.b2, .int .u8 SC.b3] 92)).drew) (w2 := w5) kk ⟨r, SC⟩ (by rw [HNN2.out]; omega) (by rw [HSM.out.D]; have := HKK.out; omega) (by rw [HSM.out.M, HL2.out]; exact HNOTE.out.1) (by rw [HSM.out.R]; exact hr) HCK.out g2 cap2 (by rw [HNN2.out]; exact HAP2.out.1) hb0 (.slice (some ⟨g5, 0, none⟩) (l2 + 1) c5) (by rw [HL2.out]; exact hown5) (by rw [HAP2.out.2]; exact hl5)
                have hr3 := hr1.trans hr2
                rw [HSK.out, HKK.out, HNOTE.out.2]
                exact hr3
              have hl28 : l2 < 8 := by have := HNOTE.out.1; omega
              clear HBOQ HBFQ HRQ HKQ H2 HAP2 HNC HNN2 HNOTE HSM HSK HCK HT HBC HL2 HPR HLN HKK HNN HIB HNR HBO HBF HB0 HH HO HF hfi hcl2
              go_wp2_with fail
              refine reg14 yb g2 cap2 nn kk r cb l2 capl2 p2 SC (recCells (a2.recs kk)) wr _ _ _ _ _ _ _ _ _ _ _ _ _ _ _ _ _ _ _ _ _ _ _ _ _ _ _ _ _ _ _ _ _ _ _ _ _ _ _ _ _ _ _ _ _ _ _ _ _ _ _ _ _ _ _ _ _ _ _ _ _ _ _ _ _ _ _ _ _ _ _ _ _ _ _ _ _ _ _ _ _ _ _ _ _ _ _ _ _ _ _ _ _ _ _ _ _ _ _ _ _ _ _ _ _ _ _ _ _ _ _ _ _ _ _ _ _ _ _ hki hk6 q4 q3 hf2 hlt2 hg2 s0 s1 s2 s3 hsl HOW.out hl28 hneg hyn hcn hgy2 hg2cb ?_
              intro g5 c5 w5 v72 v73 v74 v75 v76 v77 v78 v79 v80 v81 v82 v83 v84 v85 v86 v87 v88 v89 v90 v91 hown5 hl5
              have HT6 : Hid (RWent yb a V wb (abTakes a d r fresh (old.xor fresh) (parL a r (p + 1))) (setV V2 (3 + 3 * kk) (.slice (some ⟨g5, 0, none⟩) (l2 + 1) c5)) left dn (w5.setCell ⟨g2, kk * 4 + 3, none⟩ (.slice (some ⟨g5, 0, none⟩) (l2 + 1) c5))) := HFIN.out g5 c5 w5 hown5 hl5
              clear hown5 hl5 HFIN HOW q4 q3 hf2 s0 s1 s2 s3
              go_wp2_with fail
              exact ⟨⟨p + 1, _, by omega, by go_num, HT6⟩, by simp [intOf]; omega⟩
    · have hpe : p = a.P := by omega
      have hpi : ¬ ((p : Int) < (a.P : Int)) := by omega
      have hRW : RWent yb a V w (abTakes a d r fresh (old.xor fresh) (parL a r a.P)) V' left dn wr := (RWent.below HH.out HB0.out).trans (hpe ▸ hwt.out)
      obtain ⟨g, cap, e0, hg, hgy, hdr⟩ := h1.drive
      rw [hpr.1.D, hpr.1.P] at e0
      obtain ⟨d0, d1, d2, _⟩ := hdr d (by rw [hpr.1.D, hpr.1.P]; omega)
      obtain ⟨gb, capb, eb, hgb, hbt⟩ := h1.built d (by rw [hpr.1.D, hpr.1.P]; omega)
      obtain ⟨gc, capc, ec, hgc, hfz, hce⟩ := h1.cellsOf d (by rw [hpr.1.D, hpr.1.P]; omega)
      rw [hpr.1.R] at eb ec
      have hfb : wr.frozen? ⟨gb, r, none⟩ = false := by
        have h2 := h1.bt d (by rw [hpr.1.D, hpr.1.P]; omega)
        rw [hpr.1.R, eb] at h2
        exact World.ownsRow.frozenAt h2 _
      have b0 := hbt r (by rw [hpr.1.R]; exact hr)
      have x0 := hce r 0 (by rw [hpr.1.R]; exact hr) (by omega)
      have x1 := hce r 1 (by rw [hpr.1.R]; exact hr) (by omega)
      have x2 := hce r 2 (by rw [hpr.1.R]; exact hr) (by omega)
      have x3 := hce r 3 (by rw [hpr.1.R]; exact hr) (by omega)
      rw [Nat.add_zero] at x0
      have f0 := hfz (r * 4)
      have f1 := hfz (r * 4 + 1)
      have f2 := hfz (r * 4 + 2)
      have f3 := hfz (r * 4 + 3)
      rw [hpr.2.1] at d0
      obtain ⟨z0, z1, z2, z3⟩ := hbf.cells
      have hzl := hbf.lt
      have hgn : ∀ i j, i < 1 + 3 * (a.D + a.P) → j < 1 + 3 * (a.D + a.P) → i ≠ j → ∀ g', (V' i).ownBlock = some g' → (V' j).ownBlock ≠ some g' := fun i j hi hj hij g' h2 => h1.ap2 i j g' (by rw [hpr.1.D, hpr.1.P]; exact hi) (by rw [hpr.1.D, hpr.1.P]; exact hj) hij h2
      have hcy : gc ≠ yb := fun e => h1.ap (2 + 3 * d) (by rw [hpr.1.D, hpr.1.P]; omega) (by rw [ec, e]; rfl)
      have hcg : gc ≠ g := fun e => hgn (2 + 3 * d) 0 (by omega) (by omega) (by omega) g (by rw [ec, e]; rfl) (by rw [e0]; rfl)
      have hcb : gc ≠ gb := fun e => hgn (2 + 3 * d) (1 + 3 * d) (by omega) (by omega) (by omega) gb (by rw [ec, e]; rfl) (by rw [eb]; rfl)
      have hdi : (d : Int) < ((a.D + a.P : Nat) : Int) := by omega
      have hri : (r : Int) < (a.R : Int) := by omega
      have hd4 : d < 4 := by omega
      have hr6 : r < 6 := by omega
      cases hl : a.lost d
      · have HE : Hid (RWent yb a V w (abTakes a d r fresh (old.xor fresh) (takersL a d r)) V' left dn (((((wr.setCell ⟨gc, r * 4, none⟩ (.int .u8 fresh.b0)).setCell ⟨gc, r * 4 + 1, none⟩ (.int .u8 fresh.b1)).setCell ⟨gc, r * 4 + 2, none⟩ (.int .u8 fresh.b2)).setCell ⟨gc, r * 4 + 3, none⟩ (.int .u8 fresh.b3)).setCell ⟨gb, r, none⟩ (.bool true))) := (show RWent _ _ _ _ _ _ _ _ _ by
          have e1 : abTakes a d r fresh (old.xor fresh) (takersL a d r) = (abTakes a d r fresh (old.xor fresh) (parL a r a.P)).layC d r fresh := by
            unfold takersL
            rw [hl]
            simp only [Bool.false_eq_true, if_false]
            rw [abTakes_snoc]
            unfold abTake
            rw [if_pos rfl]
          rw [e1]
          have h2 := hRW.at'.layC d r fresh (by rw [(takes_props a d r fresh (old.xor fresh) (parL a r a.P)).1.D, (takes_props a d r fresh (old.xor fresh) (parL a r a.P)).1.P]; omega) (by rw [(takes_props a d r fresh (old.xor fresh) (parL a r a.P)).1.R]; exact hr) (by rw [(takes_props a d r fresh (old.xor fresh) (parL a r a.P)).2.1]; exact hl) HF.out gc capc gb capb (by rw [(takes_props a d r fresh (old.xor fresh) (parL a r a.P)).1.R]; exact ec) (by rw [(takes_props a d r fresh (old.xor fresh) (parL a r a.P)).1.R]; exact eb)
          refine hRW.trans ⟨h2, ?_, fun k hk => .inl hk⟩
          have hin1 : RFoot yb (abTakes a d r fresh (old.xor fresh) (parL a r a.P)) V' gc := .inr ⟨2 + 3 * d, by rw [(takes_props a d r fresh (old.xor fresh) (parL a r a.P)).1.D, (takes_props a d r fresh (old.xor fresh) (parL a r a.P)).1.P]; omega, by rw [ec]; rfl⟩
          have hin2 : RFoot yb (abTakes a d r fresh (old.xor fresh) (parL a r a.P)) V' gb := .inr ⟨1 + 3 * d, by rw [(takes_props a d r fresh (old.xor fresh) (parL a r a.P)).1.D, (takes_props a d r fresh (old.xor fresh) (parL a r a.P)).1.P]; omega, by rw [eb]; rfl⟩
          exact (((((Kept.refl _ _).setCell (.inl hin1) _).setCell (.inl hin1) _).setCell (.inl hin1) _).setCell (.inl hin1) _).setCell (.inl hin2) _)
        rw [hl] at d0
        rw [e0] at c4
        rw [eb] at d1
        rw [ec] at d2
        generalize a.D + a.P = nn at *
        clear h1 hpr hdr hbt hce hfz hgn hl hbo hbf e0 eb ec hRW hwt hpe HH HB0 HBO HBF HIB HNR HO HF
        go_wp2_with fail
        go_region
        go_wp2_with fail
        go_end0
        exact ⟨rfl, _, by first | exact HE.out | exact HE.out.drew⟩
      · have HE : Hid (RWent yb a V w (abTakes a d r fresh (old.xor fresh) (takersL a d r)) V' left dn wr) := (show RWent _ _ _ _ _ _ _ _ _ by
          unfold takersL
          rw [hl]
          simp only [if_true, List.append_nil]
          exact hRW)
        rw [hl] at d0
        rw [e0] at c4
        clear h1 hpr hdr hbt hce hfz hgn hl hbo hbf e0 eb ec
        generalize a.D + a.P = nn at *
        go_wp2_with fail
        go_end0
        exact ⟨rfl, _, HE.out⟩
end Go.Proofs.YtfpoiikhhjdpdaaGreat
