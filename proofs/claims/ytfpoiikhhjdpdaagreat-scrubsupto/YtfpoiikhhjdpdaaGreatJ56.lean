import Derived.Test.YtfpoiikhhjdpdaaGreatJ55
import Derived.Test.YtfpoiikhhjdpdaaGreatJ20
import Derived.Test.YtfpoiikhhjdpdaaGreatJ27
/- The document: Scrub. -/
namespace Go.Proofs.YtfpoiikhhjdpdaaGreat
open Go.RowKit
set_option linter.unusedVariables false
attribute [local go_sem ↓] Go.wp_at_zero Go.wp_at_succ
set_option maxRecDepth 100000 in
set_option maxHeartbeats 1000000 in
theorem rScrub_down (yb : Nat) (a : Ab) (V : Nat → Value) (left : Int) (r : Int) (w : World) (h : RefIn w yb a V left true) :
    Calls Tryz.prog 59 #[.pointer (some ⟨yb, 0, none⟩), .int .i64 r] w fun e w' => e = .returned (.tuple #[.int .i64 0, .int .i64 3]) ∧ Below w.heap.size w w' := by
  obtain ⟨_, _, _, _, _, _, _, c7⟩ := h.cells
  have hlt := h.row.lt
  clear h
  go_enter Tryz.func59, Tryz.ntmps59
  go_wp2_with fail
  go_ret2
  exact ⟨rfl, by repeat (first | exact Below.refl _ _ | refine Below.drew ?_)⟩
set_option maxRecDepth 100000 in
set_option maxHeartbeats 1000000 in
theorem rScrub_arg (yb : Nat) (a : Ab) (V : Nat → Value) (left : Int) (r : Int) (w : World) (h : RefIn w yb a V left false) (hr : r < 0 ∨ (a.R : Int) ≤ r) :
    Calls Tryz.prog 59 #[.pointer (some ⟨yb, 0, none⟩), .int .i64 r] w fun e w' => e = .returned (.tuple #[.int .i64 0, .int .i64 1]) ∧ Below w.heap.size w w' := by
  obtain ⟨_, _, c2, _, _, _, _, c7⟩ := h.cells
  have hlt := h.row.lt
  clear h
  by_cases h1 : r < 0
  · have h1' : decide (r < 0) = true := by simpa using h1
    clear hr
    go_enter Tryz.func59, Tryz.ntmps59
    go_wp2_with fail
    go_ret2
    exact ⟨rfl, by repeat (first | exact Below.refl _ _ | refine Below.drew ?_)⟩
  · have h1' : decide (r < 0) = false := by simpa using h1
    have h2 : (a.R : Int) ≤ r := by omega
    have h2' : decide ((a.R : Int) ≤ r) = true := by simpa using h2
    clear hr
    go_enter Tryz.func59, Tryz.ntmps59
    go_wp2_with fail
    go_ret2
    exact ⟨rfl, by repeat (first | exact Below.refl _ _ | refine Below.drew ?_)⟩
theorem explL_lt (a : Ab) (r n d : Nat) (h : d ∈ explL a r n) : d < n := by
  induction n with
  | zero => simp [explL] at h
  | succ n ih =>
    simp only [explL] at h
    split at h
    · rw [List.mem_append] at h
      rcases h with h | h
      · have := ih h; omega
      · rw [List.mem_singleton.1 h]; omega
    · have := ih h; omega
theorem explL_mem (a : Ab) (r n d : Nat) (h : d ∈ explL a r n) : explB a d r = true := by
  induction n with
  | zero => simp [explL] at h
  | succ n ih =>
    simp only [explL] at h
    split at h
    · rename_i he
      rw [List.mem_append] at h
      rcases h with h | h
      · exact ih h
      · rw [List.mem_singleton.1 h]; exact he
    · exact ih h
theorem explL_mono (a : Ab) (r n k : Nat) : (explL a r n).length ≤ (explL a r (n + k)).length := by
  induction k with
  | zero => exact Nat.le_refl _
  | succ k ih =>
    refine Nat.le_trans ih ?_
    show _ ≤ (explL a r (n + k + 1)).length
    simp only [explL]
    split
    · rw [List.length_append]; omega
    · exact Nat.le_refl _
/-- What Scrub of a row leaves. -/
structure SPost (yb : Nat) (a : Ab) (V : Nat → Value) (left : Int) (r : Nat) (w : World) (e : Ending) (w' : World) : Prop where
  state : wholeB a r = false → e = .returned (.tuple #[.int .i64 0, .int .i64 7]) ∧ RWent yb a V w a V left false w'
  fine : wholeB a r = true → eqHoldB a r = true → e = .returned (.tuple #[.int .i64 (-1), .int .i64 0]) ∧ RWent yb a V w a V left false w'
  bad : wholeB a r = true → eqHoldB a r = false → (explL a r (a.D + a.P)).length ≠ 1 → e = .returned (.tuple #[.int .i64 0, .int .i64 8]) ∧ RWent yb a V w a V left false w'
  mends : ∀ d, wholeB a r = true → eqHoldB a r = false → explL a r (a.D + a.P) = [d] → e = .returned (.tuple #[.int .i64 (d : Nat), .int .i64 0]) ∧ RWent yb a V w (a.setCell d r ((a.cell d r).xor (mendC a d r))) V left false w'
theorem SPost.of_state {yb : Nat} {a : Ab} {V : Nat → Value} {left : Int} {r : Nat} {w w' : World} {e : Ending} (h : wholeB a r = false) (he : e = .returned (.tuple #[.int .i64 0, .int .i64 7])) (hw : RWent yb a V w a V left false w') : SPost yb a V left r w e w' :=
  ⟨fun _ => ⟨he, hw⟩, fun h1 => (by rw [h] at h1; cases h1), fun h1 => (by rw [h] at h1; cases h1), fun d h1 => (by rw [h] at h1; cases h1)⟩
theorem SPost.of_fine {yb : Nat} {a : Ab} {V : Nat → Value} {left : Int} {r : Nat} {w w' : World} {e : Ending} (h : wholeB a r = true) (h2 : eqHoldB a r = true) (he : e = .returned (.tuple #[.int .i64 (-1), .int .i64 0])) (hw : RWent yb a V w a V left false w') : SPost yb a V left r w e w' :=
  ⟨fun h1 => (by rw [h] at h1; cases h1), fun _ _ => ⟨he, hw⟩, fun _ h1 => (by rw [h2] at h1; cases h1), fun d _ h1 => (by rw [h2] at h1; cases h1)⟩
theorem SPost.of_bad {yb : Nat} {a : Ab} {V : Nat → Value} {left : Int} {r : Nat} {w w' : World} {e : Ending} (h : wholeB a r = true) (h2 : eqHoldB a r = false) (h3 : (explL a r (a.D + a.P)).length ≠ 1) (he : e = .returned (.tuple #[.int .i64 0, .int .i64 8])) (hw : RWent yb a V w a V left false w') : SPost yb a V left r w e w' :=
  ⟨fun h1 => (by rw [h] at h1; cases h1), fun _ h1 => (by rw [h2] at h1; cases h1), fun _ _ _ => ⟨he, hw⟩, fun d _ _ h1 => (by rw [h1] at h3; exact absurd rfl h3)⟩
theorem SPost.of_mends {yb : Nat} {a : Ab} {V : Nat → Value} {left : Int} {r d : Nat} {w w' : World} {e : Ending} (h : wholeB a r = true) (h2 : eqHoldB a r = false) (h3 : explL a r (a.D + a.P) = [d]) (he : e = .returned (.tuple #[.int .i64 (d : Nat), .int .i64 0])) (hw : RWent yb a V w (a.setCell d r ((a.cell d r).xor (mendC a d r))) V left false w') : SPost yb a V left r w e w' :=
  ⟨fun h1 => (by rw [h] at h1; cases h1), fun _ h1 => (by rw [h2] at h1; cases h1), fun _ _ h1 => (by rw [h3] at h1; exact absurd rfl h1), fun d' _ _ h1 => (by
    rw [h3] at h1
    injection h1 with h1
    subst h1; exact ⟨he, hw⟩)⟩
def whoV (o : Option Nat) : Int := match o with
  | none => -1
  | some x => (x : Int)
def mendO (a : Ab) (r : Nat) (o : Option Nat) : C4 := match o with
  | none => C4.zero
  | some x => explC a x r
theorem explC_ok {a : Ab} (h : a.ok) (d r : Nat) : (explC a d r).ok := by
  unfold explC
  split
  · exact C4.xor_ok (h.cells d r) (mendC_ok h d r)
  · exact h.cells d r
set_option maxRecDepth 100000 in
set_option maxHeartbeats 4000000 in
theorem rScrub_row (yb : Nat) (a : Ab) (V : Nat → Value) (left : Int) (r : Nat) (w : World) (h : RefIn w yb a V left false) (hr : r < a.R) :
    Calls Tryz.prog 59 #[.pointer (some ⟨yb, 0, none⟩), .int .i64 r] w (SPost yb a V left r w) := by
  have HH : Hid (RefIn w yb a V left false) := h
  have hD4 := h.ok.D4
  have hP2 := h.ok.P2
  have hD1 := h.ok.D1
  have hlt := h.row.lt
  obtain ⟨_, _, c2, _, c4, _, _, c7⟩ := h.cells
  obtain ⟨g, cap, e0, hg, hgy, hdr⟩ := h.drive
  rw [e0] at c4
  have hri : (r : Int) < (a.R : Int) := by omega
  have hri2 : ¬ ((a.R : Int) ≤ (r : Int)) := by omega
  have HE0 : Hid (V 0 = .slice (some ⟨g, 0, none⟩) (a.D + a.P) cap) := e0
  have HOK : Hid (a.ok) := h.ok
  clear h hdr e0
  generalize hnn : a.D + a.P = nn at *
  have HNN : Hid (a.D + a.P = nn) := hnn
  have hn6 : nn ≤ 6 := by omega
  clear hnn
  go_enter Tryz.func59, Tryz.ntmps59
  go_wp2_with fail
  clear c2 c7
  go_loopw [6, 7] (fun c _ wr => ∃ k : Nat, k ≤ nn ∧ c = .int .i64 k ∧ Hid (∀ j, j < k → avB a j r = true) ∧ Below w.heap.size w wr) (fun c _ _ => nn - (intOf c).toNat)
  case atStart => exact ⟨0, by omega, rfl, (show ∀ j, j < 0 → _ from fun j hj => by omega), by repeat (first | exact Below.refl _ _ | refine Below.drew ?_)⟩
  case round =>
    obtain ⟨k, hk, rfl, hav, hbel⟩ := hrel
    have c4r := below_cell' hbel c4
    have hlt2 := Nat.lt_of_lt_of_le hlt hbel.size
    by_cases hkn : k < nn
    · have hki : (k : Int) < (nn : Int) := by omega
      have HA : Hid (Calls Tryz.prog 77 #[.pointer (some ⟨yb, 0, none⟩), .int .i64 k, .int .i64 r] wr fun e w' => e = .returned (.bool (avB a k r)) ∧ w' = wr) := ravail_any yb a V left false k r wr (HH.out.below hbel) (by rw [HNN.out]; exact hkn) hr
      have HBW : Hid (Below w.heap.size w wr) := hbel
      clear hbel
      cases hv : avB a k r
      · rw [hv] at HA
        have HWN : Hid (wholeB a r = false) := wholeTo_no a r k hv _ (by rw [HNN.out]; exact hkn)
        clear hv hav
        go_wp2_with fail
        refine HA.out.mono ?_
        rintro e w2 ⟨rfl, rfl⟩
        go_wp2_with fail
        go_ret2
        exact SPost.of_state HWN.out rfl (RWent.below HH.out (by repeat (first | exact HBW.out | refine Below.drew ?_)))
      · rw [hv] at HA
        have HAV : Hid (∀ j, j < k + 1 → avB a j r = true) := fun j hj => by
          by_cases e : j = k
          · rw [e]; exact hv
          · exact hav.out j (by omega)
        clear hv hav
        go_wp2_with fail
        refine HA.out.mono ?_
        rintro e w2 ⟨rfl, rfl⟩
        go_wp2_with fail
        exact ⟨⟨k + 1, by omega, by go_num, HAV, HBW.out⟩, by simp [intOf]; omega⟩
    · have hke : k = nn := by omega
      have hki : ¬ ((k : Int) < (nn : Int)) := by omega
      have HWH : Hid (wholeB a r = true) := (show _ = _ by unfold wholeB; rw [wholeTo_iff, HNN.out]; intro j hj; exact hav.out j (by omega))
      have HBW : Hid (Below w.heap.size w wr) := hbel
      have HAV : Hid (∀ c, c < a.D → avB a c r = true) := fun c hc => hav.out c (by have := HNN.out; omega)
      clear hbel hav hke
      go_wp2_with fail
      have HM0 : Hid (BoxAt (wr.alloc (Obj.cells #[.int .u8 0, .int .u8 0, .int .u8 0, .int .u8 0] 75)) wr.heap.size (mendO a r none)) := BoxAt.new0 wr _ rfl
      have HR0 : Hid (RWent yb a V w a V left false (wr.alloc (Obj.cells #[.int .u8 0, .int .u8 0, .int .u8 0, .int .u8 0] 75))) := RWent.below HH.out (HBW.out.alloc HBW.out.size _)
      have HMB : Hid (w.heap.size ≤ wr.heap.size) := HBW.out.size
      have HLT : Hid (∀ b, RFoot yb a V b → b < w.heap.size) := fun b hb => HH.out.foot_lt hb
      generalize wr.alloc (Obj.cells #[.int .u8 0, .int .u8 0, .int .u8 0, .int .u8 0] 75) = wb at *
      generalize wr.heap.size = mb at *
      clear c4r hlt2 HBW hkn hk hki
      go_loopw [8, 10, 11, 12] (fun who c _ _ wi => ∃ (k : Nat) (o : Option Nat), k ≤ nn ∧ c = .int .i64 k ∧ who = .int .i64 (whoV o) ∧ Hid (explL a r k = o.toList) ∧ Hid (eqHoldB a r = true → k = 0) ∧ Hid (RWent yb a V w a V left false wi) ∧ Hid (BoxAt wi mb (mendO a r o))) (fun _ c _ _ _ => nn - (intOf c).toNat)
      case atStart => exact ⟨0, none, by omega, rfl, rfl, rfl, (show _ → _ from fun _ => rfl), HR0, HM0⟩
      case round =>
        clear HM0 HR0
        obtain ⟨k, o, hk, rfl, rfl, hex, hk0, hwt, hmd⟩ := hrel
        have h1 := hwt.out.at'
        obtain ⟨_, _, _, _, c4r, _⟩ := h1.cells
        rw [HE0.out] at c4r
        have hlt2 := h1.row.lt
        by_cases hkn : k < nn
        · have hki : (k : Int) < (nn : Int) := by omega
          have hdk : k < a.D + a.P := by rw [HNN.out]; exact hkn
          have HX : Hid (Calls Tryz.prog 94 #[.pointer (some ⟨yb, 0, none⟩), .int .i64 k, .int .i64 r] wr fun e w' => e = .returned (.tuple #[.agg #[.int .u8 (explC a k r).b0, .int .u8 (explC a k r).b1, .int .u8 (explC a k r).b2, .int .u8 (explC a k r).b3], .bool (explB a k r)]) ∧ RWent yb a V wr a V left false w') := rexplains_any yb a V left false k r wr h1 hdk hr HAV.out
          have HLS : Hid (explL a r (k + 1) = if explB a k r then explL a r k ++ [k] else explL a r k) := rfl
          have HW2 : Hid (∀ w2, RWent yb a V wr a V left false w2 → RWent yb a V w a V left false w2 ∧ BoxAt w2 mb (mendO a r o)) := fun w2 hw2 => ⟨hwt.out.trans hw2, World.rowIs.of_block hmd.out (hw2.kept.block mb hmd.out.lt (fun hf => by have := HLT.out mb hf; have := HMB.out; omega))⟩
          have hk6 : k < 6 := by omega
          have hr6 : r < 6 := by have := HOK.out.R6; omega
          clear h1 hwt hmd
          go_wp2_with fail
          refine HX.out.mono ?_
          rintro e w2 ⟨rfl, hw2⟩
          obtain ⟨g1, g2⟩ := HW2.out w2 hw2
          have HG1 : Hid (RWent yb a V w a V left false w2) := g1
          have HG2 : Hid (BoxAt w2 mb (mendO a r o)) := g2
          have h2 := g1.at'
          obtain ⟨_, _, _, _, c4, _⟩ := h2.cells
          rw [HE0.out] at c4
          have hl2 := h2.row.lt
          obtain ⟨g', cap', e0, hg', hgy', hdr⟩ := h2.drive
          have egg : (Value.slice (some ⟨g', 0, none⟩) (a.D + a.P) cap') = .slice (some ⟨g, 0, none⟩) nn cap := e0.symm.trans HE0.out
          simp only [Value.slice.injEq, Option.some.injEq, Addr.mk.injEq, and_true] at egg
          obtain ⟨rfl, _, rfl⟩ := egg
          obtain ⟨_, _, d2, _⟩ := hdr k hdk
          obtain ⟨gc, capc, ec, hgc, hfz, hce⟩ := h2.cellsOf k hdk
          rw [ec] at d2
          have x0 : w2.cell? ⟨gc, r * 4, none⟩ = some (.int .u8 (a.cell k r).b0) := hce r 0 hr (by omega)
          have x1 : w2.cell? ⟨gc, r * 4 + 1, none⟩ = some (.int .u8 (a.cell k r).b1) := hce r 1 hr (by omega)
          have x2 : w2.cell? ⟨gc, r * 4 + 2, none⟩ = some (.int .u8 (a.cell k r).b2) := hce r 2 hr (by omega)
          have x3 : w2.cell? ⟨gc, r * 4 + 3, none⟩ = some (.int .u8 (a.cell k r).b3) := hce r 3 hr (by omega)
          have HN1 : Hid (w2.heap.size ≠ mb ∧ mb < w2.heap.size) := ⟨by have := g2.lt; omega, g2.lt⟩
          clear g1 g2 h2 hw2 hdr hce hfz ec e0 c4r hlt2 HX HW2
          have HSUF : Hid (∀ W, Below w2.heap.size w2 W → RWent yb a V w a V left false W ∧ BoxAt W mb (mendO a r o)) := fun W hb => ⟨HG1.out.trans (RWent.below HG1.out.at' hb), HG2.out.below hb⟩
          cases hx : explB a k r
          · have HL1 : Hid (explL a r (k + 1) = o.toList) := (show _ = _ by rw [HLS.out, hx]; exact hex.out)
            have HQ1 : Hid (eqHoldB a r = true → k + 1 = 0) := fun hq => by
              have := (eq_expl a k r hdk HOK.out.P1 hq).1
              rw [hx] at this; cases this
            clear hx hex hk0 HLS
            generalize explC a k r = EC at *
            go_wp2_with fail
            exact ⟨⟨k + 1, o, by omega, by go_num, rfl, HL1, HQ1, (HSUF.out _ (by repeat (first | exact Below.refl _ _ | refine Below.drew ?_ | refine Below.alloc ?_ (by simp) _))).1, (HSUF.out _ (by repeat (first | exact Below.refl _ _ | refine Below.drew ?_ | refine Below.alloc ?_ (by simp) _))).2⟩, by simp [intOf]; omega⟩
          · have HXC : Hid (explC a k r = (a.cell k r).xor (mendC a k r)) := (show _ = _ by unfold explC; rw [if_pos hx])
            cases hq : eqHoldB a r
            · have hbq : (explC a k r).beq (a.cell k r) = false := by
                cases hb : (explC a k r).beq (a.cell k r)
                · rfl
                · exfalso
                  have h3 := (C4.beq_iff _ _).1 hb
                  rw [HXC.out, xor_same] at h3
                  have h4 := expl_eq a k r hx h3
                  rw [hq] at h4; cases h4
              have hrun := cell_run (explC a k r) (a.cell k r) false hbq
              have HQ : Hid (eqHoldB a r = false) := hq
              clear hbq
              cases o with
              | none =>
                have HL1 : Hid (explL a r (k + 1) = (some k : Option Nat).toList) := (show _ = _ by rw [HLS.out, hx, hex.out]; rfl)
                have HQ1 : Hid (eqHoldB a r = true → k + 1 = 0) := fun h5 => (by rw [hq] at h5; cases h5)
                obtain ⟨n0, n1, n2, n3⟩ := HG2.out.cells
                obtain ⟨m0, m1, m2, m3⟩ := HG2.out.frz
                have hml := HG2.out.lt
                have hne := HN1.out.1
                have HSET : Hid (∀ W, Below w2.heap.size w2 W → RWent yb a V w a V left false ((((W.setCell ⟨mb, 0, none⟩ (.int .u8 (explC a k r).b0)).setCell ⟨mb, 1, none⟩ (.int .u8 (explC a k r).b1)).setCell ⟨mb, 2, none⟩ (.int .u8 (explC a k r).b2)).setCell ⟨mb, 3, none⟩ (.int .u8 (explC a k r).b3)) ∧ BoxAt ((((W.setCell ⟨mb, 0, none⟩ (.int .u8 (explC a k r).b0)).setCell ⟨mb, 1, none⟩ (.int .u8 (explC a k r).b1)).setCell ⟨mb, 2, none⟩ (.int .u8 (explC a k r).b2)).setCell ⟨mb, 3, none⟩ (.int .u8 (explC a k r).b3)) mb (mendO a r (some k))) := fun W hb => by
                  obtain ⟨q1, q2⟩ := HSUF.out W hb
                  have hbb := below_set4 (Below.refl w.heap.size W) HMB.out (.int .u8 (explC a k r).b0) (.int .u8 (explC a k r).b1) (.int .u8 (explC a k r).b2) (.int .u8 (explC a k r).b3)
                  exact ⟨⟨q1.at'.of_block (fun b hb2 => hbb.block b (HLT.out b hb2)), ⟨hbb.os.trans q1.kept.os, hbb.tape.trans q1.kept.tape, hbb.output.trans q1.kept.output, Nat.le_trans q1.kept.size hbb.size, fun b hb2 hn => (hbb.block b hb2).trans (q1.kept.block b hb2 hn)⟩, q1.foot⟩, q2.set _⟩
                clear hx hex hk0 HLS hq HXC HSUF
                generalize explC a k r = EC at *
                generalize a.cell k r = CK at *
                unfold whoV
                go_wp2_with fail
                go_quiet (fail)
                go_wp2_with fail
                exact ⟨⟨k + 1, some k, by omega, by go_num, rfl, HL1, HQ1, (HSET.out _ (by repeat (first | exact Below.refl _ _ | refine below_drewN ?_ _ | refine Below.drew ?_ | refine Below.alloc ?_ (by simp) _))).1, (HSET.out _ (by repeat (first | exact Below.refl _ _ | refine below_drewN ?_ _ | refine Below.drew ?_ | refine Below.alloc ?_ (by simp) _))).2⟩, by simp [intOf]; omega⟩
              | some x =>
                have HNO : Hid ((explL a r (a.D + a.P)).length ≠ 1) := (show _ ≠ _ by
                  have h5 : explL a r (k + 1) = [x, k] := by rw [HLS.out, hx, hex.out]; rfl
                  have h6 := explL_mono a r (k + 1) (a.D + a.P - (k + 1))
                  rw [h5, show k + 1 + (a.D + a.P - (k + 1)) = a.D + a.P by omega] at h6
                  simp only [List.length_cons, List.length_nil] at h6
                  omega)
                clear hx hex hk0 HLS hq HXC
                generalize explC a k r = EC at *
                generalize a.cell k r = CK at *
                unfold whoV
                go_wp2_with fail
                go_quiet (fail)
                go_wp2_with fail
                go_ret2
                exact SPost.of_bad HWH.out HQ.out HNO.out rfl (HSUF.out _ (by repeat (first | exact Below.refl _ _ | refine below_drewN ?_ _ | refine Below.drew ?_ | refine Below.alloc ?_ (by simp) _))).1
            · have hmz := (eq_expl a k r hdk HOK.out.P1 hq).2
              have hbq : (explC a k r).beq (a.cell k r) = true := (C4.beq_iff _ _).2 (by rw [HXC.out, xor_same]; exact hmz)
              have hrun := cell_run (explC a k r) (a.cell k r) true hbq
              have HQ : Hid (eqHoldB a r = true) := hq
              clear hbq hmz hx hex hk0 HLS hq HXC
              generalize explC a k r = EC at *
              generalize a.cell k r = CK at *
              go_wp2_with fail
              go_quiet (fail)
              go_wp2_with fail
              go_ret2
              exact SPost.of_fine HWH.out HQ.out rfl (HSUF.out _ (by repeat (first | exact Below.refl _ _ | refine below_drewN ?_ _ | refine Below.drew ?_ | refine Below.alloc ?_ (by simp) _))).1
        · have hke : k = nn := by omega
          have hki : ¬ ((k : Int) < (nn : Int)) := by omega
          have HQ : Hid (eqHoldB a r = false) := (show _ = _ by
            cases hq : eqHoldB a r
            · rfl
            · have h5 := hk0.out hq
              have h6 := HNN.out
              omega)
          have HEX : Hid (explL a r (a.D + a.P) = o.toList) := (show _ = _ by rw [HNN.out, ← hke]; exact hex.out)
          cases o with
          | none =>
            have HNO : Hid ((explL a r (a.D + a.P)).length ≠ 1) := (show _ ≠ _ by rw [HEX.out]; simp)
            have HW : Hid (RWent yb a V w a V left false wr) := hwt
            clear h1 hwt hmd hex hk0 hke
            unfold whoV
            go_wp2_with fail
            go_ret2
            exact SPost.of_bad HWH.out HQ.out HNO.out rfl (by first | exact HW.out | exact HW.out.like rfl rfl rfl rfl)
          | some x =>
            have hxn : x < a.D + a.P := explL_lt a r _ x (by rw [HEX.out]; simp)
            have hxi : (x : Int) < (nn : Int) := by have := HNN.out; omega
            have hxl : explB a x r = true := by
              have : x ∈ explL a r (a.D + a.P) := by rw [HEX.out]; simp
              exact explL_mem a r _ x this
            have hxc : explC a x r = (a.cell x r).xor (mendC a x r) := by unfold explC; rw [if_pos hxl]
            obtain ⟨g', cap', e0, hg', hgy', hdr⟩ := h1.drive
            have egg : (Value.slice (some ⟨g', 0, none⟩) (a.D + a.P) cap') = .slice (some ⟨g, 0, none⟩) nn cap := e0.symm.trans HE0.out
            simp only [Value.slice.injEq, Option.some.injEq, Addr.mk.injEq, and_true] at egg
            obtain ⟨rfl, _, rfl⟩ := egg
            obtain ⟨_, _, d2, _⟩ := hdr x hxn
            obtain ⟨gc, capc, ec, hgc, hfz, hce⟩ := h1.cellsOf x hxn
            have x0 : wr.cell? ⟨gc, r * 4, none⟩ = some (.int .u8 (a.cell x r).b0) := hce r 0 hr (by omega)
            have x1 : wr.cell? ⟨gc, r * 4 + 1, none⟩ = some (.int .u8 (a.cell x r).b1) := hce r 1 hr (by omega)
            have x2 : wr.cell? ⟨gc, r * 4 + 2, none⟩ = some (.int .u8 (a.cell x r).b2) := hce r 2 hr (by omega)
            have x3 : wr.cell? ⟨gc, r * 4 + 3, none⟩ = some (.int .u8 (a.cell x r).b3) := hce r 3 hr (by omega)
            have f0 := hfz (r * 4)
            have f1 := hfz (r * 4 + 1)
            have f2 := hfz (r * 4 + 2)
            have f3 := hfz (r * 4 + 3)
            have hin : RFoot yb a V gc := .inr ⟨2 + 3 * x, by omega, by rw [ec]; rfl⟩
            have HW : Hid (RWent yb a V w (a.setCell x r ((a.cell x r).xor (mendC a x r))) V left false ((((wr.setCell ⟨gc, r * 4, none⟩ (.int .u8 (explC a x r).b0)).setCell ⟨gc, r * 4 + 1, none⟩ (.int .u8 (explC a x r).b1)).setCell ⟨gc, r * 4 + 2, none⟩ (.int .u8 (explC a x r).b2)).setCell ⟨gc, r * 4 + 3, none⟩ (.int .u8 (explC a x r).b3))) := (show RWent _ _ _ _ _ _ _ _ _ by
              rw [← hxc]
              exact hwt.out.trans ⟨h1.setC x r _ hxn hr (explC_ok HOK.out x r) gc capc ec, ((((Kept.refl _ _).setCell (.inl hin) _).setCell (.inl hin) _).setCell (.inl hin) _).setCell (.inl hin) _, fun _ hk => .inl hk⟩)
            rw [ec] at d2
            have hmd2 : BoxAt wr mb (explC a x r) := hmd.out
            obtain ⟨n0, n1, n2, n3⟩ := hmd2.cells
            have hml := hmd2.lt
            have hx6 : x < 6 := by omega
            have hr6 : r < 6 := by have := HOK.out.R6; omega
            clear h1 hwt hmd hmd2 hex hk0 hke hdr hce hfz ec e0 hxc hxl hin
            generalize explC a x r = EC at *
            generalize (a.cell x r).b0 = k0 at x0
            generalize (a.cell x r).b1 = k1 at x1
            generalize (a.cell x r).b2 = k2 at x2
            generalize (a.cell x r).b3 = k3 at x3
            unfold whoV
            go_wp2_with fail
            go_region
            all_goals
              go_wp2_with fail
              go_ret2
              exact SPost.of_mends HWH.out HQ.out HEX.out rfl (by first | exact HW.out | exact HW.out.drew)
theorem rScrub_state (yb : Nat) (a : Ab) (V : Nat → Value) (left : Int) (r : Nat) (w : World) (h : RefIn w yb a V left false) (hr : r < a.R) (hw : wholeB a r = false) :
    Calls Tryz.prog 59 #[.pointer (some ⟨yb, 0, none⟩), .int .i64 r] w fun e w' => e = .returned (.tuple #[.int .i64 0, .int .i64 7]) ∧ ∃ V', RWent yb a V w a V' left false w' :=
  (rScrub_row yb a V left r w h hr).mono (fun e w' hh => ⟨(hh.state hw).1, V, (hh.state hw).2⟩)
theorem rScrub_fine (yb : Nat) (a : Ab) (V : Nat → Value) (left : Int) (r : Nat) (w : World) (h : RefIn w yb a V left false) (hr : r < a.R) (hw : wholeB a r = true) (hq : eqHoldB a r = true) :
    Calls Tryz.prog 59 #[.pointer (some ⟨yb, 0, none⟩), .int .i64 r] w fun e w' => e = .returned (.tuple #[.int .i64 (-1), .int .i64 0]) ∧ ∃ V', RWent yb a V w a V' left false w' :=
  (rScrub_row yb a V left r w h hr).mono (fun e w' hh => ⟨(hh.fine hw hq).1, V, (hh.fine hw hq).2⟩)
theorem rScrub_bad (yb : Nat) (a : Ab) (V : Nat → Value) (left : Int) (r : Nat) (w : World) (h : RefIn w yb a V left false) (hr : r < a.R) (hw : wholeB a r = true) (hq : eqHoldB a r = false) (hl : (explL a r (a.D + a.P)).length ≠ 1) :
    Calls Tryz.prog 59 #[.pointer (some ⟨yb, 0, none⟩), .int .i64 r] w fun e w' => e = .returned (.tuple #[.int .i64 0, .int .i64 8]) ∧ ∃ V', RWent yb a V w a V' left false w' :=
  (rScrub_row yb a V left r w h hr).mono (fun e w' hh => ⟨(hh.bad hw hq hl).1, V, (hh.bad hw hq hl).2⟩)
theorem rScrub_mends (yb : Nat) (a : Ab) (V : Nat → Value) (left : Int) (r d : Nat) (w : World) (h : RefIn w yb a V left false) (hr : r < a.R) (hw : wholeB a r = true) (hq : eqHoldB a r = false) (hl : explL a r (a.D + a.P) = [d]) :
    Calls Tryz.prog 59 #[.pointer (some ⟨yb, 0, none⟩), .int .i64 r] w fun e w' => e = .returned (.tuple #[.int .i64 (d : Nat), .int .i64 0]) ∧ ∃ V', RWent yb a V w (a.setCell d r ((a.cell d r).xor (mendC a d r))) V' left false w' :=
  (rScrub_row yb a V left r w h hr).mono (fun e w' hh => ⟨(hh.mends d hw hq hl).1, V, (hh.mends d hw hq hl).2⟩)
end Go.Proofs.YtfpoiikhhjdpdaaGreat
