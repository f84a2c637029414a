/- hoardkeep: the value of a cell. -/
import Derived.Test.YtfpoiikhhjdpdabKCells
namespace Go.Proofs.Ytfpoiikhhjdpdab
open Go.RowKit
set_option linter.unusedVariables false
attribute [local go_sem ↓] Go.wp_at_zero Go.wp_at_succ
set_option maxRecDepth 100000 in
set_option maxHeartbeats 2000000 in
theorem kvalue_data {w0 : World} (kb bb hb : Nat) (s : St) (f : Nat → Nat) (V : Nat → Value) (lo : Nat → Bool) (bu : Nat → Nat → Bool) (d r : Nat) (w : World) (h : KeepAt w0 w kb bb hb s f V lo bu) (hd : d < s.D) (hr : r < s.R) (hav : avB s d r = true) :
    Calls Try.prog 55 #[.pointer (some ⟨kb, 0, none⟩), .int .i64 d, .int .i64 r] w fun e w' => e = .returned (.tuple #[(s.cell d r).val, .bool true]) ∧ Below w.heap.size w w' := by
  have HK : Hid (KeepAt w0 w kb bb hb s f V lo bu) := h
  have HA : Hid (∀ o, KeepAt w0 (w.alloc o) kb bb hb s f V lo bu) := fun o => h.of_below ((Below.refl _ _).alloc (Nat.le_refl _) o)
  obtain ⟨c0, c1, _⟩ := h.cells
  have hlt := h.row.lt
  have HCE : Hid (∀ W, HoardAt W hb s → Calls Try.prog 16 #[.pointer (some ⟨hb, 0, none⟩), .int .i64 d, .int .i64 r] W fun e w' => e = .returned (.tuple #[(s.cell d r).val, .int .i64 0]) ∧ Below W.heap.size W w') := fun W hW => Cell_ok hb s d r W hW (by omega) hr hav
  have hdi : (d : Int) < (s.D : Int) := by omega
  clear h hav
  generalize s.cell d r = cl at *
  unfold C4.val at HCE ⊢
  go_enter Try.func55, Try.ntmps55
  go_wp2_with fail
  refine (HCE.out _ (HA.out _).hoard).mono ?_
  rintro e w1 ⟨rfl, k1⟩
  have K1 : Below w.heap.size w w1 := ((Below.refl _ _).alloc (Nat.le_refl _) _).trans (k1.mono (by simp))
  have R1 : Hid (BoxAt w1 w.heap.size C4.zero) := (BoxAt.new0 w _ rfl).below k1
  have hK1 := HK.out.of_below K1
  obtain ⟨_, d1, _⟩ := hK1.cells
  have hltk := hK1.row.lt
  obtain ⟨r0, r1, r2, r3⟩ := R1.out.cells
  obtain ⟨g0, g1, g2, g3⟩ := R1.out.frz
  have hr1 := R1.out.lt
  clear k1 hK1 c0 c1
  go_wp2_with fail
  refine bodyPost_ret (v := .tuple #[.agg #[.int .u8 cl.b0, .int .u8 cl.b1, .int .u8 cl.b2, .int .u8 cl.b3], .bool true]) (by simp [results, Try.results55, go_sem, r0, r1, r2, r3, hr1]) rfl ⟨rfl, ?_⟩
  have h4 := below_set4 K1 (g := w.heap.size) (Nat.le_refl _) (.int .u8 cl.b0) (.int .u8 cl.b1) (.int .u8 cl.b2) (.int .u8 cl.b3)
  exact h4.alloc (by simpa using K1.size) _
set_option maxRecDepth 100000 in
set_option maxHeartbeats 4000000 in
theorem kvalue_par {w0 : World} (kb bb hb : Nat) (s : St) (f : Nat → Nat) (V : Nat → Value) (lo : Nat → Bool) (bu : Nat → Nat → Bool) (d r : Nat) (w : World) (h : KeepAt w0 w kb bb hb s f V lo bu) (hd : s.D ≤ d) (hd2 : d < s.D + s.P) (hr : r < s.R) (hav : avB s d r = true) :
    Calls Try.prog 55 #[.pointer (some ⟨kb, 0, none⟩), .int .i64 d, .int .i64 r] w fun e w' => e = .returned (.tuple #[(valC s d r).val, .bool true]) ∧ Below w.heap.size w w' := by
  have HK : Hid (KeepAt w0 w kb bb hb s f V lo bu) := h
  have HA : Hid (∀ o, KeepAt w0 (w.alloc o) kb bb hb s f V lo bu) := fun o => h.of_below ((Below.refl _ _).alloc (Nat.le_refl _) o)
  obtain ⟨c0, c1, _⟩ := h.cells
  have hlt := h.row.lt
  have hlen := h.hoard.ok.len d
  have hM8 := h.hoard.ok.M8
  have hlen2 : ((s.recs d).length : Int) ≤ (s.M : Int) := by omega
  have HCE : Hid (∀ W, HoardAt W hb s → Calls Try.prog 16 #[.pointer (some ⟨hb, 0, none⟩), .int .i64 d, .int .i64 r] W fun e w' => e = .returned (.tuple #[(s.cell d r).val, .int .i64 0]) ∧ Below W.heap.size W w') := fun W hW => Cell_ok hb s d r W hW (by omega) hr hav
  have HLG : Hid (∀ W, HoardAt W hb s → Calls Try.prog 35 #[.pointer (some ⟨hb, 0, none⟩), .int .i64 d] W fun e w' => ∃ v', e = .returned (.tuple #[v', .int .i64 0]) ∧ w'.ownsRow W.heap.size 76 5 v' (s.recs d).length (recCells (s.recs d)) ∧ Below W.heap.size W w') := fun W hW => Log_ok hb s d W hW (by simp only [isParityB, decide_eq_true_eq]; omega) (av_lost hav)
  have HVC : Hid (valC s d r = recSum r (s.recs d) (s.cell d r)) := rfl
  have HOK : Hid (∀ x ∈ s.recs d, x.c.ok) := fun x hx => (h.hoard.ok.recs d x hx).2
  have hclo : Hid ((s.cell d r).ok) := h.hoard.ok.cells d r
  have hdi : ¬ ((d : Int) < (s.D : Int)) := by omega
  clear h hav
  generalize s.cell d r = cl at *
  generalize hrs : s.recs d = rs at *
  clear hrs
  generalize hln : rs.length = ln at *
  have HLN : Hid (rs.length = ln) := hln
  clear hln
  unfold C4.val at HCE
  go_enter Try.func55, Try.ntmps55
  go_wp2_with fail
  refine (HCE.out _ (HA.out _).hoard).mono ?_
  rintro e w1 ⟨rfl, k1⟩
  have K1 : Below w.heap.size w w1 := ((Below.refl _ _).alloc (Nat.le_refl _) _).trans (k1.mono (by simp))
  have R1 : BoxAt w1 w.heap.size C4.zero := (BoxAt.new0 w _ rfl).below k1
  have hK1 := HK.out.of_below K1
  obtain ⟨d0, d1, _⟩ := hK1.cells
  have hltk := hK1.row.lt
  have hr1 := R1.lt
  have K2 : Below w.heap.size w (w1.alloc (.cells #[.int .u8 cl.b0, .int .u8 cl.b1, .int .u8 cl.b2, .int .u8 cl.b3] 48)) := K1.alloc K1.size _
  have R2 : Hid (BoxAt (w1.alloc (.cells #[.int .u8 cl.b0, .int .u8 cl.b1, .int .u8 cl.b2, .int .u8 cl.b3] 48)) w.heap.size C4.zero) := R1.alloc _
  have C2 : Hid (BoxAt (w1.alloc (.cells #[.int .u8 cl.b0, .int .u8 cl.b1, .int .u8 cl.b2, .int .u8 cl.b3] 48)) w1.heap.size cl) := BoxAt.new _ _ _ rfl
  clear k1 hK1 c0 c1 R1 K1
  go_wp2_with fail
  generalize w1.alloc (.cells #[.int .u8 cl.b0, .int .u8 cl.b1, .int .u8 cl.b2, .int .u8 cl.b3] 48) = w2 at *
  generalize w1.heap.size = cb at *
  clear d0 d1 hltk
  refine (HLG.out _ (HK.out.of_below K2).hoard).mono ?_
  rintro e w3 ⟨v3, rfl, hown, k3⟩
  have K3 : Below w.heap.size w w3 := K2.trans (k3.mono K2.size)
  have R3 : Hid (BoxAt w3 w.heap.size C4.zero) := R2.out.below k3
  have C3 : Hid (BoxAt w3 cb cl) := C2.out.below k3
  have hcb2 := C2.out.lt
  have hlog : LogAt w3 v3 rs := ⟨by rw [HLN.out]; exact hown.1, by
    rw [HLN.out]
    rcases hown.2 with hx | ⟨g, c, cur, h1, h2, h3⟩
    · exact .inl hx
    · exact .inr ⟨g, c, cur, h1, Nat.zero_le _, h3⟩⟩
  obtain ⟨p3, q3, hv3, hrec⟩ := hlog.slice
  have HG : Hid (∀ g, v3.ownBlock = some g → w2.heap.size ≤ g) := fun g hg => (World.ownsRow.lt hown g hg).1
  rw [HLN.out] at hv3 hrec
  have HREC : Hid _ := hrec
  clear hown hlog hrec R2 C2 k3 K2
  subst hv3
  go_wp2_with fail
  go_loopw [12, 13] (fun i _ wr => ∃ (k : Nat) (S : C4), k ≤ ln ∧ i = .int .i64 k ∧ Hid (S = recSum r (rs.take k) cl) ∧ Hid (S.ok) ∧ Hid (BoxAt wr cb S) ∧ Hid (BoxAt wr w.heap.size C4.zero) ∧ Hid (Kept (fun g => g = cb) w3 wr) ∧ Below w.heap.size w wr) (fun i _ _ => ln - (intOf i).toNat)
  case atStart => exact ⟨0, cl, by omega, rfl, rfl, hclo, C3, R3, Kept.refl _ _, K3⟩
  case round =>
    clear C3 R3
    obtain ⟨k, S, hk, rfl, hS, hSo, hC, hR, hKp, hbel⟩ := hrel
    by_cases hlt2 : k < ln
    · have hlti : (k : Int) < (ln : Int) := by omega
      obtain ⟨g, x, rfl, hg, hx, y0, y1, y2, y3, y4⟩ := HREC.out k hlt2
      have hgc : g ≠ cb := by have := HG.out g rfl; omega
      have z0 := hKp.out.cell (p := ⟨g, k * 5, none⟩) hgc y0
      have z1 := hKp.out.cell (p := ⟨g, k * 5 + 1, none⟩) hgc y1
      have z2 := hKp.out.cell (p := ⟨g, k * 5 + 2, none⟩) hgc y2
      have z3 := hKp.out.cell (p := ⟨g, k * 5 + 3, none⟩) hgc y3
      have z4 := hKp.out.cell (p := ⟨g, k * 5 + 4, none⟩) hgc y4
      have hgl := block_lt_of_cell z0
      have HSU : Hid (recSum r (rs.take (k + 1)) cl = if x.row = r then S.xor x.c else S) := (show _ = _ by rw [hS.out]; exact recSum_succ r _ _ k x hx)
      have HXO : Hid (x.c.ok) := HOK.out x (List.mem_of_getElem? hx)
      clear y0 y1 y2 y3 y4 hx hS
      by_cases e : x.row = r
      · have HS2 : Hid (S.xor x.c = recSum r (rs.take (k + 1)) cl) := (show _ = _ by rw [HSU.out, if_pos e])
        have ei : ((x.row : Int) == (r : Int)) = true := by rw [e]; simp
        have hSN : Hid ((S.xor x.c).ok) := C4.xor_ok hSo.out HXO.out
        clear e HSU
        have HZ : Hid (∀ j, j < 4 → wr.cell? ⟨g, k * 5 + 1 + j, none⟩ = some (.int .u8 (x.c.at j : Nat))) := by
          intro j hj
          have : j = 0 ∨ j = 1 ∨ j = 2 ∨ j = 3 := by omega
          rcases this with rfl | rfl | rfl | rfl
          · exact z1
          · exact z2
          · exact z3
          · exact z4
        clear z1 z2 z3 z4
        go_wp2_with fail
        clear z0
        go_loopw [13] (fun a wi => ∃ (j : Nat), j ≤ 4 ∧ a = .int .i64 j ∧ Hid (wi.rowIs cb 48 4 (fun i => .int .u8 (if i < j then S.at i ^^^ x.c.at i else S.at i : Nat))) ∧ Hid (BoxAt wi w.heap.size C4.zero) ∧ Hid (Kept (fun g => g = cb) w3 wi) ∧ Hid (Kept (fun g => g = cb) wr wi) ∧ Below w.heap.size w wi) (fun a _ => 4 - (intOf a).toNat)
        case atStart => exact ⟨0, by omega, rfl, hC.out.congr (fun j _ => by simp), hR, hKp, Kept.refl _ _, hbel⟩
        case round =>
          clear hC hR hKp hbel
          obtain ⟨j, hj, rfl, hrow, hz, hKp, hKw, hb4⟩ := hrel
          by_cases hj4 : j < 4
          · have hj4i : (j : Int) < 4 := by omega
            have cc := hrow.out.cell (i := j) hj4
            have cf := hrow.out.frozen j
            rw [if_neg (by omega)] at cc
            have yc := hKw.out.cell (p := ⟨g, k * 5 + 1 + j, none⟩) hgc (HZ.out j hj4)
            have hrl := hrow.out.lt
            have hyl := block_lt_of_cell yc
            simp only at hyl
            have hxor := u8_xor_nat (S.at j) (x.c.at j) (C4.at_lt hSo.out j) (C4.at_lt HXO.out j)
            generalize hsv : S.at j = sv at *
            generalize hbv : x.c.at j = bv at *
            have HSV : Hid (S.at j = sv) := hsv
            have HBV : Hid (x.c.at j = bv) := hbv
            clear hsv hbv
            go_wp2_with fail
            go_region
            all_goals
              go_wp2_with fail
              refine ⟨⟨j + 1, by omega, by go_num, ?_, ?_, ?_, ?_, ?_⟩, by simp [intOf]; omega⟩
              · refine World.rowIs.of_block (w := wr.setCell ⟨cb, j, none⟩ (.int .u8 ((sv ^^^ bv : Nat) : Int))) ((hrow.out.set j _).congr ?_) rfl
                intro i hi
                by_cases e : i = j
                · subst e
                  rw [if_pos rfl, if_pos (by omega), HSV.out, HBV.out]
                · rw [if_neg e]
                  by_cases hij : i < j
                  · rw [if_pos hij, if_pos (by omega)]
                  · rw [if_neg hij, if_neg (by omega)]
              · exact (hz.out.setOther (by simp; omega) _).drew
              · exact (hKp.out.setCell (.inl rfl) _).drew
              · exact (hKw.out.setCell (.inl rfl) _).drew
              · exact (hb4.setCell (by simp; omega) _).drew
          · have hje : j = 4 := by omega
            subst hje
            have hBX : Hid (BoxAt wr cb (S.xor x.c)) := by
              refine World.rowIs.congr hrow.out (fun i hi => ?_)
              rw [if_pos hi, C4.at_xor]
            clear hrow
            go_wp2_with fail
            exact ⟨⟨k + 1, _, by omega, by go_num, HS2, hSN, hBX, hz, hKp, hb4⟩, by simp [intOf]; omega⟩
      · have HS2 : Hid (S = recSum r (rs.take (k + 1)) cl) := (show _ = _ by rw [HSU.out, if_neg e])
        have ei : ((x.row : Int) == (r : Int)) = false := by rw [beq_eq_false_iff_ne]; omega
        clear e HSU
        go_wp2_with fail
        exact ⟨⟨k + 1, S, by omega, by go_num, HS2, hSo, hC, hR, hKp, hbel⟩, by simp [intOf]; omega⟩
    · have hke : k = ln := by omega
      have HKE : Hid (k = ln) := hke
      have hlti : ¬ ((k : Int) < (ln : Int)) := by omega
      have HF : Hid (valC s d r = S) := (show _ = _ by rw [HVC.out, hS.out, List.take_of_length_le (by have := HLN.out; omega)])
      have hK4 := HK.out.of_below hbel
      obtain ⟨_, _, _, _, d4, _⟩ := hK4.cells
      have hltk4 := hK4.row.lt
      obtain ⟨r0, r1, r2, r3⟩ := hR.out.cells
      obtain ⟨g0, g1, g2, g3⟩ := hR.out.frz
      obtain ⟨b0, b1, b2, b3⟩ := hC.out.cells
      have hrl := hR.out.lt
      have hcl := hC.out.lt
      clear hke hK4
      go_wp2_with fail
      go_region
      all_goals
        go_wp2_with fail
        refine bodyPost_ret (v := .tuple #[S.val, .bool true]) (by simp [results, Try.results55, go_sem, r0, r1, r2, r3, C4.val]) rfl ⟨by rw [HF.out], ?_⟩
        repeat (first | exact hbel | refine Below.setCell ?_ (by simp) _ | refine Below.drew ?_)
end Go.Proofs.Ytfpoiikhhjdpdab
