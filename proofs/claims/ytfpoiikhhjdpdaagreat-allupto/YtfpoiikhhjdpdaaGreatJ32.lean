import Derived.Test.YtfpoiikhhjdpdaaGreatJ19
/- hoardlaw.ownLog. -/
namespace Go.Proofs.YtfpoiikhhjdpdaaGreat
open Go.RowKit
set_option linter.unusedVariables false
attribute [local go_sem ↓] Go.wp_at_zero Go.wp_at_succ
/-- The owner's record. -/
def markL (m : Int) (j : Nat) : Value := if j % 5 = 0 then .int .i64 m else .int .u8 0
theorem box5_mark (w : World) (t : Nat) (m : Int) (H : Nat) (hH : w.heap.size = H) : (w.alloc (.cells #[.int .i64 m, .int .u8 0, .int .u8 0, .int .u8 0, .int .u8 0] t)).rowIs H t 5 (markL m) := by
  subst hH
  refine World.rowIs_alloc w _ _ _ ?_
  intro i hi
  have hi' : i < 5 := hi
  have : i = 0 ∨ i = 1 ∨ i = 2 ∨ i = 3 ∨ i = 4 := by omega
  rcases this with rfl | rfl | rfl | rfl | rfl <;> rfl
theorem markL_get (m : Int) (n : Nat) : ∀ j, j < 5 → [Value.int .i64 m, .int .u8 0, .int .u8 0, .int .u8 0, .int .u8 0][j]? = some (markL m (n * 5 + j)) := by
  intro j hj
  unfold markL
  have : j = 0 ∨ j = 1 ∨ j = 2 ∨ j = 3 ∨ j = 4 := by omega
  rcases this with rfl | rfl | rfl | rfl | rfl
  · rw [if_pos (by omega)]; rfl
  · rw [if_neg (by omega)]; rfl
  · rw [if_neg (by omega)]; rfl
  · rw [if_neg (by omega)]; rfl
  · rw [if_neg (by omega)]; rfl
set_option maxRecDepth 100000 in
set_option maxHeartbeats 2000000 in
theorem ownLog_raw (tb : Nat) (bv : Value) (nb : Nat) (F : Nat → Value) (p : Option Addr) (n cap : Nat) (xs : List Value) (w : World) (ht : w.cell? ⟨tb, 2, none⟩ = some bv) (hf : w.frozen? ⟨tb, 2, none⟩ = false) (hbs : OwnFn w 48 5 bv nb F) (hnb : nb ≤ 1100000)
    (hl : w.ownsRow 0 92 5 (.slice p n cap) n xs) (hn : n ≤ 100) (hap : (Value.slice p n cap).ownBlock ≠ some tb) (hap2 : ∀ g, (Value.slice p n cap).ownBlock = some g → bv.ownBlock ≠ some g) (hap3 : bv.ownBlock ≠ some tb) (m : Int) (hm : m = -1000 - (nb : Int)) :
    Calls Tryz.prog 39 #[.pointer (some ⟨tb, 1, none⟩), .slice p n cap] w fun e w' => e = .returned (.tuple #[]) ∧ ∃ L v' w1 w2, Marked w w1 5 (markL m) (.slice p n cap) n L ∧ Lies w1 w2 bv v' ∧ OwnFn w2 48 5 v' (nb + 1) (addF F nb (ownE (.int .i64 m) L)) ∧ Like (w2.setCell ⟨tb, 2, none⟩ v') w' := by
  obtain ⟨pb, capb, rfl⟩ := own_wid hbs
  have hmk : -1000 - (nb : Int) = m := hm.symm
  have hm1 : -2000000 ≤ m := by omega
  have hm2 : m ≤ 0 := by omega
  have HBX : Hid ((w.alloc (.cells #[.int .i64 m, .int .u8 0, .int .u8 0, .int .u8 0, .int .u8 0] 92)).rowIs w.heap.size 92 5 (markL m)) := box5_mark w _ m _ rfl
  have htl := block_lt_of_cell ht
  simp only at htl
  have HT : Hid (w.cell? ⟨tb, 2, none⟩ = some (.slice pb nb capb) ∧ w.frozen? ⟨tb, 2, none⟩ = false) := ⟨ht, hf⟩
  have HBS : Hid (OwnFn w 48 5 (.slice pb nb capb) nb F) := hbs
  have HLL0 : Hid (w.ownsRow 0 92 5 (.slice p n cap) n xs) := hl
  have HL0 : Hid (OwnFn (w.alloc (.cells #[.int .i64 m, .int .u8 0, .int .u8 0, .int .u8 0, .int .u8 0] 92)) 92 5 (.slice p n cap) n (fun j => if j < 0 * 5 then markL m j else (xs[j]?).getD undef)) := (show OwnFn _ _ _ _ _ _ by
    unfold OwnFn
    have e : (List.range (n * 5)).map (fun j => if j < 0 * 5 then markL m j else (xs[j]?).getD undef) = xs := by
      apply List.ext_getElem?
      intro j
      have hlen : xs.length = n * 5 := hl.1
      by_cases hj : j < n * 5
      · have hj2 : j < xs.length := by omega
        rw [List.getElem?_map, List.getElem?_range hj]
        simp [List.getElem?_eq_getElem hj2]
      · rw [List.getElem?_eq_none (by simp; omega), List.getElem?_eq_none (by omega)]
    rw [e]; exact hl.alloc _)
  have HK0 : Hid (Kept (fun b => (Value.slice p n cap).ownBlock = some b) w (w.alloc (.cells #[.int .i64 m, .int .u8 0, .int .u8 0, .int .u8 0, .int .u8 0] 92))) := (Kept.refl _ _).alloc _
  have HAP : Hid ((Value.slice p n cap).ownBlock ≠ some tb) := hap
  have HAP2 : Hid (∀ g, (Value.slice p n cap).ownBlock = some g → (Value.slice pb nb capb).ownBlock ≠ some g) := hap2
  have HAP3 : Hid ((Value.slice pb nb capb).ownBlock ≠ some tb) := hap3
  have HPN : Hid (∀ g, (Value.slice p n cap).ownBlock = some g → g < w.heap.size) := fun g hg => (World.ownsRow.lt hl g hg).2
  clear hap hap2 hap3 hl hbs hm
  go_enter Tryz.func39, Tryz.ntmps39
  go_wp2_with fail
  clear ht hf
  generalize w.alloc (.cells #[.int .i64 m, .int .u8 0, .int .u8 0, .int .u8 0, .int .u8 0] 92) = wb at *
  go_loopw [6] (fun i wr => ∃ k : Nat, k ≤ n ∧ i = .int .i64 k ∧ Hid (OwnFn wr 92 5 (.slice p n cap) n (fun j => if j < k * 5 then markL m j else (xs[j]?).getD undef)) ∧ Hid (Kept (fun b => (Value.slice p n cap).ownBlock = some b) w wr) ∧ Hid (wr.rowIs w.heap.size 92 5 (markL m))) (fun i _ => n - (intOf i).toNat)
  case atStart => exact ⟨0, by omega, rfl, HL0, HK0, HBX⟩
  case round =>
    clear HL0 HK0 HBX
    obtain ⟨k, hk, rfl, hown, hkept, hbx⟩ := hrel
    have b0 : wr.cell? ⟨w.heap.size, 0, none⟩ = some (.int .i64 m) := hbx.out.cell (i := 0) (by omega)
    have b1 : wr.cell? ⟨w.heap.size, 1, none⟩ = some (.int .u8 0) := hbx.out.cell (i := 1) (by omega)
    have b2 : wr.cell? ⟨w.heap.size, 2, none⟩ = some (.int .u8 0) := hbx.out.cell (i := 2) (by omega)
    have b3 : wr.cell? ⟨w.heap.size, 3, none⟩ = some (.int .u8 0) := hbx.out.cell (i := 3) (by omega)
    have b4 : wr.cell? ⟨w.heap.size, 4, none⟩ = some (.int .u8 0) := hbx.out.cell (i := 4) (by omega)
    have hbl := hbx.out.lt
    by_cases hlt : k < n
    · have hki : (k : Int) < (n : Int) := by omega
      obtain ⟨g, cap', e, hcc, hg, hcell, hfz⟩ := hown.out.slice (by omega)
      injection e with e1 e2 e3
      subst e1 e3
      have c0 := hcell (k * 5) (by omega)
      have c1 := hcell (k * 5 + 1) (by omega)
      have c2 := hcell (k * 5 + 2) (by omega)
      have c3 := hcell (k * 5 + 3) (by omega)
      have c4 := hcell (k * 5 + 4) (by omega)
      have f0 := hfz (k * 5)
      have f1 := hfz (k * 5 + 1)
      have f2 := hfz (k * 5 + 2)
      have f3 := hfz (k * 5 + 3)
      have f4 := hfz (k * 5 + 4)
      have hgw : g ≠ w.heap.size := fun e => by have := HPN.out g rfl; omega
      have HO2 : Hid (OwnFn (((((wr.setCell ⟨g, k * 5, none⟩ (.int .i64 m)).setCell ⟨g, k * 5 + 1, none⟩ (.int .u8 0)).setCell ⟨g, k * 5 + 2, none⟩ (.int .u8 0)).setCell ⟨g, k * 5 + 3, none⟩ (.int .u8 0)).setCell ⟨g, k * 5 + 4, none⟩ (.int .u8 0)) 92 5 (.slice (some ⟨g, 0, none⟩) n cap) n (fun j => if j < (k + 1) * 5 then markL m j else (xs[j]?).getD undef)) := (((((hown.out.set (k * 5) (.int .i64 m)).set (k * 5 + 1) (.int .u8 0)).set (k * 5 + 2) (.int .u8 0)).set (k * 5 + 3) (.int .u8 0)).set (k * 5 + 4) (.int .u8 0)).congr (fun j hj => by
        have := markL_get m k
        by_cases e4 : j = k * 5 + 4
        · have h1 := this 4 (by omega); rw [if_pos e4, if_pos (by omega), e4]; simpa using h1
        · rw [if_neg e4]
          by_cases e3 : j = k * 5 + 3
          · have h1 := this 3 (by omega); rw [if_pos e3, if_pos (by omega), e3]; simpa using h1
          · rw [if_neg e3]
            by_cases e2 : j = k * 5 + 2
            · have h1 := this 2 (by omega); rw [if_pos e2, if_pos (by omega), e2]; simpa using h1
            · rw [if_neg e2]
              by_cases e1 : j = k * 5 + 1
              · have h1 := this 1 (by omega); rw [if_pos e1, if_pos (by omega), e1]; simpa using h1
              · rw [if_neg e1]
                by_cases e0 : j = k * 5
                · have h1 := this 0 (by omega); rw [if_pos e0, if_pos (by omega), e0]; simpa using h1
                · rw [if_neg e0]
                  by_cases e5 : j < k * 5
                  · rw [if_pos e5, if_pos (by omega)]
                  · rw [if_neg e5, if_neg (by omega)])
      have HK2 : Hid (Kept (fun b => (Value.slice (some ⟨g, 0, none⟩) n cap).ownBlock = some b) w (((((wr.setCell ⟨g, k * 5, none⟩ (.int .i64 m)).setCell ⟨g, k * 5 + 1, none⟩ (.int .u8 0)).setCell ⟨g, k * 5 + 2, none⟩ (.int .u8 0)).setCell ⟨g, k * 5 + 3, none⟩ (.int .u8 0)).setCell ⟨g, k * 5 + 4, none⟩ (.int .u8 0))) := ((((hkept.out.setCell (p := ⟨g, k * 5, none⟩) (.inl rfl) _).setCell (p := ⟨g, k * 5 + 1, none⟩) (.inl rfl) _).setCell (p := ⟨g, k * 5 + 2, none⟩) (.inl rfl) _).setCell (p := ⟨g, k * 5 + 3, none⟩) (.inl rfl) _).setCell (p := ⟨g, k * 5 + 4, none⟩) (.inl rfl) _
      have HX2 : Hid ((((((wr.setCell ⟨g, k * 5, none⟩ (.int .i64 m)).setCell ⟨g, k * 5 + 1, none⟩ (.int .u8 0)).setCell ⟨g, k * 5 + 2, none⟩ (.int .u8 0)).setCell ⟨g, k * 5 + 3, none⟩ (.int .u8 0)).setCell ⟨g, k * 5 + 4, none⟩ (.int .u8 0)).rowIs w.heap.size 92 5 (markL m)) := ((((hbx.out.setOther (Ne.symm hgw) _).setOther (Ne.symm hgw) _).setOther (Ne.symm hgw) _).setOther (Ne.symm hgw) _).setOther (Ne.symm hgw) _
      clear hcell hfz hown hkept e2 hbx
      go_wp2_with fail
      exact ⟨⟨k + 1, by omega, by go_num, HO2, HK2, HX2⟩, by simp [intOf]; omega⟩
    · have hke : k = n := by omega
      have hki : ¬ ((k : Int) < (n : Int)) := by omega
      have HX : Hid (wr.ownsRow 0 92 5 (.slice p n cap) n ((List.range (n * 5)).map (markL m))) := (show World.ownsRow _ _ _ _ _ _ _ from hown.out.congr (fun j hj => by rw [if_pos (by omega)]))
      have HXG : Hid (∀ j, j < n * 5 → ((List.range (n * 5)).map (markL m))[j]? = some (markL m j)) := fun j hj => by rw [List.getElem?_map, List.getElem?_range hj]; rfl
      have hxl : ((List.range (n * 5)).map (markL m)).length = n * 5 := by simp
      generalize (List.range (n * 5)).map (markL m) = ys at *
      have HS0 : Hid (MkTo w wr 92 5 (markL m) (.slice p n cap) n (fun _ => .slice p n cap) 0 ys) := MkTo.start hkept.out HX.out HXG.out
      clear hke hown hkept HXG
      have hne0 : (Value.slice p n cap).ownBlock ≠ some w.heap.size := fun e => by have := HPN.out _ e; omega
      have HNW : Hid (∀ (W : World) (j : Nat) (u : Value), [Value.int .i64 m, .int .u8 0, .int .u8 0, .int .u8 0, .int .u8 0][j]? = some u → (W.alloc (Obj.cells #[.int .i64 m, .int .u8 0, .int .u8 0, .int .u8 0, .int .u8 0] 92)).cell? ((⟨W.heap.size, 0, none⟩ : Addr).add j) = some u) := fun W => World.news_of_block (w := W.alloc (Obj.cells #[.int .i64 m, .int .u8 0, .int .u8 0, .int .u8 0, .int .u8 0] 92)) (heap_alloc_new W _)
      have hone : ∀ u ∈ [Value.int .i64 m, .int .u8 0, .int .u8 0, .int .u8 0, .int .u8 0], u.oneCell' = true := by simp [Value.oneCell']
      have HX0 : Hid ((wr.alloc (Obj.cells #[.int .i64 m, .int .u8 0, .int .u8 0, .int .u8 0, .int .u8 0] 92)).ownsRow 0 92 5 (.slice p n cap) n ys) := HX.out.alloc _
      go_wp2_with (at_builtin; go_must (refine wpl_append2 appRec (by rfl) _ _ (by rfl) 0 (.slice p n cap) n ys (by rfl) HX0.out ⟨wr.heap.size, 0, none⟩ 1 1 [.int .i64 m, .int .u8 0, .int .u8 0, .int .u8 0, .int .u8 0] (by rfl) (by rfl) (HNW.out _) hone (by omega) (by simp only [maxLen]; omega) (by omega) (Nat.zero_le _) ?_))
      intro g1 c1 w1 ho1 hl1
      have hne1 : (Value.slice (some ⟨g1, 0, none⟩) (n + 1) c1).ownBlock ≠ some w.heap.size := fun e => by
        rcases hl1.block e with h1 | h1
        · exact hne0 h1
        · simp at h1; omega
      have HBX1 : Hid (w1.rowIs w.heap.size 92 5 (markL m)) := (hbx.out.alloc _).of_block (hl1.kept.2.2.2.2 _ (by simp; omega) hne0)
      clear b0 b1 b2 b3 b4 hbl hbx
      have b0 : w1.cell? ⟨w.heap.size, 0, none⟩ = some (.int .i64 m) := HBX1.out.cell (i := 0) (by omega)
      have b1 : w1.cell? ⟨w.heap.size, 1, none⟩ = some (.int .u8 0) := HBX1.out.cell (i := 1) (by omega)
      have b2 : w1.cell? ⟨w.heap.size, 2, none⟩ = some (.int .u8 0) := HBX1.out.cell (i := 2) (by omega)
      have b3 : w1.cell? ⟨w.heap.size, 3, none⟩ = some (.int .u8 0) := HBX1.out.cell (i := 3) (by omega)
      have b4 : w1.cell? ⟨w.heap.size, 4, none⟩ = some (.int .u8 0) := HBX1.out.cell (i := 4) (by omega)
      have hbl := HBX1.out.lt
      have HS1 : Hid (MkTo w w1 92 5 (markL m) (.slice p n cap) n _ 1 (ys ++ [.int .i64 m, .int .u8 0, .int .u8 0, .int .u8 0, .int .u8 0])) := HS0.out.step hl1 ho1 rfl (markL_get m _)
      clear HX HX0 HS0 hl1
      have HX1 : Hid ((w1.alloc (Obj.cells #[.int .i64 m, .int .u8 0, .int .u8 0, .int .u8 0, .int .u8 0] 92)).ownsRow 0 92 5 (.slice (some ⟨g1, 0, none⟩) (n + 1) c1) (n + 1) (ys ++ [.int .i64 m, .int .u8 0, .int .u8 0, .int .u8 0, .int .u8 0])) := ho1.alloc _
      clear ho1
      generalize ys ++ [.int .i64 m, .int .u8 0, .int .u8 0, .int .u8 0, .int .u8 0] = ys1 at *
      go_wp2_with (at_builtin; go_must (refine wpl_append2 appRec (by rfl) _ _ (by rfl) 0 (.slice (some ⟨g1, 0, none⟩) (n + 1) c1) (n + 1) ys1 (by rfl) HX1.out ⟨w1.heap.size, 0, none⟩ 1 1 [.int .i64 m, .int .u8 0, .int .u8 0, .int .u8 0, .int .u8 0] (by rfl) (by rfl) (HNW.out _) hone (by omega) (by simp only [maxLen]; omega) (by omega) (Nat.zero_le _) ?_))
      intro g2 c2 w2 ho2 hl2
      have hne2 : (Value.slice (some ⟨g2, 0, none⟩) (n + 1 + 1) c2).ownBlock ≠ some w.heap.size := fun e => by
        rcases hl2.block e with h1 | h1
        · exact hne1 h1
        · simp at h1; omega
      have HBX2 : Hid (w2.rowIs w.heap.size 92 5 (markL m)) := (HBX1.out.alloc _).of_block (hl2.kept.2.2.2.2 _ (by simp; omega) hne1)
      clear b0 b1 b2 b3 b4 hbl HBX1
      have b0 : w2.cell? ⟨w.heap.size, 0, none⟩ = some (.int .i64 m) := HBX2.out.cell (i := 0) (by omega)
      have b1 : w2.cell? ⟨w.heap.size, 1, none⟩ = some (.int .u8 0) := HBX2.out.cell (i := 1) (by omega)
      have b2 : w2.cell? ⟨w.heap.size, 2, none⟩ = some (.int .u8 0) := HBX2.out.cell (i := 2) (by omega)
      have b3 : w2.cell? ⟨w.heap.size, 3, none⟩ = some (.int .u8 0) := HBX2.out.cell (i := 3) (by omega)
      have b4 : w2.cell? ⟨w.heap.size, 4, none⟩ = some (.int .u8 0) := HBX2.out.cell (i := 4) (by omega)
      have hbl := HBX2.out.lt
      have HS2 : Hid (MkTo w w2 92 5 (markL m) (.slice p n cap) n _ 2 (ys1 ++ [.int .i64 m, .int .u8 0, .int .u8 0, .int .u8 0, .int .u8 0])) := HS1.out.step hl2 ho2 rfl (markL_get m _)
      clear HX1 HS1 hl2
      have HX2 : Hid ((w2.alloc (Obj.cells #[.int .i64 m, .int .u8 0, .int .u8 0, .int .u8 0, .int .u8 0] 92)).ownsRow 0 92 5 (.slice (some ⟨g2, 0, none⟩) (n + 1 + 1) c2) (n + 1 + 1) (ys1 ++ [.int .i64 m, .int .u8 0, .int .u8 0, .int .u8 0, .int .u8 0])) := ho2.alloc _
      clear ho2
      generalize ys1 ++ [.int .i64 m, .int .u8 0, .int .u8 0, .int .u8 0, .int .u8 0] = ys2 at *
      go_wp2_with (at_builtin; go_must (refine wpl_append2 appRec (by rfl) _ _ (by rfl) 0 (.slice (some ⟨g2, 0, none⟩) (n + 1 + 1) c2) (n + 1 + 1) ys2 (by rfl) HX2.out ⟨w2.heap.size, 0, none⟩ 1 1 [.int .i64 m, .int .u8 0, .int .u8 0, .int .u8 0, .int .u8 0] (by rfl) (by rfl) (HNW.out _) hone (by omega) (by simp only [maxLen]; omega) (by omega) (Nat.zero_le _) ?_))
      intro g3 c3 w3 ho3 hl3
      have HS3 : Hid (MkTo w w3 92 5 (markL m) (.slice p n cap) n _ 3 (ys2 ++ [.int .i64 m, .int .u8 0, .int .u8 0, .int .u8 0, .int .u8 0])) := HS2.out.step hl3 ho3 rfl (markL_get m _)
      clear HX2 HS2 hl3 ho3 HNW hone
      have hkp := HS3.out.kept
      have T1 := hkp.cell (p := ⟨tb, 2, none⟩) HAP.out HT.out.1
      have hbs3 : OwnFn w3 48 5 (.slice pb nb capb) nb F := HBS.out.of_block (fun g hg => hkp.block g (HBS.out.lt hg) (fun e => HAP2.out g e hg))
      have htl3 := block_lt_of_cell T1
      simp only at htl3
      have F1 : w3.frozen? ⟨tb, 2, none⟩ = false := (World.frozen?_of_block (w := w) (hkp.block tb htl HAP.out)).trans HT.out.2
      generalize hLL : (fun j => if j = 3 then Value.slice (some ⟨g3, 0, none⟩) (n + 1 + 1 + 1) c3 else if j = 2 then Value.slice (some ⟨g2, 0, none⟩) (n + 1 + 1) c2 else if j = 1 then Value.slice (some ⟨g1, 0, none⟩) (n + 1) c1 else Value.slice p n cap : Nat → Value) = LL at *
      have HLL : Hid (LL 0 = .slice p n cap ∧ LL 1 = .slice (some ⟨g1, 0, none⟩) (n + 1) c1 ∧ LL 2 = .slice (some ⟨g2, 0, none⟩) (n + 1 + 1) c2 ∧ LL 3 = .slice (some ⟨g3, 0, none⟩) (n + 1 + 1 + 1) c3) := (show _ ∧ _ by subst hLL; exact ⟨rfl, rfl, rfl, rfl⟩)
      clear hLL
      have HB3 : Hid ((w3.alloc (Obj.cells #[.slice p n cap, .slice (some ⟨g1, 0, none⟩) (n + 1) c1, .slice (some ⟨g2, 0, none⟩) (n + 1 + 1) c2, .slice (some ⟨g3, 0, none⟩) (n + 1 + 1 + 1) c3, .int .i64 m] 48)).ownsRow 0 48 5 (.slice pb nb capb) nb ((List.range (nb * 5)).map F)) := hbs3.alloc _
      have HNW5 : Hid (∀ j u, [Value.slice p n cap, .slice (some ⟨g1, 0, none⟩) (n + 1) c1, .slice (some ⟨g2, 0, none⟩) (n + 1 + 1) c2, .slice (some ⟨g3, 0, none⟩) (n + 1 + 1 + 1) c3, .int .i64 m][j]? = some u → (w3.alloc (Obj.cells #[.slice p n cap, .slice (some ⟨g1, 0, none⟩) (n + 1) c1, .slice (some ⟨g2, 0, none⟩) (n + 1 + 1) c2, .slice (some ⟨g3, 0, none⟩) (n + 1 + 1 + 1) c3, .int .i64 m] 48)).cell? ((⟨w3.heap.size, 0, none⟩ : Addr).add j) = some u) :=
        World.news_of_block (w := w3.alloc (Obj.cells #[.slice p n cap, .slice (some ⟨g1, 0, none⟩) (n + 1) c1, .slice (some ⟨g2, 0, none⟩) (n + 1 + 1) c2, .slice (some ⟨g3, 0, none⟩) (n + 1 + 1 + 1) c3, .int .i64 m] 48)) (heap_alloc_new w3 _)
      have hone5 : ∀ u ∈ [Value.slice p n cap, .slice (some ⟨g1, 0, none⟩) (n + 1) c1, .slice (some ⟨g2, 0, none⟩) (n + 1 + 1) c2, .slice (some ⟨g3, 0, none⟩) (n + 1 + 1 + 1) c3, .int .i64 m], u.oneCell' = true := by simp [Value.oneCell']
      have hl5 : ((List.range (nb * 5)).map F).length = nb * 5 := by simp
      generalize hxs5 : (List.range (nb * 5)).map F = xs5 at *
      have HXS5 : Hid ((List.range (nb * 5)).map F = xs5) := hxs5
      clear hxs5
      go_wp2_with (at_builtin; go_must (refine wpl_append2 appLogs (by rfl) _ _ (by rfl) 0 (.slice pb nb capb) nb xs5 (by rfl) HB3.out ⟨w3.heap.size, 0, none⟩ 1 1 [Value.slice p n cap, .slice (some ⟨g1, 0, none⟩) (n + 1) c1, .slice (some ⟨g2, 0, none⟩) (n + 1 + 1) c2, .slice (some ⟨g3, 0, none⟩) (n + 1 + 1 + 1) c3, .int .i64 m] (by rfl) (by rfl) HNW5.out hone5 (by omega) (by simp only [maxLen]; omega) (by omega) (Nat.zero_le _) ?_))
      intro g5 c5 w5 ho5 hlies5
      obtain ⟨k1, k2, k3, k4, k5⟩ := hlies5.kept
      have htl4 : tb < (w3.alloc (Obj.cells #[.slice p n cap, .slice (some ⟨g1, 0, none⟩) (n + 1) c1, .slice (some ⟨g2, 0, none⟩) (n + 1 + 1) c2, .slice (some ⟨g3, 0, none⟩) (n + 1 + 1 + 1) c3, .int .i64 m] 48)).heap.size := by simp; omega
      have q1 : w5.cell? ⟨tb, 2, none⟩ = some (.slice pb nb capb) := (World.cell?_of_block (k5 tb htl4 HAP3.out)).trans ((World.cell?_alloc_lt _ _ _ htl3).trans T1)
      have q2 : w5.frozen? ⟨tb, 2, none⟩ = false := (World.frozen?_of_block (k5 tb htl4 HAP3.out)).trans ((World.frozen?_of_block (w := w3) (heap_alloc_old _ _ htl3)).trans F1)
      have q3 : tb < w5.heap.size := Nat.lt_of_lt_of_le htl4 k4
      have HFIN : Hid (∃ L v' w1 w2, Marked w w1 5 (markL m) (.slice p n cap) n L ∧ Lies w1 w2 (.slice pb nb capb) v' ∧ OwnFn w2 48 5 v' (nb + 1) (addF F nb (ownE (.int .i64 m) L)) ∧ Like (w2.setCell ⟨tb, 2, none⟩ v') (w5.setCell ⟨tb, 2, none⟩ (.slice (some ⟨g5, 0, none⟩) (nb + 1) c5))) := by
        obtain ⟨l0, l1, l2, l3⟩ := HLL.out
        refine ⟨LL, _, _, w5, HS3.out.done.alloc _, hlies5, ?_, Like.refl _⟩
        rw [← HXS5.out] at ho5
        refine OwnFn.add ho5 rfl (fun j hj => ?_)
        have : j = 0 ∨ j = 1 ∨ j = 2 ∨ j = 3 ∨ j = 4 := by omega
        unfold ownE
        rcases this with rfl | rfl | rfl | rfl | rfl
        · rw [if_neg (by omega), l0]; rfl
        · rw [if_neg (by omega), l1]; rfl
        · rw [if_neg (by omega), l2]; rfl
        · rw [if_neg (by omega), l3]; rfl
        · rfl
      clear k1 k2 k3 k4 k5 ho5 hlies5 HS3 hkp T1 F1 htl3 htl4 HB3 HNW5 hone5
      go_wp2_with fail
      go_end0
      exact ⟨rfl, HFIN.out⟩
end Go.Proofs.YtfpoiikhhjdpdaaGreat
