import Derived.Test.YtfpoiikhhjdpdaaGreatJ18
/- hoardlaw.own. -/
namespace Go.Proofs.YtfpoiikhhjdpdaaGreat
open Go.RowKit
set_option linter.unusedVariables false
attribute [local go_sem ↓] Go.wp_at_zero Go.wp_at_succ
/-- The same memory. -/
structure Like (a b : World) : Prop where
  heap : b.heap = a.heap
  os : b.os = a.os
  tape : b.tape = a.tape
  output : b.output = a.output
theorem Like.refl (a : World) : Like a a := ⟨rfl, rfl, rfl, rfl⟩
theorem Like.drew {a b : World} (h : Like a b) : Like a b.drew := ⟨h.heap, h.os, h.tape, h.output⟩
theorem Like.drewN {a b : World} (h : Like a b) (n : Nat) : Like a (b.drewN n) := ⟨h.heap, h.os, h.tape, h.output⟩
theorem own_wid {w : World} {base e size n : Nat} {v : Value} {xs : List Value} (h : w.ownsRow base e size v n xs) : ∃ p cap, v = .slice p n cap := by
  rcases h.2 with ⟨rfl, rfl⟩ | ⟨g, cap, cur, rfl, _⟩
  · exact ⟨_, _, rfl⟩
  · exact ⟨_, _, rfl⟩
theorem own_block {w w' : World} {base e size n : Nat} {v : Value} {xs : List Value} (h : w.ownsRow base e size v n xs) (k : ∀ g, v.ownBlock = some g → w'.heap[g]? = w.heap[g]?) : w'.ownsRow base e size v n xs := by
  refine ⟨h.1, ?_⟩
  rcases h.2 with h1 | ⟨g, cap, cur, rfl, hb, hg, rest⟩
  · exact .inl h1
  · exact .inr ⟨g, cap, cur, rfl, hb, (k g rfl).trans hg, rest⟩
/-- One more of a list of structs. -/
def addF (F : Nat → Value) (n : Nat) (E : Nat → Value) (j : Nat) : Value := if j < n * 5 then F j else E (j - n * 5)
theorem OwnFn.add {w : World} {e n : Nat} {v : Value} {F E : Nat → Value} {news : List Value} (h : w.ownsRow 0 e 5 v (n + 1) ((List.range (n * 5)).map F ++ news)) (hl : news.length = 5) (hn : ∀ j, j < 5 → news[j]? = some (E j)) : OwnFn w e 5 v (n + 1) (addF F n E) := by
  unfold OwnFn
  have : (List.range ((n + 1) * 5)).map (addF F n E) = (List.range (n * 5)).map F ++ news := by
    apply List.ext_getElem?
    intro j
    by_cases hj : j < n * 5
    · rw [List.getElem?_append_left (by simpa using hj), List.getElem?_map, List.getElem?_map, List.getElem?_range hj, List.getElem?_range (by omega)]
      simp [addF, hj]
    · rw [List.getElem?_append_right (by simp; omega), List.length_map, List.length_range, List.getElem?_map]
      by_cases hj2 : j < (n + 1) * 5
      · rw [List.getElem?_range hj2, hn (j - n * 5) (by omega)]
        simp [addF, hj]
      · rw [List.getElem?_eq_none (show news.length ≤ j - n * 5 by omega), List.getElem?_eq_none (by simp; omega)]
        rfl
  rw [this]; exact h
def ownE (m : Value) (L : Nat → Value) (j : Nat) : Value := if j = 4 then m else L j
def four (a b c d : Value) (j : Nat) : Value := if j = 0 then a else if j = 1 then b else if j = 2 then c else d
set_option maxRecDepth 100000 in
set_option maxHeartbeats 2000000 in
theorem own_raw (tb : Nat) (bv : Value) (nb : Nat) (F : Nat → Value) (p : Option Addr) (n cap : Nat) (xs : List Value) (w : World) (ht : w.cell? ⟨tb, 1, none⟩ = some bv) (hf : w.frozen? ⟨tb, 1, none⟩ = false) (hbs : OwnFn w 44 5 bv nb F) (hnb : nb ≤ 1100000)
    (hl : w.ownsRow 0 5 1 (.slice p n cap) n xs) (hn : n ≤ 100) (hap : (Value.slice p n cap).ownBlock ≠ some tb) (hap2 : ∀ g, (Value.slice p n cap).ownBlock = some g → bv.ownBlock ≠ some g) (hap3 : bv.ownBlock ≠ some tb) (m : Nat) (hm : m = nb % 251) :
    Calls Tryz.prog 28 #[.pointer (some ⟨tb, 1, none⟩), .slice p n cap] w fun e w' => e = .returned (.tuple #[]) ∧ ∃ L v' w1 w2, Marked w w1 1 (fun _ => .int .u8 m) (.slice p n cap) n L ∧ Lies w1 w2 bv v' ∧ OwnFn w2 44 5 v' (nb + 1) (addF F nb (ownE (.int .u8 m) L)) ∧ Like (w2.setCell ⟨tb, 1, none⟩ v') w' := by
  obtain ⟨pb, capb, rfl⟩ := own_wid hbs
  have hmod : (nb : Int) % 251 = (m : Int) := by omega
  have hmodt : (nb : Int).tmod 251 = (m : Int) := by rw [Int.tmod_eq_emod_of_nonneg (by omega)]; omega
  have hm2 : m < 251 := by omega
  have HM : Hid (m = nb % 251) := hm
  have htl := block_lt_of_cell ht
  simp only at htl
  have HT : Hid (w.cell? ⟨tb, 1, none⟩ = some (.slice pb nb capb) ∧ w.frozen? ⟨tb, 1, none⟩ = false) := ⟨ht, hf⟩
  have HBS : Hid (OwnFn w 44 5 (.slice pb nb capb) nb F) := hbs
  have HL0 : Hid (OwnFn w 5 1 (.slice p n cap) n (fun j => if j < 0 then .int .u8 m else (xs[j]?).getD undef)) := (show OwnFn _ _ _ _ _ _ by
    unfold OwnFn
    have e : (List.range (n * 1)).map (fun j => if j < 0 then .int .u8 m else (xs[j]?).getD undef) = xs := by
      apply List.ext_getElem?
      intro j
      have hlen : xs.length = n * 1 := hl.1
      by_cases hj : j < n * 1
      · have hj2 : j < xs.length := by omega
        rw [List.getElem?_map, List.getElem?_range hj]
        simp [List.getElem?_eq_getElem hj2]
      · rw [List.getElem?_eq_none (by simp; omega), List.getElem?_eq_none (by omega)]
    rw [e]; exact hl)
  have HAP : Hid ((Value.slice p n cap).ownBlock ≠ some tb) := hap
  have HAP2 : Hid (∀ g, (Value.slice p n cap).ownBlock = some g → (Value.slice pb nb capb).ownBlock ≠ some g) := hap2
  have HAP3 : Hid ((Value.slice pb nb capb).ownBlock ≠ some tb) := hap3
  clear hap hap2 hap3 hl hbs hm
  go_enter Tryz.func28, Tryz.ntmps28
  go_wp2_with fail
  clear ht hf
  go_loopw [5] (fun i wr => ∃ k : Nat, k ≤ n ∧ i = .int .i64 k ∧ Hid (OwnFn wr 5 1 (.slice p n cap) n (fun j => if j < k then .int .u8 m else (xs[j]?).getD undef)) ∧ Hid (Kept (fun b => (Value.slice p n cap).ownBlock = some b) w wr)) (fun i _ => n - (intOf i).toNat)
  case atStart => exact ⟨0, by omega, rfl, HL0, Kept.refl _ _⟩
  case round =>
    clear HL0
    obtain ⟨k, hk, rfl, hown, hkept⟩ := hrel
    by_cases hlt : k < n
    · have hki : (k : Int) < (n : Int) := by omega
      obtain ⟨g, cap', e, hcc, hg, hcell, hfz⟩ := hown.out.slice (by omega)
      injection e with e1 e2 e3
      subst e1 e3
      have c0 := hcell k (by omega)
      have f0 := hfz k
      have HO2 : Hid (OwnFn (wr.setCell ⟨g, k, none⟩ (.int .u8 m)) 5 1 (.slice (some ⟨g, 0, none⟩) n cap) n (fun j => if j < k + 1 then .int .u8 m else (xs[j]?).getD undef)) := (hown.out.set k (.int .u8 m)).congr (fun j hj => by
        by_cases e : j = k
        · rw [if_pos e, if_pos (by omega)]
        · rw [if_neg e]
          by_cases e2 : j < k
          · rw [if_pos e2, if_pos (by omega)]
          · rw [if_neg e2, if_neg (by omega)])
      have HK2 : Hid (Kept (fun b => (Value.slice (some ⟨g, 0, none⟩) n cap).ownBlock = some b) w (wr.setCell ⟨g, k, none⟩ (.int .u8 m))) := hkept.out.setCell (p := ⟨g, k, none⟩) (.inl rfl) _
      clear hcell hfz hown hkept e2
      go_wp2_with fail
      exact ⟨⟨k + 1, by omega, by go_num, HO2, HK2⟩, by simp [intOf]; omega⟩
    · have hke : k = n := by omega
      have hki : ¬ ((k : Int) < (n : Int)) := by omega
      have HX : Hid (wr.ownsRow 0 5 1 (.slice p n cap) n ((List.range (n * 1)).map (fun _ => Value.int .u8 (m : Nat)))) := (show World.ownsRow _ _ _ _ _ _ _ from hown.out.congr (fun j hj => by rw [if_pos (by omega)]))
      have HXG : Hid (∀ j, j < n * 1 → ((List.range (n * 1)).map (fun _ => Value.int .u8 (m : Nat)))[j]? = some (.int .u8 (m : Nat))) := fun j hj => by rw [List.getElem?_map, List.getElem?_range hj]; rfl
      have hxl : ((List.range (n * 1)).map (fun _ => Value.int .u8 (m : Nat))).length = n * 1 := by simp
      generalize (List.range (n * 1)).map (fun _ => Value.int .u8 (m : Nat)) = ys at *
      have HS0 : Hid (MkTo w wr 5 1 (fun _ => .int .u8 m) (.slice p n cap) n (fun _ => .slice p n cap) 0 ys) := MkTo.start hkept.out HX.out HXG.out
      clear hke hown hkept HXG
      have HNW : Hid (∀ (W : World) (j : Nat) (u : Value), [Value.int .u8 (m : Nat)][j]? = some u → (W.alloc (Obj.cells #[.int .u8 m] 5)).cell? ((⟨W.heap.size, 0, none⟩ : Addr).add j) = some u) := fun W => cell_one_new _ _ _
      have hone : ∀ u ∈ [Value.int .u8 (m : Nat)], u.oneCell' = true := by simp [Value.oneCell']
      have HX0 : Hid ((wr.alloc (Obj.cells #[.int .u8 m] 5)).ownsRow 0 5 1 (.slice p n cap) n ys) := HX.out.alloc _
      go_wp2_with (at_builtin; go_must (refine wpl_append2 appU8 (by rfl) _ _ (by rfl) 0 (.slice p n cap) n ys (by rfl) HX0.out ⟨wr.heap.size, 0, none⟩ 1 1 [.int .u8 m] (by rfl) (by rfl) (HNW.out _) hone (by omega) (by simp only [maxLen]; omega) (by omega) (Nat.zero_le _) ?_))
      intro g1 c1 w1 ho1 hl1
      have HS1 : Hid (MkTo w w1 5 1 (fun _ => .int .u8 m) (.slice p n cap) n _ 1 (ys ++ [.int .u8 m])) := HS0.out.step hl1 ho1 rfl (fun j hj => by have e : j = 0 := (by omega); subst e; rfl)
      clear HX HX0 HS0 hl1
      have HX1 : Hid ((w1.alloc (Obj.cells #[.int .u8 m] 5)).ownsRow 0 5 1 (.slice (some ⟨g1, 0, none⟩) (n + 1) c1) (n + 1) (ys ++ [.int .u8 m])) := ho1.alloc _
      clear ho1
      generalize ys ++ [.int .u8 m] = ys1 at *
      go_wp2_with (at_builtin; go_must (refine wpl_append2 appU8 (by rfl) _ _ (by rfl) 0 (.slice (some ⟨g1, 0, none⟩) (n + 1) c1) (n + 1) ys1 (by rfl) HX1.out ⟨w1.heap.size, 0, none⟩ 1 1 [.int .u8 m] (by rfl) (by rfl) (HNW.out _) hone (by omega) (by simp only [maxLen]; omega) (by omega) (Nat.zero_le _) ?_))
      intro g2 c2 w2 ho2 hl2
      have HS2 : Hid (MkTo w w2 5 1 (fun _ => .int .u8 m) (.slice p n cap) n _ 2 (ys1 ++ [.int .u8 m])) := HS1.out.step hl2 ho2 rfl (fun j hj => by have e : j = 0 := (by omega); subst e; rfl)
      clear HX1 HS1 hl2
      have HX2 : Hid ((w2.alloc (Obj.cells #[.int .u8 m] 5)).ownsRow 0 5 1 (.slice (some ⟨g2, 0, none⟩) (n + 1 + 1) c2) (n + 1 + 1) (ys1 ++ [.int .u8 m])) := ho2.alloc _
      clear ho2
      generalize ys1 ++ [.int .u8 m] = ys2 at *
      go_wp2_with (at_builtin; go_must (refine wpl_append2 appU8 (by rfl) _ _ (by rfl) 0 (.slice (some ⟨g2, 0, none⟩) (n + 1 + 1) c2) (n + 1 + 1) ys2 (by rfl) HX2.out ⟨w2.heap.size, 0, none⟩ 1 1 [.int .u8 m] (by rfl) (by rfl) (HNW.out _) hone (by omega) (by simp only [maxLen]; omega) (by omega) (Nat.zero_le _) ?_))
      intro g3 c3 w3 ho3 hl3
      have HS3 : Hid (MkTo w w3 5 1 (fun _ => .int .u8 m) (.slice p n cap) n _ 3 (ys2 ++ [.int .u8 m])) := HS2.out.step hl3 ho3 rfl (fun j hj => by have e : j = 0 := (by omega); subst e; rfl)
      clear HX2 HS2 hl3 ho3 HNW hone
      have hkp := HS3.out.kept
      have T1 := hkp.cell (p := ⟨tb, 1, none⟩) HAP.out HT.out.1
      have hbs3 : OwnFn w3 44 5 (.slice pb nb capb) nb F := HBS.out.of_block (fun g hg => hkp.block g (HBS.out.lt hg) (fun e => HAP2.out g e hg))
      have htl3 := block_lt_of_cell T1
      simp only at htl3
      have F1 : w3.frozen? ⟨tb, 1, none⟩ = false := (World.frozen?_of_block (w := w) (hkp.block tb htl HAP.out)).trans HT.out.2
      generalize hLL : (fun j => if j = 3 then Value.slice (some ⟨g3, 0, none⟩) (n + 1 + 1 + 1) c3 else if j = 2 then Value.slice (some ⟨g2, 0, none⟩) (n + 1 + 1) c2 else if j = 1 then Value.slice (some ⟨g1, 0, none⟩) (n + 1) c1 else Value.slice p n cap : Nat → Value) = LL at *
      have HLL : Hid (LL 0 = .slice p n cap ∧ LL 1 = .slice (some ⟨g1, 0, none⟩) (n + 1) c1 ∧ LL 2 = .slice (some ⟨g2, 0, none⟩) (n + 1 + 1) c2 ∧ LL 3 = .slice (some ⟨g3, 0, none⟩) (n + 1 + 1 + 1) c3) := (show _ ∧ _ by subst hLL; exact ⟨rfl, rfl, rfl, rfl⟩)
      clear hLL
      have HB3 : Hid ((w3.alloc (Obj.cells #[.slice p n cap, .slice (some ⟨g1, 0, none⟩) (n + 1) c1, .slice (some ⟨g2, 0, none⟩) (n + 1 + 1) c2, .slice (some ⟨g3, 0, none⟩) (n + 1 + 1 + 1) c3, .int .u8 m] 44)).ownsRow 0 44 5 (.slice pb nb capb) nb ((List.range (nb * 5)).map F)) := hbs3.alloc _
      have HNW5 : Hid (∀ j u, [Value.slice p n cap, .slice (some ⟨g1, 0, none⟩) (n + 1) c1, .slice (some ⟨g2, 0, none⟩) (n + 1 + 1) c2, .slice (some ⟨g3, 0, none⟩) (n + 1 + 1 + 1) c3, .int .u8 m][j]? = some u → (w3.alloc (Obj.cells #[.slice p n cap, .slice (some ⟨g1, 0, none⟩) (n + 1) c1, .slice (some ⟨g2, 0, none⟩) (n + 1 + 1) c2, .slice (some ⟨g3, 0, none⟩) (n + 1 + 1 + 1) c3, .int .u8 m] 44)).cell? ((⟨w3.heap.size, 0, none⟩ : Addr).add j) = some u) :=
        World.news_of_block (w := w3.alloc (Obj.cells #[.slice p n cap, .slice (some ⟨g1, 0, none⟩) (n + 1) c1, .slice (some ⟨g2, 0, none⟩) (n + 1 + 1) c2, .slice (some ⟨g3, 0, none⟩) (n + 1 + 1 + 1) c3, .int .u8 m] 44)) (heap_alloc_new w3 _)
      have hone5 : ∀ u ∈ [Value.slice p n cap, .slice (some ⟨g1, 0, none⟩) (n + 1) c1, .slice (some ⟨g2, 0, none⟩) (n + 1 + 1) c2, .slice (some ⟨g3, 0, none⟩) (n + 1 + 1 + 1) c3, .int .u8 m], u.oneCell' = true := by simp [Value.oneCell']
      have hl5 : ((List.range (nb * 5)).map F).length = nb * 5 := by simp
      generalize hxs5 : (List.range (nb * 5)).map F = xs5 at *
      have HXS5 : Hid ((List.range (nb * 5)).map F = xs5) := hxs5
      clear hxs5
      go_wp2_with (at_builtin; go_must (refine wpl_append2 appBytes (by rfl) _ _ (by rfl) 0 (.slice pb nb capb) nb xs5 (by rfl) HB3.out ⟨w3.heap.size, 0, none⟩ 1 1 [Value.slice p n cap, .slice (some ⟨g1, 0, none⟩) (n + 1) c1, .slice (some ⟨g2, 0, none⟩) (n + 1 + 1) c2, .slice (some ⟨g3, 0, none⟩) (n + 1 + 1 + 1) c3, .int .u8 m] (by rfl) (by rfl) HNW5.out hone5 (by omega) (by simp only [maxLen]; omega) (by omega) (Nat.zero_le _) ?_))
      intro g5 c5 w5 ho5 hlies5
      obtain ⟨k1, k2, k3, k4, k5⟩ := hlies5.kept
      have htl4 : tb < (w3.alloc (Obj.cells #[.slice p n cap, .slice (some ⟨g1, 0, none⟩) (n + 1) c1, .slice (some ⟨g2, 0, none⟩) (n + 1 + 1) c2, .slice (some ⟨g3, 0, none⟩) (n + 1 + 1 + 1) c3, .int .u8 m] 44)).heap.size := by simp; omega
      have q1 : w5.cell? ⟨tb, 1, none⟩ = some (.slice pb nb capb) := (World.cell?_of_block (k5 tb htl4 HAP3.out)).trans ((World.cell?_alloc_lt _ _ _ htl3).trans T1)
      have q2 : w5.frozen? ⟨tb, 1, none⟩ = false := (World.frozen?_of_block (k5 tb htl4 HAP3.out)).trans ((World.frozen?_of_block (w := w3) (heap_alloc_old _ _ htl3)).trans F1)
      have q3 : tb < w5.heap.size := Nat.lt_of_lt_of_le htl4 k4
      have HFIN : Hid (∃ L v' w1 w2, Marked w w1 1 (fun _ => .int .u8 m) (.slice p n cap) n L ∧ Lies w1 w2 (.slice pb nb capb) v' ∧ OwnFn w2 44 5 v' (nb + 1) (addF F nb (ownE (.int .u8 m) L)) ∧ Like (w2.setCell ⟨tb, 1, none⟩ v') (w5.setCell ⟨tb, 1, none⟩ (.slice (some ⟨g5, 0, none⟩) (nb + 1) c5))) := by
        obtain ⟨l0, l1, l2, l3⟩ := HLL.out
        refine ⟨LL, _, _, w5, HS3.out.done.alloc _, hlies5, ?_, Like.refl _⟩
        rw [← HXS5.out] at ho5
        refine OwnFn.add ho5 rfl (fun j hj => ?_)
        have : j = 0 ∨ j = 1 ∨ j = 2 ∨ j = 3 ∨ j = 4 := by omega
        unfold ownE
        rcases this with rfl | rfl | rfl | rfl | rfl
        · rw [if_neg (by omega), l0]; rfl
        · rw [if_neg (by omega), l1]; rfl
        · rw [if_neg (by omega), l2]; rfl
        · rw [if_neg (by omega), l3]; rfl
        · rfl
      clear k1 k2 k3 k4 k5 ho5 hlies5 HS3 hkp T1 F1 htl3 htl4 HB3 HNW5 hone5
      go_wp2_with fail
      go_end0
      exact ⟨rfl, HFIN.out⟩
end Go.Proofs.YtfpoiikhhjdpdaaGreat
