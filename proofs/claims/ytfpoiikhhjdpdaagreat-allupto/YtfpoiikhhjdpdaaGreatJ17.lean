import Derived.Test.YtfpoiikhhjdpdaaGreatJ12
/- Break and Mount. -/
namespace Go.Proofs.YtfpoiikhhjdpdaaGreat
open Go.RowKit
set_option linter.unusedVariables false
set_option linter.unusedSimpArgs false
attribute [local go_sem ↓] Go.wp_at_zero Go.wp_at_succ
theorem HoardIn.setBrk {w : World} {hb : Nat} {s : St} (h : HoardIn w hb s) (k : Nat) : HoardIn ((w.setCell ⟨hb, 208, none⟩ (.bool true)).setCell ⟨hb, 209, none⟩ (.int .i64 k)) hb (s.setAux s.aux (some k)) := by
  refine h.setAux _ _ ?_ (fun j hj => by rw [Below.heap_setCell _ _ _ _ hj, Below.heap_setCell _ _ _ _ hj])
  refine ((h.row.set _ _).set _ _).congr (fun j hj => ?_)
  by_cases hn : j < 197
  · rw [if_neg (by omega), if_neg (by omega), hv_low s _ _ j hn]
  · rw [hv_high s j (by omega), hv_high _ j (by omega)]
    show _ = auxv s.aux (some k) j
    by_cases e1 : j = 209
    · subst e1; rfl
    · by_cases e2 : j = 208
      · subst e2; rfl
      · rw [if_neg e1, if_neg e2]
        unfold auxv
        simp only [e1, e2, if_false]
theorem HoardIn.mounted {w : World} {hb : Nat} {s : St} (h : HoardIn w hb s) : HoardIn ((w.setCells hb 197 (noteCells 0 C4.zero C4.zero (.slice none 0 0)).toList).setCell ⟨hb, 210, none⟩ (.bool false)) hb (s.setAux aux0 s.brk) := by
  refine h.setAux _ _ ?_ (fun k hk => by rw [Below.heap_setCell _ _ _ _ hk, heap_setCells hb _ _ w k hk])
  refine ((rowIs_setCells _ _ w _ h.row).set _ _).congr (fun j hj => ?_)
  have hl : (noteCells 0 C4.zero C4.zero (.slice none 0 0)).toList.length = 11 := rfl
  rw [hl]
  by_cases e : j = 210
  · subst e; rfl
  · rw [if_neg e]
    by_cases hc : 197 ≤ j ∧ j < 197 + 11
    · rw [if_pos hc, noteCells_at 0 C4.zero C4.zero (.slice none 0 0) [] s.brk _ (by omega), hv_high _ j hc.1, show 197 + (j - 197) = j by omega]
      rfl
    · rw [if_neg hc]
      by_cases hn : j < 197
      · rw [hv_low s _ _ j hn]
      · rw [hv_high _ j (by omega), hv_high _ j (by omega)]
        rcases (by omega : j = 208 ∨ j = 209) with rfl | rfl <;> rfl
set_option maxRecDepth 100000 in
set_option maxHeartbeats 1000000 in
theorem Break_arg (hb : Nat) (s : St) (n : Int) (w : World) (h : HoardAt w hb s) (hn : n < 0 ∨ 1000 < n) :
    Calls Tryz.prog 52 #[.pointer (some ⟨hb, 0, none⟩), .int .i64 n] w fun e w' => e = .returned (.int .i64 1) ∧ Below w.heap.size w w' := by
  have hdn := h.downAt
  have hlt0 := h.row.lt
  rcases hn with hn | hn
  · go_enter Tryz.func52, Tryz.ntmps52
    go_wp2_with fail
    go_ret
    exact ⟨rfl, Below.refl _ _⟩
  · have hn2 : ¬ n < 0 := by omega
    go_enter Tryz.func52, Tryz.ntmps52
    go_wp2_with fail
    go_ret
    exact ⟨rfl, Below.refl _ _⟩
set_option maxRecDepth 100000 in
set_option maxHeartbeats 1000000 in
theorem Break_ok (hb : Nat) (s : St) (n : Nat) (w : World) (h : HoardAt w hb s) (hn : n ≤ 1000) (hst : s.steps ≤ 4611686018427387904) :
    Calls Tryz.prog 52 #[.pointer (some ⟨hb, 0, none⟩), .int .i64 n] w fun e w' => e = .returned (.int .i64 0) ∧ HoardAt w' hb (s.setAux s.aux (some (s.steps + n))) ∧ Kept (Foot hb s) w w' := by
  have hdn := h.downAt
  have hlt0 := h.row.lt
  have hs := h.toHoardIn.stepsAt
  obtain ⟨b1, b2⟩ := h.toHoardIn.brkAt
  have f1 := h.row.frozen 208
  have f2 := h.row.frozen 209
  have HUP : Hid (s.aux = aux0) := h.up
  have HE : Hid (HoardIn ((w.setCell ⟨hb, 208, none⟩ (.bool true)).setCell ⟨hb, 209, none⟩ (.int .i64 ((s.steps : Int) + (n : Int)))) hb (s.setAux s.aux (some (s.steps + n)))) := (show HoardIn _ _ _ by
    have := h.toHoardIn.setBrk (s.steps + n)
    simpa using this)
  have HK : Hid (Kept (Foot hb s) w ((w.setCell ⟨hb, 208, none⟩ (.bool true)).setCell ⟨hb, 209, none⟩ (.int .i64 ((s.steps : Int) + (n : Int))))) := ((Kept.refl _ _).setCell (.inl (.inl rfl)) _).setCell (.inl (.inl rfl)) _
  have hn1 : ¬ (n : Int) < 0 := by omega
  have hn2 : ¬ 1000 < (n : Int) := by omega
  clear h
  go_enter Tryz.func52, Tryz.ntmps52
  go_wp2_with fail
  go_ret
  exact ⟨rfl, ⟨HE.out, HUP.out⟩, HK.out⟩
set_option maxRecDepth 100000 in
set_option maxHeartbeats 1000000 in
theorem Mount_up (hb : Nat) (s : St) (w : World) (h : HoardAt w hb s) :
    Calls Tryz.prog 54 #[.pointer (some ⟨hb, 0, none⟩)] w fun e w' => e = .returned (.int .i64 7) ∧ w' = w := by
  have hdn := h.downAt
  have hlt0 := h.row.lt
  go_enter Tryz.func54, Tryz.ntmps54
  go_wp2_with fail
  go_ret
  exact ⟨rfl, rfl⟩
theorem mount_ab {s : Ab} {c r : Nat} {nw x : C4} {T : List Nat} {dn k : Nat} {a1 : Ab} (h : a1 = abTakes s c r nw x ((T.drop dn).take (k - dn))) (hd : dn ≤ k) (hk : k < T.length) : abTake a1 c r nw x (T.getD k 0) = abTakes s c r nw x ((T.drop dn).take (k + 1 - dn)) := by
  have e : T.getD k 0 = (T.drop dn).getD (k - dn) 0 := by
    rw [List.getD_eq_getElem?_getD, List.getD_eq_getElem?_getD, List.getElem?_drop, show dn + (k - dn) = k by omega]
  rw [show k + 1 - dn = k - dn + 1 by omega, take_succ_getD (T.drop dn) (k - dn) (by rw [List.length_drop]; omega), abTakes_snoc, h, e]
set_option maxRecDepth 100000 in
set_option maxHeartbeats 600000 in
theorem Mount_ok (hb : Nat) (s : St) (a : Ab) (w : World) (h : DownAt w hb s a) :
    Calls Tryz.prog 54 #[.pointer (some ⟨hb, 0, none⟩)] w fun e w' => e = .returned (.int .i64 0) ∧ ∃ s', s'.toAb = a ∧ s'.aux = aux0 ∧ WentIn hb s w s' w' := by
  have hdn := h.downAt
  have hlt0 := h.row.lt
  have hfew := h.few
  have hdl := h.dn
  obtain ⟨_, n2, n3⟩ := h.toHoardIn.notedAt
  obtain ⟨p0, cap0, htv, htc⟩ := h.tk.slice
  have HGI : Hid (abTakes s.toAb (s.aux.blk % s.D) (s.aux.blk / s.D) s.aux.aft s.aux.chg (s.aux.tk.drop s.aux.dn) = a) := h.gives
  have HN : Hid (NotedAt w hb s) := h.toNotedAt
  generalize htk : s.aux.tk = T at *
  generalize hdnn : s.aux.dn = dn at *
  have HTK : Hid (s.aux.tk = T) := htk
  have HDN : Hid (s.aux.dn = dn) := hdnn
  rw [htv] at n2
  generalize hTn : T.length = tn at *
  have HTN : Hid (T.length = tn) := hTn
  have HTV : Hid (s.aux.tv = .slice p0 tn cap0) := htv
  clear h htk hdnn htv htc hTn
  go_enter Tryz.func54, Tryz.ntmps54
  go_wp2_with fail
  clear n2 n3 hdn hlt0
  go_loopw [3] (fun i wr => ∃ (k : Nat) (s1 : St), dn ≤ k ∧ k ≤ tn ∧ i = .int .i64 k ∧ Hid (s1.toAb = abTakes s.toAb (s.aux.blk % s.D) (s.aux.blk / s.D) s.aux.aft s.aux.chg ((T.drop dn).take (k - dn))) ∧ Hid (s1.aux = s.aux) ∧ Hid (NotedAt wr hb s1) ∧ Hid (WentIn hb s w s1 wr)) (fun i _ => tn - (intOf i).toNat)
  case atStart =>
    exact ⟨dn, s, Nat.le_refl _, hdl, rfl, (show _ = _ by rw [Nat.sub_self]; rfl), (show _ = _ from rfl), HN, WentIn.below HN.out.toHoardIn (Below.refl _ _)⟩
  case round =>
    obtain ⟨k, s1, hk1, hk2, rfl, hab, hax, hN, hW⟩ := hrel
    have hlt1 := hN.out.row.lt
    obtain ⟨_, m2, _⟩ := hN.out.toHoardIn.notedAt
    rw [hax.out, HTV.out] at m2
    by_cases hlt : k < tn
    · have hlti : (k : Int) < (tn : Int) := by omega
      have tpr := takes_props s.toAb (s.aux.blk % s.D) (s.aux.blk / s.D) s.aux.aft s.aux.chg ((T.drop dn).take (k - dn))
      have s1s : SameAb s.toAb s1.toAb := by rw [hab.out]; exact tpr.1
      have HS1 : Hid (SameAb s.toAb s1.toAb) := s1s
      clear tpr s1s
      have HTI : Hid (∀ W, HoardIn W hb s1 → Calls Tryz.prog 89 #[.pointer (some ⟨hb, 0, none⟩), .int .i64 (T.getD k 0 : Nat)] W fun e w' => ∃ s', e = .returned (.tuple #[]) ∧ s'.toAb = abTakes s.toAb (s.aux.blk % s.D) (s.aux.blk / s.D) s.aux.aft s.aux.chg ((T.drop dn).take (k + 1 - dn)) ∧ s'.aux = s1.aux ∧ WentIn hb s1 W s' w') := by
        intro W hW2
        have hm := getD_mem T k (by rw [HTN.out]; omega)
        have hs := hN.out.sort (T.getD k 0) (by rw [hax.out, HTK.out]; exact hm)
        refine (takeIn_any hb s1 (T.getD k 0) W hW2 hN.out.blk hN.out.aft hN.out.chg hs).mono fun e w' ⟨s', h1, h2, h3, h4⟩ => ⟨s', h1, ?_, h3, h4⟩
        rw [h2, hax.out, show s1.D = s.D from HS1.out.D]
        exact mount_ab hab.out hk1 (by rw [HTN.out]; omega)
      have hti := hN.out.tk
      rw [hax.out, HTV.out, HTK.out] at hti
      obtain ⟨p', cap', e1, hc⟩ := IntsAt.slice hti
      obtain ⟨tb, e2, hcell⟩ := hc k (by rw [HTN.out]; omega)
      have e3 : p0 = some ⟨tb, 0, none⟩ := by
        simp only [Value.slice.injEq] at e1
        rw [e1.1, e2]
      clear e1 e2 hc hti
      subst e3
      have htb : tb < wr.heap.size := block_lt_of_cell hcell
      generalize T.getD k 0 = dd at *
      go_wp2_with fail
      refine (HTI.out _ hN.out.toHoardIn).mono ?_
      rintro e w2 ⟨s2, rfl, hab2, hax2, went2⟩
      have s2s : SameAb s.toAb s2.toAb := by rw [hab2]; exact (takes_props s.toAb _ _ _ _ _).1
      have HN2 : Hid (NotedAt w2 hb s2) := hN.out.went went2 hax2 (s2s.D.trans HS1.out.D.symm) (s2s.P.trans HS1.out.P.symm) (s2s.R.trans HS1.out.R.symm)
      have HAB2 : Hid (s2.toAb = abTakes s.toAb (s.aux.blk % s.D) (s.aux.blk / s.D) s.aux.aft s.aux.chg ((T.drop dn).take (k + 1 - dn))) := hab2
      have HAX2 : Hid (s2.aux = s.aux) := hax2.trans hax.out
      have HW2 : Hid (WentIn hb s w s2 w2) := hW.out.trans went2
      clear hab2 hax2 went2 s2s hcell htb m2
      go_wp2_with fail
      exact ⟨⟨k + 1, s2, by omega, by omega, by go_num, HAB2, HAX2, HN2, HW2⟩, by simp [intOf]; omega⟩
    · have hlti : ¬ ((k : Int) < (tn : Int)) := by omega
      have hke : k = tn := by omega
      have HKE : Hid (k = tn) := hke
      clear hke
      obtain ⟨m0, m1, m2', m3, m4, m5, m6, m7, m8, m9, m10⟩ := hN.out.toHoardIn.noteRow
      obtain ⟨q0, q1, q2, q3, q4, q5, q6, q7, q8, q9, q10⟩ := hN.out.toHoardIn.noteFrz
      have d0 := hN.out.toHoardIn.downAt
      have f0 := hN.out.row.frozen 210
      have HKU : Hid (Kept (Foot hb s1) wr ((wr.setCells hb 197 (noteCells 0 C4.zero C4.zero (.slice none 0 0)).toList).setCell ⟨hb, 210, none⟩ (.bool false))) := (kept_setCells (S := Foot hb s1) _ _ wr wr (.inl rfl) (Kept.refl _ _)).setCell (.inl (.inl rfl)) _
      have HMO : Hid (HoardIn ((wr.setCells hb 197 (noteCells 0 C4.zero C4.zero (.slice none 0 0)).toList).setCell ⟨hb, 210, none⟩ (.bool false)) hb (s1.setAux aux0 s1.brk)) := hN.out.toHoardIn.mounted
      clear m9
      go_wp2_with fail
      go_ret
      refine ⟨rfl, s1.setAux aux0 s1.brk, ?_, rfl, hW.out.trans ⟨HMO.out, HKU.out, fun k hk => .inl hk⟩⟩
      show s1.toAb = a
      rw [hab.out, List.take_of_length_le (by rw [List.length_drop, HTN.out, HKE.out]; exact Nat.le_refl _)]
      exact HGI.out
set_option maxRecDepth 100000 in
set_option maxHeartbeats 1000000 in
theorem Read_down (hb : Nat) (s : St) (a n : Int) (w : World) (h : HoardIn w hb s) (hd : s.aux.down = true) :
    Calls Tryz.prog 25 #[.pointer (some ⟨hb, 0, none⟩), .int .i64 a, .int .i64 n] w fun e w' => e = .returned (.tuple #[.slice none 0 0, .int .i64 3]) ∧ Below w.heap.size w w' := by
  have hdn := h.downAt
  rw [hd] at hdn
  have hlt0 := h.row.lt
  clear h
  go_enter Tryz.func25, Tryz.ntmps25
  go_wp2_with fail
  go_ret2
  exact ⟨rfl, by repeat (first | exact Below.refl _ _ | refine Below.setCell ?_ (by simp) _ | refine below_drewN ?_ _ | refine Below.drew ?_ | refine Below.alloc ?_ (by simp <;> omega) _)⟩
set_option maxRecDepth 100000 in
set_option maxHeartbeats 1000000 in
theorem Write_down (hb : Nat) (s : St) (a : Int) (p : Option Addr) (n cap : Nat) (w : World) (h : HoardIn w hb s) (hd : s.aux.down = true) :
    Calls Tryz.prog 41 #[.pointer (some ⟨hb, 0, none⟩), .int .i64 a, .slice p n cap] w fun e w' => e = .returned (.int .i64 3) ∧ Below w.heap.size w w' := by
  have hdn := h.downAt
  rw [hd] at hdn
  have hlt0 := h.row.lt
  clear h
  go_enter Tryz.func41, Tryz.ntmps41
  go_wp2_with fail
  go_ret
  exact ⟨rfl, by repeat (first | exact Below.refl _ _ | refine Below.setCell ?_ (by simp) _ | refine below_drewN ?_ _ | refine Below.drew ?_ | refine Below.alloc ?_ (by simp <;> omega) _)⟩
set_option maxRecDepth 100000 in
set_option maxHeartbeats 1000000 in
theorem Steps_down (hb : Nat) (s : St) (w : World) (h : HoardIn w hb s) (hd : s.aux.down = true) :
    Calls Tryz.prog 29 #[.pointer (some ⟨hb, 0, none⟩)] w fun e w' => e = .returned (.tuple #[.int .i64 0, .int .i64 3]) ∧ Below w.heap.size w w' := by
  have hdn := h.downAt
  rw [hd] at hdn
  have hlt0 := h.row.lt
  clear h
  go_enter Tryz.func29, Tryz.ntmps29
  go_wp2_with fail
  go_ret2
  exact ⟨rfl, by repeat (first | exact Below.refl _ _ | refine Below.setCell ?_ (by simp) _ | refine below_drewN ?_ _ | refine Below.drew ?_ | refine Below.alloc ?_ (by simp <;> omega) _)⟩
set_option maxRecDepth 100000 in
set_option maxHeartbeats 1000000 in
theorem Drive_down (hb : Nat) (s : St) (d : Int) (w : World) (h : HoardIn w hb s) (hd : s.aux.down = true) :
    Calls Tryz.prog 31 #[.pointer (some ⟨hb, 0, none⟩), .int .i64 d] w fun e w' => e = .returned (.tuple #[.agg #[.bool false, .int .i64 0, .int .i64 0], .int .i64 3]) ∧ Below w.heap.size w w' := by
  have hdn := h.downAt
  rw [hd] at hdn
  have hlt0 := h.row.lt
  clear h
  go_enter Tryz.func31, Tryz.ntmps31
  go_wp2_with fail
  exact bodyPost_ret (v := .tuple #[.agg #[.bool false, .int .i64 0, .int .i64 0], .int .i64 3]) (by simp [results, Tryz.results31, go_sem, C4.val, C4.zero]) rfl ⟨rfl, by repeat (first | exact Below.refl _ _ | refine Below.setCell ?_ (by simp) _ | refine below_drewN ?_ _ | refine Below.drew ?_ | refine Below.alloc ?_ (by simp <;> omega) _)⟩
set_option maxRecDepth 100000 in
set_option maxHeartbeats 1000000 in
theorem Cell_down (hb : Nat) (s : St) (d r : Int) (w : World) (h : HoardIn w hb s) (hd : s.aux.down = true) :
    Calls Tryz.prog 33 #[.pointer (some ⟨hb, 0, none⟩), .int .i64 d, .int .i64 r] w fun e w' => e = .returned (.tuple #[C4.zero.val, .int .i64 3]) ∧ Below w.heap.size w w' := by
  have hdn := h.downAt
  rw [hd] at hdn
  have hlt0 := h.row.lt
  clear h
  go_enter Tryz.func33, Tryz.ntmps33
  go_wp2_with fail
  exact bodyPost_ret (v := .tuple #[C4.zero.val, .int .i64 3]) (by simp [results, Tryz.results33, go_sem, C4.val, C4.zero]) rfl ⟨rfl, by repeat (first | exact Below.refl _ _ | refine Below.setCell ?_ (by simp) _ | refine below_drewN ?_ _ | refine Below.drew ?_ | refine Below.alloc ?_ (by simp <;> omega) _)⟩
set_option maxRecDepth 100000 in
set_option maxHeartbeats 1000000 in
theorem Log_down (hb : Nat) (s : St) (d : Int) (w : World) (h : HoardIn w hb s) (hd : s.aux.down = true) :
    Calls Tryz.prog 36 #[.pointer (some ⟨hb, 0, none⟩), .int .i64 d] w fun e w' => e = .returned (.tuple #[.slice none 0 0, .int .i64 3]) ∧ Below w.heap.size w w' := by
  have hdn := h.downAt
  rw [hd] at hdn
  have hlt0 := h.row.lt
  clear h
  go_enter Tryz.func36, Tryz.ntmps36
  go_wp2_with fail
  go_ret2
  exact ⟨rfl, by repeat (first | exact Below.refl _ _ | refine Below.setCell ?_ (by simp) _ | refine below_drewN ?_ _ | refine Below.drew ?_ | refine Below.alloc ?_ (by simp <;> omega) _)⟩
set_option maxRecDepth 100000 in
set_option maxHeartbeats 1000000 in
theorem Merge_down (hb : Nat) (s : St) (d n : Int) (w : World) (h : HoardIn w hb s) (hd : s.aux.down = true) :
    Calls Tryz.prog 44 #[.pointer (some ⟨hb, 0, none⟩), .int .i64 d, .int .i64 n] w fun e w' => e = .returned (.tuple #[.int .i64 0, .int .i64 3]) ∧ Below w.heap.size w w' := by
  have hdn := h.downAt
  rw [hd] at hdn
  have hlt0 := h.row.lt
  clear h
  go_enter Tryz.func44, Tryz.ntmps44
  go_wp2_with fail
  go_ret2
  exact ⟨rfl, by repeat (first | exact Below.refl _ _ | refine Below.setCell ?_ (by simp) _ | refine below_drewN ?_ _ | refine Below.drew ?_ | refine Below.alloc ?_ (by simp <;> omega) _)⟩
set_option maxRecDepth 100000 in
set_option maxHeartbeats 1000000 in
theorem Merge_downq (hb : Nat) (s : St) (d n : Int) (w : World) (h : HoardIn w hb s) (hd : s.aux.down = true) :
    Calls Tryz.prog 44 #[.pointer (some ⟨hb, 0, none⟩), .int .i64 d, .int .i64 n] w fun e w' => e = .returned (.tuple #[.int .i64 0, .int .i64 3]) ∧ ∃ q, w' = w.drewN q := by
  have hdn := h.downAt
  rw [hd] at hdn
  have hlt0 := h.row.lt
  clear h
  go_enter Tryz.func44, Tryz.ntmps44
  go_wp2_with fail
  go_ret2
  first | exact ⟨rfl, 0, rfl⟩ | exact ⟨rfl, _, rfl⟩
set_option maxRecDepth 100000 in
set_option maxHeartbeats 1000000 in
theorem Fail_down (hb : Nat) (s : St) (d : Int) (w : World) (h : HoardIn w hb s) (hd : s.aux.down = true) :
    Calls Tryz.prog 46 #[.pointer (some ⟨hb, 0, none⟩), .int .i64 d] w fun e w' => e = .returned (.int .i64 3) ∧ Below w.heap.size w w' := by
  have hdn := h.downAt
  rw [hd] at hdn
  have hlt0 := h.row.lt
  clear h
  go_enter Tryz.func46, Tryz.ntmps46
  go_wp2_with fail
  go_ret
  exact ⟨rfl, by repeat (first | exact Below.refl _ _ | refine Below.setCell ?_ (by simp) _ | refine below_drewN ?_ _ | refine Below.drew ?_ | refine Below.alloc ?_ (by simp <;> omega) _)⟩
set_option maxRecDepth 100000 in
set_option maxHeartbeats 1000000 in
theorem Replace_down (hb : Nat) (s : St) (d : Int) (w : World) (h : HoardIn w hb s) (hd : s.aux.down = true) :
    Calls Tryz.prog 48 #[.pointer (some ⟨hb, 0, none⟩), .int .i64 d] w fun e w' => e = .returned (.int .i64 3) ∧ Below w.heap.size w w' := by
  have hdn := h.downAt
  rw [hd] at hdn
  have hlt0 := h.row.lt
  clear h
  go_enter Tryz.func48, Tryz.ntmps48
  go_wp2_with fail
  go_ret
  exact ⟨rfl, by repeat (first | exact Below.refl _ _ | refine Below.setCell ?_ (by simp) _ | refine below_drewN ?_ _ | refine Below.drew ?_ | refine Below.alloc ?_ (by simp <;> omega) _)⟩
set_option maxRecDepth 100000 in
set_option maxHeartbeats 1000000 in
theorem Rebuild_down (hb : Nat) (s : St) (d n : Int) (w : World) (h : HoardIn w hb s) (hd : s.aux.down = true) :
    Calls Tryz.prog 50 #[.pointer (some ⟨hb, 0, none⟩), .int .i64 d, .int .i64 n] w fun e w' => e = .returned (.tuple #[.int .i64 0, .int .i64 3]) ∧ Below w.heap.size w w' := by
  have hdn := h.downAt
  rw [hd] at hdn
  have hlt0 := h.row.lt
  clear h
  go_enter Tryz.func50, Tryz.ntmps50
  go_wp2_with fail
  go_ret2
  exact ⟨rfl, by repeat (first | exact Below.refl _ _ | refine Below.setCell ?_ (by simp) _ | refine below_drewN ?_ _ | refine Below.drew ?_ | refine Below.alloc ?_ (by simp <;> omega) _)⟩
set_option maxRecDepth 100000 in
set_option maxHeartbeats 1000000 in
theorem Break_down (hb : Nat) (s : St) (n : Int) (w : World) (h : HoardIn w hb s) (hd : s.aux.down = true) :
    Calls Tryz.prog 52 #[.pointer (some ⟨hb, 0, none⟩), .int .i64 n] w fun e w' => e = .returned (.int .i64 3) ∧ Below w.heap.size w w' := by
  have hdn := h.downAt
  rw [hd] at hdn
  have hlt0 := h.row.lt
  clear h
  go_enter Tryz.func52, Tryz.ntmps52
  go_wp2_with fail
  go_ret
  exact ⟨rfl, by repeat (first | exact Below.refl _ _ | refine Below.setCell ?_ (by simp) _ | refine below_drewN ?_ _ | refine Below.drew ?_ | refine Below.alloc ?_ (by simp <;> omega) _)⟩
end Go.Proofs.YtfpoiikhhjdpdaaGreat
