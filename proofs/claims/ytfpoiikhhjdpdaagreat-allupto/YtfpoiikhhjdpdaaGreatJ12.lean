import Derived.Test.YtfpoiikhhjdpdaaGreatJ10
import Derived.Test.YtfpoiikhhjdpdaaGreatJ11
/- Write and Merge. -/
namespace Go.Proofs.YtfpoiikhhjdpdaaGreat
open Go.RowKit
set_option linter.unusedVariables false
attribute [local go_sem ↓] Go.wp_at_zero Go.wp_at_succ
theorem block_steps (a : Ab) (b fr n : Nat) (g : Nat → Nat) : (abBlock a b fr n g).steps ≤ a.steps + 3 + a.P := by
  unfold abBlock
  split
  · omega
  · have np := noted_props a (b % a.D) (b / a.D) ((holdC a (b % a.D) (b / a.D)).xor (abNew a b fr n g)) a.P
    have hl := parL_len a (b / a.D) a.P
    unfold abLaid
    split
    · show _ + 1 ≤ _
      rw [np.2.2.2.1]; unfold parN; omega
    · show (abNoted a (b % a.D) (b / a.D) _ a.P).steps + 1 + 1 ≤ _
      rw [np.2.2.2.1]; unfold parN; omega
theorem blocks_inv (a : Ab) (fr n : Nat) (g : Nat → Nat) (m : Nat) : SameAb a (abBlocks a fr n g m) ∧ (abBlocks a fr n g m).steps ≤ a.steps + m * (3 + a.P) := by
  induction m with
  | zero => exact ⟨SameAb.refl a, by show a.steps ≤ _; omega⟩
  | succ m ih =>
    have hs := block_steps (abBlocks a fr n g m) (fr / 4 + m) fr n g
    have hm := (block_mono (abBlocks a fr n g m) (fr / 4 + m) fr n g).1
    refine ⟨ih.1.trans hm, ?_⟩
    show (abBlock _ _ _ _ _).steps ≤ _
    rw [ih.1.P] at hs
    have := ih.2
    rw [Nat.add_mul]
    omega
set_option maxRecDepth 100000 in
set_option maxHeartbeats 1000000 in
theorem Write_no (hb : Nat) (s : St) (a : Int) (p : Option Addr) (n cap : Nat) (w : World) (h : HoardAt w hb s) (ha : -9223372036854775808 ≤ a ∧ a ≤ 9223372036854775807) (hh : hasB s a n = false) :
    Calls Tryz.prog 41 #[.pointer (some ⟨hb, 0, none⟩), .int .i64 a, .slice p n cap] w fun e w' => e = .returned (.int .i64 4) ∧ Below w.heap.size w w' := by
  have hdn := h.downAt
  have HUP : Hid (s.aux = aux0) := h.up
  replace h := h.toHoardIn
  have hlt0 := h.row.lt
  go_enter Tryz.func41, Tryz.ntmps41
  go_wp2_with fail
  refine (hasBytes_any hb s a n _ h ha).mono ?_
  rintro e w1 ⟨rfl, q, rfl⟩
  go_wp2_with fail
  go_ret
  exact ⟨rfl, below_drewN (Below.refl _ _) _⟩
set_option maxRecDepth 100000 in
set_option maxHeartbeats 1000000 in
theorem Write_lost (hb : Nat) (s : St) (a : Nat) (p : Option Addr) (n cap : Nat) (w : World) (h : HoardAt w hb s) (hh : hasB s a n = true) (hg : anyGone s a (blkEnd a n - a / 4) = true) :
    Calls Tryz.prog 41 #[.pointer (some ⟨hb, 0, none⟩), .int .i64 a, .slice p n cap] w fun e w' => e = .returned (.int .i64 5) ∧ Below w.heap.size w w' := by
  have hdn := h.downAt
  have HUP : Hid (s.aux = aux0) := h.up
  replace h := h.toHoardIn
  have hlt0 := h.row.lt
  obtain ⟨han, _⟩ := has_le h.ok hh
  go_enter Tryz.func41, Tryz.ntmps41
  go_wp2_with fail
  refine (hasBytes_any hb s a n _ h (by omega)).mono ?_
  rintro e w1 ⟨rfl, q, rfl⟩
  go_wp2_with fail
  refine (isAnyGone_any hb s a n _ (h.drewN q) han).mono ?_
  rintro e w2 ⟨rfl, k2⟩
  go_wp2_with fail
  go_ret
  exact ⟨rfl, (below_drewN (Below.refl _ _) q).trans (k2.mono (by simp))⟩
/-- What a Write that is not refused leaves. -/
def WPost (hb : Nat) (s : St) (w : World) (a n : Nat) (f : Nat → Nat) (e : Ending) (w' : World) : Prop :=
  ∃ s', WentIn hb s w s' w' ∧ ((e = .returned (.int .i64 0) ∧ (∀ m, m < blkEnd a n - a / 4 → brkHit (abBlocks s.toAb a n f m) (blockN (abBlocks s.toAb a n f m) (a / 4 + m) a n f) = none) ∧ s'.toAb = abWrite s.toAb a n f ∧ s'.aux = aux0) ∨
    (e = .returned (.int .i64 3) ∧ (∀ g, s'.aux.tv.ownBlock = some g → w.heap.size ≤ g) ∧ ∃ m j, m < blkEnd a n - a / 4 ∧ (∀ m', m' < m → brkHit (abBlocks s.toAb a n f m') (blockN (abBlocks s.toAb a n f m') (a / 4 + m') a n f) = none) ∧ brkHit (abBlocks s.toAb a n f m) (blockN (abBlocks s.toAb a n f m) (a / 4 + m) a n f) = some j ∧ DownAt w' hb s' (abDown (abBlocks s.toAb a n f m) (a / 4 + m) a n f j)))
set_option maxRecDepth 100000 in
set_option maxHeartbeats 2000000 in
theorem Write_all (hb : Nat) (s : St) (a : Nat) (p : Option Addr) (n cap : Nat) (f : Nat → Nat) (w : World) (h : HoardAt w hb s) (hh : hasB s a n = true) (hg : anyGone s a (blkEnd a n - a / 4) = false) (hd : BytesAt w p n f) (hF : ∀ b o, p = some ⟨b, o, none⟩ → ¬ Foot hb s b) (hst : s.steps ≤ 2305843009213693952) :
    Calls Tryz.prog 41 #[.pointer (some ⟨hb, 0, none⟩), .int .i64 a, .slice p n cap] w fun e w' => WPost hb s w a n f e w' := by
  have hdn := h.downAt
  have HUP : Hid (s.aux = aux0) := h.up
  replace h := h.toHoardIn
  have hlt0 := h.row.lt
  obtain ⟨han0, h96⟩ := has_le h.ok hh
  have HAN : Hid (a + n ≤ s.D * s.R * 4) := han0
  have han : a + n ≤ 96 := by omega
  have hP := h.ok.P2
  have HH : Hid (HoardIn w hb s) := h
  have HD : Hid (BytesAt w p n f) := hd
  have HF : Hid (∀ b o, p = some ⟨b, o, none⟩ → ¬ Foot hb s b) := hF
  have he24 : blkEnd a n ≤ 24 := by unfold blkEnd; split <;> omega
  have hfe : a / 4 ≤ blkEnd a n := by unfold blkEnd; split <;> omega
  have HEN : Hid (a / 4 < blkEnd a n → blkEnd a n ≤ s.D * s.R) := fun hx => by unfold blkEnd at hx ⊢; split at hx <;> first | omega | (rw [if_neg (by assumption)]; omega)
  clear h hd hF
  go_enter Tryz.func41, Tryz.ntmps41
  go_wp2_with fail
  refine (hasBytes_any hb s a n _ HH.out (by omega)).mono ?_
  rintro e w1 ⟨rfl, q, rfl⟩
  go_wp2_with fail
  refine (isAnyGone_any hb s a n _ (HH.out.drewN q) han0).mono ?_
  rintro e w2 ⟨rfl, k2⟩
  have k3 : WentIn hb s w s w2 := WentIn.below HH.out ((below_drewN (Below.refl _ _) q).trans (k2.mono (by simp)))
  clear k2 hh han0 h96
  go_wp2_with fail
  refine (blocks_any a n _ (by omega) (by omega)).mono ?_
  rintro e w3 ⟨rfl, rfl⟩
  clear hg
  go_wp2_with fail
  go_loopw [9] (fun j wr => ∃ (m bb : Nat) (s1 : St), Hid (bb = a / 4 + m) ∧ bb ≤ blkEnd a n ∧ j = .int .i64 bb ∧ Hid (s1.toAb = abBlocks s.toAb a n f m) ∧ Hid (s1.aux = aux0) ∧ Hid (∀ m', m' < m → brkHit (abBlocks s.toAb a n f m') (blockN (abBlocks s.toAb a n f m') (a / 4 + m') a n f) = none) ∧ WentIn hb s w s1 wr) (fun j _ => blkEnd a n - (intOf j).toNat)
  case atStart => exact ⟨0, a / 4, s, rfl, hfe, by go_num, rfl, HUP, (show ∀ m', m' < 0 → _ from fun m' hm' => absurd hm' (Nat.not_lt_zero _)), k3⟩
  case round =>
    obtain ⟨m, bb, s1, hbb, hbe, rfl, hab, hax, hnb, hw⟩ := hrel
    by_cases hlt : bb < blkEnd a n
    · have hlti : (bb : Int) < (blkEnd a n : Int) := by omega
      have hinv := blocks_inv s.toAb a n f m
      rw [← hab.out] at hinv
      have i1 : s1.D = s.D := hinv.1.D
      have i2 : s1.R = s.R := hinv.1.R
      have i3 : s1.steps ≤ s.steps + m * (3 + s.P) := hinv.2
      have hm25 : m ≤ 25 := by have := hbb.out; omega
      have hms : m * (3 + s.P) ≤ 25 * 5 := Nat.mul_le_mul hm25 (by omega)
      have HDR : Hid (bb < s1.D * s1.R) := (show _ < _ by rw [i1, i2]; have := HEN.out (by have := hbb.out; omega); omega)
      have HBS : Hid (s1.steps ≤ 4611686018427387904) := (show _ ≤ _ by omega)
      have hbb24 : bb < 24 := by omega
      clear hinv i1 i2 i3 hms k3
      go_wp2_with fail
      refine (writeBlock_any hb s1 bb a p n cap f wr hw.at' hax.out (HD.out.kept hw.kept HF.out) HDR.out (by omega) (by omega) HBS.out).mono ?_
      rintro e w4 ⟨s2, hw2, ⟨rfl, hn2, hab2, hax2⟩ | ⟨rfl, htv, j, hj, hdw⟩⟩
      · have HWW : Hid (WentIn hb s1 wr s2 w4) := hw2
        have HA2 : Hid (s2.toAb = abBlock s1.toAb bb a n f) := hab2
        have HX2 : Hid (s2.aux = aux0) := hax2.trans hax.out
        have HN2 : Hid (brkHit s1.toAb (blockN s1.toAb bb a n f) = none) := hn2
        clear hw2 hab2 hax2 hn2
        go_wp2_with fail
        refine ⟨⟨m + 1, bb + 1, s2, (show bb + 1 = _ by have := hbb.out; omega), by omega, by go_num, ?_, HX2, ?_, hw.trans HWW.out⟩, by simp [intOf]; omega⟩
        · show s2.toAb = abBlock (abBlocks s.toAb a n f m) (a / 4 + m) a n f
          rw [HA2.out, hab.out, hbb.out]
        · intro m' hm'
          by_cases e : m' = m
          · subst e
            have := HN2.out
            rw [hab.out, hbb.out] at this; exact this
          · exact hnb.out m' (by omega)
      · have HWW : Hid (WentIn hb s1 wr s2 w4) := hw2
        have HJ : Hid (brkHit s1.toAb (blockN s1.toAb bb a n f) = some j) := hj
        have HDW : Hid (DownAt w4 hb s2 (abDown s1.toAb bb a n f j)) := hdw
        have HTV : Hid (∀ g, s2.aux.tv.ownBlock = some g → wr.heap.size ≤ g) := htv
        clear hw2 hj hdw htv
        go_wp2_with fail
        go_ret
        refine ⟨s2, hw.trans HWW.out, .inr ⟨rfl, fun g hg => Nat.le_trans hw.kept.size (HTV.out g hg), m, j, (by have := hbb.out; omega), hnb.out, ?_, ?_⟩⟩
        · have := HJ.out
          rw [hab.out, hbb.out] at this; exact this
        · have := HDW.out
          rw [hab.out, hbb.out] at this; exact this
    · have HMM : Hid (m = blkEnd a n - a / 4) := (show _ = _ by have := hbb.out; omega)
      have hlt' : ¬ ((bb : Int) < (blkEnd a n : Int)) := by omega
      clear k3
      go_wp2_with fail
      go_ret
      have e1 : s1.toAb = abWrite s.toAb a n f := by rw [hab.out, abWrite, ← HMM.out]
      exact ⟨s1, hw, .inl ⟨rfl, by rw [← HMM.out]; exact hnb.out, e1, hax.out⟩⟩
theorem brkHit_no {a : Ab} (h : a.brk = none) (n : Nat) : brkHit a n = none := by unfold brkHit; rw [h]
theorem block_brk (a : Ab) (b fr n : Nat) (g : Nat → Nat) (hD : 1 ≤ a.D) : (abBlock a b fr n g).brk = a.brk := by
  by_cases he : abNew a b fr n g = holdC a (b % a.D) (b / a.D)
  · unfold abBlock
    rw [if_pos ((C4.beq_iff _ _).2 he)]
  · rw [block_takes a b fr n g hD he]
    exact (takes_props a _ _ _ _ _).2.2.2
theorem blocks_brk (a : Ab) (fr n : Nat) (g : Nat → Nat) (hD : 1 ≤ a.D) (m : Nat) : (abBlocks a fr n g m).brk = a.brk := by
  induction m with
  | zero => rfl
  | succ m ih =>
    show (abBlock _ _ _ _ _).brk = _
    rw [block_brk _ _ _ _ _ (by rw [(blocks_inv a fr n g m).1.D]; exact hD), ih]
/-- Where no break is to come. -/
theorem Write_ok (hb : Nat) (s : St) (a : Nat) (p : Option Addr) (n cap : Nat) (f : Nat → Nat) (w : World) (h : HoardAt w hb s) (hh : hasB s a n = true) (hg : anyGone s a (blkEnd a n - a / 4) = false) (hd : BytesAt w p n f) (hF : ∀ b o, p = some ⟨b, o, none⟩ → ¬ Foot hb s b) (hst : s.steps ≤ 2305843009213693952) (hbk : s.brk = none) :
    Calls Tryz.prog 41 #[.pointer (some ⟨hb, 0, none⟩), .int .i64 a, .slice p n cap] w fun e w' => ∃ s', e = .returned (.int .i64 0) ∧ s'.toAb = abWrite s.toAb a n f ∧ Went hb s w s' w' := by
  have hD := h.ok.D1
  refine (Write_all hb s a p n cap f w h hh hg hd hF hst).mono fun e w' hp => ?_
  obtain ⟨s', hw, ⟨he, _, hab, hax⟩ | ⟨he, _, m, j, _, _, hj, _⟩⟩ := hp
  · refine ⟨s', he, hab, Went.of hw hax ?_⟩
    show s'.toAb.brk = s.toAb.brk
    rw [hab]; exact blocks_brk s.toAb a n f hD _
  · rw [brkHit_no (by rw [blocks_brk s.toAb a n f hD m]; exact hbk)] at hj
    exact absurd hj (by simp)
set_option maxRecDepth 100000 in
set_option maxHeartbeats 1000000 in
theorem Merge_no (hb : Nat) (s : St) (d n : Int) (w : World) (h : HoardAt w hb s) (hd : isParityB s d = false) :
    Calls Tryz.prog 44 #[.pointer (some ⟨hb, 0, none⟩), .int .i64 d, .int .i64 n] w fun e w' => e = .returned (.tuple #[.int .i64 0, .int .i64 6]) ∧ Below w.heap.size w w' := by
  have hdn := h.downAt
  have HUP : Hid (s.aux = aux0) := h.up
  replace h := h.toHoardIn
  have hlt0 := h.row.lt
  go_enter Tryz.func44, Tryz.ntmps44
  go_wp2_with fail
  refine (isParity_b hb s d _ h).mono ?_
  rintro e w1 ⟨rfl, k1, h1⟩
  go_wp2_with fail
  go_ret2
  exact ⟨rfl, k1⟩
set_option maxRecDepth 100000 in
set_option maxHeartbeats 1000000 in
theorem Merge_lost (hb : Nat) (s : St) (d : Nat) (n : Int) (w : World) (h : HoardAt w hb s) (hd : isParityB s d = true) (hls : s.lost d = true) :
    Calls Tryz.prog 44 #[.pointer (some ⟨hb, 0, none⟩), .int .i64 d, .int .i64 n] w fun e w' => e = .returned (.tuple #[.int .i64 0, .int .i64 7]) ∧ Below w.heap.size w w' := by
  have hdn := h.downAt
  have HUP : Hid (s.aux = aux0) := h.up
  replace h := h.toHoardIn
  have hlt0 := h.row.lt
  have hD := h.ok.D4
  have hP := h.ok.P2
  have hd1 := hd
  simp only [isParityB, decide_eq_true_eq] at hd1
  have hd6 : d < 6 := by omega
  have hdi : (d : Int) < 6 := by omega
  go_enter Tryz.func44, Tryz.ntmps44
  go_wp2_with fail
  refine (isParity_b hb s d _ h).mono ?_
  rintro e w1 ⟨rfl, k1, h1⟩
  have hlo := h1.lostAt d hd6
  rw [hls] at hlo
  have hlt := h1.row.lt
  clear h1
  go_wp2_with fail
  go_ret2
  exact ⟨rfl, k1⟩
set_option maxRecDepth 100000 in
set_option maxHeartbeats 1000000 in
theorem Merge_arg (hb : Nat) (s : St) (d : Nat) (n : Int) (w : World) (h : HoardAt w hb s) (hd : isParityB s d = true) (hls : s.lost d = false) (hn : n < 1) :
    Calls Tryz.prog 44 #[.pointer (some ⟨hb, 0, none⟩), .int .i64 d, .int .i64 n] w fun e w' => e = .returned (.tuple #[.int .i64 0, .int .i64 1]) ∧ Below w.heap.size w w' := by
  have hdn := h.downAt
  have HUP : Hid (s.aux = aux0) := h.up
  replace h := h.toHoardIn
  have hlt0 := h.row.lt
  have hD := h.ok.D4
  have hP := h.ok.P2
  have hd1 := hd
  simp only [isParityB, decide_eq_true_eq] at hd1
  have hd6 : d < 6 := by omega
  have hdi : (d : Int) < 6 := by omega
  go_enter Tryz.func44, Tryz.ntmps44
  go_wp2_with fail
  refine (isParity_b hb s d _ h).mono ?_
  rintro e w1 ⟨rfl, k1, h1⟩
  have hlo := h1.lostAt d hd6
  rw [hls] at hlo
  have hlt := h1.row.lt
  clear h1
  go_wp2_with fail
  go_ret2
  exact ⟨rfl, k1⟩
set_option maxRecDepth 100000 in
set_option maxHeartbeats 1000000 in
theorem Merge_ok (hb : Nat) (s : St) (d n : Nat) (w : World) (h : HoardAt w hb s) (hd : isParityB s d = true) (hls : s.lost d = false) (hn : 1 ≤ n) (hn2 : n ≤ 9223372036854775807) :
    Calls Tryz.prog 44 #[.pointer (some ⟨hb, 0, none⟩), .int .i64 d, .int .i64 n] w fun e w' => ∃ s', e = .returned (.tuple #[.int .i64 (min n (s.recs d).length : Nat), .int .i64 0]) ∧ s'.toAb = abMerge s.toAb d n ∧ Went hb s w s' w' := by
  have hdn := h.downAt
  have HUP : Hid (s.aux = aux0) := h.up
  replace h := h.toHoardIn
  have hlt0 := h.row.lt
  have hd1 := hd
  simp only [isParityB, decide_eq_true_eq] at hd1
  have hD := h.ok.D4
  have hP := h.ok.P2
  have hd6 : d < 6 := by omega
  have hdi : (d : Int) < 6 := by omega
  have hpd : s.D ≤ d := by omega
  generalize hmn : min n (s.recs d).length = mn at *
  have HMN : Hid (min n (s.recs d).length = mn) := hmn
  have HH : Hid (HoardIn w hb s) := h
  clear h hd1 hmn
  go_enter Tryz.func44, Tryz.ntmps44
  go_wp2_with fail
  refine (isParity_b hb s d _ HH.out).mono ?_
  rintro e w1 ⟨rfl, k1, h1⟩
  have hlo := h1.lostAt d hd6
  rw [hls] at hlo
  have hlt := h1.row.lt
  go_wp2_with fail
  refine (dmerge_any hb s d n _ h1 hd6 hpd (by omega) (by omega)).mono ?_
  rw [HMN.out]
  rintro e w2 ⟨v, rfl, h2, k2, f2⟩
  have ww : WentIn hb s w ((applyRecs s d ((s.recs d).take n)).setLog d ((s.recs d).drop n) v) w2 := (WentIn.below HH.out k1).trans ⟨h2, k2.mono (fun i hi => .inl hi), fun k hk => by
    rcases foot_setLog hk with h3 | h3
    · exact .inl (foot_apply h3)
    · exact .inr (f2 k h3)⟩
  have e1 : ((applyRecs s d ((s.recs d).take n)).setLog d ((s.recs d).drop n) v).toAb = abMerge s.toAb d n := ab_merge s d n v
  have WW : Hid (WentIn hb s w ((applyRecs s d ((s.recs d).take n)).setLog d ((s.recs d).drop n) v) w2) := ww
  have E1 : Hid (((applyRecs s d ((s.recs d).take n)).setLog d ((s.recs d).drop n) v).toAb = abMerge s.toAb d n) := e1
  clear ww e1 h2 k2 f2 h1
  go_wp2_with fail
  go_ret2
  have hbk : ((applyRecs s d ((s.recs d).take n)).setLog d ((s.recs d).drop n) v).brk = s.brk := applyRecs_brk s d _
  have hux : ((applyRecs s d ((s.recs d).take n)).setLog d ((s.recs d).drop n) v).aux = aux0 := (applyRecs_rest s d _).2.2.trans HUP.out
  first | exact ⟨_, rfl, E1.out, Went.of WW.out hux hbk⟩ | exact ⟨rfl, _, E1.out, Went.of WW.out hux hbk⟩

end Go.Proofs.YtfpoiikhhjdpdaaGreat
