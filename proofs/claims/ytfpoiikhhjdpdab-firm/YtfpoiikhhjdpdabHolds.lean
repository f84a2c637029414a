/- What a data cell holds; what a parity cell must have. -/
import Derived.Test.YtfpoiikhhjdpdabSolve
namespace Go.Proofs.Ytfpoiikhhjdpdab
open Go.RowKit
set_option linter.unusedVariables false
attribute [local go_sem ↓] Go.wp_at_zero Go.wp_at_succ
theorem missL_lt (s : Ab) (r m : Nat) : ∀ i, i < (missL s r m).length → (missL s r m).getD i 0 < m := by
  have : ∀ x ∈ missL s r m, x < m := by
    induction m with
    | zero => simp [missL]
    | succ m ih =>
      intro x hx
      simp only [missL] at hx
      split at hx
      · have := ih x hx; omega
      · rcases List.mem_append.1 hx with h | h
        · have := ih x h; omega
        · simp at h; omega
  intro i hi
  rw [List.getD_eq_getElem?_getD, List.getElem?_eq_getElem hi]
  exact this _ (List.getElem_mem hi)
theorem parL_lt (s : Ab) (r m : Nat) : ∀ i, i < (parL s r m).length → (parL s r m).getD i 0 < s.D + m := by
  have : ∀ x ∈ parL s r m, x < s.D + m := by
    induction m with
    | zero => simp [parL]
    | succ m ih =>
      intro x hx
      simp only [parL] at hx
      split at hx
      · rcases List.mem_append.1 hx with h | h
        · have := ih x h; omega
        · simp at h; omega
      · have := ih x hx; omega
  intro i hi
  rw [List.getD_eq_getElem?_getD, List.getElem?_eq_getElem hi]
  exact this _ (List.getElem_mem hi)
def holdM (s : Ab) (c r : Nat) (m p : List Nat) : C4 :=
  if m.length = 1 ∧ 1 ≤ p.length then solve1 s c r (p.getD 0 0)
  else if m.length = 2 ∧ p.length = 2 then solve2 s c (if m.getD 0 0 = c then m.getD 1 0 else m.getD 0 0) r (p.getD 0 0) (p.getD 1 0)
  else C4.zero
def holdC (s : Ab) (c r : Nat) : C4 := if avB s c r then s.cell c r else holdM s c r (missL s r s.D) (parL s r s.P)
theorem holdC_ok {s : Ab} (h : s.ok) (c r : Nat) : (holdC s c r).ok := by
  unfold holdC holdM
  split
  · exact h.cells c r
  · split
    · exact solve1_ok _ _ _ _
    · split
      · exact solve2_ok _ _ _ _ _ _
      · exact C4.zero_ok
set_option maxRecDepth 100000 in
set_option maxHeartbeats 2000000 in
theorem holds_av (hb : Nat) (s : St) (c r : Nat) (w : World) (h : HoardIn w hb s) (hc : c < 4) (hr : r < 6) (hav : avB s c r = true) :
    Calls Try.prog 50 #[.pointer (some ⟨hb, 0, none⟩), .int .i64 c, .int .i64 r] w fun e w' => e = .returned (holdC s c r).val ∧ Below w.heap.size w w' := by
  have hri : (r : Int) < 6 := by omega
  have hci : (c : Int) < 6 := by omega
  have hlt0 := h.row.lt
  have HA : Hid (∀ o, HoardIn (w.alloc o) hb s) := fun o => h.below ((Below.refl _ _).alloc (Nat.le_refl _) o)
  have HAV : Hid (∀ W, HoardIn W hb s → Calls Try.prog 45 #[.pointer (some ⟨hb, 4 + c * 32, none⟩), .int .i64 r] W fun e w' => e = .returned (.bool true) ∧ w' = W) := fun W hW => (has_any hb s c r W hW (by omega) hr).mono (fun e w' ⟨h1, h2⟩ => ⟨by rw [h1, hav], h2⟩)
  have HE : Hid (holdC s c r = s.cell c r) := (show _ = _ by unfold holdC; rw [hav]; rfl)
  obtain ⟨y0, y1, y2, y3⟩ := h.cell c r (by omega) hr
  clear h hav
  generalize s.cell c r = cl at *
  go_enter Try.func50, Try.ntmps50
  go_wp2_with fail
  refine (HAV.out _ (HA.out _)).mono ?_
  rintro e w1 ⟨rfl, rfl⟩
  go_wp2_with fail
  exact bodyPost_ret (v := cl.val) (by simp [results, Try.results50, go_sem, C4.val]) rfl ⟨by rw [HE.out], by repeat (first | exact Below.refl _ _ | refine Below.setCell ?_ (by simp) _ | refine below_drewN ?_ _ | refine Below.drew ?_ | refine Below.alloc ?_ (by simp <;> omega) _)⟩
set_option maxRecDepth 100000 in
set_option maxHeartbeats 4000000 in
theorem holds_no (hb : Nat) (s : St) (c r : Nat) (w : World) (h : HoardIn w hb s) (hc : c < 4) (hr : r < 6) (hav : avB s c r = false) :
    Calls Try.prog 50 #[.pointer (some ⟨hb, 0, none⟩), .int .i64 c, .int .i64 r] w fun e w' => e = .returned (holdC s c r).val ∧ Below w.heap.size w w' := by
  have hri : (r : Int) < 6 := by omega
  have hci : (c : Int) < 6 := by omega
  have hlt0 := h.row.lt
  have hD := h.ok.D4
  have hP := h.ok.P2
  have HH : Hid (HoardIn w hb s) := h
  have HA : Hid (∀ o, HoardIn (w.alloc o) hb s) := fun o => h.below ((Below.refl _ _).alloc (Nat.le_refl _) o)
  have HAV : Hid (∀ W, HoardIn W hb s → Calls Try.prog 45 #[.pointer (some ⟨hb, 4 + c * 32, none⟩), .int .i64 r] W fun e w' => e = .returned (.bool false) ∧ w' = W) := fun W hW => (has_any hb s c r W hW (by omega) hr).mono (fun e w' ⟨h1, h2⟩ => ⟨by rw [h1, hav], h2⟩)
  have HE : Hid (holdC s c r = holdM s c r (missL s r s.D) (parL s r s.P)) := (show _ = _ by unfold holdC; rw [hav]; rfl)
  have HM : Hid (∀ i, i < (missL s r s.D).length → (missL s r s.D).getD i 0 < 4) := fun i hi => by have := missL_lt s r s.D i hi; omega
  have HP : Hid (∀ i, i < (parL s r s.P).length → (parL s r s.P).getD i 0 < 6) := fun i hi => by have := parL_lt s r s.P i hi; omega
  have hml := missL_len s r s.D
  have hpl := parL_len s r s.P
  clear h hav
  go_enter Try.func50, Try.ntmps50
  go_wp2_with fail
  refine (HAV.out _ (HA.out _)).mono ?_
  rintro e w1 ⟨rfl, rfl⟩
  have K0 : Below w.heap.size w (w.alloc (.cells #[.int .u8 0, .int .u8 0, .int .u8 0, .int .u8 0] 48)) := (Below.refl _ _).alloc (Nat.le_refl _) _
  have R0 : Hid (BoxAt (w.alloc (.cells #[.int .u8 0, .int .u8 0, .int .u8 0, .int .u8 0] 48)) w.heap.size C4.zero) := BoxAt.new0 w _ rfl
  have H0 := HA.out (.cells #[.int .u8 0, .int .u8 0, .int .u8 0, .int .u8 0] 48)
  generalize w.alloc (.cells #[.int .u8 0, .int .u8 0, .int .u8 0, .int .u8 0] 48) = w0 at *
  go_wp2_with fail
  refine (missingData_any hb s r w0 H0 hr).mono ?_
  rintro e w1 ⟨v1, rfl, i1, k1⟩
  have K1 : Below w.heap.size w w1 := K0.trans (k1.mono K0.size)
  have R1 : Hid (BoxAt w1 w.heap.size C4.zero) := R0.out.below k1
  obtain ⟨p1, q1, rfl, _⟩ := i1.slice
  have H1 := HH.out.below K1
  go_wp2_with fail
  refine (availableParity_any hb s r w1 H1 hr).mono ?_
  rintro e w2 ⟨v2, rfl, i2, k2⟩
  have K2 : Below w.heap.size w w2 := K1.trans (k2.mono K1.size)
  have R2 : Hid (BoxAt w2 w.heap.size C4.zero) := R1.out.below k2
  obtain ⟨p2, q2, rfl, g2⟩ := i2.slice
  have i3 := i1.below k2
  obtain ⟨p3, q3, e3, g3⟩ := i3.slice
  obtain ⟨rfl, rfl⟩ : p1 = p3 ∧ q1 = q3 := by simp only [Value.slice.injEq] at e3; exact ⟨e3.1, e3.2.2⟩
  have G2 : Hid _ := g2
  have G3 : Hid _ := g3
  have H2 := HH.out.below K2
  have S1 : Hid (∀ d : Nat, d < 6 → Calls Try.prog 70 #[.pointer (some ⟨hb, 0, none⟩), .int .i64 c, .int .i64 r, .int .i64 d] w2 fun e w' => e = .returned (solve1 s c r d).val ∧ Below w2.heap.size w2 w') := fun d hd => solveOne_any hb s c r d w2 H2 hc hd hr
  have S2 : Hid (∀ (W : World) (o d e' : Nat), HoardIn W hb s → o < 4 → d < 6 → e' < 6 → Calls Try.prog 71 #[.pointer (some ⟨hb, 0, none⟩), .int .i64 c, .int .i64 o, .int .i64 r, .int .i64 d, .int .i64 e'] W fun e w' => e = .returned (solve2 s c o r d e').val ∧ Below W.heap.size W w') := fun W o d e' hW ho hd he => solveTwo_any hb s c o r d e' W hW hc ho hd he hr
  clear k1 k2 i1 i2 i3 H0 H1 K0 R0 K1 R1 e3 g2 g3
  generalize missL s r s.D = m at *
  generalize parL s r s.P = p at *
  obtain ⟨r0, r1, r2, r3⟩ := R2.out.cells
  obtain ⟨f0, f1, f2, f3⟩ := R2.out.frz
  have hrl := R2.out.lt
  generalize hml1 : m.length = ml at *
  generalize hpl1 : p.length = pl at *
  by_cases c1 : ml = 1 ∧ 1 ≤ pl
  · have HZ : Hid (holdC s c r = solve1 s c r (p.getD 0 0)) := (show _ = _ by rw [HE.out]; unfold holdM; rw [if_pos (by omega)])
    obtain ⟨rfl, c1b⟩ := c1
    obtain ⟨b, rfl, hcell⟩ := G2.out 0 (by omega)
    have hpi := HP.out 0 (by omega)
    have hS := S1.out _ hpi
    generalize p.getD 0 0 = pd at *
    have HS : Hid _ := hS
    clear hS
    unfold C4.val at HS
    generalize solve1 s c r pd = Z at *
    go_wp2_with fail
    refine Calls.mono HS.out ?_
    rintro e w3 ⟨rfl, k3⟩
    have K3 := K2.trans (k3.mono K2.size)
    obtain ⟨e0, e1, e2, e3⟩ := (R2.out.below k3).cells
    obtain ⟨q0, q1, q2, q3⟩ := (R2.out.below k3).frz
    go_wp2_with fail
    refine bodyPost_ret (v := Z.val) (by simp [results, Try.results50, go_sem, e0, e1, e2, e3, C4.val, C4.zero]) rfl ⟨by rw [HZ.out], ?_⟩
    exact below_set4 K3 (Nat.le_refl _) _ _ _ _
  · by_cases c2 : ml = 2
    · subst c2
      by_cases c3 : pl = 2
      · subst c3
        have hm0 := HM.out 0 (by omega)
        have hm1 := HM.out 1 (by omega)
        have hp0 := HP.out 0 (by omega)
        have hp1 := HP.out 1 (by omega)
        obtain ⟨b, rfl, hcell⟩ := G2.out 0 (by omega)
        obtain ⟨b', hbb, hcell1⟩ := G2.out 1 (by omega)
        obtain rfl : b = b' := by simpa using hbb
        obtain ⟨g, rfl, hcm⟩ := G3.out 0 (by omega)
        obtain ⟨g', hgg, hcm1⟩ := G3.out 1 (by omega)
        obtain rfl : g = g' := by simpa using hgg
        have HZ : Hid (holdC s c r = solve2 s c (if m.getD 0 0 = c then m.getD 1 0 else m.getD 0 0) r (p.getD 0 0) (p.getD 1 0)) := (show _ = _ by rw [HE.out]; unfold holdM; rw [if_neg (by omega), if_pos (by omega)])
        generalize p.getD 0 0 = d0 at *
        generalize p.getD 1 0 = d1 at *
        generalize m.getD 0 0 = m0 at *
        generalize m.getD 1 0 = m1 at *
        by_cases c4 : m0 = c
        · subst c4
          have hS : ∀ W : World, W.heap = w2.heap → _ := fun W e => S2.out W m1 d0 d1 (H2.heap e) hm1 hp0 hp1
          rw [if_pos rfl] at HZ
          have HS : Hid _ := hS
          clear hS
          unfold C4.val at HS
          generalize solve2 s m0 m1 r d0 d1 = Z at *
          go_wp2_with fail
          go_region_with ((go_at_call 71; go_must (refine Calls.mono (HS.out _ (by rfl)) ?_); rintro e w3 ⟨rfl, k4⟩; have k3 : Below w2.heap.size w2 w3 := below_from k4 rfl rfl rfl rfl; have K3 := K2.trans (k3.mono K2.size); obtain ⟨e0, e1, e2, e3⟩ := (R2.out.below k3).cells; obtain ⟨q0, q1, q2, q3⟩ := (R2.out.below k3).frz))
          all_goals
           go_wp2_with fail
           refine bodyPost_ret (v := Z.val) (by simp [results, Try.results50, go_sem, e0, e1, e2, e3, C4.val, C4.zero]) rfl ⟨by rw [HZ.out], ?_⟩
           exact below_set4 K3 (Nat.le_refl _) _ _ _ _
        · have c4i : ((m0 : Int) == (c : Int)) = false := by rw [beq_eq_false_iff_ne]; omega
          have hS : ∀ W : World, W.heap = w2.heap → _ := fun W e => S2.out W m0 d0 d1 (H2.heap e) hm0 hp0 hp1
          rw [if_neg c4] at HZ
          have HS : Hid _ := hS
          clear hS c4
          unfold C4.val at HS
          generalize solve2 s c m0 r d0 d1 = Z at *
          go_wp2_with fail
          go_region_with ((go_at_call 71; go_must (refine Calls.mono (HS.out _ (by rfl)) ?_); rintro e w3 ⟨rfl, k4⟩; have k3 : Below w2.heap.size w2 w3 := below_from k4 rfl rfl rfl rfl; have K3 := K2.trans (k3.mono K2.size); obtain ⟨e0, e1, e2, e3⟩ := (R2.out.below k3).cells; obtain ⟨q0, q1, q2, q3⟩ := (R2.out.below k3).frz))
          all_goals
           go_wp2_with fail
           refine bodyPost_ret (v := Z.val) (by simp [results, Try.results50, go_sem, e0, e1, e2, e3, C4.val, C4.zero]) rfl ⟨by rw [HZ.out], ?_⟩
           exact below_set4 K3 (Nat.le_refl _) _ _ _ _
      · have HZ : Hid (holdC s c r = C4.zero) := (show _ = _ by rw [HE.out]; unfold holdM; rw [if_neg (by omega), if_neg (by omega)])
        have c3i : ((pl : Int) == 2) = false := by rw [beq_eq_false_iff_ne]; omega
        clear c3 c1
        go_wp2_with fail
        refine bodyPost_ret (v := C4.zero.val) (by simp [results, Try.results50, go_sem, r0, r1, r2, r3, C4.val, C4.zero]) rfl ⟨by rw [HZ.out], ?_⟩
        exact below_set4 K2 (Nat.le_refl _) _ _ _ _
    · have HZ : Hid (holdC s c r = C4.zero) := (show _ = _ by rw [HE.out]; unfold holdM; rw [if_neg (by omega), if_neg (by omega)])
      have c2i : ((ml : Int) == 2) = false := by rw [beq_eq_false_iff_ne]; omega
      by_cases c5 : ml = 1
      · subst c5
        have c6 : pl = 0 := by omega
        subst c6
        clear c1 c2 c2i
        go_wp2_with fail
        refine bodyPost_ret (v := C4.zero.val) (by simp [results, Try.results50, go_sem, r0, r1, r2, r3, C4.val, C4.zero]) rfl ⟨by rw [HZ.out], ?_⟩
        exact below_set4 K2 (Nat.le_refl _) _ _ _ _
      · have c5i : ((ml : Int) == 1) = false := by rw [beq_eq_false_iff_ne]; omega
        clear c1 c2 c5
        go_wp2_with fail
        refine bodyPost_ret (v := C4.zero.val) (by simp [results, Try.results50, go_sem, r0, r1, r2, r3, C4.val, C4.zero]) rfl ⟨by rw [HZ.out], ?_⟩
        exact below_set4 K2 (Nat.le_refl _) _ _ _ _
theorem holds_any (hb : Nat) (s : St) (c r : Nat) (w : World) (h : HoardIn w hb s) (hc : c < 4) (hr : r < 6) :
    Calls Try.prog 50 #[.pointer (some ⟨hb, 0, none⟩), .int .i64 c, .int .i64 r] w fun e w' => e = .returned (holdC s c r).val ∧ Below w.heap.size w w' := by
  cases hav : avB s c r
  · exact holds_no hb s c r w h hc hr hav
  · exact holds_av hb s c r w h hc hr hav
end Go.Proofs.Ytfpoiikhhjdpdab
