import Derived.Test.YtfpoiikhhjdpdaaGreatJ37
/- hoardlaw.step: Fail, Replace, Rebuild. -/
namespace Go.Proofs.YtfpoiikhhjdpdaaGreat
open Go.RowKit
set_option linter.unusedVariables false
attribute [local go_sem ↓] Go.wp_at_zero Go.wp_at_succ
set_option maxRecDepth 100000 in
set_option maxHeartbeats 1000000 in
theorem step_11 (T : World) (tag : Nat → Nat) (G : GSt) (N : Nat) (o : OpV) (w : World) (hk : o.k = 11) (ha : -9223372036854775808 ≤ o.a ∧ o.a ≤ 9223372036854775807) (hN : N ≤ 220000000) (hG : Great T w tag G N) (P : World → Prop)
    (h0 : ∀ W, Below w.heap.size w W → P W) (hA : ∀ i, i < G.n → ∀ W, Below w.heap.size w W → Calls Tryz.prog 16 #[o.val, .pointer (some ⟨G.pb i, 0, none⟩)] W fun e w' => e = .returned (.bool true) ∧ P w') :
    Calls Tryz.prog 10 #[.pointer (some ⟨T.heap.size, 0, none⟩), o.val] w fun e w' => e = .returned (.bool true) ∧ P w' := by
  obtain ⟨k, a0, b0, c0, d0, e0, s0⟩ := o
  simp only at hk ha hA
  subst hk
  unfold OpV.val at hA ⊢
  simp only at hA ⊢
  have ct : w.cell? ⟨T.heap.size, 0, none⟩ = some G.pv := hG.top.cell (i := 0) (by omega)
  have htl : T.heap.size < w.heap.size := hG.top.lt
  have HA : Hid _ := hA
  have H0 : Hid _ := h0
  have hc : G.n ≤ 1100000 := by have := hG.cnt.1; omega
  by_cases hn : G.n = 0
  · have hpv : ∃ p cap, G.pv = .slice p 0 cap := by
      obtain ⟨p, cap, e⟩ := own_wid hG.ps
      rw [hn] at e; exact ⟨p, cap, e⟩
    obtain ⟨p, cap, hpv⟩ := hpv
    rw [hpv] at ct
    clear hG hA h0 hc hpv hn
    go_enter Tryz.func10, Tryz.ntmps10
    go_wp2_with fail
    go_ret
    exact ⟨by simp, H0.out _ (below_al _ _)⟩
  · obtain ⟨g, cap, hpv, hgl, hcell⟩ := hG.pairAt (by omega)
    rw [hpv] at ct
    have HCE : Hid _ := hcell
    generalize hGn : G.n = n at *
    have hn1 : ((n : Int) == 0) = false := by rw [beq_eq_false_iff_ne]; omega
    have HPK : Hid (∀ W, Calls Tryz.prog 14 #[.int .i64 a0, .int .i64 n] W fun e w' => ∃ i : Nat, e = .returned (.int .i64 i) ∧ i < n ∧ w' = W) := fun W => pick_any a0 n W ha (by omega) (by omega)
    clear hG hA h0 hcell hpv hn
    go_enter Tryz.func10, Tryz.ntmps10
    go_upto_region 9 with fail
    have HWA : Hid (Below w.heap.size w (w.alloc (Obj.cells #[.int .i64 11, .int .i64 a0, .int .i64 b0, .int .i64 c0, .int .i64 d0, .int .i64 e0, .string s0] 35))) := below_al _ _
    have HCE2 : Hid (∀ i, i < n → (w.alloc (Obj.cells #[.int .i64 11, .int .i64 a0, .int .i64 b0, .int .i64 c0, .int .i64 d0, .int .i64 e0, .string s0] 35)).drew.cell? ⟨g, i, none⟩ = some (.pointer (some ⟨G.pb i, 0, none⟩))) := fun i hi => below_cell' HWA.out.drew (HCE.out i hi)
    have hgl2 : g < (w.alloc (Obj.cells #[.int .i64 11, .int .i64 a0, .int .i64 b0, .int .i64 c0, .int .i64 d0, .int .i64 e0, .string s0] 35)).drew.heap.size := by simp; omega
    go_cut [5] (fun s5 wx => ∃ i, i < n ∧ s5 = .pointer (some ⟨G.pb i, 0, none⟩) ∧ wx = (w.alloc (Obj.cells #[.int .i64 11, .int .i64 a0, .int .i64 b0, .int .i64 c0, .int .i64 d0, .int .i64 e0, .string s0] 35)).drew)
    case first =>
      go_region_with ((go_at_call 14; go_must (refine (HPK.out _).mono ?_); rintro e w2 ⟨i, rfl, hi, rfl⟩; have ci := HCE2.out i hi; have hii : (i : Int) < (n : Int) := (by omega); have HII : Hid (i < n) := hi; clear hi))
      all_goals
        go_wp2_with fail
        go_meet
        exact ⟨_, HII.out, rfl, rfl⟩
    case rest =>
      obtain ⟨i, hi, rfl, rfl⟩ := hcut
      go_wp2_with (go_at_call 16; go_must (refine (HA.out i hi _ (by repeat (first | exact HWA.out | refine Below.drew ?_))).mono ?_))
      rintro e w2 ⟨rfl, hP⟩
      have HP : Hid (P w2) := hP
      clear hP
      go_wp2_with fail
      go_ret
      exact ⟨by simp, HP.out⟩
set_option maxRecDepth 100000 in
set_option maxHeartbeats 1000000 in
theorem step_12 (T : World) (tag : Nat → Nat) (G : GSt) (N : Nat) (o : OpV) (w : World) (hk : o.k = 12) (ha : -9223372036854775808 ≤ o.a ∧ o.a ≤ 9223372036854775807) (hN : N ≤ 220000000) (hG : Great T w tag G N) (P : World → Prop)
    (h0 : ∀ W, Below w.heap.size w W → P W) (hA : ∀ i, i < G.n → ∀ W, Below w.heap.size w W → Calls Tryz.prog 16 #[o.val, .pointer (some ⟨G.pb i, 0, none⟩)] W fun e w' => e = .returned (.bool true) ∧ P w') :
    Calls Tryz.prog 10 #[.pointer (some ⟨T.heap.size, 0, none⟩), o.val] w fun e w' => e = .returned (.bool true) ∧ P w' := by
  obtain ⟨k, a0, b0, c0, d0, e0, s0⟩ := o
  simp only at hk ha hA
  subst hk
  unfold OpV.val at hA ⊢
  simp only at hA ⊢
  have ct : w.cell? ⟨T.heap.size, 0, none⟩ = some G.pv := hG.top.cell (i := 0) (by omega)
  have htl : T.heap.size < w.heap.size := hG.top.lt
  have HA : Hid _ := hA
  have H0 : Hid _ := h0
  have hc : G.n ≤ 1100000 := by have := hG.cnt.1; omega
  by_cases hn : G.n = 0
  · have hpv : ∃ p cap, G.pv = .slice p 0 cap := by
      obtain ⟨p, cap, e⟩ := own_wid hG.ps
      rw [hn] at e; exact ⟨p, cap, e⟩
    obtain ⟨p, cap, hpv⟩ := hpv
    rw [hpv] at ct
    clear hG hA h0 hc hpv hn
    go_enter Tryz.func10, Tryz.ntmps10
    go_wp2_with fail
    go_ret
    exact ⟨by simp, H0.out _ (below_al _ _)⟩
  · obtain ⟨g, cap, hpv, hgl, hcell⟩ := hG.pairAt (by omega)
    rw [hpv] at ct
    have HCE : Hid _ := hcell
    generalize hGn : G.n = n at *
    have hn1 : ((n : Int) == 0) = false := by rw [beq_eq_false_iff_ne]; omega
    have HPK : Hid (∀ W, Calls Tryz.prog 14 #[.int .i64 a0, .int .i64 n] W fun e w' => ∃ i : Nat, e = .returned (.int .i64 i) ∧ i < n ∧ w' = W) := fun W => pick_any a0 n W ha (by omega) (by omega)
    clear hG hA h0 hcell hpv hn
    go_enter Tryz.func10, Tryz.ntmps10
    go_upto_region 9 with fail
    have HWA : Hid (Below w.heap.size w (w.alloc (Obj.cells #[.int .i64 12, .int .i64 a0, .int .i64 b0, .int .i64 c0, .int .i64 d0, .int .i64 e0, .string s0] 35))) := below_al _ _
    have HCE2 : Hid (∀ i, i < n → (w.alloc (Obj.cells #[.int .i64 12, .int .i64 a0, .int .i64 b0, .int .i64 c0, .int .i64 d0, .int .i64 e0, .string s0] 35)).drew.cell? ⟨g, i, none⟩ = some (.pointer (some ⟨G.pb i, 0, none⟩))) := fun i hi => below_cell' HWA.out.drew (HCE.out i hi)
    have hgl2 : g < (w.alloc (Obj.cells #[.int .i64 12, .int .i64 a0, .int .i64 b0, .int .i64 c0, .int .i64 d0, .int .i64 e0, .string s0] 35)).drew.heap.size := by simp; omega
    go_cut [5] (fun s5 wx => ∃ i, i < n ∧ s5 = .pointer (some ⟨G.pb i, 0, none⟩) ∧ wx = (w.alloc (Obj.cells #[.int .i64 12, .int .i64 a0, .int .i64 b0, .int .i64 c0, .int .i64 d0, .int .i64 e0, .string s0] 35)).drew)
    case first =>
      go_region_with ((go_at_call 14; go_must (refine (HPK.out _).mono ?_); rintro e w2 ⟨i, rfl, hi, rfl⟩; have ci := HCE2.out i hi; have hii : (i : Int) < (n : Int) := (by omega); have HII : Hid (i < n) := hi; clear hi))
      all_goals
        go_wp2_with fail
        go_meet
        exact ⟨_, HII.out, rfl, rfl⟩
    case rest =>
      obtain ⟨i, hi, rfl, rfl⟩ := hcut
      go_wp2_with (go_at_call 16; go_must (refine (HA.out i hi _ (by repeat (first | exact HWA.out | refine Below.drew ?_))).mono ?_))
      rintro e w2 ⟨rfl, hP⟩
      have HP : Hid (P w2) := hP
      clear hP
      go_wp2_with fail
      go_ret
      exact ⟨by simp, HP.out⟩
set_option maxRecDepth 100000 in
set_option maxHeartbeats 1000000 in
theorem step_13 (T : World) (tag : Nat → Nat) (G : GSt) (N : Nat) (o : OpV) (w : World) (hk : o.k = 13) (ha : -9223372036854775808 ≤ o.a ∧ o.a ≤ 9223372036854775807) (hN : N ≤ 220000000) (hG : Great T w tag G N) (P : World → Prop)
    (h0 : ∀ W, Below w.heap.size w W → P W) (hA : ∀ i, i < G.n → ∀ W, Below w.heap.size w W → Calls Tryz.prog 16 #[o.val, .pointer (some ⟨G.pb i, 0, none⟩)] W fun e w' => e = .returned (.bool true) ∧ P w') :
    Calls Tryz.prog 10 #[.pointer (some ⟨T.heap.size, 0, none⟩), o.val] w fun e w' => e = .returned (.bool true) ∧ P w' := by
  obtain ⟨k, a0, b0, c0, d0, e0, s0⟩ := o
  simp only at hk ha hA
  subst hk
  unfold OpV.val at hA ⊢
  simp only at hA ⊢
  have ct : w.cell? ⟨T.heap.size, 0, none⟩ = some G.pv := hG.top.cell (i := 0) (by omega)
  have htl : T.heap.size < w.heap.size := hG.top.lt
  have HA : Hid _ := hA
  have H0 : Hid _ := h0
  have hc : G.n ≤ 1100000 := by have := hG.cnt.1; omega
  by_cases hn : G.n = 0
  · have hpv : ∃ p cap, G.pv = .slice p 0 cap := by
      obtain ⟨p, cap, e⟩ := own_wid hG.ps
      rw [hn] at e; exact ⟨p, cap, e⟩
    obtain ⟨p, cap, hpv⟩ := hpv
    rw [hpv] at ct
    clear hG hA h0 hc hpv hn
    go_enter Tryz.func10, Tryz.ntmps10
    go_wp2_with fail
    go_ret
    exact ⟨by simp, H0.out _ (below_al _ _)⟩
  · obtain ⟨g, cap, hpv, hgl, hcell⟩ := hG.pairAt (by omega)
    rw [hpv] at ct
    have HCE : Hid _ := hcell
    generalize hGn : G.n = n at *
    have hn1 : ((n : Int) == 0) = false := by rw [beq_eq_false_iff_ne]; omega
    have HPK : Hid (∀ W, Calls Tryz.prog 14 #[.int .i64 a0, .int .i64 n] W fun e w' => ∃ i : Nat, e = .returned (.int .i64 i) ∧ i < n ∧ w' = W) := fun W => pick_any a0 n W ha (by omega) (by omega)
    clear hG hA h0 hcell hpv hn
    go_enter Tryz.func10, Tryz.ntmps10
    go_upto_region 9 with fail
    have HWA : Hid (Below w.heap.size w (w.alloc (Obj.cells #[.int .i64 13, .int .i64 a0, .int .i64 b0, .int .i64 c0, .int .i64 d0, .int .i64 e0, .string s0] 35))) := below_al _ _
    have HCE2 : Hid (∀ i, i < n → (w.alloc (Obj.cells #[.int .i64 13, .int .i64 a0, .int .i64 b0, .int .i64 c0, .int .i64 d0, .int .i64 e0, .string s0] 35)).drew.cell? ⟨g, i, none⟩ = some (.pointer (some ⟨G.pb i, 0, none⟩))) := fun i hi => below_cell' HWA.out.drew (HCE.out i hi)
    have hgl2 : g < (w.alloc (Obj.cells #[.int .i64 13, .int .i64 a0, .int .i64 b0, .int .i64 c0, .int .i64 d0, .int .i64 e0, .string s0] 35)).drew.heap.size := by simp; omega
    go_cut [5] (fun s5 wx => ∃ i, i < n ∧ s5 = .pointer (some ⟨G.pb i, 0, none⟩) ∧ wx = (w.alloc (Obj.cells #[.int .i64 13, .int .i64 a0, .int .i64 b0, .int .i64 c0, .int .i64 d0, .int .i64 e0, .string s0] 35)).drew)
    case first =>
      go_region_with ((go_at_call 14; go_must (refine (HPK.out _).mono ?_); rintro e w2 ⟨i, rfl, hi, rfl⟩; have ci := HCE2.out i hi; have hii : (i : Int) < (n : Int) := (by omega); have HII : Hid (i < n) := hi; clear hi))
      all_goals
        go_wp2_with fail
        go_meet
        exact ⟨_, HII.out, rfl, rfl⟩
    case rest =>
      obtain ⟨i, hi, rfl, rfl⟩ := hcut
      go_wp2_with (go_at_call 16; go_must (refine (HA.out i hi _ (by repeat (first | exact HWA.out | refine Below.drew ?_))).mono ?_))
      rintro e w2 ⟨rfl, hP⟩
      have HP : Hid (P w2) := hP
      clear hP
      go_wp2_with fail
      go_ret
      exact ⟨by simp, HP.out⟩
end Go.Proofs.YtfpoiikhhjdpdaaGreat
