import Derived.Test.YtfpoiikhhjdpdaaGreatJ22
import Derived.Test.YtfpoiikhhjdpdaaGreatJ38
import Derived.Test.YtfpoiikhhjdpdaaGreatJ39
import Derived.Test.YtfpoiikhhjdpdaaGreatJ01
import Derived.Test.YtfpoiikhhjdpdaaGreatJ18
import Derived.Test.YtfpoiikhhjdpdaaGreatJ02
import Derived.WalkSmall
import Derived.Test.YtfpoiikhhjdpdaaGreatRows
/- hoardlaw.step: the kinds of Writes. -/
namespace Go.Proofs.YtfpoiikhhjdpdaaGreat
open Go.RowKit
set_option linter.unusedVariables false
/-- The numbers of a step are what the language lets them be; its string isn't too long. -/
structure OpV.fits (o : OpV) : Prop where
  a : -9223372036854775808 ≤ o.a ∧ o.a ≤ 9223372036854775807
  b : -9223372036854775808 ≤ o.b ∧ o.b ≤ 9223372036854775807
  c : -9223372036854775808 ≤ o.c ∧ o.c ≤ 9223372036854775807
  s : o.s.size ≤ 1100000
theorem Great.noFoot {T w : World} {tag : Nat → Nat} {G : GSt} {N i : Nat} (h : Great T w tag G N) (hi : i < G.n) : ¬ PFoot (G.xb i) (G.yb i) (G.Q i) (G.pb i) := fun hf => by
  have h1 := (h.pr_t i _ hi hf).2
  have h2 := (h.box_t i hi).2
  omega
theorem step_great {T w : World} {tag : Nat → Nat} {G : GSt} {N : Nat} (o : OpV) (hG : Great T w tag G N) (hN : N ≤ 220000000) (ho : o.fits) (hk : 3 ≤ o.k ∧ o.k ≤ 10) :
    Calls Tryz.prog 10 #[.pointer (some ⟨T.heap.size, 0, none⟩), o.val] w fun e w' => e = .returned (.bool true) ∧ ∃ tag' G', Great T w' tag' G' (N + 200) := by
  have h0 : ∀ W, Below w.heap.size w W → ∃ tag' G', Great T W tag' G' (N + 200) := fun W hW => ⟨_, _, (hG.below hW).mono (by omega)⟩
  have hbw : ∀ {W w' : World}, Below w.heap.size w W → Below W.heap.size W w' → ∃ tag' G', Great T w' tag' G' (N + 200) := fun hW hh => ⟨_, _, ((hG.below hW).below hh).mono (by omega)⟩
  have hk' : o.k = 3 ∨ o.k = 4 ∨ o.k = 5 ∨ o.k = 6 ∨ o.k = 7 ∨ o.k = 8 ∨ o.k = 9 ∨ o.k = 10 := by omega
  rcases hk' with h | h | h | h | h | h | h | h
  · exact step_3 T tag G N o w h hN hG
  · exact step_4 T tag G N o w h ho.a hN hG _ h0 (fun i hi W hW => asked_read T _ G N i o W h hi hN (hG.below hW) ho.b)
  · refine step_5 T tag G N o w h ho.a hN hG _ h0 (fun i hi W hW => ?_)
    have g := hG.below hW
    refine (moved_write (G.pb i) (G.xb i) (G.yb i) (G.Q i) N o W h ((g.box i hi).cell (i := 0) (by omega)) ((g.box i hi).cell (i := 1) (by omega)) (g.noFoot hi) (g.pr i hi) ho.b (by omega) ho.s).mono ?_
    rintro e w' ⟨rfl, q', ht⟩
    exact ⟨rfl, _, _, (g.mono (by omega)).turn i hi q' ht⟩
  · refine step_6 T tag G N o w h ho.a hN hG _ h0 (fun i hi W hW => ?_)
    have g := hG.below hW
    exact (asked_steps T.heap.size (G.pb i) (G.xb i) (G.yb i) (G.Q i) N o W h ((g.box i hi).cell (i := 0) (by omega)) ((g.box i hi).cell (i := 1) (by omega)) (g.pr i hi)).mono (fun e w' hh => ⟨hh.1, hbw hW hh.2⟩)
  · refine step_7 T tag G N o w h ho.a hN hG _ h0 (fun i hi W hW => ?_)
    have g := hG.below hW
    exact (asked_drive T.heap.size (G.pb i) (G.xb i) (G.yb i) (G.Q i) N o W h ((g.box i hi).cell (i := 0) (by omega)) ((g.box i hi).cell (i := 1) (by omega)) (g.pr i hi)).mono (fun e w' hh => ⟨hh.1, hbw hW hh.2⟩)
  · refine step_8 T tag G N o w h ho.a hN hG _ h0 (fun i hi W hW => ?_)
    have g := hG.below hW
    exact (asked_cell T.heap.size (G.pb i) (G.xb i) (G.yb i) (G.Q i) N o W h ((g.box i hi).cell (i := 0) (by omega)) ((g.box i hi).cell (i := 1) (by omega)) (g.pr i hi)).mono (fun e w' hh => ⟨hh.1, hbw hW hh.2⟩)
  · exact step_9 T tag G N o w h ho.a hN hG _ h0 (fun i hi W hW => asked_log T _ G N i o W h hi hN (hG.below hW))
  · refine step_10 T tag G N o w h ho.a hN hG _ h0 (fun i hi W hW => ?_)
    have g := hG.below hW
    refine (moved_merge (G.pb i) (G.xb i) (G.yb i) (G.Q i) N N o W h ((g.box i hi).cell (i := 0) (by omega)) ((g.box i hi).cell (i := 1) (by omega)) (g.noFoot hi) (g.pr i hi) (fun W' hW' => pair_merge W' _ _ _ N o.b o.c ((g.pr i hi).below hW') ho.c.2)).mono ?_
    rintro e w' ⟨rfl, q', ht⟩
    exact ⟨rfl, _, _, ((g.turn i hi q' ht).mono (by omega))⟩
end Go.Proofs.YtfpoiikhhjdpdaaGreat

/- hoardlaw.plays, with an invariant that counts the steps. -/
namespace Go.Proofs.YtfpoiikhhjdpdaaGreat
open Go.RowKit
set_option maxRecDepth 100000 in
set_option maxHeartbeats 1000000 in
theorem plays_n (a0 : Option Addr) (n cap kb m kcap : Nat) (ops : Nat → OpV) (L : Nat → Int) (w : World) (hn : n ≤ maxLen) (hm : m ≤ 20)
    (Inv : Nat → World → Prop) (h0 : Inv 0 (w.alloc (.cells #[.slice none 0 0, .slice none 0 0, .slice none 0 0] 33)))
    (hdr : ∀ i w' q, Inv i w' → Inv i (w'.drewN q)) (hsk : ∀ i w', Inv i w' → Inv (i + 1) w') (hsc : ∀ i w', Inv i w' → ScriptAt w' a0 n ops) (hki : ∀ i w', Inv i w' → KindsAt w' kb m L)
    (hstep : ∀ i, i < n → (∃ j, j < m ∧ (ops i).k = L j) → ∀ w', Inv i w' → Calls Tryz.prog 10 #[.pointer (some ⟨w.heap.size, 0, none⟩), (ops i).val] w' fun e w'' => e = .returned (.bool true) ∧ Inv (i + 1) w'')
    (hlooks : ∀ i, i ≤ n → ∀ w', Inv i w' → Calls Tryz.prog 11 #[.pointer (some ⟨w.heap.size, 1, none⟩)] w' fun e w'' => e = .returned (.bool true) ∧ Inv i w'') :
    Calls Tryz.prog 9 #[.slice a0 n cap, .slice (some ⟨kb, 0, none⟩) m kcap] w fun e w' => e = .returned (.bool true) ∧ Inv n w' := by
  unfold maxLen at hn
  have HI := h0
  have HDR : Hid _ := hdr
  have HSK : Hid _ := hsk
  have HSC : Hid _ := hsc
  have HKI : Hid _ := hki
  have HST : Hid _ := hstep
  have HLK : Hid _ := hlooks
  clear h0 hdr hsk hsc hki hstep hlooks
  go_enter Tryz.func9, Tryz.ntmps9
  go_wp2
  go_loopw [6, 7, 8, 9] (fun i _ _ _ wr => ∃ k : Nat, k ≤ n ∧ i = .int .i64 k ∧ Inv k wr) (fun i _ _ _ _ => n - (intOf i).toNat)
  case atStart => exact ⟨0, by omega, rfl, HI⟩
  case round =>
    obtain ⟨k, hk, rfl, hb⟩ := hrel
    clear HI
    by_cases hlt : k < n
    · obtain ⟨sb, so, rfl, x0, x1, x2, x3, x4, x5, x6⟩ := HSC.out _ _ hb k hlt
      have hL := HKI.out _ _ hb
      go_wp2
      go_loopw [7, 8] (fun b j wi => ∃ q : Nat, q ≤ m ∧ j = .int .i64 q ∧ b = .bool (anyTo (ops k).k L q) ∧ ∃ nq, wi = wr.drewN nq) (fun _ j _ => m - (intOf j).toNat)
      case atStart => exact ⟨0, by omega, rfl, rfl, 0, rfl⟩
      case round =>
        obtain ⟨q, hq, rfl, rfl, nq, rfl⟩ := hrel
        by_cases hqm : q < m
        · have hLq := hL q hqm
          have hkk : (k : Int) < (n : Int) := by omega
          have hqq : (q : Int) < (m : Int) := by omega
          cases han : anyTo (ops k).k L q
          · go_wp2
            go_quiet (fail)
            go_wp2
            exact ⟨⟨q + 1, by omega, by go_num, by simp [anyTo, han], _, rfl⟩, by simp [intOf]; omega⟩
          · go_wp2
            go_quiet (fail)
            go_wp2
            exact ⟨⟨q + 1, by omega, by go_num, by simp [anyTo, han], _, rfl⟩, by simp [intOf]; omega⟩
        · have hqe : q = m := by omega
          subst hqe
          cases han : anyTo (ops k).k L q
          · go_wp2
            exact ⟨⟨k + 1, by omega, by go_num, HSK.out _ _ (HDR.out _ _ _ hb)⟩, by simp [intOf]; omega⟩
          · have HM : Hid _ := anyTo_mem _ _ _ han
            go_wp2_with fail
            refine (HST.out k hlt HM.out _ (HDR.out _ _ _ hb)).mono ?_
            rintro e w1 ⟨rfl, hb1⟩
            clear x0 x1 x2 x3 x4 x5 x6 hL HM
            go_wp2_with fail
            refine (HLK.out _ (by omega) _ hb1).mono ?_
            rintro e w2 ⟨rfl, hb2⟩
            go_wp2_with fail
            exact ⟨⟨k + 1, by omega, by go_num, hb2⟩, by simp [intOf]; omega⟩
    · go_wp2
      go_ret
      exact ⟨rfl, by obtain rfl : k = n := by omega
                     exact hb⟩
end Go.Proofs.YtfpoiikhhjdpdaaGreat

/- hoardlaw.looks: nothing but its own mark stands in each list. -/
namespace Go.Proofs.YtfpoiikhhjdpdaaGreat
open Go.RowKit
set_option linter.unusedVariables false
attribute [local go_sem ↓] Go.wp_at_zero Go.wp_at_succ
theorem Great.bytes {W w : World} {tag : Nat → Nat} {G : GSt} {N : Nat} (h : Great W w tag G N) (k : Nat) (hk : k < G.nb) :
    ∃ g cap, G.bv = .slice (some ⟨g, 0, none⟩) G.nb cap ∧ g < w.heap.size ∧ w.cell? ⟨g, k * 5, none⟩ = some (G.BL k 0) ∧ w.cell? ⟨g, k * 5 + 1, none⟩ = some (G.BL k 1) ∧ w.cell? ⟨g, k * 5 + 2, none⟩ = some (G.BL k 2) ∧ w.cell? ⟨g, k * 5 + 3, none⟩ = some (G.BL k 3) ∧ w.cell? ⟨g, k * 5 + 4, none⟩ = some (.int .u8 (k % 251 : Nat)) := by
  obtain ⟨g, cap, e, _, hg, hc, _⟩ := h.bs.slice (by omega)
  have hF : ∀ j, j < 5 → bsF G (k * 5 + j) = if j = 4 then .int .u8 (k % 251 : Nat) else G.BL k j := fun j hj => by
    unfold bsF
    rw [show (k * 5 + j) / 5 = k by omega, show (k * 5 + j) % 5 = j by omega]
  refine ⟨g, cap, e, hg, ?_, ?_, ?_, ?_, ?_⟩
  · have := hF 0 (by omega); rw [if_neg (by omega)] at this; rw [← this]; exact hc (k * 5 + 0) (by omega)
  · have := hF 1 (by omega); rw [if_neg (by omega)] at this; rw [← this]; exact hc (k * 5 + 1) (by omega)
  · have := hF 2 (by omega); rw [if_neg (by omega)] at this; rw [← this]; exact hc (k * 5 + 2) (by omega)
  · have := hF 3 (by omega); rw [if_neg (by omega)] at this; rw [← this]; exact hc (k * 5 + 3) (by omega)
  · have := hF 4 (by omega); rw [if_pos rfl] at this; rw [← this]; exact hc (k * 5 + 4) (by omega)
theorem Great.logs {W w : World} {tag : Nat → Nat} {G : GSt} {N : Nat} (h : Great W w tag G N) (k : Nat) (hk : k < G.nl) :
    ∃ g cap, G.lv = .slice (some ⟨g, 0, none⟩) G.nl cap ∧ g < w.heap.size ∧ w.cell? ⟨g, k * 5, none⟩ = some (G.LL k 0) ∧ w.cell? ⟨g, k * 5 + 1, none⟩ = some (G.LL k 1) ∧ w.cell? ⟨g, k * 5 + 2, none⟩ = some (G.LL k 2) ∧ w.cell? ⟨g, k * 5 + 3, none⟩ = some (G.LL k 3) ∧ w.cell? ⟨g, k * 5 + 4, none⟩ = some (.int .i64 (-1000 - (k : Nat) : Int)) := by
  obtain ⟨g, cap, e, _, hg, hc, _⟩ := h.ls.slice (by omega)
  have hF : ∀ j, j < 5 → lsF G (k * 5 + j) = if j = 4 then .int .i64 (-1000 - (k : Nat) : Int) else G.LL k j := fun j hj => by
    unfold lsF
    rw [show (k * 5 + j) / 5 = k by omega, show (k * 5 + j) % 5 = j by omega]
  refine ⟨g, cap, e, hg, ?_, ?_, ?_, ?_, ?_⟩
  · have := hF 0 (by omega); rw [if_neg (by omega)] at this; rw [← this]; exact hc (k * 5 + 0) (by omega)
  · have := hF 1 (by omega); rw [if_neg (by omega)] at this; rw [← this]; exact hc (k * 5 + 1) (by omega)
  · have := hF 2 (by omega); rw [if_neg (by omega)] at this; rw [← this]; exact hc (k * 5 + 2) (by omega)
  · have := hF 3 (by omega); rw [if_neg (by omega)] at this; rw [← this]; exact hc (k * 5 + 3) (by omega)
  · have := hF 4 (by omega); rw [if_pos rfl] at this; rw [← this]; exact hc (k * 5 + 4) (by omega)
theorem OwnFn.form {w : World} {e size n : Nat} {v : Value} {F : Nat → Value} (h : OwnFn w e size v n F) : ∃ p cap, v = .slice p n cap := by
  rcases h.2 with ⟨rfl, rfl⟩ | ⟨g, cap, cur, rfl, _⟩
  · exact ⟨_, _, rfl⟩
  · exact ⟨_, _, rfl⟩
theorem MkB.all {w : World} {lo m : Nat} {tag : Nat → Nat} {v : Value} (h : MkB w lo tag m v) : ∃ p n cap, v = .slice p n cap ∧ ∀ W, Below w.heap.size w W → Calls Tryz.prog 17 #[.slice p n cap, .int .u8 m] W fun e w' => e = .returned (.bool true) ∧ Below W.heap.size W w' := by
  obtain ⟨p, n, cap, hv, hn, hp, hc⟩ := h
  refine ⟨p, n, cap, hv, fun W hW => (allBytes_eq p n cap m W (by omega) (fun j hj => ?_)).mono fun e w' hh => ?_⟩
  · obtain ⟨g, hg, hcell⟩ := hc j hj
    exact ⟨g, hg, below_cell' hW hcell⟩
  · obtain ⟨he, q, hw⟩ := hh
    exact ⟨he, hw ▸ below_drewN (Below.refl _ _) q⟩
theorem MkL.all {w : World} {lo : Nat} {m : Int} {tag : Nat → Nat} {v : Value} (h : MkL w lo tag m v) : ∃ p n cap, v = .slice p n cap ∧ ∀ W, Below w.heap.size w W → Calls Tryz.prog 18 #[.slice p n cap, .int .i64 m] W fun e w' => e = .returned (.bool true) ∧ Below W.heap.size W w' := by
  obtain ⟨p, n, cap, hv, hn, hp, hc⟩ := h
  refine ⟨p, n, cap, hv, fun W hW => allLog_eq p n cap m W (by omega) (fun j hj => ?_)⟩
  obtain ⟨g, hg, hcell, hcs⟩ := hc j hj
  exact ⟨g, hg, below_cell' hW hcell, fun i hi => below_cell' hW (hcs i hi)⟩
theorem box5F_row (w : World) (t : Nat) (v0 v1 v2 v3 v4 : Value) (H : Nat) (hH : w.heap.size = H) : (w.alloc (.cells #[v0, v1, v2, v3, v4] t)).cell? ⟨H, 0, none⟩ = some v0 ∧ (w.alloc (.cells #[v0, v1, v2, v3, v4] t)).cell? ⟨H, 1, none⟩ = some v1 ∧ (w.alloc (.cells #[v0, v1, v2, v3, v4] t)).cell? ⟨H, 2, none⟩ = some v2 ∧ (w.alloc (.cells #[v0, v1, v2, v3, v4] t)).cell? ⟨H, 3, none⟩ = some v3 ∧ (w.alloc (.cells #[v0, v1, v2, v3, v4] t)).cell? ⟨H, 4, none⟩ = some v4 := by
  subst hH
  refine ⟨?_, ?_, ?_, ?_, ?_⟩ <;> simp [go_sem]
set_option maxRecDepth 100000 in
set_option maxHeartbeats 2000000 in
theorem looks_any {W w : World} {tag : Nat → Nat} {G : GSt} {N : Nat} (h : Great W w tag G N) (hN : N ≤ 220000000) :
    Calls Tryz.prog 11 #[.pointer (some ⟨W.heap.size, 1, none⟩)] w fun e w' => e = .returned (.bool true) ∧ Below w.heap.size w w' := by
  obtain ⟨hn, hnb, hnl⟩ : G.n ≤ 1100000 ∧ G.nb ≤ 1100000 ∧ G.nl ≤ 1100000 := by
    obtain ⟨h1, h2, h3⟩ := h.cnt
    omega
  obtain ⟨pb, cb, eb⟩ := h.bs.form
  obtain ⟨pl, cl, el⟩ := h.ls.form
  have T1 : w.cell? ⟨W.heap.size, 1, none⟩ = some G.bv := h.top.cell (i := 1) (by omega)
  have T2 : w.cell? ⟨W.heap.size, 2, none⟩ = some G.lv := h.top.cell (i := 2) (by omega)
  have htl := h.top.lt
  rw [eb] at T1
  rw [el] at T2
  have HH : Hid (Great W w tag G N) := h
  have HEB : Hid (G.bv = .slice pb G.nb cb) := eb
  have HEL : Hid (G.lv = .slice pl G.nl cl) := el
  have hbN : G.nb ≤ 1100000 := by omega
  have hlN : G.nl ≤ 1100000 := by omega
  clear h eb el hn hnb hnl
  generalize hNB : G.nb = nb at *
  generalize hNL : G.nl = nl at *
  have HNB : Hid (G.nb = nb) := hNB
  have HNL : Hid (G.nl = nl) := hNL
  clear hNB hNL
  generalize hTT : W.heap.size = tt at *
  have HTT : Hid (W.heap.size = tt) := hTT
  clear hTT
  go_enter Tryz.func11, Tryz.ntmps11
  go_wp2_with fail
  go_loopw [3, 4, 5, 6, 7, 8] (fun i _ _ _ _ _ wr => ∃ k : Nat, k ≤ nb ∧ i = .int .i64 k ∧ Below w.heap.size w wr) (fun i _ _ _ _ _ _ => nb - (intOf i).toNat)
  case atStart => exact ⟨0, by omega, rfl, Below.refl _ _⟩
  case round =>
    obtain ⟨k, hk, rfl, hbel⟩ := hrel
    have t1 := below_cell' hbel T1
    have t2 := below_cell' hbel T2
    have htl1 := Nat.lt_of_lt_of_le htl hbel.size
    by_cases hlt : k < nb
    · have hki : (k : Int) < (nb : Int) := by omega
      obtain ⟨g, cap, e, hg, b0, b1, b2, b3, b4⟩ := HH.out.bytes k (by rw [HNB.out]; exact hlt)
      rw [HEB.out, HNB.out] at e
      injection e with e1 _ e3
      subst e1 e3
      obtain ⟨p0, n0, c0, e0, a0⟩ := (HH.out.bm k 0 (by rw [HNB.out]; exact hlt) (by omega)).all
      obtain ⟨p1, n1, c1, e1, a1⟩ := (HH.out.bm k 1 (by rw [HNB.out]; exact hlt) (by omega)).all
      obtain ⟨p2, n2, c2, e2, a2⟩ := (HH.out.bm k 2 (by rw [HNB.out]; exact hlt) (by omega)).all
      obtain ⟨p3, n3, c3, e3, a3⟩ := (HH.out.bm k 3 (by rw [HNB.out]; exact hlt) (by omega)).all
      rw [e0] at b0
      rw [e1] at b1
      rw [e2] at b2
      rw [e3] at b3
      have m0 := below_cell' hbel b0
      have m1 := below_cell' hbel b1
      have m2 := below_cell' hbel b2
      have m3 := below_cell' hbel b3
      have m4 := below_cell' hbel b4
      have hg1 := Nat.lt_of_lt_of_le hg hbel.size
      obtain ⟨x0, x1, x2, x3, x4⟩ := box5F_row wr 44 (.slice p0 n0 c0) (.slice p1 n1 c1) (.slice p2 n2 c2) (.slice p3 n3 c3) (.int .u8 (k % 251 : Nat)) _ rfl
      have HB0 : Hid (Below w.heap.size w (wr.alloc (.cells #[.slice p0 n0 c0, .slice p1 n1 c1, .slice p2 n2 c2, .slice p3 n3 c3, .int .u8 (k % 251 : Nat)] 44))) := hbel.alloc hbel.size _
      have HX : Hid (∀ V, Below (wr.alloc (.cells #[.slice p0 n0 c0, .slice p1 n1 c1, .slice p2 n2 c2, .slice p3 n3 c3, .int .u8 (k % 251 : Nat)] 44)).heap.size (wr.alloc (.cells #[.slice p0 n0 c0, .slice p1 n1 c1, .slice p2 n2 c2, .slice p3 n3 c3, .int .u8 (k % 251 : Nat)] 44)) V → V.cell? ⟨wr.heap.size, 0, none⟩ = some (.slice p0 n0 c0) ∧ V.cell? ⟨wr.heap.size, 1, none⟩ = some (.slice p1 n1 c1) ∧ V.cell? ⟨wr.heap.size, 2, none⟩ = some (.slice p2 n2 c2) ∧ V.cell? ⟨wr.heap.size, 3, none⟩ = some (.slice p3 n3 c3) ∧ V.cell? ⟨wr.heap.size, 4, none⟩ = some (.int .u8 (k % 251 : Nat))) := fun V kV => ⟨below_cell' kV x0, below_cell' kV x1, below_cell' kV x2, below_cell' kV x3, below_cell' kV x4⟩
      have HXS : Hid (wr.heap.size < (wr.alloc (.cells #[.slice p0 n0 c0, .slice p1 n1 c1, .slice p2 n2 c2, .slice p3 n3 c3, .int .u8 (k % 251 : Nat)] 44)).heap.size) := (show _ < _ by simp)
      have A0 : Hid (∀ V, Below w.heap.size w V → Calls Tryz.prog 17 #[.slice p0 n0 c0, .int .u8 (k % 251 : Nat)] V fun e w' => e = .returned (.bool true) ∧ Below V.heap.size V w') := a0
      have A1 : Hid (∀ V, Below w.heap.size w V → Calls Tryz.prog 17 #[.slice p1 n1 c1, .int .u8 (k % 251 : Nat)] V fun e w' => e = .returned (.bool true) ∧ Below V.heap.size V w') := a1
      have A2 : Hid (∀ V, Below w.heap.size w V → Calls Tryz.prog 17 #[.slice p2 n2 c2, .int .u8 (k % 251 : Nat)] V fun e w' => e = .returned (.bool true) ∧ Below V.heap.size V w') := a2
      have A3 : Hid (∀ V, Below w.heap.size w V → Calls Tryz.prog 17 #[.slice p3 n3 c3, .int .u8 (k % 251 : Nat)] V fun e w' => e = .returned (.bool true) ∧ Below V.heap.size V w') := a3
      clear e0 e1 e2 e3 a0 a1 a2 a3 b0 b1 b2 b3 b4 x0 x1 x2 x3 x4
      generalize k % 251 = mk at *
      go_wp2_with fail
      clear m0 m1 m2 m3 m4 t1 t2
      generalize wr.alloc (.cells #[.slice p0 n0 c0, .slice p1 n1 c1, .slice p2 n2 c2, .slice p3 n3 c3, .int .u8 mk] 44) = wx at *
      refine (A0.out _ HB0.out).mono ?_
      rintro e w1 ⟨rfl, k1⟩
      have K1 : Hid (Below wx.heap.size wx w1) := k1
      obtain ⟨x0, x1, x2, x3, x4⟩ := HX.out w1 K1.out
      have hx1 := Nat.lt_of_lt_of_le HXS.out K1.out.size
      clear k1
      go_wp2_with fail
      clear x0 x1 x2 x3 x4
      refine (A1.out _ (HB0.out.trans (K1.out.mono HB0.out.size))).mono ?_
      rintro e w2 ⟨rfl, k2⟩
      have K2 : Hid (Below wx.heap.size wx w2) := K1.out.trans (k2.mono K1.out.size)
      obtain ⟨x0, x1, x2, x3, x4⟩ := HX.out w2 K2.out
      have hx2 := Nat.lt_of_lt_of_le HXS.out K2.out.size
      clear k2 K1
      go_wp2_with fail
      clear x0 x1 x2 x3 x4
      refine (A2.out _ (HB0.out.trans (K2.out.mono HB0.out.size))).mono ?_
      rintro e w3 ⟨rfl, k3⟩
      have K3 : Hid (Below wx.heap.size wx w3) := K2.out.trans (k3.mono K2.out.size)
      obtain ⟨x0, x1, x2, x3, x4⟩ := HX.out w3 K3.out
      have hx3 := Nat.lt_of_lt_of_le HXS.out K3.out.size
      clear k3 K2
      go_wp2_with fail
      clear x0 x1 x2 x3 x4
      refine (A3.out _ (HB0.out.trans (K3.out.mono HB0.out.size))).mono ?_
      rintro e w4 ⟨rfl, k4⟩
      have K4 : Hid (Below w.heap.size w w4) := HB0.out.trans ((K3.out.trans (k4.mono K3.out.size)).mono HB0.out.size)
      clear k4 K3 HX A0 A1 A2 A3
      go_wp2_with fail
      first
        | exact ⟨⟨k + 1, by omega, by go_num, K4.out⟩, by simp [intOf]; omega⟩
        | (go_roundw
           case rel => exact ⟨k + 1, by omega, by go_num, K4.out⟩
           case measure => simp [intOf]; omega)
    · have hki : ¬ ((k : Int) < (nb : Int)) := by omega
      have HB1 : Hid (Below w.heap.size w wr) := hbel
      go_wp2_with fail
      clear t1 t2 hbel
      generalize wr = w0 at *
      go_loopw [9, 10, 11, 12, 13, 14] (fun i _ _ _ _ _ wr => ∃ k : Nat, k ≤ nl ∧ i = .int .i64 k ∧ Below w.heap.size w wr) (fun i _ _ _ _ _ _ => nl - (intOf i).toNat)
      case atStart => exact ⟨0, by omega, rfl, HB1.out⟩
      case round =>
        clear HB1 hlt hki hk htl1
        obtain ⟨k, hk, rfl, hbel⟩ := hrel
        have t1 := below_cell' hbel T1
        have t2 := below_cell' hbel T2
        have htl1 := Nat.lt_of_lt_of_le htl hbel.size
        by_cases hlt : k < nl
        · have hki : (k : Int) < (nl : Int) := by omega
          obtain ⟨g, cap, e, hg, b0, b1, b2, b3, b4⟩ := HH.out.logs k (by rw [HNL.out]; exact hlt)
          rw [HEL.out, HNL.out] at e
          injection e with e1 _ e3
          subst e1 e3
          obtain ⟨p0, n0, c0, e0, a0⟩ := (HH.out.lm k 0 (by rw [HNL.out]; exact hlt) (by omega)).all
          obtain ⟨p1, n1, c1, e1, a1⟩ := (HH.out.lm k 1 (by rw [HNL.out]; exact hlt) (by omega)).all
          obtain ⟨p2, n2, c2, e2, a2⟩ := (HH.out.lm k 2 (by rw [HNL.out]; exact hlt) (by omega)).all
          obtain ⟨p3, n3, c3, e3, a3⟩ := (HH.out.lm k 3 (by rw [HNL.out]; exact hlt) (by omega)).all
          rw [e0] at b0
          rw [e1] at b1
          rw [e2] at b2
          rw [e3] at b3
          have m0 := below_cell' hbel b0
          have m1 := below_cell' hbel b1
          have m2 := below_cell' hbel b2
          have m3 := below_cell' hbel b3
          have m4 := below_cell' hbel b4
          have hg1 := Nat.lt_of_lt_of_le hg hbel.size
          obtain ⟨x0, x1, x2, x3, x4⟩ := box5F_row wr 48 (.slice p0 n0 c0) (.slice p1 n1 c1) (.slice p2 n2 c2) (.slice p3 n3 c3) (.int .i64 (-1000 - (k : Nat) : Int)) _ rfl
          have HB0 : Hid (Below w.heap.size w (wr.alloc (.cells #[.slice p0 n0 c0, .slice p1 n1 c1, .slice p2 n2 c2, .slice p3 n3 c3, .int .i64 (-1000 - (k : Nat) : Int)] 48))) := hbel.alloc hbel.size _
          have HX : Hid (∀ V, Below (wr.alloc (.cells #[.slice p0 n0 c0, .slice p1 n1 c1, .slice p2 n2 c2, .slice p3 n3 c3, .int .i64 (-1000 - (k : Nat) : Int)] 48)).heap.size (wr.alloc (.cells #[.slice p0 n0 c0, .slice p1 n1 c1, .slice p2 n2 c2, .slice p3 n3 c3, .int .i64 (-1000 - (k : Nat) : Int)] 48)) V → V.cell? ⟨wr.heap.size, 0, none⟩ = some (.slice p0 n0 c0) ∧ V.cell? ⟨wr.heap.size, 1, none⟩ = some (.slice p1 n1 c1) ∧ V.cell? ⟨wr.heap.size, 2, none⟩ = some (.slice p2 n2 c2) ∧ V.cell? ⟨wr.heap.size, 3, none⟩ = some (.slice p3 n3 c3) ∧ V.cell? ⟨wr.heap.size, 4, none⟩ = some (.int .i64 (-1000 - (k : Nat) : Int))) := fun V kV => ⟨below_cell' kV x0, below_cell' kV x1, below_cell' kV x2, below_cell' kV x3, below_cell' kV x4⟩
          have HXS : Hid (wr.heap.size < (wr.alloc (.cells #[.slice p0 n0 c0, .slice p1 n1 c1, .slice p2 n2 c2, .slice p3 n3 c3, .int .i64 (-1000 - (k : Nat) : Int)] 48)).heap.size) := (show _ < _ by simp)
          have A0 : Hid (∀ V, Below w.heap.size w V → Calls Tryz.prog 18 #[.slice p0 n0 c0, .int .i64 (-1000 - (k : Nat) : Int)] V fun e w' => e = .returned (.bool true) ∧ Below V.heap.size V w') := a0
          have A1 : Hid (∀ V, Below w.heap.size w V → Calls Tryz.prog 18 #[.slice p1 n1 c1, .int .i64 (-1000 - (k : Nat) : Int)] V fun e w' => e = .returned (.bool true) ∧ Below V.heap.size V w') := a1
          have A2 : Hid (∀ V, Below w.heap.size w V → Calls Tryz.prog 18 #[.slice p2 n2 c2, .int .i64 (-1000 - (k : Nat) : Int)] V fun e w' => e = .returned (.bool true) ∧ Below V.heap.size V w') := a2
          have A3 : Hid (∀ V, Below w.heap.size w V → Calls Tryz.prog 18 #[.slice p3 n3 c3, .int .i64 (-1000 - (k : Nat) : Int)] V fun e w' => e = .returned (.bool true) ∧ Below V.heap.size V w') := a3
          clear e0 e1 e2 e3 a0 a1 a2 a3 b0 b1 b2 b3 b4 x0 x1 x2 x3 x4
          generalize (-1000 - (k : Nat) : Int) = mk at *
          go_wp2_with fail
          clear m0 m1 m2 m3 m4 t1 t2
          generalize wr.alloc (.cells #[.slice p0 n0 c0, .slice p1 n1 c1, .slice p2 n2 c2, .slice p3 n3 c3, .int .i64 mk] 48) = wx at *
          refine (A0.out _ HB0.out).mono ?_
          rintro e w1 ⟨rfl, k1⟩
          have K1 : Hid (Below wx.heap.size wx w1) := k1
          obtain ⟨x0, x1, x2, x3, x4⟩ := HX.out w1 K1.out
          have hx1 := Nat.lt_of_lt_of_le HXS.out K1.out.size
          clear k1
          go_wp2_with fail
          clear x0 x1 x2 x3 x4
          refine (A1.out _ (HB0.out.trans (K1.out.mono HB0.out.size))).mono ?_
          rintro e w2 ⟨rfl, k2⟩
          have K2 : Hid (Below wx.heap.size wx w2) := K1.out.trans (k2.mono K1.out.size)
          obtain ⟨x0, x1, x2, x3, x4⟩ := HX.out w2 K2.out
          have hx2 := Nat.lt_of_lt_of_le HXS.out K2.out.size
          clear k2 K1
          go_wp2_with fail
          clear x0 x1 x2 x3 x4
          refine (A2.out _ (HB0.out.trans (K2.out.mono HB0.out.size))).mono ?_
          rintro e w3 ⟨rfl, k3⟩
          have K3 : Hid (Below wx.heap.size wx w3) := K2.out.trans (k3.mono K2.out.size)
          obtain ⟨x0, x1, x2, x3, x4⟩ := HX.out w3 K3.out
          have hx3 := Nat.lt_of_lt_of_le HXS.out K3.out.size
          clear k3 K2
          go_wp2_with fail
          clear x0 x1 x2 x3 x4
          refine (A3.out _ (HB0.out.trans (K3.out.mono HB0.out.size))).mono ?_
          rintro e w4 ⟨rfl, k4⟩
          have K4 : Hid (Below w.heap.size w w4) := HB0.out.trans ((K3.out.trans (k4.mono K3.out.size)).mono HB0.out.size)
          clear k4 K3 HX A0 A1 A2 A3
          go_wp2_with fail
          first
            | exact ⟨⟨k + 1, by omega, by go_num, K4.out⟩, by simp [intOf]; omega⟩
        · have hki : ¬ ((k : Int) < (nl : Int)) := by omega
          go_wp2_with fail
          go_ret
          exact ⟨rfl, hbel⟩
end Go.Proofs.YtfpoiikhhjdpdaaGreat

/- hoardlaw.field, and a step of kind Mul or Div; a look where no list came out. -/
namespace Go.Proofs.YtfpoiikhhjdpdaaGreat
open Go.RowKit
theorem byteOf (x : Int) : ∃ n : Nat, x % 256 = (n : Int) ∧ n < 256 := ⟨(x % 256).toNat, by omega, by omega⟩
set_option maxRecDepth 100000 in
set_option maxHeartbeats 1000000 in
theorem lfield_mul (o : OpV) (w : World) (hk : o.k = 1) :
    Calls Tryz.prog 12 #[o.val] w fun e w' => e = .returned (.bool true) ∧ Below w.heap.size w w' := by
  obtain ⟨k, a0, b0, c, d, e, s⟩ := o
  simp only at hk
  subst hk
  obtain ⟨a, ea, ha⟩ := byteOf a0
  obtain ⟨b, eb, hb⟩ := byteOf b0
  unfold OpV.val
  go_enter Tryz.func12, Tryz.ntmps12
  go_wp2_with fail
  refine (Mul_any a b _ ha hb).mono ?_
  rintro e w' ⟨rfl, rfl⟩
  go_wp2_with fail
  refine (rmul_any a b _ ha hb).mono ?_
  rintro e w' ⟨rfl, rfl⟩
  go_wp2_with fail
  go_ret
  exact ⟨by simp, (Below.refl _ _).alloc (Nat.le_refl _) _⟩
set_option maxRecDepth 100000 in
set_option maxHeartbeats 1000000 in
theorem lfield_div (o : OpV) (w : World) (hk : o.k = 2) :
    Calls Tryz.prog 12 #[o.val] w fun e w' => e = .returned (.bool true) ∧ Below w.heap.size w w' := by
  obtain ⟨k, a0, b0, c, d, e, s⟩ := o
  simp only at hk
  subst hk
  obtain ⟨a, ea, ha⟩ := byteOf a0
  obtain ⟨b, eb, hb⟩ := byteOf b0
  unfold OpV.val
  go_enter Tryz.func12, Tryz.ntmps12
  by_cases hz : b = 0
  · subst hz
    go_wp2_with fail
    refine (Div_zero a _).mono ?_
    rintro e w' ⟨rfl, rfl⟩
    go_wp2_with fail
    go_ret
    exact ⟨rfl, (Below.refl _ _).alloc (Nat.le_refl _) _⟩
  · have hpos : 0 < b := by omega
    clear hz
    go_wp2_with fail
    refine (Div_any a b _ ha hb hpos).mono ?_
    rintro e w' ⟨rfl, rfl⟩
    go_wp2_with fail
    refine (rdiv_any a b _ ha hb hpos).mono ?_
    rintro e w' ⟨rfl, rfl⟩
    go_wp2_with fail
    go_ret
    exact ⟨by simp, (Below.refl _ _).alloc (Nat.le_refl _) _⟩
set_option maxRecDepth 100000 in
set_option maxHeartbeats 1000000 in
theorem step_field (o : OpV) (p : Value) (w : World) (hk : o.k = 1 ∨ o.k = 2) :
    Calls Tryz.prog 10 #[p, o.val] w fun e w' => e = .returned (.bool true) ∧ Below w.heap.size w w' := by
  have H : Hid (∀ w, Calls Tryz.prog 12 #[o.val] w fun e w' => e = .returned (.bool true) ∧ Below w.heap.size w w') := by
    intro w
    rcases hk with h | h
    · exact lfield_mul o w h
    · exact lfield_div o w h
  obtain ⟨k, a0, b0, c, d, e, s⟩ := o
  simp only at hk
  rcases hk with h | h
  all_goals
    subst h
    unfold OpV.val at *
    go_enter Tryz.func10, Tryz.ntmps10
    go_wp2_with fail
    refine (H.out _).mono ?_
    rintro e w' ⟨rfl, hb⟩
    go_wp2_with fail
    go_ret
    exact ⟨rfl, ((Below.refl _ _).alloc (Nat.le_refl _) _).trans (hb.mono (by simp))⟩
set_option maxHeartbeats 1000000 in
theorem looks_nil (b : Nat) (w : World) (h1 : w.cell? ⟨b, 1, none⟩ = some (.slice none 0 0)) (h2 : w.cell? ⟨b, 2, none⟩ = some (.slice none 0 0)) :
    Calls Tryz.prog 11 #[.pointer (some ⟨b, 1, none⟩)] w fun e w' => e = .returned (.bool true) ∧ w' = w := by
  go_enter Tryz.func11, Tryz.ntmps11
  go_wp2
  go_loop [3] (fun i => i = .int .i64 0) (fun _ => 0)
  case atStart => rfl
  case round =>
    subst hrel
    go_wp2
    go_loop [9] (fun i => i = .int .i64 0) (fun _ => 0)
    case atStart => rfl
    case round =>
      subst hrel
      go_wp2
      go_ret
      exact ⟨rfl, rfl⟩
theorem OpAt.below {B : Nat} {w w' : World} {b o : Nat} {x : OpV} (h : OpAt w b o x) (hb : Below B w w') (hB : b < B) : OpAt w' b o x := by
  obtain ⟨h0, h1, h2, h3, h4, h5, h6⟩ := h
  exact ⟨(hb.cell (p := ⟨b, _, none⟩) hB).trans h0, (hb.cell (p := ⟨b, _, none⟩) hB).trans h1, (hb.cell (p := ⟨b, _, none⟩) hB).trans h2, (hb.cell (p := ⟨b, _, none⟩) hB).trans h3, (hb.cell (p := ⟨b, _, none⟩) hB).trans h4, (hb.cell (p := ⟨b, _, none⟩) hB).trans h5, (hb.cell (p := ⟨b, _, none⟩) hB).trans h6⟩
theorem ScriptAt.below {w w' : World} {a0 : Option Addr} {n : Nat} {ops : Nat → OpV} (h : ScriptAt w a0 n ops) (hb : Below w.heap.size w w') : ScriptAt w' a0 n ops := by
  intro i hi
  obtain ⟨b, o, e, h⟩ := h i hi
  exact ⟨b, o, e, h.below hb (block_lt_of_cell h.1)⟩
theorem below_drews {B : Nat} {a w : World} (h : Below B a w) (q : Nat) : Below B a (w.drewN q) := below_drewN h q
set_option maxRecDepth 100000 in
set_option maxHeartbeats 1000000 in
theorem fields_any (a0 : Option Addr) (n cap : Nat) (ops : Nat → OpV) (w : World) (hn : n ≤ maxLen) (hs : ScriptAt w a0 n ops) :
    Calls Tryz.prog 3 #[.slice a0 n cap] w fun e w' => e = .returned (.bool true) ∧ Below w.heap.size w w' := by
  have HS : Hid _ := hs
  clear hs
  go_enter Tryz.func3, Tryz.ntmps3
  go_wp2_with fail
  refine (plays_of a0 n cap w.heap.size 2 2 ops (fun j => if j = 0 then 1 else 2) (w.alloc (Obj.cells #[Value.int IntKind.i64 1, Value.int IntKind.i64 2] 3)) hn (by omega)
    (fun w' => Below (w.heap.size + 2) ((w.alloc (Obj.cells #[Value.int IntKind.i64 1, Value.int IntKind.i64 2] 3)).alloc (.cells #[.slice none 0 0, .slice none 0 0, .slice none 0 0] 33)) w') ?_ ?_ ?_ ?_ ?_ ?_).mono ?_
  · exact Below.refl _ _
  · exact fun w' q h => below_drews h q
  · intro w' h
    have h2 := ((Below.refl w.heap.size w).alloc (Nat.le_refl _) (Obj.cells #[Value.int IntKind.i64 1, Value.int IntKind.i64 2] 3)).alloc (by simp) (.cells #[.slice none 0 0, .slice none 0 0, .slice none 0 0] 33)
    exact ScriptAt.below HS.out (h2.trans (h.mono (by omega)))
  · intro w' h i hi
    rw [h.cell (p := ⟨w.heap.size, i, none⟩) (by simp)]
    have : i = 0 ∨ i = 1 := by omega
    rcases this with rfl | rfl <;> simp [go_sem]
  · intro i _ hj w' h
    refine (step_field (ops i) _ w' ?_).mono ?_
    · obtain ⟨j, hj, e⟩ := hj
      have : j = 0 ∨ j = 1 := by omega
      rcases this with rfl | rfl
      · left; simpa using e
      · right; simpa using e
    · rintro e w'' ⟨rfl, h2⟩
      exact ⟨rfl, h.trans (h2.mono (by have := h.size; simpa using this))⟩
  · intro w' h
    refine (looks_nil _ w' ?_ ?_).mono ?_
    · rw [h.cell (p := ⟨_, 1, none⟩) (by simp)]; simp [go_sem]
    · rw [h.cell (p := ⟨_, 2, none⟩) (by simp)]; simp [go_sem]
    · rintro e w'' ⟨rfl, rfl⟩; exact ⟨rfl, h⟩
  · rintro e w1 ⟨rfl, h⟩
    go_wp2_with fail
    go_ret
    have h2 := ((Below.refl w.heap.size w).alloc (Nat.le_refl _) (Obj.cells #[Value.int IntKind.i64 1, Value.int IntKind.i64 2] 3)).alloc (by simp) (.cells #[.slice none 0 0, .slice none 0 0, .slice none 0 0] 33)
    exact ⟨rfl, h2.trans (h.mono (by omega))⟩
end Go.Proofs.YtfpoiikhhjdpdaaGreat

/- hoardlaw.plays over the great world. -/
namespace Go.Proofs.YtfpoiikhhjdpdaaGreat
open Go.RowKit
set_option linter.unusedVariables false
/-- The empty world. -/
theorem Great.start (T : World) : Great T (T.alloc (.cells #[.slice none 0 0, .slice none 0 0, .slice none 0 0] 33)) (fun b => if b = T.heap.size then 0 else 6) ⟨0, .slice none 0 0, fun _ => 0, fun _ => 0, fun _ => 0, fun _ => ⟨newSt 1 1 1 1, newAb 1 1 1 1, fun _ => .slice none 0 0, -1, false⟩, 0, .slice none 0 0, fun _ _ => .slice none 0 0, 0, .slice none 0 0, fun _ _ => .slice none 0 0⟩ 0 := by
  refine ⟨(Below.refl _ _).alloc (Nat.le_refl _) _, ?_, if_pos rfl, World.ownsRow_nil _ _ _ 1, fun g hg => (by cases hg), World.ownsRow_nil _ _ _ 5, fun g hg => (by cases hg), World.ownsRow_nil _ _ _ 5, fun g hg => (by cases hg), fun i j hi => (by exact absurd hi (Nat.not_lt_zero _)), fun i j hi => (by exact absurd hi (Nat.not_lt_zero _)), fun i hi => (by exact absurd hi (Nat.not_lt_zero _)), fun i hi => (by exact absurd hi (Nat.not_lt_zero _)), fun i hi => (by exact absurd hi (Nat.not_lt_zero _)), fun i k hi => (by exact absurd hi (Nat.not_lt_zero _)), ⟨Nat.le_refl _, Nat.le_refl _, Nat.le_refl _⟩⟩
  refine World.rowIs_alloc T _ _ _ ?_
  intro i hi
  have hi' : i < 3 := hi
  have : i = 0 ∨ i = 1 ∨ i = 2 := by omega
  rcases this with rfl | rfl | rfl <;> rfl
/-- A script of at most 1048576 steps, played with the kinds from lo on. -/
theorem plays_great (a0 : Option Addr) (n cap kb m kcap : Nat) (ops : Nat → OpV) (L : Nat → Int) (T : World) (hn : n ≤ 1048576) (hm : m ≤ 20) (hs : ScriptAt T a0 n ops) (hk : KindsAt T kb m L) (hkl : kb < T.heap.size)
    (hstep : ∀ i, i < n → (∃ j, j < m ∧ (ops i).k = L j) → ∀ w' tag G N, N ≤ 220000000 → Great T w' tag G N → Calls Tryz.prog 10 #[.pointer (some ⟨T.heap.size, 0, none⟩), (ops i).val] w' fun e w'' => e = .returned (.bool true) ∧ ∃ tag' G', Great T w'' tag' G' (N + 200)) :
    Calls Tryz.prog 9 #[.slice a0 n cap, .slice (some ⟨kb, 0, none⟩) m kcap] T fun e w' => e = .returned (.bool true) ∧ Below T.heap.size T w' := by
  refine (plays_n a0 n cap kb m kcap ops L T (by unfold maxLen; omega) hm (fun i w' => ∃ tag G, Great T w' tag G (200 * i)) ⟨_, _, Great.start T⟩ ?_ ?_ ?_ ?_ ?_ ?_).mono ?_
  · rintro i w' q ⟨tag, G, h⟩
    exact ⟨_, _, h.below (below_drewN (Below.refl _ _) q)⟩
  · rintro i w' ⟨tag, G, h⟩
    exact ⟨_, _, h.mono (by omega)⟩
  · rintro i w' ⟨tag, G, h⟩
    exact ScriptAt.below hs h.bel
  · rintro i w' ⟨tag, G, h⟩ j hj
    rw [h.bel.cell (p := ⟨kb, j, none⟩) hkl]
    exact hk j hj
  · rintro i hi hj w' ⟨tag, G, h⟩
    refine (hstep i hi hj w' tag G (200 * i) (by omega) h).mono ?_
    rintro e w'' ⟨rfl, tag', G', h'⟩
    exact ⟨rfl, tag', G', h'⟩
  · rintro i hi w' ⟨tag, G, h⟩
    refine (looks_any h (by omega)).mono ?_
    rintro e w'' ⟨rfl, k⟩
    exact ⟨rfl, _, _, h.below k⟩
  · rintro e w' ⟨rfl, tag, G, h⟩
    exact ⟨rfl, h.bel⟩
end Go.Proofs.YtfpoiikhhjdpdaaGreat

/- hoardlaw.Writes: the walk. -/
namespace Go.Proofs.YtfpoiikhhjdpdaaGreat
open Go.RowKit
set_option linter.unusedVariables false
set_option maxRecDepth 100000 in
set_option maxHeartbeats 1000000 in
theorem writes_any (a0 : Option Addr) (n cap : Nat) (ops : Nat → OpV) (w : World) (hn : n ≤ 1048576) (hs : ScriptAt w a0 n ops) (hf : ∀ i, i < n → (ops i).fits) :
    Calls Tryz.prog 4 #[.slice a0 n cap] w fun e w' => e = .returned (.bool true) ∧ Below w.heap.size w w' := by
  have HS : Hid _ := hs
  have HF : Hid _ := hf
  clear hs hf
  go_enter Tryz.func4, Tryz.ntmps4
  go_wp2_with fail
  refine (plays_great a0 n cap w.heap.size 8 8 ops (fun j => 3 + (j : Int)) _ hn (by omega) (ScriptAt.below HS.out (below_al _ _)) ?_ (by simp) ?_).mono ?_
  · intro i hi
    have : i = 0 ∨ i = 1 ∨ i = 2 ∨ i = 3 ∨ i = 4 ∨ i = 5 ∨ i = 6 ∨ i = 7 := by omega
    rcases this with rfl | rfl | rfl | rfl | rfl | rfl | rfl | rfl <;> simp [go_sem]
  · rintro i hi ⟨j, hj, e⟩ w' tag G N hN h
    exact step_great (ops i) h hN (HF.out i hi) (by omega)
  · rintro e w1 ⟨rfl, h⟩
    go_wp2_with fail
    go_ret
    exact ⟨rfl, (below_al w _).trans (h.mono (by simp))⟩
end Go.Proofs.YtfpoiikhhjdpdaaGreat

/- What a bound on the bulk says of a script. -/
namespace Go.Proofs.YtfpoiikhhjdpdaaGreat
open Go.RowKit
set_option linter.unusedVariables false
theorem bulk_one {H : Type} (o : OpV) : o.s.size + 1 ≤ Rows.uptoBulk (OpV.data (H := H) o) := by
  simp [OpV.data, Rows.uptoBulk, Rows.uptoBulkAll]
  have : o.s.data.size = o.s.size := rfl
  omega
theorem bulk_all {H : Type} (ops : Nat → OpV) (n : Nat) : n ≤ Rows.uptoBulkAll ((List.range n).map fun i => OpV.data (H := H) (ops i)) ∧ ∀ i, i < n → (ops i).s.size ≤ Rows.uptoBulkAll ((List.range n).map fun i => OpV.data (H := H) (ops i)) := by
  have key : ∀ l : List Nat, l.length ≤ Rows.uptoBulkAll (l.map fun i => OpV.data (H := H) (ops i)) ∧ ∀ i, i ∈ l → (ops i).s.size ≤ Rows.uptoBulkAll (l.map fun i => OpV.data (H := H) (ops i)) := by
    intro l
    induction l with
    | nil => exact ⟨Nat.zero_le _, fun i hi => by cases hi⟩
    | cons x r ih =>
      have h1 := bulk_one (H := H) (ops x)
      simp only [List.map_cons, Rows.uptoBulkAll, List.length_cons]
      refine ⟨by have := ih.1; omega, fun i hi => ?_⟩
      rcases List.mem_cons.1 hi with e | e
      · subst e; omega
      · have := ih.2 i e; omega
  have h := key (List.range n)
  rw [List.length_range] at h
  exact ⟨h.1, fun i hi => h.2 i (List.mem_range.2 hi)⟩
theorem bulk_script {H : Type} (ops : Nat → OpV) (n : Nat) (d : DataW H) (hd : n = 0 ∨ ∃ sp, d = .slice ((List.range n).map fun i => (ops i).data) sp) (hk : Rows.uptoSmall H [d] = true) : n ≤ 1048576 ∧ ∀ i, i < n → (ops i).s.size ≤ 1048576 := by
  rcases hd with rfl | ⟨sp, rfl⟩
  · exact ⟨by omega, fun i hi => by omega⟩
  · have h : Rows.uptoBulkAll [DataW.slice ((List.range n).map fun i => OpV.data (H := H) (ops i)) sp] ≤ 1048576 := of_decide_eq_true hk
    simp only [Rows.uptoBulkAll, Rows.uptoBulk] at h
    obtain ⟨h1, h2⟩ := bulk_all (H := H) ops n
    exact ⟨by omega, fun i hi => by have := h2 i hi; omega⟩
end Go.Proofs.YtfpoiikhhjdpdaaGreat
