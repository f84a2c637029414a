import Derived.Test.YtfpoiikhhjdpdaaGreatJ28
import Derived.Test.YtfpoiikhhjdpdaaGreatJ54
import Derived.Test.YtfpoiikhhjdpdaaGreatJ56
import Derived.Test.YtfpoiikhhjdpdaaGreatJ40
import Derived.Test.YtfpoiikhhjdpdaaGreatJ52
import Derived.Test.YtfpoiikhhjdpdaaGreatJ53
/- Pairs: Corrupt, Scrub. -/
namespace Go.Proofs.YtfpoiikhhjdpdaaGreat
open Go.RowKit
set_option linter.unusedVariables false
theorem pair_corrupt (w : World) (x y : Nat) (q : PSt) (N : Nat) (d r i : Int) (v : Nat) (p : PairAt w x y q N) (hv : v < 256) :
    Calls Tryz.prog 56 #[.pointer (some ⟨x, 0, none⟩), .int .i64 d, .int .i64 r, .int .i64 i, .int .u8 (v : Nat)] w fun e w1 => ∃ z : Int, e = .returned (.int .i64 z) ∧ XPost 57 #[.pointer (some ⟨y, 0, none⟩), .int .i64 d, .int .i64 r, .int .i64 i, .int .u8 (v : Nat)] w x y q N (.int .i64 z) w1 := by
  cases hd : q.dn
  · have hx := p.xu hd
    obtain ⟨ha, hl⟩ := p.good.up hd
    have hsD : q.a.D = q.s.D := by rw [ha]
    have hsP : q.a.P = q.s.P := by rw [ha]
    have hsR : q.a.R = q.s.R := by rw [ha]
    cases hdr : isDriveB q.s.toAb d
    · refine (Corrupt_no x q.s d r i v w hx hdr).mono ?_
      rintro e w1 ⟨rfl, k1⟩
      refine ⟨6, rfl, XPost.same p (Nat.le_refl _) k1 (fun W hW => ?_)⟩
      rw [hd] at hW
      have ht : rThere (q.a.D + q.a.P) false d 0 = 6 := there_no (by simp only [isDriveB, decide_eq_false_iff_not] at hdr; rw [hsD, hsP]; omega)
      refine (rCorrupt_no y q.a q.V q.left false d r i v W hW (by rw [ht]; decide)).mono ?_
      rintro e w2 ⟨rfl, hw⟩
      exact ⟨by rw [ht], hw ▸ Below.refl _ _⟩
    · have hpr : (0 : Int) ≤ d ∧ d < (q.s.D : Int) + (q.s.P : Int) := by simpa [isDriveB] using hdr
      obtain ⟨dd, rfl⟩ : ∃ dd : Nat, d = (dd : Int) := ⟨d.toNat, by omega⟩
      have hdd : dd < q.a.D + q.a.P := by rw [hsD, hsP]; omega
      by_cases hri : isRowB q.s.toAb r = false ∨ i < 0 ∨ 4 ≤ i
      · refine (Corrupt_arg x q.s dd r i v w hx (by omega) hri).mono ?_
        rintro e w1 ⟨rfl, k1⟩
        refine ⟨1, rfl, XPost.same p (Nat.le_refl _) k1 (fun W hW => ?_)⟩
        rw [hd] at hW
        refine rCorrupt_arg y q.a q.V q.left dd r i v W hW hdd ?_
        rcases hri with h1 | h1
        · left
          simp only [isRowB, decide_eq_false_iff_not] at h1
          rw [hsR]; omega
        · exact .inr h1
      · have hrow : isRowB q.s.toAb r = true := by
          cases h1 : isRowB q.s.toAb r
          · exact absurd (.inl h1) hri
          · rfl
        have hrr : (0 : Int) ≤ r ∧ r < (q.s.R : Int) := by simpa [isRowB] using hrow
        have hii : 0 ≤ i ∧ i < 4 := by omega
        obtain ⟨rr, rfl⟩ : ∃ rr : Nat, r = (rr : Int) := ⟨r.toNat, by omega⟩
        obtain ⟨ii, rfl⟩ : ∃ ii : Nat, i = (ii : Int) := ⟨i.toNat, by omega⟩
        have hav2 : avB q.a dd rr = avB q.s.toAb dd rr := by rw [ha]
        cases hav : avB q.s.toAb dd rr
        · refine (Corrupt_state x q.s dd rr ii v w hx (by omega) (by omega) (by omega) hav).mono ?_
          rintro e w1 ⟨rfl, k1⟩
          refine ⟨7, rfl, XPost.same p (Nat.le_refl _) k1 (fun W hW => ?_)⟩
          rw [hd] at hW
          exact rCorrupt_state y q.a q.V q.left dd rr ii v W hW hdd (by omega) (by omega) (by rw [hav2]; exact hav)
        · refine (Corrupt_ok x q.s dd rr ii v w hx (by omega) (by omega) (by omega) hv hav).mono ?_
          rintro e w1 ⟨rfl, hw⟩
          have hlo : q.a.lost dd = false := by
            have h1 := hav2.trans hav
            unfold avB at h1
            simp at h1; exact h1.1
          refine ⟨0, rfl, _, q.a.putB dd rr ii ((q.a.cell dd rr).at ii ^^^ v), q.left, false, Mid.went hx.up hw, fun W hW => ?_, fun V' => ?_⟩
          · rw [hd] at hW
            refine (rCorrupt_ok y q.a q.V q.left dd rr ii v W hW hdd (by omega) (by omega) hv (by rw [hav2]; exact hav)).mono ?_
            rintro e w2 ⟨rfl, h1, h2⟩
            exact ⟨rfl, q.V, h1, h2, fun _ h => .inl h⟩
          · refine ⟨fun _ => ⟨by rw [ha]; rfl, hl⟩, fun h => (by cases h), fun b hb => p.good.brk b hb, p.good.fit.setCell dd rr _ hlo, p.good.steps⟩
  · have hx := p.xd hd
    refine (Corrupt_down x q.s d r i v w hx.toHoardIn hx.down).mono ?_
    rintro e w1 ⟨rfl, k1⟩
    refine ⟨3, rfl, XPost.same p (Nat.le_refl _) k1 (fun W hW => ?_)⟩
    rw [hd] at hW
    refine (rCorrupt_no y q.a q.V q.left true d r i v W hW (by rw [there_down]; decide)).mono ?_
    rintro e w2 ⟨rfl, hw⟩
    exact ⟨by rw [there_down], hw ▸ Below.refl _ _⟩
theorem pair_scrub (w : World) (x y : Nat) (q : PSt) (N : Nat) (r : Int) (p : PairAt w x y q N) :
    Calls Tryz.prog 58 #[.pointer (some ⟨x, 0, none⟩), .int .i64 r] w fun e w1 => ∃ k z : Int, e = .returned (.tuple #[.int .i64 k, .int .i64 z]) ∧ XPost 59 #[.pointer (some ⟨y, 0, none⟩), .int .i64 r] w x y q N (.tuple #[.int .i64 k, .int .i64 z]) w1 := by
  cases hd : q.dn
  · have hx := p.xu hd
    obtain ⟨ha, hl⟩ := p.good.up hd
    have hsD : q.a.D = q.s.D := by rw [ha]
    have hsP : q.a.P = q.s.P := by rw [ha]
    have hsR : q.a.R = q.s.R := by rw [ha]
    cases hrow : isRowB q.s.toAb r
    · refine (Scrub_arg x q.s r w hx hrow).mono ?_
      rintro e w1 ⟨rfl, k1⟩
      refine ⟨0, 1, rfl, XPost.same p (Nat.le_refl _) k1 (fun W hW => ?_)⟩
      rw [hd] at hW
      refine rScrub_arg y q.a q.V q.left r W hW ?_
      simp only [isRowB, decide_eq_false_iff_not] at hrow
      rw [hsR]; omega
    · have hrr : (0 : Int) ≤ r ∧ r < (q.s.R : Int) := by simpa [isRowB] using hrow
      obtain ⟨rr, rfl⟩ : ∃ rr : Nat, r = (rr : Int) := ⟨r.toNat, by omega⟩
      have hw2 : wholeB q.a rr = wholeB q.s.toAb rr := by rw [ha]
      have he2 : eqHoldB q.a rr = eqHoldB q.s.toAb rr := by rw [ha]
      have hx2 : explL q.a rr (q.a.D + q.a.P) = explL q.s.toAb rr (q.s.D + q.s.P) := by rw [ha]
      cases hwh : wholeB q.s.toAb rr
      · refine (Scrub_state x q.s rr w hx (by omega) hwh).mono ?_
        rintro e w1 ⟨rfl, k1⟩
        refine ⟨0, 7, rfl, q.s, q.a, q.left, false, ?_, fun W hW => ?_, fun V' => ?_⟩
        · exact Mid.same hx k1
        · rw [hd] at hW
          exact rScrub_state y q.a q.V q.left rr W hW (by omega) (by rw [hw2]; exact hwh)
        · have := p.good.same (Nat.le_refl _) V'
          rw [hd] at this; exact this
      · cases heq : eqHoldB q.s.toAb rr
        · by_cases hone : (explL q.s.toAb rr (q.s.D + q.s.P)).length = 1
          · obtain ⟨dd, hdd⟩ : ∃ dd, explL q.s.toAb rr (q.s.D + q.s.P) = [dd] := List.length_eq_one_iff.1 hone
            have hdl : dd < q.s.D + q.s.P := explL_lt q.s.toAb rr _ dd (by rw [hdd]; simp)
            refine (Scrub_mends x q.s rr dd w hx (by omega) hwh heq hdd hdl).mono ?_
            rintro e w1 ⟨rfl, hw⟩
            have hlo : q.a.lost dd = false := by
              have h1 := (wholeTo_iff q.a rr (q.a.D + q.a.P)).1 (hw2.trans hwh) dd (by rw [hsD, hsP]; exact hdl)
              unfold avB at h1
              simp at h1; exact h1.1
            refine ⟨dd, 0, rfl, _, q.a.setCell dd rr ((q.a.cell dd rr).xor (mendC q.a dd rr)), q.left, false, Mid.went hx.up hw, fun W hW => ?_, fun V' => ?_⟩
            · rw [hd] at hW
              exact rScrub_mends y q.a q.V q.left rr dd W hW (by omega) (by rw [hw2]; exact hwh) (by rw [he2]; exact heq) (by rw [hx2]; exact hdd)
            · refine ⟨fun _ => ⟨by rw [ha]; rfl, hl⟩, fun h => (by cases h), fun b hb => p.good.brk b hb, p.good.fit.setCell dd rr _ hlo, p.good.steps⟩
          · refine (Scrub_bad x q.s rr w hx (by omega) hwh heq hone).mono ?_
            rintro e w1 ⟨rfl, k1⟩
            refine ⟨0, 8, rfl, q.s, q.a, q.left, false, ?_, fun W hW => ?_, fun V' => ?_⟩
            · exact Mid.same hx k1
            · rw [hd] at hW
              exact rScrub_bad y q.a q.V q.left rr W hW (by omega) (by rw [hw2]; exact hwh) (by rw [he2]; exact heq) (by rw [hx2]; exact hone)
            · have := p.good.same (Nat.le_refl _) V'
              rw [hd] at this; exact this
        · refine (Scrub_fine x q.s rr w hx (by omega) hwh heq).mono ?_
          rintro e w1 ⟨rfl, k1⟩
          refine ⟨-1, 0, rfl, q.s, q.a, q.left, false, ?_, fun W hW => ?_, fun V' => ?_⟩
          · exact Mid.same hx k1
          · rw [hd] at hW
            exact rScrub_fine y q.a q.V q.left rr W hW (by omega) (by rw [hw2]; exact hwh) (by rw [he2]; exact heq)
          · have := p.good.same (Nat.le_refl _) V'
            rw [hd] at this; exact this
  · have hx := p.xd hd
    refine (Scrub_down x q.s r w hx.toHoardIn hx.down).mono ?_
    rintro e w1 ⟨rfl, k1⟩
    refine ⟨0, 3, rfl, XPost.same p (Nat.le_refl _) k1 (fun W hW => ?_)⟩
    rw [hd] at hW
    exact rScrub_down y q.a q.V q.left r W hW
end Go.Proofs.YtfpoiikhhjdpdaaGreat

/- hoardlaw.step: the kinds of Scrubs. -/
namespace Go.Proofs.YtfpoiikhhjdpdaaGreat
open Go.RowKit
set_option linter.unusedVariables false
theorem step_scrubs {T w : World} {tag : Nat → Nat} {G : GSt} {N : Nat} (o : OpV) (hG : Great T w tag G N) (hN : N ≤ 220000000) (ho : o.fits) (hk : (3 ≤ o.k ∧ o.k ≤ 10) ∨ o.k = 16 ∨ o.k = 17) :
    Calls Tryz.prog 10 #[.pointer (some ⟨T.heap.size, 0, none⟩), o.val] w fun e w' => e = .returned (.bool true) ∧ ∃ tag' G', Great T w' tag' G' (N + 200) := by
  by_cases h10 : o.k ≤ 10
  · exact step_great o hG hN ho (by omega)
  have h0 : ∀ W, Below w.heap.size w W → ∃ tag' G', Great T W tag' G' (N + 200) := fun W hW => ⟨_, _, (hG.below hW).mono (by omega)⟩
  have hk' : o.k = 16 ∨ o.k = 17 := by omega
  rcases hk' with h | h
  · refine step_16 T tag G N o w h ho.a hN hG _ h0 (fun i hi W hW => ?_)
    have g := hG.below hW
    obtain ⟨ev, hev, hev2⟩ := byteOf o.e
    refine (moved_corrupt (G.pb i) (G.xb i) (G.yb i) (G.Q i) N N o ev hev W h ((g.box i hi).cell (i := 0) (by omega)) ((g.box i hi).cell (i := 1) (by omega)) (g.noFoot hi) (g.pr i hi) (fun W' hW' => pair_corrupt W' _ _ _ N o.b o.c o.d ev ((g.pr i hi).below hW') hev2)).mono ?_
    rintro e w' ⟨rfl, q', ht⟩
    exact ⟨rfl, _, _, ((g.turn i hi q' ht).mono (by omega))⟩
  · refine step_17 T tag G N o w h ho.a hN hG _ h0 (fun i hi W hW => ?_)
    have g := hG.below hW
    refine (moved_scrub (G.pb i) (G.xb i) (G.yb i) (G.Q i) N N o W h ((g.box i hi).cell (i := 0) (by omega)) ((g.box i hi).cell (i := 1) (by omega)) (g.noFoot hi) (g.pr i hi) (fun W' hW' => pair_scrub W' _ _ _ N o.b ((g.pr i hi).below hW'))).mono ?_
    rintro e w' ⟨rfl, q', ht⟩
    exact ⟨rfl, _, _, ((g.turn i hi q' ht).mono (by omega))⟩
end Go.Proofs.YtfpoiikhhjdpdaaGreat

/- hoardlaw.Scrubs: the walk. -/
namespace Go.Proofs.YtfpoiikhhjdpdaaGreat
open Go.RowKit
set_option linter.unusedVariables false
set_option maxRecDepth 100000 in
set_option maxHeartbeats 1000000 in
theorem scrubs_any (a0 : Option Addr) (n cap : Nat) (ops : Nat → OpV) (w : World) (hn : n ≤ 1048576) (hs : ScriptAt w a0 n ops) (hf : ∀ i, i < n → (ops i).fits) :
    Calls Tryz.prog 7 #[.slice a0 n cap] w fun e w' => e = .returned (.bool true) ∧ Below w.heap.size w w' := by
  have HS : Hid _ := hs
  have HF : Hid _ := hf
  clear hs hf
  go_enter Tryz.func7, Tryz.ntmps7
  go_wp2_with fail
  refine (plays_great a0 n cap w.heap.size 8 8 ops (fun j => ([3, 4, 5, 8, 9, 10, 16, 17] : List Int).getD j 0) _ hn (by omega) (ScriptAt.below HS.out (below_al _ _)) ?_ (by simp) ?_).mono ?_
  · intro i hi
    have : i = 0 ∨ i = 1 ∨ i = 2 ∨ i = 3 ∨ i = 4 ∨ i = 5 ∨ i = 6 ∨ i = 7 := by omega
    rcases this with rfl | rfl | rfl | rfl | rfl | rfl | rfl | rfl <;> simp [go_sem]
  · rintro i hi ⟨j, hj, e⟩ w' tag G N hN h
    refine step_scrubs (ops i) h hN (HF.out i hi) ?_
    have hj' : j = 0 ∨ j = 1 ∨ j = 2 ∨ j = 3 ∨ j = 4 ∨ j = 5 ∨ j = 6 ∨ j = 7 := by omega
    rw [e]
    rcases hj' with rfl | rfl | rfl | rfl | rfl | rfl | rfl | rfl <;> decide
  · rintro e w1 ⟨rfl, h⟩
    go_wp2_with fail
    go_ret
    exact ⟨rfl, (below_al w _).trans (h.mono (by simp))⟩
end Go.Proofs.YtfpoiikhhjdpdaaGreat
