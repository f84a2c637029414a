import Derived.Test.YtfpoiikhhjdpdaaGreatJ28
import Derived.Test.YtfpoiikhhjdpdaaGreatJ18
import Derived.Test.YtfpoiikhhjdpdaaGreatJ25
/- A pair's answers to questions: Log, Read. -/
namespace Go.Proofs.YtfpoiikhhjdpdaaGreat
open Go.RowKit
set_option linter.unusedVariables false
theorem own_of_row {w : World} {g t n : Nat} {f : Nat → Value} (h : w.rowIs g t n f) (hn : n ≤ maxLen) : w.ownsRow 0 t 1 (.slice (some ⟨g, 0, none⟩) n n) n ((List.range n).map f) := by
  obtain ⟨c, hc, hs, hf⟩ := h
  refine ⟨by simp, .inr ⟨g, n, c, rfl, Nat.zero_le _, hc, Nat.le_refl _, hn, by omega, ?_⟩⟩
  apply List.ext_getElem?
  intro j
  by_cases hj : j < n
  · rw [List.getElem?_take_of_lt (by omega), List.getElem?_map, List.getElem?_range hj]
    have := hf j hj
    simpa using this
  · rw [List.getElem?_eq_none (by simp; omega), List.getElem?_eq_none (by simp; omega)]
theorem RecsAt.nil (w : World) (p : Option Addr) : RecsAt w p [] := fun k hk => by simp at hk
def XLog (L : List Rec) (z : Int) (W : World) (e : Ending) (w1 : World) : Prop := ∃ pa ca, e = .returned (.tuple #[.slice pa L.length ca, .int .i64 z]) ∧ (z ≠ 0 → pa = none) ∧ w1.ownsRow W.heap.size 92 5 (.slice pa L.length ca) L.length (recCells L) ∧ Below W.heap.size W w1
def YLog (L : List Rec) (z : Int) (W : World) (e : Ending) (w1 : World) : Prop := ∃ pb cb, e = .returned (.tuple #[.slice pb L.length cb, .int .i64 z]) ∧ RecsAt w1 pb L ∧ Below W.heap.size W w1
theorem XLog.none {z : Int} {W w1 : World} {e : Ending} (he : e = .returned (.tuple #[.slice none 0 0, .int .i64 z])) (k : Below W.heap.size W w1) : XLog [] z W e w1 := ⟨_, _, he, fun _ => rfl, World.ownsRow_nil _ _ _ 5, k⟩
theorem YLog.none {z : Int} {W w1 : World} {e : Ending} (he : e = .returned (.tuple #[.slice none 0 0, .int .i64 z])) (k : Below W.heap.size W w1) : YLog [] z W e w1 := ⟨_, _, he, RecsAt.nil _ _, k⟩
theorem pair_log (w : World) (x y : Nat) (q : PSt) (N : Nat) (d : Int) (p : PairAt w x y q N) : ∃ (L : List Rec) (z : Int), L.length ≤ 100 ∧ (∀ W, Below w.heap.size w W → Calls Tryz.prog 36 #[.pointer (some ⟨x, 0, none⟩), .int .i64 d] W (XLog L z W)) ∧ ∀ W, Below w.heap.size w W → Calls Tryz.prog 37 #[.pointer (some ⟨y, 0, none⟩), .int .i64 d] W (YLog L z W) := by
  cases hd : q.dn
  · obtain ⟨ha, hl⟩ := p.good.up hd
    have hsD : q.a.D = q.s.D := by rw [ha]
    have hsP : q.a.P = q.s.P := by rw [ha]
    have hsl : q.a.lost = q.s.lost := by rw [ha]
    cases hpar : isParityB q.s.toAb d
    · refine ⟨[], 6, by simp, fun W hW => (Log_no x q.s d W ((p.below hW).xu hd) hpar).mono (fun e w1 hh => XLog.none hh.1 hh.2), fun W hW => ?_⟩
      have ht : rThere (q.a.D + q.a.P) q.dn d q.a.D = 6 := by rw [hd]; exact there_no (by simp only [isParityB, decide_eq_false_iff_not] at hpar; rw [hsD, hsP]; omega)
      have h2 := rLog_no y q.a q.V q.left q.dn d W (p.below hW).ya (by rw [ht]; decide)
      rw [ht] at h2
      exact h2.mono (fun e w1 hh => YLog.none hh.1 hh.2)
    · have hpr : (q.s.D : Int) ≤ d ∧ d < (q.s.D : Int) + (q.s.P : Int) := by simpa [isParityB] using hpar
      obtain ⟨dd, rfl⟩ : ∃ dd : Nat, d = (dd : Int) := ⟨d.toNat, by omega⟩
      have hdd : dd < q.a.D + q.a.P := by rw [hsD, hsP]; omega
      have hdp : q.a.D ≤ dd := by rw [hsD]; omega
      have hY : ∀ W, Below w.heap.size w W → RefIn W y q.a q.V q.left false := fun W hW => by
        have h2 := (p.below hW).ya
        rw [hd] at h2; exact h2
      cases hlo : q.s.lost dd
      · refine ⟨q.s.recs dd, 0, ?_, fun W hW => ?_, fun W hW => ?_⟩
        · have h1 := (p.xu hd).toHoardIn.ok.len dd
          have h2 := (p.xu hd).toHoardIn.ok.M8
          omega
        · refine (Log_ok x q.s dd W ((p.below hW).xu hd) hpar hlo).mono ?_
          rintro e w1 ⟨v, rfl, ho, k⟩
          rcases ho.2 with ⟨rfl, hn⟩ | ⟨g, cap, cur, rfl, _⟩
          · rw [← hn] at ho
            refine ⟨none, 0, by rw [hn], fun h => rfl, ?_, k⟩
            rw [hn] at ho ⊢; exact ho
          · exact ⟨_, _, rfl, fun h => absurd rfl h, ho, k⟩
        · have h2 := rLog_at y q.a q.V q.left dd W (hY W hW) hdd hdp
          rw [hsl, hlo] at h2
          refine h2.mono ?_
          rintro e w1 ⟨rfl, k⟩
          obtain ⟨pb, cb, hv, hr⟩ := ((hY W hW).lg dd hdd).recs
          rw [show q.a.recs = q.s.recs by rw [ha]] at hv hr
          refine ⟨pb, cb, ?_, hr.below k, k⟩
          rw [← hv]; rfl
      · refine ⟨[], 7, by simp, fun W hW => (Log_lost x q.s dd W ((p.below hW).xu hd) hpar hlo).mono (fun e w1 hh => XLog.none hh.1 hh.2), fun W hW => ?_⟩
        have h2 := rLog_at y q.a q.V q.left dd W (hY W hW) hdd hdp
        rw [hsl, hlo] at h2
        exact h2.mono (fun e w1 hh => YLog.none hh.1 hh.2)
  · refine ⟨[], 3, by simp, fun W hW => (Log_down x q.s d W ((p.below hW).xd hd).toHoardIn ((p.below hW).xd hd).down).mono (fun e w1 hh => XLog.none hh.1 hh.2), fun W hW => ?_⟩
    have h2 := rLog_no y q.a q.V q.left q.dn d W (p.below hW).ya (by rw [hd, there_down]; decide)
    rw [hd, there_down] at h2
    exact h2.mono (fun e w1 hh => YLog.none hh.1 hh.2)
def XRead (n : Nat) (g : Nat → Nat) (z : Int) (W : World) (e : Ending) (w1 : World) : Prop := ∃ pa ca xs, e = .returned (.tuple #[.slice pa n ca, .int .i64 z]) ∧ (z ≠ 0 → pa = none) ∧ w1.ownsRow 0 5 1 (.slice pa n ca) n xs ∧ (∀ b, (Value.slice pa n ca).ownBlock = some b → W.heap.size ≤ b) ∧ BytesAt w1 pa n g ∧ Below W.heap.size W w1
def YRead (n : Nat) (g : Nat → Nat) (z : Int) (W : World) (e : Ending) (w1 : World) : Prop := ∃ pb cb, e = .returned (.tuple #[.slice pb n cb, .int .i64 z]) ∧ BytesAt w1 pb n g ∧ Below W.heap.size W w1
theorem XRead.none {z : Int} {g : Nat → Nat} {W w1 : World} {e : Ending} (he : e = .returned (.tuple #[.slice none 0 0, .int .i64 z])) (k : Below W.heap.size W w1) : XRead 0 g z W e w1 := ⟨_, _, _, he, fun _ => rfl, World.ownsRow_nil _ _ _ 1, fun b hb => (by cases hb), fun i hi => (by omega), k⟩
theorem YRead.none {z : Int} {g : Nat → Nat} {W w1 : World} {e : Ending} (he : e = .returned (.tuple #[.slice none 0 0, .int .i64 z])) (k : Below W.heap.size W w1) : YRead 0 g z W e w1 := ⟨_, _, he, fun i hi => (by omega), k⟩
theorem byteAt_lt {a : Ab} (h : a.ok) (i : Nat) : byteAt a i < 256 := by
  unfold byteAt
  exact C4.at_lt (holdC_ok h _ _) _
theorem pair_read (w : World) (x y : Nat) (q : PSt) (N : Nat) (f n : Int) (p : PairAt w x y q N) (hf : -9223372036854775808 ≤ f ∧ f ≤ 9223372036854775807) : ∃ (k : Nat) (g : Nat → Nat) (z : Int), k ≤ 100 ∧ (∀ W, Below w.heap.size w W → Calls Tryz.prog 25 #[.pointer (some ⟨x, 0, none⟩), .int .i64 f, .int .i64 n] W (XRead k g z W)) ∧ ∀ W, Below w.heap.size w W → Calls Tryz.prog 26 #[.pointer (some ⟨y, 0, none⟩), .int .i64 f, .int .i64 n] W (YRead k g z W) := by
  cases hd : q.dn
  · obtain ⟨ha, hl⟩ := p.good.up hd
    have hY : ∀ W, Below w.heap.size w W → RefIn W y q.a q.V q.left false := fun W hW => by
      have h2 := (p.below hW).ya
      rw [hd] at h2; exact h2
    cases hh : hasB q.s.toAb f n
    · refine ⟨0, fun _ => 0, 4, by omega, fun W hW => (Read_no x q.s f n W ((p.below hW).xu hd) hf hh).mono (fun e w1 hh => XRead.none hh.1 hh.2), fun W hW => ?_⟩
      exact (rRead_no y q.a q.V q.left f n W (hY W hW) hf (by rw [ha]; exact hh)).mono (fun e w1 hh => YRead.none hh.1 hh.2)
    · have hh2 := hh
      simp only [hasB, decide_eq_true_eq] at hh2
      obtain ⟨ff, rfl⟩ : ∃ ff : Nat, f = (ff : Int) := ⟨f.toNat, by omega⟩
      obtain ⟨nn, rfl⟩ : ∃ nn : Nat, n = (nn : Int) := ⟨n.toNat, by omega⟩
      have hok := (p.xu hd).toHoardIn.ok
      obtain ⟨n1, n2, _, _⟩ := has_nums hok hh
      have hhA : hasB q.a ff nn = true := by rw [ha]; exact hh
      cases hg : anyGone q.s.toAb ff (blkEnd ff nn - ff / 4)
      · refine ⟨nn, fun i => byteAt q.s.toAb (ff + i), 0, by omega, fun W hW => ?_, fun W hW => ?_⟩
        · refine (Read_ok x q.s ff nn W ((p.below hW).xu hd) hh hg).mono ?_
          rintro e w1 ⟨g, rfl, hgl, hr, k⟩
          refine ⟨_, _, _, rfl, fun h => absurd rfl h, own_of_row hr (by simp only [maxLen]; omega), fun b hb => ?_, fun i hi => ⟨g, 0, rfl, ?_, byteAt_lt hok _⟩, k⟩
          · simp only [Value.ownBlock, Option.some.injEq] at hb
            omega
          · rw [Nat.zero_add]; exact hr.cell hi
        · refine (rRead_ok y q.a q.V q.left ff nn W (hY W hW) hhA (by rw [ha]; exact hg)).mono ?_
          rintro e w1 ⟨v, rfl, ho, k⟩
          rcases ho.2 with ⟨rfl, hn⟩ | ⟨g, cap, cur, rfl, _⟩
          · subst hn
            exact YRead.none rfl k
          · refine ⟨_, _, rfl, fun i hi => ⟨g, 0, rfl, ?_, byteAt_lt hok _⟩, k⟩
            rw [Nat.zero_add, World.ownsRow.cellAt ho i (by omega)]
            unfold bytesL byteV
            rw [List.getElem?_map, List.getElem?_range hi, ha]
            rfl
      · refine ⟨0, fun _ => 0, 5, by omega, fun W hW => (Read_lost x q.s ff nn W ((p.below hW).xu hd) hh hg).mono (fun e w1 hh => XRead.none hh.1 hh.2), fun W hW => ?_⟩
        exact (rRead_lost y q.a q.V q.left ff nn W (hY W hW) hhA (by rw [ha]; exact hg)).mono (fun e w1 hh => YRead.none hh.1 hh.2)
  · refine ⟨0, fun _ => 0, 3, by omega, fun W hW => (Read_down x q.s f n W ((p.below hW).xd hd).toHoardIn ((p.below hW).xd hd).down).mono (fun e w1 hh => XRead.none hh.1 hh.2), fun W hW => ?_⟩
    have h2 := (p.below hW).ya
    rw [hd] at h2
    exact (rRead_down y q.a q.V q.left f n W h2).mono (fun e w1 hh => YRead.none hh.1 hh.2)
end Go.Proofs.YtfpoiikhhjdpdaaGreat
