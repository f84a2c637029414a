/- hoardkeep: where a world begins; the moves, one after the other. -/
import Derived.Test.YtfpoiikhhjdpdabKReads
namespace Go.Proofs.Ytfpoiikhhjdpdab
open Go.RowKit
set_option linter.unusedVariables false
attribute [local go_sem ↓] Go.wp_at_zero Go.wp_at_succ
theorem wsum_zero (a : Ab) (d r k : Nat) : wsum a (fun _ => 0) d r k = C4.zero := by
  induction k with
  | zero => rfl
  | succ k ih =>
    simp only [wsum]
    rw [ih, C4.zero_xor]
    show C4.scale (wgt a d k) (C4.mk4 _) = _
    simp only [C4.scale, C4.mk4, Hd.mul_zero]; rfl
theorem missL_new (a b c d r k : Nat) : missL (newAb a b c d) r k = [] := by
  induction k with
  | zero => rfl
  | succ k ih => simp only [missL]; rw [ih]; rfl
theorem KInv.new (a b c d : Nat) (h : shapeB a b c d = true) : KInv (newSt a b c d) (fun _ => 0) (fun _ => false) (fun _ _ => true) := by
  refine ⟨⟨newSt_ok a b c d h, fun _ => by omega, fun r hr d' hd' hav => rfl, fun r hr d' h1 h2 hav => ?_, fun d' x hx => ?_⟩, fun _ _ => rfl, fun _ _ _ _ _ => rfl, fun r hr => ?_⟩
  · rw [wsum_zero]; rfl
  · simp [newSt, newAb] at hx
  · simp only [goneB, decide_eq_false_iff_not]
    show ¬ _ < (missL (newAb a b c d) r _).length
    rw [missL_new]; simp
theorem wf64 {n : Int} (h : (Lit.int .i64 n).wf = true) : -9223372036854775808 ≤ n ∧ n ≤ 9223372036854775807 := bounds_i64 h
/-- What stands of a world from its beginning on. -/
structure Stands (w0 w : World) (kb bb hb : Nat) (V : Nat → Value) (D P R M k : Nat) : Prop where
  ex : ∃ (s : St) (f : Nat → Nat) (lo : Nat → Bool) (bu : Nat → Nat → Bool), KInv s f lo bu ∧ s.steps ≤ k * 200 ∧ s.D = D ∧ s.P = P ∧ s.R = R ∧ (s.M = M ∧ s.brk = none) ∧ KeepAt w0 w kb bb hb s f V lo bu
theorem Stands.of_below {w0 w w' : World} {kb bb hb : Nat} {V : Nat → Value} {D P R M k : Nat} (h : Stands w0 w kb bb hb V D P R M k) (hbw : Below w.heap.size w w') : Stands w0 w' kb bb hb V D P R M k := by
  obtain ⟨s, f, lo, bu, h1, h2, h3, h4, h5, h6, h7⟩ := h.ex
  exact ⟨s, f, lo, bu, h1, h2, h3, h4, h5, h6, h7.of_below hbw⟩
theorem Stands.below {w0 w : World} {kb bb hb : Nat} {V : Nat → Value} {D P R M k : Nat} (h : Stands w0 w kb bb hb V D P R M k) : Below w0.heap.size w0 w := by
  obtain ⟨s, f, lo, bu, h1, h2, h3, h4, h5, h6, h7⟩ := h.ex
  exact h7.below
theorem move_stands {w0 : World} (kb bb hb : Nat) (V : Nat → Value) (D P R M k : Nat) (o : MvV) (w : World) (h : Stands w0 w kb bb hb V D P R M k) (ho : o.ok) (hk : k ≤ 10000000000000) :
    Calls Try.prog 10 #[.pointer (some ⟨kb, 0, none⟩), .agg #[.int .i64 o.k, .int .i64 o.a, .int .i64 o.b, .string o.s]] w fun e w' => e = .returned (.bool true) ∧ Stands w0 w' kb bb hb V D P R M (k + 1) := by
  obtain ⟨s, f, lo, bu, h1, h2, h3, h4, h5, h6, h7⟩ := h.ex
  refine (move_any kb bb hb s f V lo bu o w h7 h1 ho ⟨by omega, h6.2⟩).mono fun e w' ⟨he, s', f', lo', bu', g1, g2, g3, g4⟩ => ⟨he, ⟨s', f', lo', bu', g1, ?_, g3.D.trans h3, g3.P.trans h4, g3.R.trans h5, ⟨g3.M.trans h6.1, g3.brk.trans h6.2⟩, g4⟩⟩
  rw [Nat.add_mul]; omega
theorem reads_stands {w0 : World} (kb bb hb : Nat) (V : Nat → Value) (D P R M k : Nat) (w : World) (h : Stands w0 w kb bb hb V D P R M k) :
    Calls Try.prog 20 #[.pointer (some ⟨kb, 0, none⟩)] w fun e w' => e = .returned (.bool true) ∧ Stands w0 w' kb bb hb V D P R M k := by
  obtain ⟨s, f, lo, bu, h1, h2, h3, h4, h5, h6, h7⟩ := h.ex
  exact (reads_any kb bb hb s f V lo bu w h7 h1).mono fun e w' ⟨he, hb'⟩ => ⟨he, h.of_below hb'⟩
theorem begin_stands (D P R M : Nat) (W : World) (h : shapeB D P R M = true) :
    Calls Try.prog 8 #[.agg #[.int .i64 D, .int .i64 P, .int .i64 R, .int .i64 M]] W fun e w' => ∃ kb, e = .returned (.tuple #[.pointer (some ⟨kb, 0, none⟩), .bool true]) ∧ ∃ bb hb V, Stands W w' kb bb hb V D P R M 0 := by
  refine (begin_any D P R M W h).mono ?_
  rintro e w2 ⟨kb, rfl, bb, hb, V, X, hbeg⟩
  have hK := KeepAt.of_beg (s := newSt D P R M) hbeg (fun g hg => by
    rcases hg with h1 | ⟨d', _, hd'⟩
    · exact h1
    · simp [newSt, Value.ownBlock] at hd')
  exact ⟨kb, rfl, bb, hb, V, ⟨newSt D P R M, _, _, _, KInv.new D P R M h, Nat.zero_le _, rfl, rfl, rfl, ⟨rfl, rfl⟩, hK⟩⟩
end Go.Proofs.Ytfpoiikhhjdpdab
