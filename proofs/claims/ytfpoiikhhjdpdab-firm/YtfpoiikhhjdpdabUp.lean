/- A hoard that is up: nothing is noted. -/
import Derived.Test.YtfpoiikhhjdpdabLays
namespace Go.Proofs.Ytfpoiikhhjdpdab
open Go.RowKit
set_option linter.unusedVariables false
/-- The hoard in memory, and it is up. -/
structure HoardAt (w : World) (hb : Nat) (s : St) : Prop extends HoardIn w hb s where
  up : s.aux = aux0
instance (w : World) (hb : Nat) (s : St) : CoeOut (HoardAt w hb s) (HoardIn w hb s) := ⟨HoardAt.toHoardIn⟩
theorem HoardAt.of_block {w w' : World} {hb : Nat} {s : St} (h : HoardAt w hb s) (e : ∀ k, Foot hb s k → w'.heap[k]? = w.heap[k]?) : HoardAt w' hb s := ⟨h.toHoardIn.of_block e, h.up⟩
theorem HoardAt.kept {w w' : World} {hb : Nat} {s : St} {S : Nat → Prop} (h : HoardAt w hb s) (k : Kept S w w') (hS : ∀ i, Foot hb s i → ¬ S i) : HoardAt w' hb s := ⟨h.toHoardIn.kept k hS, h.up⟩
theorem HoardAt.below {w w' : World} {hb : Nat} {s : St} (h : HoardAt w hb s) (k : Below w.heap.size w w') : HoardAt w' hb s := ⟨h.toHoardIn.below k, h.up⟩
theorem HoardAt.drewN {w : World} {hb : Nat} {s : St} (h : HoardAt w hb s) (n : Nat) : HoardAt (w.drewN n) hb s := ⟨h.toHoardIn.drewN n, h.up⟩
theorem HoardAt.heap {w W : World} {hb : Nat} {s : St} (h : HoardAt w hb s) (e : W.heap = w.heap) : HoardAt W hb s := ⟨h.toHoardIn.heap e, h.up⟩
theorem HoardAt.foot_lt {w : World} {hb : Nat} {s : St} (h : HoardAt w hb s) {k : Nat} (hk : Foot hb s k) : k < w.heap.size := h.toHoardIn.foot_lt hk
theorem HoardIn.downAt {w : World} {hb : Nat} {s : St} (h : HoardIn w hb s) : w.cell? ⟨hb, 210, none⟩ = some (.bool s.aux.down) := h.row.cell (by omega)
theorem HoardAt.downAt {w : World} {hb : Nat} {s : St} (h : HoardAt w hb s) : w.cell? ⟨hb, 210, none⟩ = some (.bool false) := by
  have := h.toHoardIn.downAt
  rw [h.up] at this; exact this
/-- From s in w to s' in w', the hoard being up: none but the hoard's own blocks have turned; its blocks are old ones of its own, or new. -/
structure Went (hb : Nat) (s : St) (w : World) (s' : St) (w' : World) : Prop where
  at' : HoardAt w' hb s'
  kept : Kept (Foot hb s) w w'
  foot : ∀ k, Foot hb s' k → Foot hb s k ∨ w.heap.size ≤ k
  brk : s'.brk = s.brk
theorem Went.trans {hb : Nat} {a b c : St} {w w1 w2 : World} (h : Went hb a w b w1) (k : Went hb b w1 c w2) : Went hb a w c w2 :=
  ⟨k.at', h.kept.trans' k.kept h.foot, fun i hi => by
    rcases k.foot i hi with h1 | h1
    · exact h.foot i h1
    · right; have := h.kept.size; omega, k.brk.trans h.brk⟩
theorem Went.below {hb : Nat} {s : St} {w w' : World} (h : HoardAt w hb s) (k : Below w.heap.size w w') : Went hb s w s w' :=
  ⟨h.below k, Kept.of_below k, fun _ h => .inl h, rfl⟩
theorem Went.of {hb : Nat} {s s' : St} {w w' : World} (k : WentIn hb s w s' w') (hu : s'.aux = aux0) (hk : s'.brk = s.brk) : Went hb s w s' w' := ⟨⟨k.at', hu⟩, k.kept, k.foot, hk⟩
theorem Went.inn {hb : Nat} {s s' : St} {w w' : World} (k : Went hb s w s' w') : WentIn hb s w s' w' := ⟨k.at'.toHoardIn, k.kept, k.foot⟩
theorem wentUp_from {hb : Nat} {s s' : St} {w W w2 : World} (k : Went hb s W s' w2) (h : W.heap = w.heap) (ho : W.os = w.os) (ht : W.tape = w.tape) (hp : W.output = w.output) : Went hb s w s' w2 := Went.of (went_from k.inn h ho ht hp) k.at'.up k.brk
theorem applyRecs_brk (s : St) (d : Nat) (l : List Rec) : (applyRecs s d l).brk = s.brk := by
  induction l generalizing s with
  | nil => rfl
  | cons r l ih => exact ih (applyRec s d r)
theorem noteS_aux (s : St) (d : Nat) (r : Rec) (v : Value) : (noteS s d r v).aux = s.aux ∧ (noteS s d r v).brk = s.brk := by
  unfold noteS
  split
  · exact ⟨rfl, rfl⟩
  · exact ⟨(applyRecs_rest s d _).2.2, applyRecs_brk s d _⟩
/-- With other notes, and another break. -/
def St.setAux (s : St) (x : Aux) (b : Option Nat) : St := { s with aux := x, brk := b }
theorem HoardIn.setAux {w w' : World} {hb : Nat} {s : St} (h : HoardIn w hb s) (x : Aux) (b : Option Nat) (hr : w'.rowIs hb 91 211 (hv (s.setAux x b))) (ho : ∀ k, k ≠ hb → w'.heap[k]? = w.heap[k]?) : HoardIn w' hb (s.setAux x b) :=
  ⟨⟨h.ok.D1, h.ok.D4, h.ok.P1, h.ok.P2, h.ok.R1, h.ok.R6, h.ok.M1, h.ok.M8, h.ok.cells, h.ok.len, h.ok.recs, h.ok.data⟩, hr, fun d hd => (h.logs d hd).of_block (fun g hg => ho g (fun e => h.apart d hd (by rw [hg, e]))), h.apart, h.apart2⟩
theorem hv_low (s : St) (x : Aux) (b : Option Nat) (i : Nat) (hi : i < 197) : hv (s.setAux x b) i = hv s i := by
  unfold hv
  by_cases h1 : i < 4
  · rw [if_pos h1, if_pos h1]; rfl
  · rw [if_neg h1, if_neg h1]
    by_cases h2 : i < 196
    · rw [if_pos h2, if_pos h2]; rfl
    · rw [if_neg h2, if_neg h2, if_pos (by omega), if_pos (by omega)]; rfl
theorem hv_high (s : St) (i : Nat) (hi : 197 ≤ i) : hv s i = auxv s.aux s.brk i := by
  unfold hv
  rw [if_neg (by omega), if_neg (by omega), if_neg (by omega)]
end Go.Proofs.Ytfpoiikhhjdpdab
