import Derived.Test.YtfpoiikhhjdpdaaGreatJ24
import Derived.Test.YtfpoiikhhjdpdaaGreatJ25
import Derived.Test.YtfpoiikhhjdpdaaGreatJ18
/- The document: Write. -/
namespace Go.Proofs.YtfpoiikhhjdpdaaGreat
open Go.RowKit
set_option linter.unusedVariables false
attribute [local go_sem ↓] Go.wp_at_zero Go.wp_at_succ
set_option maxRecDepth 100000 in
set_option maxHeartbeats 1000000 in
theorem rWrite_down (yb : Nat) (a : Ab) (V : Nat → Value) (left : Int) (f : Int) (p : Option Addr) (n cap : Nat) (w : World) (h : RefIn w yb a V left true) :
    Calls Tryz.prog 43 #[.pointer (some ⟨yb, 0, none⟩), .int .i64 f, .slice p n cap] w fun e w' => e = .returned (.int .i64 3) ∧ Below w.heap.size w w' := by
  obtain ⟨_, _, _, _, _, _, _, c7⟩ := h.cells
  have hlt := h.row.lt
  clear h
  go_enter Tryz.func43, Tryz.ntmps43
  go_wp2
  go_ret
  exact ⟨rfl, Below.refl _ _⟩
set_option maxRecDepth 100000 in
set_option maxHeartbeats 1000000 in
theorem rWrite_no (yb : Nat) (a : Ab) (V : Nat → Value) (left : Int) (f : Int) (p : Option Addr) (n cap : Nat) (w : World) (h : RefIn w yb a V left false) (hf : -9223372036854775808 ≤ f ∧ f ≤ 9223372036854775807) (hh : hasB a f n = false) :
    Calls Tryz.prog 43 #[.pointer (some ⟨yb, 0, none⟩), .int .i64 f, .slice p n cap] w fun e w' => e = .returned (.int .i64 4) ∧ Below w.heap.size w w' := by
  have HW : Hid (Calls Tryz.prog 68 #[.pointer (some ⟨yb, 0, none⟩), .int .i64 f, .int .i64 n] w fun e w' => e = .returned (.bool false) ∧ ∃ q, w' = w.drewN q) := (show Calls _ _ _ _ _ by
    have h1 := rwithin_any yb a V left false f n w h hf
    rw [hh] at h1; exact h1)
  obtain ⟨_, _, _, _, _, _, _, c7⟩ := h.cells
  have hlt := h.row.lt
  clear h hf hh
  go_enter Tryz.func43, Tryz.ntmps43
  go_wp2_with fail
  refine HW.out.mono ?_
  rintro e w1 ⟨rfl, q, rfl⟩
  go_wp2_with fail
  go_ret
  exact ⟨rfl, below_drewN (Below.refl _ _) q⟩
set_option maxRecDepth 100000 in
set_option maxHeartbeats 1000000 in
theorem rWrite_lost (yb : Nat) (a : Ab) (V : Nat → Value) (left : Int) (f : Nat) (p : Option Addr) (n cap : Nat) (w : World) (h : RefIn w yb a V left false) (hh : hasB a f n = true) (hg : anyGone a f (blkEnd f n - f / 4) = true) :
    Calls Tryz.prog 43 #[.pointer (some ⟨yb, 0, none⟩), .int .i64 f, .slice p n cap] w fun e w' => e = .returned (.int .i64 5) ∧ Below w.heap.size w w' := by
  obtain ⟨n1, n2, n3, n4⟩ := has_nums h.ok hh
  have HW : Hid (Calls Tryz.prog 68 #[.pointer (some ⟨yb, 0, none⟩), .int .i64 f, .int .i64 n] w fun e w' => e = .returned (.bool true) ∧ ∃ q, w' = w.drewN q) := (show Calls _ _ _ _ _ by
    have h1 := rwithin_any yb a V left false f n w h (by omega)
    rw [hh] at h1; exact h1)
  have HB : Hid (∀ W, Calls Tryz.prog 69 #[.int .i64 f, .int .i64 n] W fun e w' => e = .returned (.tuple #[.int .i64 (rFirst f n : Nat), .int .i64 (rBehind f n : Nat)]) ∧ w' = W) := fun W => rblocks_any f n W (by omega) (by omega)
  have HG : Hid (∀ W, Below w.heap.size w W → Calls Tryz.prog 70 #[.pointer (some ⟨yb, 0, none⟩), .int .i64 (rFirst f n : Nat), .int .i64 (rBehind f n : Nat)] W fun e w' => e = .returned (.bool true) ∧ Below W.heap.size W w') := fun W hW => (show Calls _ _ _ _ _ by
    have h1 := anyGone_of h f n hh W hW
    rw [hg] at h1; exact h1)
  obtain ⟨_, _, _, _, _, _, _, c7⟩ := h.cells
  have hlt := h.row.lt
  clear h hh hg
  generalize rFirst f n = F1 at *
  generalize rBehind f n = B1 at *
  go_enter Tryz.func43, Tryz.ntmps43
  go_wp2_with fail
  refine HW.out.mono ?_
  rintro e w1 ⟨rfl, q, rfl⟩
  go_wp2_with fail
  refine (HB.out _).mono ?_
  rintro e w1 ⟨rfl, rfl⟩
  go_wp2_with fail
  refine (HG.out _ (below_drewN (Below.refl _ _) q)).mono ?_
  rintro e w2 ⟨rfl, k2⟩
  go_wp2_with fail
  go_ret
  exact ⟨rfl, (below_drewN (Below.refl _ _) q).trans (k2.mono (by simp))⟩
/-- Are the first k bytes as they were? -/
def sameTo (X : C4) (st : Int) (n : Nat) (g : Nat → Nat) : Nat → Bool
  | 0 => true
  | k + 1 => sameTo X st n g k && (ovl X st n g k == X.at k)
theorem sameTo_four (X : C4) (st : Int) (n : Nat) (g : Nat → Nat) : sameTo X st n g 4 = (X.overlay st n g).beq X := by
  simp only [sameTo, Bool.true_and]
  rfl
/-- What is left, behind each block. -/
theorem blocks_good (a : Ab) (f n : Nat) (g : Nat → Nat) (m d r : Nat) (hD : 1 ≤ a.D) (h : avB a d r = true ∨ goneB a r = false) : avB (abBlocks a f n g m) d r = true ∨ goneB (abBlocks a f n g m) r = false := by
  induction m with
  | zero => exact h
  | succ m ih =>
    rcases ih with h1 | h1
    · exact .inl (block_av _ _ _ _ _ _ _ h1)
    · exact .inr (block_good _ _ _ _ _ _ h1)
/-- What a Write of the document leaves. -/
def RPost (yb : Nat) (a : Ab) (V : Nat → Value) (w : World) (f n : Nat) (g : Nat → Nat) (e : Ending) (w' : World) : Prop :=
  (e = .returned (.int .i64 0) ∧ (∀ m, m < blkEnd f n - f / 4 → brkHit (abBlocks a f n g m) (blockN (abBlocks a f n g m) (f / 4 + m) f n g) = none) ∧ ∃ V', RWent yb a V w (abWrite a f n g) V' (lft (abWrite a f n g)) false w') ∨
  (e = .returned (.int .i64 3) ∧ ∃ m j, m < blkEnd f n - f / 4 ∧ (∀ m', m' < m → brkHit (abBlocks a f n g m') (blockN (abBlocks a f n g m') (f / 4 + m') f n g) = none) ∧ brkHit (abBlocks a f n g m) (blockN (abBlocks a f n g m) (f / 4 + m) f n g) = some j ∧ ∃ V', RWent yb a V w (abDown (abBlocks a f n g m) (f / 4 + m) f n g j) V' (-1) true w')
end Go.Proofs.YtfpoiikhhjdpdaaGreat
