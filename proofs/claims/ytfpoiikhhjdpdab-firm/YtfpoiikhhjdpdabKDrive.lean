/- hoardkeep: a drive is lost, replaced, rebuilt. -/
import Derived.Test.YtfpoiikhhjdpdabKMoves
import Derived.Test.YtfpoiikhhjdpdabKMerge
import Derived.Test.YtfpoiikhhjdpdabKRebuild
namespace Go.Proofs.Ytfpoiikhhjdpdab
open Go.RowKit
set_option linter.unusedVariables false
attribute [local go_sem ↓] Go.wp_at_zero Go.wp_at_succ
structure MvV where
  k : Int
  a : Int
  b : Int
  s : ByteArray
def MvV.ok (o : MvV) : Prop := (Lit.int .i64 o.k).wf = true ∧ (Lit.int .i64 o.a).wf = true ∧ (Lit.int .i64 o.b).wf = true ∧ o.s.size ≤ maxLen
def MvV.val (o : MvV) : Value := .agg #[.int .i64 o.k, .int .i64 o.a, .int .i64 o.b, .string o.s]
/-- What a move leaves. -/
def Moved (w0 w w' : World) (kb bb hb : Nat) (s : St) (f : Nat → Nat) (V : Nat → Value) : Prop :=
  ∃ (s' : St) (f' : Nat → Nat) (lo' : Nat → Bool) (bu' : Nat → Nat → Bool), KInv s' f' lo' bu' ∧ s'.steps ≤ s.steps + 200 ∧ SameAb s s' ∧ KeepAt w0 w' kb bb hb s' f' V lo' bu'
set_option maxRecDepth 100000 in
set_option maxHeartbeats 4000000 in
theorem kdrive_fail {w0 : World} (kb bb hb : Nat) (s : St) (f : Nat → Nat) (V : Nat → Value) (lo : Nat → Bool) (bu : Nat → Nat → Bool) (a b : Int) (S : ByteArray) (w : World) (h : KeepAt w0 w kb bb hb s f V lo bu) (hi : KInv s f lo bu) (ha : -9223372036854775808 ≤ a ∧ a ≤ 9223372036854775807) :
    Calls Try.prog 39 #[.pointer (some ⟨kb, 0, none⟩), .agg #[.int .i64 3, .int .i64 a, .int .i64 b, .string S]] w fun e w' => e = .returned (.bool true) ∧ Moved w0 w w' kb bb hb s f V := by
  have hD := h.hoard.ok.D4
  have hD1 := h.hoard.ok.D1
  have hP := h.hoard.ok.P2
  have p1 := pickN_lt a (s.D + s.P) (by omega)
  have A : Hid (∀ W, Calls Try.prog 11 #[.int .i64 a, .int .i64 ((s.D + s.P : Nat) : Int)] W fun e w' => e = .returned (.int .i64 (pickN a (s.D + s.P) : Nat)) ∧ w' = W) := fun W => kpick_any a _ W (by omega) (by omega) ha
  have HK : Hid (KeepAt w0 w kb bb hb s f V lo bu) := h
  have HI : Hid (KInv s f lo bu) := hi
  obtain ⟨c0, c1, c2, c3, c4, c5, c6, c7⟩ := h.cells
  have hlt := h.row.lt
  generalize pickN a (s.D + s.P) = d at *
  obtain ⟨g0, q0, e0, l0, f0, hg0⟩ := h.lostAt d p1
  rw [e0] at c6
  have E0 : Hid (V 0 = .slice (some ⟨g0, 0, none⟩) (s.D + s.P) q0) := e0
  have hlo : s.lost d = lo d := hi.lost d p1
  have HSP : Hid (∀ W, KeepAt w0 W kb bb hb s f V lo bu → Calls Try.prog 62 #[.pointer (some ⟨kb, 0, none⟩), .int .i64 d] W fun e w' => e = .returned (.bool (spB s.D s.P lo bu d s.R)) ∧ Below W.heap.size W w') := fun W hW => spares_any kb bb hb s f V lo bu d W hW
  have hdi : (d : Int) < ((s.D + s.P : Nat) : Int) := by omega
  have HPD : Hid (d < s.D + s.P) := p1
  clear h hi e0 ha p1
  generalize hDP : s.D + s.P = DP at *
  have HDP : Hid (s.D + s.P = DP) := hDP
  have HPQ : Hid (d < s.D + s.P) := (show _ < _ by rw [hDP]; exact HPD.out)
  clear hDP
  go_enter Try.func39, Try.ntmps39
  go_wp2_with fail
  go_region_with ((go_at_call 11; go_must (refine (A.out _).mono ?_); rintro e W ⟨rfl, rfl⟩))
  all_goals
    have K1 : Below w.heap.size w (w.alloc (.cells #[.int .i64 3, .int .i64 a, .int .i64 b, .string S] 30)).drew := ((Below.refl _ _).alloc (Nat.le_refl _) _).drew
    have b0 : (w.alloc (.cells #[.int .i64 3, .int .i64 a, .int .i64 b, .string S] 30)).drew.cell? ⟨w.heap.size, 0, none⟩ = some (.int .i64 3) := by simp [go_sem]
    have hsz : w.heap.size < (w.alloc (.cells #[.int .i64 3, .int .i64 a, .int .i64 b, .string S] 30)).drew.heap.size := by simp
    generalize (w.alloc (.cells #[.int .i64 3, .int .i64 a, .int .i64 b, .string S] 30)).drew = w1 at *
    have hK1 := HK.out.of_below K1
    go_wp2_with fail
    refine (HSP.out _ hK1).mono ?_
    rintro e w2 ⟨rfl, k2⟩
    have K2 : Below w.heap.size w w2 := K1.trans (k2.mono K1.size)
    have hK2 := HK.out.of_below K2
    obtain ⟨d0, _, _, _, _, _, d6, _⟩ := hK2.cells
    obtain ⟨g1, q1, e1, l1, f1, hg1⟩ := hK2.lostAt d HPQ.out
    rw [e1, HDP.out] at d6
    have hltk := hK2.row.lt
    have HK2 : Hid (KeepAt w0 w2 kb bb hb s f V lo bu) := hK2
    have E1 : Hid (V 0 = .slice (some ⟨g1, 0, none⟩) (s.D + s.P) q1) := e1
    have HMV : Hid (Moved w0 w w2 kb bb hb s f V) := ⟨s, f, lo, bu, HI.out, by omega, SameAb.refl _, hK2⟩
    clear hK1 hK2 e1 k2 c0 c1 c2 c3 c4 c5 c6 c7 l0 b0 K1
    cases hl : lo d
    · rw [hl] at l1 hlo
      cases hsp : spB s.D s.P lo bu d s.R
      · go_wp2_with fail
        go_ret
        exact ⟨rfl, HMV.out⟩
      · have HFA : Hid (∀ W, HoardAt W hb s → Calls Try.prog 12 #[.pointer (some ⟨hb, 0, none⟩), .int .i64 d] W fun e w' => e = .returned (.int .i64 0) ∧ Went hb s W (s.newDrive d true 0) w') := fun W hW => Fail_ok hb s d W hW HPQ.out hlo
        have HIN : Hid (KInv (s.newDrive d true 0) f (setLo lo d true) bu) := HI.out.fail d HPQ.out hsp
        go_wp2_with fail
        refine (HFA.out _ HK2.out.hoard).mono ?_
        rintro e w3 ⟨rfl, hwent⟩
        have hK3 := HK2.out.went hwent rfl rfl rfl rfl
        obtain ⟨g2, q2, e2, l2, f2, hg2⟩ := hK3.lostAt d HPQ.out
        obtain ⟨_, _, _, _, _, _, x6, _⟩ := hK3.cells
        rw [e2] at x6
        have x6' : w3.cell? ⟨kb, 6, none⟩ = some (.slice (some ⟨g2, 0, none⟩) DP q2) := by rw [x6, ← HDP.out]; rfl
        have hltk3 := hK3.row.lt
        have HF : Hid (Moved w0 w (w3.setCell ⟨g2, d, none⟩ (.bool true)) kb bb hb s f V) := ⟨_, f, setLo lo d true, bu, HIN.out, by show s.steps ≤ _; omega, ⟨rfl, rfl, rfl, rfl, rfl⟩, hK3.setLost d HPQ.out true g2 q2 e2⟩
        clear hK3 hwent e2 x6 d0 d6 l1 f1
        go_wp2_with fail
        go_ret
        exact ⟨rfl, HF.out⟩
    · rw [hl] at l1
      go_wp2_with fail
      go_ret
      exact ⟨rfl, HMV.out⟩
end Go.Proofs.Ytfpoiikhhjdpdab
