/- hoardkeep: writes and merges, where no drive was lost. -/
import Derived.Test.YtfpoiikhhjdpdabKStart
namespace Go.Proofs.Ytfpoiikhhjdpdab
open Go.RowKit
set_option linter.unusedVariables false
attribute [local go_sem ↓] Go.wp_at_zero Go.wp_at_succ
/-- What a write or a merge leaves where all drives are live and all cells built. -/
def MovedLive (w0 w w' : World) (kb bb hb : Nat) (s : St) (V : Nat → Value) : Prop :=
  ∃ (s' : St) (f' : Nat → Nat) (bu' : Nat → Nat → Bool), KInv s' f' (fun _ => false) bu' ∧ (∀ d r, bu' d r = true) ∧ s'.steps ≤ s.steps + 200 ∧ SameAb s s' ∧ KeepAt w0 w' kb bb hb s' f' V (fun _ => false) bu'
set_option maxRecDepth 100000 in
set_option maxHeartbeats 2000000 in
theorem move_write_live {w0 : World} (kb bb hb : Nat) (s : St) (f : Nat → Nat) (V : Nat → Value) (bu : Nat → Nat → Bool) (hbu : ∀ d r, bu d r = true) (a b : Int) (S : ByteArray) (w : World) (h : KeepAt w0 w kb bb hb s f V (fun _ => false) bu) (hi : KInv s f (fun _ => false) bu) (ha : -9223372036854775808 ≤ a ∧ a ≤ 9223372036854775807) (hbb : -9223372036854775808 ≤ b ∧ b ≤ 9223372036854775807) (hS : S.size ≤ maxLen) (hst : s.steps ≤ 2305843009213693952 ∧ s.brk = none) :
    Calls Try.prog 10 #[.pointer (some ⟨kb, 0, none⟩), .agg #[.int .i64 1, .int .i64 a, .int .i64 b, .string S]] w fun e w' => e = .returned (.bool true) ∧ MovedLive w0 w w' kb bb hb s V := by
  have HK : Hid (KeepAt w0 w kb bb hb s f V (fun _ => false) bu) := h
  have HI : Hid (KInv s f (fun _ => false) bu) := hi
  have hlt := h.row.lt
  have HA : Hid (∀ o, KeepAt w0 (w.alloc o) kb bb hb s f V (fun _ => false) bu) := fun o => h.of_below ((Below.refl _ _).alloc (Nat.le_refl _) o)
  have hD := h.hoard.ok.D4
  have hP := h.hoard.ok.P2
  have hR := h.hoard.ok.R6
  obtain ⟨hs96, hs4⟩ := h.size
  clear h hi
  go_enter Try.func10, Try.ntmps10
  go_wp2_with fail
  refine (kwrite_any kb bb hb s f V (fun _ => false) bu a S _ (HA.out _) ha hS hst HI.out.good _ _ _ rfl rfl rfl).mono ?_
  rintro e w1 ⟨rfl, s1, hab, hK1, _⟩
  have p1 := pickN_lt a (s.D * s.R * 4 + 1) (by omega)
  generalize hx : pickN a (s.D * s.R * 4 + 1) = x at *
  generalize hd : S.extract 0 (cutN (s.D * s.R * 4) x S.size) = d at *
  have hdn : x + d.size ≤ s.D * s.R * 4 := by
    have : d.size ≤ s.D * s.R * 4 - x := by rw [← hd, ByteArray.size_extract]; unfold cutN; omega
    omega
  have hI1 : KInv s1 (layN f x d.size (byteOfS d)) (fun _ => false) (buL s.D bu (chL f x d.size (byteOfS d) ((x + d.size + 3) / 4 - x / 4))) := by
    rw [hab]; exact HI.out.write x d.size (byteOfS d) (fun i _ => byteOfS_lt d i) hdn
  have hbi := blocks_inv s.toAb x d.size (byteOfS d) (blkEnd x d.size - x / 4)
  have hbi1 : SameAb s s1 := by rw [hab]; exact hbi.1
  have hst1 : s1.steps ≤ s.steps + 200 := by
    show s1.toAb.steps ≤ _
    rw [hab]
    have h2 : (blkEnd x d.size - x / 4) * (3 + s.P) ≤ 24 * 5 := Nat.mul_le_mul (by unfold blkEnd; split <;> omega) (by omega)
    have h3 := hbi.2
    show (abWrite s.toAb x d.size (byteOfS d)).steps ≤ _
    unfold abWrite
    have h4 : s.toAb.P = s.P := rfl
    omega
  have HF : Hid (MovedLive w0 w w1 kb bb hb s V) := ⟨s1, _, _, hI1, fun d' r' => by unfold buL; rw [hbu]; rfl, hst1, hbi1, hK1⟩
  clear hI1 hbi hbi1 hst1 hK1 hab
  go_wp2_with fail
  go_ret
  exact ⟨rfl, HF.out⟩
set_option maxRecDepth 100000 in
set_option maxHeartbeats 2000000 in
theorem move_merge_live {w0 : World} (kb bb hb : Nat) (s : St) (f : Nat → Nat) (V : Nat → Value) (bu : Nat → Nat → Bool) (hbu : ∀ d r, bu d r = true) (a b : Int) (S : ByteArray) (w : World) (h : KeepAt w0 w kb bb hb s f V (fun _ => false) bu) (hi : KInv s f (fun _ => false) bu) (ha : -9223372036854775808 ≤ a ∧ a ≤ 9223372036854775807) (hbb : -9223372036854775808 ≤ b ∧ b ≤ 9223372036854775807) (hS : S.size ≤ maxLen) (hst : s.steps ≤ 2305843009213693952 ∧ s.brk = none) :
    Calls Try.prog 10 #[.pointer (some ⟨kb, 0, none⟩), .agg #[.int .i64 2, .int .i64 a, .int .i64 b, .string S]] w fun e w' => e = .returned (.bool true) ∧ MovedLive w0 w w' kb bb hb s V := by
  have HK : Hid (KeepAt w0 w kb bb hb s f V (fun _ => false) bu) := h
  have HI : Hid (KInv s f (fun _ => false) bu) := hi
  have hlt := h.row.lt
  have HA : Hid (∀ o, KeepAt w0 (w.alloc o) kb bb hb s f V (fun _ => false) bu) := fun o => h.of_below ((Below.refl _ _).alloc (Nat.le_refl _) o)
  clear h hi
  go_enter Try.func10, Try.ntmps10
  go_wp2_with fail
  refine (kmerge_any kb bb hb s f V (fun _ => false) bu a b _ (HA.out _) HI.out ha hbb).mono ?_
  rintro e w1 ⟨rfl, s1, hI1, hs1, hsh, hK1, _⟩
  have HF : Hid (MovedLive w0 w w1 kb bb hb s V) := ⟨s1, f, bu, hI1, hbu, by omega, hsh, hK1⟩
  clear hI1 hs1 hsh hK1
  go_wp2_with fail
  go_ret
  exact ⟨rfl, HF.out⟩
/-- What stands of a world whose drives are all live. -/
structure Lives (w0 w : World) (kb bb hb : Nat) (V : Nat → Value) (D P R M k : Nat) : Prop where
  ex : ∃ (s : St) (f : Nat → Nat) (bu : Nat → Nat → Bool), KInv s f (fun _ => false) bu ∧ (∀ d r, bu d r = true) ∧ s.steps ≤ k * 200 ∧ s.D = D ∧ s.P = P ∧ s.R = R ∧ (s.M = M ∧ s.brk = none) ∧ KeepAt w0 w kb bb hb s f V (fun _ => false) bu
theorem Lives.of_below {w0 w w' : World} {kb bb hb : Nat} {V : Nat → Value} {D P R M k : Nat} (h : Lives w0 w kb bb hb V D P R M k) (hbw : Below w.heap.size w w') : Lives w0 w' kb bb hb V D P R M k := by
  obtain ⟨s, f, bu, h1, h0, h2, h3, h4, h5, h6, h7⟩ := h.ex
  exact ⟨s, f, bu, h1, h0, h2, h3, h4, h5, h6, h7.of_below hbw⟩
theorem Lives.below {w0 w : World} {kb bb hb : Nat} {V : Nat → Value} {D P R M k : Nat} (h : Lives w0 w kb bb hb V D P R M k) : Below w0.heap.size w0 w := by
  obtain ⟨s, f, bu, h1, h0, h2, h3, h4, h5, h6, h7⟩ := h.ex
  exact h7.below
theorem Lives.mono {w0 w : World} {kb bb hb : Nat} {V : Nat → Value} {D P R M k k' : Nat} (h : Lives w0 w kb bb hb V D P R M k) (hk : k ≤ k') : Lives w0 w kb bb hb V D P R M k' := by
  obtain ⟨s, f, bu, h1, h0, h2, h3, h4, h5, h6, h7⟩ := h.ex
  exact ⟨s, f, bu, h1, h0, Nat.le_trans h2 (Nat.mul_le_mul_right _ hk), h3, h4, h5, h6, h7⟩
theorem move_lives {w0 : World} (kb bb hb : Nat) (V : Nat → Value) (D P R M k : Nat) (o : MvV) (w : World) (h : Lives w0 w kb bb hb V D P R M k) (ho : o.ok) (hk : k ≤ 10000000000000) (hkind : o.k = 1 ∨ o.k = 2) :
    Calls Try.prog 10 #[.pointer (some ⟨kb, 0, none⟩), .agg #[.int .i64 o.k, .int .i64 o.a, .int .i64 o.b, .string o.s]] w fun e w' => e = .returned (.bool true) ∧ Lives w0 w' kb bb hb V D P R M (k + 1) := by
  obtain ⟨s, f, bu, h1, h0, h2, h3, h4, h5, h6, h7⟩ := h.ex
  obtain ⟨kk, a, b, S⟩ := o
  obtain ⟨hkk, ha, hb', hS⟩ := ho
  have hA : -9223372036854775808 ≤ a ∧ a ≤ 9223372036854775807 := bounds_i64 ha
  have hB : -9223372036854775808 ≤ b ∧ b ≤ 9223372036854775807 := bounds_i64 hb'
  have fin : ∀ w', MovedLive w0 w w' kb bb hb s V → Lives w0 w' kb bb hb V D P R M (k + 1) := fun w' ⟨s', f', bu', g1, g0, g2, g3, g4⟩ =>
    ⟨s', f', bu', g1, g0, by rw [Nat.add_mul]; omega, g3.D.trans h3, g3.P.trans h4, g3.R.trans h5, ⟨g3.M.trans h6.1, g3.brk.trans h6.2⟩, g4⟩
  rcases hkind with e | e
  · have e : kk = 1 := e
    subst e
    exact (move_write_live kb bb hb s f V bu h0 a b S w h7 h1 hA hB hS ⟨by omega, h6.2⟩).mono fun e w' ⟨he, hm⟩ => ⟨he, fin w' hm⟩
  · have e : kk = 2 := e
    subst e
    exact (move_merge_live kb bb hb s f V bu h0 a b S w h7 h1 hA hB hS ⟨by omega, h6.2⟩).mono fun e w' ⟨he, hm⟩ => ⟨he, fin w' hm⟩
theorem begin_lives (D P R M : Nat) (W : World) (h : shapeB D P R M = true) :
    Calls Try.prog 8 #[.agg #[.int .i64 D, .int .i64 P, .int .i64 R, .int .i64 M]] W fun e w' => ∃ kb, e = .returned (.tuple #[.pointer (some ⟨kb, 0, none⟩), .bool true]) ∧ ∃ bb hb V, Lives W w' kb bb hb V D P R M 0 := by
  refine (begin_any D P R M W h).mono ?_
  rintro e w2 ⟨kb, rfl, bb, hb, V, X, hbeg⟩
  have hK := KeepAt.of_beg (s := newSt D P R M) hbeg (fun g hg => by
    rcases hg with h1 | ⟨d', _, hd'⟩
    · exact h1
    · simp [newSt, Value.ownBlock] at hd')
  exact ⟨kb, rfl, bb, hb, V, ⟨newSt D P R M, _, _, KInv.new D P R M h, fun _ _ => rfl, Nat.zero_le _, rfl, rfl, rfl, ⟨rfl, rfl⟩, hK⟩⟩
end Go.Proofs.Ytfpoiikhhjdpdab
