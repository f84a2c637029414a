/- hoardkeep: a move to the letter; two worlds side by side. -/
import Derived.Test.YtfpoiikhhjdpdabKLive
namespace Go.Proofs.Ytfpoiikhhjdpdab
open Go.RowKit
set_option linter.unusedVariables false
attribute [local go_sem ↓] Go.wp_at_zero Go.wp_at_succ
def mvX (a : Ab) (o : MvV) : Nat := pickN o.a (a.D * a.R * 4 + 1)
def mvD (a : Ab) (o : MvV) : ByteArray := o.s.extract 0 (cutN (a.D * a.R * 4) (mvX a o) o.s.size)
/-- What a write or a merge makes of a hoard; and of the bytes. -/
def mvAb (a : Ab) (o : MvV) : Ab := if o.k = 1 then abWrite a (mvX a o) (mvD a o).size (byteOfS (mvD a o)) else abMerge a (a.D + pickN o.a a.P) (1 + pickN o.b 10)
def mvF (a : Ab) (f : Nat → Nat) (o : MvV) : Nat → Nat := if o.k = 1 then layN f (mvX a o) (mvD a o).size (byteOfS (mvD a o)) else f
theorem alloc_le (w : World) (o : Obj) : w.heap.size ≤ (w.alloc o).heap.size := by simp
structure MovedTo (w0 w w' : World) (kb bb hb : Nat) (s : St) (f : Nat → Nat) (V : Nat → Value) (o : MvV) (s' : St) (bu' : Nat → Nat → Bool) : Prop where
  ab : s'.toAb = mvAb s.toAb o
  inv : KInv s' (mvF s.toAb f o) (fun _ => false) bu'
  built : ∀ d r, bu' d r = true
  steps : s'.steps ≤ s.steps + 200
  same : SameAb s s'
  keep : KeepAt w0 w' kb bb hb s' (mvF s.toAb f o) V (fun _ => false) bu'
  kept : Kept (KFoot kb bb hb s V) w w'
  foot : ∀ k, Foot hb s' k → Foot hb s k ∨ w.heap.size ≤ k
set_option maxRecDepth 100000 in
set_option maxHeartbeats 2000000 in
theorem move_to_write {w0 : World} (kb bb hb : Nat) (s : St) (f : Nat → Nat) (V : Nat → Value) (bu : Nat → Nat → Bool) (hbu : ∀ d r, bu d r = true) (a b : Int) (S : ByteArray) (w : World) (h : KeepAt w0 w kb bb hb s f V (fun _ => false) bu) (hi : KInv s f (fun _ => false) bu) (ha : -9223372036854775808 ≤ a ∧ a ≤ 9223372036854775807) (hS : S.size ≤ maxLen) (hst : s.steps ≤ 2305843009213693952 ∧ s.brk = none) :
    Calls Try.prog 10 #[.pointer (some ⟨kb, 0, none⟩), .agg #[.int .i64 1, .int .i64 a, .int .i64 b, .string S]] w fun e w' => e = .returned (.bool true) ∧ ∃ s' bu', MovedTo w0 w w' kb bb hb s f V ⟨1, a, b, S⟩ s' bu' := by
  have HK : Hid (KeepAt w0 w kb bb hb s f V (fun _ => false) bu) := h
  have HI : Hid (KInv s f (fun _ => false) bu) := hi
  have hlt := h.row.lt
  have HA : Hid (∀ o, KeepAt w0 (w.alloc o) kb bb hb s f V (fun _ => false) bu) := fun o => h.of_below ((Below.refl _ _).alloc (Nat.le_refl _) o)
  have hD := h.hoard.ok.D4
  have hP := h.hoard.ok.P2
  have hR := h.hoard.ok.R6
  obtain ⟨hs96, hs4⟩ := h.size
  clear h hi
  go_enter Try.func10, Try.ntmps10
  go_wp2_with fail
  refine (kwrite_foot kb bb hb s f V (fun _ => false) bu a S _ (HA.out _) ha hS hst HI.out.good _ _ _ rfl rfl rfl).mono ?_
  rintro e w1 ⟨rfl, s1, hab, hK1, hkp, hft⟩
  have hk2 : Kept (KFoot kb bb hb s V) w w1 := ((Kept.refl _ _).alloc _).trans' hkp (fun _ hi => .inl hi)
  have hft2 : ∀ k, Foot hb s1 k → Foot hb s k ∨ w.heap.size ≤ k := fun k hk => by
    rcases hft k hk with h1 | h1
    · exact .inl h1
    · right; exact Nat.le_trans (alloc_le _ _) h1
  have p1 := pickN_lt a (s.D * s.R * 4 + 1) (by omega)
  have hdn : pickN a (s.D * s.R * 4 + 1) + (S.extract 0 (cutN (s.D * s.R * 4) (pickN a (s.D * s.R * 4 + 1)) S.size)).size ≤ s.D * s.R * 4 := by
    have : (S.extract 0 (cutN (s.D * s.R * 4) (pickN a (s.D * s.R * 4 + 1)) S.size)).size ≤ s.D * s.R * 4 - pickN a (s.D * s.R * 4 + 1) := by rw [ByteArray.size_extract]; unfold cutN; omega
    omega
  have hI1 := HI.out.write (pickN a (s.D * s.R * 4 + 1)) _ (byteOfS (S.extract 0 (cutN (s.D * s.R * 4) (pickN a (s.D * s.R * 4 + 1)) S.size))) (fun i _ => byteOfS_lt _ i) hdn
  have hbi := blocks_inv s.toAb (pickN a (s.D * s.R * 4 + 1)) (S.extract 0 (cutN (s.D * s.R * 4) (pickN a (s.D * s.R * 4 + 1)) S.size)).size (byteOfS (S.extract 0 (cutN (s.D * s.R * 4) (pickN a (s.D * s.R * 4 + 1)) S.size))) (blkEnd (pickN a (s.D * s.R * 4 + 1)) (S.extract 0 (cutN (s.D * s.R * 4) (pickN a (s.D * s.R * 4 + 1)) S.size)).size - pickN a (s.D * s.R * 4 + 1) / 4)
  have hbi1 : SameAb s s1 := by rw [hab]; exact hbi.1
  have hst1 : s1.steps ≤ s.steps + 200 := by
    show s1.toAb.steps ≤ _
    rw [hab]
    generalize pickN a (s.D * s.R * 4 + 1) = x at *
    generalize S.extract 0 (cutN (s.D * s.R * 4) x S.size) = d at *
    have h2 : (blkEnd x d.size - x / 4) * (3 + s.P) ≤ 24 * 5 := Nat.mul_le_mul (by unfold blkEnd; split <;> omega) (by omega)
    have h3 := hbi.2
    show (abWrite s.toAb x d.size (byteOfS d)).steps ≤ _
    unfold abWrite
    have h4 : s.toAb.P = s.P := rfl
    omega
  have HF : Hid (∃ s' bu', MovedTo w0 w w1 kb bb hb s f V ⟨1, a, b, S⟩ s' bu') := ⟨s1, _, hab, by
    show KInv s1 _ _ _
    rw [hab]; exact hI1, fun d' r' => by unfold buL; rw [hbu]; rfl, hst1, hbi1, hK1, hk2, hft2⟩
  clear hI1 hbi hbi1 hst1 hK1 hab hk2 hft2 hkp hft hdn p1
  go_wp2_with fail
  go_ret
  exact ⟨rfl, HF.out⟩
set_option maxRecDepth 100000 in
set_option maxHeartbeats 2000000 in
theorem move_to_merge {w0 : World} (kb bb hb : Nat) (s : St) (f : Nat → Nat) (V : Nat → Value) (bu : Nat → Nat → Bool) (hbu : ∀ d r, bu d r = true) (a b : Int) (S : ByteArray) (w : World) (h : KeepAt w0 w kb bb hb s f V (fun _ => false) bu) (hi : KInv s f (fun _ => false) bu) (ha : -9223372036854775808 ≤ a ∧ a ≤ 9223372036854775807) (hbb : -9223372036854775808 ≤ b ∧ b ≤ 9223372036854775807) :
    Calls Try.prog 10 #[.pointer (some ⟨kb, 0, none⟩), .agg #[.int .i64 2, .int .i64 a, .int .i64 b, .string S]] w fun e w' => e = .returned (.bool true) ∧ ∃ s' bu', MovedTo w0 w w' kb bb hb s f V ⟨2, a, b, S⟩ s' bu' := by
  have HI : Hid (KInv s f (fun _ => false) bu) := hi
  have hlt := h.row.lt
  have HA : Hid (∀ o, KeepAt w0 (w.alloc o) kb bb hb s f V (fun _ => false) bu) := fun o => h.of_below ((Below.refl _ _).alloc (Nat.le_refl _) o)
  clear h hi
  go_enter Try.func10, Try.ntmps10
  go_wp2_with fail
  refine (kmerge_foot kb bb hb s f V (fun _ => false) bu a b _ (HA.out _) HI.out ha hbb).mono ?_
  rintro e w1 ⟨rfl, s1, hI1, hs1, hsh, hK1, hkp, hft, hab⟩
  have HF : Hid (∃ s' bu', MovedTo w0 w w1 kb bb hb s f V ⟨2, a, b, S⟩ s' bu') := ⟨s1, bu, hab rfl, hI1, hbu, by omega, hsh, hK1, ((Kept.refl _ _).alloc _).trans' hkp (fun _ hi => .inl hi), fun k hk => by
    rcases hft k hk with h1 | h1
    · exact .inl h1
    · right; exact Nat.le_trans (alloc_le _ _) h1⟩
  clear hI1 hs1 hsh hK1 hkp hft hab
  go_wp2_with fail
  go_ret
  exact ⟨rfl, HF.out⟩
theorem move_to {w0 : World} (kb bb hb : Nat) (s : St) (f : Nat → Nat) (V : Nat → Value) (bu : Nat → Nat → Bool) (hbu : ∀ d r, bu d r = true) (o : MvV) (w : World) (h : KeepAt w0 w kb bb hb s f V (fun _ => false) bu) (hi : KInv s f (fun _ => false) bu) (ho : o.ok) (hkind : o.k = 1 ∨ o.k = 2) (hst : s.steps ≤ 2305843009213693952 ∧ s.brk = none) :
    Calls Try.prog 10 #[.pointer (some ⟨kb, 0, none⟩), .agg #[.int .i64 o.k, .int .i64 o.a, .int .i64 o.b, .string o.s]] w fun e w' => e = .returned (.bool true) ∧ ∃ s' bu', MovedTo w0 w w' kb bb hb s f V o s' bu' := by
  obtain ⟨kk, a, b, S⟩ := o
  obtain ⟨hkk, ha, hb', hS⟩ := ho
  rcases hkind with e | e
  · have e : kk = 1 := e
    subst e
    exact move_to_write kb bb hb s f V bu hbu a b S w h hi (bounds_i64 ha) hS hst
  · have e : kk = 2 := e
    subst e
    exact move_to_merge kb bb hb s f V bu hbu a b S w h hi (bounds_i64 ha) (bounds_i64 hb')
/-- Two worlds side by side: none has a block of the other's. -/
structure Pair (w0 w : World) (kb bb hb : Nat) (V : Nat → Value) (s : St) (f : Nat → Nat) (bu : Nat → Nat → Bool) (kb' bb' hb' : Nat) (V' : Nat → Value) (s' : St) (f' : Nat → Nat) (bu' : Nat → Nat → Bool) : Prop where
  k1 : KeepAt w0 w kb bb hb s f V (fun _ => false) bu
  k2 : KeepAt w0 w kb' bb' hb' s' f' V' (fun _ => false) bu'
  apart : ∀ g, KFoot kb bb hb s V g → ¬ KFoot kb' bb' hb' s' V' g
theorem Pair.swap {w0 w : World} {kb bb hb : Nat} {V : Nat → Value} {s : St} {f : Nat → Nat} {bu : Nat → Nat → Bool} {kb' bb' hb' : Nat} {V' : Nat → Value} {s' : St} {f' : Nat → Nat} {bu' : Nat → Nat → Bool} (h : Pair w0 w kb bb hb V s f bu kb' bb' hb' V' s' f' bu') : Pair w0 w kb' bb' hb' V' s' f' bu' kb bb hb V s f bu :=
  ⟨h.k2, h.k1, fun g h2 h1 => h.apart g h1 h2⟩
theorem Pair.below {w0 w w2 : World} {kb bb hb : Nat} {V : Nat → Value} {s : St} {f : Nat → Nat} {bu : Nat → Nat → Bool} {kb' bb' hb' : Nat} {V' : Nat → Value} {s' : St} {f' : Nat → Nat} {bu' : Nat → Nat → Bool} (h : Pair w0 w kb bb hb V s f bu kb' bb' hb' V' s' f' bu') (k : Below w.heap.size w w2) : Pair w0 w2 kb bb hb V s f bu kb' bb' hb' V' s' f' bu' :=
  ⟨h.k1.of_below k, h.k2.of_below k, h.apart⟩
theorem KeepAt.lowK {w0 w : World} {kb bb hb : Nat} {s : St} {f : Nat → Nat} {V : Nat → Value} {lo : Nat → Bool} {bu : Nat → Nat → Bool} (h : KeepAt w0 w kb bb hb s f V lo bu) {g : Nat} (hg : KFoot kb bb hb s V g) : w0.heap.size ≤ g := by
  rcases hg with rfl | rfl | hg | ⟨i, hi, hg⟩
  · exact h.low.1
  · exact h.low.2.1
  · exact h.low.2.2.1 g hg
  · exact h.low.2.2.2 i g hi hg
theorem Pair.first {w0 w w2 : World} {kb bb hb : Nat} {V : Nat → Value} {s s2 : St} {f f2 : Nat → Nat} {bu bu2 : Nat → Nat → Bool} {kb' bb' hb' : Nat} {V' : Nat → Value} {s' : St} {f' : Nat → Nat} {bu' : Nat → Nat → Bool} (h : Pair w0 w kb bb hb V s f bu kb' bb' hb' V' s' f' bu')
    (k : KeepAt w0 w2 kb bb hb s2 f2 V (fun _ => false) bu2) (hk : Kept (KFoot kb bb hb s V) w w2) (hf : ∀ g, Foot hb s2 g → Foot hb s g ∨ w.heap.size ≤ g) (hs : SameAb s s2) : Pair w0 w2 kb bb hb V s2 f2 bu2 kb' bb' hb' V' s' f' bu' := by
  refine ⟨k, h.k2.of_kept hk (fun g h2 h1 => h.apart g h1 h2) (fun g hg => h.k1.lowK hg), fun g h1 h2 => ?_⟩
  have hlt := h.k2.lt h2
  have h3 : KFoot kb bb hb s V g := by
    rcases h1 with h1 | h1 | h1 | ⟨i, hi, h1⟩
    · exact .inl h1
    · exact .inr (.inl h1)
    · rcases hf g h1 with h4 | h4
      · exact .inr (.inr (.inl h4))
      · omega
    · exact .inr (.inr (.inr ⟨i, by rw [← show s2.D = s.D from hs.D, ← show s2.P = s.P from hs.P]; exact hi, h1⟩))
  exact h.apart g h3 h2
/-- A world that was begun later, over an older base. -/
theorem KeepAt.base {w0 w1 w : World} {kb bb hb : Nat} {s : St} {f : Nat → Nat} {V : Nat → Value} {lo : Nat → Bool} {bu : Nat → Nat → Bool} (h : KeepAt w1 w kb bb hb s f V lo bu) (hb1 : Below w0.heap.size w0 w1) : KeepAt w0 w kb bb hb s f V lo bu :=
  ⟨h.fam, h.row, h.bytes, h.bound, h.hoard, h.ne, ⟨Nat.le_trans hb1.size h.low.1, Nat.le_trans hb1.size h.low.2.1, fun g hg => Nat.le_trans hb1.size (h.low.2.2.1 g hg), fun i g hi hg => Nat.le_trans hb1.size (h.low.2.2.2 i g hi hg)⟩, hb1.trans (h.below.mono hb1.size)⟩
theorem Pair.begun {w0 w1 w : World} {kb bb hb : Nat} {V : Nat → Value} {s : St} {f : Nat → Nat} {bu : Nat → Nat → Bool} {kb' bb' hb' : Nat} {V' : Nat → Value} {s' : St} {f' : Nat → Nat} {bu' : Nat → Nat → Bool} (h1 : KeepAt w0 w1 kb bb hb s f V (fun _ => false) bu) (h2 : KeepAt w1 w kb' bb' hb' s' f' V' (fun _ => false) bu') : Pair w0 w kb bb hb V s f bu kb' bb' hb' V' s' f' bu' :=
  ⟨h1.of_below h2.below, h2.base h1.below, fun g g1 g2 => by have := h1.lt g1; have := h2.lowK g2; omega⟩
/-- Two worlds that were treated alike. -/
structure Twins (w0 w : World) (kb bb hb : Nat) (V : Nat → Value) (kb' bb' hb' : Nat) (V' : Nat → Value) (D P R M k : Nat) : Prop where
  ex : ∃ (s s' : St) (f : Nat → Nat) (bu bu' : Nat → Nat → Bool), Pair w0 w kb bb hb V s f bu kb' bb' hb' V' s' f bu' ∧ s'.toAb = s.toAb ∧ KInv s f (fun _ => false) bu ∧ KInv s' f (fun _ => false) bu' ∧ (∀ d r, bu d r = true) ∧ (∀ d r, bu' d r = true) ∧ s.steps ≤ k * 200 ∧ s.brk = none ∧ s.D = D ∧ s.P = P ∧ s.R = R ∧ s.M = M
/-- The first of them has gone ahead by a move. -/
structure Half (w0 w : World) (kb bb hb : Nat) (V : Nat → Value) (kb' bb' hb' : Nat) (V' : Nat → Value) (D P R M k : Nat) (o : MvV) : Prop where
  ex : ∃ (s s2 s' : St) (f : Nat → Nat) (bu bu' : Nat → Nat → Bool), Pair w0 w kb bb hb V s2 (mvF s.toAb f o) bu kb' bb' hb' V' s' f bu' ∧ s2.toAb = mvAb s.toAb o ∧ s'.toAb = s.toAb ∧ KInv s2 (mvF s.toAb f o) (fun _ => false) bu ∧ KInv s' f (fun _ => false) bu' ∧ (∀ d r, bu d r = true) ∧ (∀ d r, bu' d r = true) ∧ s.steps ≤ k * 200 ∧ s2.steps ≤ (k + 1) * 200 ∧ s.brk = none ∧ s2.brk = none ∧ s2.D = D ∧ s2.P = P ∧ s2.R = R ∧ s2.M = M
theorem Twins.below {w0 w w2 : World} {kb bb hb : Nat} {V : Nat → Value} {kb' bb' hb' : Nat} {V' : Nat → Value} {D P R M k : Nat} (h : Twins w0 w kb bb hb V kb' bb' hb' V' D P R M k) (hb2 : Below w.heap.size w w2) : Twins w0 w2 kb bb hb V kb' bb' hb' V' D P R M k := by
  obtain ⟨s, s', f, bu, bu', h1, h2⟩ := h.ex
  exact ⟨s, s', f, bu, bu', h1.below hb2, h2⟩
theorem Half.below {w0 w w2 : World} {kb bb hb : Nat} {V : Nat → Value} {kb' bb' hb' : Nat} {V' : Nat → Value} {D P R M k : Nat} {o : MvV} (h : Half w0 w kb bb hb V kb' bb' hb' V' D P R M k o) (hb2 : Below w.heap.size w w2) : Half w0 w2 kb bb hb V kb' bb' hb' V' D P R M k o := by
  obtain ⟨s, s2, s', f, bu, bu', h1, h2⟩ := h.ex
  exact ⟨s, s2, s', f, bu, bu', h1.below hb2, h2⟩
theorem Twins.mono {w0 w : World} {kb bb hb : Nat} {V : Nat → Value} {kb' bb' hb' : Nat} {V' : Nat → Value} {D P R M k k2 : Nat} (h : Twins w0 w kb bb hb V kb' bb' hb' V' D P R M k) (hk : k ≤ k2) : Twins w0 w kb bb hb V kb' bb' hb' V' D P R M k2 := by
  obtain ⟨s, s', f, bu, bu', h1, h2, h3, h4, h5, h6, h7, h8⟩ := h.ex
  exact ⟨s, s', f, bu, bu', h1, h2, h3, h4, h5, h6, Nat.le_trans h7 (Nat.mul_le_mul_right _ hk), h8⟩
theorem Twins.base {w0 w : World} {kb bb hb : Nat} {V : Nat → Value} {kb' bb' hb' : Nat} {V' : Nat → Value} {D P R M k : Nat} (h : Twins w0 w kb bb hb V kb' bb' hb' V' D P R M k) : Below w0.heap.size w0 w := by
  obtain ⟨s, s', f, bu, bu', h1, _⟩ := h.ex
  exact h1.k1.below
theorem Half.base {w0 w : World} {kb bb hb : Nat} {V : Nat → Value} {kb' bb' hb' : Nat} {V' : Nat → Value} {D P R M k : Nat} {o : MvV} (h : Half w0 w kb bb hb V kb' bb' hb' V' D P R M k o) : Below w0.heap.size w0 w := by
  obtain ⟨s, s2, s', f, bu, bu', h1, _⟩ := h.ex
  exact h1.k1.below
theorem twins_move1 {w0 : World} (kb bb hb : Nat) (V : Nat → Value) (kb' bb' hb' : Nat) (V' : Nat → Value) (D P R M k : Nat) (o : MvV) (w : World) (h : Twins w0 w kb bb hb V kb' bb' hb' V' D P R M k) (ho : o.ok) (hk : k ≤ 10000000000000) (hkind : o.k = 1 ∨ o.k = 2) :
    Calls Try.prog 10 #[.pointer (some ⟨kb, 0, none⟩), .agg #[.int .i64 o.k, .int .i64 o.a, .int .i64 o.b, .string o.s]] w fun e w' => e = .returned (.bool true) ∧ Half w0 w' kb bb hb V kb' bb' hb' V' D P R M k o := by
  obtain ⟨s, s', f, bu, bu', h1, h2, h3, h4, h5, h6, h7, h8, rfl, rfl, rfl, rfl⟩ := h.ex
  refine (move_to kb bb hb s f V bu h5 o w h1.k1 h3 ho hkind ⟨by omega, h8⟩).mono ?_
  rintro e w' ⟨he, s2, bu2, hm⟩
  exact ⟨he, ⟨s, s2, s', f, bu2, bu', h1.first hm.keep hm.kept hm.foot hm.same, hm.ab, h2, hm.inv, h4, hm.built, h6, h7, by have := hm.steps; omega, h8, hm.same.brk.trans h8, hm.same.D, hm.same.P, hm.same.R, hm.same.M⟩⟩
theorem twins_move2 {w0 : World} (kb bb hb : Nat) (V : Nat → Value) (kb' bb' hb' : Nat) (V' : Nat → Value) (D P R M k : Nat) (o : MvV) (w : World) (h : Half w0 w kb bb hb V kb' bb' hb' V' D P R M k o) (ho : o.ok) (hk : k ≤ 10000000000000) (hkind : o.k = 1 ∨ o.k = 2) :
    Calls Try.prog 10 #[.pointer (some ⟨kb', 0, none⟩), .agg #[.int .i64 o.k, .int .i64 o.a, .int .i64 o.b, .string o.s]] w fun e w' => e = .returned (.bool true) ∧ Twins w0 w' kb bb hb V kb' bb' hb' V' D P R M (k + 1) := by
  obtain ⟨s, s2, s', f, bu, bu', h1, h2, h3, h4, h5, h6, h7, h8, h9, h10, h11, h12⟩ := h.ex
  have hs1 : s'.steps = s.steps := congrArg Ab.steps h3
  have hb1 : s'.brk = s.brk := congrArg Ab.brk h3
  refine (move_to kb' bb' hb' s' f V' bu' h7 o w h1.k2 h5 ho hkind ⟨by omega, hb1.trans h10⟩).mono ?_
  rintro e w' ⟨he, s3, bu3, hm⟩
  have hp := (h1.swap.first hm.keep hm.kept hm.foot hm.same).swap
  have hinv := hm.inv
  rw [h3] at hp hinv
  exact ⟨he, ⟨s2, s3, mvF s.toAb f o, bu, bu3, hp, by rw [hm.ab, h2, h3], h4, hinv, h6, hm.built, h9, h11, h12⟩⟩
/-- The beginning of a world, to the letter. -/
theorem begin_new (D P R M : Nat) (W : World) (h : shapeB D P R M = true) :
    Calls Try.prog 8 #[.agg #[.int .i64 D, .int .i64 P, .int .i64 R, .int .i64 M]] W fun e w' => ∃ kb, e = .returned (.tuple #[.pointer (some ⟨kb, 0, none⟩), .bool true]) ∧ ∃ bb hb V, KeepAt W w' kb bb hb (newSt D P R M) (fun _ => 0) V (fun _ => false) (fun _ _ => true) := by
  refine (begin_any D P R M W h).mono ?_
  rintro e w2 ⟨kb, rfl, bb, hb, V, X, hbeg⟩
  have hK := KeepAt.of_beg (s := newSt D P R M) hbeg (fun g hg => by
    rcases hg with h1 | ⟨d', _, hd'⟩
    · exact h1
    · simp [newSt, Value.ownBlock] at hd')
  exact ⟨kb, rfl, bb, hb, V, hK⟩
theorem Twins.start {w0 w1 w : World} {kb bb hb : Nat} {V : Nat → Value} {kb' bb' hb' : Nat} {V' : Nat → Value} {D P R M : Nat} (hs : shapeB D P R M = true) (h1 : KeepAt w0 w1 kb bb hb (newSt D P R M) (fun _ => 0) V (fun _ => false) (fun _ _ => true)) (h2 : KeepAt w1 w kb' bb' hb' (newSt D P R M) (fun _ => 0) V' (fun _ => false) (fun _ _ => true)) : Twins w0 w kb bb hb V kb' bb' hb' V' D P R M 0 :=
  ⟨newSt D P R M, newSt D P R M, _, _, _, Pair.begun h1 h2, rfl, KInv.new D P R M hs, KInv.new D P R M hs, fun _ _ => rfl, fun _ _ => rfl, Nat.zero_le _, rfl, rfl, rfl, rfl, rfl⟩
end Go.Proofs.Ytfpoiikhhjdpdab
