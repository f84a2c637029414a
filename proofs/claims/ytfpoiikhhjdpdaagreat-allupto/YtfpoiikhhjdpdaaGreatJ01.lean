import Derived.Test.YtfpoiikhhjdpdaaGreatProg
import Derived.WalkKit
import Derived.WalkSpells
import Derived.Deep.QuietTactic
import Derived.BigQuiet
import Derived.Test.YtfpoiikhhjdpdaaGreatRows
import Derived.ProofKit
import Derived.OpenShut
import Derived.Deep.Slices
import Derived.WalkSmall
import Derived.Deep.OwnRows
import Derived.Deep.RegionHeld3
import Derived.Deep.DrawnRows
import Derived.Maps.AppendAt
import Derived.Deep.AppendLies
/- hoardlaw.plays: whatever the kinds: a script is played to its end where each step and each look keep an invariant. -/
namespace Go.Proofs.YtfpoiikhhjdpdaaGreat
open Go.RowKit
structure OpV where
  k : Int
  a : Int
  b : Int
  c : Int
  d : Int
  e : Int
  s : ByteArray
def OpV.val (o : OpV) : Value := .agg #[.int .i64 o.k, .int .i64 o.a, .int .i64 o.b, .int .i64 o.c, .int .i64 o.d, .int .i64 o.e, .string o.s]
def OpAt (w : World) (b o : Nat) (x : OpV) : Prop :=
  w.cell? ⟨b, o, none⟩ = some (.int .i64 x.k) ∧ w.cell? ⟨b, o + 1, none⟩ = some (.int .i64 x.a) ∧ w.cell? ⟨b, o + 2, none⟩ = some (.int .i64 x.b) ∧ w.cell? ⟨b, o + 3, none⟩ = some (.int .i64 x.c) ∧ w.cell? ⟨b, o + 4, none⟩ = some (.int .i64 x.d) ∧ w.cell? ⟨b, o + 5, none⟩ = some (.int .i64 x.e) ∧ w.cell? ⟨b, o + 6, none⟩ = some (.string x.s)
def ScriptAt (w : World) (a0 : Option Addr) (n : Nat) (ops : Nat → OpV) : Prop := ∀ i, i < n → ∃ b o, a0 = some ⟨b, o, none⟩ ∧ OpAt w b (o + i * 7) (ops i)
def KindsAt (w : World) (b m : Nat) (L : Nat → Int) : Prop := ∀ i, i < m → w.cell? ⟨b, i, none⟩ = some (.int .i64 (L i))
def anyTo (k : Int) (L : Nat → Int) : Nat → Bool
  | 0 => false
  | j + 1 => anyTo k L j || (k == L j)
theorem anyTo_mem (k : Int) (L : Nat → Int) (m : Nat) (h : anyTo k L m = true) : ∃ j, j < m ∧ k = L j := by
  induction m with
  | zero => simp [anyTo] at h
  | succ m ih =>
    simp only [anyTo, Bool.or_eq_true, beq_iff_eq] at h
    rcases h with h | h
    · obtain ⟨j, hj, e⟩ := ih h; exact ⟨j, by omega, e⟩
    · exact ⟨m, by omega, h⟩
set_option maxRecDepth 100000 in
set_option maxHeartbeats 1000000 in
theorem plays_of (a0 : Option Addr) (n cap kb m kcap : Nat) (ops : Nat → OpV) (L : Nat → Int) (w : World) (hn : n ≤ maxLen) (hm : m ≤ 20)
    (Inv : World → Prop) (h0 : Inv (w.alloc (.cells #[.slice none 0 0, .slice none 0 0, .slice none 0 0] 33)))
    (hdr : ∀ w' q, Inv w' → Inv (w'.drewN q)) (hsc : ∀ w', Inv w' → ScriptAt w' a0 n ops) (hki : ∀ w', Inv w' → KindsAt w' kb m L)
    (hstep : ∀ i, i < n → (∃ j, j < m ∧ (ops i).k = L j) → ∀ w', Inv w' → Calls Tryz.prog 10 #[.pointer (some ⟨w.heap.size, 0, none⟩), (ops i).val] w' fun e w'' => e = .returned (.bool true) ∧ Inv w'')
    (hlooks : ∀ w', Inv w' → Calls Tryz.prog 11 #[.pointer (some ⟨w.heap.size, 1, none⟩)] w' fun e w'' => e = .returned (.bool true) ∧ Inv w'') :
    Calls Tryz.prog 9 #[.slice a0 n cap, .slice (some ⟨kb, 0, none⟩) m kcap] w fun e w' => e = .returned (.bool true) ∧ Inv w' := by
  unfold maxLen at hn
  have HI := h0
  have HDR : Hid _ := hdr
  have HSC : Hid _ := hsc
  have HKI : Hid _ := hki
  have HST : Hid _ := hstep
  have HLK : Hid _ := hlooks
  clear h0 hdr hsc hki hstep hlooks
  go_enter Tryz.func9, Tryz.ntmps9
  go_wp2
  go_loopw [6, 7, 8, 9] (fun i _ _ _ wr => ∃ k : Nat, k ≤ n ∧ i = .int .i64 k ∧ Inv wr) (fun i _ _ _ _ => n - (intOf i).toNat)
  case atStart => exact ⟨0, by omega, rfl, HI⟩
  case round =>
    obtain ⟨k, hk, rfl, hb⟩ := hrel
    clear HI
    by_cases hlt : k < n
    · obtain ⟨sb, so, rfl, x0, x1, x2, x3, x4, x5, x6⟩ := HSC.out _ hb k hlt
      have hL := HKI.out _ hb
      go_wp2
      go_loopw [7, 8] (fun b j wi => ∃ q : Nat, q ≤ m ∧ j = .int .i64 q ∧ b = .bool (anyTo (ops k).k L q) ∧ ∃ nq, wi = wr.drewN nq) (fun _ j _ => m - (intOf j).toNat)
      case atStart => exact ⟨0, by omega, rfl, rfl, 0, rfl⟩
      case round =>
        obtain ⟨q, hq, rfl, rfl, nq, rfl⟩ := hrel
        by_cases hqm : q < m
        · have hLq := hL q hqm
          have hkk : (k : Int) < (n : Int) := by omega
          have hqq : (q : Int) < (m : Int) := by omega
          cases han : anyTo (ops k).k L q
          · go_wp2
            go_quiet (fail)
            go_wp2
            exact ⟨⟨q + 1, by omega, by go_num, by simp [anyTo, han], _, rfl⟩, by simp [intOf]; omega⟩
          · go_wp2
            go_quiet (fail)
            go_wp2
            exact ⟨⟨q + 1, by omega, by go_num, by simp [anyTo, han], _, rfl⟩, by simp [intOf]; omega⟩
        · have hqe : q = m := by omega
          subst hqe
          cases han : anyTo (ops k).k L q
          · go_wp2
            exact ⟨⟨k + 1, by omega, by go_num, HDR.out _ _ hb⟩, by simp [intOf]; omega⟩
          · have HM : Hid _ := anyTo_mem _ _ _ han
            go_wp2_with fail
            refine (HST.out k hlt HM.out _ (HDR.out _ _ hb)).mono ?_
            rintro e w1 ⟨rfl, hb1⟩
            clear x0 x1 x2 x3 x4 x5 x6 hL HM
            go_wp2_with fail
            refine (HLK.out _ hb1).mono ?_
            rintro e w2 ⟨rfl, hb2⟩
            go_wp2_with fail
            exact ⟨⟨k + 1, by omega, by go_num, hb2⟩, by simp [intOf]; omega⟩
    · go_wp2
      go_ret
      exact ⟨rfl, hb⟩
end Go.Proofs.YtfpoiikhhjdpdaaGreat

/- A script that came in, opened: its steps by their index. -/
namespace Go.Proofs.YtfpoiikhhjdpdaaGreat
open Go.ChangeShapes Go.WideShapes Go.ChangeAt Go.RowKit Go.Deep
theorem cellsOp : Tryz.prog.cellsOf 35 = 7 := by kernel_rfl
theorem cellsInt : Tryz.prog.cellsOf 3 = 1 := by kernel_rfl
theorem cellsStr : Tryz.prog.cellsOf 9 = 1 := by kernel_rfl
def OpV.ok (o : OpV) : Prop :=
  (Lit.int .i64 o.k).wf = true ∧ (Lit.int .i64 o.a).wf = true ∧ (Lit.int .i64 o.b).wf = true ∧ (Lit.int .i64 o.c).wf = true ∧ (Lit.int .i64 o.d).wf = true ∧ (Lit.int .i64 o.e).wf = true ∧ o.s.size ≤ maxLen
def OpV.data {H : Type} (o : OpV) : DataW H := .agg [.lit (.int .i64 o.k), .lit (.int .i64 o.a), .lit (.int .i64 o.b), .lit (.int .i64 o.c), .lit (.int .i64 o.d), .lit (.int .i64 o.e), .lit (.string o.s.data.toList)]
set_option maxRecDepth 100000 in
theorem open_ops {H : Type} {enc : TypeId × Value → H} {W : World} {a0 : Option Addr} {len cap : Nat} {d : DataW H} {ps : List MemPlace}
    (h : DataW.Trod enc Tryz.prog W 0 (fun _ => true) true 22 (.slice a0 len cap) d ps) :
    len ≤ maxLen ∧ ∃ ops : Nat → OpV, ScriptAt W a0 len ops ∧ (∀ i, i < len → (ops i).ok) ∧ (len = 0 ∨ ∃ sp, d = .slice ((List.range len).map fun i => (ops i).data) sp) := by
  obtain ⟨fuel, hf⟩ := h
  rcases open_slice Tryz.underlying22 hf with ⟨hcs, _⟩ | ⟨a, l, c, m, n, D, Pl, hcs, _, hl, hm, hmm, hx, hel⟩
  · simp [Value.cells] at hcs
    obtain ⟨rfl, rfl, rfl⟩ := hcs
    exact ⟨by omega, fun _ => ⟨0, 0, 0, 0, 0, 0, ByteArray.empty⟩, fun i hi => by omega, fun i hi => by omega, .inl rfl⟩
  · simp [Value.cells] at hcs
    obtain ⟨rfl, rfl, rfl⟩ := hcs
    simp only [if_true] at hmm
    subst hmm
    obtain ⟨b, o, spot⟩ := a
    have hspot : 0 < len → spot = none := by
      intro hp
      obtain ⟨cs', h1, _⟩ := hel 0 (by omega)
      rw [cellsOp] at h1
      obtain ⟨_, hlen, hcell⟩ := World.cells?_some h1
      have c0 := hcell 0 (by omega)
      rw [add_add, List.getElem?_eq_getElem (by omega)] at c0
      simpa [Addr.add] using World.cell?_spot c0
    have each : ∀ i, i < len → ∃ q : OpV, spot = none ∧ OpAt W b (o + i * 7) q ∧ q.ok ∧ D i = q.data := by
      intro i hi
      obtain ⟨cs', h1, h2⟩ := hel i (by omega)
      rw [cellsOp] at h1
      obtain ⟨_, hlen, hcell⟩ := World.cells?_some h1
      obtain ⟨xs, k, hk, hxy, _, hxl, hf⟩ := DataW.trod_struct Tryz.underlying35 h2
      have hxl' : xs.length = 7 := hxl
      clear hxl
      match xs, hxl', cs', hlen with
      | [y0, y1, y2, y3, y4, y5, y6], _, [v0, v1, v2, v3, v4, v5, v6], _ =>
        have g0 := hf 0 _ rfl
        have g1 := hf 1 _ rfl
        have g2 := hf 2 _ rfl
        have g3 := hf 3 _ rfl
        have g4 := hf 4 _ rfl
        have g5 := hf 5 _ rfl
        have g6 := hf 6 _ rfl
        simp [cellsInt, cellsStr] at g0 g1 g2 g3 g4 g5 g6
        obtain ⟨z0, e0, rfl, w0⟩ := DataW.trod_int Tryz.underlying3 g0
        obtain ⟨z1, e1, rfl, w1⟩ := DataW.trod_int Tryz.underlying3 g1
        obtain ⟨z2, e2, rfl, w2⟩ := DataW.trod_int Tryz.underlying3 g2
        obtain ⟨z3, e3, rfl, w3⟩ := DataW.trod_int Tryz.underlying3 g3
        obtain ⟨z4, e4, rfl, w4⟩ := DataW.trod_int Tryz.underlying3 g4
        obtain ⟨z5, e5, rfl, w5⟩ := DataW.trod_int Tryz.underlying3 g5
        obtain ⟨z6, e6, rfl, w6⟩ := DataW.trod_string Tryz.underlying9 g6
        simp only [List.cons.injEq, and_true] at e0 e1 e2 e3 e4 e5 e6
        subst e0 e1 e2 e3 e4 e5 e6
        have c0 := hcell 0 (by omega)
        have c1 := hcell 1 (by omega)
        have c2 := hcell 2 (by omega)
        have c3 := hcell 3 (by omega)
        have c4 := hcell 4 (by omega)
        have c5 := hcell 5 (by omega)
        have c6 := hcell 6 (by omega)
        rw [add_add] at c0 c1 c2 c3 c4 c5 c6
        have hs := hspot (by omega)
        subst hs
        have ha : ∀ j, (⟨b, o, none⟩ : Addr).add j = ⟨b, o + j, none⟩ := by
          intro j
          unfold Addr.add
          split
          · simp_all
          · rfl
        rw [ha] at c0 c1 c2 c3 c4 c5 c6
        simp only [List.getElem?_cons_zero, List.getElem?_cons_succ, Nat.add_zero, ← Nat.add_assoc] at c0 c1 c2 c3 c4 c5 c6
        simp only [Prod.mk.injEq] at hxy
        exact ⟨⟨z0, z1, z2, z3, z4, z5, z6⟩, rfl, ⟨c0, c1, c2, c3, c4, c5, c6⟩, ⟨w0, w1, w2, w3, w4, w5, w6⟩, by rw [hxy.1]; rfl⟩
    have inh : Inhabited OpV := ⟨⟨0, 0, 0, 0, 0, 0, ByteArray.empty⟩⟩
    obtain ⟨q, hq⟩ := choose_lt each
    refine ⟨by omega, q, fun i hi => ?_, fun i hi => (hq i hi).2.2.1, .inr ⟨(List.range (m - len)).map fun j => D (len + j), ?_⟩⟩
    · obtain ⟨rfl, h1, _, _⟩ := hq i hi
      exact ⟨b, o, rfl, h1⟩
    · simp only [Prod.mk.injEq] at hx
      rw [hx.1, List.map_congr_left fun i hi => (hq i (List.mem_range.1 hi)).2.2.2]
end Go.Proofs.YtfpoiikhhjdpdaaGreat

/- Plain mathematics of the field (DOC.md, Words and P3): the product is linear in both arguments; all else by its basis. -/
namespace Hd
def msk (c : Bool) (x : Nat) : Nat := bif c then x else 0
theorem msk_xor (c : Bool) (x y : Nat) : msk c (x ^^^ y) = msk c x ^^^ msk c y := by cases c <;> simp [msk]
theorem msk_bxor (c d : Bool) (x : Nat) : msk (c ^^ d) x = msk c x ^^^ msk d x := by cases c <;> cases d <;> simp [msk]
theorem msk_zero (c : Bool) : msk c 0 = 0 := by cases c <;> rfl
theorem x4 (a b c d : Nat) : (a ^^^ b) ^^^ (c ^^^ d) = (a ^^^ c) ^^^ (b ^^^ d) := by
  rw [Nat.xor_assoc, Nat.xor_assoc, ← Nat.xor_assoc b, Nat.xor_comm b c, Nat.xor_assoc c]
theorem xmul (a b n : Nat) : (a ^^^ b) * 2 ^ n = a * 2 ^ n ^^^ b * 2 ^ n := by
  rw [← Nat.shiftLeft_eq, ← Nat.shiftLeft_eq, ← Nat.shiftLeft_eq, Nat.shiftLeft_xor_distrib]
theorem xmul2 (a b : Nat) : 2 * (a ^^^ b) = 2 * a ^^^ 2 * b := by
  have := xmul a b 1; simp only [Nat.pow_one] at this; rw [Nat.mul_comm, this, Nat.mul_comm a, Nat.mul_comm b]
theorem xdiv2 (a b : Nat) : (a ^^^ b) / 2 = a / 2 ^^^ b / 2 := by
  apply Nat.eq_of_testBit_eq; intro i; simp [Nat.testBit_div_two]
def tw (a : Nat) : Nat := (2 * a) ^^^ msk (a.testBit 7) 285
theorem tw_xor (a b : Nat) : tw (a ^^^ b) = tw a ^^^ tw b := by
  unfold tw; rw [xmul2, Nat.testBit_xor, msk_bxor, x4]
theorem tw_zero : tw 0 = 0 := rfl
def mulTo : Nat → Nat → Nat → Nat
  | 0, _, _ => 0
  | n + 1, a, b => msk (b.testBit 0) a ^^^ mulTo n (tw a) (b / 2)
def mul (a b : Nat) : Nat := mulTo 8 a b
theorem mulTo_left (n a a' b : Nat) : mulTo n (a ^^^ a') b = mulTo n a b ^^^ mulTo n a' b := by
  induction n generalizing a a' b with
  | zero => simp [mulTo]
  | succ n ih => simp only [mulTo]; rw [tw_xor, ih, msk_xor, x4]
theorem mulTo_right (n a b b' : Nat) : mulTo n a (b ^^^ b') = mulTo n a b ^^^ mulTo n a b' := by
  induction n generalizing a b b' with
  | zero => simp [mulTo]
  | succ n ih => simp only [mulTo]; rw [xdiv2, ih, Nat.testBit_xor, msk_bxor, x4]
theorem mulTo_zero (n a : Nat) : mulTo n a 0 = 0 := by
  induction n generalizing a with
  | zero => rfl
  | succ n ih => simp [mulTo, ih, msk]
theorem mulTo_zero_left (n b : Nat) : mulTo n 0 b = 0 := by
  induction n generalizing b with
  | zero => rfl
  | succ n ih => simp [mulTo, ih, msk_zero, tw_zero]
theorem mul_left (a a' b : Nat) : mul (a ^^^ a') b = mul a b ^^^ mul a' b := mulTo_left 8 a a' b
theorem mul_right (a b b' : Nat) : mul a (b ^^^ b') = mul a b ^^^ mul a b' := mulTo_right 8 a b b'
theorem mul_zero (a : Nat) : mul a 0 = 0 := mulTo_zero 8 a
theorem zero_mul (a : Nat) : mul 0 a = 0 := mulTo_zero_left 8 a
theorem top_bit (n a : Nat) (h : a < 2 ^ (n + 1)) (h' : 2 ^ n ≤ a) : a ^^^ 2 ^ n < 2 ^ n := by
  apply Nat.lt_pow_two_of_testBit
  intro i hi
  rw [Nat.testBit_xor]
  by_cases e : i = n
  · subst e
    have : a.testBit i = true := by
      rw [Nat.testBit_eq_decide_div_mod_eq]
      have : a / 2 ^ i = 1 := by
        have h1 : a / 2 ^ i < 2 := Nat.div_lt_of_lt_mul (by rw [Nat.pow_succ] at h; omega)
        have h2 : 0 < a / 2 ^ i := Nat.div_pos h' (Nat.two_pow_pos i)
        omega
      simp [this]
    simp [this, Nat.testBit_two_pow_self]
  · have h1 : a.testBit i = false := Nat.testBit_lt_two_pow (Nat.lt_of_lt_of_le h (Nat.pow_le_pow_right (by omega) (by omega)))
    have h2 : (2 ^ n).testBit i = false := Nat.testBit_two_pow_of_ne (fun h => e h.symm)
    simp [h1, h2]
theorem lin_ind (P : Nat → Prop) (h0 : P 0) (hx : ∀ a b, P a → P b → P (a ^^^ b)) (hb : ∀ i, i < 8 → P (2 ^ i)) (a : Nat) (ha : a < 256) : P a := by
  have key : ∀ n, n ≤ 8 → ∀ a, a < 2 ^ n → P a := by
    intro n
    induction n with
    | zero => intro _ a ha; have : a = 0 := by simpa using ha
              rw [this]; exact h0
    | succ n ih =>
      intro hn a ha
      by_cases h : a < 2 ^ n
      · exact ih (by omega) a h
      · have h1 := hx _ _ (ih (by omega) _ (top_bit n a ha (by omega))) (hb n (by omega))
        rwa [Nat.xor_assoc, Nat.xor_self, Nat.xor_zero] at h1
  exact key 8 (Nat.le_refl _) a ha
theorem mul_comm (a b : Nat) (ha : a < 256) (hb : b < 256) : mul a b = mul b a := by
  refine lin_ind (fun a => mul a b = mul b a) (by simp only [mul_zero, zero_mul]) (fun x y hx hy => by simp only [mul_left, mul_right, hx, hy]) ?_ a ha
  intro i hi
  refine lin_ind (fun b => mul (2 ^ i) b = mul b (2 ^ i)) (by simp only [mul_zero, zero_mul]) (fun x y hx hy => by simp only [mul_left, mul_right, hx, hy]) ?_ b hb
  have : ∀ i, i < 8 → ∀ j, j < 8 → mul (2 ^ i) (2 ^ j) = mul (2 ^ j) (2 ^ i) := by decide +kernel
  exact this i hi
theorem mul_assoc (a b c : Nat) (ha : a < 256) (hb : b < 256) (hc : c < 256) : mul (mul a b) c = mul a (mul b c) := by
  refine lin_ind (fun a => mul (mul a b) c = mul a (mul b c)) (by simp only [zero_mul]) (fun x y hx hy => by simp only [mul_left, hx, hy]) ?_ a ha
  intro i hi
  refine lin_ind (fun b => mul (mul (2 ^ i) b) c = mul (2 ^ i) (mul b c)) (by simp only [mul_zero, zero_mul]) (fun x y hx hy => by simp only [mul_left, mul_right, hx, hy]) ?_ b hb
  intro j hj
  refine lin_ind (fun c => mul (mul (2 ^ i) (2 ^ j)) c = mul (2 ^ i) (mul (2 ^ j) c)) (by simp only [mul_zero]) (fun x y hx hy => by simp only [mul_right, hx, hy]) ?_ c hc
  have : ∀ i, i < 8 → ∀ j, j < 8 → ∀ k, k < 8 → mul (mul (2 ^ i) (2 ^ j)) (2 ^ k) = mul (2 ^ i) (mul (2 ^ j) (2 ^ k)) := by decide +kernel
  exact this i hi j hj
theorem mul_one (a : Nat) (ha : a < 256) : mul a 1 = a := by
  refine lin_ind (fun a => mul a 1 = a) (zero_mul 1) (fun x y hx hy => by simp only [mul_left, hx, hy]) ?_ a ha
  decide +kernel
theorem one_mul (a : Nat) (ha : a < 256) : mul 1 a = a := by rw [mul_comm 1 a (by omega) ha, mul_one a ha]
theorem tw_lt (a : Nat) (ha : a < 256) : tw a < 256 := by
  have : ∀ a, a < 256 → tw a < 256 := by decide +kernel
  exact this a ha
theorem xor_lt (a b : Nat) (ha : a < 256) (hb : b < 256) : a ^^^ b < 256 := Nat.xor_lt_two_pow (n := 8) ha hb
theorem msk_lt (c : Bool) (a : Nat) (ha : a < 256) : msk c a < 256 := by cases c <;> simp [msk, ha]
theorem mulTo_lt (n a b : Nat) (ha : a < 256) : mulTo n a b < 256 := by
  induction n generalizing a b with
  | zero => simp [mulTo]
  | succ n ih => simp only [mulTo]; exact xor_lt _ _ (msk_lt _ _ ha) (ih _ _ (tw_lt _ ha))
theorem mul_lt (a b : Nat) (ha : a < 256) : mul a b < 256 := mulTo_lt 8 a b ha
/- the quotient -/
def divTo : Nat → Nat → Nat → Nat
  | 0, a, _ => a
  | n + 1, a, p => divTo n (mul a (mul p p)) (mul p p)
def div (a b : Nat) : Nat := divTo 7 a b
theorem divTo_lt (n a p : Nat) (ha : a < 256) : divTo n a p < 256 := by
  induction n generalizing a p with
  | zero => simpa [divTo] using ha
  | succ n ih => simp only [divTo]; exact ih _ _ (mul_lt _ _ ha)
theorem divTo_eq (n a p : Nat) (ha : a < 256) (hp : p < 256) : divTo n a p = mul a (divTo n 1 p) := by
  induction n generalizing a p with
  | zero => simp only [divTo]; rw [mul_one a ha]
  | succ n ih =>
    have hpp : mul p p < 256 := mul_lt _ _ hp
    simp only [divTo]
    rw [ih _ _ (mul_lt _ _ ha) hpp, ih (mul 1 (mul p p)) _ (mul_lt _ _ (by omega)) hpp, one_mul _ hpp]
    exact mul_assoc _ _ _ ha hpp (divTo_lt _ _ _ (by omega))
theorem div_lt (a b : Nat) (ha : a < 256) : div a b < 256 := divTo_lt 7 a b ha
theorem inv_mul (b : Nat) (hb : b < 256) (h0 : b ≠ 0) : mul (div 1 b) b = 1 := by
  have : ∀ b, b < 256 → b ≠ 0 → mul (div 1 b) b = 1 := by decide +kernel
  exact this b hb h0
theorem div_mul (a b : Nat) (ha : a < 256) (hb : b < 256) (h0 : b ≠ 0) : mul (div a b) b = a := by
  have h1 : div 1 b < 256 := div_lt 1 b (by omega)
  rw [show div a b = mul a (div 1 b) from divTo_eq 7 a b ha hb, mul_assoc a _ b ha h1 hb, inv_mul b hb h0, mul_one a ha]
theorem mul_div (a b : Nat) (ha : a < 256) (hb : b < 256) (h0 : b ≠ 0) : div (mul a b) b = a := by
  have h1 : div 1 b < 256 := div_lt 1 b (by omega)
  rw [show div (mul a b) b = mul (mul a b) (div 1 b) from divTo_eq 7 _ b (mul_lt _ _ ha) hb, mul_assoc a b _ ha hb h1, mul_comm b _ hb h1, inv_mul b hb h0, mul_one a ha]
theorem div_unique (a b x : Nat) (hb : b < 256) (h0 : b ≠ 0) (hx : x < 256) (h : mul x b = a) : x = div a b := by
  rw [← h, mul_div x b hx hb h0]
/- the document's way -/
def rsum : Nat → Nat → Nat → Nat
  | 0, _, _ => 0
  | n + 1, a, b => rsum n a b ^^^ msk (b.testBit n) (a * 2 ^ n)
def rred : Nat → Nat → Nat
  | 0, n => n
  | i + 1, n => rred i (n ^^^ msk (n.testBit (i + 8)) (285 * 2 ^ i))
theorem rsum_left (n a a' b : Nat) : rsum n (a ^^^ a') b = rsum n a b ^^^ rsum n a' b := by
  induction n with
  | zero => simp [rsum]
  | succ n ih => simp only [rsum]; rw [xmul, ih, msk_xor, x4]
theorem rsum_right (n a b b' : Nat) : rsum n a (b ^^^ b') = rsum n a b ^^^ rsum n a b' := by
  induction n with
  | zero => simp [rsum]
  | succ n ih => simp only [rsum]; rw [ih, Nat.testBit_xor, msk_bxor, x4]
theorem rred_xor (i n m : Nat) : rred i (n ^^^ m) = rred i n ^^^ rred i m := by
  induction i generalizing n m with
  | zero => rfl
  | succ i ih => simp only [rred]; rw [← ih, Nat.testBit_xor, msk_bxor, x4]
theorem rred_zero (i : Nat) : rred i 0 = 0 := by
  induction i with
  | zero => rfl
  | succ i ih => simp [rred, ih, msk]
theorem rsum_zero (n a : Nat) : rsum n a 0 = 0 := by
  induction n with
  | zero => rfl
  | succ n ih => simp [rsum, ih, msk]
theorem rsum_zero_left (n b : Nat) : rsum n 0 b = 0 := by
  induction n with
  | zero => rfl
  | succ n ih => simp [rsum, ih, msk_zero]
theorem rmul_eq (a b : Nat) (ha : a < 256) (hb : b < 256) : rred 8 (rsum 8 a b) = mul a b := by
  refine lin_ind (fun a => rred 8 (rsum 8 a b) = mul a b) (by simp only [rsum_zero_left, rred_zero, zero_mul]) (fun x y hx hy => by simp only [rsum_left, rred_xor, mul_left, hx, hy]) ?_ a ha
  intro i hi
  refine lin_ind (fun b => rred 8 (rsum 8 (2 ^ i) b) = mul (2 ^ i) b) (by simp only [rsum_zero, rred_zero, mul_zero]) (fun x y hx hy => by simp only [rsum_right, rred_xor, mul_right, hx, hy]) ?_ b hb
  have : ∀ i, i < 8 → ∀ j, j < 8 → rred 8 (rsum 8 (2 ^ i) (2 ^ j)) = mul (2 ^ i) (2 ^ j) := by decide +kernel
  exact this i hi
end Hd

/- The walks of the field's functions: the program's (Mul, Div) and the document's. -/
namespace Go.Proofs.YtfpoiikhhjdpdaaGreat

open Go.RowKit
theorem wrap_i64_small (n : Int) (h0 : 0 ≤ n) (h : n < 65536) : IntKind.i64.wrap n = n := by
  have h1 : n % 18446744073709551616 = n := by omega
  have h2 : ¬ (9223372036854775808 ≤ n) := by omega
  simp [IntKind.wrap, IntKind.bits, IntKind.signed, h1, h2]
theorem ofInt_i64 (a : Nat) (ha : a < 65536) : (BitVec.ofInt 64 (a : Int)).toNat = a := by
  rw [BitVec.ofInt_natCast, BitVec.toNat_ofNat]; exact Nat.mod_eq_of_lt (by omega)
theorem i64_xor_nat (a b : Nat) (ha : a < 65536) (hb : b < 65536) : bits .xor .i64 (a : Int) (b : Int) = ((a ^^^ b : Nat) : Int) := by
  have hx : a ^^^ b < 65536 := Nat.xor_lt_two_pow (n := 16) ha hb
  show IntKind.i64.wrap ((BitVec.ofInt 64 (a : Int) ^^^ BitVec.ofInt 64 (b : Int)).toNat : Int) = _
  rw [BitVec.toNat_xor, ofInt_i64 a ha, ofInt_i64 b hb, wrap_i64_small _ (by omega) (by omega)]
theorem i64_and_nat (a b : Nat) (ha : a < 65536) (hb : b < 65536) : bits .and .i64 (a : Int) (b : Int) = ((a &&& b : Nat) : Int) := by
  have hx : a &&& b < 65536 := Nat.and_lt_two_pow (n := 16) _ hb
  show IntKind.i64.wrap ((BitVec.ofInt 64 (a : Int) &&& BitVec.ofInt 64 (b : Int)).toNat : Int) = _
  rw [BitVec.toNat_and, ofInt_i64 a ha, ofInt_i64 b hb, wrap_i64_small _ (by omega) (by omega)]
theorem i64_bit_nat (a k : Nat) (ha : a < 65536) : bits .and .i64 ((a : Int) / 2 ^ k) 1 = ((bif a.testBit k then 1 else 0 : Nat) : Int) := by
  have hd : a / 2 ^ k < 65536 := Nat.lt_of_le_of_lt (Nat.div_le_self _ _) ha
  have h0 : ((a : Int) / 2 ^ k) = ((a / 2 ^ k : Nat) : Int) := by simp
  rw [h0, show (1 : Int) = ((1 : Nat) : Int) from rfl, i64_and_nat _ _ hd (by omega), Nat.and_one_is_mod, Nat.testBit_eq_decide_div_mod_eq]
  have hm : a / 2 ^ k % 2 = 0 ∨ a / 2 ^ k % 2 = 1 := by omega
  rcases hm with h | h <;> simp [h]
theorem tw_big (a : Nat) (h : a < 256) (h' : 255 < (a : Int) * 2) : Hd.tw a = ((a * 2) ^^^ 285) % 256 := by
  have : ∀ a, a < 256 → 255 < a * 2 → Hd.tw a = ((a * 2) ^^^ 285) % 256 := by decide +kernel
  exact this a h (by omega)
theorem tw_small (a : Nat) (h : (a : Int) * 2 ≤ 255) : Hd.tw a = a * 2 := by
  have : ∀ a, a < 128 → Hd.tw a = a * 2 := by decide +kernel
  exact this a (by omega)

set_option maxHeartbeats 400000 in
theorem twice_any (a : Nat) (w : World) (h : a < 256) :
    Calls Tryz.prog 95 #[.int .u8 a] w fun e w' => e = .returned (.int .u8 (Hd.tw a : Nat)) ∧ w' = w := by
  go_enter Tryz.func95, Tryz.ntmps95
  go_wp2
  · rename_i h'
    go_ret
    refine ⟨?_, rfl⟩
    rw [tw_big a h h']
    have := i64_xor_nat (a * 2) 285 (by omega) (by omega)
    rw [show ((a * 2 : Nat) : Int) = (a : Int) * 2 by omega] at this
    rw [show (285 : Int) = ((285 : Nat) : Int) from rfl, this]
    rfl
  · rename_i h'
    go_ret
    exact ⟨by rw [tw_small a h']; rfl, rfl⟩

theorem mulTo_odd (n a b s : Nat) (h : b % 2 = 1) : Hd.mulTo n (Hd.tw a) (b / 2) ^^^ (s ^^^ a) = Hd.mulTo (n + 1) a b ^^^ s := by
  simp only [Hd.mulTo, Hd.msk, Nat.testBit_zero, h, decide_true, cond_true]
  rw [Nat.xor_comm s a, ← Nat.xor_assoc, Nat.xor_comm _ a]
theorem mulTo_even (n a b : Nat) (h : b % 2 = 0) : Hd.mulTo n (Hd.tw a) (b / 2) = Hd.mulTo (n + 1) a b := by
  simp [Hd.mulTo, Hd.msk, Nat.testBit_zero, h]

set_option maxHeartbeats 400000 in
theorem fmul_any (a b : Nat) (w : World) (ha : a < 256) (hb : b < 256) :
    Calls Tryz.prog 60 #[.int .u8 a, .int .u8 b] w fun e w' => e = .returned (.int .u8 (Hd.mul a b : Nat)) ∧ w' = w := by
  go_enter Tryz.func60, Tryz.ntmps60
  go_wp2
  go_loop [0, 1, 5] (fun x y s => ∃ n a' b' s' : Nat, a' < 256 ∧ b' < 2 ^ n ∧ n ≤ 8 ∧ s' < 256 ∧ Hid (Hd.mulTo n a' b' ^^^ s' = Hd.mul a b) ∧ x = .int .u8 a' ∧ y = .int .u8 b' ∧ s = .int .u8 s') (fun _ y _ => (intOf y).toNat)
  case atStart => exact ⟨8, a, b, 0, ha, hb, by omega, by omega, (show Hid _ from Nat.xor_zero _), rfl, rfl, rfl⟩
  case round =>
    obtain ⟨n, a', b', s', ha', hb', hn, hs', hq, rfl, rfl, rfl⟩ := hrel
    have hb8 : b' < 256 := Nat.lt_of_lt_of_le hb' (Nat.pow_le_pow_right (by omega) hn : 2 ^ n ≤ 2 ^ 8)
    by_cases hz : b' = 0
    · subst hz
      go_wp2
      go_ret
      have := hq.out
      rw [Hd.mulTo_zero, Nat.zero_xor] at this
      exact ⟨by rw [this]; rfl, rfl⟩
    · cases n with
      | zero => simp at hb'; omega
      | succ n =>
        have hp : b' / 2 < 2 ^ n := by rw [Nat.pow_succ] at hb'; omega
        have hpos : 0 < b' := by omega
        clear hb' hz
        by_cases ho : b' % 2 = 1
        · have HQ : Hid (Hd.mulTo n (Hd.tw a') (b' / 2) ^^^ (s' ^^^ a') = Hd.mul a b) := (show _ = _ by rw [mulTo_odd n a' b' s' ho]; exact hq.out)
          clear hq
          have hx := u8_xor_nat s' a' hs' ha'
          have hl := Hd.xor_lt s' a' hs' ha'
          have ht := Hd.tw_lt a' ha'
          go_wp2_with (go_at_call 95; refine (twice_any _ _ ha').mono ?_; rintro e w' ⟨rfl, rfl⟩)
          exact ⟨⟨n, _, b' / 2, _, ht, hp, by omega, hl, HQ, rfl, by go_num, rfl⟩, by simp [intOf]; omega⟩
        · have HQ : Hid (Hd.mulTo n (Hd.tw a') (b' / 2) ^^^ s' = Hd.mul a b) := (show _ = _ by rw [mulTo_even n a' b' (by omega)]; exact hq.out)
          clear hq
          have ht := Hd.tw_lt a' ha'
          have ho' : b' % 2 = 0 := by omega
          clear ho
          go_wp2_with (go_at_call 95; refine (twice_any _ _ ha').mono ?_; rintro e w' ⟨rfl, rfl⟩)
          exact ⟨⟨n, _, b' / 2, _, ht, hp, by omega, hs', HQ, rfl, by go_num, rfl⟩, by simp [intOf]; omega⟩

set_option maxHeartbeats 400000 in
theorem Mul_any (a b : Nat) (w : World) (ha : a < 256) (hb : b < 256) :
    Calls Tryz.prog 19 #[.int .u8 a, .int .u8 b] w fun e w' => e = .returned (.int .u8 (Hd.mul a b : Nat)) ∧ w' = w := by
  go_enter Tryz.func19, Tryz.ntmps19
  go_wp2_with (go_at_call 60; refine (fmul_any _ _ _ ha hb).mono ?_; rintro e w' ⟨rfl, rfl⟩)
  go_ret
  exact ⟨rfl, rfl⟩

set_option maxHeartbeats 400000 in
theorem fdiv_any (a b : Nat) (w : World) (ha : a < 256) (hb : b < 256) :
    Calls Tryz.prog 61 #[.int .u8 a, .int .u8 b] w fun e w' => e = .returned (.int .u8 (Hd.div a b : Nat)) ∧ w' = w := by
  go_enter Tryz.func61, Tryz.ntmps61
  go_wp2
  go_loop [0, 5, 6] (fun x p i => ∃ k a' p' : Nat, a' < 256 ∧ p' < 256 ∧ k ≤ 7 ∧ Hid (Hd.divTo (7 - k) a' p' = Hd.div a b) ∧ x = .int .u8 a' ∧ p = .int .u8 p' ∧ i = .int .i64 k) (fun _ _ i => 7 - (intOf i).toNat)
  case atStart => exact ⟨0, a, b, ha, hb, by omega, (show Hid _ from rfl), rfl, rfl, rfl⟩
  case round =>
    obtain ⟨k, a', p', ha', hp', hk, hq, rfl, rfl, rfl⟩ := hrel
    by_cases hlt : k < 7
    · have h1 := Hd.mul_lt p' p' hp'
      have h2 := Hd.mul_lt a' (Hd.mul p' p') ha'
      have HQ : Hid (Hd.divTo (7 - (k + 1)) (Hd.mul a' (Hd.mul p' p')) (Hd.mul p' p') = Hd.div a b) := by
        have := hq.out
        rw [show 7 - k = (7 - (k + 1)) + 1 by omega] at this
        exact this
      clear hq
      go_wp2_with fail
      refine (fmul_any _ _ _ hp' hp').mono ?_
      rintro e w' ⟨rfl, rfl⟩
      go_wp2_with fail
      refine (fmul_any _ _ _ ha' h1).mono ?_
      rintro e w' ⟨rfl, rfl⟩
      go_wp2_with fail
      exact ⟨⟨k + 1, _, _, h2, h1, by omega, HQ, rfl, rfl, by go_num⟩, by simp [intOf]; omega⟩
    · have hk7 : k = 7 := by omega
      subst hk7
      go_wp2
      go_ret
      have := hq.out
      simp only [Nat.sub_self, Hd.divTo] at this
      exact ⟨by rw [this]; rfl, rfl⟩

set_option maxHeartbeats 400000 in
theorem Div_zero (a : Nat) (w : World) :
    Calls Tryz.prog 21 #[.int .u8 a, .int .u8 0] w fun e w' => e = .returned (.tuple #[.int .u8 0, .int .i64 1]) ∧ w' = w := by
  go_enter Tryz.func21, Tryz.ntmps21
  go_wp2_with fail
  go_ret2
  exact ⟨rfl, rfl⟩
set_option maxHeartbeats 400000 in
theorem Div_any (a b : Nat) (w : World) (ha : a < 256) (hb : b < 256) (h0 : 0 < b) :
    Calls Tryz.prog 21 #[.int .u8 a, .int .u8 b] w fun e w' => e = .returned (.tuple #[.int .u8 (Hd.div a b : Nat), .int .i64 0]) ∧ w' = w := by
  go_enter Tryz.func21, Tryz.ntmps21
  go_wp2_with (go_at_call 61; refine (fdiv_any _ _ _ ha hb).mono ?_; rintro e w' ⟨rfl, rfl⟩)
  go_ret2
  exact ⟨rfl, rfl⟩

/- The document's product. -/
theorem rsum_lt (n a b : Nat) (ha : a < 256) (hn : n ≤ 8) : Hd.rsum n a b < 65536 := by
  induction n with
  | zero => simp [Hd.rsum]
  | succ n ih =>
    simp only [Hd.rsum]
    refine Nat.xor_lt_two_pow (n := 16) (ih (by omega)) ?_
    have h1 : 2 ^ n ≤ 2 ^ 7 := Nat.pow_le_pow_right (by omega) (by omega)
    have h2 : a * 2 ^ n < 256 * 2 ^ 7 := Nat.lt_of_le_of_lt (Nat.mul_le_mul_left a h1) (by omega)
    cases b.testBit n
    · simp [Hd.msk]
    · simp only [Hd.msk, cond_true]; omega
theorem red_step_lt (n i : Nat) (hn : n < 65536) (hi : i < 8) : n ^^^ 285 * 2 ^ i < 65536 := by
  have h1 : 2 ^ i ≤ 2 ^ 7 := Nat.pow_le_pow_right (by omega) (by omega)
  exact Nat.xor_lt_two_pow (n := 16) hn (by omega)
theorem pow_cast (k : Nat) : ((2 : Int) ^ k) = ((2 ^ k : Nat) : Int) := by simp
end Go.Proofs.YtfpoiikhhjdpdaaGreat

/- Cells of four bytes: their values, sums and products; what is kept where some blocks may turn. -/
namespace Go.Proofs.YtfpoiikhhjdpdaaGreat
open Go.RowKit

structure C4 where
  b0 : Nat
  b1 : Nat
  b2 : Nat
  b3 : Nat
def C4.at (c : C4) (i : Nat) : Nat := if i = 0 then c.b0 else if i = 1 then c.b1 else if i = 2 then c.b2 else c.b3
def C4.ok (c : C4) : Prop := c.b0 < 256 ∧ c.b1 < 256 ∧ c.b2 < 256 ∧ c.b3 < 256
def C4.val (c : C4) : Value := .agg #[.int .u8 c.b0, .int .u8 c.b1, .int .u8 c.b2, .int .u8 c.b3]
def C4.zero : C4 := ⟨0, 0, 0, 0⟩
def C4.mk4 (f : Nat → Nat) : C4 := ⟨f 0, f 1, f 2, f 3⟩
def C4.xor (a b : C4) : C4 := ⟨a.b0 ^^^ b.b0, a.b1 ^^^ b.b1, a.b2 ^^^ b.b2, a.b3 ^^^ b.b3⟩
def C4.scale (n : Nat) (c : C4) : C4 := ⟨Hd.mul n c.b0, Hd.mul n c.b1, Hd.mul n c.b2, Hd.mul n c.b3⟩
theorem C4.ext' {a b : C4} (h : ∀ i, i < 4 → a.at i = b.at i) : a = b := by
  obtain ⟨a0, a1, a2, a3⟩ := a
  obtain ⟨b0, b1, b2, b3⟩ := b
  have h0 := h 0 (by omega)
  have h1 := h 1 (by omega)
  have h2 := h 2 (by omega)
  have h3 := h 3 (by omega)
  simp [C4.at] at h0 h1 h2 h3
  subst h0 h1 h2 h3
  rfl
theorem C4.at_mk4 (f : Nat → Nat) (i : Nat) (hi : i < 4) : (C4.mk4 f).at i = f i := by
  have : i = 0 ∨ i = 1 ∨ i = 2 ∨ i = 3 := by omega
  rcases this with rfl | rfl | rfl | rfl <;> rfl
theorem C4.at_xor (a b : C4) (i : Nat) : (a.xor b).at i = a.at i ^^^ b.at i := by
  unfold C4.at C4.xor; split <;> try rfl
  split <;> try rfl
  split <;> rfl
theorem C4.at_scale (n : Nat) (c : C4) (i : Nat) : (c.scale n).at i = Hd.mul n (c.at i) := by
  unfold C4.at C4.scale; split <;> try rfl
  split <;> try rfl
  split <;> rfl
theorem C4.at_lt {c : C4} (h : c.ok) (i : Nat) : c.at i < 256 := by
  obtain ⟨h0, h1, h2, h3⟩ := h
  unfold C4.at; split <;> try assumption
  split <;> try assumption
  split <;> assumption
theorem C4.ok_of {c : C4} (h : ∀ i, i < 4 → c.at i < 256) : c.ok := ⟨h 0 (by omega), h 1 (by omega), h 2 (by omega), h 3 (by omega)⟩
theorem C4.xor_ok {a b : C4} (ha : a.ok) (hb : b.ok) : (a.xor b).ok := ⟨Hd.xor_lt _ _ ha.1 hb.1, Hd.xor_lt _ _ ha.2.1 hb.2.1, Hd.xor_lt _ _ ha.2.2.1 hb.2.2.1, Hd.xor_lt _ _ ha.2.2.2 hb.2.2.2⟩
theorem C4.scale_ok {n : Nat} {c : C4} (hn : n < 256) : (c.scale n).ok := ⟨Hd.mul_lt _ _ hn, Hd.mul_lt _ _ hn, Hd.mul_lt _ _ hn, Hd.mul_lt _ _ hn⟩
theorem C4.zero_ok : C4.zero.ok := ⟨by decide, by decide, by decide, by decide⟩

/-- Blocks that are not in S are as they were; the streams too; no block has gone. -/
structure Kept (S : Nat → Prop) (w w' : World) : Prop where
  os : w'.os = w.os
  tape : w'.tape = w.tape
  output : w'.output = w.output
  size : w.heap.size ≤ w'.heap.size
  block : ∀ k, k < w.heap.size → ¬ S k → w'.heap[k]? = w.heap[k]?
theorem Kept.refl (S : Nat → Prop) (w : World) : Kept S w w := ⟨rfl, rfl, rfl, Nat.le_refl _, fun _ _ _ => rfl⟩
theorem Kept.trans {S : Nat → Prop} {a b c : World} (h : Kept S a b) (k : Kept S b c) : Kept S a c :=
  ⟨k.os.trans h.os, k.tape.trans h.tape, k.output.trans h.output, Nat.le_trans h.size k.size, fun i hi hs => (k.block i (Nat.lt_of_lt_of_le hi h.size) hs).trans (h.block i hi hs)⟩
/-- What turns later may be blocks that are new since. -/
theorem Kept.trans' {S T : Nat → Prop} {a b c : World} (h : Kept S a b) (k : Kept T b c) (hT : ∀ i, T i → S i ∨ a.heap.size ≤ i) : Kept S a c :=
  ⟨k.os.trans h.os, k.tape.trans h.tape, k.output.trans h.output, Nat.le_trans h.size k.size, fun i hi hs => (k.block i (Nat.lt_of_lt_of_le hi h.size) (fun ht => by rcases hT i ht with h1 | h1; exact hs h1; omega)).trans (h.block i hi hs)⟩
theorem Kept.mono {S T : Nat → Prop} {a b : World} (h : Kept S a b) (hST : ∀ i, S i → T i) : Kept T a b :=
  ⟨h.os, h.tape, h.output, h.size, fun i hi hs => h.block i hi (fun hh => hs (hST i hh))⟩
theorem Kept.of_below {S : Nat → Prop} {a b : World} (h : Below a.heap.size a b) : Kept S a b := ⟨h.os, h.tape, h.output, h.size, fun i hi _ => h.block i hi⟩
theorem Kept.below {a b : World} {B : Nat} (h : Kept (fun i => B ≤ i) a b) (hB : B ≤ a.heap.size) : Below B a b := ⟨h.os, h.tape, h.output, h.size, fun i hi => h.block i (by omega) (by omega)⟩
theorem Kept.drew {S : Nat → Prop} {a b : World} (h : Kept S a b) : Kept S a b.drew := ⟨h.os, h.tape, h.output, h.size, h.block⟩
theorem Kept.drewN {S : Nat → Prop} {a b : World} (h : Kept S a b) (n : Nat) : Kept S a (b.drewN n) := h.trans ⟨rfl, rfl, rfl, Nat.le_refl _, fun _ _ _ => rfl⟩
theorem Kept.alloc {S : Nat → Prop} {a b : World} (h : Kept S a b) (o : Obj) : Kept S a (b.alloc o) :=
  h.trans (Kept.of_below ((Below.refl _ _).alloc (Nat.le_refl _) o))
theorem Kept.setCell {S : Nat → Prop} {a b : World} (h : Kept S a b) {p : Addr} (hp : S p.block ∨ a.heap.size ≤ p.block) (u : Value) : Kept S a (b.setCell p u) :=
  ⟨h.os, h.tape, h.output, by have := h.size; simpa [World.setCell] using this, fun i hi hs => by
    rw [Below.heap_setCell _ _ _ _ (fun e => by subst e; rcases hp with h1 | h1; exact hs h1; omega)]; exact h.block i hi hs⟩
theorem Kept.cell {S : Nat → Prop} {a b : World} (h : Kept S a b) {p : Addr} {v : Value} (hp : ¬ S p.block) (hc : a.cell? p = some v) : b.cell? p = some v :=
  (World.cell?_of_block (h.block p.block (block_lt_of_cell hc) hp)).trans hc
theorem Kept.row {S : Nat → Prop} {a b : World} (h : Kept S a b) {k t n : Nat} {f : Nat → Value} (hk : ¬ S k) (hr : a.rowIs k t n f) : b.rowIs k t n f :=
  hr.of_block (h.block k hr.lt hk)

theorem bcell {W w1 : World} (hb : Below W.heap.size W w1) : (∀ b o, b < W.heap.size → w1.cell? ⟨b, o, none⟩ = W.cell? ⟨b, o, none⟩) ∧ (∀ b o, b < W.heap.size → w1.frozen? ⟨b, o, none⟩ = W.frozen? ⟨b, o, none⟩) :=
  ⟨fun b o h => hb.cell (p := ⟨b, o, none⟩) h, fun b o h => hb.frozen (p := ⟨b, o, none⟩) h⟩
attribute [local go_sem ↓] Go.wp_at_zero Go.wp_at_succ
set_option maxRecDepth 100000 in
set_option maxHeartbeats 1000000 in
theorem Add_any (x y : C4) (w : World) (hx : x.ok) (hy : y.ok) :
    Calls Tryz.prog 108 #[x.val, y.val] w fun e w' => e = .returned (x.xor y).val ∧ Below w.heap.size w w' := by
  obtain ⟨x0, x1, x2, x3⟩ := x
  obtain ⟨y0, y1, y2, y3⟩ := y
  obtain ⟨hx0, hx1, hx2, hx3⟩ := hx
  obtain ⟨hy0, hy1, hy2, hy3⟩ := hy
  have e0 := u8_xor_nat x0 y0 hx0 hy0
  have e1 := u8_xor_nat x1 y1 hx1 hy1
  have e2 := u8_xor_nat x2 y2 hx2 hy2
  have e3 := u8_xor_nat x3 y3 hx3 hy3
  clear hx0 hx1 hx2 hx3 hy0 hy1 hy2 hy3
  unfold C4.val C4.xor
  go_enter Tryz.func108, Tryz.ntmps108
  go_wp2
  refine wp_loop_rounds 5 ?_
  iterate 4 (rw [rounds_succ]; go_wp2; go_region; go_wp2)
  rw [rounds_succ]
  go_wp2
  exact bodyPost_ret (v := .agg #[.int .u8 ((x0 ^^^ y0 : Nat) : Int), .int .u8 ((x1 ^^^ y1 : Nat) : Int), .int .u8 ((x2 ^^^ y2 : Nat) : Int), .int .u8 ((x3 ^^^ y3 : Nat) : Int)]) (by simp [results, Tryz.results108, go_sem]) rfl ⟨rfl, by repeat (first | exact Below.refl _ _ | refine Below.drew ?_ | refine Below.alloc ?_ (by simp <;> omega) _)⟩
set_option maxRecDepth 100000 in
set_option maxHeartbeats 1000000 in
theorem Scale_any (n : Nat) (x : C4) (w : World) (hn : n < 256) (hx : x.ok) :
    Calls Tryz.prog 113 #[.int .u8 n, x.val] w fun e w' => e = .returned (x.scale n).val ∧ Below w.heap.size w w' := by
  obtain ⟨x0, x1, x2, x3⟩ := x
  obtain ⟨hx0, hx1, hx2, hx3⟩ := hx
  unfold C4.val C4.scale
  go_enter Tryz.func113, Tryz.ntmps113
  go_wp2
  refine wp_loop_rounds 5 ?_
  rw [rounds_succ]; go_wp2_with fail
  refine (fmul_any n x0 _ hn hx0).mono ?_; rintro e w' ⟨rfl, rfl⟩
  go_wp2_with fail
  rw [rounds_succ]; go_wp2_with fail
  refine (fmul_any n x1 _ hn hx1).mono ?_; rintro e w' ⟨rfl, rfl⟩
  go_wp2_with fail
  rw [rounds_succ]; go_wp2_with fail
  refine (fmul_any n x2 _ hn hx2).mono ?_; rintro e w' ⟨rfl, rfl⟩
  go_wp2_with fail
  rw [rounds_succ]; go_wp2_with fail
  refine (fmul_any n x3 _ hn hx3).mono ?_; rintro e w' ⟨rfl, rfl⟩
  go_wp2_with fail
  rw [rounds_succ]; go_wp2_with fail
  exact bodyPost_ret (v := .agg #[.int .u8 (Hd.mul n x0 : Nat), .int .u8 (Hd.mul n x1 : Nat), .int .u8 (Hd.mul n x2 : Nat), .int .u8 (Hd.mul n x3 : Nat)]) (by simp [results, Tryz.results113, go_sem]) rfl ⟨rfl, by repeat (first | exact Below.refl _ _ | refine Below.drew ?_ | refine Below.alloc ?_ (by simp <;> omega) _)⟩

/-- A list of bytes that came in, or that is one's own: byte i behind its address. -/
def BytesAt (w : World) (a : Option Addr) (n : Nat) (f : Nat → Nat) : Prop := ∀ i, i < n → ∃ b o, a = some ⟨b, o, none⟩ ∧ w.cell? ⟨b, o + i, none⟩ = some (.int .u8 (f i)) ∧ f i < 256
theorem BytesAt.below {B : Nat} {w w' : World} {a : Option Addr} {n : Nat} {f : Nat → Nat} (h : BytesAt w a n f) (hb : Below B w w') (hB : w.heap.size ≤ B) : BytesAt w' a n f := by
  intro i hi
  obtain ⟨b, o, e, hc, hl⟩ := h i hi
  exact ⟨b, o, e, (hb.cell (p := ⟨b, _, none⟩) (Nat.lt_of_lt_of_le (block_lt_of_cell hc) hB)).trans hc, hl⟩
theorem box_row (w : World) (c : C4) (H : Nat) (hH : w.heap.size = H) : (w.alloc (.cells #[.int .u8 c.b0, .int .u8 c.b1, .int .u8 c.b2, .int .u8 c.b3] 75)).rowIs H 75 4 (fun j => .int .u8 (c.at j)) := by
  subst hH
  refine World.rowIs_alloc w _ _ _ ?_
  intro i hi
  have hi' : i < 4 := hi
  have : i = 0 ∨ i = 1 ∨ i = 2 ∨ i = 3 := by omega
  rcases this with rfl | rfl | rfl | rfl <;> rfl
theorem box_row0 (w : World) (H : Nat) (hH : w.heap.size = H) : (w.alloc (.cells #[.int .u8 0, .int .u8 0, .int .u8 0, .int .u8 0] 75)).rowIs H 75 4 (fun _ => .int .u8 0) :=
  (box_row w C4.zero H hH).congr (fun j hj => by
    have : j = 0 ∨ j = 1 ∨ j = 2 ∨ j = 3 := by omega
    rcases this with rfl | rfl | rfl | rfl <;> rfl)
def ovl (c : C4) (start : Int) (n : Nat) (f : Nat → Nat) (i : Nat) : Nat := if 0 ≤ start + i ∧ start + i < n then f (start + i).toNat else c.at i
def C4.overlay (c : C4) (start : Int) (n : Nat) (f : Nat → Nat) : C4 := C4.mk4 (ovl c start n f)
set_option maxRecDepth 100000 in
set_option maxHeartbeats 1000000 in
theorem overlay_any (c : C4) (start : Int) (a : Option Addr) (n cap : Nat) (f : Nat → Nat) (w : World) (hs : -1000 ≤ start ∧ start ≤ 1000) (hn : n ≤ 1000) (hd : BytesAt w a n f) :
    Calls Tryz.prog 105 #[c.val, .int .i64 start, .slice a n cap] w fun e w' => e = .returned (c.overlay start n f).val ∧ Below w.heap.size w w' := by
  obtain ⟨hs1, hs2⟩ := hs
  have HD : Hid (BytesAt w a n f) := hd
  clear hd
  unfold C4.val
  go_enter Tryz.func105, Tryz.ntmps105
  go_wp2
  go_loopw [7, 8] (fun i _ wr => ∃ k : Nat, k ≤ 4 ∧ i = .int .i64 k ∧ Below w.heap.size w wr ∧ wr.heap.size = w.heap.size + 2 ∧ wr.rowIs w.heap.size 75 4 (fun j => .int .u8 (if j < k then ovl c start n f j else c.at j : Nat)) ∧ wr.rowIs (w.heap.size + 1) 75 4 (fun _ => .int .u8 0)) (fun i _ _ => 4 - (intOf i).toNat)
  case atStart =>
    refine ⟨0, by omega, rfl, ?_, by simp, ?_, ?_⟩
    · repeat (first | exact Below.refl _ _ | refine Below.drew ?_ | refine Below.alloc ?_ (by simp <;> omega) _)
    · exact ((box_row w c _ rfl).congr (fun j _ => by simp)).alloc _
    · exact box_row0 _ _ (by simp)
  case round =>
    obtain ⟨k, hk, rfl, hb, hz, hrow, hres⟩ := hrel
    by_cases hlt : k < 4
    · have hkk : (k : Int) < 4 := by omega
      have hcell := hrow.cell (i := k) (by omega)
      have hfz := hrow.frozen k
      simp only [Nat.lt_irrefl, if_false] at hcell
      by_cases h1 : 0 ≤ start + k
      · by_cases h2 : start + k < n
        · obtain ⟨db, dof, rfl, hbyte, hbl⟩ := (HD.out.below hb (Nat.le_refl _)) (start + k).toNat (by omega)
          have HOV : Hid (ovl c start n f k = f (start + k).toNat) := (show _ = _ by unfold ovl; rw [if_pos ⟨h1, h2⟩])
          have HR : Hid (wr.rowIs w.heap.size 75 4 (fun j => .int .u8 (if j < k then ovl c start n f j else c.at j : Nat))) := hrow
          have HS : Hid (wr.rowIs (w.heap.size + 1) 75 4 (fun _ => .int .u8 0)) := hres
          clear hrow hres
          go_wp2
          refine ⟨⟨k + 1, by omega, by go_num, hb.setCell (by simp) _, by simpa using hz, ?_, HS.out.setOther (by simp) _⟩, by simp [intOf]; omega⟩
          refine (HR.out.set k _).congr ?_
          intro j hj
          by_cases e : j = k
          · subst e
            rw [if_pos rfl, if_pos (by omega), HOV.out]
          · rw [if_neg e]
            by_cases hjk : j < k
            · rw [if_pos hjk, if_pos (by omega)]
            · rw [if_neg hjk, if_neg (by omega)]
        · have HOV : Hid (ovl c start n f k = c.at k) := (show _ = _ by unfold ovl; rw [if_neg (by omega)])
          have HR : Hid (wr.rowIs w.heap.size 75 4 (fun j => .int .u8 (if j < k then ovl c start n f j else c.at j : Nat))) := hrow
          have HS : Hid (wr.rowIs (w.heap.size + 1) 75 4 (fun _ => .int .u8 0)) := hres
          clear hrow hres
          go_wp2
          refine ⟨⟨k + 1, by omega, by go_num, hb, hz, ?_, HS.out⟩, by simp [intOf]; omega⟩
          refine HR.out.congr ?_
          intro j hj
          by_cases e : j = k
          · subst e
            rw [if_neg (by omega), if_pos (by omega), HOV.out]
          · by_cases hjk : j < k
            · rw [if_pos hjk, if_pos (by omega)]
            · rw [if_neg hjk, if_neg (by omega)]
      · have h1' : decide (0 ≤ start + (k : Int)) = false := by simpa using h1
        have HOV : Hid (ovl c start n f k = c.at k) := (show _ = _ by unfold ovl; rw [if_neg (by omega)])
        have HR : Hid (wr.rowIs w.heap.size 75 4 (fun j => .int .u8 (if j < k then ovl c start n f j else c.at j : Nat))) := hrow
        have HS : Hid (wr.rowIs (w.heap.size + 1) 75 4 (fun _ => .int .u8 0)) := hres
        clear hrow hres
        go_wp2
        refine ⟨⟨k + 1, by omega, by go_num, hb, hz, ?_, HS.out⟩, by simp [intOf]; omega⟩
        refine HR.out.congr ?_
        intro j hj
        by_cases e : j = k
        · subst e
          rw [if_neg (by omega), if_pos (by omega), HOV.out]
        · by_cases hjk : j < k
          · rw [if_pos hjk, if_pos (by omega)]
          · rw [if_neg hjk, if_neg (by omega)]
    · have hk4 : k = 4 := by omega
      subst hk4
      have c0 := hrow.cell (i := 0) (by omega)
      have c1 := hrow.cell (i := 1) (by omega)
      have c2 := hrow.cell (i := 2) (by omega)
      have c3 := hrow.cell (i := 3) (by omega)
      have r0 := hres.cell (i := 0) (by omega)
      have r1 := hres.cell (i := 1) (by omega)
      have r2 := hres.cell (i := 2) (by omega)
      have r3 := hres.cell (i := 3) (by omega)
      have f0 := hres.frozen 0
      have f1 := hres.frozen 1
      have f2 := hres.frozen 2
      have f3 := hres.frozen 3
      simp only [Nat.reduceLT, if_true] at c0 c1 c2 c3
      clear hrow hres
      go_wp2
      refine bodyPost_ret (v := (c.overlay start n f).val) (by simp [results, Tryz.results105, go_sem, r0, r1, r2, r3, C4.val, C4.overlay, C4.mk4]) rfl ⟨rfl, ?_⟩
      exact (((hb.setCell (by simp) _).setCell (by simp) _).setCell (by simp) _).setCell (by simp) _
end Go.Proofs.YtfpoiikhhjdpdaaGreat

/- The program's hoard in memory. -/
namespace Go.Proofs.YtfpoiikhhjdpdaaGreat
open Go.RowKit
structure Rec where
  row : Nat
  c : C4
def Rec.cells (r : Rec) : List Value := [.int .i64 r.row, .int .u8 r.c.b0, .int .u8 r.c.b1, .int .u8 r.c.b2, .int .u8 r.c.b3]
def recCells (l : List Rec) : List Value := l.flatMap Rec.cells
theorem recCells_length (l : List Rec) : (recCells l).length = l.length * 5 := by
  induction l with
  | nil => rfl
  | cons r l ih => simp only [recCells, List.flatMap_cons, List.length_append, List.length_cons] at *; rw [ih]; simp [Rec.cells]; omega
/-- What a hoard has, whatever lies where. -/
structure Ab where
  D : Nat
  P : Nat
  R : Nat
  M : Nat
  lost : Nat → Bool
  ub : Nat → Nat → Bool
  cell : Nat → Nat → C4
  recs : Nat → List Rec
  steps : Nat
  brk : Option Nat
/-- What is noted of a block that is being written, and whether the hoard is down. -/
structure Aux where
  blk : Nat
  aft : C4
  chg : C4
  tv : Value
  tk : List Nat
  dn : Nat
  down : Bool
/-- Nothing is noted, and the hoard is up. -/
def aux0 : Aux := ⟨0, C4.zero, C4.zero, .slice none 0 0, [], 0, false⟩
/-- And where its logs lie, and what else its struct has. -/
structure St extends Ab where
  lv : Nat → Value
  aux : Aux
instance : Coe St Ab := ⟨St.toAb⟩
/-- Place j of drive d. -/
def dv (s : St) (d j : Nat) : Value :=
  if j = 0 then .bool (s.lost d) else if j < 7 then .bool (s.ub d (j - 1)) else if j < 31 then .int .u8 ((s.cell d ((j - 7) / 4)).at ((j - 7) % 4)) else s.lv d
def auxv (x : Aux) (b : Option Nat) (i : Nat) : Value :=
  if i = 197 then .int .i64 x.blk else if i < 202 then .int .u8 (x.aft.at (i - 198)) else if i < 206 then .int .u8 (x.chg.at (i - 202)) else if i = 206 then x.tv else if i = 207 then .int .i64 x.dn
  else if i = 208 then .bool b.isSome else if i = 209 then .int .i64 (b.getD 0) else .bool x.down
def hv (s : St) (i : Nat) : Value :=
  if i < 4 then (if i = 0 then .int .i64 s.D else if i = 1 then .int .i64 s.P else if i = 2 then .int .i64 s.R else .int .i64 s.M)
  else if i < 196 then dv s ((i - 4) / 32) ((i - 4) % 32)
  else if i = 196 then .int .i64 s.steps else auxv s.aux s.brk i
theorem hv_at (s : St) (d j : Nat) (hd : d < 6) (hj : j < 32) : hv s (4 + d * 32 + j) = dv s d j := by
  unfold hv
  rw [if_neg (by omega), if_pos (by omega), show (4 + d * 32 + j - 4) / 32 = d by omega, show (4 + d * 32 + j - 4) % 32 = j by omega]
theorem hv_lost (s : St) (d : Nat) (hd : d < 6) : hv s (4 + d * 32) = .bool (s.lost d) := hv_at s d 0 hd (by omega)
theorem hv_ub (s : St) (d r : Nat) (hd : d < 6) (hr : r < 6) : hv s (4 + d * 32 + 1 + r) = .bool (s.ub d r) := by
  rw [show 4 + d * 32 + 1 + r = 4 + d * 32 + (1 + r) by omega, hv_at s d _ hd (by omega)]
  unfold dv
  rw [if_neg (by omega), if_pos (by omega), show 1 + r - 1 = r by omega]
theorem hv_cell (s : St) (d r i : Nat) (hd : d < 6) (hr : r < 6) (hi : i < 4) : hv s (4 + d * 32 + 7 + r * 4 + i) = .int .u8 ((s.cell d r).at i) := by
  rw [show 4 + d * 32 + 7 + r * 4 + i = 4 + d * 32 + (7 + r * 4 + i) by omega, hv_at s d _ hd (by omega)]
  unfold dv
  rw [if_neg (by omega), if_neg (by omega), if_pos (by omega), show (7 + r * 4 + i - 7) / 4 = r by omega, show (7 + r * 4 + i - 7) % 4 = i by omega]
theorem hv_log (s : St) (d : Nat) (hd : d < 6) : hv s (4 + d * 32 + 31) = s.lv d := by
  rw [hv_at s d _ hd (by omega)]; rfl
theorem hv_steps (s : St) : hv s 196 = .int .i64 s.steps := rfl
def St.setCell (s : St) (d r : Nat) (c : C4) : St := { s with cell := fun d' r' => if d' = d ∧ r' = r then c else s.cell d' r' }
def St.setUb (s : St) (d r : Nat) (b : Bool) : St := { s with ub := fun d' r' => if d' = d ∧ r' = r then b else s.ub d' r' }
def St.setLog (s : St) (d : Nat) (l : List Rec) (v : Value) : St := { s with recs := fun d' => if d' = d then l else s.recs d', lv := fun d' => if d' = d then v else s.lv d' }
def St.setSteps (s : St) (n : Nat) : St := { s with steps := n }
/-- A drive as it comes new: lost, or live with so many cells not built. -/
def St.newDrive (s : St) (d : Nat) (lo : Bool) (n : Nat) : St :=
  { s with lost := fun d' => if d' = d then lo else s.lost d', ub := fun d' r => if d' = d then decide (r < n) else s.ub d' r, cell := fun d' r => if d' = d then C4.zero else s.cell d' r, recs := fun d' => if d' = d then [] else s.recs d', lv := fun d' => if d' = d then .slice none 0 0 else s.lv d' }
/-- Two hoards that differ in one drive at most. -/
theorem hv_drive (s s' : St) (d : Nat) (hD : s'.D = s.D) (hP : s'.P = s.P) (hR : s'.R = s.R) (hM : s'.M = s.M) (hs : s'.steps = s.steps) (ha : s'.aux = s.aux) (hbk : s'.brk = s.brk) (hd : ∀ d' j, d' ≠ d → dv s' d' j = dv s d' j) (i : Nat) :
    hv s' i = if 4 + d * 32 ≤ i ∧ i < 4 + d * 32 + 32 ∧ i < 196 then dv s' d (i - (4 + d * 32)) else hv s i := by
  by_cases h0 : 4 + d * 32 ≤ i ∧ i < 4 + d * 32 + 32 ∧ i < 196
  · rw [if_pos h0]
    have : hv s' (4 + d * 32 + (i - (4 + d * 32))) = _ := hv_at s' d (i - (4 + d * 32)) (by omega) (by omega)
    rw [show 4 + d * 32 + (i - (4 + d * 32)) = i by omega] at this
    exact this
  · rw [if_neg h0]
    unfold hv
    rw [hD, hP, hR, hM, hs, ha, hbk]
    by_cases h1 : i < 4
    · rw [if_pos h1, if_pos h1]
    · rw [if_neg h1, if_neg h1]
      by_cases h2 : i < 196
      · rw [if_pos h2, if_pos h2, hd _ _ (by omega)]
      · rw [if_neg h2, if_neg h2]
theorem hv_setCell (s : St) (d r : Nat) (c : C4) (hd : d < 6) (hr : r < 6) (j : Nat) (hj : j < 211) :
    hv (s.setCell d r c) j = if j = 4 + d * 32 + 7 + r * 4 then .int .u8 c.b0 else if j = 4 + d * 32 + 7 + r * 4 + 1 then .int .u8 c.b1 else if j = 4 + d * 32 + 7 + r * 4 + 2 then .int .u8 c.b2 else if j = 4 + d * 32 + 7 + r * 4 + 3 then .int .u8 c.b3 else hv s j := by
  by_cases h0 : 4 + d * 32 + 7 + r * 4 ≤ j ∧ j < 4 + d * 32 + 7 + r * 4 + 4
  · obtain ⟨i, rfl⟩ : ∃ i, j = 4 + d * 32 + 7 + r * 4 + i := ⟨j - (4 + d * 32 + 7 + r * 4), by omega⟩
    rw [hv_cell _ d r i hd hr (by omega)]
    have : i = 0 ∨ i = 1 ∨ i = 2 ∨ i = 3 := by omega
    rcases this with rfl | rfl | rfl | rfl <;> simp [St.setCell, C4.at]
  · rw [if_neg (by omega), if_neg (by omega), if_neg (by omega), if_neg (by omega)]
    unfold hv St.setCell dv
    split
    · rfl
    · split
      · split
        · rfl
        · split
          · rfl
          · split
            · have : ¬ ((j - 4) / 32 = d ∧ ((j - 4) % 32 - 7) / 4 = r) := by omega
              simp only [this, if_false]
            · rfl
      · rfl
theorem hv_setUb (s : St) (d r : Nat) (b : Bool) (hd : d < 6) (hr : r < 6) (j : Nat) (hj : j < 211) :
    hv (s.setUb d r b) j = if j = 4 + d * 32 + 1 + r then .bool b else hv s j := by
  by_cases h0 : j = 4 + d * 32 + 1 + r
  · subst h0; rw [if_pos rfl, hv_ub _ d r hd hr]; simp [St.setUb]
  · rw [if_neg h0]
    unfold hv St.setUb dv
    split
    · rfl
    · split
      · split
        · rfl
        · split
          · have : ¬ ((j - 4) / 32 = d ∧ (j - 4) % 32 - 1 = r) := by omega
            simp only [this, if_false]
          · rfl
      · rfl
theorem hv_setLog (s : St) (d : Nat) (l : List Rec) (v : Value) (hd : d < 6) (j : Nat) (hj : j < 211) : hv (s.setLog d l v) j = if j = 4 + d * 32 + 31 then v else hv s j := by
  by_cases h0 : j = 4 + d * 32 + 31
  · subst h0; rw [if_pos rfl, hv_log _ d hd]; simp [St.setLog]
  · rw [if_neg h0]
    unfold hv St.setLog dv
    split
    · rfl
    · split
      · split
        · rfl
        · split
          · rfl
          · split
            · rfl
            · have : ¬ ((j - 4) / 32 = d) := by omega
              simp only [this, if_false]
      · rfl
theorem hv_setSteps (s : St) (n : Nat) (j : Nat) (hj : j < 211) : hv (s.setSteps n) j = if j = 196 then .int .i64 n else hv s j := by
  by_cases h0 : j = 196
  · subst h0; rfl
  · rw [if_neg h0]; unfold hv St.setSteps dv; simp only [h0, if_false]
structure Ab.ok (s : Ab) : Prop where
  D1 : 1 ≤ s.D
  D4 : s.D ≤ 4
  P1 : 1 ≤ s.P
  P2 : s.P ≤ 2
  R1 : 1 ≤ s.R
  R6 : s.R ≤ 6
  M1 : 1 ≤ s.M
  M8 : s.M ≤ 8
  cells : ∀ d r, (s.cell d r).ok
  len : ∀ d, (s.recs d).length ≤ s.M
  recs : ∀ d, ∀ x ∈ s.recs d, x.row < s.R ∧ x.c.ok
  data : ∀ d, d < s.D → s.recs d = []
def LogAt (w : World) (v : Value) (l : List Rec) : Prop := w.ownsRow 0 92 5 v l.length (recCells l)
structure HoardIn (w : World) (hb : Nat) (s : St) : Prop where
  ok : s.ok
  row : w.rowIs hb 104 211 (hv s)
  logs : ∀ d, d < 6 → LogAt w (s.lv d) (s.recs d)
  apart : ∀ d, d < 6 → (s.lv d).ownBlock ≠ some hb
  apart2 : ∀ d d' g, d < 6 → d' < 6 → d ≠ d' → (s.lv d).ownBlock = some g → (s.lv d').ownBlock ≠ some g
def Foot (hb : Nat) (s : St) (k : Nat) : Prop := k = hb ∨ ∃ d, d < 6 ∧ (s.lv d).ownBlock = some k
theorem LogAt.of_block {w w' : World} {v : Value} {l : List Rec} (h : LogAt w v l) (e : ∀ g, v.ownBlock = some g → w'.heap[g]? = w.heap[g]?) : LogAt w' v l := by
  refine ⟨h.1, ?_⟩
  rcases h.2 with h1 | ⟨g, cap, cur, rfl, hb, hg, rest⟩
  · exact .inl h1
  · exact .inr ⟨g, cap, cur, rfl, hb, (e g rfl).trans hg, rest⟩
theorem LogAt.lt {w : World} {v : Value} {l : List Rec} (h : LogAt w v l) {g : Nat} (hg : v.ownBlock = some g) : g < w.heap.size := (World.ownsRow.lt h g hg).2
theorem HoardIn.foot_lt {w : World} {hb : Nat} {s : St} (h : HoardIn w hb s) {k : Nat} (hk : Foot hb s k) : k < w.heap.size := by
  rcases hk with rfl | ⟨d, hd, e⟩
  · exact h.row.lt
  · exact (h.logs d hd).lt e
/-- A hoard lies where it lay, if none of its blocks has turned. -/
theorem HoardIn.of_block {w w' : World} {hb : Nat} {s : St} (h : HoardIn w hb s) (e : ∀ k, Foot hb s k → w'.heap[k]? = w.heap[k]?) : HoardIn w' hb s :=
  ⟨h.ok, h.row.of_block (e hb (.inl rfl)), fun d hd => (h.logs d hd).of_block (fun g hg => e g (.inr ⟨d, hd, hg⟩)), h.apart, h.apart2⟩
theorem HoardIn.kept {w w' : World} {hb : Nat} {s : St} {S : Nat → Prop} (h : HoardIn w hb s) (k : Kept S w w') (hS : ∀ i, Foot hb s i → ¬ S i) : HoardIn w' hb s :=
  h.of_block (fun i hi => k.block i (h.foot_lt hi) (hS i hi))
theorem HoardIn.below {w w' : World} {hb : Nat} {s : St} (h : HoardIn w hb s) (k : Below w.heap.size w w') : HoardIn w' hb s :=
  h.of_block (fun i hi => k.block i (h.foot_lt hi))
theorem HoardIn.drewN {w : World} {hb : Nat} {s : St} (h : HoardIn w hb s) (n : Nat) : HoardIn (w.drewN n) hb s := h.of_block (fun _ _ => rfl)
theorem HoardIn.shape {w : World} {hb : Nat} {s : St} (h : HoardIn w hb s) :
    w.cell? ⟨hb, 0, none⟩ = some (.int .i64 s.D) ∧ w.cell? ⟨hb, 1, none⟩ = some (.int .i64 s.P) ∧ w.cell? ⟨hb, 2, none⟩ = some (.int .i64 s.R) ∧ w.cell? ⟨hb, 3, none⟩ = some (.int .i64 s.M) :=
  ⟨h.row.cell (i := 0) (by omega), h.row.cell (i := 1) (by omega), h.row.cell (i := 2) (by omega), h.row.cell (i := 3) (by omega)⟩
theorem HoardIn.cell {w : World} {hb : Nat} {s : St} (h : HoardIn w hb s) (d r : Nat) (hd : d < 6) (hr : r < 6) :
    w.cell? ⟨hb, 4 + d * 32 + 7 + r * 4, none⟩ = some (.int .u8 (s.cell d r).b0) ∧ w.cell? ⟨hb, 4 + d * 32 + 7 + r * 4 + 1, none⟩ = some (.int .u8 (s.cell d r).b1) ∧ w.cell? ⟨hb, 4 + d * 32 + 7 + r * 4 + 2, none⟩ = some (.int .u8 (s.cell d r).b2) ∧ w.cell? ⟨hb, 4 + d * 32 + 7 + r * 4 + 3, none⟩ = some (.int .u8 (s.cell d r).b3) := by
  have c := fun i (hi : i < 4) => (h.row.cell (i := 4 + d * 32 + 7 + r * 4 + i) (by omega)).trans (congrArg some (hv_cell s d r i hd hr hi))
  exact ⟨c 0 (by omega), c 1 (by omega), c 2 (by omega), c 3 (by omega)⟩
theorem HoardIn.log {w : World} {hb : Nat} {s : St} (h : HoardIn w hb s) (d : Nat) (hd : d < 6) : w.cell? ⟨hb, 4 + d * 32 + 31, none⟩ = some (s.lv d) :=
  (h.row.cell (by omega)).trans (congrArg some (hv_log s d hd))
theorem HoardIn.lostAt {w : World} {hb : Nat} {s : St} (h : HoardIn w hb s) (d : Nat) (hd : d < 6) : w.cell? ⟨hb, 4 + d * 32, none⟩ = some (.bool (s.lost d)) :=
  (h.row.cell (by omega)).trans (congrArg some (hv_lost s d hd))
theorem HoardIn.ubAt {w : World} {hb : Nat} {s : St} (h : HoardIn w hb s) (d r : Nat) (hd : d < 6) (hr : r < 6) : w.cell? ⟨hb, 4 + d * 32 + 1 + r, none⟩ = some (.bool (s.ub d r)) :=
  (h.row.cell (by omega)).trans (congrArg some (hv_ub s d r hd hr))
theorem HoardIn.stepsAt {w : World} {hb : Nat} {s : St} (h : HoardIn w hb s) : w.cell? ⟨hb, 196, none⟩ = some (.int .i64 s.steps) := h.row.cell (by omega)
/-- The hoard with another cell. -/
theorem HoardIn.setCell {w : World} {hb : Nat} {s : St} (h : HoardIn w hb s) (d r : Nat) (c : C4) (hd : d < 6) (hr : r < 6) (hc : c.ok) :
    HoardIn ((((w.setCell ⟨hb, 4 + d * 32 + 7 + r * 4, none⟩ (.int .u8 c.b0)).setCell ⟨hb, 4 + d * 32 + 7 + r * 4 + 1, none⟩ (.int .u8 c.b1)).setCell ⟨hb, 4 + d * 32 + 7 + r * 4 + 2, none⟩ (.int .u8 c.b2)).setCell ⟨hb, 4 + d * 32 + 7 + r * 4 + 3, none⟩ (.int .u8 c.b3)) hb (s.setCell d r c) := by
  have hoth : ∀ k, k ≠ hb → ((((w.setCell ⟨hb, 4 + d * 32 + 7 + r * 4, none⟩ (.int .u8 c.b0)).setCell ⟨hb, 4 + d * 32 + 7 + r * 4 + 1, none⟩ (.int .u8 c.b1)).setCell ⟨hb, 4 + d * 32 + 7 + r * 4 + 2, none⟩ (.int .u8 c.b2)).setCell ⟨hb, 4 + d * 32 + 7 + r * 4 + 3, none⟩ (.int .u8 c.b3)).heap[k]? = w.heap[k]? := by
    intro k hk
    rw [Below.heap_setCell _ _ _ _ hk, Below.heap_setCell _ _ _ _ hk, Below.heap_setCell _ _ _ _ hk, Below.heap_setCell _ _ _ _ hk]
  refine ⟨⟨h.ok.D1, h.ok.D4, h.ok.P1, h.ok.P2, h.ok.R1, h.ok.R6, h.ok.M1, h.ok.M8, ?_, h.ok.len, h.ok.recs, h.ok.data⟩, ?_, ?_, h.apart, h.apart2⟩
  · intro d' r'
    simp only [St.setCell]
    split
    · exact hc
    · exact h.ok.cells d' r'
  · refine ((((h.row.set _ _).set _ _).set _ _).set _ _).congr ?_
    intro j hj
    rw [hv_setCell s d r c hd hr j hj]
    by_cases e0 : j = 4 + d * 32 + 7 + r * 4
    · subst e0; rw [if_neg (by omega), if_neg (by omega), if_neg (by omega), if_pos rfl, if_pos rfl]
    · by_cases e1 : j = 4 + d * 32 + 7 + r * 4 + 1
      · subst e1; rw [if_neg (by omega), if_neg (by omega), if_pos rfl, if_neg (by omega), if_pos rfl]
      · by_cases e2 : j = 4 + d * 32 + 7 + r * 4 + 2
        · subst e2; rw [if_neg (by omega), if_pos rfl, if_neg (by omega), if_neg (by omega), if_pos rfl]
        · by_cases e3 : j = 4 + d * 32 + 7 + r * 4 + 3
          · subst e3; rw [if_pos rfl, if_neg (by omega), if_neg (by omega), if_neg (by omega), if_pos rfl]
          · rw [if_neg e3, if_neg e2, if_neg e1, if_neg e0, if_neg e0, if_neg e1, if_neg e2, if_neg e3]
  · intro d' hd'
    exact (h.logs d' hd').of_block (fun g hg => hoth g (fun e => h.apart d' hd' (by rw [hg, e])))
theorem HoardIn.setSteps {w : World} {hb : Nat} {s : St} (h : HoardIn w hb s) (n : Nat) : HoardIn (w.setCell ⟨hb, 196, none⟩ (.int .i64 n)) hb (s.setSteps n) := by
  refine ⟨⟨h.ok.D1, h.ok.D4, h.ok.P1, h.ok.P2, h.ok.R1, h.ok.R6, h.ok.M1, h.ok.M8, h.ok.cells, h.ok.len, h.ok.recs, h.ok.data⟩, ?_, ?_, h.apart, h.apart2⟩
  · exact (h.row.set _ _).congr (fun j hj => (hv_setSteps s n j hj).symm)
  · intro d' hd'
    exact (h.logs d' hd').of_block (fun g hg => Below.heap_setCell _ _ _ _ (fun e => h.apart d' hd' (by rw [hg, e])))
theorem HoardIn.setUb {w : World} {hb : Nat} {s : St} (h : HoardIn w hb s) (d r : Nat) (b : Bool) (hd : d < 6) (hr : r < 6) : HoardIn (w.setCell ⟨hb, 4 + d * 32 + 1 + r, none⟩ (.bool b)) hb (s.setUb d r b) := by
  refine ⟨⟨h.ok.D1, h.ok.D4, h.ok.P1, h.ok.P2, h.ok.R1, h.ok.R6, h.ok.M1, h.ok.M8, h.ok.cells, h.ok.len, h.ok.recs, h.ok.data⟩, ?_, ?_, h.apart, h.apart2⟩
  · exact (h.row.set _ _).congr (fun j hj => (hv_setUb s d r b hd hr j hj).symm)
  · intro d' hd'
    exact (h.logs d' hd').of_block (fun g hg => Below.heap_setCell _ _ _ _ (fun e => h.apart d' hd' (by rw [hg, e])))
/-- The hoard with another log: the new list lies in a block of its own. -/
theorem HoardIn.setLog {w w1 : World} {hb : Nat} {s : St} (h : HoardIn w hb s) (d : Nat) (l : List Rec) (v : Value) (hd : d < 6) (hp : s.D ≤ d)
    (hkept : ∀ k, k < w.heap.size → (s.lv d).ownBlock ≠ some k → w1.heap[k]? = w.heap[k]?)
    (hl : LogAt w1 v l) (hlen : l.length ≤ s.M) (hrecs : ∀ x ∈ l, x.row < s.R ∧ x.c.ok) (hv1 : v.ownBlock = (s.lv d).ownBlock ∨ ∀ g, v.ownBlock = some g → w.heap.size ≤ g) :
    HoardIn (w1.setCell ⟨hb, 4 + d * 32 + 31, none⟩ v) hb (s.setLog d l v) := by
  have hrow : w1.rowIs hb 104 211 (hv s) := h.row.of_block (hkept hb h.row.lt (h.apart d hd))
  have hvb : v.ownBlock ≠ some hb := by
    intro e
    rcases hv1 with h1 | h1
    · exact h.apart d hd (h1 ▸ e)
    · have := h1 hb e; have := h.row.lt; omega
  refine ⟨⟨h.ok.D1, h.ok.D4, h.ok.P1, h.ok.P2, h.ok.R1, h.ok.R6, h.ok.M1, h.ok.M8, h.ok.cells, ?_, ?_, ?_⟩, ?_, ?_, ?_, ?_⟩
  · intro d'
    simp only [St.setLog]
    split
    · exact hlen
    · exact h.ok.len d'
  · intro d'
    simp only [St.setLog]
    split
    · exact hrecs
    · exact h.ok.recs d'
  · intro d' hd'
    simp only [St.setLog] at hd' ⊢
    rw [if_neg (by omega)]
    exact h.ok.data d' hd'
  · exact (hrow.set _ _).congr (fun j hj => (hv_setLog s d l v hd j hj).symm)
  · intro d' hd'
    simp only [St.setLog]
    by_cases e : d' = d
    · simp only [e, if_true]
      exact hl.of_block (fun g hg => Below.heap_setCell _ _ _ _ (fun e => hvb (by rw [hg, e])))
    · simp only [e, if_false]
      refine (h.logs d' hd').of_block (fun g hg => ?_)
      rw [Below.heap_setCell _ _ _ _ (fun e => h.apart d' hd' (by rw [hg, e]))]
      exact hkept g ((h.logs d' hd').lt hg) (h.apart2 d' d g hd' hd e hg)
  · intro d' hd'
    simp only [St.setLog]
    split
    · exact hvb
    · exact h.apart d' hd'
  · intro d1 d2 g h1 h2 hne
    simp only [St.setLog]
    by_cases e1 : d1 = d
    · have e2 : d2 ≠ d := fun e => hne (e1.trans e.symm)
      simp only [e1, e2, if_true, if_false]
      intro hg hg2
      rcases hv1 with h3 | h3
      · exact h.apart2 d d2 g hd h2 (fun e => e2 e.symm) (h3 ▸ hg) hg2
      · have := h3 g hg; have := (h.logs d2 h2).lt hg2; omega
    · by_cases e2 : d2 = d
      · simp only [e1, e2, if_true, if_false]
        intro hg hg2
        rcases hv1 with h3 | h3
        · exact h.apart2 d1 d g h1 hd e1 hg (h3 ▸ hg2)
        · have := h3 g hg2; have := (h.logs d1 h1).lt hg; omega
      · simp only [e1, e2, if_false]
        exact h.apart2 d1 d2 g h1 h2 hne
end Go.Proofs.YtfpoiikhhjdpdaaGreat

/- The program's calls that only read. -/
namespace Go.Proofs.YtfpoiikhhjdpdaaGreat
open Go.RowKit
attribute [local go_sem ↓] Go.wp_at_zero Go.wp_at_succ
def isDriveB (s : Ab) (d : Int) : Bool := decide (0 ≤ d ∧ d < s.D + s.P)
def isParityB (s : Ab) (d : Int) : Bool := decide (s.D ≤ d ∧ d < s.D + s.P)
def isRowB (s : Ab) (r : Int) : Bool := decide (0 ≤ r ∧ r < s.R)
def hasB (s : Ab) (a n : Int) : Bool := decide (0 ≤ a ∧ 0 ≤ n ∧ a ≤ s.D * s.R * 4 ∧ n ≤ s.D * s.R * 4 - a)
set_option maxRecDepth 100000 in
set_option maxHeartbeats 1000000 in
theorem isDrive_any (hb : Nat) (s : St) (d : Int) (w : World) (h : HoardIn w hb s) :
    Calls Tryz.prog 72 #[.pointer (some ⟨hb, 0, none⟩), .int .i64 d] w fun e w' => e = .returned (.bool (isDriveB s d)) ∧ ∃ n, w' = w.drewN n := by
  obtain ⟨h0, h1, h2, h3⟩ := h.shape
  have hD := h.ok.D4
  have hP := h.ok.P2
  clear h h2 h3
  unfold isDriveB
  by_cases h : 0 ≤ d
  · go_enter Tryz.func72, Tryz.ntmps72
    go_wp2
    go_quiet (fail)
    go_wp2
    go_ret
    exact ⟨by simp [h], _, rfl⟩
  · have h' : decide (0 ≤ d) = false := by simpa using h
    go_enter Tryz.func72, Tryz.ntmps72
    go_wp2
    go_quiet (fail)
    go_wp2
    go_ret
    exact ⟨by first | rfl | (rw [decide_eq_false (by omega)]; rfl), _, rfl⟩
set_option maxRecDepth 100000 in
set_option maxHeartbeats 1000000 in
theorem isParity_any (hb : Nat) (s : St) (d : Int) (w : World) (h : HoardIn w hb s) :
    Calls Tryz.prog 78 #[.pointer (some ⟨hb, 0, none⟩), .int .i64 d] w fun e w' => e = .returned (.bool (isParityB s d)) ∧ ∃ n, w' = w.drewN n := by
  obtain ⟨h0, h1, h2, h3⟩ := h.shape
  have hD := h.ok.D4
  have hP := h.ok.P2
  clear h h2 h3
  unfold isParityB
  by_cases h : s.D ≤ d
  · go_enter Tryz.func78, Tryz.ntmps78
    go_wp2
    go_quiet (fail)
    go_wp2
    go_ret
    exact ⟨by simp [h], _, rfl⟩
  · have h' : decide ((s.D : Int) ≤ d) = false := by simpa using h
    go_enter Tryz.func78, Tryz.ntmps78
    go_wp2
    go_quiet (fail)
    go_wp2
    go_ret
    exact ⟨by first | rfl | (rw [decide_eq_false (by omega)]; rfl), _, rfl⟩
set_option maxRecDepth 100000 in
set_option maxHeartbeats 1000000 in
theorem isRow_any (hb : Nat) (s : St) (d : Int) (w : World) (h : HoardIn w hb s) :
    Calls Tryz.prog 75 #[.pointer (some ⟨hb, 0, none⟩), .int .i64 d] w fun e w' => e = .returned (.bool (isRowB s d)) ∧ w' = w := by
  obtain ⟨h0, h1, h2, h3⟩ := h.shape
  clear h h1 h3
  unfold isRowB
  by_cases h : 0 ≤ d
  · go_enter Tryz.func75, Tryz.ntmps75
    go_wp2
    go_ret
    exact ⟨by simp [h], rfl⟩
  · have h' : decide (0 ≤ d) = false := by simpa using h
    go_enter Tryz.func75, Tryz.ntmps75
    go_wp2
    go_ret
    exact ⟨by first | rfl | (rw [decide_eq_false (by omega)]; rfl), rfl⟩
theorem all_le (s : Ab) (h : s.ok) : (s.D : Int) * s.R ≤ 24 := by
  have h1 := h.D4
  have h2 := h.R6
  have : s.D * s.R ≤ 4 * 6 := Nat.mul_le_mul h1 h2
  omega
set_option maxRecDepth 100000 in
set_option maxHeartbeats 1000000 in
theorem hasBytes_any (hb : Nat) (s : St) (a n : Int) (w : World) (h : HoardIn w hb s) (ha : -9223372036854775808 ≤ a ∧ a ≤ 9223372036854775807) :
    Calls Tryz.prog 64 #[.pointer (some ⟨hb, 0, none⟩), .int .i64 a, .int .i64 n] w fun e w' => e = .returned (.bool (hasB s a n)) ∧ ∃ n, w' = w.drewN n := by
  obtain ⟨h0, h1, h2, h3⟩ := h.shape
  have hD := h.ok.D4
  have hR := h.ok.R6
  have hal := all_le s h.ok
  have hal0 : 0 ≤ (s.D : Int) * s.R := Int.mul_nonneg (by omega) (by omega)
  clear h h1 h3
  obtain ⟨ha1, ha2⟩ := ha
  unfold hasB
  generalize hx : (s.D : Int) * s.R = x at *
  have Hx : Hid _ := hx
  go_enter Tryz.func64, Tryz.ntmps64
  go_wp2
  go_quiet (fail)
  by_cases c1 : 0 ≤ a
  · by_cases c2 : 0 ≤ n
    · by_cases c3 : a ≤ x * 4
      · go_wp2
        go_ret
        exact ⟨by simp [c1, c2, c3], _, rfl⟩
      · have c3' : decide (a ≤ x * 4) = false := by simpa using c3
        go_wp2
        go_ret
        exact ⟨by first | rfl | (rw [decide_eq_false (by omega)]; rfl), _, rfl⟩
    · have c2' : decide (0 ≤ n) = false := by simpa using c2
      go_wp2
      go_ret
      exact ⟨by first | rfl | (rw [decide_eq_false (by omega)]; rfl), _, rfl⟩
  · have c1' : decide (0 ≤ a) = false := by simpa using c1
    go_wp2
    go_ret
    exact ⟨by first | rfl | (rw [decide_eq_false (by omega)]; rfl), _, rfl⟩
set_option maxRecDepth 100000 in
set_option maxHeartbeats 1000000 in
theorem place_any (hb : Nat) (s : St) (b : Nat) (w : World) (h : HoardIn w hb s) (hB : b ≤ 1000) :
    Calls Tryz.prog 66 #[.pointer (some ⟨hb, 0, none⟩), .int .i64 b] w fun e w' => e = .returned (.tuple #[.int .i64 (b % s.D : Nat), .int .i64 (b / s.D : Nat)]) ∧ ∃ n, w' = w.drewN n := by
  obtain ⟨h0, h1, h2, h3⟩ := h.shape
  have hD := h.ok.D4
  have hD1 := h.ok.D1
  clear h h1 h3
  have HQ : Hid (wrap64 ((b : Int) / s.D) = ((b / s.D : Nat) : Int)) := by
    show _ = _
    have h1 : ((b : Int) / s.D) = ((b / s.D : Nat) : Int) := by simp
    have h2 : b / s.D ≤ b := Nat.div_le_self _ _
    rw [h1]
    generalize b / s.D = q at h2
    unfold wrap64; omega
  go_enter Tryz.func66, Tryz.ntmps66
  go_wp2
  go_quiet (fail)
  go_wp2
  go_ret2
  exact ⟨by rw [HQ.out]; rfl, _, rfl⟩
def wgt (s : Ab) (d c : Nat) : Nat := if d = s.D then 1 else 2 ^ c
theorem pow_step (k : Nat) (hk : k < 4) : Hd.mul (2 ^ k) 2 = 2 ^ (k + 1) := by
  have : ∀ k, k < 4 → Hd.mul (2 ^ k) 2 = 2 ^ (k + 1) := by decide +kernel
  exact this k hk
set_option maxRecDepth 100000 in
set_option maxHeartbeats 1000000 in
theorem weight_any (hb : Nat) (s : St) (d c : Nat) (w : World) (h : HoardIn w hb s) (hc : c < 4) :
    Calls Tryz.prog 112 #[.pointer (some ⟨hb, 0, none⟩), .int .i64 d, .int .i64 c] w fun e w' => e = .returned (.int .u8 (wgt s d c : Nat)) ∧ w' = w := by
  obtain ⟨h0, h1, h2, h3⟩ := h.shape
  clear h h1 h2 h3
  unfold wgt
  by_cases hd : d = s.D
  · subst hd
    go_enter Tryz.func112, Tryz.ntmps112
    go_wp2
    go_ret
    exact ⟨by simp, rfl⟩
  · have hd' : ((d : Int) == (s.D : Int)) = false := by rw [beq_eq_false_iff_ne]; omega
    rw [if_neg hd]
    clear hd
    go_enter Tryz.func112, Tryz.ntmps112
    go_wp2
    go_loop [7, 8] (fun x i => ∃ k : Nat, k ≤ c ∧ i = .int .i64 k ∧ x = .int .u8 (2 ^ k : Nat)) (fun _ i => c - (intOf i).toNat)
    case atStart => exact ⟨0, by omega, rfl, rfl⟩
    case round =>
      obtain ⟨k, hk, rfl, rfl⟩ := hrel
      by_cases hlt : k < c
      · have hpl : 2 ^ k < 256 := Nat.lt_of_le_of_lt (Nat.pow_le_pow_right (by omega) (by omega) : 2 ^ k ≤ 2 ^ 4) (by omega)
        have HP : Hid (Hd.mul (2 ^ k) 2 = 2 ^ (k + 1)) := pow_step k (by omega)
        generalize hg : 2 ^ k = p at *
        have HG : Hid _ := hg
        clear hg
        go_wp2_with fail
        refine (fmul_any p 2 _ hpl (by omega)).mono ?_
        rintro e w' ⟨rfl, rfl⟩
        go_wp2_with fail
        exact ⟨⟨k + 1, by omega, by go_num, by rw [HP.out]⟩, by simp [intOf]; omega⟩
      · have : k = c := by omega
        subst this
        go_wp2
        go_ret
        exact ⟨rfl, rfl⟩
/-- Is the cell available? -/
def avB (s : Ab) (d r : Nat) : Bool := !s.lost d && !s.ub d r
set_option maxRecDepth 100000 in
set_option maxHeartbeats 1000000 in
theorem has_any (hb : Nat) (s : St) (d r : Nat) (w : World) (h : HoardIn w hb s) (hd : d < 6) (hr : r < 6) :
    Calls Tryz.prog 76 #[.pointer (some ⟨hb, 4 + d * 32, none⟩), .int .i64 r] w fun e w' => e = .returned (.bool (avB s d r)) ∧ w' = w := by
  have h0 := h.lostAt d hd
  have h1 := h.ubAt d r hd hr
  have hri : (r : Int) < 6 := by omega
  clear h hd hr
  unfold avB
  generalize s.lost d = x at *
  generalize s.ub d r = y at *
  go_enter Tryz.func76, Tryz.ntmps76
  cases x
  · go_wp2
    go_ret
    exact ⟨by simp, rfl⟩
  · go_wp2
    go_ret
    exact ⟨rfl, rfl⟩
def blkFirst (a : Nat) : Nat := a / 4
def blkEnd (a n : Nat) : Nat := if n = 0 then a / 4 else (a + n - 1) / 4 + 1
set_option maxRecDepth 100000 in
set_option maxHeartbeats 1000000 in
theorem blocks_any (a n : Nat) (w : World) (ha : a ≤ 1000) (hn : n ≤ 1000) :
    Calls Tryz.prog 79 #[.int .i64 a, .int .i64 n] w fun e w' => e = .returned (.tuple #[.int .i64 (a / 4 : Nat), .int .i64 (blkEnd a n : Nat)]) ∧ w' = w := by
  unfold blkEnd
  by_cases h : n = 0
  · subst h
    go_enter Tryz.func79, Tryz.ntmps79
    go_wp2
    go_ret2
    exact ⟨by first | rfl | (simp; done) | (simp; have := HQ.out; omega), rfl⟩
  · have hne : ((n : Int) == 0) = false := by rw [beq_eq_false_iff_ne]; omega
    rw [if_neg h]
    have HQ : Hid (((a : Int) + n - 1) / 4 = (((a + n - 1) / 4 : Nat) : Int)) := (show _ = _ by omega)
    have hp : (0 : Int) ≤ (a : Int) + n - 1 := by omega
    clear h
    go_enter Tryz.func79, Tryz.ntmps79
    go_wp2
    go_ret2
    exact ⟨by first | rfl | (simp; done) | (simp; have := HQ.out; omega), rfl⟩
/-- How many of the first n rows are not built. -/
def ubCount (s : Ab) (d : Nat) : Nat → Nat
  | 0 => 0
  | n + 1 => ubCount s d n + if s.ub d n then 1 else 0
theorem ubCount_le (s : Ab) (d n : Nat) : ubCount s d n ≤ n := by
  induction n with
  | zero => exact Nat.le_refl _
  | succ n ih => unfold ubCount; split <;> omega
set_option maxRecDepth 100000 in
set_option maxHeartbeats 1000000 in
theorem countUnbuilt_any (hb : Nat) (s : St) (d : Nat) (w : World) (h : HoardIn w hb s) (hd : d < 6) :
    Calls Tryz.prog 73 #[.pointer (some ⟨hb, 4 + d * 32, none⟩)] w fun e w' => e = .returned (.int .i64 (ubCount s d 6 : Nat)) ∧ w' = w := by
  have HU : Hid (∀ r, r < 6 → w.cell? ⟨hb, 4 + d * 32 + 1 + r, none⟩ = some (.bool (s.ub d r))) := fun r hr => h.ubAt d r hd hr
  clear h
  go_enter Tryz.func73, Tryz.ntmps73
  go_wp2
  go_loop [3, 4] (fun n i => ∃ k : Nat, k ≤ 6 ∧ i = .int .i64 k ∧ n = .int .i64 (ubCount s d k : Nat)) (fun _ i => 6 - (intOf i).toNat)
  case atStart => exact ⟨0, by omega, rfl, rfl⟩
  case round =>
    obtain ⟨k, hk, rfl, rfl⟩ := hrel
    have hle := ubCount_le s d k
    by_cases hlt : k < 6
    · have hu := HU.out k hlt
      have hki : (k : Int) < 6 := by omega
      have HS : Hid (ubCount s d (k + 1) = ubCount s d k + if s.ub d k then 1 else 0) := rfl
      generalize ubCount s d k = x at *
      generalize s.ub d k = y at *
      cases y
      · go_wp2
        exact ⟨⟨k + 1, by omega, by go_num, by rw [HS.out]; simp⟩, by simp [intOf]; omega⟩
      · go_wp2
        exact ⟨⟨k + 1, by omega, by go_num, by rw [HS.out]; simp⟩, by simp [intOf]; omega⟩
    · have : k = 6 := by omega
      subst this
      go_wp2
      go_ret
      exact ⟨rfl, rfl⟩
end Go.Proofs.YtfpoiikhhjdpdaaGreat

/- append on rows of one's own, by element type; a log and what it gives. -/
namespace Go.Proofs.YtfpoiikhhjdpdaaGreat
open Go.RowKit
theorem info_of {P : Program} {t : TypeId} {z : Option Value} {n b : Nat} (h : (P.info? t).map (fun i => (i.zero, i.size, i.bytes)) = some (z, n, b)) : ∃ i, P.info? t = some i ∧ i.zero = z ∧ i.size = n ∧ i.bytes = b := by
  cases hi : P.info? t with
  | none => simp [hi] at h
  | some i => simp [hi] at h; exact ⟨i, rfl, h.1, h.2.1, h.2.2⟩
def AppInfo (t e : TypeId) (size bytes : Nat) : Prop := ∃ i z, Tryz.prog.underlying t = some (.slice e) ∧ Tryz.prog.info? e = some i ∧ i.zero = some z ∧ i.size = size ∧ i.bytes = bytes ∧ z.cells.size = size ∧ 0 < size
theorem appRec : AppInfo 46 92 5 16 := by
  have h : (Tryz.prog.info? 92).map (fun i => (i.zero, i.size, i.bytes)) = some (some (.agg #[.int .i64 0, .int .u8 0, .int .u8 0, .int .u8 0, .int .u8 0]), 5, 16) := by kernel_rfl
  obtain ⟨i, h1, h2, h3, h4⟩ := info_of h
  exact ⟨i, _, Tryz.underlying46, h1, h2, h3, h4, rfl, by omega⟩
/-- append: 'w'.ownsRow' of the new list; where it lies. -/
theorem wpl_append {t e size bytes : Nat} (hI : AppInfo t e size bytes) {ops : Array Oper} {rest : List Oper} {o : Oper} {a : Act} {Q : Exit → Act → World → Prop} {w : World} (hgd : o.guard = none) (s x : Operand)
    (ho : o.op = .call { callee := .builtin .append, args := #[s, x], argTypes := #[t, t] }) (base : Nat)
    (v : Value) (n : Nat) (xs : List Value) (hs : a.eval s = v) (hown : w.ownsRow base e size v n xs)
    (ad : Addr) (m c : Nat) (news : List Value) (hx : a.eval x = .slice (some ad) m c) (hl : news.length = m * size) (hnews : ∀ j u, news[j]? = some u → w.cell? (ad.add j) = some u) (h1 : ∀ u ∈ news, u.oneCell' = true)
    (h63 : n + m ≤ maxLen) (hbytes : (n + m) * bytes ≤ 140737488355328) (hbase : base ≤ w.heap.size)
    (h : ∀ v' w', w'.ownsRow base e size v' (n + m) (xs ++ news) → w.grownBy w' v.ownBlock → (v'.ownBlock = v.ownBlock ∨ v'.ownBlock = some w.heap.size) → wpList Tryz.prog ops Q rest (a.put o.dst v') w') :
    wpList Tryz.prog ops Q (o :: rest) a w := by
  obtain ⟨i, z, g1, g2, g3, g4, g5, g6, g7⟩ := hI
  exact wpList_append_own_at w hgd s x t ho base e i z size bytes g1 g2 g3 g4 g5 g6 g7 v n xs hs hown ad m c news hx hl hnews h1 h63 hbytes hbase (fun v' w' a b _ c => h v' w' a b c)
theorem isDrive_b (hb : Nat) (s : St) (d : Int) (w : World) (h : HoardIn w hb s) :
    Calls Tryz.prog 72 #[.pointer (some ⟨hb, 0, none⟩), .int .i64 d] w fun e w' => e = .returned (.bool (isDriveB s d)) ∧ Below w.heap.size w w' ∧ HoardIn w' hb s :=
  (isDrive_any hb s d w h).mono fun _ _ ⟨he, n, hw⟩ => ⟨he, hw ▸ below_drewN (Below.refl _ _) n, hw ▸ h.drewN n⟩
theorem isParity_b (hb : Nat) (s : St) (d : Int) (w : World) (h : HoardIn w hb s) :
    Calls Tryz.prog 78 #[.pointer (some ⟨hb, 0, none⟩), .int .i64 d] w fun e w' => e = .returned (.bool (isParityB s d)) ∧ Below w.heap.size w w' ∧ HoardIn w' hb s :=
  (isParity_any hb s d w h).mono fun _ _ ⟨he, n, hw⟩ => ⟨he, hw ▸ below_drewN (Below.refl _ _) n, hw ▸ h.drewN n⟩
theorem LogAt.form {w : World} {v : Value} {l : List Rec} (h : LogAt w v l) : (v = .slice none 0 0 ∧ l = []) ∨ ∃ g cap, v = .slice (some ⟨g, 0, none⟩) l.length cap ∧ l.length ≤ cap ∧ g < w.heap.size ∧ ∀ j u, (recCells l)[j]? = some u → w.cell? ((⟨g, 0, none⟩ : Addr).add j) = some u := by
  rcases h.2 with ⟨rfl, h1⟩ | ⟨g, cap, cur, rfl, hb, hg, rest⟩
  · exact .inl ⟨rfl, List.eq_nil_of_length_eq_zero h1⟩
  · exact .inr ⟨g, cap, rfl, rest.1, (Array.getElem?_eq_some_iff.1 hg).1, World.ownsRow.cells h rfl⟩
theorem recCells_one (l : List Rec) : ∀ u ∈ recCells l, u.oneCell' = true := by
  intro u hu
  simp only [recCells, List.mem_flatMap, Rec.cells] at hu
  obtain ⟨r, _, hu⟩ := hu
  simp at hu
  rcases hu with rfl | rfl | rfl | rfl | rfl <;> rfl
theorem addr_add (b o j : Nat) : (⟨b, o, none⟩ : Addr).add j = ⟨b, o + j, none⟩ := by
  unfold Addr.add
  split
  · simp_all
  · rfl
theorem grown_below {w w' : World} {v : Value} {B : Nat} (h : w.grownBy w' v.ownBlock) (hB : B ≤ w.heap.size) (hv : ∀ k, v.ownBlock = some k → B ≤ k) : Below B w w' :=
  (Below.refl _ _).grown h hB hv
theorem appInt : AppInfo 24 3 1 8 := by
  have h : (Tryz.prog.info? 3).map (fun i => (i.zero, i.size, i.bytes)) = some (some (.int .i64 0), 1, 8) := by kernel_rfl
  obtain ⟨i, h1, h2, h3, h4⟩ := info_of h
  exact ⟨i, _, Tryz.underlying24, h1, h2, h3, h4, rfl, by omega⟩
def intsOf (l : List Nat) : List Value := l.map (fun x => .int .i64 (x : Nat))
theorem intsOf_length (l : List Nat) : (intsOf l).length = l.length := by unfold intsOf; rw [List.length_map]
theorem intsOf_get (l : List Nat) (i : Nat) (h : i < l.length) : (intsOf l)[i]? = some (.int .i64 (l.getD i 0 : Nat)) := by
  unfold intsOf
  rw [List.getElem?_map, List.getElem?_eq_getElem h]
  simp [List.getD_eq_getElem?_getD, h]

theorem recCells_get (l : List Rec) (k : Nat) (hk : k < l.length) : ∃ r, l[k]? = some r ∧ (recCells l)[k * 5]? = some (.int .i64 r.row) ∧ (recCells l)[k * 5 + 1]? = some (.int .u8 r.c.b0) ∧ (recCells l)[k * 5 + 2]? = some (.int .u8 r.c.b1) ∧ (recCells l)[k * 5 + 3]? = some (.int .u8 r.c.b2) ∧ (recCells l)[k * 5 + 4]? = some (.int .u8 r.c.b3) := by
  induction l generalizing k with
  | nil => simp at hk
  | cons r l ih =>
    cases k with
    | zero => exact ⟨r, rfl, rfl, rfl, rfl, rfl, rfl⟩
    | succ k =>
      obtain ⟨r', h0, h1, h2, h3, h4, h5⟩ := ih k (by simpa using hk)
      have e : ∀ j, (recCells (r :: l))[(k + 1) * 5 + j]? = (recCells l)[k * 5 + j]? := by
        intro j
        have : recCells (r :: l) = r.cells ++ recCells l := rfl
        rw [this, List.getElem?_append_right (by simp [Rec.cells]; omega)]
        congr 1
        simp [Rec.cells]; omega
      exact ⟨r', by simpa using h0, by simpa using (e 0).trans h1, (e 1).trans h2, (e 2).trans h3, (e 3).trans h4, (e 4).trans h5⟩
theorem LogAt.slice {w : World} {v : Value} {l : List Rec} (h : LogAt w v l) : ∃ p cap, v = .slice p l.length cap ∧ ∀ k, k < l.length → ∃ g x, p = some ⟨g, 0, none⟩ ∧ g < w.heap.size ∧ l[k]? = some x ∧ w.cell? ⟨g, k * 5, none⟩ = some (.int .i64 x.row) ∧ w.cell? ⟨g, k * 5 + 1, none⟩ = some (.int .u8 x.c.b0) ∧ w.cell? ⟨g, k * 5 + 2, none⟩ = some (.int .u8 x.c.b1) ∧ w.cell? ⟨g, k * 5 + 3, none⟩ = some (.int .u8 x.c.b2) ∧ w.cell? ⟨g, k * 5 + 4, none⟩ = some (.int .u8 x.c.b3) := by
  rcases h.form with ⟨rfl, rfl⟩ | ⟨g, cap, rfl, hcap, hg, hc⟩
  · exact ⟨none, 0, rfl, fun k hk => by simp at hk⟩
  · refine ⟨_, cap, rfl, fun k hk => ?_⟩
    obtain ⟨r, hr, x0, x1, x2, x3, x4⟩ := recCells_get l k hk
    have cc : ∀ j u, (recCells l)[j]? = some u → w.cell? ⟨g, j, none⟩ = some u := fun j u h => by
      have := hc j u h
      rwa [addr_add, Nat.zero_add] at this
    exact ⟨g, r, rfl, hg, hr, cc _ _ x0, cc _ _ x1, cc _ _ x2, cc _ _ x3, cc _ _ x4⟩
end Go.Proofs.YtfpoiikhhjdpdaaGreat
