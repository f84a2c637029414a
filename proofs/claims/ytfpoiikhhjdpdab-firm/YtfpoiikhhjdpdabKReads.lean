/- hoardkeep: all bytes are read; moves that came in. -/
import Derived.Test.YtfpoiikhhjdpdabKMove
import Derived.Test.YtfpoiikhhjdpdabRows
import Derived.ProofKit
import Derived.OpenShut
import Derived.Deep.Slices
namespace Go.Proofs.Ytfpoiikhhjdpdab
open Go.RowKit
set_option linter.unusedVariables false
attribute [local go_sem ↓] Go.wp_at_zero Go.wp_at_succ
set_option maxRecDepth 100000 in
set_option maxHeartbeats 2000000 in
theorem reads_any {w0 : World} (kb bb hb : Nat) (s : St) (f : Nat → Nat) (V : Nat → Value) (lo : Nat → Bool) (bu : Nat → Nat → Bool) (w : World) (h : KeepAt w0 w kb bb hb s f V lo bu) (hi : KInv s f lo bu) :
    Calls Try.prog 20 #[.pointer (some ⟨kb, 0, none⟩)] w fun e w' => e = .returned (.bool true) ∧ Below w.heap.size w w' := by
  obtain ⟨hs, hs4⟩ := h.size
  have hf : ∀ i, i < s.D * s.R * 4 → byteAt s i = f i := fun i hlt => hi.bytes i hlt
  obtain ⟨c0, _, _, _, _, c5, _⟩ := h.cells
  have hlt := h.row.lt
  have HK : Hid (KeepAt w0 w kb bb hb s f V lo bu) := h
  have HF : Hid (∀ i, i < s.D * s.R * 4 → byteAt s i = f i) := hf
  have HRD : Hid (∀ W, HoardAt W hb s → Calls Try.prog 21 #[.pointer (some ⟨hb, 0, none⟩), .int .i64 0, .int .i64 ((s.D * s.R * 4 : Nat) : Int)] W fun e w' => ∃ g, e = .returned (.tuple #[.slice (some ⟨g, 0, none⟩) (s.D * s.R * 4) (s.D * s.R * 4), .int .i64 0]) ∧ W.heap.size ≤ g ∧ w'.rowIs g 5 (s.D * s.R * 4) (fun i => .int .u8 (byteAt s (0 + i) : Nat)) ∧ Below W.heap.size W w') := fun W hW => Read_ok hb s 0 _ W hW (hasB_of h (by omega)) (noGone hW.ok (by omega) hi.good)
  generalize hN : s.D * s.R * 4 = N at *
  clear h hf hi
  go_enter Try.func20, Try.ntmps20
  go_wp2_with fail
  go_region_with ((go_at_call 21; go_must (refine (HRD.out _ ?_).mono ?_; (exact HK.out.hoard.of_block (fun _ _ => rfl)); rintro e w1 ⟨g, rfl, hg, hrow, k1⟩)))
  all_goals
    have K1 : Below w.heap.size w w1 := ((Below.refl _ _).drew).trans k1
    have hK1 := HK.out.of_below K1
    have hBB := hK1.bytesAt
    have c5' := hK1.cells.2.2.2.2.2.1
    rw [hN] at hBB c5'
    have hRB : BytesAt w1 (some ⟨g, 0, none⟩) N f := fun i hi => ⟨g, 0, rfl, by rw [Nat.zero_add, hrow.cell hi, Nat.zero_add, HF.out i hi], HK.out.bound i⟩
    have hlt1 := hK1.row.lt
    have HBB : Hid (BytesAt w1 (some ⟨bb, 0, none⟩) N f) := hBB
    have HRB : Hid (BytesAt w1 (some ⟨g, 0, none⟩) N f) := hRB
    clear hK1 hBB hRB hrow k1 hg
    go_wp2_with fail
    refine (ksame_eq (some ⟨g, 0, none⟩) (some ⟨bb, 0, none⟩) N N N f w1 (by omega) HRB.out HBB.out).mono ?_
    rintro e w2 ⟨rfl, q, rfl⟩
    go_wp2_with fail
    go_ret
    exact ⟨rfl, below_drewN K1 q⟩
def MvAt (w : World) (b o : Nat) (x : MvV) : Prop :=
  w.cell? ⟨b, o, none⟩ = some (.int .i64 x.k) ∧ w.cell? ⟨b, o + 1, none⟩ = some (.int .i64 x.a) ∧ w.cell? ⟨b, o + 2, none⟩ = some (.int .i64 x.b) ∧ w.cell? ⟨b, o + 3, none⟩ = some (.string x.s)
def MovesAt (w : World) (a0 : Option Addr) (n : Nat) (mv : Nat → MvV) : Prop := ∀ i, i < n → ∃ b o, a0 = some ⟨b, o, none⟩ ∧ MvAt w b (o + i * 4) (mv i)
theorem MovesAt.below {w w' : World} {a0 : Option Addr} {n : Nat} {mv : Nat → MvV} (h : MovesAt w a0 n mv) (hb : Below w.heap.size w w') : MovesAt w' a0 n mv := by
  intro i hi
  obtain ⟨b, o, e, h0, h1, h2, h3⟩ := h i hi
  exact ⟨b, o, e, below_cell hb h0, below_cell hb h1, below_cell hb h2, below_cell hb h3⟩
def MvV.data {H : Type} (o : MvV) : DataW H := .agg [.lit (.int .i64 o.k), .lit (.int .i64 o.a), .lit (.int .i64 o.b), .lit (.string o.s.data.toList)]
theorem cellsMv : Try.prog.cellsOf 30 = 4 := by kernel_rfl
theorem cellsI : Try.prog.cellsOf 3 = 1 := by kernel_rfl
theorem cellsS : Try.prog.cellsOf 9 = 1 := by kernel_rfl
open Go.ChangeShapes Go.WideShapes Go.ChangeAt Go.Deep in
set_option maxRecDepth 100000 in
theorem open_moves {H : Type} {enc : TypeId × Value → H} {W : World} {a0 : Option Addr} {len cap : Nat} {d : DataW H} {ps : List MemPlace}
    (h : DataW.Trod enc Try.prog W 0 (fun _ => true) true 22 (.slice a0 len cap) d ps) :
    len ≤ maxLen ∧ ∃ mv : Nat → MvV, MovesAt W a0 len mv ∧ (∀ i, i < len → (mv i).ok) ∧ (len = 0 ∨ ∃ sp, d = .slice ((List.range len).map fun i => (mv i).data) sp) := by
  obtain ⟨fuel, hf⟩ := h
  rcases open_slice Try.underlying22 hf with ⟨hcs, _⟩ | ⟨a, l, c, m, n, D, Pl, hcs, _, hl, hm, hmm, hx, hel⟩
  · simp [Value.cells] at hcs
    obtain ⟨rfl, rfl, rfl⟩ := hcs
    exact ⟨by omega, fun _ => ⟨0, 0, 0, ByteArray.empty⟩, fun i hi => by omega, fun i hi => by omega, .inl rfl⟩
  · simp [Value.cells] at hcs
    obtain ⟨rfl, rfl, rfl⟩ := hcs
    simp only [if_true] at hmm
    subst hmm
    obtain ⟨b, o, spot⟩ := a
    have hspot : 0 < len → spot = none := by
      intro hp
      obtain ⟨cs', h1, _⟩ := hel 0 (by omega)
      rw [cellsMv] at h1
      obtain ⟨_, hlen, hcell⟩ := World.cells?_some h1
      have c0 := hcell 0 (by omega)
      rw [add_add, List.getElem?_eq_getElem (by omega)] at c0
      simpa [Addr.add] using World.cell?_spot c0
    have each : ∀ i, i < len → ∃ q : MvV, spot = none ∧ MvAt W b (o + i * 4) q ∧ q.ok ∧ D i = q.data := by
      intro i hi
      obtain ⟨cs', h1, h2⟩ := hel i (by omega)
      rw [cellsMv] at h1
      obtain ⟨_, hlen, hcell⟩ := World.cells?_some h1
      obtain ⟨xs, k, hk, hxy, _, hxl, hf⟩ := DataW.trod_struct Try.underlying30 h2
      have hxl' : xs.length = 4 := hxl
      clear hxl
      match xs, hxl', cs', hlen with
      | [y0, y1, y2, y3], _, [v0, v1, v2, v3], _ =>
        have g0 := hf 0 _ rfl
        have g1 := hf 1 _ rfl
        have g2 := hf 2 _ rfl
        have g3 := hf 3 _ rfl
        simp [cellsI, cellsS] at g0 g1 g2 g3
        obtain ⟨z0, e0, rfl, w0⟩ := DataW.trod_int Try.underlying3 g0
        obtain ⟨z1, e1, rfl, w1⟩ := DataW.trod_int Try.underlying3 g1
        obtain ⟨z2, e2, rfl, w2⟩ := DataW.trod_int Try.underlying3 g2
        obtain ⟨z3, e3, rfl, w3⟩ := DataW.trod_string Try.underlying9 g3
        simp only [List.cons.injEq, and_true] at e0 e1 e2 e3
        subst e0 e1 e2 e3
        have c0 := hcell 0 (by omega)
        have c1 := hcell 1 (by omega)
        have c2 := hcell 2 (by omega)
        have c3 := hcell 3 (by omega)
        rw [add_add] at c0 c1 c2 c3
        have hs := hspot (by omega)
        subst hs
        rw [addr_add] at c0 c1 c2 c3
        simp only [List.getElem?_cons_zero, List.getElem?_cons_succ, Nat.add_zero, ← Nat.add_assoc] at c0 c1 c2 c3
        simp only [Prod.mk.injEq] at hxy
        exact ⟨⟨z0, z1, z2, z3⟩, rfl, ⟨c0, c1, c2, c3⟩, ⟨w0, w1, w2, w3⟩, by rw [hxy.1]; rfl⟩
    have inh : Inhabited MvV := ⟨⟨0, 0, 0, ByteArray.empty⟩⟩
    obtain ⟨q, hq⟩ := choose_lt each
    refine ⟨by omega, q, fun i hi => ?_, fun i hi => (hq i hi).2.2.1, .inr ⟨(List.range (m - len)).map fun j => D (len + j), ?_⟩⟩
    · obtain ⟨rfl, h1, _, _⟩ := hq i hi
      exact ⟨b, o, rfl, h1⟩
    · simp only [Prod.mk.injEq] at hx
      rw [hx.1, List.map_congr_left fun i hi => (hq i (List.mem_range.1 hi)).2.2.2]
end Go.Proofs.Ytfpoiikhhjdpdab
