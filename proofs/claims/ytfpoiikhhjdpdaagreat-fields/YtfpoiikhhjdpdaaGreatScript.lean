/- A script that came in, opened: its steps by their index. -/
import Derived.Test.YtfpoiikhhjdpdaaGreatRows
import Derived.Test.YtfpoiikhhjdpdaaGreatPlays
import Derived.WalkKit
import Derived.ProofKit
import Derived.OpenShut
import Derived.Deep.Slices
namespace Go.Proofs.YtfpoiikhhjdpdaaGreat
open Go.ChangeShapes Go.WideShapes Go.ChangeAt Go.RowKit Go.Deep
theorem cellsOp : Tryz.prog.cellsOf 35 = 7 := by kernel_rfl
theorem cellsInt : Tryz.prog.cellsOf 3 = 1 := by kernel_rfl
theorem cellsStr : Tryz.prog.cellsOf 9 = 1 := by kernel_rfl
def OpV.ok (o : OpV) : Prop :=
  (Lit.int .i64 o.k).wf = true ∧ (Lit.int .i64 o.a).wf = true ∧ (Lit.int .i64 o.b).wf = true ∧ (Lit.int .i64 o.c).wf = true ∧ (Lit.int .i64 o.d).wf = true ∧ (Lit.int .i64 o.e).wf = true ∧ o.s.size ≤ maxLen
def OpV.data {H : Type} (o : OpV) : DataW H := .agg [.lit (.int .i64 o.k), .lit (.int .i64 o.a), .lit (.int .i64 o.b), .lit (.int .i64 o.c), .lit (.int .i64 o.d), .lit (.int .i64 o.e), .lit (.string o.s.data.toList)]
set_option maxRecDepth 100000 in
theorem open_ops {H : Type} {enc : TypeId × Value → H} {W : World} {a0 : Option Addr} {len cap : Nat} {d : DataW H} {ps : List MemPlace}
    (h : DataW.Trod enc Tryz.prog W 0 (fun _ => true) true 22 (.slice a0 len cap) d ps) :
    len ≤ maxLen ∧ ∃ ops : Nat → OpV, ScriptAt W a0 len ops ∧ (∀ i, i < len → (ops i).ok) ∧ (len = 0 ∨ ∃ sp, d = .slice ((List.range len).map fun i => (ops i).data) sp) := by
  obtain ⟨fuel, hf⟩ := h
  rcases open_slice Tryz.underlying22 hf with ⟨hcs, _⟩ | ⟨a, l, c, m, n, D, Pl, hcs, _, hl, hm, hmm, hx, hel⟩
  · simp [Value.cells] at hcs
    obtain ⟨rfl, rfl, rfl⟩ := hcs
    exact ⟨by omega, fun _ => ⟨0, 0, 0, 0, 0, 0, ByteArray.empty⟩, fun i hi => by omega, fun i hi => by omega, .inl rfl⟩
  · simp [Value.cells] at hcs
    obtain ⟨rfl, rfl, rfl⟩ := hcs
    simp only [if_true] at hmm
    subst hmm
    obtain ⟨b, o, spot⟩ := a
    have hspot : 0 < len → spot = none := by
      intro hp
      obtain ⟨cs', h1, _⟩ := hel 0 (by omega)
      rw [cellsOp] at h1
      obtain ⟨_, hlen, hcell⟩ := World.cells?_some h1
      have c0 := hcell 0 (by omega)
      rw [add_add, List.getElem?_eq_getElem (by omega)] at c0
      simpa [Addr.add] using World.cell?_spot c0
    have each : ∀ i, i < len → ∃ q : OpV, spot = none ∧ OpAt W b (o + i * 7) q ∧ q.ok ∧ D i = q.data := by
      intro i hi
      obtain ⟨cs', h1, h2⟩ := hel i (by omega)
      rw [cellsOp] at h1
      obtain ⟨_, hlen, hcell⟩ := World.cells?_some h1
      obtain ⟨xs, k, hk, hxy, _, hxl, hf⟩ := DataW.trod_struct Tryz.underlying35 h2
      have hxl' : xs.length = 7 := hxl
      clear hxl
      match xs, hxl', cs', hlen with
      | [y0, y1, y2, y3, y4, y5, y6], _, [v0, v1, v2, v3, v4, v5, v6], _ =>
        have g0 := hf 0 _ rfl
        have g1 := hf 1 _ rfl
        have g2 := hf 2 _ rfl
        have g3 := hf 3 _ rfl
        have g4 := hf 4 _ rfl
        have g5 := hf 5 _ rfl
        have g6 := hf 6 _ rfl
        simp [cellsInt, cellsStr] at g0 g1 g2 g3 g4 g5 g6
        obtain ⟨z0, e0, rfl, w0⟩ := DataW.trod_int Tryz.underlying3 g0
        obtain ⟨z1, e1, rfl, w1⟩ := DataW.trod_int Tryz.underlying3 g1
        obtain ⟨z2, e2, rfl, w2⟩ := DataW.trod_int Tryz.underlying3 g2
        obtain ⟨z3, e3, rfl, w3⟩ := DataW.trod_int Tryz.underlying3 g3
        obtain ⟨z4, e4, rfl, w4⟩ := DataW.trod_int Tryz.underlying3 g4
        obtain ⟨z5, e5, rfl, w5⟩ := DataW.trod_int Tryz.underlying3 g5
        obtain ⟨z6, e6, rfl, w6⟩ := DataW.trod_string Tryz.underlying9 g6
        simp only [List.cons.injEq, and_true] at e0 e1 e2 e3 e4 e5 e6
        subst e0 e1 e2 e3 e4 e5 e6
        have c0 := hcell 0 (by omega)
        have c1 := hcell 1 (by omega)
        have c2 := hcell 2 (by omega)
        have c3 := hcell 3 (by omega)
        have c4 := hcell 4 (by omega)
        have c5 := hcell 5 (by omega)
        have c6 := hcell 6 (by omega)
        rw [add_add] at c0 c1 c2 c3 c4 c5 c6
        have hs := hspot (by omega)
        subst hs
        have ha : ∀ j, (⟨b, o, none⟩ : Addr).add j = ⟨b, o + j, none⟩ := by
          intro j
          unfold Addr.add
          split
          · simp_all
          · rfl
        rw [ha] at c0 c1 c2 c3 c4 c5 c6
        simp only [List.getElem?_cons_zero, List.getElem?_cons_succ, Nat.add_zero, ← Nat.add_assoc] at c0 c1 c2 c3 c4 c5 c6
        simp only [Prod.mk.injEq] at hxy
        exact ⟨⟨z0, z1, z2, z3, z4, z5, z6⟩, rfl, ⟨c0, c1, c2, c3, c4, c5, c6⟩, ⟨w0, w1, w2, w3, w4, w5, w6⟩, by rw [hxy.1]; rfl⟩
    have inh : Inhabited OpV := ⟨⟨0, 0, 0, 0, 0, 0, ByteArray.empty⟩⟩
    obtain ⟨q, hq⟩ := choose_lt each
    refine ⟨by omega, q, fun i hi => ?_, fun i hi => (hq i hi).2.2.1, .inr ⟨(List.range (m - len)).map fun j => D (len + j), ?_⟩⟩
    · obtain ⟨rfl, h1, _, _⟩ := hq i hi
      exact ⟨b, o, rfl, h1⟩
    · simp only [Prod.mk.injEq] at hx
      rw [hx.1, List.map_congr_left fun i hi => (hq i (List.mem_range.1 hi)).2.2.2]
end Go.Proofs.YtfpoiikhhjdpdaaGreat
