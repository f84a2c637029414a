/- A world of hoardkeep: its hoard, its bytes, its lists. -/
import Derived.Test.YtfpoiikhhjdpdabBegin
namespace Go.Proofs.Ytfpoiikhhjdpdab
open Go.RowKit
set_option linter.unusedVariables false
attribute [local go_sem ↓] Go.wp_at_zero Go.wp_at_succ
theorem heap_setCell_same {w : World} {g : Nat} {cur : Array Value} {e : TypeId} {fz : Nat × Nat} (h : w.heap[g]? = some (.cells cur e fz)) (i : Nat) (x : Value) : (w.setCell ⟨g, i, none⟩ x).heap[g]? = some (.cells (cur.setIfInBounds i x) e fz) := by
  simp only [World.setCell]
  rw [Array.getElem?_modify, if_pos rfl, h]
  rfl
/-- A cell of a row of one's own is set. -/
theorem own_set {w : World} {base e n : Nat} {v : Value} {xs : List Value} (h : w.ownsRow base e 1 v n xs) (i : Nat) (hi : i < n) (x : Value) (g cap : Nat) (hv : v = .slice (some ⟨g, 0, none⟩) n cap) : (w.setCell ⟨g, i, none⟩ x).ownsRow base e 1 v n (xs.set i x) := by
  refine ⟨by rw [List.length_set]; exact h.1, ?_⟩
  rcases h.2 with ⟨h1, h2⟩ | ⟨g', cap', cur, h1, hb, hg, hc, hm, hs, ht⟩
  · omega
  · rw [hv] at h1
    simp only [Value.slice.injEq, Option.some.injEq, Addr.mk.injEq] at h1
    obtain ⟨⟨rfl, _⟩, _, rfl⟩ := h1
    refine .inr ⟨g, cap, cur.setIfInBounds i x, hv, hb, heap_setCell_same hg i x, hc, hm, by simpa using hs, ?_⟩
    rw [Array.toList_setIfInBounds, List.take_set, ht]
/-- In a family of rows. -/
theorem Fam.setOne {w : World} {m : Nat} {V : Nat → Value} {E : Nat → Nat} {X : Nat → List Value} {B : Nat → Prop} (h : Fam w m V E X B) (i : Nat) (hi : i < m) (k : Nat) (hk : k < (X i).length) (x : Value) (g cap : Nat) (hv : V i = .slice (some ⟨g, 0, none⟩) (X i).length cap) : Fam (w.setCell ⟨g, k, none⟩ x) m V E (upd X i ((X i).set k x)) B := by
  refine ⟨fun j hj => ?_, h.apart, h.out⟩
  by_cases e : j = i
  · subst e
    rw [upd_same, List.length_set]
    exact own_set (h.own j hj) k hk x g cap hv
  · rw [upd_other _ _ e]
    refine ownsRow_of_block (h.own j hj) (fun g' hg' => Below.heap_setCell _ _ _ _ (fun e' => ?_))
    refine h.apart i j g hi hj (fun e2 => e e2.symm) (by rw [hv]; rfl) ?_
    rw [hg', e']
def keepX (s : St) (V : Nat → Value) (lo : Nat → Bool) (bu : Nat → Nat → Bool) (i : Nat) : List Value :=
  if i = 0 then (List.range (s.D + s.P)).map (fun d => .bool (lo d)) else if i = 1 then (List.range (s.D + s.P)).map (fun i => V (2 + i)) else (List.range s.R).map (fun r => .bool (bu (i - 2) r))
theorem keepX_len0 (s : St) (V : Nat → Value) (lo : Nat → Bool) (bu : Nat → Nat → Bool) : (keepX s V lo bu 0).length = s.D + s.P := by unfold keepX; simp
theorem keepX_len1 (s : St) (V : Nat → Value) (lo : Nat → Bool) (bu : Nat → Nat → Bool) : (keepX s V lo bu 1).length = s.D + s.P := by unfold keepX; simp
theorem keepX_len2 (s : St) (V : Nat → Value) (lo : Nat → Bool) (bu : Nat → Nat → Bool) (d : Nat) : (keepX s V lo bu (2 + d)).length = s.R := by unfold keepX; rw [if_neg (by omega), if_neg (by omega)]; simp
theorem keepX_get0 (s : St) (V : Nat → Value) (lo : Nat → Bool) (bu : Nat → Nat → Bool) (d : Nat) (hd : d < s.D + s.P) : (keepX s V lo bu 0)[d]? = some (.bool (lo d)) := by unfold keepX; rw [if_pos rfl, List.getElem?_map, List.getElem?_range hd]; rfl
theorem keepX_get1 (s : St) (V : Nat → Value) (lo : Nat → Bool) (bu : Nat → Nat → Bool) (d : Nat) (hd : d < s.D + s.P) : (keepX s V lo bu 1)[d]? = some (V (2 + d)) := by unfold keepX; rw [if_neg (by omega), if_pos rfl, List.getElem?_map, List.getElem?_range hd]; rfl
theorem keepX_get2 (s : St) (V : Nat → Value) (lo : Nat → Bool) (bu : Nat → Nat → Bool) (d r : Nat) (hr : r < s.R) : (keepX s V lo bu (2 + d))[r]? = some (.bool (bu d r)) := by unfold keepX; rw [if_neg (by omega), if_neg (by omega), List.getElem?_map, List.getElem?_range hr, show 2 + d - 2 = d by omega]; rfl
theorem map_set {α : Type} (f : Nat → α) (n k : Nat) (x : α) : ((List.range n).map f).set k x = (List.range n).map (fun i => if i = k then x else f i) := by
  apply List.ext_getElem?
  intro i
  by_cases hi : i < n
  · by_cases e : k = i
    · subst e
      rw [List.getElem?_set_self (by simpa using hi), List.getElem?_map, List.getElem?_range hi]; simp
    · rw [List.getElem?_set_ne e, List.getElem?_map, List.getElem?_map, List.getElem?_range hi]
      simp only [Option.map_some]
      rw [if_neg (fun e2 => e e2.symm)]
  · rw [List.getElem?_eq_none (by simp; omega), List.getElem?_eq_none (by simp; omega)]
def setLo (lo : Nat → Bool) (d : Nat) (b : Bool) : Nat → Bool := fun d' => if d' = d then b else lo d'
def setBu (bu : Nat → Nat → Bool) (d r : Nat) (b : Bool) : Nat → Nat → Bool := fun d' r' => if d' = d ∧ r' = r then b else bu d' r'
theorem keepX_setLo (s : St) (V : Nat → Value) (lo : Nat → Bool) (bu : Nat → Nat → Bool) (d : Nat) (b : Bool) : upd (keepX s V lo bu) 0 ((keepX s V lo bu 0).set d (.bool b)) = keepX s V (setLo lo d b) bu := by
  funext i
  by_cases e : i = 0
  · subst e
    rw [upd_same]
    unfold keepX
    rw [if_pos rfl, if_pos rfl, map_set]
    congr 1; funext i; unfold setLo; split <;> rfl
  · rw [upd_other _ _ e]
    unfold keepX
    rw [if_neg e, if_neg e]
theorem keepX_setBu (s : St) (V : Nat → Value) (lo : Nat → Bool) (bu : Nat → Nat → Bool) (d r : Nat) (b : Bool) : upd (keepX s V lo bu) (2 + d) ((keepX s V lo bu (2 + d)).set r (.bool b)) = keepX s V lo (setBu bu d r b) := by
  funext i
  by_cases e : i = 2 + d
  · subst e
    rw [upd_same]
    unfold keepX
    rw [if_neg (by omega), if_neg (by omega), if_neg (by omega), if_neg (by omega), map_set]
    congr 1; funext i; unfold setBu
    rw [show 2 + d - 2 = d by omega]
    by_cases e2 : i = r
    · rw [if_pos e2, if_pos ⟨rfl, e2⟩]
    · rw [if_neg e2, if_neg (fun h => e2 h.2)]
  · rw [upd_other _ _ e]
    unfold keepX
    by_cases e0 : i = 0
    · rw [if_pos e0, if_pos e0]
    · rw [if_neg e0, if_neg e0]
      by_cases e1 : i = 1
      · rw [if_pos e1, if_pos e1]
      · rw [if_neg e1, if_neg e1]
        congr 1; funext r'; unfold setBu
        rw [if_neg (by omega)]
structure KeepAt (w0 w : World) (kb bb hb : Nat) (s : St) (f : Nat → Nat) (V : Nat → Value) (lo : Nat → Bool) (bu : Nat → Nat → Bool) : Prop where
  fam : Fam w (2 + (s.D + s.P)) V famE (keepX s V lo bu) (fun g => g = kb ∨ g = bb ∨ Foot hb s g)
  row : w.rowIs kb 37 8 (kv hb s bb (V 0) (V 1))
  bytes : w.rowIs bb 5 (s.D * s.R * 4) (fun i => .int .u8 (f i : Nat))
  bound : ∀ i, f i < 256
  hoard : HoardAt w hb s
  ne : kb ≠ bb ∧ ¬ Foot hb s kb ∧ ¬ Foot hb s bb
  low : w0.heap.size ≤ kb ∧ w0.heap.size ≤ bb ∧ (∀ g, Foot hb s g → w0.heap.size ≤ g) ∧ (∀ i g, i < 2 + (s.D + s.P) → (V i).ownBlock = some g → w0.heap.size ≤ g)
  below : Below w0.heap.size w0 w
/-- What a world owns. -/
def KFoot (kb bb hb : Nat) (s : St) (V : Nat → Value) (k : Nat) : Prop := k = kb ∨ k = bb ∨ Foot hb s k ∨ ∃ i, i < 2 + (s.D + s.P) ∧ (V i).ownBlock = some k
theorem KeepAt.lt {w0 w : World} {kb bb hb : Nat} {s : St} {f : Nat → Nat} {V : Nat → Value} {lo : Nat → Bool} {bu : Nat → Nat → Bool} (h : KeepAt w0 w kb bb hb s f V lo bu) {k : Nat} (hk : KFoot kb bb hb s V k) : k < w.heap.size := by
  rcases hk with rfl | rfl | hk | ⟨i, hi, hk⟩
  · exact h.row.lt
  · exact h.bytes.lt
  · exact h.hoard.foot_lt hk
  · exact h.fam.lt hi hk
theorem KeepAt.of_kept {w0 w w' : World} {kb bb hb : Nat} {s : St} {f : Nat → Nat} {V : Nat → Value} {lo : Nat → Bool} {bu : Nat → Nat → Bool} {S : Nat → Prop} (h : KeepAt w0 w kb bb hb s f V lo bu) (k : Kept S w w') (hS : ∀ g, KFoot kb bb hb s V g → ¬ S g) (hl : ∀ g, S g → w0.heap.size ≤ g) : KeepAt w0 w' kb bb hb s f V lo bu :=
  ⟨h.fam.kept k (fun i g hi hg => hS g (.inr (.inr (.inr ⟨i, hi, hg⟩)))), k.row (hS kb (.inl rfl)) h.row, k.row (hS bb (.inr (.inl rfl))) h.bytes, h.bound, h.hoard.kept k (fun i hi => hS i (.inr (.inr (.inl hi)))), h.ne, h.low,
    h.below.trans ⟨k.os, k.tape, k.output, k.size, fun g hg => k.block g (Nat.lt_of_lt_of_le hg h.below.size) (fun hs => by have := hl g hs; omega)⟩⟩
theorem KeepAt.of_below {w0 w w' : World} {kb bb hb : Nat} {s : St} {f : Nat → Nat} {V : Nat → Value} {lo : Nat → Bool} {bu : Nat → Nat → Bool} (h : KeepAt w0 w kb bb hb s f V lo bu) (k : Below w.heap.size w w') : KeepAt w0 w' kb bb hb s f V lo bu :=
  h.of_kept (S := fun _ => False) (Kept.of_below k) (fun _ _ hs => hs) (fun _ hs => hs.elim)
/-- The hoard goes on. -/
theorem KeepAt.went {w0 w w' : World} {kb bb hb : Nat} {s s' : St} {f : Nat → Nat} {V : Nat → Value} {lo : Nat → Bool} {bu : Nat → Nat → Bool} (h : KeepAt w0 w kb bb hb s f V lo bu) (k : Went hb s w s' w') (h1 : s'.D = s.D) (h2 : s'.P = s.P) (h3 : s'.R = s.R) (h4 : s'.M = s.M) : KeepAt w0 w' kb bb hb s' f V lo bu := by
  have hX : keepX s' V lo bu = keepX s V lo bu := by funext i; unfold keepX; rw [h1, h2, h3]
  have hkv : kv hb s' bb (V 0) (V 1) = kv hb s bb (V 0) (V 1) := by funext i; unfold kv; rw [h1, h2, h3, h4]
  refine ⟨?_, ?_, ?_, h.bound, k.at', ?_, ?_, ?_⟩
  · rw [hX, h1, h2]
    have hf := h.fam.kept k.kept (fun i g hi hg hs => h.fam.out i g hi hg (.inr (.inr hs)))
    refine ⟨hf.own, hf.apart, fun i g hi hg hB => ?_⟩
    rcases hB with rfl | rfl | hB
    · exact h.fam.out i _ hi hg (.inl rfl)
    · exact h.fam.out i _ hi hg (.inr (.inl rfl))
    · rcases k.foot g hB with h5 | h5
      · exact h.fam.out i g hi hg (.inr (.inr h5))
      · have := h.fam.lt hi hg; omega
  · rw [hkv]; exact k.kept.row h.ne.2.1 h.row
  · rw [h1, h3]; exact k.kept.row h.ne.2.2 h.bytes
  · refine ⟨h.ne.1, fun hh => ?_, fun hh => ?_⟩
    · rcases k.foot _ hh with h5 | h5
      · exact h.ne.2.1 h5
      · have := h.row.lt; omega
    · rcases k.foot _ hh with h5 | h5
      · exact h.ne.2.2 h5
      · have := h.bytes.lt; omega
  · rw [h1, h2]
    refine ⟨h.low.1, h.low.2.1, fun g hg => ?_, h.low.2.2.2⟩
    rcases k.foot g hg with h5 | h5
    · exact h.low.2.2.1 g h5
    · have := h.below.size; omega
  · exact h.below.trans ⟨k.kept.os, k.kept.tape, k.kept.output, k.kept.size, fun g hg => k.kept.block g (Nat.lt_of_lt_of_le hg h.below.size) (fun hs => by have := h.low.2.2.1 g hs; omega)⟩
/-- A byte is written. -/
theorem KeepAt.setByte {w0 w : World} {kb bb hb : Nat} {s : St} {f : Nat → Nat} {V : Nat → Value} {lo : Nat → Bool} {bu : Nat → Nat → Bool} (h : KeepAt w0 w kb bb hb s f V lo bu) (i v : Nat) (hv : v < 256) : KeepAt w0 (w.setCell ⟨bb, i, none⟩ (.int .u8 (v : Nat))) kb bb hb s (upd f i v) V lo bu := by
  have hk : Kept (fun g => g = bb) w (w.setCell ⟨bb, i, none⟩ (.int .u8 (v : Nat))) := Kept.setCell (S := fun g => g = bb) (Kept.refl _ _) (.inl rfl) _
  refine ⟨h.fam.setB (.inr (.inl rfl)) _, hk.row h.ne.1 h.row, ?_, ?_, h.hoard.kept hk (fun g hg e => h.ne.2.2 (by rwa [e] at hg)), h.ne, h.low, h.below.setCell h.low.2.1 _⟩
  · refine (h.bytes.set i _).congr (fun j hj => ?_)
    by_cases e : j = i
    · subst e; rw [if_pos rfl, upd_same]
    · rw [if_neg e, upd_other _ _ e]
  · intro j
    by_cases e : j = i
    · subst e; rw [upd_same]; exact hv
    · rw [upd_other _ _ e]; exact h.bound j
/-- From begin. -/
theorem map_const {α : Type} (n : Nat) (x : α) : (List.range n).map (fun _ => x) = List.replicate n x := by
  induction n with
  | zero => rfl
  | succ n ih => rw [List.range_succ, List.map_append, ih, List.replicate_succ']; rfl
theorem KeepAt.of_beg {w0 w : World} {kb bb hb sb : Nat} {s : St} {V : Nat → Value} {X : Nat → List Value} (h : Beg w0 w kb bb hb sb s s.R (s.D + s.P) 0 V X) (hlv : ∀ g, Foot hb s g → g = hb) : KeepAt w0 w kb bb hb s (fun _ => 0) V (fun _ => false) (fun _ _ => true) := by
  refine ⟨⟨fun i hi => ?_, fun i j g hi hj => h.fam.apart i j g (by omega) (by omega), fun i g hi hg hB => ?_⟩, h.row, h.bytes, fun _ => by omega, h.hoard, ⟨h.ne.1, h.ne.2.2.2.1, h.ne.2.2.2.2.1⟩, ⟨h.low.1, h.low.2.1, fun g hg => by rw [hlv g hg]; exact h.low.2.2.2, fun i g hi hg => h.base i g (by omega) hg⟩, h.below⟩
  · have h1 := h.fam.own i (by omega)
    have : keepX s V (fun _ => false) (fun _ _ => true) i = X i := by
      unfold keepX
      by_cases e0 : i = 0
      · subst e0; rw [if_pos rfl, h.x0, map_const]
      · by_cases e1 : i = 1
        · subst e1; rw [if_neg (by omega), if_pos rfl, h.x1]
        · rw [if_neg e0, if_neg e1, map_const]
          have := h.x2 (i - 2) (by omega)
          rw [show 2 + (i - 2) = i by omega] at this
          exact this.symm
    rw [this]; exact h1
  · refine h.fam.out i g (by omega) hg ?_
    rcases hB with h5 | h5 | h5
    · exact .inl h5
    · exact .inr (.inl h5)
    · exact .inr (.inr (.inr h5))
theorem KeepAt.cells {w0 w : World} {kb bb hb : Nat} {s : St} {f : Nat → Nat} {V : Nat → Value} {lo : Nat → Bool} {bu : Nat → Nat → Bool} (h : KeepAt w0 w kb bb hb s f V lo bu) :
    w.cell? ⟨kb, 0, none⟩ = some (.pointer (some ⟨hb, 0, none⟩)) ∧ w.cell? ⟨kb, 1, none⟩ = some (.int .i64 s.D) ∧ w.cell? ⟨kb, 2, none⟩ = some (.int .i64 s.P) ∧ w.cell? ⟨kb, 3, none⟩ = some (.int .i64 s.R) ∧ w.cell? ⟨kb, 4, none⟩ = some (.int .i64 s.M) ∧ w.cell? ⟨kb, 5, none⟩ = some (.slice (some ⟨bb, 0, none⟩) (s.D * s.R * 4) (s.D * s.R * 4)) ∧ w.cell? ⟨kb, 6, none⟩ = some (V 0) ∧ w.cell? ⟨kb, 7, none⟩ = some (V 1) :=
  ⟨h.row.cell (i := 0) (by omega), h.row.cell (i := 1) (by omega), h.row.cell (i := 2) (by omega), h.row.cell (i := 3) (by omega), h.row.cell (i := 4) (by omega), h.row.cell (i := 5) (by omega), h.row.cell (i := 6) (by omega), h.row.cell (i := 7) (by omega)⟩
theorem KeepAt.byteCell {w0 w : World} {kb bb hb : Nat} {s : St} {f : Nat → Nat} {V : Nat → Value} {lo : Nat → Bool} {bu : Nat → Nat → Bool} (h : KeepAt w0 w kb bb hb s f V lo bu) (i : Nat) (hi : i < s.D * s.R * 4) : w.cell? ⟨bb, i, none⟩ = some (.int .u8 (f i : Nat)) := h.bytes.cell hi
theorem KeepAt.bytesAt {w0 w : World} {kb bb hb : Nat} {s : St} {f : Nat → Nat} {V : Nat → Value} {lo : Nat → Bool} {bu : Nat → Nat → Bool} (h : KeepAt w0 w kb bb hb s f V lo bu) : BytesAt w (some ⟨bb, 0, none⟩) (s.D * s.R * 4) f :=
  fun i hi => ⟨bb, 0, rfl, by rw [Nat.zero_add]; exact h.byteCell i hi, h.bound i⟩
theorem KeepAt.size {w0 w : World} {kb bb hb : Nat} {s : St} {f : Nat → Nat} {V : Nat → Value} {lo : Nat → Bool} {bu : Nat → Nat → Bool} (h : KeepAt w0 w kb bb hb s f V lo bu) : s.D * s.R * 4 ≤ 96 ∧ 4 ≤ s.D * s.R * 4 := by
  have h1 : s.D * s.R ≤ 4 * 6 := Nat.mul_le_mul h.hoard.ok.D4 h.hoard.ok.R6
  have h2 : 1 * 1 ≤ s.D * s.R := Nat.mul_le_mul h.hoard.ok.D1 h.hoard.ok.R1
  omega
/-- One of the rows of a world: where it lies. -/
theorem KeepAt.rowAt {w0 w : World} {kb bb hb : Nat} {s : St} {f : Nat → Nat} {V : Nat → Value} {lo : Nat → Bool} {bu : Nat → Nat → Bool} (h : KeepAt w0 w kb bb hb s f V lo bu) (i k : Nat) (hi : i < 2 + (s.D + s.P)) (hk : k < (keepX s V lo bu i).length) (x : Value) (hx : (keepX s V lo bu i)[k]? = some x) :
    ∃ g cap, V i = .slice (some ⟨g, 0, none⟩) (keepX s V lo bu i).length cap ∧ w.cell? ⟨g, k, none⟩ = some x ∧ w.frozen? ⟨g, k, none⟩ = false ∧ g < w.heap.size := by
  have ho := h.fam.own i hi
  rcases ho.2 with ⟨h1, h2⟩ | ⟨g, cap, cur, h1, hb, hg, rest⟩
  · omega
  · refine ⟨g, cap, h1, ?_, ?_, (Array.getElem?_eq_some_iff.1 hg).1⟩
    · have := World.ownsRow.cells ho (g := g) (by rw [h1]; rfl) k x hx
      rw [addr_add, Nat.zero_add] at this
      exact this
    · simp only [World.frozen?]
      rw [hg]
      simp
theorem KeepAt.lostAt {w0 w : World} {kb bb hb : Nat} {s : St} {f : Nat → Nat} {V : Nat → Value} {lo : Nat → Bool} {bu : Nat → Nat → Bool} (h : KeepAt w0 w kb bb hb s f V lo bu) (d : Nat) (hd : d < s.D + s.P) : ∃ g cap, V 0 = .slice (some ⟨g, 0, none⟩) (s.D + s.P) cap ∧ w.cell? ⟨g, d, none⟩ = some (.bool (lo d)) ∧ w.frozen? ⟨g, d, none⟩ = false ∧ g < w.heap.size := by
  have := h.rowAt 0 d (by omega) (by rw [keepX_len0]; exact hd) _ (keepX_get0 s V lo bu d hd)
  rwa [keepX_len0] at this
theorem KeepAt.builtAt {w0 w : World} {kb bb hb : Nat} {s : St} {f : Nat → Nat} {V : Nat → Value} {lo : Nat → Bool} {bu : Nat → Nat → Bool} (h : KeepAt w0 w kb bb hb s f V lo bu) (d r : Nat) (hd : d < s.D + s.P) (hr : r < s.R) :
    ∃ g1 cap1 g2 cap2, V 1 = .slice (some ⟨g1, 0, none⟩) (s.D + s.P) cap1 ∧ w.cell? ⟨g1, d, none⟩ = some (.slice (some ⟨g2, 0, none⟩) s.R cap2) ∧ V (2 + d) = .slice (some ⟨g2, 0, none⟩) s.R cap2 ∧ w.cell? ⟨g2, r, none⟩ = some (.bool (bu d r)) ∧ w.frozen? ⟨g2, r, none⟩ = false ∧ g1 < w.heap.size ∧ g2 < w.heap.size := by
  obtain ⟨g1, c1, e1, h1, _, l1⟩ := h.rowAt 1 d (by omega) (by rw [keepX_len1]; exact hd) _ (keepX_get1 s V lo bu d hd)
  obtain ⟨g2, c2, e2, h2, f2, l2⟩ := h.rowAt (2 + d) r (by omega) (by rw [keepX_len2]; exact hr) _ (keepX_get2 s V lo bu d r hr)
  rw [keepX_len1] at e1
  rw [keepX_len2] at e2
  rw [e2] at h1
  exact ⟨g1, c1, g2, c2, e1, h1, e2, h2, f2, l1, l2⟩
theorem KeepAt.setRow {w0 w : World} {kb bb hb : Nat} {s : St} {f : Nat → Nat} {V : Nat → Value} {lo lo' : Nat → Bool} {bu bu' : Nat → Nat → Bool} (h : KeepAt w0 w kb bb hb s f V lo bu) (i k : Nat) (hi : i < 2 + (s.D + s.P)) (hk : k < (keepX s V lo bu i).length) (x : Value) (g cap : Nat) (hv : V i = .slice (some ⟨g, 0, none⟩) (keepX s V lo bu i).length cap) (hX : upd (keepX s V lo bu) i ((keepX s V lo bu i).set k x) = keepX s V lo' bu') : KeepAt w0 (w.setCell ⟨g, k, none⟩ x) kb bb hb s f V lo' bu' := by
  have hgb : (V i).ownBlock = some g := by rw [hv]; rfl
  have hout := h.fam.out i g hi hgb
  have hk2 : Kept (fun g' => g' = g) w (w.setCell ⟨g, k, none⟩ x) := Kept.setCell (S := fun g' => g' = g) (Kept.refl _ _) (.inl rfl) _
  refine ⟨?_, hk2.row (fun e => hout (.inl e.symm)) h.row, hk2.row (fun e => hout (.inr (.inl e.symm))) h.bytes, h.bound, h.hoard.kept hk2 (fun g' hg' e => hout (.inr (.inr (by rwa [e] at hg')))), h.ne, h.low, h.below.setCell (h.low.2.2.2 i g hi hgb) _⟩
  rw [← hX]
  exact h.fam.setOne i hi k hk x g cap hv
theorem KeepAt.setLost {w0 w : World} {kb bb hb : Nat} {s : St} {f : Nat → Nat} {V : Nat → Value} {lo : Nat → Bool} {bu : Nat → Nat → Bool} (h : KeepAt w0 w kb bb hb s f V lo bu) (d : Nat) (hd : d < s.D + s.P) (b : Bool) (g cap : Nat) (hv : V 0 = .slice (some ⟨g, 0, none⟩) (s.D + s.P) cap) : KeepAt w0 (w.setCell ⟨g, d, none⟩ (.bool b)) kb bb hb s f V (setLo lo d b) bu :=
  h.setRow 0 d (by omega) (by rw [keepX_len0]; exact hd) _ g cap (by rw [keepX_len0]; exact hv) (keepX_setLo s V lo bu d b)
theorem KeepAt.setBuilt {w0 w : World} {kb bb hb : Nat} {s : St} {f : Nat → Nat} {V : Nat → Value} {lo : Nat → Bool} {bu : Nat → Nat → Bool} (h : KeepAt w0 w kb bb hb s f V lo bu) (d r : Nat) (hd : d < s.D + s.P) (hr : r < s.R) (b : Bool) (g cap : Nat) (hv : V (2 + d) = .slice (some ⟨g, 0, none⟩) s.R cap) : KeepAt w0 (w.setCell ⟨g, r, none⟩ (.bool b)) kb bb hb s f V lo (setBu bu d r b) :=
  h.setRow (2 + d) r (by omega) (by rw [keepX_len2]; exact hr) _ g cap (by rw [keepX_len2]; exact hv) (keepX_setBu s V lo bu d r b)
def cutN (N a n : Nat) : Nat := min n (N - a)
set_option maxRecDepth 100000 in
set_option maxHeartbeats 1000000 in
theorem cut_any {w0 : World} (kb bb hb : Nat) (s : St) (f : Nat → Nat) (V : Nat → Value) (lo : Nat → Bool) (bu : Nat → Nat → Bool) (a : Int) (d : ByteArray) (w : World) (h : KeepAt w0 w kb bb hb s f V lo bu) (ha : -9223372036854775808 ≤ a ∧ a ≤ 9223372036854775807) (hd : d.size ≤ maxLen) :
    Calls Try.prog 24 #[.pointer (some ⟨kb, 0, none⟩), .int .i64 a, .string d] w fun e w' => e = .returned (.tuple #[.int .i64 (pickN a (s.D * s.R * 4 + 1) : Nat), .string (d.extract 0 (cutN (s.D * s.R * 4) (pickN a (s.D * s.R * 4 + 1)) d.size))]) ∧ ∃ q, w' = w.drewN q := by
  obtain ⟨c0, c1, c2, c3, c4, c5, _⟩ := h.cells
  obtain ⟨hs, hs4⟩ := h.size
  have hp := pickN_lt a (s.D * s.R * 4 + 1) (by omega)
  have HP : Hid (∀ W, Calls Try.prog 11 #[.int .i64 a, .int .i64 ((s.D * s.R * 4 + 1 : Nat) : Int)] W fun e w' => e = .returned (.int .i64 (pickN a (s.D * s.R * 4 + 1) : Nat)) ∧ w' = W) := fun W => kpick_any a _ W (by omega) (by omega) ha
  generalize pickN a (s.D * s.R * 4 + 1) = x at *
  generalize s.D * s.R * 4 = N at *
  clear h c0 c1 c2 c3 c4 ha
  unfold maxLen at hd
  go_enter Try.func24, Try.ntmps24
  go_wp2_with fail
  rw [show ((N : Int) + 1) = ((N + 1 : Nat) : Int) by omega]
  refine (HP.out _).mono ?_
  rintro e w1 ⟨rfl, rfl⟩
  by_cases hc : d.size < N - x
  · have hci : (d.size : Int) < (N : Int) - x := by omega
    have HC : Hid (cutN N x d.size = d.size) := (show _ = _ by unfold cutN; omega)
    go_wp2_with fail
    go_quiet (fail)
    go_wp2_with fail
    go_ret2
    refine ⟨?_, _, rfl⟩
    rw [HC.out]
    have : d.extract 0 d.size = d := by simp
    rw [this]; rfl
  · obtain ⟨y, hy⟩ : ∃ y : Nat, (N : Int) - x = (y : Int) := ⟨N - x, by omega⟩
    have hyn : y = N - x := by omega
    have HC : Hid (cutN N x d.size = y) := (show _ = _ by unfold cutN; omega)
    have hci : ¬ ((d.size : Int) < (y : Int)) := by omega
    have hyd : (y : Int) ≤ (d.size : Int) := by omega
    clear hyn hc
    go_wp2_with fail
    go_quiet (fail)
    go_wp2_with fail
    go_ret2
    refine ⟨?_, _, rfl⟩
    rw [HC.out]; rfl
end Go.Proofs.Ytfpoiikhhjdpdab
