/- hoardkeep.begin: a world with its hoard. -/
import Derived.Test.YtfpoiikhhjdpdabKeep
namespace Go.Proofs.Ytfpoiikhhjdpdab
open Go.RowKit
set_option linter.unusedVariables false
attribute [local go_sem ↓] Go.wp_at_zero Go.wp_at_succ
theorem appBool : AppInfo 34 4 1 1 := by
  have h : (Try.prog.info? 4).map (fun i => (i.zero, i.size, i.bytes)) = some (some (.bool false), 1, 1) := by kernel_rfl
  obtain ⟨i, h1, h2, h3, h4⟩ := info_of h
  exact ⟨i, _, Try.underlying34, h1, h2, h3, h4, rfl, by omega⟩
theorem appBools : AppInfo 35 34 1 24 := by
  have h : (Try.prog.info? 34).map (fun i => (i.zero, i.size, i.bytes)) = some (some (.slice none 0 0), 1, 24) := by kernel_rfl
  obtain ⟨i, h1, h2, h3, h4⟩ := info_of h
  exact ⟨i, _, Try.underlying35, h1, h2, h3, h4, rfl, by omega⟩
/-- Rows of one's own, each in a block of its own; B: the blocks of others. -/
structure Fam (w : World) (m : Nat) (V : Nat → Value) (E : Nat → Nat) (X : Nat → List Value) (B : Nat → Prop) : Prop where
  own : ∀ i, i < m → w.ownsRow 0 (E i) 1 (V i) (X i).length (X i)
  apart : ∀ i j g, i < m → j < m → i ≠ j → (V i).ownBlock = some g → (V j).ownBlock ≠ some g
  out : ∀ i g, i < m → (V i).ownBlock = some g → ¬ B g
def upd {α : Type} (f : Nat → α) (i : Nat) (x : α) : Nat → α := fun j => if j = i then x else f j
theorem upd_same {α : Type} (f : Nat → α) (i : Nat) (x : α) : upd f i x i = x := by simp [upd]
theorem upd_other {α : Type} (f : Nat → α) {i j : Nat} (x : α) (h : j ≠ i) : upd f i x j = f j := by simp [upd, h]
theorem ownsRow_of_block {w w' : World} {base e size n : Nat} {v : Value} {xs : List Value} (h : w.ownsRow base e size v n xs) (e1 : ∀ g, v.ownBlock = some g → w'.heap[g]? = w.heap[g]?) : w'.ownsRow base e size v n xs := by
  refine ⟨h.1, ?_⟩
  rcases h.2 with h1 | ⟨g, cap, cur, rfl, hb, hg, rest⟩
  · exact .inl h1
  · exact .inr ⟨g, cap, cur, rfl, hb, (e1 g rfl).trans hg, rest⟩
theorem Fam.lt {w : World} {m : Nat} {V : Nat → Value} {E : Nat → Nat} {X : Nat → List Value} {B : Nat → Prop} (h : Fam w m V E X B) {i g : Nat} (hi : i < m) (hg : (V i).ownBlock = some g) : g < w.heap.size := (World.ownsRow.lt (h.own i hi) g hg).2
theorem Fam.kept {w w' : World} {m : Nat} {V : Nat → Value} {E : Nat → Nat} {X : Nat → List Value} {B S : Nat → Prop} (h : Fam w m V E X B) (k : Kept S w w') (hS : ∀ i g, i < m → (V i).ownBlock = some g → ¬ S g) : Fam w' m V E X B :=
  ⟨fun i hi => ownsRow_of_block (h.own i hi) (fun g hg => k.block g (h.lt hi hg) (hS i g hi hg)), h.apart, h.out⟩
theorem Fam.append {w W w' : World} {m : Nat} {V : Nat → Value} {E : Nat → Nat} {X : Nat → List Value} {B : Nat → Prop} (h : Fam w m V E X B) (i : Nat) (hi : i < m) (v' : Value) (xs' : List Value) (k : Below w.heap.size w W)
    (hg : W.grownBy w' (V i).ownBlock) (ho : w'.ownsRow 0 (E i) 1 v' xs'.length xs') (hat : ∀ g, v'.ownBlock = some g → (V i).ownBlock = some g ∨ w.heap.size ≤ g) (hB : ∀ k, B k → k < w.heap.size) : Fam w' m (upd V i v') E (upd X i xs') B := by
  refine ⟨fun j hj => ?_, fun a b g ha hb hab => ?_, fun j g hj => ?_⟩
  · by_cases e : j = i
    · subst e; rw [upd_same, upd_same]; exact ho
    · rw [upd_other _ _ e, upd_other _ _ e]
      refine ownsRow_of_block (h.own j hj) (fun g hgj => ?_)
      have hlt := h.lt hj hgj
      exact (hg.block g (Nat.lt_of_lt_of_le hlt k.size) (fun e2 => h.apart j i g hj hi e hgj e2.symm)).trans (k.block g hlt)
  · by_cases ea : a = i
    · have eb : b ≠ i := fun e => hab (ea.trans e.symm)
      rw [ea, upd_same, upd_other _ _ eb]
      intro h1 h2
      rcases hat g h1 with h3 | h3
      · exact h.apart i b g hi hb (fun e => eb e.symm) h3 h2
      · have := h.lt hb h2; omega
    · by_cases eb : b = i
      · rw [eb, upd_same, upd_other _ _ ea]
        intro h1 h2
        rcases hat g h2 with h3 | h3
        · exact h.apart a i g ha hi ea h1 h3
        · have := h.lt ha h1; omega
      · rw [upd_other _ _ ea, upd_other _ _ eb]; exact h.apart a b g ha hb hab
  · by_cases e : j = i
    · rw [e, upd_same]
      intro h1 h2
      rcases hat g h1 with h3 | h3
      · exact h.out i g hi h3 h2
      · have := hB g h2; omega
    · rw [upd_other _ _ e]; exact h.out j g hj
/-- One row more, which has no block yet. -/
theorem Fam.more {w : World} {m : Nat} {V : Nat → Value} {E : Nat → Nat} {X : Nat → List Value} {B : Nat → Prop} (h : Fam w m V E X B) (hv : V m = .slice none 0 0) (hx : X m = []) : Fam w (m + 1) V E X B := by
  refine ⟨fun j hj => ?_, fun a b g ha hb hab => ?_, fun j g hj => ?_⟩
  · by_cases e : j = m
    · subst e; rw [hv, hx]; exact World.ownsRow_nil _ _ _ _
    · exact h.own j (by omega)
  · by_cases ea : a = m
    · rw [ea, hv]; intro h1; simp [Value.ownBlock] at h1
    · by_cases eb : b = m
      · rw [eb, hv]; intro _ h2; simp [Value.ownBlock] at h2
      · exact h.apart a b g (by omega) (by omega) hab
  · by_cases e : j = m
    · rw [e, hv]; intro h1; simp [Value.ownBlock] at h1
    · exact h.out j g (by omega)
/-- The cells of a world of hoardkeep. -/
def kv (hb : Nat) (s : St) (bb : Nat) (lv bv : Value) (i : Nat) : Value :=
  if i = 0 then .pointer (some ⟨hb, 0, none⟩) else if i = 1 then .int .i64 s.D else if i = 2 then .int .i64 s.P else if i = 3 then .int .i64 s.R else if i = 4 then .int .i64 s.M
  else if i = 5 then .slice (some ⟨bb, 0, none⟩) (s.D * s.R * 4) (s.D * s.R * 4) else if i = 6 then lv else bv
def famE (i : Nat) : Nat := if i = 1 then 34 else 4
/-- begin, in the midst: k drives are laid, and j cells of the next. -/
structure Beg (w0 wr : World) (kb bb hb sb : Nat) (s : St) (c k j : Nat) (V : Nat → Value) (X : Nat → List Value) : Prop where
  fam : Fam wr (3 + k) V famE X (fun g => g = kb ∨ g = bb ∨ g = sb ∨ Foot hb s g)
  x0 : X 0 = List.replicate k (.bool false)
  x1 : X 1 = (List.range k).map (fun i => V (2 + i))
  x2 : ∀ i, i < k → X (2 + i) = List.replicate c (.bool true)
  x3 : X (2 + k) = List.replicate j (.bool true)
  x4 : ∀ m, 2 + k < m → V m = .slice none 0 0 ∧ X m = []
  row : wr.rowIs kb 37 8 (kv hb s bb (V 0) (V 1))
  bytes : wr.rowIs bb 5 (s.D * s.R * 4) (fun _ => .int .u8 0)
  hoard : HoardAt wr hb s
  c0 : wr.cell? ⟨sb, 0, none⟩ = some (.int .i64 s.D)
  c1 : wr.cell? ⟨sb, 1, none⟩ = some (.int .i64 s.P)
  c2 : wr.cell? ⟨sb, 2, none⟩ = some (.int .i64 s.R)
  ne : kb ≠ bb ∧ kb ≠ sb ∧ bb ≠ sb ∧ ¬ Foot hb s kb ∧ ¬ Foot hb s bb ∧ ¬ Foot hb s sb
  low : w0.heap.size ≤ kb ∧ w0.heap.size ≤ bb ∧ w0.heap.size ≤ sb ∧ w0.heap.size ≤ hb
  base : ∀ i g, i < 3 + k → (V i).ownBlock = some g → w0.heap.size ≤ g
  below : Below w0.heap.size w0 wr
theorem Beg.blt {w0 wr : World} {kb bb hb sb c k j : Nat} {s : St} {V : Nat → Value} {X : Nat → List Value} (h : Beg w0 wr kb bb hb sb s c k j V X) : ∀ g, (g = kb ∨ g = bb ∨ g = sb ∨ Foot hb s g) → g < wr.heap.size := by
  rintro g (rfl | rfl | rfl | hg)
  · exact h.row.lt
  · exact h.bytes.lt
  · exact block_lt_of_cell h.c0
  · exact h.hoard.foot_lt hg
/-- A world in which rows of the family alone have turned. -/
theorem Beg.turn {w0 wr w' : World} {kb bb hb sb c k j : Nat} {s : St} {V : Nat → Value} {X : Nat → List Value} (h : Beg w0 wr kb bb hb sb s c k j V X)
    (hk : ∀ g, g < wr.heap.size → (g = kb ∨ g = bb ∨ g = sb ∨ Foot hb s g) → w'.heap[g]? = wr.heap[g]?) :
    w'.rowIs kb 37 8 (kv hb s bb (V 0) (V 1)) ∧ w'.rowIs bb 5 (s.D * s.R * 4) (fun _ => .int .u8 0) ∧ HoardAt w' hb s ∧ w'.cell? ⟨sb, 0, none⟩ = some (.int .i64 s.D) ∧ w'.cell? ⟨sb, 1, none⟩ = some (.int .i64 s.P) ∧ w'.cell? ⟨sb, 2, none⟩ = some (.int .i64 s.R) := by
  have hb1 := h.blt
  refine ⟨h.row.of_block (hk kb (hb1 _ (.inl rfl)) (.inl rfl)), h.bytes.of_block (hk bb (hb1 _ (.inr (.inl rfl))) (.inr (.inl rfl))), h.hoard.of_block (fun g hg => hk g (hb1 _ (.inr (.inr (.inr hg)))) (.inr (.inr (.inr hg)))), ?_, ?_, ?_⟩
  · exact (World.cell?_of_block (a := ⟨sb, 0, none⟩) (hk sb (hb1 _ (.inr (.inr (.inl rfl)))) (.inr (.inr (.inl rfl))))).trans h.c0
  · exact (World.cell?_of_block (a := ⟨sb, 1, none⟩) (hk sb (hb1 _ (.inr (.inr (.inl rfl)))) (.inr (.inr (.inl rfl))))).trans h.c1
  · exact (World.cell?_of_block (a := ⟨sb, 2, none⟩) (hk sb (hb1 _ (.inr (.inr (.inl rfl)))) (.inr (.inr (.inl rfl))))).trans h.c2
/-- One cell more of the next drive. -/
theorem Beg.inner {w0 wr W w' : World} {kb bb hb sb c k j : Nat} {s : St} {V : Nat → Value} {X : Nat → List Value} (h : Beg w0 wr kb bb hb sb s c k j V X) (v' : Value) (kW : Below wr.heap.size wr W)
    (hg : W.grownBy w' (V (2 + k)).ownBlock) (ho : w'.ownsRow 0 4 1 v' (j + 1) (List.replicate j (.bool true) ++ [.bool true])) (hat : v'.ownBlock = (V (2 + k)).ownBlock ∨ v'.ownBlock = some W.heap.size) :
    Beg w0 w' kb bb hb sb s c k (j + 1) (upd V (2 + k) v') (upd X (2 + k) (List.replicate (j + 1) (.bool true))) := by
  have hrep : List.replicate j (Value.bool true) ++ [.bool true] = List.replicate (j + 1) (.bool true) := by rw [List.replicate_succ']
  rw [hrep] at ho
  have hat2 : ∀ g, v'.ownBlock = some g → (V (2 + k)).ownBlock = some g ∨ wr.heap.size ≤ g := by
    intro g hg
    rcases hat with h1 | h1
    · exact .inl (h1 ▸ hg)
    · rw [h1] at hg; simp at hg; have := kW.size; right; omega
  have hE : famE (2 + k) = 4 := by unfold famE; rw [if_neg (by omega)]
  have hfam := h.fam.append (2 + k) (by omega) v' (List.replicate (j + 1) (.bool true)) kW hg (by rw [List.length_replicate, hE]; exact ho) hat2 h.blt
  have hblk : ∀ g, g < wr.heap.size → (V (2 + k)).ownBlock ≠ some g → w'.heap[g]? = wr.heap[g]? := fun g hl hne => (hg.block g (Nat.lt_of_lt_of_le hl kW.size) (fun e => hne e.symm)).trans (kW.block g hl)
  obtain ⟨t1, t2, t3, t4, t5, t6⟩ := h.turn (w' := w') (fun g hl hB => hblk g hl (fun e => h.fam.out (2 + k) g (by omega) e hB))
  refine ⟨hfam, ?_, ?_, ?_, ?_, ?_, ?_, t2, t3, t4, t5, t6, h.ne, h.low, ?_, ?_⟩
  · rw [upd_other _ _ (by omega)]; exact h.x0
  · rw [upd_other _ _ (by omega), h.x1]
    refine List.map_congr_left fun i hi => ?_
    rw [upd_other _ _ (by have := List.mem_range.1 hi; omega)]
  · intro i hi; rw [upd_other _ _ (by omega)]; exact h.x2 i hi
  · rw [upd_same]
  · intro m hm; rw [upd_other _ _ (by omega), upd_other _ _ (by omega)]; exact h.x4 m hm
  · rw [upd_other _ _ (by omega), upd_other _ _ (by omega)]; exact t1
  · intro i g hi hg'
    by_cases e : i = 2 + k
    · rw [e, upd_same] at hg'
      rcases hat2 g hg' with h1 | h1
      · exact h.base _ _ (by omega) h1
      · have := h.below.size; omega
    · rw [upd_other _ _ e] at hg'; exact h.base i g hi hg'
  · refine h.below.trans ⟨hg.os.trans kW.os, hg.tape.trans kW.tape, hg.output.trans kW.output, Nat.le_trans kW.size hg.size, fun g hl => ?_⟩
    exact hblk g (Nat.lt_of_lt_of_le hl h.below.size) (fun e => by have := h.base _ _ (by omega) e; omega)
theorem Fam.setB {w : World} {m : Nat} {V : Nat → Value} {E : Nat → Nat} {X : Nat → List Value} {B : Nat → Prop} (h : Fam w m V E X B) {p : Addr} (hB : B p.block) (u : Value) : Fam (w.setCell p u) m V E X B :=
  h.kept (S := fun g => g = p.block) (Kept.setCell (S := fun g => g = p.block) (Kept.refl _ _) (.inl rfl) u) (fun i g hi hg e => h.out i g hi hg (e ▸ hB))
theorem kv_set6 (hb : Nat) (s : St) (bb : Nat) (lv bv v : Value) (j : Nat) : (if j = 6 then v else kv hb s bb lv bv j) = kv hb s bb v bv j := by
  unfold kv
  by_cases e : j = 6
  · subst e; rfl
  · simp [e]
theorem kv_set7 (hb : Nat) (s : St) (bb : Nat) (lv bv v : Value) (j : Nat) (hj : j < 8) : (if j = 7 then v else kv hb s bb lv bv j) = kv hb s bb lv v j := by
  unfold kv
  by_cases e : j = 7
  · subst e; rfl
  · rw [if_neg e]
    have : j = 0 ∨ j = 1 ∨ j = 2 ∨ j = 3 ∨ j = 4 ∨ j = 5 ∨ j = 6 := by omega
    rcases this with rfl | rfl | rfl | rfl | rfl | rfl | rfl <;> rfl
/-- Between the two appends. -/
structure Mid (w0 wr : World) (kb bb hb sb : Nat) (s : St) (c k : Nat) (V : Nat → Value) (X : Nat → List Value) : Prop where
  beg : ∃ w1 V1 X1 v0, Beg w0 w1 kb bb hb sb s c k c V1 X1 ∧ V = upd V1 0 v0 ∧ X = upd X1 0 (List.replicate (k + 1) (.bool false)) ∧ (∀ g, g < w1.heap.size → g ≠ kb → (V1 0).ownBlock ≠ some g → wr.heap[g]? = w1.heap[g]?) ∧ w1.heap.size ≤ wr.heap.size ∧ wr.os = w1.os ∧ wr.tape = w1.tape ∧ wr.output = w1.output ∧ (∀ g, v0.ownBlock = some g → (V1 0).ownBlock = some g ∨ w1.heap.size ≤ g)
  fam : Fam wr (3 + k) V famE X (fun g => g = kb ∨ g = bb ∨ g = sb ∨ Foot hb s g)
  row : wr.rowIs kb 37 8 (kv hb s bb (V 0) (V 1))
  bytes : wr.rowIs bb 5 (s.D * s.R * 4) (fun _ => .int .u8 0)
  hoard : HoardAt wr hb s
  c0 : wr.cell? ⟨sb, 0, none⟩ = some (.int .i64 s.D)
theorem Beg.mid {w0 wr W w' : World} {kb bb hb sb c k : Nat} {s : St} {V : Nat → Value} {X : Nat → List Value} (h : Beg w0 wr kb bb hb sb s c k c V X) (v' : Value) (kW : Below wr.heap.size wr W)
    (hg : W.grownBy w' (V 0).ownBlock) (ho : w'.ownsRow 0 4 1 v' (k + 1) (List.replicate k (.bool false) ++ [.bool false])) (hat : v'.ownBlock = (V 0).ownBlock ∨ v'.ownBlock = some W.heap.size) :
    Mid w0 (w'.setCell ⟨kb, 6, none⟩ v') kb bb hb sb s c k (upd V 0 v') (upd X 0 (List.replicate (k + 1) (.bool false))) := by
  have hrep : List.replicate k (Value.bool false) ++ [.bool false] = List.replicate (k + 1) (.bool false) := by rw [List.replicate_succ']
  rw [hrep] at ho
  have hat2 : ∀ g, v'.ownBlock = some g → (V 0).ownBlock = some g ∨ wr.heap.size ≤ g := by
    intro g hg
    rcases hat with h1 | h1
    · exact .inl (h1 ▸ hg)
    · rw [h1] at hg; simp at hg; have := kW.size; right; omega
  have hfam := h.fam.append 0 (by omega) v' (List.replicate (k + 1) (.bool false)) kW hg (by rw [List.length_replicate]; exact ho) hat2 h.blt
  have hblk : ∀ g, g < wr.heap.size → (V 0).ownBlock ≠ some g → w'.heap[g]? = wr.heap[g]? := fun g hl hne => (hg.block g (Nat.lt_of_lt_of_le hl kW.size) (fun e => hne e.symm)).trans (kW.block g hl)
  obtain ⟨t1, t2, t3, t4, t5, t6⟩ := h.turn (w' := w') (fun g hl hB => hblk g hl (fun e => h.fam.out 0 g (by omega) e hB))
  refine ⟨⟨wr, V, X, v', h, rfl, rfl, fun g hl hk hne => ?_, ?_, hg.os.trans kW.os, hg.tape.trans kW.tape, hg.output.trans kW.output, hat2⟩, hfam.setB (.inl rfl) _, ?_, ?_, ?_, ?_⟩
  · rw [Below.heap_setCell _ _ _ _ hk]; exact hblk g hl hne
  · have := Nat.le_trans kW.size hg.size; simpa [World.setCell] using this
  · refine (t1.set 6 v').congr (fun j hj => ?_)
    rw [kv_set6, upd_same, upd_other _ _ (by omega)]
  · exact t2.setOther (fun e => h.ne.1 e.symm) _
  · exact t3.of_block (fun g hg => Below.heap_setCell _ _ _ _ (fun e => h.ne.2.2.2.1 (by have e' : g = kb := e; rwa [e'] at hg)))
  · exact (World.cell?_of_block (a := ⟨sb, 0, none⟩) (Below.heap_setCell _ _ _ _ (fun e => h.ne.2.1 e.symm))).trans t4
theorem Mid.next {w0 wr W w' : World} {kb bb hb sb c k : Nat} {s : St} {V : Nat → Value} {X : Nat → List Value} (h : Mid w0 wr kb bb hb sb s c k V X) (v' : Value) (kW : Below wr.heap.size wr W)
    (hg : W.grownBy w' (V 1).ownBlock) (ho : w'.ownsRow 0 34 1 v' (k + 1) (X 1 ++ [V (2 + k)])) (hat : v'.ownBlock = (V 1).ownBlock ∨ v'.ownBlock = some W.heap.size) :
    Beg w0 (w'.setCell ⟨kb, 7, none⟩ v') kb bb hb sb s c (k + 1) 0 (upd V 1 v') (upd X 1 (X 1 ++ [V (2 + k)])) := by
  obtain ⟨w1, V1, X1, v0, hB, rfl, rfl, hbl, hsz, g1, g2, g3, hv0⟩ := h.beg
  have e1 : (upd X1 0 (List.replicate (k + 1) (.bool false))) 1 = X1 1 := upd_other _ _ (by omega)
  have e2 : ∀ i, (upd V1 0 v0) (i + 1) = V1 (i + 1) := fun i => upd_other _ _ (by omega)
  have hBlt : ∀ g, (g = kb ∨ g = bb ∨ g = sb ∨ Foot hb s g) → g < wr.heap.size := fun g hh => Nat.lt_of_lt_of_le (hB.blt g hh) hsz
  have hat2 : ∀ g, v'.ownBlock = some g → ((upd V1 0 v0) 1).ownBlock = some g ∨ wr.heap.size ≤ g := by
    intro g hg
    rcases hat with h1 | h1
    · exact .inl (h1 ▸ hg)
    · rw [h1] at hg; simp at hg; have := kW.size; right; omega
  have hlen : ((upd X1 0 (List.replicate (k + 1) (.bool false))) 1 ++ [(upd V1 0 v0) (2 + k)]).length = k + 1 := by rw [e1, hB.x1]; simp
  have hfam := h.fam.append 1 (by omega) v' _ kW hg (by rw [hlen]; exact ho) hat2 hBlt
  have hblk : ∀ g, g < wr.heap.size → ((upd V1 0 v0) 1).ownBlock ≠ some g → w'.heap[g]? = wr.heap[g]? := fun g hl hne => (hg.block g (Nat.lt_of_lt_of_le hl kW.size) (fun e => hne e.symm)).trans (kW.block g hl)
  have hout : ∀ g, (g = kb ∨ g = bb ∨ g = sb ∨ Foot hb s g) → w'.heap[g]? = wr.heap[g]? := fun g hh => hblk g (hBlt g hh) (fun e => h.fam.out 1 g (by omega) e hh)
  have hsb : ∀ i v, w1.cell? ⟨sb, i, none⟩ = some v → (w'.setCell ⟨kb, 7, none⟩ v').cell? ⟨sb, i, none⟩ = some v := by
    intro i v hc
    refine (World.cell?_of_block (a := ⟨sb, i, none⟩) ?_).trans hc
    rw [Below.heap_setCell _ _ _ _ (fun e => hB.ne.2.1 e.symm)]
    exact (hout sb (.inr (.inr (.inl rfl)))).trans (hbl sb (hB.blt _ (.inr (.inr (.inl rfl)))) (fun e => hB.ne.2.1 e.symm) (fun e => hB.fam.out 0 sb (by omega) e (.inr (.inr (.inl rfl)))))
  have hV1 : ∀ m, 2 + k < m → (upd (upd V1 0 v0) 1 v') m = .slice none 0 0 ∧ (upd (upd X1 0 (List.replicate (k + 1) (.bool false))) 1 ((upd X1 0 (List.replicate (k + 1) (.bool false))) 1 ++ [(upd V1 0 v0) (2 + k)])) m = [] := by
    intro m hm
    rw [upd_other _ _ (by omega), upd_other _ _ (by omega), upd_other _ _ (by omega), upd_other _ _ (by omega)]
    exact hB.x4 m hm
  refine ⟨?_, ?_, ?_, ?_, ?_, ?_, ?_, ?_, ?_, hsb 0 _ hB.c0, hsb 1 _ hB.c1, hsb 2 _ hB.c2, hB.ne, hB.low, ?_, ?_⟩
  · have := (hfam.setB (p := ⟨kb, 7, none⟩) (.inl rfl) v').more (hV1 (3 + k) (by omega)).1 (hV1 (3 + k) (by omega)).2
    rwa [show 3 + k + 1 = 3 + (k + 1) by omega] at this
  · rw [upd_other _ _ (by omega), upd_same]
  · rw [upd_same, e1, hB.x1, List.range_succ, List.map_append]
    congr 1
    · refine List.map_congr_left fun i hi => ?_
      rw [upd_other _ _ (by omega), upd_other _ _ (by omega)]
    · simp only [List.map_cons, List.map_nil]
      rw [upd_other _ _ (by omega : (2 + k : Nat) ≠ 1)]
  · intro i hi
    rw [upd_other _ _ (by omega), upd_other _ _ (by omega)]
    by_cases e : i = k
    · subst e; exact hB.x3
    · exact hB.x2 i (by omega)
  · exact (hV1 (2 + (k + 1)) (by omega)).2
  · intro m hm; exact hV1 m (by omega)
  · refine ((h.row.of_block (hout kb (.inl rfl))).set 7 v').congr (fun j hj => ?_)
    rw [kv_set7 _ _ _ _ _ _ _ hj, upd_same (upd V1 0 v0) 1 v', upd_other (upd V1 0 v0) v' (by omega : (0 : Nat) ≠ 1)]
  · exact (h.bytes.of_block (hout bb (.inr (.inl rfl)))).setOther (fun e => hB.ne.1 e.symm) _
  · refine h.hoard.of_block (fun g hg => ?_)
    rw [Below.heap_setCell _ _ _ _ (fun e => hB.ne.2.2.2.1 (by have e' : g = kb := e; rwa [e'] at hg))]
    exact hout g (.inr (.inr (.inr hg)))
  · intro i g hi hg'
    by_cases e : i = 1
    · rw [e, upd_same] at hg'
      rcases hat2 g hg' with h1 | h1
      · rw [e2 0] at h1; exact hB.base 1 g (by omega) h1
      · have := hB.below.size; omega
    · rw [upd_other _ _ e] at hg'
      by_cases e0 : i = 0
      · rw [e0, upd_same] at hg'
        rcases hv0 g hg' with h1 | h1
        · exact hB.base 0 g (by omega) h1
        · have := hB.below.size; omega
      · rw [upd_other _ _ e0] at hg'
        by_cases e3 : i < 3 + k
        · exact hB.base i g e3 hg'
        · rw [(hB.x4 i (by omega)).1] at hg'; simp [Value.ownBlock] at hg'
  · refine hB.below.trans ⟨?_, ?_, ?_, ?_, fun g hl => ?_⟩
    · exact (hg.os.trans kW.os).trans g1
    · exact (hg.tape.trans kW.tape).trans g2
    · exact (hg.output.trans kW.output).trans g3
    · have := Nat.le_trans hsz (Nat.le_trans kW.size hg.size); simpa [World.setCell] using this
    · have hl1 : g < w1.heap.size := Nat.lt_of_lt_of_le hl hB.below.size
      have hkb : g ≠ kb := fun e => by have := hB.low.1; omega
      rw [Below.heap_setCell _ _ _ _ hkb]
      refine (hblk g (Nat.lt_of_lt_of_le hl1 hsz) (fun e => ?_)).trans (hbl g hl1 hkb (fun e => ?_))
      · rw [e2 0] at e; have := hB.base 1 g (by omega) e; omega
      · have := hB.base 0 g (by omega) e; omega
theorem kept_apart {w w1 : World} {S : Nat → Prop} (k : Kept S w w1) : ∀ g, g < w.heap.size → ¬ S g → w1.heap[g]? = w.heap[g]? := k.block
def nilV : Nat → Value := fun _ => .slice none 0 0
/-- The start. -/
theorem Beg.start {w0 w1 : World} {hb sb : Nat} {s : St} {c n : Nat} (hn : s.D * s.R * 4 = n) (h : HoardAt w1 hb s) (k : Below w0.heap.size w0 w1) (hsb : w0.heap.size = sb) (hhb : sb < hb) (hF : ∀ g, Foot hb s g → sb < g)
    (c0 : w1.cell? ⟨sb, 0, none⟩ = some (.int .i64 s.D)) (c1 : w1.cell? ⟨sb, 1, none⟩ = some (.int .i64 s.P)) (c2 : w1.cell? ⟨sb, 2, none⟩ = some (.int .i64 s.R)) :
    Beg w0 ((w1.alloc (Obj.cells (madeCells #[.int .u8 0] n) 5)).alloc (Obj.cells #[.pointer (some ⟨hb, 0, none⟩), .int .i64 s.D, .int .i64 s.P, .int .i64 s.R, .int .i64 s.M, .slice (some ⟨w1.heap.size, 0, none⟩) n n, .slice none 0 0, .slice none 0 0] 37)).drew (w1.heap.size + 1) w1.heap.size hb sb s c 0 0 nilV (fun _ => []) := by
  subst hn
  have kk : Below w1.heap.size w1 ((w1.alloc (Obj.cells (madeCells #[.int .u8 0] (s.D * s.R * 4)) 5)).alloc (Obj.cells #[.pointer (some ⟨hb, 0, none⟩), .int .i64 s.D, .int .i64 s.P, .int .i64 s.R, .int .i64 s.M, .slice (some ⟨w1.heap.size, 0, none⟩) (s.D * s.R * 4) (s.D * s.R * 4), .slice none 0 0, .slice none 0 0] 37)).drew :=
    (((Below.refl _ _).alloc (Nat.le_refl _) _).alloc (by simp) _).drew
  have hlt := h.row.lt
  refine ⟨⟨fun i hi => World.ownsRow_nil _ _ _ _, fun i j g _ _ _ h1 => by simp [nilV, Value.ownBlock] at h1, fun i g _ h1 => by simp [nilV, Value.ownBlock] at h1⟩, rfl, rfl, fun i hi => by omega, rfl, fun m _ => ⟨rfl, rfl⟩, ?_, ?_, h.below kk, below_cell kk c0, below_cell kk c1, below_cell kk c2, ?_, ?_, fun i g _ h1 => by simp [nilV, Value.ownBlock] at h1, k.trans (kk.mono k.size)⟩
  · have h1 := World.rowIs_alloc (w1.alloc (Obj.cells (madeCells #[.int .u8 0] (s.D * s.R * 4)) 5)) #[.pointer (some ⟨hb, 0, none⟩), .int .i64 s.D, .int .i64 s.P, .int .i64 s.R, .int .i64 s.M, .slice (some ⟨w1.heap.size, 0, none⟩) (s.D * s.R * 4) (s.D * s.R * 4), .slice none 0 0, .slice none 0 0] 37 (kv hb s w1.heap.size (nilV 0) (nilV 1)) (by
      intro i hi
      have hi' : i < 8 := hi
      have : i = 0 ∨ i = 1 ∨ i = 2 ∨ i = 3 ∨ i = 4 ∨ i = 5 ∨ i = 6 ∨ i = 7 := by omega
      rcases this with rfl | rfl | rfl | rfl | rfl | rfl | rfl | rfl <;> rfl)
    have h2 : (w1.alloc (Obj.cells (madeCells #[.int .u8 0] (s.D * s.R * 4)) 5)).heap.size = w1.heap.size + 1 := by simp
    rw [h2] at h1
    exact h1.drew
  · exact ((World.rowIs_made w1 (.int .u8 0) (s.D * s.R * 4) 5).alloc _).drew
  · have hs0 := block_lt_of_cell c0
    simp only at hs0
    refine ⟨by omega, by omega, by omega, fun e => ?_, fun e => ?_, fun e => ?_⟩
    · have := h.foot_lt e; omega
    · have := h.foot_lt e; omega
    · have := hF _ e; omega
  · have := k.size; omega
set_option maxRecDepth 100000 in
set_option maxHeartbeats 4000000 in
theorem begin_any (a b c d : Nat) (w : World) (h : shapeB a b c d = true) :
    Calls Try.prog 8 #[.agg #[.int .i64 a, .int .i64 b, .int .i64 c, .int .i64 d]] w fun e w' => ∃ kb, e = .returned (.tuple #[.pointer (some ⟨kb, 0, none⟩), .bool true]) ∧ ∃ bb hb V X, Beg w w' kb bb hb w.heap.size (newSt a b c d) c (a + b) 0 V X := by
  have hs := newSt_ok a b c d h
  have h4 : a ≤ 4 := hs.D4
  have h6 : c ≤ 6 := hs.R6
  have h2 : b ≤ 2 := hs.P2
  have hac : (a : Int) * c ≤ 24 := by have := all_le _ hs; exact this
  have hac0 : 0 ≤ (a : Int) * c := Int.mul_nonneg (by omega) (by omega)
  generalize hn : a * c * 4 = n at *
  have hni : (a : Int) * c * 4 = (n : Int) := by rw [← hn]; simp
  have HN : Hid (a * c * 4 = n) := hn
  clear hs hn
  have hmk := run_make_row' (P := Try.prog) 33 5 (.int .u8 0) 1 Try.underlying33 (by kernel_rfl) rfl .i64 .i64 n (by omega) (by omega)
  go_enter Try.func8, Try.ntmps8
  go_wp2_with fail
  refine (New_ok a b c d _ h).mono ?_
  rintro e w1 ⟨hb, rfl, hge, hh, k1⟩
  have s0 : w1.cell? ⟨w.heap.size, 0, none⟩ = some (.int .i64 a) := below_cell k1 (by simp [go_sem])
  have s1 : w1.cell? ⟨w.heap.size, 1, none⟩ = some (.int .i64 b) := below_cell k1 (by simp [go_sem])
  have s2 : w1.cell? ⟨w.heap.size, 2, none⟩ = some (.int .i64 c) := below_cell k1 (by simp [go_sem])
  have s3 : w1.cell? ⟨w.heap.size, 3, none⟩ = some (.int .i64 d) := below_cell k1 (by simp [go_sem])
  have hlt := hh.row.lt
  have hlt0 := block_lt_of_cell s0
  have K1 : Below w.heap.size w w1 := ((Below.refl _ _).alloc (Nat.le_refl _) _).trans (k1.mono (by simp))
  have hge2 : w.heap.size < hb := by simp at hge; omega
  clear k1 hge
  have HB0 : Hid (Beg w ((w1.alloc (Obj.cells (madeCells #[.int .u8 0] n) 5)).alloc (Obj.cells #[.pointer (some ⟨hb, 0, none⟩), .int .i64 a, .int .i64 b, .int .i64 c, .int .i64 d, .slice (some ⟨w1.heap.size, 0, none⟩) n n, .slice none 0 0, .slice none 0 0] 37)).drew (w1.heap.size + 1) w1.heap.size hb w.heap.size (newSt a b c d) c 0 0 nilV (fun _ => [])) :=
    Beg.start HN.out hh K1 rfl hge2 (fun g hg => by
      rcases hg with rfl | ⟨d', _, hd'⟩
      · exact hge2
      · simp [newSt, Value.ownBlock] at hd') s0 s1 s2
  go_wp2_with fail
  go_region
  clear s3 hh
  generalize ((w1.alloc (Obj.cells (madeCells #[Value.int .u8 0] n) 5)).alloc (Obj.cells #[Value.pointer (some ⟨hb, 0, none⟩), Value.int .i64 a, Value.int .i64 b, Value.int .i64 c, Value.int .i64 d, Value.slice (some ⟨w1.heap.size, 0, none⟩) n n, Value.slice none 0 0, Value.slice none 0 0] 37)).drew = w2 at HB0 ⊢
  clear hmk s0 s1 s2 hlt hlt0 K1
  go_wp2_with fail
  go_loopw [7, 8, 9] (fun j _ _ wr => ∃ (k : Nat) (V : Nat → Value) (X : Nat → List Value), k ≤ a + b ∧ j = .int .i64 k ∧ Hid (Beg w wr (w1.heap.size + 1) w1.heap.size hb w.heap.size (newSt a b c d) c k 0 V X) ∧ Hid (V (2 + k) = .slice none 0 0)) (fun j _ _ _ => (a + b) - (intOf j).toNat)
  case atStart => exact ⟨0, nilV, fun _ => [], by omega, rfl, HB0, rfl⟩
  case round =>
    obtain ⟨k, V, X, hk, rfl, hB, hnil⟩ := hrel
    clear HB0
    have t0 : wr.cell? ⟨w.heap.size, 0, none⟩ = some (.int .i64 a) := hB.out.c0
    have t1 : wr.cell? ⟨w.heap.size, 1, none⟩ = some (.int .i64 b) := hB.out.c1
    by_cases hlt : k < a + b
    · have hlti : (k : Int) < (a : Int) + b := by omega
      go_wp2_with fail
      go_loopw [8, 9] (fun l r wi => ∃ (j : Nat) (V : Nat → Value) (X : Nat → List Value), j ≤ c ∧ r = .int .i64 j ∧ l = V (2 + k) ∧ Hid (Beg w wi (w1.heap.size + 1) w1.heap.size hb w.heap.size (newSt a b c d) c k j V X)) (fun _ r _ => c - (intOf r).toNat)
      case atStart => exact ⟨0, V, X, by omega, rfl, hnil.out.symm, hB⟩
      case round =>
        clear hB hnil t0 t1
        obtain ⟨j, V, X, hj, rfl, rfl, hB⟩ := hrel
        have t2 : wr.cell? ⟨w.heap.size, 2, none⟩ = some (.int .i64 c) := hB.out.c2
        by_cases hjc : j < c
        · have HO : Hid ((wr.alloc (Obj.cells #[.bool true] 4)).ownsRow 0 4 1 (V (2 + k)) j (List.replicate j (.bool true))) := by
            have h1 := (hB.out.fam.own (2 + k) (by omega)).alloc (Obj.cells #[.bool true] 4)
            have hE : famE (2 + k) = 4 := by unfold famE; rw [if_neg (by omega)]
            rw [hE, hB.out.x3, List.length_replicate] at h1
            exact h1
          have HNW : Hid (∀ j u, [Value.bool true][j]? = some u → (wr.alloc (Obj.cells #[.bool true] 4)).cell? ((⟨wr.heap.size, 0, none⟩ : Addr).add j) = some u) := cell_one_new _ _ _
          go_wp2_with (at_builtin; go_must (refine wpl_append appBool (by rfl) _ _ (by rfl) 0 _ j (List.replicate j (.bool true)) (by rfl) HO.out ⟨wr.heap.size, 0, none⟩ 1 1 [.bool true] (by rfl) (by rfl) HNW.out (by simp [Value.oneCell']) ?_ ?_ (Nat.zero_le _) ?_))
          · simp only [maxLen]; omega
          · omega
          · intro v' w3 hown hgr hat
            have HB3 : Hid (Beg w w3 (w1.heap.size + 1) w1.heap.size hb w.heap.size (newSt a b c d) c k (j + 1) (upd V (2 + k) v') (upd X (2 + k) (List.replicate (j + 1) (.bool true)))) :=
              hB.out.inner v' ((Below.refl _ _).alloc (Nat.le_refl _) _) hgr hown (by simpa using hat)
            clear hown hgr hat HO HNW t2
            go_wp2_with fail
            go_roundw
            case rel =>
              exact ⟨j + 1, upd V (2 + k) v', upd X (2 + k) (List.replicate (j + 1) (.bool true)), by omega, by go_num, (upd_same V (2 + k) v').symm, HB3⟩
            case measure => simp [intOf]; omega
        · have hje : j = c := by omega
          subst hje
          have HO0 : Hid ((wr.alloc (Obj.cells #[.bool false] 4)).ownsRow 0 4 1 (V 0) k (List.replicate k (.bool false))) := by
            have h1 := (hB.out.fam.own 0 (by omega)).alloc (Obj.cells #[.bool false] 4)
            rw [hB.out.x0, List.length_replicate] at h1
            exact h1
          have HNW : Hid (∀ j u, [Value.bool false][j]? = some u → (wr.alloc (Obj.cells #[.bool false] 4)).cell? ((⟨wr.heap.size, 0, none⟩ : Addr).add j) = some u) := cell_one_new _ _ _
          have r6 : wr.cell? ⟨w1.heap.size + 1, 6, none⟩ = some (V 0) := hB.out.row.cell (i := 6) (by omega)
          have rlt := hB.out.row.lt
          obtain ⟨p0, n0, q0, hv0⟩ := own_slice (hB.out.fam.own 0 (by omega))
          have HV0 : Hid (V 0 = .slice p0 n0 q0) := hv0
          obtain ⟨pl, nl, ql, hvl⟩ := own_slice (hB.out.fam.own (2 + k) (by omega))
          have HVL : Hid (V (2 + k) = .slice pl nl ql) := hvl
          obtain ⟨p2, n2, q2, hv2⟩ := own_slice (hB.out.fam.own 1 (by omega))
          have HV2 : Hid (V 1 = .slice p2 n2 q2) := hv2
          rw [hvl]
          clear hvl hv2
          rw [hv0] at r6
          have HO1 : Hid ((wr.alloc (Obj.cells #[.bool false] 4)).ownsRow 0 4 1 (.slice p0 n0 q0) k (List.replicate k (.bool false))) := by rw [← hv0]; exact HO0.out
          clear hv0
          go_wp2_with (at_builtin; go_must (refine wpl_append appBool (by rfl) _ _ (by rfl) 0 _ k (List.replicate k (.bool false)) (by rfl) HO1.out ⟨wr.heap.size, 0, none⟩ 1 1 [.bool false] (by rfl) (by rfl) HNW.out (by simp [Value.oneCell']) ?_ ?_ (Nat.zero_le _) ?_))
          · simp only [maxLen]; omega
          · omega
          · intro v' w3 hown hgr hat
            have kW : Below wr.heap.size wr (wr.alloc (Obj.cells #[.bool false] 4)) := (Below.refl _ _).alloc (Nat.le_refl _) _
            have hgr2 : (wr.alloc (Obj.cells #[.bool false] 4)).grownBy w3 (V 0).ownBlock := by rw [HV0.out]; exact hgr
            have hat2 : v'.ownBlock = (V 0).ownBlock ∨ v'.ownBlock = some (wr.alloc (Obj.cells #[.bool false] 4)).heap.size := by rw [HV0.out]; simpa using hat
            obtain ⟨t1, _⟩ := hB.out.turn (w' := w3) (fun g hl hh => (hgr2.block g (Nat.lt_of_lt_of_le hl kW.size) (fun e => hB.out.fam.out 0 g (by omega) e.symm hh)).trans (kW.block g hl))
            have u6 := t1.cell (i := 6) (by omega)
            have f6 := t1.frozen 6
            have u7 := t1.lt
            have HM : Hid (Mid w (w3.setCell ⟨w1.heap.size + 1, 6, none⟩ v') (w1.heap.size + 1) w1.heap.size hb w.heap.size (newSt a b j d) j k (upd V 0 v') (upd X 0 (List.replicate (k + 1) (.bool false)))) := hB.out.mid v' kW hgr2 hown hat2
            obtain ⟨p1, n1, q1, hv1⟩ := own_slice hown
            have HV1 : Hid (v' = .slice p1 n1 q1) := hv1
            subst hv1
            have u7' := t1.cell (i := 7) (by omega)
            have f7 := t1.frozen 7
            have e7 : kv hb (newSt a b j d) w1.heap.size (V 0) (V 1) 7 = .slice p2 n2 q2 := by rw [← HV2.out]; rfl
            rw [e7] at u7'
            have HO2 : Hid (((w3.setCell ⟨w1.heap.size + 1, 6, none⟩ (.slice p1 n1 q1)).alloc (Obj.cells #[.slice pl nl ql] 34)).ownsRow 0 34 1 (.slice p2 n2 q2) k (X 1)) := by
              have h1 := (HM.out.fam.own 1 (by omega)).alloc (Obj.cells #[.slice pl nl ql] 34)
              rw [upd_other _ _ (by omega), upd_other _ _ (by omega), HV2.out] at h1
              have h3 : (X 1).length = k := by rw [hB.out.x1]; simp
              rw [h3] at h1
              exact h1
            have hsz3 : (w3.setCell ⟨w1.heap.size + 1, 6, none⟩ (.slice p1 n1 q1)).heap.size = w3.heap.size := by simp [World.setCell]
            have HNW2 : Hid (∀ j u, [Value.slice pl nl ql][j]? = some u → ((w3.setCell ⟨w1.heap.size + 1, 6, none⟩ (.slice p1 n1 q1)).alloc (Obj.cells #[.slice pl nl ql] 34)).cell? ((⟨w3.heap.size, 0, none⟩ : Addr).add j) = some u) := by
              have h1 := cell_one_new (w3.setCell ⟨w1.heap.size + 1, 6, none⟩ (.slice p1 n1 q1)) (.slice pl nl ql) 34
              rw [hsz3] at h1; exact h1
            clear hown hgr hat hgr2 hat2 t1 HO0 HO1 HNW r6 t2 kW rlt e7 hsz3
            go_wp2_with (at_builtin; go_must (refine wpl_append appBools (by rfl) _ _ (by rfl) 0 _ k (X 1) (by rfl) HO2.out ⟨w3.heap.size, 0, none⟩ 1 1 [.slice pl nl ql] (by rfl) (by rfl) HNW2.out (by simp [Value.oneCell']) ?_ ?_ (Nat.zero_le _) ?_))
            · simp only [maxLen]; omega
            · omega
            · intro v2 w5 hown hgr hat
              have eV1 : upd V 0 (Value.slice p1 n1 q1) 1 = .slice p2 n2 q2 := by rw [upd_other _ _ (by omega), HV2.out]
              have eX1 : upd X 0 (List.replicate (k + 1) (Value.bool false)) 1 = X 1 := upd_other _ _ (by omega)
              have eVk : upd V 0 (Value.slice p1 n1 q1) (2 + k) = .slice pl nl ql := by rw [upd_other _ _ (by omega), HVL.out]
              have kW : Below (w3.setCell ⟨w1.heap.size + 1, 6, none⟩ (.slice p1 n1 q1)).heap.size (w3.setCell ⟨w1.heap.size + 1, 6, none⟩ (.slice p1 n1 q1)) ((w3.setCell ⟨w1.heap.size + 1, 6, none⟩ (.slice p1 n1 q1)).alloc (Obj.cells #[.slice pl nl ql] 34)) := (Below.refl _ _).alloc (Nat.le_refl _) _
              have hgr2 : ((w3.setCell ⟨w1.heap.size + 1, 6, none⟩ (.slice p1 n1 q1)).alloc (Obj.cells #[.slice pl nl ql] 34)).grownBy w5 (upd V 0 (Value.slice p1 n1 q1) 1).ownBlock := by rw [eV1]; exact hgr
              have hat2 : v2.ownBlock = (upd V 0 (Value.slice p1 n1 q1) 1).ownBlock ∨ v2.ownBlock = some ((w3.setCell ⟨w1.heap.size + 1, 6, none⟩ (.slice p1 n1 q1)).alloc (Obj.cells #[.slice pl nl ql] 34)).heap.size := by rw [eV1]; simpa [World.setCell] using hat
              have hrow : w5.rowIs (w1.heap.size + 1) 37 8 (kv hb (newSt a b j d) w1.heap.size (upd V 0 (Value.slice p1 n1 q1) 0) (upd V 0 (Value.slice p1 n1 q1) 1)) :=
                HM.out.row.of_block ((hgr2.block _ (Nat.lt_of_lt_of_le HM.out.row.lt kW.size) (fun e => HM.out.fam.out 1 _ (by omega) e.symm (.inl rfl))).trans (kW.block _ HM.out.row.lt))
              have g7 := hrow.cell (i := 7) (by omega)
              have gf7 := hrow.frozen 7
              have glt := hrow.lt
              have HB5 : Hid (Beg w (w5.setCell ⟨w1.heap.size + 1, 7, none⟩ v2) (w1.heap.size + 1) w1.heap.size hb w.heap.size (newSt a b j d) j (k + 1) 0 (upd (upd V 0 (Value.slice p1 n1 q1)) 1 v2) (upd (upd X 0 (List.replicate (k + 1) (Value.bool false))) 1 (upd X 0 (List.replicate (k + 1) (Value.bool false)) 1 ++ [upd V 0 (Value.slice p1 n1 q1) (2 + k)]))) :=
                HM.out.next v2 kW hgr2 (by rw [eX1, eVk]; exact hown) hat2
              have HN5 : Hid ((upd (upd V 0 (Value.slice p1 n1 q1)) 1 v2) (2 + (k + 1)) = .slice none 0 0) := by
                show _ = _
                rw [upd_other _ _ (by omega), upd_other _ _ (by omega)]
                exact (hB.out.x4 _ (by omega)).1
              obtain ⟨p5, n5, q5, hv5⟩ := own_slice hown
              subst hv5
              clear hown hgr hat hgr2 hat2 hrow HO2 HNW2 u6 f6 u7 u7' f7 kW eV1 eX1 eVk
              go_wp2_with fail
              first
                | exact ⟨⟨k + 1, _, _, by omega, by go_num, HB5, HN5⟩, by simp [intOf]; omega⟩
                | (go_roundw
                   case rel => exact ⟨k + 1, _, _, by omega, by go_num, HB5, HN5⟩
                   case measure => simp [intOf]; omega)
    · have hke : k = a + b := by omega
      have hlti : ¬ ((k : Int) < (a : Int) + b) := by omega
      have HKE : Hid (k = a + b) := hke
      clear hke hlt
      go_wp2_with fail
      go_ret2
      refine ⟨w1.heap.size + 1, rfl, w1.heap.size, hb, V, X, ?_⟩
      rw [← HKE.out]
      exact hB.out
end Go.Proofs.Ytfpoiikhhjdpdab
