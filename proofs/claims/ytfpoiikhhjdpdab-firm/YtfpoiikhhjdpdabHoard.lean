/- The program's hoard in memory. -/
import Derived.Test.YtfpoiikhhjdpdabCells
import Derived.Maps.AppendAt
namespace Go.Proofs.Ytfpoiikhhjdpdab
open Go.RowKit
structure Rec where
  row : Nat
  c : C4
def Rec.cells (r : Rec) : List Value := [.int .i64 r.row, .int .u8 r.c.b0, .int .u8 r.c.b1, .int .u8 r.c.b2, .int .u8 r.c.b3]
def recCells (l : List Rec) : List Value := l.flatMap Rec.cells
theorem recCells_length (l : List Rec) : (recCells l).length = l.length * 5 := by
  induction l with
  | nil => rfl
  | cons r l ih => simp only [recCells, List.flatMap_cons, List.length_append, List.length_cons] at *; rw [ih]; simp [Rec.cells]; omega
/-- What a hoard has, whatever lies where. -/
structure Ab where
  D : Nat
  P : Nat
  R : Nat
  M : Nat
  lost : Nat → Bool
  ub : Nat → Nat → Bool
  cell : Nat → Nat → C4
  recs : Nat → List Rec
  steps : Nat
  brk : Option Nat
/-- What is noted of a block that is being written, and whether the hoard is down. -/
structure Aux where
  blk : Nat
  aft : C4
  chg : C4
  tv : Value
  tk : List Nat
  dn : Nat
  down : Bool
/-- Nothing is noted, and the hoard is up. -/
def aux0 : Aux := ⟨0, C4.zero, C4.zero, .slice none 0 0, [], 0, false⟩
/-- And where its logs lie, and what else its struct has. -/
structure St extends Ab where
  lv : Nat → Value
  aux : Aux
instance : Coe St Ab := ⟨St.toAb⟩
/-- Place j of drive d. -/
def dv (s : St) (d j : Nat) : Value :=
  if j = 0 then .bool (s.lost d) else if j < 7 then .bool (s.ub d (j - 1)) else if j < 31 then .int .u8 ((s.cell d ((j - 7) / 4)).at ((j - 7) % 4)) else s.lv d
def auxv (x : Aux) (b : Option Nat) (i : Nat) : Value :=
  if i = 197 then .int .i64 x.blk else if i < 202 then .int .u8 (x.aft.at (i - 198)) else if i < 206 then .int .u8 (x.chg.at (i - 202)) else if i = 206 then x.tv else if i = 207 then .int .i64 x.dn
  else if i = 208 then .bool b.isSome else if i = 209 then .int .i64 (b.getD 0) else .bool x.down
def hv (s : St) (i : Nat) : Value :=
  if i < 4 then (if i = 0 then .int .i64 s.D else if i = 1 then .int .i64 s.P else if i = 2 then .int .i64 s.R else .int .i64 s.M)
  else if i < 196 then dv s ((i - 4) / 32) ((i - 4) % 32)
  else if i = 196 then .int .i64 s.steps else auxv s.aux s.brk i
theorem hv_at (s : St) (d j : Nat) (hd : d < 6) (hj : j < 32) : hv s (4 + d * 32 + j) = dv s d j := by
  unfold hv
  rw [if_neg (by omega), if_pos (by omega), show (4 + d * 32 + j - 4) / 32 = d by omega, show (4 + d * 32 + j - 4) % 32 = j by omega]
theorem hv_lost (s : St) (d : Nat) (hd : d < 6) : hv s (4 + d * 32) = .bool (s.lost d) := hv_at s d 0 hd (by omega)
theorem hv_ub (s : St) (d r : Nat) (hd : d < 6) (hr : r < 6) : hv s (4 + d * 32 + 1 + r) = .bool (s.ub d r) := by
  rw [show 4 + d * 32 + 1 + r = 4 + d * 32 + (1 + r) by omega, hv_at s d _ hd (by omega)]
  unfold dv
  rw [if_neg (by omega), if_pos (by omega), show 1 + r - 1 = r by omega]
theorem hv_cell (s : St) (d r i : Nat) (hd : d < 6) (hr : r < 6) (hi : i < 4) : hv s (4 + d * 32 + 7 + r * 4 + i) = .int .u8 ((s.cell d r).at i) := by
  rw [show 4 + d * 32 + 7 + r * 4 + i = 4 + d * 32 + (7 + r * 4 + i) by omega, hv_at s d _ hd (by omega)]
  unfold dv
  rw [if_neg (by omega), if_neg (by omega), if_pos (by omega), show (7 + r * 4 + i - 7) / 4 = r by omega, show (7 + r * 4 + i - 7) % 4 = i by omega]
theorem hv_log (s : St) (d : Nat) (hd : d < 6) : hv s (4 + d * 32 + 31) = s.lv d := by
  rw [hv_at s d _ hd (by omega)]; rfl
theorem hv_steps (s : St) : hv s 196 = .int .i64 s.steps := rfl
def St.setCell (s : St) (d r : Nat) (c : C4) : St := { s with cell := fun d' r' => if d' = d ∧ r' = r then c else s.cell d' r' }
def St.setUb (s : St) (d r : Nat) (b : Bool) : St := { s with ub := fun d' r' => if d' = d ∧ r' = r then b else s.ub d' r' }
def St.setLog (s : St) (d : Nat) (l : List Rec) (v : Value) : St := { s with recs := fun d' => if d' = d then l else s.recs d', lv := fun d' => if d' = d then v else s.lv d' }
def St.setSteps (s : St) (n : Nat) : St := { s with steps := n }
/-- A drive as it comes new: lost, or live with so many cells not built. -/
def St.newDrive (s : St) (d : Nat) (lo : Bool) (n : Nat) : St :=
  { s with lost := fun d' => if d' = d then lo else s.lost d', ub := fun d' r => if d' = d then decide (r < n) else s.ub d' r, cell := fun d' r => if d' = d then C4.zero else s.cell d' r, recs := fun d' => if d' = d then [] else s.recs d', lv := fun d' => if d' = d then .slice none 0 0 else s.lv d' }
/-- Two hoards that differ in one drive at most. -/
theorem hv_drive (s s' : St) (d : Nat) (hD : s'.D = s.D) (hP : s'.P = s.P) (hR : s'.R = s.R) (hM : s'.M = s.M) (hs : s'.steps = s.steps) (ha : s'.aux = s.aux) (hbk : s'.brk = s.brk) (hd : ∀ d' j, d' ≠ d → dv s' d' j = dv s d' j) (i : Nat) :
    hv s' i = if 4 + d * 32 ≤ i ∧ i < 4 + d * 32 + 32 ∧ i < 196 then dv s' d (i - (4 + d * 32)) else hv s i := by
  by_cases h0 : 4 + d * 32 ≤ i ∧ i < 4 + d * 32 + 32 ∧ i < 196
  · rw [if_pos h0]
    have : hv s' (4 + d * 32 + (i - (4 + d * 32))) = _ := hv_at s' d (i - (4 + d * 32)) (by omega) (by omega)
    rw [show 4 + d * 32 + (i - (4 + d * 32)) = i by omega] at this
    exact this
  · rw [if_neg h0]
    unfold hv
    rw [hD, hP, hR, hM, hs, ha, hbk]
    by_cases h1 : i < 4
    · rw [if_pos h1, if_pos h1]
    · rw [if_neg h1, if_neg h1]
      by_cases h2 : i < 196
      · rw [if_pos h2, if_pos h2, hd _ _ (by omega)]
      · rw [if_neg h2, if_neg h2]
theorem hv_setCell (s : St) (d r : Nat) (c : C4) (hd : d < 6) (hr : r < 6) (j : Nat) (hj : j < 211) :
    hv (s.setCell d r c) j = if j = 4 + d * 32 + 7 + r * 4 then .int .u8 c.b0 else if j = 4 + d * 32 + 7 + r * 4 + 1 then .int .u8 c.b1 else if j = 4 + d * 32 + 7 + r * 4 + 2 then .int .u8 c.b2 else if j = 4 + d * 32 + 7 + r * 4 + 3 then .int .u8 c.b3 else hv s j := by
  by_cases h0 : 4 + d * 32 + 7 + r * 4 ≤ j ∧ j < 4 + d * 32 + 7 + r * 4 + 4
  · obtain ⟨i, rfl⟩ : ∃ i, j = 4 + d * 32 + 7 + r * 4 + i := ⟨j - (4 + d * 32 + 7 + r * 4), by omega⟩
    rw [hv_cell _ d r i hd hr (by omega)]
    have : i = 0 ∨ i = 1 ∨ i = 2 ∨ i = 3 := by omega
    rcases this with rfl | rfl | rfl | rfl <;> simp [St.setCell, C4.at]
  · rw [if_neg (by omega), if_neg (by omega), if_neg (by omega), if_neg (by omega)]
    unfold hv St.setCell dv
    split
    · rfl
    · split
      · split
        · rfl
        · split
          · rfl
          · split
            · have : ¬ ((j - 4) / 32 = d ∧ ((j - 4) % 32 - 7) / 4 = r) := by omega
              simp only [this, if_false]
            · rfl
      · rfl
theorem hv_setUb (s : St) (d r : Nat) (b : Bool) (hd : d < 6) (hr : r < 6) (j : Nat) (hj : j < 211) :
    hv (s.setUb d r b) j = if j = 4 + d * 32 + 1 + r then .bool b else hv s j := by
  by_cases h0 : j = 4 + d * 32 + 1 + r
  · subst h0; rw [if_pos rfl, hv_ub _ d r hd hr]; simp [St.setUb]
  · rw [if_neg h0]
    unfold hv St.setUb dv
    split
    · rfl
    · split
      · split
        · rfl
        · split
          · have : ¬ ((j - 4) / 32 = d ∧ (j - 4) % 32 - 1 = r) := by omega
            simp only [this, if_false]
          · rfl
      · rfl
theorem hv_setLog (s : St) (d : Nat) (l : List Rec) (v : Value) (hd : d < 6) (j : Nat) (hj : j < 211) : hv (s.setLog d l v) j = if j = 4 + d * 32 + 31 then v else hv s j := by
  by_cases h0 : j = 4 + d * 32 + 31
  · subst h0; rw [if_pos rfl, hv_log _ d hd]; simp [St.setLog]
  · rw [if_neg h0]
    unfold hv St.setLog dv
    split
    · rfl
    · split
      · split
        · rfl
        · split
          · rfl
          · split
            · rfl
            · have : ¬ ((j - 4) / 32 = d) := by omega
              simp only [this, if_false]
      · rfl
theorem hv_setSteps (s : St) (n : Nat) (j : Nat) (hj : j < 211) : hv (s.setSteps n) j = if j = 196 then .int .i64 n else hv s j := by
  by_cases h0 : j = 196
  · subst h0; rfl
  · rw [if_neg h0]; unfold hv St.setSteps dv; simp only [h0, if_false]
structure Ab.ok (s : Ab) : Prop where
  D1 : 1 ≤ s.D
  D4 : s.D ≤ 4
  P1 : 1 ≤ s.P
  P2 : s.P ≤ 2
  R1 : 1 ≤ s.R
  R6 : s.R ≤ 6
  M1 : 1 ≤ s.M
  M8 : s.M ≤ 8
  cells : ∀ d r, (s.cell d r).ok
  len : ∀ d, (s.recs d).length ≤ s.M
  recs : ∀ d, ∀ x ∈ s.recs d, x.row < s.R ∧ x.c.ok
  data : ∀ d, d < s.D → s.recs d = []
def LogAt (w : World) (v : Value) (l : List Rec) : Prop := w.ownsRow 0 76 5 v l.length (recCells l)
structure HoardIn (w : World) (hb : Nat) (s : St) : Prop where
  ok : s.ok
  row : w.rowIs hb 91 211 (hv s)
  logs : ∀ d, d < 6 → LogAt w (s.lv d) (s.recs d)
  apart : ∀ d, d < 6 → (s.lv d).ownBlock ≠ some hb
  apart2 : ∀ d d' g, d < 6 → d' < 6 → d ≠ d' → (s.lv d).ownBlock = some g → (s.lv d').ownBlock ≠ some g
def Foot (hb : Nat) (s : St) (k : Nat) : Prop := k = hb ∨ ∃ d, d < 6 ∧ (s.lv d).ownBlock = some k
theorem LogAt.of_block {w w' : World} {v : Value} {l : List Rec} (h : LogAt w v l) (e : ∀ g, v.ownBlock = some g → w'.heap[g]? = w.heap[g]?) : LogAt w' v l := by
  refine ⟨h.1, ?_⟩
  rcases h.2 with h1 | ⟨g, cap, cur, rfl, hb, hg, rest⟩
  · exact .inl h1
  · exact .inr ⟨g, cap, cur, rfl, hb, (e g rfl).trans hg, rest⟩
theorem LogAt.lt {w : World} {v : Value} {l : List Rec} (h : LogAt w v l) {g : Nat} (hg : v.ownBlock = some g) : g < w.heap.size := (World.ownsRow.lt h g hg).2
theorem HoardIn.foot_lt {w : World} {hb : Nat} {s : St} (h : HoardIn w hb s) {k : Nat} (hk : Foot hb s k) : k < w.heap.size := by
  rcases hk with rfl | ⟨d, hd, e⟩
  · exact h.row.lt
  · exact (h.logs d hd).lt e
/-- A hoard lies where it lay, if none of its blocks has turned. -/
theorem HoardIn.of_block {w w' : World} {hb : Nat} {s : St} (h : HoardIn w hb s) (e : ∀ k, Foot hb s k → w'.heap[k]? = w.heap[k]?) : HoardIn w' hb s :=
  ⟨h.ok, h.row.of_block (e hb (.inl rfl)), fun d hd => (h.logs d hd).of_block (fun g hg => e g (.inr ⟨d, hd, hg⟩)), h.apart, h.apart2⟩
theorem HoardIn.kept {w w' : World} {hb : Nat} {s : St} {S : Nat → Prop} (h : HoardIn w hb s) (k : Kept S w w') (hS : ∀ i, Foot hb s i → ¬ S i) : HoardIn w' hb s :=
  h.of_block (fun i hi => k.block i (h.foot_lt hi) (hS i hi))
theorem HoardIn.below {w w' : World} {hb : Nat} {s : St} (h : HoardIn w hb s) (k : Below w.heap.size w w') : HoardIn w' hb s :=
  h.of_block (fun i hi => k.block i (h.foot_lt hi))
theorem HoardIn.drewN {w : World} {hb : Nat} {s : St} (h : HoardIn w hb s) (n : Nat) : HoardIn (w.drewN n) hb s := h.of_block (fun _ _ => rfl)
theorem HoardIn.shape {w : World} {hb : Nat} {s : St} (h : HoardIn w hb s) :
    w.cell? ⟨hb, 0, none⟩ = some (.int .i64 s.D) ∧ w.cell? ⟨hb, 1, none⟩ = some (.int .i64 s.P) ∧ w.cell? ⟨hb, 2, none⟩ = some (.int .i64 s.R) ∧ w.cell? ⟨hb, 3, none⟩ = some (.int .i64 s.M) :=
  ⟨h.row.cell (i := 0) (by omega), h.row.cell (i := 1) (by omega), h.row.cell (i := 2) (by omega), h.row.cell (i := 3) (by omega)⟩
theorem HoardIn.cell {w : World} {hb : Nat} {s : St} (h : HoardIn w hb s) (d r : Nat) (hd : d < 6) (hr : r < 6) :
    w.cell? ⟨hb, 4 + d * 32 + 7 + r * 4, none⟩ = some (.int .u8 (s.cell d r).b0) ∧ w.cell? ⟨hb, 4 + d * 32 + 7 + r * 4 + 1, none⟩ = some (.int .u8 (s.cell d r).b1) ∧ w.cell? ⟨hb, 4 + d * 32 + 7 + r * 4 + 2, none⟩ = some (.int .u8 (s.cell d r).b2) ∧ w.cell? ⟨hb, 4 + d * 32 + 7 + r * 4 + 3, none⟩ = some (.int .u8 (s.cell d r).b3) := by
  have c := fun i (hi : i < 4) => (h.row.cell (i := 4 + d * 32 + 7 + r * 4 + i) (by omega)).trans (congrArg some (hv_cell s d r i hd hr hi))
  exact ⟨c 0 (by omega), c 1 (by omega), c 2 (by omega), c 3 (by omega)⟩
theorem HoardIn.log {w : World} {hb : Nat} {s : St} (h : HoardIn w hb s) (d : Nat) (hd : d < 6) : w.cell? ⟨hb, 4 + d * 32 + 31, none⟩ = some (s.lv d) :=
  (h.row.cell (by omega)).trans (congrArg some (hv_log s d hd))
theorem HoardIn.lostAt {w : World} {hb : Nat} {s : St} (h : HoardIn w hb s) (d : Nat) (hd : d < 6) : w.cell? ⟨hb, 4 + d * 32, none⟩ = some (.bool (s.lost d)) :=
  (h.row.cell (by omega)).trans (congrArg some (hv_lost s d hd))
theorem HoardIn.ubAt {w : World} {hb : Nat} {s : St} (h : HoardIn w hb s) (d r : Nat) (hd : d < 6) (hr : r < 6) : w.cell? ⟨hb, 4 + d * 32 + 1 + r, none⟩ = some (.bool (s.ub d r)) :=
  (h.row.cell (by omega)).trans (congrArg some (hv_ub s d r hd hr))
theorem HoardIn.stepsAt {w : World} {hb : Nat} {s : St} (h : HoardIn w hb s) : w.cell? ⟨hb, 196, none⟩ = some (.int .i64 s.steps) := h.row.cell (by omega)
/-- The hoard with another cell. -/
theorem HoardIn.setCell {w : World} {hb : Nat} {s : St} (h : HoardIn w hb s) (d r : Nat) (c : C4) (hd : d < 6) (hr : r < 6) (hc : c.ok) :
    HoardIn ((((w.setCell ⟨hb, 4 + d * 32 + 7 + r * 4, none⟩ (.int .u8 c.b0)).setCell ⟨hb, 4 + d * 32 + 7 + r * 4 + 1, none⟩ (.int .u8 c.b1)).setCell ⟨hb, 4 + d * 32 + 7 + r * 4 + 2, none⟩ (.int .u8 c.b2)).setCell ⟨hb, 4 + d * 32 + 7 + r * 4 + 3, none⟩ (.int .u8 c.b3)) hb (s.setCell d r c) := by
  have hoth : ∀ k, k ≠ hb → ((((w.setCell ⟨hb, 4 + d * 32 + 7 + r * 4, none⟩ (.int .u8 c.b0)).setCell ⟨hb, 4 + d * 32 + 7 + r * 4 + 1, none⟩ (.int .u8 c.b1)).setCell ⟨hb, 4 + d * 32 + 7 + r * 4 + 2, none⟩ (.int .u8 c.b2)).setCell ⟨hb, 4 + d * 32 + 7 + r * 4 + 3, none⟩ (.int .u8 c.b3)).heap[k]? = w.heap[k]? := by
    intro k hk
    rw [Below.heap_setCell _ _ _ _ hk, Below.heap_setCell _ _ _ _ hk, Below.heap_setCell _ _ _ _ hk, Below.heap_setCell _ _ _ _ hk]
  refine ⟨⟨h.ok.D1, h.ok.D4, h.ok.P1, h.ok.P2, h.ok.R1, h.ok.R6, h.ok.M1, h.ok.M8, ?_, h.ok.len, h.ok.recs, h.ok.data⟩, ?_, ?_, h.apart, h.apart2⟩
  · intro d' r'
    simp only [St.setCell]
    split
    · exact hc
    · exact h.ok.cells d' r'
  · refine ((((h.row.set _ _).set _ _).set _ _).set _ _).congr ?_
    intro j hj
    rw [hv_setCell s d r c hd hr j hj]
    by_cases e0 : j = 4 + d * 32 + 7 + r * 4
    · subst e0; rw [if_neg (by omega), if_neg (by omega), if_neg (by omega), if_pos rfl, if_pos rfl]
    · by_cases e1 : j = 4 + d * 32 + 7 + r * 4 + 1
      · subst e1; rw [if_neg (by omega), if_neg (by omega), if_pos rfl, if_neg (by omega), if_pos rfl]
      · by_cases e2 : j = 4 + d * 32 + 7 + r * 4 + 2
        · subst e2; rw [if_neg (by omega), if_pos rfl, if_neg (by omega), if_neg (by omega), if_pos rfl]
        · by_cases e3 : j = 4 + d * 32 + 7 + r * 4 + 3
          · subst e3; rw [if_pos rfl, if_neg (by omega), if_neg (by omega), if_neg (by omega), if_pos rfl]
          · rw [if_neg e3, if_neg e2, if_neg e1, if_neg e0, if_neg e0, if_neg e1, if_neg e2, if_neg e3]
  · intro d' hd'
    exact (h.logs d' hd').of_block (fun g hg => hoth g (fun e => h.apart d' hd' (by rw [hg, e])))
theorem HoardIn.setSteps {w : World} {hb : Nat} {s : St} (h : HoardIn w hb s) (n : Nat) : HoardIn (w.setCell ⟨hb, 196, none⟩ (.int .i64 n)) hb (s.setSteps n) := by
  refine ⟨⟨h.ok.D1, h.ok.D4, h.ok.P1, h.ok.P2, h.ok.R1, h.ok.R6, h.ok.M1, h.ok.M8, h.ok.cells, h.ok.len, h.ok.recs, h.ok.data⟩, ?_, ?_, h.apart, h.apart2⟩
  · exact (h.row.set _ _).congr (fun j hj => (hv_setSteps s n j hj).symm)
  · intro d' hd'
    exact (h.logs d' hd').of_block (fun g hg => Below.heap_setCell _ _ _ _ (fun e => h.apart d' hd' (by rw [hg, e])))
theorem HoardIn.setUb {w : World} {hb : Nat} {s : St} (h : HoardIn w hb s) (d r : Nat) (b : Bool) (hd : d < 6) (hr : r < 6) : HoardIn (w.setCell ⟨hb, 4 + d * 32 + 1 + r, none⟩ (.bool b)) hb (s.setUb d r b) := by
  refine ⟨⟨h.ok.D1, h.ok.D4, h.ok.P1, h.ok.P2, h.ok.R1, h.ok.R6, h.ok.M1, h.ok.M8, h.ok.cells, h.ok.len, h.ok.recs, h.ok.data⟩, ?_, ?_, h.apart, h.apart2⟩
  · exact (h.row.set _ _).congr (fun j hj => (hv_setUb s d r b hd hr j hj).symm)
  · intro d' hd'
    exact (h.logs d' hd').of_block (fun g hg => Below.heap_setCell _ _ _ _ (fun e => h.apart d' hd' (by rw [hg, e])))
/-- The hoard with another log: the new list lies in a block of its own. -/
theorem HoardIn.setLog {w w1 : World} {hb : Nat} {s : St} (h : HoardIn w hb s) (d : Nat) (l : List Rec) (v : Value) (hd : d < 6) (hp : s.D ≤ d)
    (hkept : ∀ k, k < w.heap.size → (s.lv d).ownBlock ≠ some k → w1.heap[k]? = w.heap[k]?)
    (hl : LogAt w1 v l) (hlen : l.length ≤ s.M) (hrecs : ∀ x ∈ l, x.row < s.R ∧ x.c.ok) (hv1 : v.ownBlock = (s.lv d).ownBlock ∨ ∀ g, v.ownBlock = some g → w.heap.size ≤ g) :
    HoardIn (w1.setCell ⟨hb, 4 + d * 32 + 31, none⟩ v) hb (s.setLog d l v) := by
  have hrow : w1.rowIs hb 91 211 (hv s) := h.row.of_block (hkept hb h.row.lt (h.apart d hd))
  have hvb : v.ownBlock ≠ some hb := by
    intro e
    rcases hv1 with h1 | h1
    · exact h.apart d hd (h1 ▸ e)
    · have := h1 hb e; have := h.row.lt; omega
  refine ⟨⟨h.ok.D1, h.ok.D4, h.ok.P1, h.ok.P2, h.ok.R1, h.ok.R6, h.ok.M1, h.ok.M8, h.ok.cells, ?_, ?_, ?_⟩, ?_, ?_, ?_, ?_⟩
  · intro d'
    simp only [St.setLog]
    split
    · exact hlen
    · exact h.ok.len d'
  · intro d'
    simp only [St.setLog]
    split
    · exact hrecs
    · exact h.ok.recs d'
  · intro d' hd'
    simp only [St.setLog] at hd' ⊢
    rw [if_neg (by omega)]
    exact h.ok.data d' hd'
  · exact (hrow.set _ _).congr (fun j hj => (hv_setLog s d l v hd j hj).symm)
  · intro d' hd'
    simp only [St.setLog]
    by_cases e : d' = d
    · simp only [e, if_true]
      exact hl.of_block (fun g hg => Below.heap_setCell _ _ _ _ (fun e => hvb (by rw [hg, e])))
    · simp only [e, if_false]
      refine (h.logs d' hd').of_block (fun g hg => ?_)
      rw [Below.heap_setCell _ _ _ _ (fun e => h.apart d' hd' (by rw [hg, e]))]
      exact hkept g ((h.logs d' hd').lt hg) (h.apart2 d' d g hd' hd e hg)
  · intro d' hd'
    simp only [St.setLog]
    split
    · exact hvb
    · exact h.apart d' hd'
  · intro d1 d2 g h1 h2 hne
    simp only [St.setLog]
    by_cases e1 : d1 = d
    · have e2 : d2 ≠ d := fun e => hne (e1.trans e.symm)
      simp only [e1, e2, if_true, if_false]
      intro hg hg2
      rcases hv1 with h3 | h3
      · exact h.apart2 d d2 g hd h2 (fun e => e2 e.symm) (h3 ▸ hg) hg2
      · have := h3 g hg; have := (h.logs d2 h2).lt hg2; omega
    · by_cases e2 : d2 = d
      · simp only [e1, e2, if_true, if_false]
        intro hg hg2
        rcases hv1 with h3 | h3
        · exact h.apart2 d1 d g h1 hd e1 hg (h3 ▸ hg2)
        · have := h3 g hg2; have := (h.logs d1 h1).lt hg; omega
      · simp only [e1, e2, if_false]
        exact h.apart2 d1 d2 g h1 h2 hne
end Go.Proofs.Ytfpoiikhhjdpdab
