/- Cells of four bytes: their values, sums and products; what is kept where some blocks may turn. -/
import Derived.Test.YtfpoiikhhjdpdabFieldWalks
import Derived.WalkSmall
import Derived.Deep.OwnRows
import Derived.Deep.RegionHeld3
import Derived.Deep.DrawnRows
import Derived.Deep.QuietTactic
import Derived.BigQuiet
namespace Go.Proofs.Ytfpoiikhhjdpdab
open Go.RowKit

structure C4 where
  b0 : Nat
  b1 : Nat
  b2 : Nat
  b3 : Nat
def C4.at (c : C4) (i : Nat) : Nat := if i = 0 then c.b0 else if i = 1 then c.b1 else if i = 2 then c.b2 else c.b3
def C4.ok (c : C4) : Prop := c.b0 < 256 ∧ c.b1 < 256 ∧ c.b2 < 256 ∧ c.b3 < 256
def C4.val (c : C4) : Value := .agg #[.int .u8 c.b0, .int .u8 c.b1, .int .u8 c.b2, .int .u8 c.b3]
def C4.zero : C4 := ⟨0, 0, 0, 0⟩
def C4.mk4 (f : Nat → Nat) : C4 := ⟨f 0, f 1, f 2, f 3⟩
def C4.xor (a b : C4) : C4 := ⟨a.b0 ^^^ b.b0, a.b1 ^^^ b.b1, a.b2 ^^^ b.b2, a.b3 ^^^ b.b3⟩
def C4.scale (n : Nat) (c : C4) : C4 := ⟨Hd.mul n c.b0, Hd.mul n c.b1, Hd.mul n c.b2, Hd.mul n c.b3⟩
theorem C4.ext' {a b : C4} (h : ∀ i, i < 4 → a.at i = b.at i) : a = b := by
  obtain ⟨a0, a1, a2, a3⟩ := a
  obtain ⟨b0, b1, b2, b3⟩ := b
  have h0 := h 0 (by omega)
  have h1 := h 1 (by omega)
  have h2 := h 2 (by omega)
  have h3 := h 3 (by omega)
  simp [C4.at] at h0 h1 h2 h3
  subst h0 h1 h2 h3
  rfl
theorem C4.at_mk4 (f : Nat → Nat) (i : Nat) (hi : i < 4) : (C4.mk4 f).at i = f i := by
  have : i = 0 ∨ i = 1 ∨ i = 2 ∨ i = 3 := by omega
  rcases this with rfl | rfl | rfl | rfl <;> rfl
theorem C4.at_xor (a b : C4) (i : Nat) : (a.xor b).at i = a.at i ^^^ b.at i := by
  unfold C4.at C4.xor; split <;> try rfl
  split <;> try rfl
  split <;> rfl
theorem C4.at_scale (n : Nat) (c : C4) (i : Nat) : (c.scale n).at i = Hd.mul n (c.at i) := by
  unfold C4.at C4.scale; split <;> try rfl
  split <;> try rfl
  split <;> rfl
theorem C4.at_lt {c : C4} (h : c.ok) (i : Nat) : c.at i < 256 := by
  obtain ⟨h0, h1, h2, h3⟩ := h
  unfold C4.at; split <;> try assumption
  split <;> try assumption
  split <;> assumption
theorem C4.ok_of {c : C4} (h : ∀ i, i < 4 → c.at i < 256) : c.ok := ⟨h 0 (by omega), h 1 (by omega), h 2 (by omega), h 3 (by omega)⟩
theorem C4.xor_ok {a b : C4} (ha : a.ok) (hb : b.ok) : (a.xor b).ok := ⟨Hd.xor_lt _ _ ha.1 hb.1, Hd.xor_lt _ _ ha.2.1 hb.2.1, Hd.xor_lt _ _ ha.2.2.1 hb.2.2.1, Hd.xor_lt _ _ ha.2.2.2 hb.2.2.2⟩
theorem C4.scale_ok {n : Nat} {c : C4} (hn : n < 256) : (c.scale n).ok := ⟨Hd.mul_lt _ _ hn, Hd.mul_lt _ _ hn, Hd.mul_lt _ _ hn, Hd.mul_lt _ _ hn⟩
theorem C4.zero_ok : C4.zero.ok := ⟨by decide, by decide, by decide, by decide⟩

/-- Blocks that are not in S are as they were; the streams too; no block has gone. -/
structure Kept (S : Nat → Prop) (w w' : World) : Prop where
  os : w'.os = w.os
  tape : w'.tape = w.tape
  output : w'.output = w.output
  size : w.heap.size ≤ w'.heap.size
  block : ∀ k, k < w.heap.size → ¬ S k → w'.heap[k]? = w.heap[k]?
theorem Kept.refl (S : Nat → Prop) (w : World) : Kept S w w := ⟨rfl, rfl, rfl, Nat.le_refl _, fun _ _ _ => rfl⟩
theorem Kept.trans {S : Nat → Prop} {a b c : World} (h : Kept S a b) (k : Kept S b c) : Kept S a c :=
  ⟨k.os.trans h.os, k.tape.trans h.tape, k.output.trans h.output, Nat.le_trans h.size k.size, fun i hi hs => (k.block i (Nat.lt_of_lt_of_le hi h.size) hs).trans (h.block i hi hs)⟩
/-- What turns later may be blocks that are new since. -/
theorem Kept.trans' {S T : Nat → Prop} {a b c : World} (h : Kept S a b) (k : Kept T b c) (hT : ∀ i, T i → S i ∨ a.heap.size ≤ i) : Kept S a c :=
  ⟨k.os.trans h.os, k.tape.trans h.tape, k.output.trans h.output, Nat.le_trans h.size k.size, fun i hi hs => (k.block i (Nat.lt_of_lt_of_le hi h.size) (fun ht => by rcases hT i ht with h1 | h1; exact hs h1; omega)).trans (h.block i hi hs)⟩
theorem Kept.mono {S T : Nat → Prop} {a b : World} (h : Kept S a b) (hST : ∀ i, S i → T i) : Kept T a b :=
  ⟨h.os, h.tape, h.output, h.size, fun i hi hs => h.block i hi (fun hh => hs (hST i hh))⟩
theorem Kept.of_below {S : Nat → Prop} {a b : World} (h : Below a.heap.size a b) : Kept S a b := ⟨h.os, h.tape, h.output, h.size, fun i hi _ => h.block i hi⟩
theorem Kept.below {a b : World} {B : Nat} (h : Kept (fun i => B ≤ i) a b) (hB : B ≤ a.heap.size) : Below B a b := ⟨h.os, h.tape, h.output, h.size, fun i hi => h.block i (by omega) (by omega)⟩
theorem Kept.drew {S : Nat → Prop} {a b : World} (h : Kept S a b) : Kept S a b.drew := ⟨h.os, h.tape, h.output, h.size, h.block⟩
theorem Kept.drewN {S : Nat → Prop} {a b : World} (h : Kept S a b) (n : Nat) : Kept S a (b.drewN n) := h.trans ⟨rfl, rfl, rfl, Nat.le_refl _, fun _ _ _ => rfl⟩
theorem Kept.alloc {S : Nat → Prop} {a b : World} (h : Kept S a b) (o : Obj) : Kept S a (b.alloc o) :=
  h.trans (Kept.of_below ((Below.refl _ _).alloc (Nat.le_refl _) o))
theorem Kept.setCell {S : Nat → Prop} {a b : World} (h : Kept S a b) {p : Addr} (hp : S p.block ∨ a.heap.size ≤ p.block) (u : Value) : Kept S a (b.setCell p u) :=
  ⟨h.os, h.tape, h.output, by have := h.size; simpa [World.setCell] using this, fun i hi hs => by
    rw [Below.heap_setCell _ _ _ _ (fun e => by subst e; rcases hp with h1 | h1; exact hs h1; omega)]; exact h.block i hi hs⟩
theorem Kept.cell {S : Nat → Prop} {a b : World} (h : Kept S a b) {p : Addr} {v : Value} (hp : ¬ S p.block) (hc : a.cell? p = some v) : b.cell? p = some v :=
  (World.cell?_of_block (h.block p.block (block_lt_of_cell hc) hp)).trans hc
theorem Kept.row {S : Nat → Prop} {a b : World} (h : Kept S a b) {k t n : Nat} {f : Nat → Value} (hk : ¬ S k) (hr : a.rowIs k t n f) : b.rowIs k t n f :=
  hr.of_block (h.block k hr.lt hk)

theorem bcell {W w1 : World} (hb : Below W.heap.size W w1) : (∀ b o, b < W.heap.size → w1.cell? ⟨b, o, none⟩ = W.cell? ⟨b, o, none⟩) ∧ (∀ b o, b < W.heap.size → w1.frozen? ⟨b, o, none⟩ = W.frozen? ⟨b, o, none⟩) :=
  ⟨fun b o h => hb.cell (p := ⟨b, o, none⟩) h, fun b o h => hb.frozen (p := ⟨b, o, none⟩) h⟩
attribute [local go_sem ↓] Go.wp_at_zero Go.wp_at_succ
set_option maxRecDepth 100000 in
set_option maxHeartbeats 1000000 in
theorem Add_any (x y : C4) (w : World) (hx : x.ok) (hy : y.ok) :
    Calls Try.prog 75 #[x.val, y.val] w fun e w' => e = .returned (x.xor y).val ∧ Below w.heap.size w w' := by
  obtain ⟨x0, x1, x2, x3⟩ := x
  obtain ⟨y0, y1, y2, y3⟩ := y
  obtain ⟨hx0, hx1, hx2, hx3⟩ := hx
  obtain ⟨hy0, hy1, hy2, hy3⟩ := hy
  have e0 := u8_xor_nat x0 y0 hx0 hy0
  have e1 := u8_xor_nat x1 y1 hx1 hy1
  have e2 := u8_xor_nat x2 y2 hx2 hy2
  have e3 := u8_xor_nat x3 y3 hx3 hy3
  clear hx0 hx1 hx2 hx3 hy0 hy1 hy2 hy3
  unfold C4.val C4.xor
  go_enter Try.func75, Try.ntmps75
  go_wp2
  refine wp_loop_rounds 5 ?_
  iterate 4 (rw [rounds_succ]; go_wp2; go_region; go_wp2)
  rw [rounds_succ]
  go_wp2
  exact bodyPost_ret (v := .agg #[.int .u8 ((x0 ^^^ y0 : Nat) : Int), .int .u8 ((x1 ^^^ y1 : Nat) : Int), .int .u8 ((x2 ^^^ y2 : Nat) : Int), .int .u8 ((x3 ^^^ y3 : Nat) : Int)]) (by simp [results, Try.results75, go_sem]) rfl ⟨rfl, by repeat (first | exact Below.refl _ _ | refine Below.drew ?_ | refine Below.alloc ?_ (by simp <;> omega) _)⟩
set_option maxRecDepth 100000 in
set_option maxHeartbeats 1000000 in
theorem Scale_any (n : Nat) (x : C4) (w : World) (hn : n < 256) (hx : x.ok) :
    Calls Try.prog 78 #[.int .u8 n, x.val] w fun e w' => e = .returned (x.scale n).val ∧ Below w.heap.size w w' := by
  obtain ⟨x0, x1, x2, x3⟩ := x
  obtain ⟨hx0, hx1, hx2, hx3⟩ := hx
  unfold C4.val C4.scale
  go_enter Try.func78, Try.ntmps78
  go_wp2
  refine wp_loop_rounds 5 ?_
  rw [rounds_succ]; go_wp2_with fail
  refine (fmul_any n x0 _ hn hx0).mono ?_; rintro e w' ⟨rfl, rfl⟩
  go_wp2_with fail
  rw [rounds_succ]; go_wp2_with fail
  refine (fmul_any n x1 _ hn hx1).mono ?_; rintro e w' ⟨rfl, rfl⟩
  go_wp2_with fail
  rw [rounds_succ]; go_wp2_with fail
  refine (fmul_any n x2 _ hn hx2).mono ?_; rintro e w' ⟨rfl, rfl⟩
  go_wp2_with fail
  rw [rounds_succ]; go_wp2_with fail
  refine (fmul_any n x3 _ hn hx3).mono ?_; rintro e w' ⟨rfl, rfl⟩
  go_wp2_with fail
  rw [rounds_succ]; go_wp2_with fail
  exact bodyPost_ret (v := .agg #[.int .u8 (Hd.mul n x0 : Nat), .int .u8 (Hd.mul n x1 : Nat), .int .u8 (Hd.mul n x2 : Nat), .int .u8 (Hd.mul n x3 : Nat)]) (by simp [results, Try.results78, go_sem]) rfl ⟨rfl, by repeat (first | exact Below.refl _ _ | refine Below.drew ?_ | refine Below.alloc ?_ (by simp <;> omega) _)⟩

/-- A list of bytes that came in, or that is one's own: byte i behind its address. -/
def BytesAt (w : World) (a : Option Addr) (n : Nat) (f : Nat → Nat) : Prop := ∀ i, i < n → ∃ b o, a = some ⟨b, o, none⟩ ∧ w.cell? ⟨b, o + i, none⟩ = some (.int .u8 (f i)) ∧ f i < 256
theorem BytesAt.below {B : Nat} {w w' : World} {a : Option Addr} {n : Nat} {f : Nat → Nat} (h : BytesAt w a n f) (hb : Below B w w') (hB : w.heap.size ≤ B) : BytesAt w' a n f := by
  intro i hi
  obtain ⟨b, o, e, hc, hl⟩ := h i hi
  exact ⟨b, o, e, (hb.cell (p := ⟨b, _, none⟩) (Nat.lt_of_lt_of_le (block_lt_of_cell hc) hB)).trans hc, hl⟩
theorem box_row (w : World) (c : C4) (H : Nat) (hH : w.heap.size = H) : (w.alloc (.cells #[.int .u8 c.b0, .int .u8 c.b1, .int .u8 c.b2, .int .u8 c.b3] 48)).rowIs H 48 4 (fun j => .int .u8 (c.at j)) := by
  subst hH
  refine World.rowIs_alloc w _ _ _ ?_
  intro i hi
  have hi' : i < 4 := hi
  have : i = 0 ∨ i = 1 ∨ i = 2 ∨ i = 3 := by omega
  rcases this with rfl | rfl | rfl | rfl <;> rfl
theorem box_row0 (w : World) (H : Nat) (hH : w.heap.size = H) : (w.alloc (.cells #[.int .u8 0, .int .u8 0, .int .u8 0, .int .u8 0] 48)).rowIs H 48 4 (fun _ => .int .u8 0) :=
  (box_row w C4.zero H hH).congr (fun j hj => by
    have : j = 0 ∨ j = 1 ∨ j = 2 ∨ j = 3 := by omega
    rcases this with rfl | rfl | rfl | rfl <;> rfl)
def ovl (c : C4) (start : Int) (n : Nat) (f : Nat → Nat) (i : Nat) : Nat := if 0 ≤ start + i ∧ start + i < n then f (start + i).toNat else c.at i
def C4.overlay (c : C4) (start : Int) (n : Nat) (f : Nat → Nat) : C4 := C4.mk4 (ovl c start n f)
set_option maxRecDepth 100000 in
set_option maxHeartbeats 1000000 in
theorem overlay_any (c : C4) (start : Int) (a : Option Addr) (n cap : Nat) (f : Nat → Nat) (w : World) (hs : -1000 ≤ start ∧ start ≤ 1000) (hn : n ≤ 1000) (hd : BytesAt w a n f) :
    Calls Try.prog 72 #[c.val, .int .i64 start, .slice a n cap] w fun e w' => e = .returned (c.overlay start n f).val ∧ Below w.heap.size w w' := by
  obtain ⟨hs1, hs2⟩ := hs
  have HD : Hid (BytesAt w a n f) := hd
  clear hd
  unfold C4.val
  go_enter Try.func72, Try.ntmps72
  go_wp2
  go_loopw [7, 8] (fun i _ wr => ∃ k : Nat, k ≤ 4 ∧ i = .int .i64 k ∧ Below w.heap.size w wr ∧ wr.heap.size = w.heap.size + 2 ∧ wr.rowIs w.heap.size 48 4 (fun j => .int .u8 (if j < k then ovl c start n f j else c.at j : Nat)) ∧ wr.rowIs (w.heap.size + 1) 48 4 (fun _ => .int .u8 0)) (fun i _ _ => 4 - (intOf i).toNat)
  case atStart =>
    refine ⟨0, by omega, rfl, ?_, by simp, ?_, ?_⟩
    · repeat (first | exact Below.refl _ _ | refine Below.drew ?_ | refine Below.alloc ?_ (by simp <;> omega) _)
    · exact ((box_row w c _ rfl).congr (fun j _ => by simp)).alloc _
    · exact box_row0 _ _ (by simp)
  case round =>
    obtain ⟨k, hk, rfl, hb, hz, hrow, hres⟩ := hrel
    by_cases hlt : k < 4
    · have hkk : (k : Int) < 4 := by omega
      have hcell := hrow.cell (i := k) (by omega)
      have hfz := hrow.frozen k
      simp only [Nat.lt_irrefl, if_false] at hcell
      by_cases h1 : 0 ≤ start + k
      · by_cases h2 : start + k < n
        · obtain ⟨db, dof, rfl, hbyte, hbl⟩ := (HD.out.below hb (Nat.le_refl _)) (start + k).toNat (by omega)
          have HOV : Hid (ovl c start n f k = f (start + k).toNat) := (show _ = _ by unfold ovl; rw [if_pos ⟨h1, h2⟩])
          have HR : Hid (wr.rowIs w.heap.size 48 4 (fun j => .int .u8 (if j < k then ovl c start n f j else c.at j : Nat))) := hrow
          have HS : Hid (wr.rowIs (w.heap.size + 1) 48 4 (fun _ => .int .u8 0)) := hres
          clear hrow hres
          go_wp2
          refine ⟨⟨k + 1, by omega, by go_num, hb.setCell (by simp) _, by simpa using hz, ?_, HS.out.setOther (by simp) _⟩, by simp [intOf]; omega⟩
          refine (HR.out.set k _).congr ?_
          intro j hj
          by_cases e : j = k
          · subst e
            rw [if_pos rfl, if_pos (by omega), HOV.out]
          · rw [if_neg e]
            by_cases hjk : j < k
            · rw [if_pos hjk, if_pos (by omega)]
            · rw [if_neg hjk, if_neg (by omega)]
        · have HOV : Hid (ovl c start n f k = c.at k) := (show _ = _ by unfold ovl; rw [if_neg (by omega)])
          have HR : Hid (wr.rowIs w.heap.size 48 4 (fun j => .int .u8 (if j < k then ovl c start n f j else c.at j : Nat))) := hrow
          have HS : Hid (wr.rowIs (w.heap.size + 1) 48 4 (fun _ => .int .u8 0)) := hres
          clear hrow hres
          go_wp2
          refine ⟨⟨k + 1, by omega, by go_num, hb, hz, ?_, HS.out⟩, by simp [intOf]; omega⟩
          refine HR.out.congr ?_
          intro j hj
          by_cases e : j = k
          · subst e
            rw [if_neg (by omega), if_pos (by omega), HOV.out]
          · by_cases hjk : j < k
            · rw [if_pos hjk, if_pos (by omega)]
            · rw [if_neg hjk, if_neg (by omega)]
      · have h1' : decide (0 ≤ start + (k : Int)) = false := by simpa using h1
        have HOV : Hid (ovl c start n f k = c.at k) := (show _ = _ by unfold ovl; rw [if_neg (by omega)])
        have HR : Hid (wr.rowIs w.heap.size 48 4 (fun j => .int .u8 (if j < k then ovl c start n f j else c.at j : Nat))) := hrow
        have HS : Hid (wr.rowIs (w.heap.size + 1) 48 4 (fun _ => .int .u8 0)) := hres
        clear hrow hres
        go_wp2
        refine ⟨⟨k + 1, by omega, by go_num, hb, hz, ?_, HS.out⟩, by simp [intOf]; omega⟩
        refine HR.out.congr ?_
        intro j hj
        by_cases e : j = k
        · subst e
          rw [if_neg (by omega), if_pos (by omega), HOV.out]
        · by_cases hjk : j < k
          · rw [if_pos hjk, if_pos (by omega)]
          · rw [if_neg hjk, if_neg (by omega)]
    · have hk4 : k = 4 := by omega
      subst hk4
      have c0 := hrow.cell (i := 0) (by omega)
      have c1 := hrow.cell (i := 1) (by omega)
      have c2 := hrow.cell (i := 2) (by omega)
      have c3 := hrow.cell (i := 3) (by omega)
      have r0 := hres.cell (i := 0) (by omega)
      have r1 := hres.cell (i := 1) (by omega)
      have r2 := hres.cell (i := 2) (by omega)
      have r3 := hres.cell (i := 3) (by omega)
      have f0 := hres.frozen 0
      have f1 := hres.frozen 1
      have f2 := hres.frozen 2
      have f3 := hres.frozen 3
      simp only [Nat.reduceLT, if_true] at c0 c1 c2 c3
      clear hrow hres
      go_wp2
      refine bodyPost_ret (v := (c.overlay start n f).val) (by simp [results, Try.results72, go_sem, r0, r1, r2, r3, C4.val, C4.overlay, C4.mk4]) rfl ⟨rfl, ?_⟩
      exact (((hb.setCell (by simp) _).setCell (by simp) _).setCell (by simp) _).setCell (by simp) _
end Go.Proofs.Ytfpoiikhhjdpdab
