import Derived.Test.YtfpoiikhhjdpdaaGreatJ01
import Derived.Laws.OwnMore
import Derived.Deep.DeepCutAuto
/- The document's hoard (package hoardref) in memory. -/
namespace Go.Proofs.YtfpoiikhhjdpdaaGreat
open Go.RowKit
set_option linter.unusedVariables false
/-- A row of one's own, its cells by their numbers. -/
def OwnFn (w : World) (e size : Nat) (v : Value) (n : Nat) (F : Nat → Value) : Prop := w.ownsRow 0 e size v n ((List.range (n * size)).map F)
theorem OwnFn.slice {w : World} {e size n : Nat} {v : Value} {F : Nat → Value} (h : OwnFn w e size v n F) (hn : 0 < n) :
    ∃ g cap, v = .slice (some ⟨g, 0, none⟩) n cap ∧ n ≤ cap ∧ g < w.heap.size ∧ (∀ j, j < n * size → w.cell? ⟨g, j, none⟩ = some (F j)) ∧ (∀ j, w.frozen? ⟨g, j, none⟩ = false) := by
  rcases h.2 with ⟨_, h2⟩ | ⟨g, cap, cur, rfl, hb, hg, hc, hm, hs, ht⟩
  · omega
  · refine ⟨g, cap, rfl, hc, (World.ownsRow.lt h g rfl).2, fun j hj => ?_, fun j => World.ownsRow.frozenAt h j⟩
    rw [World.ownsRow.cellAt h j hj, List.getElem?_map, List.getElem?_range hj]
    rfl
theorem OwnFn.of_block {w w' : World} {e size n : Nat} {v : Value} {F : Nat → Value} (h : OwnFn w e size v n F) (k : ∀ g, v.ownBlock = some g → w'.heap[g]? = w.heap[g]?) : OwnFn w' e size v n F := by
  refine ⟨h.1, ?_⟩
  rcases h.2 with h1 | ⟨g, cap, cur, rfl, hb, hg, rest⟩
  · exact .inl h1
  · exact .inr ⟨g, cap, cur, rfl, hb, (k g rfl).trans hg, rest⟩
theorem OwnFn.lt {w : World} {e size n : Nat} {v : Value} {F : Nat → Value} (h : OwnFn w e size v n F) {g : Nat} (hg : v.ownBlock = some g) : g < w.heap.size := (World.ownsRow.lt h g hg).2
theorem OwnFn.congr {w : World} {e size n : Nat} {v : Value} {F G : Nat → Value} (h : OwnFn w e size v n F) (hFG : ∀ j, j < n * size → F j = G j) : OwnFn w e size v n G := by
  have : (List.range (n * size)).map F = (List.range (n * size)).map G := List.map_congr_left (fun j hj => hFG j (List.mem_range.1 hj))
  unfold OwnFn at h ⊢
  rwa [this] at h
theorem OwnFn.set {w : World} {e size n g cap : Nat} {F : Nat → Value} (h : OwnFn w e size (.slice (some ⟨g, 0, none⟩) n cap) n F) (j : Nat) (u : Value) : OwnFn (w.setCell ⟨g, j, none⟩ u) e size (.slice (some ⟨g, 0, none⟩) n cap) n (fun i => if i = j then u else F i) := by
  refine ⟨by simp, ?_⟩
  rcases h.2 with ⟨h1, h2⟩ | ⟨g', cap', cur, h1, hb, hg, hc, hm, hs, ht⟩
  · cases h1
  · simp only [Value.slice.injEq, Option.some.injEq, Addr.mk.injEq] at h1
    obtain ⟨⟨rfl, _⟩, _, rfl⟩ := h1
    refine .inr ⟨g, cap, cur.setIfInBounds j u, rfl, hb, ?_, hc, hm, by simpa using hs, ?_⟩
    · simp only [World.setCell]
      rw [Array.getElem?_modify, if_pos rfl, hg]
      rfl
    · rw [Array.toList_setIfInBounds, List.take_set, ht]
      apply List.ext_getElem?
      intro i
      rw [List.getElem?_set]
      by_cases hi : i < n * size
      · rw [List.getElem?_map, List.getElem?_map, List.getElem?_range hi]
        by_cases e1 : j = i
        · subst e1; simp [hi]
        · rw [if_neg e1]; simp [Ne.symm e1]
      · have h1 : (List.range (n * size))[i]? = none := by simp; omega
        rw [List.getElem?_map, List.getElem?_map, h1]
        split
        · rw [if_neg (by simp; omega)]; rfl
        · rfl
/-- Cell j of the list of drives. -/
def drF (a : Ab) (V : Nat → Value) (j : Nat) : Value := if j % 4 = 0 then .bool (a.lost (j / 4)) else V (j % 4 + 3 * (j / 4))
def rv (a : Ab) (V : Nat → Value) (left : Int) (dn : Bool) (i : Nat) : Value :=
  if i = 0 then .int .i64 a.D else if i = 1 then .int .i64 a.P else if i = 2 then .int .i64 a.R else if i = 3 then .int .i64 a.M else if i = 4 then V 0 else if i = 5 then .int .i64 a.steps else if i = 6 then .int .i64 left else .bool dn
structure RefIn (w : World) (yb : Nat) (a : Ab) (V : Nat → Value) (left : Int) (dn : Bool) : Prop where
  ok : a.ok
  row : w.rowIs yb 107 8 (rv a V left dn)
  dr : OwnFn w 111 4 (V 0) (a.D + a.P) (drF a V)
  bt : ∀ d, d < a.D + a.P → OwnFn w 4 1 (V (1 + 3 * d)) a.R (fun r => .bool (avB a d r))
  ce : ∀ d, d < a.D + a.P → OwnFn w 75 4 (V (2 + 3 * d)) a.R (fun j => .int .u8 ((a.cell d (j / 4)).at (j % 4)))
  lg : ∀ d, d < a.D + a.P → LogAt w (V (3 + 3 * d)) (a.recs d)
  ap : ∀ i, i < 1 + 3 * (a.D + a.P) → (V i).ownBlock ≠ some yb
  ap2 : ∀ i j g, i < 1 + 3 * (a.D + a.P) → j < 1 + 3 * (a.D + a.P) → i ≠ j → (V i).ownBlock = some g → (V j).ownBlock ≠ some g
/-- What it owns. -/
def RFoot (yb : Nat) (a : Ab) (V : Nat → Value) (k : Nat) : Prop := k = yb ∨ ∃ i, i < 1 + 3 * (a.D + a.P) ∧ (V i).ownBlock = some k
theorem RefIn.foot_lt {w : World} {yb : Nat} {a : Ab} {V : Nat → Value} {left : Int} {dn : Bool} (h : RefIn w yb a V left dn) {k : Nat} (hk : RFoot yb a V k) : k < w.heap.size := by
  rcases hk with rfl | ⟨i, hi, hk⟩
  · exact h.row.lt
  · by_cases h0 : i = 0
    · subst h0; exact h.dr.lt hk
    · have hd : (i - 1) / 3 < a.D + a.P := by omega
      have : (i - 1) % 3 = 0 ∨ (i - 1) % 3 = 1 ∨ (i - 1) % 3 = 2 := by omega
      rcases this with e | e | e
      · have e2 : i = 1 + 3 * ((i - 1) / 3) := by omega
        rw [e2] at hk; exact (h.bt _ hd).lt hk
      · have e2 : i = 2 + 3 * ((i - 1) / 3) := by omega
        rw [e2] at hk; exact (h.ce _ hd).lt hk
      · have e2 : i = 3 + 3 * ((i - 1) / 3) := by omega
        rw [e2] at hk; exact (h.lg _ hd).lt hk
theorem RefIn.of_block {w w' : World} {yb : Nat} {a : Ab} {V : Nat → Value} {left : Int} {dn : Bool} (h : RefIn w yb a V left dn) (e : ∀ k, RFoot yb a V k → w'.heap[k]? = w.heap[k]?) : RefIn w' yb a V left dn :=
  ⟨h.ok, h.row.of_block (e yb (.inl rfl)), h.dr.of_block (fun g hg => e g (.inr ⟨0, by omega, hg⟩)), fun d hd => (h.bt d hd).of_block (fun g hg => e g (.inr ⟨1 + 3 * d, by omega, hg⟩)), fun d hd => (h.ce d hd).of_block (fun g hg => e g (.inr ⟨2 + 3 * d, by omega, hg⟩)), fun d hd => (h.lg d hd).of_block (fun g hg => e g (.inr ⟨3 + 3 * d, by omega, hg⟩)), h.ap, h.ap2⟩
theorem RefIn.kept {w w' : World} {yb : Nat} {a : Ab} {V : Nat → Value} {left : Int} {dn : Bool} {S : Nat → Prop} (h : RefIn w yb a V left dn) (k : Kept S w w') (hS : ∀ i, RFoot yb a V i → ¬ S i) : RefIn w' yb a V left dn := h.of_block (fun i hi => k.block i (h.foot_lt hi) (hS i hi))
theorem RefIn.below {w w' : World} {yb : Nat} {a : Ab} {V : Nat → Value} {left : Int} {dn : Bool} (h : RefIn w yb a V left dn) (k : Below w.heap.size w w') : RefIn w' yb a V left dn := h.of_block (fun i hi => k.block i (h.foot_lt hi))
theorem RefIn.heap {w w' : World} {yb : Nat} {a : Ab} {V : Nat → Value} {left : Int} {dn : Bool} (h : RefIn w yb a V left dn) (e : w'.heap = w.heap) : RefIn w' yb a V left dn := h.of_block (fun k _ => by rw [e])
/-- Its own row. -/
theorem RefIn.cells {w : World} {yb : Nat} {a : Ab} {V : Nat → Value} {left : Int} {dn : Bool} (h : RefIn w yb a V left dn) :
    w.cell? ⟨yb, 0, none⟩ = some (.int .i64 a.D) ∧ w.cell? ⟨yb, 1, none⟩ = some (.int .i64 a.P) ∧ w.cell? ⟨yb, 2, none⟩ = some (.int .i64 a.R) ∧ w.cell? ⟨yb, 3, none⟩ = some (.int .i64 a.M) ∧ w.cell? ⟨yb, 4, none⟩ = some (V 0) ∧ w.cell? ⟨yb, 5, none⟩ = some (.int .i64 a.steps) ∧ w.cell? ⟨yb, 6, none⟩ = some (.int .i64 left) ∧ w.cell? ⟨yb, 7, none⟩ = some (.bool dn) :=
  ⟨h.row.cell (i := 0) (by omega), h.row.cell (i := 1) (by omega), h.row.cell (i := 2) (by omega), h.row.cell (i := 3) (by omega), h.row.cell (i := 4) (by omega), h.row.cell (i := 5) (by omega), h.row.cell (i := 6) (by omega), h.row.cell (i := 7) (by omega)⟩
/-- A drive: where the list of drives lies, and its four cells. -/
theorem RefIn.drive {w : World} {yb : Nat} {a : Ab} {V : Nat → Value} {left : Int} {dn : Bool} (h : RefIn w yb a V left dn) :
    ∃ g cap, V 0 = .slice (some ⟨g, 0, none⟩) (a.D + a.P) cap ∧ g < w.heap.size ∧ g ≠ yb ∧ ∀ d, d < a.D + a.P → w.cell? ⟨g, d * 4, none⟩ = some (.bool (a.lost d)) ∧ w.cell? ⟨g, d * 4 + 1, none⟩ = some (V (1 + 3 * d)) ∧ w.cell? ⟨g, d * 4 + 2, none⟩ = some (V (2 + 3 * d)) ∧ w.cell? ⟨g, d * 4 + 3, none⟩ = some (V (3 + 3 * d)) := by
  obtain ⟨g, cap, e, hc, hl, hcell, _⟩ := h.dr.slice (by have := h.ok.D1; omega)
  refine ⟨g, cap, e, hl, fun eg => h.ap 0 (by omega) (by rw [e, eg]; rfl), fun d hd => ⟨?_, ?_, ?_, ?_⟩⟩
  · rw [hcell (d * 4) (by omega)]
    unfold drF
    rw [if_pos (by omega), show d * 4 / 4 = d by omega]
  · rw [hcell (d * 4 + 1) (by omega)]
    unfold drF
    rw [if_neg (by omega), show (d * 4 + 1) / 4 = d by omega, show (d * 4 + 1) % 4 = 1 by omega]
  · rw [hcell (d * 4 + 2) (by omega)]
    unfold drF
    rw [if_neg (by omega), show (d * 4 + 2) / 4 = d by omega, show (d * 4 + 2) % 4 = 2 by omega]
  · rw [hcell (d * 4 + 3) (by omega)]
    unfold drF
    rw [if_neg (by omega), show (d * 4 + 3) / 4 = d by omega, show (d * 4 + 3) % 4 = 3 by omega]
theorem RefIn.built {w : World} {yb : Nat} {a : Ab} {V : Nat → Value} {left : Int} {dn : Bool} (h : RefIn w yb a V left dn) (d : Nat) (hd : d < a.D + a.P) :
    ∃ g cap, V (1 + 3 * d) = .slice (some ⟨g, 0, none⟩) a.R cap ∧ g < w.heap.size ∧ ∀ r, r < a.R → w.cell? ⟨g, r, none⟩ = some (.bool (avB a d r)) := by
  obtain ⟨g, cap, e, hc, hl, hcell, _⟩ := (h.bt d hd).slice (by have := h.ok.R1; omega)
  exact ⟨g, cap, e, hl, fun r hr => hcell r (by omega)⟩
theorem RefIn.cellsOf {w : World} {yb : Nat} {a : Ab} {V : Nat → Value} {left : Int} {dn : Bool} (h : RefIn w yb a V left dn) (d : Nat) (hd : d < a.D + a.P) :
    ∃ g cap, V (2 + 3 * d) = .slice (some ⟨g, 0, none⟩) a.R cap ∧ g < w.heap.size ∧ (∀ j, w.frozen? ⟨g, j, none⟩ = false) ∧ ∀ r i, r < a.R → i < 4 → w.cell? ⟨g, r * 4 + i, none⟩ = some (.int .u8 ((a.cell d r).at i)) := by
  obtain ⟨g, cap, e, hc, hl, hcell, hfz⟩ := (h.ce d hd).slice (by have := h.ok.R1; omega)
  refine ⟨g, cap, e, hl, hfz, fun r i hr hi => ?_⟩
  rw [hcell (r * 4 + i) (by omega), show (r * 4 + i) / 4 = r by omega, show (r * 4 + i) % 4 = i by omega]
end Go.Proofs.YtfpoiikhhjdpdaaGreat

/- The document's product and quotient. -/
namespace Go.Proofs.YtfpoiikhhjdpdaaGreat
open Go.RowKit
set_option maxRecDepth 100000 in
set_option maxHeartbeats 400000 in
theorem rmul_any (a b : Nat) (w : World) (ha : a < 256) (hb : b < 256) :
    Calls Tryz.prog 20 #[.int .u8 a, .int .u8 b] w fun e w' => e = .returned (.int .u8 (Hd.mul a b : Nat)) ∧ w' = w := by
  have HE : Hid (Hd.rred 8 (Hd.rsum 8 a b) = Hd.mul a b) := Hd.rmul_eq a b ha hb
  have hml := Hd.mul_lt a b ha
  go_enter Tryz.func20, Tryz.ntmps20
  go_wp2
  go_loop [5, 6] (fun n i => ∃ k m : Nat, k ≤ 8 ∧ i = .int .i64 k ∧ m < 65536 ∧ Hid (m = Hd.rsum k a b) ∧ n = .int .i64 m) (fun _ i => 8 - (intOf i).toNat)
  case atStart => exact ⟨0, 0, by omega, rfl, by omega, (show Hid _ from rfl), rfl⟩
  case round =>
    obtain ⟨k, m, hk, rfl, hm, hq, rfl⟩ := hrel
    by_cases hlt : k < 8
    · have hbit := i64_bit_nat b k (by omega)
      have hlm := rsum_lt (k + 1) a b ha (by omega)
      have h1 : 2 ^ k ≤ 2 ^ 7 := Nat.pow_le_pow_right (by omega) (by omega)
      have h2 : a * 2 ^ k < 256 * 2 ^ 7 := Nat.lt_of_le_of_lt (Nat.mul_le_mul_left a h1) (by omega)
      have h3 : (a : Int) * 2 ^ k = ((a * 2 ^ k : Nat) : Int) := by simp
      cases hc : b.testBit k
      · have HQ : Hid (m = Hd.rsum (k + 1) a b) := (show _ = _ by simp only [Hd.rsum, hc, Hd.msk, cond_false, Nat.xor_zero]; exact hq.out)
        clear hq hlm h1 h2
        rw [hc] at hbit
        simp only [cond_false] at hbit
        clear hc h3
        go_wp2
        exact ⟨⟨k + 1, m, by omega, by go_num, hm, HQ, rfl⟩, by simp [intOf]; omega⟩
      · have HQ : Hid (m ^^^ a * 2 ^ k = Hd.rsum (k + 1) a b) := (show _ = _ by simp only [Hd.rsum, hc, Hd.msk, cond_true]; rw [← hq.out])
        have hl : m ^^^ a * 2 ^ k < 65536 := by rw [HQ.out]; exact hlm
        have hx := i64_xor_nat m (a * 2 ^ k) hm (by omega)
        rw [← h3] at hx
        have hw64 : wrap64 ((a : Int) * 2 ^ k) = (a : Int) * 2 ^ k := (by unfold wrap64; rw [h3]; omega)
        have hk1 : k + 1 ≤ 8 := by omega
        clear hq hlm h1 h2 h3
        rw [hc] at hbit
        simp only [cond_true] at hbit
        clear hc
        go_wp2
        clear hw64
        exact ⟨⟨k + 1, _, hk1, by go_num, hl, HQ, rfl⟩, by clear hx hbit; simp [intOf]; omega⟩
    · have hk8 : k = 8 := by omega
      subst hk8
      have HR : Hid (Hd.rred 8 m = Hd.mul a b) := (show _ = _ by rw [← HE.out, ← hq.out])
      clear hq HE
      go_wp2
      go_loop [5, 7] (fun n i => ∃ k m : Nat, k ≤ 8 ∧ i = .int .i64 ((k : Int) - 1) ∧ m < 65536 ∧ Hid (Hd.rred k m = Hd.mul a b) ∧ n = .int .i64 m) (fun _ i => (intOf i + 1).toNat)
      case atStart => exact ⟨8, m, by omega, rfl, by omega, HR, rfl⟩
      case round =>
        clear HR hm
        obtain ⟨k, m, hk, rfl, hm, hq, rfl⟩ := hrel
        cases k with
        | zero =>
          have hz : Hd.mul a b = m := hq.out.symm
          go_wp2
          go_ret
          exact ⟨rfl, rfl⟩
        | succ j =>
          have hbit := i64_bit_nat m (j + 8) hm
          have hl := red_step_lt m j hm (by omega)
          have e1 : ((j + 1 : Nat) : Int) - 1 = (j : Int) := by omega
          rw [e1]
          cases hc : m.testBit (j + 8)
          · have HQ : Hid (Hd.rred j m = Hd.mul a b) := by
              show _ = _
              have := hq.out
              simpa only [Hd.rred, hc, Hd.msk, cond_false, Nat.xor_zero] using this
            clear hq
            rw [hc] at hbit
            simp only [cond_false] at hbit
            clear hc e1
            go_wp2
            exact ⟨⟨j, m, by omega, rfl, hm, HQ, rfl⟩, by simp [intOf]⟩
          · have HQ : Hid (Hd.rred j (m ^^^ 285 * 2 ^ j) = Hd.mul a b) := by
              show _ = _
              have := hq.out
              simpa only [Hd.rred, hc, Hd.msk, cond_true] using this
            have h1 : 2 ^ j ≤ 2 ^ 7 := Nat.pow_le_pow_right (by omega) (by omega)
            have h3 : (285 : Int) * 2 ^ j = ((285 * 2 ^ j : Nat) : Int) := by simp
            have hx := i64_xor_nat m (285 * 2 ^ j) hm (by omega)
            rw [← h3] at hx
            have h5 : 0 ≤ (285 : Int) * 2 ^ j := by rw [h3]; omega
            have h6 : (285 : Int) * 2 ^ j < 65536 := by rw [h3]; omega
            clear hq h1 h3
            rw [hc] at hbit
            simp only [cond_true] at hbit
            clear hc e1
            go_wp2
            exact ⟨⟨j, _, by omega, rfl, hl, HQ, rfl⟩, by simp [intOf]⟩

/- The document's quotient: by trying. -/
set_option maxRecDepth 100000 in
set_option maxHeartbeats 400000 in
theorem rdiv_any (a b : Nat) (w : World) (ha : a < 256) (hb : b < 256) (h0 : 0 < b) :
    Calls Tryz.prog 22 #[.int .u8 a, .int .u8 b] w fun e w' => e = .returned (.int .u8 (Hd.div a b : Nat)) ∧ w' = w := by
  have HU : Hid (∀ x, x < 256 → Hd.mul x b = a → x = Hd.div a b) := fun x hx h => Hd.div_unique a b x hb (by omega) hx h
  have HV : Hid (Hd.mul (Hd.div a b) b = a) := Hd.div_mul a b ha hb (by omega)
  have hdl := Hd.div_lt a b ha
  go_enter Tryz.func22, Tryz.ntmps22
  go_wp2
  go_loop [5] (fun n => ∃ k : Nat, k ≤ Hd.div a b ∧ n = .int .i64 k) (fun n => 256 - (intOf n).toNat)
  case atStart => exact ⟨0, by omega, rfl⟩
  case round =>
    obtain ⟨k, hk, rfl⟩ := hrel
    have hk2 : k < 256 := by omega
    by_cases hc : Hd.mul k b = a
    · have hkd := HU.out k hk2 hc
      have hc2 : (((Hd.mul k b : Nat) : Int) == (a : Int)) = true := by rw [hc]; simp
      clear hc HU HV
      have HK : Hid (k = Hd.div a b) := hkd
      clear hkd
      go_wp2_with (go_at_call 20; refine (rmul_any _ _ _ hk2 hb).mono ?_; rintro e w' ⟨rfl, rfl⟩)
      go_ret
      exact ⟨by rw [← HK.out]; rfl, rfl⟩
    · have hne : k ≠ Hd.div a b := fun e => hc (by rw [e]; exact HV.out)
      have hlt : k < Hd.div a b := by omega
      have hc2 : (((Hd.mul k b : Nat) : Int) == (a : Int)) = false := by
        rw [beq_eq_false_iff_ne]; intro h; exact hc (by omega)
      clear hc hne HU HV
      go_wp2_with (go_at_call 20; refine (rmul_any _ _ _ hk2 hb).mono ?_; rintro e w' ⟨rfl, rfl⟩)
      exact ⟨⟨k + 1, by omega, by go_num⟩, by simp [intOf]; omega⟩
end Go.Proofs.YtfpoiikhhjdpdaaGreat

/- The document's calls that only read: which cells there are, which bytes, which blocks. -/
namespace Go.Proofs.YtfpoiikhhjdpdaaGreat
open Go.RowKit
set_option linter.unusedVariables false
attribute [local go_sem ↓] Go.wp_at_zero Go.wp_at_succ
/-- The document's weights are the program's. -/
def rW (p c : Nat) : Nat := if p = 0 then 1 else 2 ^ c
theorem rW_wgt (a : Ab) (p c : Nat) : rW p c = wgt a (a.D + p) c := by
  unfold rW wgt
  by_cases h : p = 0
  · subst h; rw [if_pos rfl, if_pos (Nat.add_zero _)]
  · rw [if_neg h, if_neg (by omega)]
theorem rW_lt (p c : Nat) (hc : c < 4) : rW p c < 256 := by
  unfold rW
  split
  · omega
  · exact Nat.lt_of_le_of_lt (Nat.pow_le_pow_right (by omega) (by omega) : 2 ^ c ≤ 2 ^ 4) (by omega)
set_option maxRecDepth 100000 in
set_option maxHeartbeats 1000000 in
theorem rtimes_any (p c : Nat) (w : World) (hc : c < 4) :
    Calls Tryz.prog 109 #[.int .i64 p, .int .i64 c] w fun e w' => e = .returned (.int .u8 (rW p c : Nat)) ∧ w' = w := by
  by_cases hp : p = 0
  · subst hp
    go_enter Tryz.func109, Tryz.ntmps109
    go_wp2
    go_ret
    exact ⟨rfl, rfl⟩
  · have hpi : ((p : Int) == 0) = false := by rw [beq_eq_false_iff_ne]; omega
    have : c = 0 ∨ c = 1 ∨ c = 2 ∨ c = 3 := by omega
    unfold rW
    rw [if_neg hp]
    clear hp
    rcases this with rfl | rfl | rfl | rfl
    all_goals
      go_enter Tryz.func109, Tryz.ntmps109
      go_wp2
      go_ret
      exact ⟨rfl, rfl⟩
set_option maxRecDepth 100000 in
set_option maxHeartbeats 1000000 in
theorem ravail_any (yb : Nat) (a : Ab) (V : Nat → Value) (left : Int) (dn : Bool) (d r : Nat) (w : World) (h : RefIn w yb a V left dn) (hd : d < a.D + a.P) (hr : r < a.R) :
    Calls Tryz.prog 77 #[.pointer (some ⟨yb, 0, none⟩), .int .i64 d, .int .i64 r] w fun e w' => e = .returned (.bool (avB a d r)) ∧ w' = w := by
  obtain ⟨_, _, _, _, c4, _⟩ := h.cells
  have hlt := h.row.lt
  have hD := h.ok.D4
  have hP := h.ok.P2
  have hR := h.ok.R6
  obtain ⟨g, cap, e0, hg, hgy, hdr⟩ := h.drive
  obtain ⟨d0, d1, _, _⟩ := hdr d hd
  obtain ⟨g1, cap1, e1, hg1, hbt⟩ := h.built d hd
  have b0 := hbt r hr
  rw [e0] at c4
  rw [e1] at d1
  have hdi : (d : Int) < ((a.D + a.P : Nat) : Int) := by omega
  have hri : (r : Int) < (a.R : Int) := by omega
  have hd6 : d < 6 := by omega
  have HAV : Hid (avB a d r = (!a.lost d && !a.ub d r)) := rfl
  have HAL : Hid (a.lost d = true → avB a d r = false) := fun hl => by rw [HAV.out, hl]; rfl
  clear h hdr hbt e0 e1 hd hr HAV
  generalize a.D + a.P = n at *
  generalize avB a d r = av at *
  cases hl : a.lost d
  · rw [hl] at d0
    clear HAL hl
    go_enter Tryz.func77, Tryz.ntmps77
    go_wp2
    go_ret
    exact ⟨rfl, rfl⟩
  · have := HAL.out hl
    subst this
    rw [hl] at d0
    clear HAL hl
    go_enter Tryz.func77, Tryz.ntmps77
    go_wp2
    go_ret
    exact ⟨rfl, rfl⟩
/-- The error of a drive's number. -/
def rThere (n : Nat) (dn : Bool) (d least : Int) : Int := if dn then 3 else if d < least ∨ (n : Int) ≤ d then 6 else 0
set_option maxRecDepth 100000 in
set_option maxHeartbeats 1000000 in
theorem rthere_any (yb : Nat) (a : Ab) (V : Nat → Value) (left : Int) (dn : Bool) (d least : Int) (w : World) (h : RefIn w yb a V left dn) :
    Calls Tryz.prog 74 #[.pointer (some ⟨yb, 0, none⟩), .int .i64 d, .int .i64 least] w fun e w' => e = .returned (.int .i64 (rThere (a.D + a.P) dn d least)) ∧ w' = w := by
  obtain ⟨_, _, _, _, c4, _, _, c7⟩ := h.cells
  have hlt := h.row.lt
  obtain ⟨g, cap, e0, hg, hgy, _⟩ := h.drive
  rw [e0] at c4
  clear h e0
  generalize a.D + a.P = n at *
  unfold rThere
  cases dn
  · by_cases h1 : d < least
    · have h1' : decide (d < least) = true := by simpa using h1
      have HR : Hid ((if (false = true) then (3 : Int) else if d < least ∨ (n : Int) ≤ d then 6 else 0) = 6) := (show _ = _ by rw [if_neg (by simp), if_pos (.inl h1)])
      rw [HR.out]
      clear h1
      go_enter Tryz.func74, Tryz.ntmps74
      go_wp2
      go_ret
      exact ⟨rfl, rfl⟩
    · have h1' : decide (d < least) = false := by simpa using h1
      by_cases h2 : (n : Int) ≤ d
      · have h2' : decide ((n : Int) ≤ d) = true := by simpa using h2
        have HR : Hid ((if (false = true) then (3 : Int) else if d < least ∨ (n : Int) ≤ d then 6 else 0) = 6) := (show _ = _ by rw [if_neg (by simp), if_pos (.inr h2)])
        rw [HR.out]
        clear h1 h2
        go_enter Tryz.func74, Tryz.ntmps74
        go_wp2
        go_ret
        exact ⟨rfl, rfl⟩
      · have h2' : decide ((n : Int) ≤ d) = false := by simpa using h2
        have HR : Hid ((if (false = true) then (3 : Int) else if d < least ∨ (n : Int) ≤ d then 6 else 0) = 0) := (show _ = _ by rw [if_neg (by simp), if_neg (by omega)])
        rw [HR.out]
        clear h1 h2
        go_enter Tryz.func74, Tryz.ntmps74
        go_wp2
        go_ret
        exact ⟨rfl, rfl⟩
  · rw [if_pos rfl]
    go_enter Tryz.func74, Tryz.ntmps74
    go_wp2
    go_ret
    exact ⟨rfl, rfl⟩
set_option maxRecDepth 100000 in
set_option maxHeartbeats 1000000 in
theorem rsize_any (yb : Nat) (a : Ab) (V : Nat → Value) (left : Int) (dn : Bool) (w : World) (h : RefIn w yb a V left dn) :
    Calls Tryz.prog 102 #[.pointer (some ⟨yb, 0, none⟩)] w fun e w' => e = .returned (.int .i64 ((a.D : Int) * a.R * 4)) ∧ ∃ q, w' = w.drewN q := by
  obtain ⟨c0, _, c2, _⟩ := h.cells
  have hlt := h.row.lt
  have hal := all_le a h.ok
  have hal0 : 0 ≤ (a.D : Int) * a.R := Int.mul_nonneg (by omega) (by omega)
  clear h
  go_enter Tryz.func102, Tryz.ntmps102
  go_wp2
  go_quiet (fail)
  go_wp2
  go_ret
  exact ⟨rfl, _, rfl⟩
set_option maxRecDepth 100000 in
set_option maxHeartbeats 1000000 in
theorem rwithin_any (yb : Nat) (a : Ab) (V : Nat → Value) (left : Int) (dn : Bool) (f n : Int) (w : World) (h : RefIn w yb a V left dn) (hf : -9223372036854775808 ≤ f ∧ f ≤ 9223372036854775807) :
    Calls Tryz.prog 68 #[.pointer (some ⟨yb, 0, none⟩), .int .i64 f, .int .i64 n] w fun e w' => e = .returned (.bool (hasB a f n)) ∧ ∃ q, w' = w.drewN q := by
  have hal := all_le a h.ok
  have hal0 : 0 ≤ (a.D : Int) * a.R := Int.mul_nonneg (by omega) (by omega)
  have HSZ : Hid (∀ W : World, W.heap = w.heap → Calls Tryz.prog 102 #[.pointer (some ⟨yb, 0, none⟩)] W fun e w' => e = .returned (.int .i64 ((a.D : Int) * a.R * 4)) ∧ ∃ m, w' = W.drewN m) := fun W e => rsize_any yb a V left dn W (h.heap e)
  obtain ⟨hf1, hf2⟩ := hf
  clear h
  unfold hasB
  generalize (a.D : Int) * a.R = x at *
  obtain ⟨x4, hx4⟩ : ∃ x4, x * 4 = x4 := ⟨_, rfl⟩
  rw [hx4] at HSZ ⊢
  have hx96 : 0 ≤ x4 ∧ x4 ≤ 96 := by omega
  clear hx4 hal hal0
  by_cases c1 : 0 ≤ f
  · by_cases c2 : 0 ≤ n
    · by_cases c3 : f ≤ x4
      · have c1' : decide (0 ≤ f) = true := by simpa using c1
        have c2' : decide (0 ≤ n) = true := by simpa using c2
        have c3' : decide (f ≤ x4) = true := by simpa using c3
        have HR : Hid (decide (0 ≤ f ∧ 0 ≤ n ∧ f ≤ x4 ∧ n ≤ x4 - f) = decide (n ≤ x4 - f)) := (show _ = _ by simp [c1, c2, c3])
        rw [HR.out]
        go_enter Tryz.func68, Tryz.ntmps68
        go_wp2_with fail
        refine (HSZ.out _ rfl).mono ?_
        rintro e w1 ⟨rfl, q1, rfl⟩
        go_wp2_with fail
        refine (HSZ.out _ (by rfl)).mono ?_
        rintro e w2 ⟨rfl, q2, rfl⟩
        go_wp2_with fail
        go_ret
        exact ⟨rfl, q1 + q2, by first | rfl | rw [World.drewN_drewN]⟩
      · have c1' : decide (0 ≤ f) = true := by simpa using c1
        have c2' : decide (0 ≤ n) = true := by simpa using c2
        have c3' : decide (f ≤ x4) = false := by simpa using c3
        rw [decide_eq_false (fun hh => c3 hh.2.2.1)]
        go_enter Tryz.func68, Tryz.ntmps68
        go_wp2_with fail
        refine (HSZ.out _ rfl).mono ?_
        rintro e w1 ⟨rfl, q1, rfl⟩
        go_wp2_with fail
        go_ret
        exact ⟨rfl, q1, rfl⟩
    · have c1' : decide (0 ≤ f) = true := by simpa using c1
      have c2' : decide (0 ≤ n) = false := by simpa using c2
      rw [decide_eq_false (fun hh => c2 hh.2.1)]
      go_enter Tryz.func68, Tryz.ntmps68
      go_wp2_with fail
      go_ret
      exact ⟨rfl, 0, rfl⟩
  · have c1' : decide (0 ≤ f) = false := by simpa using c1
    rw [decide_eq_false (fun hh => c1 hh.1)]
    go_enter Tryz.func68, Tryz.ntmps68
    go_wp2_with fail
    go_ret
    exact ⟨rfl, 0, rfl⟩
/-- The blocks of some bytes: of none, none. -/
def rFirst (a n : Nat) : Nat := if n = 0 then 0 else a / 4
def rBehind (a n : Nat) : Nat := if n = 0 then 0 else (a + n - 1) / 4 + 1
set_option maxRecDepth 100000 in
set_option maxHeartbeats 1000000 in
theorem rblocks_any (a n : Nat) (w : World) (ha : a ≤ 1000) (hn : n ≤ 1000) :
    Calls Tryz.prog 69 #[.int .i64 a, .int .i64 n] w fun e w' => e = .returned (.tuple #[.int .i64 (rFirst a n : Nat), .int .i64 (rBehind a n : Nat)]) ∧ w' = w := by
  unfold rFirst rBehind
  by_cases h : n = 0
  · subst h
    go_enter Tryz.func69, Tryz.ntmps69
    go_wp2
    go_ret2
    exact ⟨rfl, rfl⟩
  · have hne : ((n : Int) == 0) = false := by rw [beq_eq_false_iff_ne]; omega
    rw [if_neg h, if_neg h]
    have HQ : Hid (((a : Int) + n - 1) / 4 = (((a + n - 1) / 4 : Nat) : Int)) := (show _ = _ by omega)
    have hp : (0 : Int) ≤ (a : Int) + n - 1 := by omega
    clear h
    go_enter Tryz.func69, Tryz.ntmps69
    go_wp2
    go_ret2
    exact ⟨by first | rfl | (simp; done) | (simp; have := HQ.out; omega), rfl⟩
end Go.Proofs.YtfpoiikhhjdpdaaGreat

/- Which cells of a row are not available, and which parity cells are. -/
namespace Go.Proofs.YtfpoiikhhjdpdaaGreat
open Go.RowKit
set_option linter.unusedVariables false
attribute [local go_sem ↓] Go.wp_at_zero Go.wp_at_succ
def missL (s : Ab) (r : Nat) : Nat → List Nat
  | 0 => []
  | k + 1 => if avB s k r then missL s r k else missL s r k ++ [k]
def parL (s : Ab) (r : Nat) : Nat → List Nat
  | 0 => []
  | k + 1 => if avB s (s.D + k) r then parL s r k ++ [s.D + k] else parL s r k
theorem missL_len (s : Ab) (r m : Nat) : (missL s r m).length ≤ m := by
  induction m with
  | zero => simp [missL]
  | succ m ih =>
    simp only [missL]
    split
    · omega
    · rw [List.length_append]; simp; omega
theorem parL_len (s : Ab) (r m : Nat) : (parL s r m).length ≤ m := by
  induction m with
  | zero => simp [parL]
  | succ m ih =>
    simp only [parL]
    split
    · rw [List.length_append]; simp; omega
    · omega
/-- A list of numbers that came out: one's own. -/
def IntsAt (w : World) (B : Nat) (v : Value) (l : List Nat) : Prop := w.ownsRow B 3 1 v l.length (intsOf l)
theorem IntsAt.slice {w : World} {B : Nat} {v : Value} {l : List Nat} (h : IntsAt w B v l) : ∃ p cap, v = .slice p l.length cap ∧ ∀ i, i < l.length → ∃ b, p = some ⟨b, 0, none⟩ ∧ w.cell? ⟨b, i, none⟩ = some (.int .i64 (l.getD i 0 : Nat)) := by
  rcases h.2 with ⟨rfl, h1⟩ | ⟨g, cap, cur, rfl, hb, hg, rest⟩
  · exact ⟨none, 0, by rw [h1], fun i hi => by omega⟩
  · refine ⟨_, cap, rfl, fun i hi => ⟨g, rfl, ?_⟩⟩
    have h1 := World.ownsRow.cells h rfl i _ (intsOf_get l i hi)
    rw [addr_add, Nat.zero_add] at h1
    exact h1
theorem IntsAt.below {w w' : World} {B : Nat} {v : Value} {l : List Nat} (h : IntsAt w B v l) (k : Below w.heap.size w w') : IntsAt w' B v l := by
  refine ⟨h.1, ?_⟩
  rcases h.2 with h1 | ⟨g, cap, cur, rfl, hb, hg, rest⟩
  · exact .inl h1
  · exact .inr ⟨g, cap, cur, rfl, hb, (k.block g (Array.getElem?_eq_some_iff.1 hg).1).trans hg, rest⟩
set_option maxRecDepth 100000 in
set_option maxHeartbeats 1000000 in
theorem missingData_any (hb : Nat) (s : St) (r : Nat) (w : World) (h : HoardIn w hb s) (hr : r < 6) :
    Calls Tryz.prog 98 #[.pointer (some ⟨hb, 0, none⟩), .int .i64 r] w fun e w' => ∃ v, e = .returned v ∧ IntsAt w' w.heap.size v (missL s r s.D) ∧ Below w.heap.size w w' := by
  have hD := h.ok.D4
  have HH : Hid (HoardIn w hb s) := h
  have H0 : Hid (IntsAt (w.alloc (.cells #[] 3)) w.heap.size (.slice (some ⟨w.heap.size, 0, none⟩) 0 0) []) := World.ownsRow_made w #[] 0 (Nat.le_refl _) (by decide) rfl
  clear h
  go_enter Tryz.func98, Tryz.ntmps98
  go_wp2_with fail
  go_loopw [5, 6] (fun l c wr => ∃ (k : Nat) (v : Value), k ≤ s.D ∧ c = .int .i64 k ∧ l = v ∧ Hid (IntsAt wr w.heap.size v (missL s r k)) ∧ Below w.heap.size w wr) (fun _ c _ => s.D - (intOf c).toNat)
  case atStart => exact ⟨0, _, by omega, rfl, rfl, H0, (Below.refl _ _).alloc (Nat.le_refl _) _⟩
  case round =>
    obtain ⟨k, v, hk, rfl, rfl, hown, hbel⟩ := hrel
    have h1 := HH.out.below hbel
    obtain ⟨c0, _⟩ := h1.shape
    by_cases hlt : k < s.D
    · have hki : (k : Int) < (s.D : Int) := by omega
      have hk6 : (k : Int) < 6 := by omega
      have HA : Hid (Calls Tryz.prog 76 #[.pointer (some ⟨hb, 4 + k * 32, none⟩), .int .i64 r] wr fun e w' => e = .returned (.bool (avB s k r)) ∧ w' = wr) := has_any hb s k r wr h1 (by omega) hr
      have hlen := missL_len s r k
      have hlt2 := h1.row.lt
      clear h1
      cases hav : avB s k r
      · rw [hav] at HA
        have HL : Hid (missL s r (k + 1) = missL s r k ++ [k]) := (show _ = _ by simp only [missL, hav]; rfl)
        generalize hL : missL s r k = L at *
        have HLE : Hid (missL s r k = L) := hL
        generalize hln : L.length = ln at *
        have HLN : Hid (L.length = ln) := hln
        have HO : Hid ((wr.alloc (Obj.cells #[.int .i64 k] 3)).ownsRow w.heap.size 3 1 u5 ln (intsOf L)) := by
          have h1 : wr.ownsRow w.heap.size 3 1 u5 ln (intsOf L) := HLN.out ▸ hown.out
          exact h1.alloc _
        have HNW : Hid (∀ j u, [Value.int .i64 k][j]? = some u → (wr.alloc (Obj.cells #[.int .i64 k] 3)).cell? ((⟨wr.heap.size, 0, none⟩ : Addr).add j) = some u) := cell_one_new _ _ _
        have hsz := hbel.size
        have hln24 : ln ≤ 24 := by omega
        have hil : (intsOf L).length = ln := by unfold intsOf; rw [List.length_map]; exact hln
        clear hL hln
        go_wp2_with fail
        refine HA.out.mono ?_
        rintro e w2 ⟨rfl, rfl⟩
        go_wp2_with (at_builtin; go_must (refine wpl_append appInt (by rfl) _ _ (by rfl) w.heap.size _ ln (intsOf L) (by rfl) HO.out ⟨w2.heap.size, 0, none⟩ 1 1 [.int .i64 k] (by rfl) (by rfl) HNW.out (by simp [Value.oneCell']) ?_ ?_ ?_ ?_))
        · simp only [maxLen]; omega
        · omega
        · simp; omega
        · intro v' w3 hown3 hgr hat
          have hb3 : Below w.heap.size w w3 := by
            have k0 : Below w.heap.size w (w2.alloc (Obj.cells #[.int .i64 k] 3)) := hbel.alloc hsz _
            exact k0.trans (grown_below hgr (by simp; omega) (fun k hk => (World.ownsRow.lt HO.out k hk).1))
          have HF : Hid (IntsAt w3 w.heap.size v' (missL s r (k + 1))) := by
            show World.ownsRow _ _ _ _ _ _ _
            rw [show (missL s r (k + 1)).length = ln + 1 by rw [HL.out, List.length_append, HLN.out]; rfl, show intsOf (missL s r (k + 1)) = intsOf L ++ [.int .i64 k] by rw [HL.out]; unfold intsOf; rw [List.map_append]; rfl]
            exact hown3
          clear hown3 hgr hat HO HNW
          go_wp2_with fail
          first
            | exact ⟨⟨k + 1, v', by omega, by go_num, rfl, HF, hb3⟩, by simp [intOf]; omega⟩
            | (go_roundw
               case rel => exact ⟨k + 1, v', by omega, by go_num, rfl, HF, hb3⟩
               case measure => simp [intOf]; omega)
      · rw [hav] at HA
        have HL : Hid (missL s r (k + 1) = missL s r k) := (show _ = _ by simp only [missL, hav]; rfl)
        go_wp2_with fail
        refine HA.out.mono ?_
        rintro e w2 ⟨rfl, rfl⟩
        go_wp2_with fail
        refine ⟨⟨k + 1, _, by omega, by go_num, rfl, ?_, hbel⟩, by simp [intOf]; omega⟩
        rw [HL.out]; exact hown
    · have hke : k = s.D := by omega
      have HKE : Hid (k = s.D) := hke
      have hlti : ¬ ((k : Int) < (s.D : Int)) := by omega
      clear hke
      go_wp2_with fail
      go_ret
      have h1 := hown.out
      rw [HKE.out] at h1
      exact ⟨_, rfl, h1, hbel⟩
set_option maxRecDepth 100000 in
set_option maxHeartbeats 1000000 in
theorem availableParity_any (hb : Nat) (s : St) (r : Nat) (w : World) (h : HoardIn w hb s) (hr : r < 6) :
    Calls Tryz.prog 99 #[.pointer (some ⟨hb, 0, none⟩), .int .i64 r] w fun e w' => ∃ v, e = .returned v ∧ IntsAt w' w.heap.size v (parL s r s.P) ∧ Below w.heap.size w w' := by
  have hD := h.ok.D4
  have hP := h.ok.P2
  have HH : Hid (HoardIn w hb s) := h
  have c00 := h.shape.1
  have hlt0 := h.row.lt
  have H0 : Hid (IntsAt (w.alloc (.cells #[] 3)) w.heap.size (.slice (some ⟨w.heap.size, 0, none⟩) 0 0) []) := World.ownsRow_made w #[] 0 (Nat.le_refl _) (by decide) rfl
  clear h
  go_enter Tryz.func99, Tryz.ntmps99
  go_wp2_with fail
  clear c00 hlt0
  go_loopw [5, 6] (fun l c wr => ∃ (k d : Nat) (v : Value), k ≤ s.P ∧ Hid (d = s.D + k) ∧ d ≤ s.D + s.P ∧ c = .int .i64 d ∧ l = v ∧ Hid (IntsAt wr w.heap.size v (parL s r k)) ∧ Below w.heap.size w wr) (fun _ c _ => s.D + s.P - (intOf c).toNat)
  case atStart => exact ⟨0, s.D, _, by omega, (show _ = _ by omega), by omega, rfl, rfl, H0, (Below.refl _ _).alloc (Nat.le_refl _) _⟩
  case round =>
    obtain ⟨k, d, v, hk, hdk, hds, rfl, rfl, hown, hbel⟩ := hrel
    have h1 := HH.out.below hbel
    obtain ⟨c0, c1, _⟩ := h1.shape
    by_cases hlt : d < s.D + s.P
    · have hki : (d : Int) < (s.D : Int) + s.P := by omega
      have hk6 : (d : Int) < 6 := by omega
      have HA : Hid (∀ q, Calls Tryz.prog 76 #[.pointer (some ⟨hb, 4 + d * 32, none⟩), .int .i64 r] (wr.drewN q) fun e w' => e = .returned (.bool (avB s d r)) ∧ w' = wr.drewN q) := fun q => has_any hb s d r _ (h1.drewN q) (by omega) hr
      have hlen := parL_len s r k
      have hlt2 := h1.row.lt
      have hkp : k + 1 ≤ s.P := by have := hdk.out; omega
      have HDD : Hid (d + 1 = s.D + (k + 1)) := (show _ = _ by have := hdk.out; omega)
      clear h1
      cases hav : avB s d r
      · rw [hav] at HA
        have HL : Hid (parL s r (k + 1) = parL s r k) := (show _ = _ by simp only [parL, ← hdk.out, hav]; rfl)
        go_wp2_with fail
        go_quiet (fail)
        go_wp2_with fail
        refine (HA.out _).mono ?_
        rintro e w2 ⟨rfl, rfl⟩
        go_wp2_with fail
        refine ⟨⟨k + 1, d + 1, _, hkp, HDD, by omega, by go_num, rfl, ?_, below_drewN hbel _⟩, by simp [intOf]; omega⟩
        rw [HL.out]; exact hown
      · rw [hav] at HA
        have HL : Hid (parL s r (k + 1) = parL s r k ++ [d]) := (show _ = _ by simp only [parL, ← hdk.out, hav]; rfl)
        generalize hL : parL s r k = L at *
        have HLE : Hid (parL s r k = L) := hL
        generalize hln : L.length = ln at *
        have HLN : Hid (L.length = ln) := hln
        have hsz := hbel.size
        have hln24 : ln ≤ 24 := by omega
        have hil : (intsOf L).length = ln := by unfold intsOf; rw [List.length_map]; exact hln
        clear hL hln
        go_wp2_with fail
        go_quiet (fail)
        go_wp2_with fail
        refine (HA.out _).mono ?_
        rintro e w2 ⟨rfl, rfl⟩
        have hbel2 := below_drewN hbel nq
        have hown2 : Hid (IntsAt (wr.drewN nq) w.heap.size u5 L) := hown
        generalize wr.drewN nq = w2 at *
        have HO : Hid ((w2.alloc (Obj.cells #[.int .i64 d] 3)).ownsRow w.heap.size 3 1 u5 ln (intsOf L)) := by
          have h1 : w2.ownsRow w.heap.size 3 1 u5 ln (intsOf L) := HLN.out ▸ hown2.out
          exact h1.alloc _
        have HNW : Hid (∀ j u, [Value.int .i64 d][j]? = some u → (w2.alloc (Obj.cells #[.int .i64 d] 3)).cell? ((⟨w2.heap.size, 0, none⟩ : Addr).add j) = some u) := cell_one_new _ _ _
        have hsz2 := hbel2.size
        go_wp2_with (at_builtin; go_must (refine wpl_append appInt (by rfl) _ _ (by rfl) w.heap.size _ ln (intsOf L) (by rfl) HO.out ⟨w2.heap.size, 0, none⟩ 1 1 [.int .i64 d] (by rfl) (by rfl) HNW.out (by simp [Value.oneCell']) ?_ ?_ ?_ ?_))
        · simp only [maxLen]; omega
        · omega
        · simp; omega
        · intro v' w3 hown3 hgr hat
          have hb3 : Below w.heap.size w w3 := by
            have k0 : Below w.heap.size w (w2.alloc (Obj.cells #[.int .i64 d] 3)) := hbel2.alloc hsz2 _
            exact k0.trans (grown_below hgr (by simp; omega) (fun k hk => (World.ownsRow.lt HO.out k hk).1))
          have HF : Hid (IntsAt w3 w.heap.size v' (parL s r (k + 1))) := by
            show World.ownsRow _ _ _ _ _ _ _
            rw [show (parL s r (k + 1)).length = ln + 1 by rw [HL.out, List.length_append, HLN.out]; rfl, show intsOf (parL s r (k + 1)) = intsOf L ++ [.int .i64 d] by rw [HL.out]; unfold intsOf; rw [List.map_append]; rfl]
            exact hown3
          clear hown3 hgr hat HO HNW
          go_wp2_with fail
          first
            | exact ⟨⟨k + 1, d + 1, v', hkp, HDD, by omega, by go_num, rfl, HF, hb3⟩, by simp [intOf]; omega⟩
            | (go_roundw
               case rel => exact ⟨k + 1, d + 1, v', hkp, HDD, by omega, by go_num, rfl, HF, hb3⟩
               case measure => simp [intOf]; omega)
    · have hke : k = s.P := by have := hdk.out; omega
      have HKE : Hid (k = s.P) := hke
      have hlti : ¬ ((d : Int) < (s.D : Int) + s.P) := by omega
      clear hke
      go_wp2_with fail
      go_quiet (fail)
      go_wp2_with fail
      go_ret
      have h1 := hown.out
      rw [HKE.out] at h1
      exact ⟨_, rfl, h1, below_drewN hbel _⟩
/-- A data cell of the row is gone. -/
def goneB (s : Ab) (r : Nat) : Bool := decide ((parL s r s.P).length < (missL s r s.D).length)
set_option maxRecDepth 100000 in
set_option maxHeartbeats 1000000 in
theorem hasGone_any (hb : Nat) (s : St) (r : Nat) (w : World) (h : HoardIn w hb s) (hr : r < 6) :
    Calls Tryz.prog 97 #[.pointer (some ⟨hb, 0, none⟩), .int .i64 r] w fun e w' => e = .returned (.bool (goneB s r)) ∧ Below w.heap.size w w' := by
  have HH : Hid (HoardIn w hb s) := h
  clear h
  unfold goneB
  go_enter Tryz.func97, Tryz.ntmps97
  go_wp2_with fail
  refine (missingData_any hb s r w HH.out hr).mono ?_
  rintro e w1 ⟨v1, rfl, i1, k1⟩
  obtain ⟨p1, q1, rfl, _⟩ := i1.slice
  have H1 := HH.out.below k1
  go_wp2_with fail
  refine (availableParity_any hb s r w1 H1 hr).mono ?_
  rintro e w2 ⟨v2, rfl, i2, k2⟩
  obtain ⟨p2, q2, rfl, _⟩ := i2.slice
  have K : Hid (Below w.heap.size w w2) := k1.trans (k2.mono k1.size)
  clear i1 i2 k1 k2 H1
  go_wp2_with fail
  go_ret
  exact ⟨by simp, K.out⟩
end Go.Proofs.YtfpoiikhhjdpdaaGreat

/- The document: which data cells of a row are missing, which parity cells are there; what is gone. -/
namespace Go.Proofs.YtfpoiikhhjdpdaaGreat
open Go.RowKit
set_option linter.unusedVariables false
attribute [local go_sem ↓] Go.wp_at_zero Go.wp_at_succ
/-- The parity drives (0 or 1) whose cells are there. -/
def parP (a : Ab) (r : Nat) : Nat → List Nat
  | 0 => []
  | k + 1 => if avB a (a.D + k) r then parP a r k ++ [k] else parP a r k
theorem parP_len (a : Ab) (r k : Nat) : (parP a r k).length ≤ k := by
  induction k with
  | zero => exact Nat.le_refl _
  | succ k ih =>
    simp only [parP]
    split
    · rw [List.length_append]; simp; omega
    · omega
theorem parL_parP (a : Ab) (r k : Nat) : parL a r k = (parP a r k).map (fun p => a.D + p) := by
  induction k with
  | zero => rfl
  | succ k ih =>
    simp only [parP, parL]
    split
    · rw [List.map_append, ih]; rfl
    · exact ih
theorem IntsAt.of_block {w w' : World} {B : Nat} {v : Value} {l : List Nat} (h : IntsAt w B v l) (k : ∀ g, v.ownBlock = some g → w'.heap[g]? = w.heap[g]?) : IntsAt w' B v l := by
  refine ⟨h.1, ?_⟩
  rcases h.2 with h1 | ⟨g, cap, cur, rfl, hb, hg, rest⟩
  · exact .inl h1
  · exact .inr ⟨g, cap, cur, rfl, hb, (k g rfl).trans hg, rest⟩
theorem IntsAt.ltB {w : World} {B : Nat} {v : Value} {l : List Nat} (h : IntsAt w B v l) : ∀ g, v.ownBlock = some g → B ≤ g ∧ g < w.heap.size := fun g hg => World.ownsRow.lt h g hg
theorem IntsAt.rebase {w : World} {B B' : Nat} {v : Value} {l : List Nat} (h : IntsAt w B v l) (hb : B' ≤ B) : IntsAt w B' v l := by
  refine ⟨h.1, ?_⟩
  rcases h.2 with h1 | ⟨g, cap, cur, rfl, hg0, hg, rest⟩
  · exact .inl h1
  · exact .inr ⟨g, cap, cur, rfl, Nat.le_trans hb hg0, hg, rest⟩
theorem IntsAt.nil (w : World) (B : Nat) : IntsAt w B (.slice none 0 0) [] := World.ownsRow_nil w B _ 1
set_option maxRecDepth 100000 in
set_option maxHeartbeats 2000000 in
theorem rmissing_any (yb : Nat) (a : Ab) (V : Nat → Value) (left : Int) (dn : Bool) (r : Nat) (w : World) (h : RefIn w yb a V left dn) (hr : r < a.R) :
    Calls Tryz.prog 87 #[.pointer (some ⟨yb, 0, none⟩), .int .i64 r] w fun e w' => ∃ v1 v2, e = .returned (.tuple #[v1, v2]) ∧ IntsAt w' w.heap.size v1 (missL a r a.D) ∧ IntsAt w' w.heap.size v2 (parP a r a.P) ∧ Below w.heap.size w w' := by
  have hD := h.ok.D4
  have hP := h.ok.P2
  have HH : Hid (RefIn w yb a V left dn) := h
  have H0 : Hid (IntsAt w w.heap.size (.slice none 0 0) []) := IntsAt.nil _ _
  clear h
  go_enter Tryz.func87, Tryz.ntmps87
  go_wp2_with fail
  go_loopw [6, 8, 9] (fun l c _ wr => ∃ (k : Nat) (v : Value), k ≤ a.D ∧ c = .int .i64 k ∧ l = v ∧ Hid (IntsAt wr w.heap.size v (missL a r k)) ∧ Below w.heap.size w wr) (fun _ c _ _ => a.D - (intOf c).toNat)
  case atStart => exact ⟨0, _, by omega, rfl, rfl, H0, Below.refl _ _⟩
  case round =>
    obtain ⟨k, v, hk, rfl, rfl, hown, hbel⟩ := hrel
    have h1 := HH.out.below hbel
    obtain ⟨c0, c1, _⟩ := h1.cells
    have hlt2 := h1.row.lt
    by_cases hlt : k < a.D
    · have hki : (k : Int) < (a.D : Int) := by omega
      have HA : Hid (Calls Tryz.prog 77 #[.pointer (some ⟨yb, 0, none⟩), .int .i64 k, .int .i64 r] wr fun e w' => e = .returned (.bool (avB a k r)) ∧ w' = wr) := ravail_any yb a V left dn k r wr h1 (by omega) hr
      have hlen := missL_len a r k
      clear h1
      cases hav : avB a k r
      · rw [hav] at HA
        have HL : Hid (missL a r (k + 1) = missL a r k ++ [k]) := (show _ = _ by simp only [missL, hav]; rfl)
        generalize hL : missL a r k = L at *
        generalize hln : L.length = ln at *
        have HLN : Hid (L.length = ln) := hln
        have HO : Hid ((wr.alloc (Obj.cells #[.int .i64 k] 3)).ownsRow w.heap.size 3 1 u6 ln (intsOf L)) := by
          have h1 : wr.ownsRow w.heap.size 3 1 u6 ln (intsOf L) := HLN.out ▸ hown.out
          exact h1.alloc _
        have HNW : Hid (∀ j u, [Value.int .i64 k][j]? = some u → (wr.alloc (Obj.cells #[.int .i64 k] 3)).cell? ((⟨wr.heap.size, 0, none⟩ : Addr).add j) = some u) := cell_one_new _ _ _
        have hsz := hbel.size
        have hln24 : ln ≤ 24 := by omega
        have hil : (intsOf L).length = ln := by unfold intsOf; rw [List.length_map]; exact hln
        clear hL hln
        go_wp2_with fail
        refine HA.out.mono ?_
        rintro e w2 ⟨rfl, rfl⟩
        go_wp2_with (at_builtin; go_must (refine wpl_append appInt (by rfl) _ _ (by rfl) w.heap.size _ ln (intsOf L) (by rfl) HO.out ⟨w2.heap.size, 0, none⟩ 1 1 [.int .i64 k] (by rfl) (by rfl) HNW.out (by simp [Value.oneCell']) ?_ ?_ ?_ ?_))
        · simp only [maxLen]; omega
        · omega
        · simp; omega
        · intro v' w3 hown3 hgr hat
          have hb3 : Below w.heap.size w w3 := by
            have k0 : Below w.heap.size w (w2.alloc (Obj.cells #[.int .i64 k] 3)) := hbel.alloc hsz _
            exact k0.trans (grown_below hgr (by simp; omega) (fun k hk => (World.ownsRow.lt HO.out k hk).1))
          have HF : Hid (IntsAt w3 w.heap.size v' (missL a r (k + 1))) := by
            show World.ownsRow _ _ _ _ _ _ _
            rw [show (missL a r (k + 1)).length = ln + 1 by rw [HL.out, List.length_append, HLN.out]; rfl, show intsOf (missL a r (k + 1)) = intsOf L ++ [.int .i64 k] by rw [HL.out]; unfold intsOf; rw [List.map_append]; rfl]
            exact hown3
          clear hown3 hgr hat HO HNW
          go_wp2_with fail
          first
            | exact ⟨⟨k + 1, v', by omega, by go_num, rfl, HF, hb3⟩, by simp [intOf]; omega⟩
            | (go_roundw
               case rel => exact ⟨k + 1, v', by omega, by go_num, rfl, HF, hb3⟩
               case measure => simp [intOf]; omega)
      · rw [hav] at HA
        have HL : Hid (missL a r (k + 1) = missL a r k) := (show _ = _ by simp only [missL, hav]; rfl)
        go_wp2_with fail
        refine HA.out.mono ?_
        rintro e w2 ⟨rfl, rfl⟩
        go_wp2_with fail
        refine ⟨⟨k + 1, _, by omega, by go_num, rfl, ?_, hbel⟩, by simp [intOf]; omega⟩
        rw [HL.out]; exact hown
    · have hke : k = a.D := by omega
      have hlti : ¬ ((k : Int) < (a.D : Int)) := by omega
      have H1 : Hid (IntsAt wr w.heap.size u6 (missL a r a.D)) := hke ▸ hown
      have HB1 : Hid (Below w.heap.size w wr) := hbel
      have hs1 := hbel.size
      have H2 : Hid (IntsAt wr wr.heap.size (.slice none 0 0) []) := IntsAt.nil _ _
      clear hke h1 hown hbel
      go_wp2_with fail
      clear c0 c1 hlti hlt2
      generalize wr = wo at *
      go_loopw [7, 10, 11] (fun l c _ wi => ∃ (k : Nat) (v : Value), k ≤ a.P ∧ c = .int .i64 k ∧ l = v ∧ Hid (IntsAt wi wo.heap.size v (parP a r k)) ∧ Below wo.heap.size wo wi) (fun _ c _ _ => a.P - (intOf c).toNat)
      case atStart => exact ⟨0, _, by omega, rfl, rfl, H2, Below.refl _ _⟩
      case round =>
        clear H2
        obtain ⟨j, v, hj, rfl, rfl, hown, hbel⟩ := hrel
        have h1 := (HH.out.below HB1.out).below hbel
        obtain ⟨c0, c1, _⟩ := h1.cells
        have hlt2 := h1.row.lt
        by_cases hjP : j < a.P
        · have hji : (j : Int) < (a.P : Int) := by omega
          have HA : Hid (∀ z : Int, z = ((a.D + j : Nat) : Int) → Calls Tryz.prog 77 #[.pointer (some ⟨yb, 0, none⟩), .int .i64 z, .int .i64 r] wr fun e w' => e = .returned (.bool (avB a (a.D + j) r)) ∧ w' = wr) := fun z hz => by subst hz; exact ravail_any yb a V left dn (a.D + j) r wr h1 (by omega) hr
          have hlen := parP_len a r j
          clear h1
          cases hav : avB a (a.D + j) r
          · rw [hav] at HA
            have HL : Hid (parP a r (j + 1) = parP a r j) := (show _ = _ by simp only [parP, hav]; rfl)
            go_wp2_with fail
            refine (HA.out _ (by first | rfl | omega)).mono ?_
            rintro e w2 ⟨rfl, rfl⟩
            go_wp2_with fail
            refine ⟨⟨j + 1, _, by omega, by go_num, rfl, ?_, hbel⟩, by simp [intOf]; omega⟩
            rw [HL.out]; exact hown
          · rw [hav] at HA
            have HL : Hid (parP a r (j + 1) = parP a r j ++ [j]) := (show _ = _ by simp only [parP, hav]; rfl)
            generalize hL : parP a r j = L at *
            generalize hln : L.length = ln at *
            have HLN : Hid (L.length = ln) := hln
            have HO : Hid ((wr.alloc (Obj.cells #[.int .i64 j] 3)).ownsRow wo.heap.size 3 1 u7 ln (intsOf L)) := by
              have h1 : wr.ownsRow wo.heap.size 3 1 u7 ln (intsOf L) := HLN.out ▸ hown.out
              exact h1.alloc _
            have HNW : Hid (∀ i u, [Value.int .i64 j][i]? = some u → (wr.alloc (Obj.cells #[.int .i64 j] 3)).cell? ((⟨wr.heap.size, 0, none⟩ : Addr).add i) = some u) := cell_one_new _ _ _
            have hsz := hbel.size
            have hln24 : ln ≤ 24 := by omega
            have hil : (intsOf L).length = ln := by unfold intsOf; rw [List.length_map]; exact hln
            clear hL hln
            go_wp2_with fail
            refine (HA.out _ (by first | rfl | omega)).mono ?_
            rintro e w2 ⟨rfl, rfl⟩
            go_wp2_with (at_builtin; go_must (refine wpl_append appInt (by rfl) _ _ (by rfl) wo.heap.size _ ln (intsOf L) (by rfl) HO.out ⟨w2.heap.size, 0, none⟩ 1 1 [.int .i64 j] (by rfl) (by rfl) HNW.out (by simp [Value.oneCell']) ?_ ?_ ?_ ?_))
            · simp only [maxLen]; omega
            · omega
            · simp; omega
            · intro v' w3 hown3 hgr hat
              have hb3 : Below wo.heap.size wo w3 := by
                have k0 : Below wo.heap.size wo (w2.alloc (Obj.cells #[.int .i64 j] 3)) := hbel.alloc hsz _
                exact k0.trans (grown_below hgr (by simp; omega) (fun k hk => (World.ownsRow.lt HO.out k hk).1))
              have HF : Hid (IntsAt w3 wo.heap.size v' (parP a r (j + 1))) := by
                show World.ownsRow _ _ _ _ _ _ _
                rw [show (parP a r (j + 1)).length = ln + 1 by rw [HL.out, List.length_append, HLN.out]; rfl, show intsOf (parP a r (j + 1)) = intsOf L ++ [.int .i64 j] by rw [HL.out]; unfold intsOf; rw [List.map_append]; rfl]
                exact hown3
              clear hown3 hgr hat HO HNW
              go_wp2_with fail
              first
                | exact ⟨⟨j + 1, v', by omega, by go_num, rfl, HF, hb3⟩, by simp [intOf]; omega⟩
                | (go_roundw
                   case rel => exact ⟨j + 1, v', by omega, by go_num, rfl, HF, hb3⟩
                   case measure => simp [intOf]; omega)
        · have hje : j = a.P := by omega
          have hjle : ¬ ((j : Int) < (a.P : Int)) := by omega
          have HF2 : Hid (IntsAt wr w.heap.size u7 (parP a r a.P)) := (show IntsAt _ _ _ _ from by
            have h2 := hown.out
            rw [hje] at h2
            exact h2.rebase hs1)
          have HF1 : Hid (IntsAt wr w.heap.size u6 (missL a r a.D)) := H1.out.below hbel
          have HBB : Hid (Below w.heap.size w wr) := HB1.out.trans (hbel.mono hs1)
          clear hje h1 hown hbel
          go_wp2_with fail
          go_ret2
          exact ⟨_, _, rfl, HF1.out, HF2.out, HBB.out⟩
set_option maxRecDepth 100000 in
set_option maxHeartbeats 1000000 in
theorem rgone_any (yb : Nat) (a : Ab) (V : Nat → Value) (left : Int) (dn : Bool) (d r : Nat) (w : World) (h : RefIn w yb a V left dn) (hd : d < a.D + a.P) (hr : r < a.R) :
    Calls Tryz.prog 103 #[.pointer (some ⟨yb, 0, none⟩), .int .i64 d, .int .i64 r] w fun e w' => e = .returned (.bool (!avB a d r && goneB a r)) ∧ Below w.heap.size w w' := by
  have HA : Hid (Calls Tryz.prog 77 #[.pointer (some ⟨yb, 0, none⟩), .int .i64 d, .int .i64 r] w fun e w' => e = .returned (.bool (avB a d r)) ∧ w' = w) := ravail_any yb a V left dn d r w h hd hr
  have HM : Hid (Calls Tryz.prog 87 #[.pointer (some ⟨yb, 0, none⟩), .int .i64 r] w fun e w' => ∃ v1 v2, e = .returned (.tuple #[v1, v2]) ∧ IntsAt w' w.heap.size v1 (missL a r a.D) ∧ IntsAt w' w.heap.size v2 (parP a r a.P) ∧ Below w.heap.size w w') := rmissing_any yb a V left dn r w h hr
  have HG : Hid (goneB a r = decide ((parP a r a.P).length < (missL a r a.D).length)) := (show _ = _ by unfold goneB; rw [parL_parP, List.length_map])
  rw [HG.out]
  have hl1 := missL_len a r a.D
  have hl2 := parP_len a r a.P
  have hD := h.ok.D4
  have hP := h.ok.P2
  generalize missL a r a.D = L1 at *
  generalize parP a r a.P = L2 at *
  generalize avB a d r = av at *
  clear h HG
  go_enter Tryz.func103, Tryz.ntmps103
  go_wp2_with fail
  refine HA.out.mono ?_
  rintro e w1 ⟨rfl, rfl⟩
  go_wp2_with fail
  refine HM.out.mono ?_
  rintro e w2 ⟨v1, v2, rfl, h1, h2, k2⟩
  obtain ⟨p1, c1, rfl, _⟩ := h1.slice
  obtain ⟨p2, c2, rfl, _⟩ := h2.slice
  clear h1 h2
  cases av
  · go_wp2_with fail
    go_ret
    exact ⟨by simp, k2⟩
  · go_wp2_with fail
    go_ret
    exact ⟨rfl, k2⟩
end Go.Proofs.YtfpoiikhhjdpdaaGreat

/- The value of a cell, and what the missing cells of a row add up to. -/
namespace Go.Proofs.YtfpoiikhhjdpdaaGreat
open Go.RowKit
set_option linter.unusedVariables false
attribute [local go_sem ↓] Go.wp_at_zero Go.wp_at_succ
theorem below_cell' {X w2 : World} (h : Below X.heap.size X w2) {p : Addr} {v : Value} (hc : X.cell? p = some v) : w2.cell? p = some v := (h.cell (block_lt_of_cell hc)).trans hc
/-- A cell that is a variable: in a block of its own. -/
def BoxAt (w : World) (b : Nat) (c : C4) : Prop := w.rowIs b 75 4 (fun j => .int .u8 (c.at j))
theorem BoxAt.cells {w : World} {b : Nat} {c : C4} (h : BoxAt w b c) : w.cell? ⟨b, 0, none⟩ = some (.int .u8 c.b0) ∧ w.cell? ⟨b, 1, none⟩ = some (.int .u8 c.b1) ∧ w.cell? ⟨b, 2, none⟩ = some (.int .u8 c.b2) ∧ w.cell? ⟨b, 3, none⟩ = some (.int .u8 c.b3) :=
  ⟨h.cell (i := 0) (by omega), h.cell (i := 1) (by omega), h.cell (i := 2) (by omega), h.cell (i := 3) (by omega)⟩
theorem BoxAt.frz {w : World} {b : Nat} {c : C4} (h : BoxAt w b c) : w.frozen? ⟨b, 0, none⟩ = false ∧ w.frozen? ⟨b, 1, none⟩ = false ∧ w.frozen? ⟨b, 2, none⟩ = false ∧ w.frozen? ⟨b, 3, none⟩ = false :=
  ⟨h.frozen 0, h.frozen 1, h.frozen 2, h.frozen 3⟩
theorem BoxAt.lt {w : World} {b : Nat} {c : C4} (h : BoxAt w b c) : b < w.heap.size := World.rowIs.lt h
theorem BoxAt.below {w w' : World} {b : Nat} {c : C4} (h : BoxAt w b c) (k : Below w.heap.size w w') : BoxAt w' b c := World.rowIs.of_block h (k.block b (World.rowIs.lt h))
theorem BoxAt.drewN {w : World} {b : Nat} {c : C4} (h : BoxAt w b c) (n : Nat) : BoxAt (w.drewN n) b c := World.rowIs.of_block h rfl
theorem BoxAt.drew {w : World} {b : Nat} {c : C4} (h : BoxAt w b c) : BoxAt w.drew b c := World.rowIs.of_block h rfl
theorem BoxAt.new (w : World) (c : C4) (H : Nat) (hH : w.heap.size = H) : BoxAt (w.alloc (.cells #[.int .u8 c.b0, .int .u8 c.b1, .int .u8 c.b2, .int .u8 c.b3] 75)) H c := box_row w c H hH
theorem BoxAt.new0 (w : World) (H : Nat) (hH : w.heap.size = H) : BoxAt (w.alloc (.cells #[.int .u8 0, .int .u8 0, .int .u8 0, .int .u8 0] 75)) H C4.zero := box_row w C4.zero H hH
theorem BoxAt.alloc {w : World} {b : Nat} {c : C4} (h : BoxAt w b c) (o : Obj) : BoxAt (w.alloc o) b c := h.below ((Below.refl _ _).alloc (Nat.le_refl _) o)
theorem BoxAt.set {w : World} {b : Nat} {c : C4} (h : BoxAt w b c) (x : C4) : BoxAt ((((w.setCell ⟨b, 0, none⟩ (.int .u8 x.b0)).setCell ⟨b, 1, none⟩ (.int .u8 x.b1)).setCell ⟨b, 2, none⟩ (.int .u8 x.b2)).setCell ⟨b, 3, none⟩ (.int .u8 x.b3)) b x := by
  refine World.rowIs.congr (World.rowIs.set (World.rowIs.set (World.rowIs.set (World.rowIs.set h 0 _) 1 _) 2 _) 3 _) ?_
  intro j hj
  have : j = 0 ∨ j = 1 ∨ j = 2 ∨ j = 3 := by omega
  rcases this with rfl | rfl | rfl | rfl <;> rfl
theorem BoxAt.setOther {w : World} {b : Nat} {c : C4} (h : BoxAt w b c) {p : Addr} (hp : p.block ≠ b) (v : Value) : BoxAt (w.setCell p v) b c := World.rowIs.setOther h (fun e => hp e.symm) v
theorem BoxAt.other4 {w : World} {b : Nat} {c : C4} (h : BoxAt w b c) {g : Nat} (hg : g ≠ b) (v0 v1 v2 v3 : Value) : BoxAt ((((w.setCell ⟨g, 0, none⟩ v0).setCell ⟨g, 1, none⟩ v1).setCell ⟨g, 2, none⟩ v2).setCell ⟨g, 3, none⟩ v3) b c :=
  (((h.setOther hg _).setOther hg _).setOther hg _).setOther hg _
theorem below_set4 {B : Nat} {w w' : World} (h : Below B w w') {g : Nat} (hg : B ≤ g) (v0 v1 v2 v3 : Value) : Below B w ((((w'.setCell ⟨g, 0, none⟩ v0).setCell ⟨g, 1, none⟩ v1).setCell ⟨g, 2, none⟩ v2).setCell ⟨g, 3, none⟩ v3) :=
  (((h.setCell hg _).setCell hg _).setCell hg _).setCell hg _
def recSum (r : Nat) (l : List Rec) (c : C4) : C4 := l.foldl (fun c x => if x.row = r then c.xor x.c else c) c
def valC (s : Ab) (d r : Nat) : C4 := recSum r (s.recs d) (s.cell d r)
theorem recSum_ok {r : Nat} {l : List Rec} {c : C4} (hc : c.ok) (hl : ∀ x ∈ l, x.c.ok) : (recSum r l c).ok := by
  induction l generalizing c with
  | nil => exact hc
  | cons x l ih =>
    refine ih (c := if x.row = r then c.xor x.c else c) ?_ (fun y hy => hl y (List.mem_cons_of_mem _ hy))
    split
    · exact C4.xor_ok hc (hl x (List.mem_cons_self ..))
    · exact hc
theorem recSum_succ (r : Nat) (l : List Rec) (c : C4) (k : Nat) (x : Rec) (h : l[k]? = some x) : recSum r (l.take (k + 1)) c = if x.row = r then (recSum r (l.take k) c).xor x.c else recSum r (l.take k) c := by
  unfold recSum
  rw [List.take_add_one, h]
  simp [List.foldl_append]
theorem valC_ok {s : Ab} (h : s.ok) (d r : Nat) : (valC s d r).ok := recSum_ok (h.cells d r) (fun x hx => (h.recs d x hx).2)
set_option maxRecDepth 100000 in
set_option maxHeartbeats 1000000 in
theorem value_any (hb : Nat) (s : St) (d r : Nat) (w : World) (h : HoardIn w hb s) (hd : d < 6) (hr : r < 6) :
    Calls Tryz.prog 121 #[.pointer (some ⟨hb, 4 + d * 32, none⟩), .int .i64 r] w fun e w' => e = .returned (valC s d r).val ∧ Below w.heap.size w w' := by
  have hri : (r : Int) < 6 := by omega
  obtain ⟨c0, c1, c2, c3⟩ := h.cell d r hd hr
  have HH : Hid (HoardIn w hb s) := h
  have hlen := h.ok.len d
  have hM := h.ok.M8
  have hlt0 := h.row.lt
  obtain ⟨p, cap, hv, hrec⟩ := (h.logs d hd).slice
  have HV : Hid (s.lv d = .slice p (s.recs d).length cap) := hv
  have HREC : Hid _ := hrec
  have HOK : Hid (∀ x ∈ s.recs d, x.c.ok) := fun x hx => (h.ok.recs d x hx).2
  have HC : Hid ((s.cell d r).ok) := h.ok.cells d r
  clear h hv hrec
  generalize hln : (s.recs d).length = len at *
  have HLN : Hid ((s.recs d).length = len) := hln
  clear hln
  go_enter Tryz.func121, Tryz.ntmps121
  go_wp2
  clear c0 c1 c2 c3
  go_loopw [6] (fun i wr => ∃ (k : Nat) (S : C4), k ≤ len ∧ i = .int .i64 k ∧ Hid (S = recSum r ((s.recs d).take k) (s.cell d r)) ∧ Hid (BoxAt wr (w.heap.size + 1) S) ∧ Hid (BoxAt wr w.heap.size C4.zero) ∧ Below w.heap.size w wr) (fun i _ => len - (intOf i).toNat)
  case atStart =>
    refine ⟨0, s.cell d r, by omega, rfl, rfl, ?_, ?_, ?_⟩
    · exact (BoxAt.new _ (s.cell d r) _ (by simp))
    · exact (BoxAt.new0 w _ rfl).alloc _
    · repeat (first | exact Below.refl _ _ | refine Below.drew ?_ | refine Below.alloc ?_ (by simp <;> omega) _)
  case round =>
    obtain ⟨k, S, hk, rfl, hS, hbox, hres, hbel⟩ := hrel
    have h1 := HH.out.below hbel
    have hl := h1.log d hd
    rw [HV.out] at hl
    have hlt2 := h1.row.lt
    obtain ⟨b0, b1, b2, b3⟩ := hbox.out.cells
    obtain ⟨f0, f1, f2, f3⟩ := hbox.out.frz
    have hbl := hbox.out.lt
    clear h1
    by_cases hlt : k < len
    · have hki : (k : Int) < (len : Int) := by omega
      obtain ⟨g, x, rfl, hg, hx, y0, y1, y2, y3, y4⟩ := HREC.out k hlt
      have z0 := below_cell' hbel y0
      have z1 := below_cell' hbel y1
      have z2 := below_cell' hbel y2
      have z3 := below_cell' hbel y3
      have z4 := below_cell' hbel y4
      clear y0 y1 y2 y3 y4
      have HXO : Hid (x.c.ok) := HOK.out x (List.mem_of_getElem? hx)
      have HSO : Hid (S.ok) := hS.out ▸ recSum_ok HC.out (fun x hx => HOK.out x (List.mem_of_mem_take hx))
      have HS : Hid (recSum r ((s.recs d).take (k + 1)) (s.cell d r) = if x.row = r then S.xor x.c else S) := (show _ = _ by rw [hS.out]; exact recSum_succ r _ _ k x hx)
      clear hx
      by_cases e : x.row = r
      · have ei : ((x.row : Int) == (r : Int)) = true := by rw [e]; simp
        have HS2 : Hid (S.xor x.c = recSum r ((s.recs d).take (k + 1)) (s.cell d r)) := (show _ = _ by rw [HS.out, if_pos e])
        have HADD : Hid (∀ W, Calls Tryz.prog 108 #[.agg #[.int .u8 S.b0, .int .u8 S.b1, .int .u8 S.b2, .int .u8 S.b3], .agg #[.int .u8 x.c.b0, .int .u8 x.c.b1, .int .u8 x.c.b2, .int .u8 x.c.b3]] W fun e w' => e = .returned (.agg #[.int .u8 (S.xor x.c).b0, .int .u8 (S.xor x.c).b1, .int .u8 (S.xor x.c).b2, .int .u8 (S.xor x.c).b3]) ∧ Below W.heap.size W w') := fun W => Add_any S x.c W HSO.out HXO.out
        have hrowx : x.row = r := e
        subst hrowx
        clear e HS hS
        go_wp2_with fail
        go_region_with ((go_at_call 108; refine (HADD.out _).mono ?_; rintro e w2 ⟨rfl, hbel2⟩; obtain ⟨e0, e1, e2, e3⟩ := (hbox.out.drew.below hbel2).cells; obtain ⟨q0, q1, q2, q3⟩ := (hbox.out.drew.below hbel2).frz))
        all_goals
          go_wp2_with fail
          refine ⟨⟨k + 1, S.xor x.c, by omega, by go_num, HS2, ?_, ?_, ?_⟩, by simp [intOf]; omega⟩
          · exact (hbox.out.drew.below hbel2).set _
          · exact (hres.out.drew.below hbel2).other4 (by omega) _ _ _ _
          · exact below_set4 (hbel.drew.trans (hbel2.mono hbel.size)) (by omega) _ _ _ _
      · have ei : ((x.row : Int) == (r : Int)) = false := by rw [beq_eq_false_iff_ne]; omega
        have HS2 : Hid (S = recSum r ((s.recs d).take (k + 1)) (s.cell d r)) := (show _ = _ by rw [HS.out, if_neg e])
        clear e HS
        go_wp2_with fail
        refine ⟨⟨k + 1, S, by omega, by go_num, HS2, hbox, hres, hbel⟩, by simp [intOf]; omega⟩
    · have hke : k = len := by omega
      have HKE : Hid (k = len) := hke
      have hlti : ¬ ((k : Int) < (len : Int)) := by omega
      obtain ⟨r0, r1, r2, r3⟩ := hres.out.cells
      obtain ⟨g0, g1, g2, g3⟩ := hres.out.frz
      clear hke
      go_wp2_with fail
      refine bodyPost_ret (v := S.val) (by simp [results, Tryz.results121, go_sem, r0, r1, r2, r3, C4.val]) rfl ⟨?_, ?_⟩
      · unfold valC
        rw [hS.out, List.take_of_length_le (by have := HLN.out; have := HKE.out; omega)]
      · exact below_set4 hbel (Nat.le_refl _) _ _ _ _
end Go.Proofs.YtfpoiikhhjdpdaaGreat

/- The document: the value of a parity cell, byte by byte. -/
namespace Go.Proofs.YtfpoiikhhjdpdaaGreat
open Go.RowKit
set_option linter.unusedVariables false
attribute [local go_sem ↓] Go.wp_at_zero Go.wp_at_succ
def box4F (v0 v1 v2 v3 : Value) (j : Nat) : Value := if j = 0 then v0 else if j = 1 then v1 else if j = 2 then v2 else v3
theorem box4F_row (w : World) (t : Nat) (v0 v1 v2 v3 : Value) (H : Nat) (hH : w.heap.size = H) : (w.alloc (.cells #[v0, v1, v2, v3] t)).rowIs H t 4 (box4F v0 v1 v2 v3) := by
  subst hH
  refine World.rowIs_alloc w _ _ _ ?_
  intro i hi
  have hi' : i < 4 := hi
  have : i = 0 ∨ i = 1 ∨ i = 2 ∨ i = 3 := by omega
  rcases this with rfl | rfl | rfl | rfl <;> rfl
/-- A record's bytes, by their numbers. -/
theorem rec_byte {w : World} {g k : Nat} {x : Rec} (y1 : w.cell? ⟨g, k * 5 + 1, none⟩ = some (.int .u8 x.c.b0)) (y2 : w.cell? ⟨g, k * 5 + 2, none⟩ = some (.int .u8 x.c.b1)) (y3 : w.cell? ⟨g, k * 5 + 3, none⟩ = some (.int .u8 x.c.b2)) (y4 : w.cell? ⟨g, k * 5 + 4, none⟩ = some (.int .u8 x.c.b3)) (i : Nat) (hi : i < 4) : w.cell? ⟨g, k * 5 + 1 + i, none⟩ = some (.int .u8 (x.c.at i)) := by
  have : i = 0 ∨ i = 1 ∨ i = 2 ∨ i = 3 := by omega
  rcases this with rfl | rfl | rfl | rfl
  · exact y1
  · exact y2
  · exact y3
  · exact y4
set_option maxRecDepth 100000 in
set_option maxHeartbeats 2000000 in
theorem rvalue_any (yb : Nat) (a : Ab) (V : Nat → Value) (left : Int) (dn : Bool) (p r i : Nat) (w : World) (h : RefIn w yb a V left dn) (hp : p < a.P) (hr : r < a.R) (hi : i < 4) :
    Calls Tryz.prog 120 #[.pointer (some ⟨yb, 0, none⟩), .int .i64 p, .int .i64 r, .int .i64 i] w fun e w' => e = .returned (.int .u8 ((valC a (a.D + p) r).at i : Nat)) ∧ Below w.heap.size w w' := by
  have hD := h.ok.D4
  have hP := h.ok.P2
  have hR := h.ok.R6
  have hok := h.ok
  obtain ⟨c0, _, _, _, c4, _⟩ := h.cells
  have hlt := h.row.lt
  obtain ⟨g, cap, e0, hg, hgy, hdr⟩ := h.drive
  obtain ⟨d0, d1, d2, d3⟩ := hdr (a.D + p) (by omega)
  obtain ⟨gc, capc, ec, hgc, _, hce⟩ := h.cellsOf (a.D + p) (by omega)
  have b0 := hce r i hr hi
  obtain ⟨gb, capb, eb, _, _⟩ := h.built (a.D + p) (by omega)
  obtain ⟨pl, capl, el, hrec⟩ := (h.lg (a.D + p) (by omega)).slice
  have hlen := h.ok.len (a.D + p)
  have hM := h.ok.M8
  rw [e0] at c4
  rw [ec] at d2
  rw [eb] at d1
  rw [el] at d3
  have HOKR : Hid (∀ x ∈ a.recs (a.D + p), x.c.ok) := fun x hx => (hok.recs (a.D + p) x hx).2
  have HOKC : Hid ((a.cell (a.D + p) r).ok) := hok.cells _ _
  have HVC : Hid (valC a (a.D + p) r = recSum r ((a.recs (a.D + p)).take (a.recs (a.D + p)).length) (a.cell (a.D + p) r)) := (show _ = _ by rw [List.take_length]; rfl)
  obtain ⟨dd, hdd⟩ : ∃ dd, a.D + p = dd := ⟨_, rfl⟩
  rw [hdd] at d0 d1 d2 d3 b0 hrec HOKR HOKC HVC hlen el ⊢
  have hdx : IntKind.i64.wrap ((a.D : Int) + (p : Int)) = (dd : Int) := by rw [show (a.D : Int) + (p : Int) = (dd : Int) by omega]; exact wrap_i64_small _ (by omega) (by omega)
  have hddl : (dd : Int) < ((a.D + a.P : Nat) : Int) := by omega
  have hd6 : dd < 6 := by omega
  have hri : (r : Int) < (a.R : Int) := by omega
  have hii : (i : Int) < 4 := by omega
  have HREC : Hid _ := hrec
  have hrs6 : r < 6 := by omega
  rw [HVC.out]
  generalize a.recs dd = L at *
  generalize a.cell dd r = C at *
  generalize hln : L.length = ln at *
  have HLN : Hid (L.length = ln) := hln
  have HT0 : Hid (recSum r (L.take 0) C = C) := rfl
  have HTS : Hid (∀ k x, L[k]? = some x → recSum r (L.take (k + 1)) C = if x.row = r then (recSum r (L.take k) C).xor x.c else recSum r (L.take k) C) := fun k x hx => recSum_succ r L C k x hx
  have HTO : Hid (∀ k, (recSum r (L.take k) C).ok) := fun k => recSum_ok HOKC.out (fun x hx => HOKR.out x (List.mem_of_mem_take hx))
  generalize a.lost dd = lst at *
  have HXO : Hid (∀ (k : Nat) (x : Rec), L[k]? = some x → x.c.ok) := fun k x hx => HOKR.out x (List.mem_of_getElem? hx)
  clear h hdr hce el e0 ec eb hrec hln hdd HVC hok HOKR HOKC
  generalize a.D + a.P = n at *
  go_enter Tryz.func120, Tryz.ntmps120
  go_upto_region 1 with fail
  have hgl := hg
  go_cut [9] (fun s9 wx => s9 = .pointer (some ⟨w.heap.size, 0, none⟩) ∧ wx.rowIs w.heap.size 111 4 (box4F (.bool lst) (.slice (some ⟨gb, 0, none⟩) a.R capb) (.slice (some ⟨gc, 0, none⟩) a.R capc) (.slice pl ln capl)) ∧ Below w.heap.size w wx)
  case first =>
    have HRW : Hid ((w.alloc (.cells #[.bool lst, .slice (some ⟨gb, 0, none⟩) a.R capb, .slice (some ⟨gc, 0, none⟩) a.R capc, .slice pl ln capl] 111)).rowIs w.heap.size 111 4 (box4F (.bool lst) (.slice (some ⟨gb, 0, none⟩) a.R capb) (.slice (some ⟨gc, 0, none⟩) a.R capc) (.slice pl ln capl))) := box4F_row w _ _ _ _ _ _ rfl
    have HRB : Hid (Below w.heap.size w (w.alloc (.cells #[.bool lst, .slice (some ⟨gb, 0, none⟩) a.R capb, .slice (some ⟨gc, 0, none⟩) a.R capc, .slice pl ln capl] 111))) := (Below.refl _ _).alloc (Nat.le_refl _) _
    go_region
    all_goals
      go_wp2_with fail
      go_meet
      exact ⟨rfl, by first | exact HRW.out | exact World.rowIs.of_block HRW.out rfl, by repeat (first | exact HRB.out | refine Below.drew ?_)⟩
  case rest =>
  obtain ⟨rfl, hbox, hbel⟩ := hcut
  have x0 := hbox.cell (i := 0) (by omega)
  have x1 := hbox.cell (i := 1) (by omega)
  have x2 := hbox.cell (i := 2) (by omega)
  have x3 := hbox.cell (i := 3) (by omega)
  have hbl := hbox.lt
  have b1 := below_cell' hbel b0
  have HBX : Hid (wc.rowIs w.heap.size 111 4 (box4F (.bool lst) (.slice (some ⟨gb, 0, none⟩) a.R capb) (.slice (some ⟨gc, 0, none⟩) a.R capc) (.slice pl ln capl))) := hbox
  have HBL : Hid (Below w.heap.size w wc) := hbel
  have hgc2 := block_lt_of_cell b1
  simp only at hgc2
  have X2 : wc.cell? ⟨w.heap.size, 2, none⟩ = some (.slice (some ⟨gc, 0, none⟩) a.R capc) := x2
  have X3 : wc.cell? ⟨w.heap.size, 3, none⟩ = some (.slice pl ln capl) := x3
  clear hbox hbel x0 x1 x2 x3 b0 c0 c4 d0 d1 d2 d3 hlt hg hgy hgc hgl hdx
  go_wp2_with fail
  clear b1 X2 hgc2
  go_loopw [10, 11] (fun v c wi => ∃ (k m : Nat), k ≤ ln ∧ c = .int .i64 k ∧ v = .int .u8 m ∧ Hid (m = (recSum r (L.take k) C).at i) ∧ Below wc.heap.size wc wi) (fun _ c _ => ln - (intOf c).toNat)
  case atStart => exact ⟨0, _, by omega, rfl, rfl, rfl, Below.refl _ _⟩
  case round =>
    obtain ⟨k, m, hk, rfl, rfl, hm, hbi⟩ := hrel
    have x3 := below_cell' hbi X3
    have hbl2 := block_lt_of_cell x3
    simp only at hbl2
    by_cases hlt : k < ln
    · have hki : (k : Int) < (ln : Int) := by omega
      obtain ⟨gl, x, rfl, hgl, hx, z0, z1, z2, z3, z4⟩ := HREC.out k hlt
      have hbw := HBL.out.trans (hbi.mono HBL.out.size)
      have y0 := below_cell' hbw z0
      have y1 := below_cell' hbw (rec_byte z1 z2 z3 z4 i hi)
      have hk8 : k < 8 := by omega
      have hgl2 := block_lt_of_cell y0
      simp only at hgl2
      have hml : m < 256 := by rw [hm.out]; exact C4.at_lt (HTO.out k) i
      have hxl : x.c.at i < 256 := C4.at_lt (HXO.out k x hx) i
      have hstep := HTS.out k x hx
      clear z0 z1 z2 z3 z4 hbw hx
      by_cases hrow : x.row = r
      · have hri2 : ((x.row : Int) == (r : Int)) = true := by rw [beq_iff_eq]; omega
        rw [if_pos hrow] at hstep
        have HM2 : Hid (m ^^^ x.c.at i = (recSum r (L.take (k + 1)) C).at i) := (show _ = _ by rw [hstep, C4.at_xor, hm.out])
        have hxx := u8_xor_nat m (x.c.at i) hml hxl
        generalize x.c.at i = xb at *
        generalize x.row = xr at *
        clear hrow hstep
        go_wp2_with fail
        exact ⟨⟨k + 1, m ^^^ xb, by omega, by go_num, rfl, HM2, hbi⟩, by simp [intOf]; omega⟩
      · have hri2 : ((x.row : Int) == (r : Int)) = false := by rw [beq_eq_false_iff_ne]; omega
        rw [if_neg hrow] at hstep
        have HM2 : Hid (m = (recSum r (L.take (k + 1)) C).at i) := (show _ = _ by rw [hstep, hm.out])
        generalize x.c.at i = xb at *
        generalize x.row = xr at *
        clear hrow hstep
        go_wp2_with fail
        exact ⟨⟨k + 1, m, by omega, by go_num, rfl, HM2, hbi⟩, by simp [intOf]; omega⟩
    · have hke : k = ln := by omega
      have hlti : ¬ ((k : Int) < (ln : Int)) := by omega
      have HME : Hid (m = (recSum r (L.take ln) C).at i) := (show _ = _ by rw [← hke]; exact hm.out)
      clear hke
      go_wp2_with fail
      go_ret
      exact ⟨by rw [HME.out]; rfl, HBL.out.trans (hbi.mono HBL.out.size)⟩
end Go.Proofs.YtfpoiikhhjdpdaaGreat

/- The document: the sum of a row's data cells in an equation, some bytes being given. -/
namespace Go.Proofs.YtfpoiikhhjdpdaaGreat
open Go.RowKit
set_option linter.unusedVariables false
attribute [local go_sem ↓] Go.wp_at_zero Go.wp_at_succ
/-- A list of numbers to be read. -/
def NumsAt (w : World) (p : Option Addr) (l : List Nat) : Prop := ∀ k, k < l.length → ∃ b o, p = some ⟨b, o, none⟩ ∧ w.cell? ⟨b, o + k, none⟩ = some (.int .i64 (l.getD k 0 : Nat))
theorem NumsAt.below {w w' : World} {p : Option Addr} {l : List Nat} (h : NumsAt w p l) (k : Below w.heap.size w w') : NumsAt w' p l := fun i hi => by
  obtain ⟨b, o, e, hc⟩ := h i hi
  exact ⟨b, o, e, below_cell' k hc⟩
theorem NumsAt.heap {w w' : World} {p : Option Addr} {l : List Nat} (h : NumsAt w p l) (e : w'.heap = w.heap) : NumsAt w' p l := fun i hi => by
  obtain ⟨b, o, e1, hc⟩ := h i hi
  exact ⟨b, o, e1, (World.cell?_of_block (by rw [e])).trans hc⟩
theorem BytesAt.heap {w w' : World} {p : Option Addr} {n : Nat} {f : Nat → Nat} (h : BytesAt w p n f) (e : w'.heap = w.heap) : BytesAt w' p n f := fun i hi => by
  obtain ⟨b, o, e1, hc, hl⟩ := h i hi
  exact ⟨b, o, e1, (World.cell?_of_block (by rw [e])).trans hc, hl⟩
/-- The byte of drive d: its own, or the one that is given. -/
def pickTo (l : List Nat) (G : Nat → Nat) (d v : Nat) : Nat → Nat
  | 0 => v
  | k + 1 => if l.getD k 0 = d then G k else pickTo l G d v k
theorem pickTo_lt (l : List Nat) (G : Nat → Nat) (d v k : Nat) (hv : v < 256) (hG : ∀ j, j < k → G j < 256) : pickTo l G d v k < 256 := by
  induction k with
  | zero => exact hv
  | succ k ih =>
    simp only [pickTo]
    split
    · exact hG k (by omega)
    · exact ih (fun j hj => hG j (by omega))
def rSum (a : Ab) (p r i : Nat) (l : List Nat) (G : Nat → Nat) : Nat → Nat
  | 0 => 0
  | d + 1 => rSum a p r i l G d ^^^ Hd.mul (pickTo l G d ((a.cell d r).at i) l.length) (rW p d)
theorem rSum_lt (a : Ab) (h : a.ok) (p r i : Nat) (l : List Nat) (G : Nat → Nat) (hG : ∀ j, j < l.length → G j < 256) (d : Nat) : rSum a p r i l G d < 256 := by
  induction d with
  | zero => exact Nat.zero_lt_succ _
  | succ d ih => exact Hd.xor_lt _ _ ih (Hd.mul_lt _ _ (pickTo_lt l G d _ _ (C4.at_lt (h.cells d r) i) hG))
set_option maxRecDepth 100000 in
set_option maxHeartbeats 2000000 in
theorem rsum_any (yb : Nat) (a : Ab) (V : Nat → Value) (left : Int) (dn : Bool) (p r i : Nat) (l : List Nat) (G : Nat → Nat) (pl pg : Option Addr) (cl ng cg : Nat) (w : World) (h : RefIn w yb a V left dn) (hr : r < a.R) (hi : i < 4) (hl : NumsAt w pl l) (hg : BytesAt w pg ng G) (hll : l.length ≤ ng) (hl8 : l.length ≤ 8) :
    Calls Tryz.prog 119 #[.pointer (some ⟨yb, 0, none⟩), .int .i64 p, .int .i64 r, .int .i64 i, .slice pl l.length cl, .slice pg ng cg] w fun e w' => e = .returned (.int .u8 (rSum a p r i l G a.D : Nat)) ∧ ∃ q, w' = w.drewN q := by
  have hD := h.ok.D4
  have hR := h.ok.R6
  have HH : Hid (RefIn w yb a V left dn) := h
  have HNL : Hid (NumsAt w pl l) := hl
  have HBG : Hid (BytesAt w pg ng G) := hg
  have HG : Hid (∀ j, j < l.length → G j < 256) := fun j hj => by
    obtain ⟨_, _, _, _, h1⟩ := hg j (by omega)
    exact h1
  have HSL : Hid (∀ d, rSum a p r i l G d < 256) := rSum_lt a h.ok p r i l G HG.out
  have HS0 : Hid (rSum a p r i l G 0 = 0) := rfl
  have HSS : Hid (∀ d, rSum a p r i l G (d + 1) = rSum a p r i l G d ^^^ Hd.mul (pickTo l G d ((a.cell d r).at i) l.length) (rW p d)) := fun _ => rfl
  have hri : (r : Int) < (a.R : Int) := by omega
  have hii : (i : Int) < 4 := by omega
  clear h hl hg
  generalize hln : l.length = ln at *
  go_enter Tryz.func119, Tryz.ntmps119
  go_wp2_with fail
  go_loopw [13, 14, 15, 16] (fun s c _ _ wr => ∃ (d m q : Nat), d ≤ a.D ∧ c = .int .i64 d ∧ s = .int .u8 m ∧ Hid (m = rSum a p r i l G d) ∧ wr = w.drewN q) (fun _ c _ _ _ => a.D - (intOf c).toNat)
  case atStart => exact ⟨0, 0, 0, by omega, rfl, rfl, rfl, rfl⟩
  case round =>
    obtain ⟨d, m, q, hd, rfl, rfl, hm, rfl⟩ := hrel
    have h1 : RefIn (w.drewN q) yb a V left dn := HH.out.heap rfl
    obtain ⟨c0, _, _, _, c4, _⟩ := h1.cells
    have hlt := h1.row.lt
    by_cases hdD : d < a.D
    · have hdi : (d : Int) < (a.D : Int) := by omega
      obtain ⟨g, cap, e0, hg0, hgy, hdr⟩ := h1.drive
      obtain ⟨_, _, d2, _⟩ := hdr d (by omega)
      obtain ⟨gc, capc, ec, hgc, _, hce⟩ := h1.cellsOf d (by omega)
      have b0 := hce r i hr hi
      rw [e0] at c4
      rw [ec] at d2
      have hdl : (d : Int) < ((a.D + a.P : Nat) : Int) := by omega
      have hd4 : d < 4 := by omega
      have hcl : (a.cell d r).at i < 256 := C4.at_lt (HH.out.ok.cells d r) i
      have HPL : Hid (pickTo l G d ((a.cell d r).at i) ln < 256) := pickTo_lt l G d _ ln hcl HG.out
      have HSD : Hid (rSum a p r i l G (d + 1) = rSum a p r i l G d ^^^ Hd.mul (pickTo l G d ((a.cell d r).at i) ln) (rW p d)) := HSS.out d
      have hml : m < 256 := by rw [hm.out]; exact HSL.out d
      have HP0 : Hid (pickTo l G d ((a.cell d r).at i) 0 = (a.cell d r).at i) := rfl
      have HPS : Hid (∀ k, pickTo l G d ((a.cell d r).at i) (k + 1) = if l.getD k 0 = d then G k else pickTo l G d ((a.cell d r).at i) k) := fun _ => rfl
      generalize (a.cell d r).at i = cb at *
      clear h1 hdr hce e0 ec
      generalize a.D + a.P = n at *
      have HNQ : Hid (NumsAt (w.drewN q) pl l) := HNL.out.heap rfl
      have HBQ : Hid (BytesAt (w.drewN q) pg ng G) := HBG.out.heap rfl
      generalize hwq : w.drewN q = wq at *
      have HWQ : Hid (w.drewN q = wq) := hwq
      clear hwq
      go_wp2_with fail
      clear c0 c4 d2 b0 hlt
      go_loopw [15, 16] (fun v c wi => ∃ (k m2 q2 : Nat), k ≤ ln ∧ c = .int .i64 k ∧ v = .int .u8 m2 ∧ Hid (m2 = pickTo l G d cb k) ∧ wi = wq.drewN q2) (fun _ c _ => ln - (intOf c).toNat)
      case atStart => exact ⟨0, cb, 0, by omega, rfl, rfl, rfl, rfl⟩
      case round =>
        obtain ⟨k, m2, q2, hk, rfl, rfl, hm2, rfl⟩ := hrel
        by_cases hkl : k < ln
        · have hki : (k : Int) < (ln : Int) := by omega
          have hkn : (k : Int) < (ng : Int) := by omega
          obtain ⟨lb, lo, rfl, y0⟩ := (HNQ.out.heap (w' := wq.drewN q2) rfl) k (by omega)
          obtain ⟨gb, go, rfl, y1, hgl⟩ := (HBQ.out.heap (w' := wq.drewN q2) rfl) k (by omega)
          have hlb := block_lt_of_cell y0
          have hgb := block_lt_of_cell y1
          simp only at hlb hgb
          have hps := HPS.out k
          generalize l.getD k 0 = lk at *
          generalize G k = gk at *
          by_cases hlk : lk = d
          · have hlki : ((lk : Int) == (d : Int)) = true := by rw [beq_iff_eq]; omega
            rw [if_pos hlk] at hps
            have HM3 : Hid (gk = pickTo l G d cb (k + 1)) := hps.symm
            clear hlk hps
            go_wp2_with fail
            exact ⟨⟨k + 1, gk, q2, by omega, by go_num, rfl, HM3, rfl⟩, by simp [intOf]; omega⟩
          · have hlki : ((lk : Int) == (d : Int)) = false := by rw [beq_eq_false_iff_ne]; omega
            rw [if_neg hlk] at hps
            have HM3 : Hid (m2 = pickTo l G d cb (k + 1)) := (show _ = _ by rw [hps]; exact hm2.out)
            clear hlk hps
            go_wp2_with fail
            exact ⟨⟨k + 1, m2, q2, by omega, by go_num, rfl, HM3, rfl⟩, by simp [intOf]; omega⟩
        · have hke : k = ln := by omega
          have hkli : ¬ ((k : Int) < (ln : Int)) := by omega
          have HMV : Hid (m2 = pickTo l G d cb ln) := (show _ = _ by rw [← hke]; exact hm2.out)
          have hm2l : m2 < 256 := by rw [HMV.out]; exact HPL.out
          have hwl := rW_lt p d hd4
          have HT : Hid (∀ W, Calls Tryz.prog 109 #[.int .i64 p, .int .i64 d] W fun e w' => e = .returned (.int .u8 (rW p d : Nat)) ∧ w' = W) := fun W => rtimes_any p d W hd4
          have HMU : Hid (∀ W, Calls Tryz.prog 20 #[.int .u8 m2, .int .u8 (rW p d : Nat)] W fun e w' => e = .returned (.int .u8 (Hd.mul m2 (rW p d) : Nat)) ∧ w' = W) := fun W => rmul_any m2 (rW p d) W hm2l hwl
          have hmu := Hd.mul_lt m2 (rW p d) hm2l
          have hxx := u8_xor_nat m (Hd.mul m2 (rW p d)) hml hmu
          have HM4 : Hid (m ^^^ Hd.mul m2 (rW p d) = rSum a p r i l G (d + 1)) := (show _ = _ by rw [HSD.out, hm.out, HMV.out])
          generalize Hd.mul m2 (rW p d) = mu at *
          generalize rW p d = wg at *
          clear hke hm2 HMV HPL
          have HWE : Hid (wq.drewN q2 = w.drewN (q + q2)) := (show _ = _ by rw [← HWQ.out, World.drewN_drewN])
          go_wp2_with fail
          refine (HT.out _).mono ?_
          rintro e wt ⟨rfl, rfl⟩
          go_wp2_with fail
          refine (HMU.out _).mono ?_
          rintro e wt ⟨rfl, rfl⟩
          go_wp2_with fail
          exact ⟨⟨d + 1, m ^^^ mu, q + q2, by omega, by go_num, rfl, HM4, HWE.out⟩, by simp [intOf]; omega⟩
    · have hde : d = a.D := by omega
      have hdi : ¬ ((d : Int) < (a.D : Int)) := by omega
      have HME : Hid (m = rSum a p r i l G a.D) := (show _ = _ by rw [← hde]; exact hm.out)
      clear hde h1 c4
      go_wp2_with fail
      go_ret
      exact ⟨by rw [HME.out]; rfl, q, rfl⟩
/-- Do the first n equations of some hold at a byte? -/
def rHold (a : Ab) (ps : List Nat) (r i : Nat) (l : List Nat) (G : Nat → Nat) : Nat → Bool
  | 0 => true
  | k + 1 => rHold a ps r i l G k && (rSum a (ps.getD k 0) r i l G a.D == (valC a (a.D + ps.getD k 0) r).at i)
theorem rHold_iff (a : Ab) (ps : List Nat) (r i : Nat) (l : List Nat) (G : Nat → Nat) (n : Nat) : rHold a ps r i l G n = true ↔ ∀ k, k < n → rSum a (ps.getD k 0) r i l G a.D = (valC a (a.D + ps.getD k 0) r).at i := by
  induction n with
  | zero => simp [rHold]
  | succ n ih =>
    simp only [rHold, Bool.and_eq_true, ih, beq_iff_eq]
    constructor
    · intro ⟨h1, h2⟩ k hk
      by_cases e : k = n
      · subst e; exact h2
      · exact h1 k (by omega)
    · intro h
      exact ⟨fun k hk => h k (by omega), h n (by omega)⟩
set_option maxRecDepth 100000 in
set_option maxHeartbeats 2000000 in
theorem rhold_any (yb : Nat) (a : Ab) (V : Nat → Value) (left : Int) (dn : Bool) (ps : List Nat) (n r i : Nat) (l : List Nat) (G : Nat → Nat) (pp pl pg : Option Addr) (cp cl ng cg : Nat) (w : World) (h : RefIn w yb a V left dn) (hr : r < a.R) (hi : i < 4) (hps : NumsAt w pp ps) (hpl : ∀ k, k < ps.length → ps.getD k 0 < a.P) (hn : n ≤ ps.length) (hn8 : ps.length ≤ 8) (hl : NumsAt w pl l) (hg : BytesAt w pg ng G) (hll : l.length ≤ ng) (hl8 : l.length ≤ 8) :
    Calls Tryz.prog 118 #[.pointer (some ⟨yb, 0, none⟩), .slice pp ps.length cp, .int .i64 n, .int .i64 r, .int .i64 i, .slice pl l.length cl, .slice pg ng cg] w fun e w' => e = .returned (.bool (rHold a ps r i l G n)) ∧ Below w.heap.size w w' := by
  have HH : Hid (RefIn w yb a V left dn) := h
  have HPS : Hid (NumsAt w pp ps) := hps
  have HPL : Hid (∀ k, k < ps.length → ps.getD k 0 < a.P) := hpl
  have HSU : Hid (∀ (p : Nat) (W : World), Below w.heap.size w W → Calls Tryz.prog 119 #[.pointer (some ⟨yb, 0, none⟩), .int .i64 p, .int .i64 r, .int .i64 i, .slice pl l.length cl, .slice pg ng cg] W fun e w' => e = .returned (.int .u8 (rSum a p r i l G a.D : Nat)) ∧ ∃ q, w' = W.drewN q) := fun p W hW => rsum_any yb a V left dn p r i l G pl pg cl ng cg W (h.below hW) hr hi (hl.below hW) (hg.below hW (Nat.le_refl _)) hll hl8
  have HVA : Hid (∀ (p : Nat) (W : World), p < a.P → Below w.heap.size w W → Calls Tryz.prog 120 #[.pointer (some ⟨yb, 0, none⟩), .int .i64 p, .int .i64 r, .int .i64 i] W fun e w' => e = .returned (.int .u8 ((valC a (a.D + p) r).at i : Nat)) ∧ Below W.heap.size W w') := fun p W hp hW => rvalue_any yb a V left dn p r i W (h.below hW) hp hr hi
  clear h hps hl hg hpl
  generalize hln : l.length = ln at *
  clear hln
  generalize hpn : ps.length = pn at *
  have HPN : Hid (ps.length = pn) := hpn
  clear hpn
  go_enter Tryz.func118, Tryz.ntmps118
  go_wp2_with fail
  go_loopw [15, 16, 17] (fun c _ _ wr => ∃ k : Nat, k ≤ n ∧ c = .int .i64 k ∧ Hid (rHold a ps r i l G k = true) ∧ Below w.heap.size w wr) (fun c _ _ _ => n - (intOf c).toNat)
  case atStart => exact ⟨0, by omega, rfl, rfl, Below.refl _ _⟩
  case round =>
    obtain ⟨k, hk, rfl, hho, hbel⟩ := hrel
    by_cases hkn : k < n
    · have hki : (k : Int) < (n : Int) := by omega
      have hkp : (k : Int) < (pn : Int) := by omega
      obtain ⟨pb, po, rfl, y0⟩ := (HPS.out.below hbel) k (by have := HPN.out; omega)
      have hpb := block_lt_of_cell y0
      simp only at hpb
      have hpk := HPL.out k (by have := HPN.out; omega)
      have HHS : Hid (rHold a ps r i l G (k + 1) = (rSum a (ps.getD k 0) r i l G a.D == (valC a (a.D + ps.getD k 0) r).at i)) := (show _ = _ by simp only [rHold]; rw [hho.out, Bool.true_and])
      have HHF : Hid ((rSum a (ps.getD k 0) r i l G a.D == (valC a (a.D + ps.getD k 0) r).at i) = false → rHold a ps r i l G n = false) := fun hx => by
        have : ¬ (rHold a ps r i l G n = true) := fun hy => by
          have := (rHold_iff a ps r i l G n).1 hy k hkn
          rw [this] at hx
          simp at hx
        simpa using this
      have hk8 : k < 8 := by omega
      have HS1 : Hid (∀ W, Below w.heap.size w W → Calls Tryz.prog 119 #[.pointer (some ⟨yb, 0, none⟩), .int .i64 (ps.getD k 0 : Nat), .int .i64 r, .int .i64 i, .slice pl ln cl, .slice pg ng cg] W fun e w' => e = .returned (.int .u8 (rSum a (ps.getD k 0) r i l G a.D : Nat)) ∧ ∃ q, w' = W.drewN q) := fun W hW => HSU.out _ W hW
      have HV1 : Hid (∀ W, Below w.heap.size w W → Calls Tryz.prog 120 #[.pointer (some ⟨yb, 0, none⟩), .int .i64 (ps.getD k 0 : Nat), .int .i64 r, .int .i64 i] W fun e w' => e = .returned (.int .u8 ((valC a (a.D + ps.getD k 0) r).at i : Nat)) ∧ Below W.heap.size W w') := fun W hW => HVA.out _ W hpk hW
      generalize rSum a (ps.getD k 0) r i l G a.D = x at *
      generalize (valC a (a.D + ps.getD k 0) r).at i = y at *
      generalize ps.getD k 0 = pk at *
      go_wp2_with fail
      refine (HS1.out _ hbel).mono ?_
      rintro e w1 ⟨rfl, q, rfl⟩
      have b1 : Below w.heap.size w (wr.drewN q) := below_drewN hbel q
      have y1 := below_cell' (below_drewN (Below.refl wr.heap.size wr) q) y0
      have hpb1 := block_lt_of_cell y1
      simp only at hpb1
      generalize wr.drewN q = w1 at *
      go_wp2_with fail
      refine (HV1.out _ b1).mono ?_
      rintro e w2 ⟨rfl, k2⟩
      have B2 : Hid (Below w.heap.size w w2) := b1.trans (k2.mono b1.size)
      clear k2 y0 y1 hpb hpb1 b1
      by_cases hxy : x = y
      · have hne : ((x : Int) != (y : Int)) = false := by rw [bne_eq_false_iff_eq]; omega
        have HH2 : Hid (rHold a ps r i l G (k + 1) = true) := (show _ = _ by rw [HHS.out, hxy]; simp)
        clear hxy HHF HHS
        go_wp2_with fail
        exact ⟨⟨k + 1, by omega, by go_num, HH2, B2.out⟩, by simp [intOf]; omega⟩
      · have hne : ((x : Int) != (y : Int)) = true := by rw [bne_iff_ne]; omega
        have HH2 : Hid (rHold a ps r i l G n = false) := HHF.out (by simpa using hxy)
        clear hxy HHF HHS
        go_wp2_with fail
        go_ret
        exact ⟨by rw [HH2.out]; rfl, B2.out⟩
    · have hke : k = n := by omega
      have hki : ¬ ((k : Int) < (n : Int)) := by omega
      have HHE : Hid (rHold a ps r i l G n = true) := (show _ = _ by rw [← hke]; exact hho.out)
      clear hke
      go_wp2_with fail
      go_ret
      exact ⟨by rw [HHE.out]; rfl, hbel⟩
end Go.Proofs.YtfpoiikhhjdpdaaGreat
