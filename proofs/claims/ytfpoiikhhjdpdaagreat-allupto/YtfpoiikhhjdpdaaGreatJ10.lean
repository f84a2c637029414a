import Derived.Test.YtfpoiikhhjdpdaaGreatJ07
import Derived.Test.YtfpoiikhhjdpdaaGreatJ09
/- A block is written. -/
namespace Go.Proofs.YtfpoiikhhjdpdaaGreat
open Go.RowKit
set_option linter.unusedVariables false
attribute [local go_sem ↓] Go.wp_at_zero Go.wp_at_succ
theorem brkHit_none {a : Ab} {n : Nat} (h : ∀ i, i < n → a.brk ≠ some (a.steps + i)) : brkHit a n = none := by
  unfold brkHit
  cases hb : a.brk with
  | none => rfl
  | some k =>
    simp only
    rw [if_neg]
    rintro ⟨h1, h2⟩
    refine h (k - a.steps) (by omega) ?_
    rw [hb]; congr 1; omega
theorem brkHit_some {a : Ab} {n j : Nat} (h : a.brk = some (a.steps + j)) (hj : j < n) : brkHit a n = some j := by
  unfold brkHit
  rw [h]
  simp only
  rw [if_pos (by omega)]
  congr 1; omega
/-- What a Write of a block leaves. -/
def WBPost (hb : Nat) (s : St) (w : World) (b a n : Nat) (f : Nat → Nat) (e : Ending) (w' : World) : Prop :=
  ∃ s', WentIn hb s w s' w' ∧ ((e = .returned (.bool true) ∧ brkHit s (blockN s b a n f) = none ∧ s'.toAb = abBlock s.toAb b a n f ∧ s'.aux = s.aux) ∨ (e = .returned (.bool false) ∧ (∀ g, s'.aux.tv.ownBlock = some g → w.heap.size ≤ g) ∧ ∃ j, brkHit s (blockN s b a n f) = some j ∧ DownAt w' hb s' (abDown s.toAb b a n f j)))
theorem blockN_ne {a : Ab} {b fr n : Nat} {g : Nat → Nat} (he : ¬ (abNew a b fr n g = holdC a (b % a.D) (b / a.D))) : blockN a b fr n g = costN a (b % a.D) (b / a.D) := by
  unfold blockN
  rw [if_neg (fun hh => he ((C4.beq_iff _ _).1 hh))]
theorem abDown_succ {a : Ab} {b fr n : Nat} {g : Nat → Nat} (hD : 1 ≤ a.D) (he : ¬ (abNew a b fr n g = holdC a (b % a.D) (b / a.D))) (j : Nat) (hj : j ≠ 0) :
    abDown a b fr n g j = ((abTakes a (b % a.D) (b / a.D) (abNew a b fr n g) ((holdC a (b % a.D) (b / a.D)).xor (abNew a b fr n g)) (takersL a (b % a.D) (b / a.D))).addSteps j).setBrk none := by
  unfold abDown
  rw [if_neg hj, block_takes a b fr n g hD he]
  have hs := (takes_props a (b % a.D) (b / a.D) (abNew a b fr n g) ((holdC a (b % a.D) (b / a.D)).xor (abNew a b fr n g)) (takersL a (b % a.D) (b / a.D))).2.2.1
  simp only [Ab.addSteps, Ab.setBrk]
  rw [hs]
theorem takers_len (a : Ab) (c r : Nat) : (takersL a c r).length ≤ a.P + 1 := by
  unfold takersL
  have := parL_len a r a.P
  rw [List.length_append]
  split
  · simp; omega
  · simp; omega
theorem parL_addSteps (a : Ab) (n r m : Nat) : parL (a.addSteps n) r m = parL a r m := by
  induction m with
  | zero => rfl
  | succ m ih => simp only [parL, ih]; rfl
theorem takers_addSteps (a : Ab) (n c r : Nat) : takersL (a.addSteps n) c r = takersL a c r := by
  unfold takersL
  rw [parL_addSteps]; rfl
theorem takers_sort (a : Ab) (c r d : Nat) (h : d ∈ takersL a c r) : d = c ∨ (a.D ≤ d ∧ d < a.D + a.P) := by
  unfold takersL at h
  rw [List.mem_append] at h
  rcases h with h | h
  · have := (parL_mem a r a.P d).1 h
    exact .inr ⟨this.1, this.2.1⟩
  · split at h
    · simp at h
    · simp at h; exact .inl h
/-- What is noted of a block from its first step on: the first k drives have taken it in. -/
def noteX (b : Nat) (nw x : C4) (v : Value) (L : List Nat) (k : Nat) : Aux := ⟨b, nw, x, v, L, k, false⟩
def noteCells (b : Nat) (nw x : C4) (v : Value) : Array Value := #[.int .i64 b, .int .u8 nw.b0, .int .u8 nw.b1, .int .u8 nw.b2, .int .u8 nw.b3, .int .u8 x.b0, .int .u8 x.b1, .int .u8 x.b2, .int .u8 x.b3, v, .int .i64 0]
theorem HoardIn.thereN {w : World} {hb : Nat} {s : St} (h : HoardIn w hb s) : w.there hb 197 11 := fun j hj =>
  ⟨by rw [h.row.cell (i := 197 + j) (by omega)]; rfl, h.row.frozen _⟩
theorem noteCells_at (b : Nat) (nw x : C4) (v : Value) (L : List Nat) (bk : Option Nat) (j : Nat) (hj : j < 11) : (noteCells b nw x v).toList[j]? = some (auxv (noteX b nw x v L 0) bk (197 + j)) := by
  rcases (by omega : j = 0 ∨ j = 1 ∨ j = 2 ∨ j = 3 ∨ j = 4 ∨ j = 5 ∨ j = 6 ∨ j = 7 ∨ j = 8 ∨ j = 9 ∨ j = 10) with rfl | rfl | rfl | rfl | rfl | rfl | rfl | rfl | rfl | rfl | rfl <;> rfl
theorem auxv_top (x y : Aux) (bk : Option Nat) (h : y.down = x.down) (j : Nat) (hj : 208 ≤ j) : auxv y bk j = auxv x bk j := by
  have e1 : ¬ j = 197 := by omega
  have e2 : ¬ j < 202 := by omega
  have e3 : ¬ j < 206 := by omega
  have e4 : ¬ j = 206 := by omega
  have e5 : ¬ j = 207 := by omega
  unfold auxv
  simp only [e1, e2, e3, e4, e5, if_false, h]
/-- The note is laid. -/
theorem HoardIn.note {w : World} {hb : Nat} {s : St} (h : HoardIn w hb s) (hd : s.aux.down = false) (b : Nat) (nw x : C4) (v : Value) (L : List Nat) : HoardIn (w.setCells hb 197 (noteCells b nw x v).toList) hb (s.setAux (noteX b nw x v L 0) s.brk) := by
  refine h.setAux _ _ ?_ (fun k hk => heap_setCells hb _ _ w k hk)
  refine (rowIs_setCells _ _ w _ h.row).congr (fun j hj => ?_)
  have hl : (noteCells b nw x v).toList.length = 11 := rfl
  rw [hl]
  by_cases hc : 197 ≤ j ∧ j < 197 + 11
  · rw [if_pos hc, noteCells_at b nw x v L s.brk _ (by omega), hv_high _ j hc.1, show 197 + (j - 197) = j by omega]
    rfl
  · rw [if_neg hc]
    by_cases hn : j < 197
    · rw [hv_low s _ _ j hn]
    · rw [hv_high _ j (by omega), hv_high _ j (by omega)]
      exact (auxv_top s.aux (noteX b nw x v L 0) s.brk hd.symm j (by omega)).symm
theorem infoNote (b : Nat) (nw x : C4) (v : Value) : (Tryz.prog.info? 100).map (·.size) = some (noteCells b nw x v).size := by
  show _ = some 11
  kernel_rfl
theorem noteOne (b : Nat) (nw x : C4) (p : Option Addr) (n c : Nat) : (noteCells b nw x (.slice p n c)).all (·.oneCell') = true := by simp [noteCells, Value.oneCell']
theorem HoardIn.noteRow {w : World} {hb : Nat} {s : St} (h : HoardIn w hb s) : w.cell? ⟨hb, 197, none⟩ = some (.int .i64 s.aux.blk) ∧ w.cell? ⟨hb, 198, none⟩ = some (.int .u8 s.aux.aft.b0) ∧ w.cell? ⟨hb, 199, none⟩ = some (.int .u8 s.aux.aft.b1) ∧ w.cell? ⟨hb, 200, none⟩ = some (.int .u8 s.aux.aft.b2) ∧ w.cell? ⟨hb, 201, none⟩ = some (.int .u8 s.aux.aft.b3) ∧ w.cell? ⟨hb, 202, none⟩ = some (.int .u8 s.aux.chg.b0) ∧ w.cell? ⟨hb, 203, none⟩ = some (.int .u8 s.aux.chg.b1) ∧ w.cell? ⟨hb, 204, none⟩ = some (.int .u8 s.aux.chg.b2) ∧ w.cell? ⟨hb, 205, none⟩ = some (.int .u8 s.aux.chg.b3) ∧ w.cell? ⟨hb, 206, none⟩ = some s.aux.tv ∧ w.cell? ⟨hb, 207, none⟩ = some (.int .i64 s.aux.dn) :=
  ⟨h.notedAt.1, h.aftAt.1, h.aftAt.2.1, h.aftAt.2.2.1, h.aftAt.2.2.2, h.chgAt.1, h.chgAt.2.1, h.chgAt.2.2.1, h.chgAt.2.2.2, h.notedAt.2.1, h.notedAt.2.2⟩
theorem HoardIn.noteFrz {w : World} {hb : Nat} {s : St} (h : HoardIn w hb s) : w.frozen? ⟨hb, 197, none⟩ = false ∧ w.frozen? ⟨hb, 198, none⟩ = false ∧ w.frozen? ⟨hb, 199, none⟩ = false ∧ w.frozen? ⟨hb, 200, none⟩ = false ∧ w.frozen? ⟨hb, 201, none⟩ = false ∧ w.frozen? ⟨hb, 202, none⟩ = false ∧ w.frozen? ⟨hb, 203, none⟩ = false ∧ w.frozen? ⟨hb, 204, none⟩ = false ∧ w.frozen? ⟨hb, 205, none⟩ = false ∧ w.frozen? ⟨hb, 206, none⟩ = false ∧ w.frozen? ⟨hb, 207, none⟩ = false :=
  ⟨h.row.frozen _, h.row.frozen _, h.row.frozen _, h.row.frozen _, h.row.frozen _, h.row.frozen _, h.row.frozen _, h.row.frozen _, h.row.frozen _, h.row.frozen _, h.row.frozen _⟩
theorem down0 {w : World} {hb : Nat} {s : St} (h : HoardIn w hb s.goDown) (hu : s.aux = aux0) (b a n : Nat) (f : Nat → Nat) : DownAt w hb s.goDown (abDown s.toAb b a n f 0) := by
  have hx : s.goDown.aux = { aux0 with down := true } := by unfold St.goDown St.setAux; simp only; rw [hu]
  refine ⟨⟨h, ?_, ?_, ?_, ?_, ?_, ?_, ?_, ?_⟩, ?_, ?_⟩
  · rw [hx]; exact Nat.mul_pos h.ok.D1 h.ok.R1
  · rw [hx]; exact C4.zero_ok
  · rw [hx]; exact C4.zero_ok
  · rw [hx]; exact World.ownsRow_nil _ _ _ _
  · rw [hx]; intro g hg; simp [aux0, Value.ownBlock] at hg
  · rw [hx]; exact Nat.le_refl _
  · rw [hx]; exact Nat.zero_le _
  · rw [hx]; intro d hd; simp [aux0] at hd
  · rw [hx]
  · rw [hx]; unfold abDown; rw [if_pos rfl]; rfl
theorem NotedAt.goDown {w w' : World} {hb : Nat} {s : St} (h : NotedAt w hb s) (k : WentIn hb s w s.goDown w') : NotedAt w' hb s.goDown :=
  ⟨k.at', h.blk, h.aft, h.chg, h.tk.kept k.kept h.own, fun g hg hf => (k.foot g hf).elim (h.own g hg) (fun h1 => by have := h.tk.lt hg; omega), h.dn, h.few, h.sort⟩
theorem down_gives {s s3 : St} {b c r k : Nat} {nw x : C4} {v : Value} {L : List Nat} (hab : s3.toAb = (abTakes s.toAb c r nw x (L.take k)).addSteps (1 + k)) (hx : s3.aux = noteX b nw x v L k) (hc : b % s.D = c) (hr : b / s.D = r) :
    abTakes s3.goDown.toAb (s3.goDown.aux.blk % s3.goDown.D) (s3.goDown.aux.blk / s3.goDown.D) s3.goDown.aux.aft s3.goDown.aux.chg (s3.goDown.aux.tk.drop s3.goDown.aux.dn) = ((abTakes s.toAb c r nw x L).addSteps (1 + k)).setBrk none := by
  have hD : s3.D = s.D := by
    show s3.toAb.D = _
    rw [hab]; exact (takes_props s.toAb c r nw x _).1.D
  show abTakes (s3.toAb.setBrk none) (s3.aux.blk % s3.D) (s3.aux.blk / s3.D) s3.aux.aft s3.aux.chg (s3.aux.tk.drop s3.aux.dn) = _
  rw [hx, hD]
  show abTakes (s3.toAb.setBrk none) (b % s.D) (b / s.D) nw x (L.drop k) = _
  rw [hc, hr, hab, takes_brk, takes_addSteps, ← abTakes_app, List.take_append_drop]
theorem HoardIn.setDn {w : World} {hb : Nat} {s : St} (h : HoardIn w hb s) (n : Nat) : HoardIn (w.setCell ⟨hb, 207, none⟩ (.int .i64 n)) hb (s.setAux { s.aux with dn := n } s.brk) := by
  refine h.setAux _ _ ?_ (fun k hk => Below.heap_setCell _ _ _ _ hk)
  refine (h.row.set _ _).congr (fun j hj => ?_)
  by_cases hn : j < 197
  · rw [if_neg (by omega), hv_low s _ _ j hn]
  · rw [hv_high s j (by omega), hv_high _ j (by omega)]
    show _ = auxv { s.aux with dn := n } s.brk j
    by_cases e : j = 207
    · subst e; rfl
    · rw [if_neg e]
      unfold auxv
      simp only [e, if_false]
theorem HoardIn.unnote {w : World} {hb : Nat} {s : St} (h : HoardIn w hb s) (hd : s.aux.down = false) : HoardIn (w.setCells hb 197 (noteCells 0 C4.zero C4.zero (.slice none 0 0)).toList) hb (s.setAux aux0 s.brk) := h.note hd 0 C4.zero C4.zero (.slice none 0 0) []
theorem getD_mem (L : List Nat) (k : Nat) (h : k < L.length) : L.getD k 0 ∈ L := by
  rw [List.getD_eq_getElem?_getD, List.getElem?_eq_getElem h]; simp
theorem take_succ_getD (L : List Nat) (k : Nat) (h : k < L.length) : L.take (k + 1) = L.take k ++ [L.getD k 0] := by
  rw [List.take_add_one, List.getD_eq_getElem?_getD, List.getElem?_eq_getElem h]; rfl
theorem IntsAt.base {w : World} {B : Nat} {v : Value} {l : List Nat} (h : IntsAt w B v l) : IntsAt w 0 v l := by
  refine ⟨h.1, ?_⟩
  rcases h.2 with h1 | ⟨g, cap, cur, h1, hb, rest⟩
  · exact .inl h1
  · exact .inr ⟨g, cap, cur, h1, Nat.zero_le _, rest⟩
theorem noted_new {w7 w8 : World} {hb : Nat} {s1 : St} {b : Nat} {nw x : C4} {v : Value} {L : List Nat} {B : Nat} (h : HoardIn w7 hb s1) (hd : s1.aux.down = false) (hi : IntsAt w7 B v L) (hB : ∀ k, Foot hb s1 k → k < B) (k8 : Below w7.heap.size w7 w8) (hbl : b < s1.D * s1.R) (ha : nw.ok) (hx : x.ok) (hl : L.length ≤ 3) (hs : ∀ d ∈ L, d = b % s1.D ∨ (s1.D ≤ d ∧ d < s1.D + s1.P)) :
    NotedAt (w8.setCells hb 197 (noteCells b nw x v).toList) hb (s1.setAux (noteX b nw x v L 0) s1.brk) := by
  have hown : ∀ g, v.ownBlock = some g → ¬ Foot hb s1 g := fun g hg hf => by
    have h1 := hB g hf
    have h2 := (World.ownsRow.lt hi g hg).1
    omega
  refine ⟨(h.below k8).note hd b nw x v L, hbl, ha, hx, ?_, hown, Nat.zero_le _, hl, hs⟩
  have h1 : IntsAt w8 0 v L := (hi.below k8).base
  exact h1.kept (S := fun k => k = hb) (kept_setCells _ _ _ _ rfl (Kept.refl _ _)) (fun g hg e => hown g hg (.inl e))
theorem NotedAt.setDn {w : World} {hb : Nat} {s : St} (h : NotedAt w hb s) (n : Nat) (hn : n ≤ s.aux.tk.length) : NotedAt (w.setCell ⟨hb, 207, none⟩ (.int .i64 n)) hb (s.setAux { s.aux with dn := n } s.brk) :=
  ⟨h.toHoardIn.setDn n, h.blk, h.aft, h.chg, h.tk.kept (S := fun k => k = hb) (Kept.setCell (S := fun k => k = hb) (Kept.refl _ _) (.inl rfl) _) (fun g hg e => h.own g hg (.inl e)), h.own, hn, h.few, h.sort⟩
theorem loop_ab {s : Ab} {c r k : Nat} {nw x : C4} {L : List Nat} {a4 : Ab} (h : a4 = (abTakes s c r nw x (L.take k)).addSteps (1 + k)) (hk : k < L.length) : abTake (a4.addSteps 1) c r nw x (L.getD k 0) = (abTakes s c r nw x (L.take (k + 1))).addSteps (1 + (k + 1)) := by
  rw [take_succ_getD L k hk, abTakes_snoc, h, take_addSteps, take_addSteps]
  rfl
theorem eqCell (a b c d x y z t : Int) (w : World) : (Op.equalIn 10000 75 (.agg #[.int .u8 a, .int .u8 b, .int .u8 c, .int .u8 d]) (.agg #[.int .u8 x, .int .u8 y, .int .u8 z, .int .u8 t])).run Tryz.prog w = .ok (a == x && b == y && c == z && d == t) w := by
  have u3 := Tryz.underlying5
  have a3 := Tryz.isAgg5
  have z3 := Tryz.sizeOf5
  rw [show (10000 : Nat) = 9999 + 1 from rfl, Op.equalIn]
  simp only [Sem.run_bind, run_underlying Tryz.underlying75, Result.andThen_ok]
  simp only [Std.Legacy.Range.forIn_eq_forIn_range', Std.Legacy.Range.size, Nat.sub_zero, Nat.add_sub_cancel, Nat.div_one, List.range'_succ, List.range'_zero, List.forIn_cons, List.forIn_nil]
  go_simp
  by_cases h1 : a = x <;> by_cases h2 : b = y <;> by_cases h3 : c = z <;> by_cases h4 : d = t <;> simp [h1, h2, h3, h4]
set_option maxRecDepth 100000 in
set_option maxHeartbeats 2000000 in
theorem writeBlock_same (hb : Nat) (s : St) (b a : Nat) (p : Option Addr) (n cap : Nat) (f : Nat → Nat) (w : World) (h : HoardIn w hb s) (hd : BytesAt w p n f) (hbl : b < s.D * s.R) (ha : a ≤ 96) (hn : n ≤ 96)
    (he : abNew s b a n f = holdC s (b % s.D) (b / s.D)) :
    Calls Tryz.prog 80 #[.pointer (some ⟨hb, 0, none⟩), .int .i64 b, .int .i64 a, .slice p n cap] w fun e w' => e = .returned (.bool true) ∧ Below w.heap.size w w' := by
  have hD := h.ok.D4
  have hD1 := h.ok.D1
  have hR := h.ok.R6
  have hb24 : b < 24 := Nat.lt_of_lt_of_le hbl (Nat.mul_le_mul hD hR)
  have hc4 : b % s.D < 4 := by have := Nat.mod_lt b (show 0 < s.D by omega); omega
  have hr6 : b / s.D < 6 := by
    have : b / s.D < s.R := Nat.div_lt_of_lt_mul hbl
    omega
  have HH : Hid (HoardIn w hb s) := h
  have HD : Hid (BytesAt w p n f) := hd
  have HE : Hid ((holdC s (b % s.D) (b / s.D)).overlay ((b : Int) * 4 - a) n f = holdC s (b % s.D) (b / s.D)) := he
  have HPL : Hid (∀ W, HoardIn W hb s → Calls Tryz.prog 66 #[.pointer (some ⟨hb, 0, none⟩), .int .i64 b] W fun e w' => e = .returned (.tuple #[.int .i64 (b % s.D : Nat), .int .i64 (b / s.D : Nat)]) ∧ ∃ n, w' = W.drewN n) := fun W hW => place_any hb s b W hW (by omega)
  have HHO : Hid (∀ W, HoardIn W hb s → Calls Tryz.prog 67 #[.pointer (some ⟨hb, 0, none⟩), .int .i64 (b % s.D : Nat), .int .i64 (b / s.D : Nat)] W fun e w' => e = .returned (holdC s (b % s.D) (b / s.D)).val ∧ Below W.heap.size W w') := fun W hW => holds_any hb s _ _ W hW hc4 hr6
  have HOV : Hid (∀ W, BytesAt W p n f → Calls Tryz.prog 105 #[(holdC s (b % s.D) (b / s.D)).val, .int .i64 ((b : Int) * 4 - a), .slice p n cap] W fun e w' => e = .returned (((holdC s (b % s.D) (b / s.D)).overlay ((b : Int) * 4 - a) n f).val) ∧ Below W.heap.size W w') := fun W hW => overlay_any _ _ p n cap f W (by omega) (by omega) hW
  rw [HE.out] at HOV
  clear h hd he hbl HE
  generalize holdC s (b % s.D) (b / s.D) = cl at *
  generalize b % s.D = c at *
  generalize b / s.D = r at *
  unfold C4.val at HHO HOV
  go_enter Tryz.func80, Tryz.ntmps80
  go_wp2_with fail
  refine (HPL.out _ HH.out).mono ?_
  rintro e w1 ⟨rfl, q, rfl⟩
  have h1 := HH.out.drewN q
  have k1 : Below w.heap.size w (w.drewN q) := below_drewN (Below.refl _ _) q
  generalize w.drewN q = w1 at *
  go_wp2_with fail
  refine (HHO.out _ h1).mono ?_
  rintro e w2 ⟨rfl, k2⟩
  have K2 : Below w.heap.size w w2 := k1.trans (k2.mono k1.size)
  have K3 : Below w.heap.size w (w2.alloc (.cells #[.int .u8 cl.b0, .int .u8 cl.b1, .int .u8 cl.b2, .int .u8 cl.b3] 75)) := K2.alloc K2.size _
  have B3 : Hid (BoxAt (w2.alloc (.cells #[.int .u8 cl.b0, .int .u8 cl.b1, .int .u8 cl.b2, .int .u8 cl.b3] 75)) w2.heap.size cl) := BoxAt.new _ _ _ rfl
  clear h1 k1 k2
  go_wp2_with fail
  generalize w2.alloc (.cells #[.int .u8 cl.b0, .int .u8 cl.b1, .int .u8 cl.b2, .int .u8 cl.b3] 75) = w3 at *
  clear K2
  generalize w2.heap.size = xb at *
  refine (HOV.out _ (HD.out.below K3 (Nat.le_refl _))).mono ?_
  rintro e w4 ⟨rfl, k4⟩
  have K4 : Below w.heap.size w w4 := K3.trans (k4.mono K3.size)
  obtain ⟨y0, y1, y2, y3⟩ := (B3.out.below k4).cells
  have hyl := (B3.out.below k4).lt
  clear k4
  have heq : ∀ w, (Op.equalIn 10000 75 (.agg #[.int .u8 cl.b0, .int .u8 cl.b1, .int .u8 cl.b2, .int .u8 cl.b3]) (.agg #[.int .u8 cl.b0, .int .u8 cl.b1, .int .u8 cl.b2, .int .u8 cl.b3])).run Tryz.prog w = .ok true w := fun w => by rw [eqCell]; simp
  go_wp2_with fail
  go_ret
  exact ⟨rfl, K4.alloc K4.size _⟩
theorem BytesAt.kept {S : Nat → Prop} {w w' : World} {a : Option Addr} {n : Nat} {f : Nat → Nat} (h : BytesAt w a n f) (hk : Kept S w w') (hS : ∀ b o, a = some ⟨b, o, none⟩ → ¬ S b) : BytesAt w' a n f := by
  intro i hi
  obtain ⟨b, o, e, hc, hl⟩ := h i hi
  exact ⟨b, o, e, hk.cell (p := ⟨b, _, none⟩) (hS b o e) hc, hl⟩
set_option maxRecDepth 100000 in
set_option maxHeartbeats 8000000 in
theorem writeBlock_diff (hb : Nat) (s : St) (b a : Nat) (p : Option Addr) (n cap : Nat) (f : Nat → Nat) (w : World) (h : HoardIn w hb s) (hup : s.aux = aux0) (hd : BytesAt w p n f) (hbl : b < s.D * s.R) (ha : a ≤ 96) (hn : n ≤ 96) (hst : s.steps ≤ 4611686018427387904)
    (he : abNew s b a n f ≠ holdC s (b % s.D) (b / s.D)) (hok : (abNew s b a n f).ok) :
    Calls Tryz.prog 80 #[.pointer (some ⟨hb, 0, none⟩), .int .i64 b, .int .i64 a, .slice p n cap] w fun e w' => WBPost hb s w b a n f e w' := by
  have hD := h.ok.D4
  have hD1 := h.ok.D1
  have hR := h.ok.R6
  have hb24 : b < 24 := Nat.lt_of_lt_of_le hbl (Nat.mul_le_mul hD hR)
  have hc4 : b % s.D < 4 := by have := Nat.mod_lt b (show 0 < s.D by omega); omega
  have hr6 : b / s.D < 6 := by
    have : b / s.D < s.R := Nat.div_lt_of_lt_mul hbl
    omega
  have HH : Hid (HoardIn w hb s) := h
  have HD : Hid (BytesAt w p n f) := hd
  have hP := h.ok.P2
  have hok1 := holdC_ok h.ok (b % s.D) (b / s.D)
  have HPL : Hid (∀ W, HoardIn W hb s → Calls Tryz.prog 66 #[.pointer (some ⟨hb, 0, none⟩), .int .i64 b] W fun e w' => e = .returned (.tuple #[.int .i64 (b % s.D : Nat), .int .i64 (b / s.D : Nat)]) ∧ ∃ n, w' = W.drewN n) := fun W hW => place_any hb s b W hW (by omega)
  have HHO : Hid (∀ W, HoardIn W hb s → Calls Tryz.prog 67 #[.pointer (some ⟨hb, 0, none⟩), .int .i64 (b % s.D : Nat), .int .i64 (b / s.D : Nat)] W fun e w' => e = .returned (holdC s (b % s.D) (b / s.D)).val ∧ Below W.heap.size W w') := fun W hW => holds_any hb s _ _ W hW hc4 hr6
  have HOV : Hid (∀ W, BytesAt W p n f → Calls Tryz.prog 105 #[(holdC s (b % s.D) (b / s.D)).val, .int .i64 ((b : Int) * 4 - a), .slice p n cap] W fun e w' => e = .returned (((holdC s (b % s.D) (b / s.D)).overlay ((b : Int) * 4 - a) n f).val) ∧ Below W.heap.size W w') := fun W hW => overlay_any _ _ p n cap f W (by omega) (by omega) hW
  have HOV : Hid (∀ W, BytesAt W p n f → Calls Tryz.prog 105 #[(holdC s (b % s.D) (b / s.D)).val, .int .i64 ((b : Int) * 4 - a), .slice p n cap] W fun e w' => e = .returned ((abNew s b a n f).val) ∧ Below W.heap.size W w') := HOV
  have HADD : Hid (∀ W, Calls Tryz.prog 108 #[(holdC s (b % s.D) (b / s.D)).val, (abNew s b a n f).val] W fun e w' => e = .returned ((holdC s (b % s.D) (b / s.D)).xor (abNew s b a n f)).val ∧ Below W.heap.size W w') := fun W => Add_any _ _ W hok1 hok
  have HX : Hid (((holdC s (b % s.D) (b / s.D)).xor (abNew s b a n f)).ok) := C4.xor_ok hok1 hok
  have HOKN : Hid ((abNew s b a n f).ok) := hok
  have HTK : Hid (∀ W t, HoardIn W hb t → t.toAb = s.toAb.addSteps 1 → Calls Tryz.prog 107 #[.pointer (some ⟨hb, 0, none⟩), .int .i64 (b % s.D : Nat), .int .i64 (b / s.D : Nat)] W fun e w' => ∃ v, e = .returned v ∧ IntsAt w' W.heap.size v (takersL s (b % s.D) (b / s.D)) ∧ Below W.heap.size W w') := fun W t hW ht => by
    have := takers_any hb t (b % s.D) (b / s.D) W hW (by omega) hr6
    rw [show takersL t.toAb (b % s.D) (b / s.D) = takersL s.toAb (b % s.D) (b / s.D) by rw [ht, takers_addSteps]] at this
    exact this
  have HUP : Hid (s.aux = aux0) := hup
  have HNN : Hid (blockN s b a n f = 2 + (takersL s (b % s.D) (b / s.D)).length) := blockN_ne he
  have HDW : Hid (∀ j, j ≠ 0 → abDown s b a n f j = ((abTakes s (b % s.D) (b / s.D) (abNew s b a n f) ((holdC s (b % s.D) (b / s.D)).xor (abNew s b a n f)) (takersL s (b % s.D) (b / s.D))).addSteps j).setBrk none) := fun j hj => abDown_succ hD1 he j hj
  have HBL : Hid (abBlock s b a n f = (abTakes s (b % s.D) (b / s.D) (abNew s b a n f) ((holdC s (b % s.D) (b / s.D)).xor (abNew s b a n f)) (takersL s (b % s.D) (b / s.D))).addSteps (2 + (takersL s (b % s.D) (b / s.D)).length)) := block_takes s b a n f hD1 he
  have HSO : Hid (∀ d ∈ takersL s (b % s.D) (b / s.D), d = b % s.D ∨ (s.D ≤ d ∧ d < s.D + s.P)) := takers_sort s _ _
  have hTL := takers_len s (b % s.D) (b / s.D)
  have HBB : Hid (b < s.D * s.R) := hbl
  have HCE : Hid (b % s.D = b % s.D) := rfl
  have HRE : Hid (b / s.D = b / s.D) := rfl
  generalize takersL s (b % s.D) (b / s.D) = TL at *
  generalize (holdC s (b % s.D) (b / s.D)).xor (abNew s b a n f) = x at *
  generalize abNew s b a n f = nw at *
  clear h hd hbl hup
  generalize holdC s (b % s.D) (b / s.D) = cl at *
  generalize hcc : b % s.D = c at HPL HHO HOV HTK HDW HBL HSO hc4
  generalize hrr : b / s.D = r at HPL HHO HOV HTK HDW HBL HSO hr6
  have HCC : Hid (b % s.D = c) := hcc
  have HRR : Hid (b / s.D = r) := hrr
  clear hcc hrr HCE HRE
  unfold C4.val at HHO HOV HADD
  go_enter Tryz.func80, Tryz.ntmps80
  go_wp2_with fail
  refine (HPL.out _ HH.out).mono ?_
  rintro e w1 ⟨rfl, q, rfl⟩
  have h1 := HH.out.drewN q
  have k1 : Below w.heap.size w (w.drewN q) := below_drewN (Below.refl _ _) q
  generalize w.drewN q = w1 at *
  go_wp2_with fail
  refine (HHO.out _ h1).mono ?_
  rintro e w2 ⟨rfl, k2⟩
  have K2 : Below w.heap.size w w2 := k1.trans (k2.mono k1.size)
  have K3 : Below w.heap.size w (w2.alloc (.cells #[.int .u8 cl.b0, .int .u8 cl.b1, .int .u8 cl.b2, .int .u8 cl.b3] 75)) := K2.alloc K2.size _
  have B3 : Hid (BoxAt (w2.alloc (.cells #[.int .u8 cl.b0, .int .u8 cl.b1, .int .u8 cl.b2, .int .u8 cl.b3] 75)) w2.heap.size cl) := BoxAt.new _ _ _ rfl
  clear h1 k1 k2
  go_wp2_with fail
  generalize w2.alloc (.cells #[.int .u8 cl.b0, .int .u8 cl.b1, .int .u8 cl.b2, .int .u8 cl.b3] 75) = w3 at *
  have hxb : w.heap.size ≤ w2.heap.size := K2.size
  clear K2
  generalize w2.heap.size = xb at *
  refine (HOV.out _ (HD.out.below K3 (Nat.le_refl _))).mono ?_
  rintro e w4 ⟨rfl, k4⟩
  have K4 : Below w.heap.size w w4 := K3.trans (k4.mono K3.size)
  obtain ⟨y0, y1, y2, y3⟩ := (B3.out.below k4).cells
  have hyl := (B3.out.below k4).lt
  have B4 := B3.out.below k4
  clear k4
  have hneq : ((nw.b0 : Int) == (cl.b0 : Int) && (nw.b1 : Int) == (cl.b1 : Int) && (nw.b2 : Int) == (cl.b2 : Int) && (nw.b3 : Int) == (cl.b3 : Int)) = false := by
    rw [Bool.eq_false_iff]
    intro hh
    simp only [Bool.and_eq_true, beq_iff_eq] at hh
    refine he ?_
    obtain ⟨n0, n1, n2, n3⟩ := nw
    obtain ⟨c0, c1, c2, c3⟩ := cl
    simp only at hh
    simp only [C4.mk.injEq]
    omega
  have heq : ∀ w, (Op.equalIn 10000 75 (.agg #[.int .u8 nw.b0, .int .u8 nw.b1, .int .u8 nw.b2, .int .u8 nw.b3]) (.agg #[.int .u8 cl.b0, .int .u8 cl.b1, .int .u8 cl.b2, .int .u8 cl.b3])).run Tryz.prog w = .ok false w := fun w => by rw [eqCell, hneq]
  clear hneq he hok hok1
  have H4 : Hid (HoardIn w4 hb s) := HH.out.below K4
  have hlt4 := H4.out.row.lt
  have HK4 : Hid (Below w.heap.size w w4) := K4
  have HB4 : Hid (BoxAt w4 xb cl) := B4
  clear K4 K3 B3 B4 hyl y0 y1 y2 y3
  have H5 : Hid (HoardIn (w4.alloc (.cells #[.int .u8 nw.b0, .int .u8 nw.b1, .int .u8 nw.b2, .int .u8 nw.b3] 75)) hb s) := H4.out.below ((Below.refl _ _).alloc (Nat.le_refl _) _)
  have K5 : Hid (Below w.heap.size w (w4.alloc (.cells #[.int .u8 nw.b0, .int .u8 nw.b1, .int .u8 nw.b2, .int .u8 nw.b3] 75))) := HK4.out.alloc HK4.out.size _
  have B5 : Hid (BoxAt (w4.alloc (.cells #[.int .u8 nw.b0, .int .u8 nw.b1, .int .u8 nw.b2, .int .u8 nw.b3] 75)) w4.heap.size nw) := BoxAt.new _ _ _ rfl
  have C5 : Hid (BoxAt (w4.alloc (.cells #[.int .u8 nw.b0, .int .u8 nw.b1, .int .u8 nw.b2, .int .u8 nw.b3] 75)) xb cl) := HB4.out.alloc _
  obtain ⟨y0, y1, y2, y3⟩ := HB4.out.cells
  have hyl := HB4.out.lt
  go_wp2_with fail
  generalize w4.alloc (.cells #[.int .u8 nw.b0, .int .u8 nw.b1, .int .u8 nw.b2, .int .u8 nw.b3] 75) = w5 at *
  have hab : w.heap.size ≤ w4.heap.size := HK4.out.size
  generalize w4.heap.size = ab at *
  clear y0 y1 y2 y3 hyl heq H4 HB4 HK4 hlt4 HPL HHO HOV HD
  by_cases hbk : s.brk = some s.steps
  · refine (step_down hb s w5 H5.out hbk).mono ?_
    rintro e w6 ⟨rfl, went⟩
    have HWE : Hid (WentIn hb s w5 s.goDown w6) := went
    have HBK : Hid (s.brk = some s.steps) := hbk
    clear went hbk
    go_wp2_with fail
    go_ret
    refine ⟨s.goDown, (WentIn.below HH.out K5.out).trans HWE.out, .inr ⟨rfl, ?_, 0, brkHit_some HBK.out (by rw [HNN.out]; omega), down0 HWE.out.at' HUP.out b a n f⟩⟩
    intro g hg
    have hx : s.goDown.aux.tv = .slice none 0 0 := by show s.aux.tv = _; rw [HUP.out]; rfl
    rw [hx] at hg; simp [Value.ownBlock] at hg
  · refine (step_go hb s w5 H5.out hbk (by omega)).mono ?_
    rintro e w6 ⟨rfl, went⟩
    have HWE : Hid (WentIn hb s w5 (s.setSteps (s.steps + 1)) w6) := went
    have HBK : Hid (s.brk ≠ some s.steps) := hbk
    have B6 : Hid (BoxAt w6 ab nw) := HWE.out.kept.row (fun hf => by have := HH.out.foot_lt hf; omega) B5.out
    have C6 : Hid (BoxAt w6 xb cl) := HWE.out.kept.row (fun hf => by have := HH.out.foot_lt hf; omega) C5.out
    clear went hbk B5 C5
    go_wp2_with fail
    refine (HTK.out w6 (s.setSteps (s.steps + 1)) HWE.out.at' rfl).mono ?_
    rintro e w7 ⟨v, rfl, hints, k7⟩
    obtain ⟨tp, tc, rfl, htc⟩ := hints.slice
    have HIN : Hid (IntsAt w7 w6.heap.size (.slice tp TL.length tc) TL) := hints
    have HK7 : Hid (Below w6.heap.size w6 w7) := k7
    have B7 : Hid (BoxAt w7 ab nw) := B6.out.below k7
    have C7 : Hid (BoxAt w7 xb cl) := C6.out.below k7
    obtain ⟨z0, z1, z2, z3⟩ := B7.out.cells
    obtain ⟨t0, t1, t2, t3⟩ := C7.out.cells
    have hzl := B7.out.lt
    have htl := C7.out.lt
    clear hints k7 htc B6 C6
    generalize htn : TL.length = tn at *
    have HTN : Hid (TL.length = tn) := htn
    clear htn
    have HS7 : Hid (HoardIn w7 hb (s.setSteps (s.steps + 1))) := HWE.out.at'.below HK7.out
    have hlt7 := HS7.out.row.lt
    go_wp2_with fail
    go_region_with ((go_at_call 108; go_must (refine (HADD.out _).mono ?_); rintro e w8 ⟨rfl, k8⟩; have K8 : Below w7.heap.size w7 w8 := below_from k8 rfl rfl rfl rfl; have hlt8 := (HS7.out.below K8).row.lt; obtain ⟨r0, r1, r2, r3⟩ := (B7.out.below K8).cells; obtain ⟨m0, m1, m2, m3, m4, m5, m6, m7, m8, m9, m10⟩ := (HS7.out.below K8).noteRow; obtain ⟨q0, q1, q2, q3, q4, q5, q6, q7, q8, q9, q10⟩ := (HS7.out.below K8).noteFrz))
    all_goals
      have N9 : NotedAt (w8.setCells hb 197 (noteCells b nw x (.slice tp tn tc)).toList) hb ((s.setSteps (s.steps + 1)).setAux (noteX b nw x (.slice tp tn tc) TL 0) s.brk) := by
        refine noted_new HS7.out ?_ HIN.out (fun k hk => ?_) K8 HBB.out HOKN.out HX.out (by rw [HTN.out]; omega) (fun d hd => by have h1 := HSO.out d hd; rw [← HCC.out] at h1; exact h1)
        · show s.aux.down = false
          rw [HUP.out]; rfl
        · have h1 := HH.out.foot_lt (k := k) hk
          have h2 := HWE.out.kept.size
          have h3 := K5.out.size
          omega
      have W9 : WentIn hb s w ((s.setSteps (s.steps + 1)).setAux (noteX b nw x (.slice tp tn tc) TL 0) s.brk) (w8.setCells hb 197 (noteCells b nw x (.slice tp tn tc)).toList) := by
        refine ((WentIn.below HH.out K5.out).trans HWE.out).trans ⟨N9.toHoardIn, ?_, fun k hk => .inl hk⟩
        exact kept_setCells _ _ _ _ (.inl rfl) (Kept.of_below (HK7.out.trans (K8.mono HK7.out.size)))
      have N9' : Hid _ := N9
      have W9' : Hid _ := W9
      show Exit.then _ _ Exit.normal _ (w8.setCells hb 197 (noteCells b nw x (.slice tp tn tc)).toList)
      clear N9 W9 K8 k8 hlt8 r0 r1 r2 r3 m0 m1 m2 m3 m4 m5 m6 m7 m8 m9 m10 q0 q1 q2 q3 q4 q5 q6 q7 q8 q9 q10 z0 z1 z2 z3 t0 t1 t2 t3 hzl htl hlt7
      generalize w8.setCells hb 197 (noteCells b nw x (.slice tp tn tc)).toList = w9 at *
      have HTV : Hid (∀ g, (Value.slice tp tn tc).ownBlock = some g → w.heap.size ≤ g) := fun g hg => by
        have h1 := (World.ownsRow.lt HIN.out g hg).1
        have h2 := HWE.out.kept.size
        have h3 := K5.out.size
        omega
      clear B7 C7 HS7 HK7 HIN HTK HADD H5 K5 HWE HOV
      go_wp2_with fail
      go_loopw [14] (fun i wr => ∃ (k : Nat) (s3 : St), k ≤ tn ∧ i = .int .i64 k ∧ Hid (s3.toAb = (abTakes s.toAb c r nw x (TL.take k)).addSteps (1 + k)) ∧ Hid (s3.aux = noteX b nw x (.slice tp tn tc) TL k) ∧ Hid (NotedAt wr hb s3) ∧ Hid (∀ i, i < 1 + k → s.brk ≠ some (s.steps + i)) ∧ Hid (WentIn hb s w s3 wr)) (fun i _ => tn - (intOf i).toNat)
      case atStart =>
        refine ⟨0, (s.setSteps (s.steps + 1)).setAux (noteX b nw x (.slice tp tn tc) TL 0) s.brk, by omega, rfl, (show _ = _ from rfl), (show _ = _ from rfl), N9', ?_, W9'⟩
        intro i hi
        have : i = 0 := by omega
        subst this; exact HBK.out
      case round =>
        obtain ⟨k, s3, hk, rfl, hab3, hax3, hN, hnb, hW⟩ := hrel
        have htp := takes_props s.toAb c r nw x (TL.take k)
        have hst3 : s3.steps = s.steps + (1 + k) := by
          show s3.toAb.steps = _
          rw [hab3.out]
          show (abTakes s.toAb c r nw x (TL.take k)).steps + (1 + k) = _
          rw [htp.2.2.1]
        have HBK3 : Hid (s3.brk = s.brk) := by
          show s3.toAb.brk = _
          rw [hab3.out]
          exact htp.2.2.2
        have HD3 : Hid (s3.D = s.D) := by
          show s3.toAb.D = _
          rw [hab3.out]
          exact htp.1.D
        have HST3 : Hid (s3.steps = s.steps + (1 + k)) := hst3
        clear htp hst3
        by_cases hbk : s.brk = some (s.steps + (1 + k))
        · have HBK1 : Hid (s.brk = some (s.steps + (1 + k))) := hbk
          have HST : Hid (∀ W, HoardIn W hb s3 → Calls Tryz.prog 106 #[.pointer (some ⟨hb, 0, none⟩)] W fun e w' => e = .returned (.bool false) ∧ WentIn hb s3 W s3.goDown w') := fun W hW => step_down hb s3 W hW (by rw [HBK3.out, HST3.out]; exact HBK1.out)
          have HFIN : Hid (∀ w', WentIn hb s3 wr s3.goDown w' → WBPost hb s w b a n f (.returned (.bool false)) w') := by
            intro w' hw
            refine ⟨s3.goDown, hW.out.trans hw, .inr ⟨rfl, ?_, 1 + k, brkHit_some HBK1.out (by rw [HNN.out]; omega), ⟨hN.out.goDown hw, rfl, ?_⟩⟩⟩
            · intro g hg
              refine HTV.out g ?_
              have hx : s3.goDown.aux.tv = .slice tp tn tc := by show s3.aux.tv = _; rw [hax3.out]; rfl
              rw [← hx]; exact hg
            · exact (down_gives hab3.out hax3.out HCC.out HRR.out).trans (HDW.out (1 + k) (by omega)).symm
          clear hbk
          by_cases hlt : k < tn
          · have hlti : (k : Int) < (tn : Int) := by omega
            go_wp2_with fail
            refine (HST.out _ hN.out.toHoardIn).mono ?_
            rintro e w10 ⟨rfl, went⟩
            go_wp2_with fail
            go_ret
            exact HFIN.out _ went
          · have hlti : ¬ ((k : Int) < (tn : Int)) := by omega
            go_wp2_with fail
            refine (HST.out _ hN.out.toHoardIn).mono ?_
            rintro e w10 ⟨rfl, went⟩
            go_wp2_with fail
            go_ret
            exact HFIN.out _ went
        · have HBK1 : Hid (∀ i, i < 1 + (k + 1) → s.brk ≠ some (s.steps + i)) := by
            intro i hi
            by_cases e : i = 1 + k
            · rw [e]; exact hbk
            · exact hnb.out i (by omega)
          have HST : Hid (∀ W, HoardIn W hb s3 → Calls Tryz.prog 106 #[.pointer (some ⟨hb, 0, none⟩)] W fun e w' => e = .returned (.bool true) ∧ WentIn hb s3 W (s3.setSteps (s3.steps + 1)) w') := fun W hW => step_go hb s3 W hW (by rw [HBK3.out, HST3.out]; exact hbk) (by rw [HST3.out]; omega)
          clear hbk
          by_cases hlt : k < tn
          · have hlti : (k : Int) < (tn : Int) := by omega
            have HTI : Hid (∀ W, HoardIn W hb (s3.setSteps (s3.steps + 1)) → Calls Tryz.prog 89 #[.pointer (some ⟨hb, 0, none⟩), .int .i64 (TL.getD k 0 : Nat)] W fun e w' => ∃ s', e = .returned (.tuple #[]) ∧ s'.toAb = (abTakes s.toAb c r nw x (TL.take (k + 1))).addSteps (1 + (k + 1)) ∧ s'.aux = noteX b nw x (.slice tp tn tc) TL k ∧ WentIn hb (s3.setSteps (s3.steps + 1)) W s' w') := by
              intro W hW2
              have hm := getD_mem TL k (by rw [HTN.out]; omega)
              have hx4 : (s3.setSteps (s3.steps + 1)).aux = noteX b nw x (.slice tp tn tc) TL k := hax3.out
              have hs : TL.getD k 0 = (s3.setSteps (s3.steps + 1)).aux.blk % (s3.setSteps (s3.steps + 1)).D ∨ ((s3.setSteps (s3.steps + 1)).D ≤ TL.getD k 0 ∧ TL.getD k 0 < (s3.setSteps (s3.steps + 1)).D + (s3.setSteps (s3.steps + 1)).P) := hN.out.sort (TL.getD k 0) (by rw [hax3.out]; exact hm)
              refine (takeIn_any hb (s3.setSteps (s3.steps + 1)) (TL.getD k 0) W hW2 hN.out.blk hN.out.aft hN.out.chg hs).mono fun e w' ⟨s', h1, h2, h3, h4⟩ => ⟨s', h1, ?_, h3.trans hx4, h4⟩
              rw [h2, hx4]
              show abTake (s3.toAb.addSteps 1) (b % s3.D) (b / s3.D) nw x (TL.getD k 0) = _
              rw [HD3.out, HCC.out, HRR.out]
              exact loop_ab hab3.out (by rw [HTN.out]; omega)
            go_wp2_with fail
            refine (HST.out _ hN.out.toHoardIn).mono ?_
            rintro e w10 ⟨rfl, went⟩
            have hN4 : NotedAt w10 hb (s3.setSteps (s3.steps + 1)) := hN.out.went went rfl rfl rfl rfl
            have hti := hN4.tk
            rw [show (s3.setSteps (s3.steps + 1)).aux = noteX b nw x (.slice tp tn tc) TL k from hax3.out] at hti
            obtain ⟨p', cap', e1, hc⟩ := IntsAt.slice hti
            obtain ⟨tb, e2, hcell⟩ := hc k (by show k < TL.length; rw [HTN.out]; omega)
            have e3 : tp = some ⟨tb, 0, none⟩ := by
              have : (Value.slice tp tn tc) = Value.slice p' TL.length cap' := e1
              simp only [Value.slice.injEq] at this
              rw [this.1, e2]
            clear e1 e2 hc hti
            subst e3
            have HWE : Hid (WentIn hb s3 wr (s3.setSteps (s3.steps + 1)) w10) := went
            have HN4 : Hid (NotedAt w10 hb (s3.setSteps (s3.steps + 1))) := hN4
            have htb : tb < w10.heap.size := block_lt_of_cell hcell
            replace hcell : w10.cell? ⟨tb, k, none⟩ = some (.int .i64 (TL.getD k 0 : Nat)) := hcell
            clear went hN4
            generalize hdd : TL.getD k 0 = dd at *
            clear hdd
            go_wp2_with fail
            refine (HTI.out _ HN4.out.toHoardIn).mono ?_
            rintro e w11 ⟨s5, rfl, hab5, hax5, went5⟩
            have tp5 := takes_props s.toAb c r nw x (TL.take (k + 1))
            have tp3 := takes_props s.toAb c r nw x (TL.take k)
            have s5s : SameAb s.toAb s5.toAb := by rw [hab5]; exact ⟨tp5.1.D, tp5.1.P, tp5.1.R, tp5.1.M, tp5.1.brk⟩
            have s3s : SameAb s.toAb s3.toAb := by rw [hab3.out]; exact ⟨tp3.1.D, tp3.1.P, tp3.1.R, tp3.1.M, tp3.1.brk⟩
            have hN5 : NotedAt w11 hb s5 := HN4.out.went went5 (hax5.trans hax3.out.symm) (s5s.D.trans s3s.D.symm) (s5s.P.trans s3s.P.symm) (s5s.R.trans s3s.R.symm)
            have hnd := hN5.toHoardIn.notedAt.2.2
            rw [hax5] at hnd
            replace hnd : w11.cell? ⟨hb, 207, none⟩ = some (.int .i64 (k : Nat)) := hnd
            have hnf := hN5.row.frozen 207
            have hlt11 := hN5.row.lt
            have HN5 : Hid (NotedAt w11 hb s5) := hN5
            have HAB5 : Hid (s5.toAb = (abTakes s.toAb c r nw x (TL.take (k + 1))).addSteps (1 + (k + 1))) := hab5
            have HAX5 : Hid (s5.aux = noteX b nw x (.slice (some ⟨tb, 0, none⟩) tn tc) TL k) := hax5
            have HW5 : Hid (WentIn hb s w s5 w11) := (hW.out.trans HWE.out).trans went5
            have htn3 : tn ≤ 3 := by omega
            clear hab5 hax5 went5 tp5 tp3 s5s s3s hN5 hcell htb
            go_wp2_with fail
            refine ⟨⟨k + 1, s5.setAux { s5.aux with dn := k + 1 } s5.brk, by omega, by go_num, HAB5, ?_, ?_, HBK1, ?_⟩, by simp [intOf]; omega⟩
            · show _ = _
              show ({ s5.aux with dn := k + 1 } : Aux) = _
              rw [HAX5.out]; rfl
            · exact HN5.out.setDn (k + 1) (by rw [HAX5.out]; show k + 1 ≤ TL.length; rw [HTN.out]; omega)
            · exact HW5.out.trans ⟨HN5.out.toHoardIn.setDn (k + 1), (Kept.refl _ _).setCell (.inl (.inl rfl)) _, fun k hk => .inl hk⟩
          · have hlti : ¬ ((k : Int) < (tn : Int)) := by omega
            have hke : k = tn := by omega
            have HKE : Hid (k = tn) := hke
            clear hke
            go_wp2_with fail
            refine (HST.out _ hN.out.toHoardIn).mono ?_
            rintro e w10 ⟨rfl, went⟩
            have hlt10 := went.at'.row.lt
            obtain ⟨m0, m1, m2, m3, m4, m5, m6, m7, m8, m9, m10⟩ := went.at'.noteRow
            obtain ⟨q0, q1, q2, q3, q4, q5, q6, q7, q8, q9, q10⟩ := went.at'.noteFrz
            have hdw : (s3.setSteps (s3.steps + 1)).aux.down = false := by show s3.aux.down = false; rw [hax3.out]; rfl
            have HUN : Hid (HoardIn (w10.setCells hb 197 (noteCells 0 C4.zero C4.zero (.slice none 0 0)).toList) hb ((s3.setSteps (s3.steps + 1)).setAux aux0 (s3.setSteps (s3.steps + 1)).brk)) := went.at'.unnote hdw
            have HKU : Hid (Kept (Foot hb s3) wr (w10.setCells hb 197 (noteCells 0 C4.zero C4.zero (.slice none 0 0)).toList)) := kept_setCells _ _ _ _ (.inl rfl) went.kept
            have HFU : Hid (∀ k, Foot hb (s3.setSteps (s3.steps + 1)) k → Foot hb s3 k ∨ wr.heap.size ≤ k) := went.foot
            clear went hdw
            go_wp2_with fail
            go_ret
            refine ⟨(s3.setSteps (s3.steps + 1)).setAux aux0 (s3.setSteps (s3.steps + 1)).brk, hW.out.trans ⟨HUN.out, HKU.out, fun k hk => HFU.out k hk⟩, .inl ⟨rfl, brkHit_none (fun i hi => HBK1.out i (by rw [HNN.out] at hi; have := HKE.out; omega)), ?_, HUP.out.symm⟩⟩
            show s3.toAb.addSteps 1 = _
            rw [HBL.out, hab3.out, HKE.out, List.take_of_length_le (Nat.le_of_eq HTN.out)]
            simp only [Ab.addSteps]
            congr 1
            omega
/-- One block. -/
theorem writeBlock_any (hb : Nat) (s : St) (b a : Nat) (p : Option Addr) (n cap : Nat) (f : Nat → Nat) (w : World) (h : HoardIn w hb s) (hup : s.aux = aux0) (hd : BytesAt w p n f) (hbl : b < s.D * s.R) (ha : a ≤ 96) (hn : n ≤ 96) (hst : s.steps ≤ 4611686018427387904) :
    Calls Tryz.prog 80 #[.pointer (some ⟨hb, 0, none⟩), .int .i64 b, .int .i64 a, .slice p n cap] w fun e w' => WBPost hb s w b a n f e w' := by
  by_cases he : abNew s b a n f = holdC s (b % s.D) (b / s.D)
  · refine (writeBlock_same hb s b a p n cap f w h hd hbl ha hn he).mono fun e w' ⟨h1, h2⟩ => ⟨s, WentIn.below h h2, .inl ⟨h1, brkHit_none (fun i hi => ?_), ?_, rfl⟩⟩
    · unfold blockN at hi
      rw [if_pos ((C4.beq_iff _ _).2 he)] at hi
      omega
    · unfold abBlock
      rw [if_pos ((C4.beq_iff _ _).2 he)]
  · refine writeBlock_diff hb s b a p n cap f w h hup hd hbl ha hn hst he ?_
    exact overlay_ok (holdC_ok h.ok _ _) (fun i hi => by obtain ⟨_, _, _, _, hl⟩ := hd i hi; exact hl)
end Go.Proofs.YtfpoiikhhjdpdaaGreat
