import Derived.Test.YtfpoiikhhjdpdaaGreatJ28
/- hoardlaw.moved: Write. -/
namespace Go.Proofs.YtfpoiikhhjdpdaaGreat
open Go.RowKit
set_option linter.unusedVariables false
attribute [local go_sem ↓] Go.wp_at_zero Go.wp_at_succ
/-- The cells that the walk of Write reads. -/
def WCells (pb x y hs : Nat) (b : Int) (S : ByteArray) (W : World) : Prop :=
  W.cell? ⟨pb, 0, none⟩ = some (.pointer (some ⟨x, 0, none⟩)) ∧ W.cell? ⟨pb, 1, none⟩ = some (.pointer (some ⟨y, 0, none⟩)) ∧ W.cell? ⟨hs, 2, none⟩ = some (.int .i64 b) ∧ W.cell? ⟨hs, 6, none⟩ = some (.string S)
theorem WCells.of_block {pb x y hs : Nat} {b : Int} {S : ByteArray} {W W' : World} (h : WCells pb x y hs b S W) (h1 : W'.heap[pb]? = W.heap[pb]?) (h2 : W'.heap[hs]? = W.heap[hs]?) : WCells pb x y hs b S W' := by
  obtain ⟨a1, a2, a3, a4⟩ := h
  exact ⟨by rw [World.cell?_of_block (w := W) h1]; exact a1, by rw [World.cell?_of_block (w := W) h1]; exact a2, by rw [World.cell?_of_block (w := W) h2]; exact a3, by rw [World.cell?_of_block (w := W) h2]; exact a4⟩
theorem WCells.lt {pb x y hs : Nat} {b : Int} {S : ByteArray} {W : World} (h : WCells pb x y hs b S W) : pb < W.heap.size ∧ hs < W.heap.size := ⟨block_lt_of_cell h.1, block_lt_of_cell h.2.2.1⟩
theorem WCells.kept {pb x y hs : Nat} {b : Int} {S : ByteArray} {W W' : World} {F : Nat → Prop} (h : WCells pb x y hs b S W) (k : Kept F W W') (h1 : ¬ F pb) (h2 : ¬ F hs) : WCells pb x y hs b S W' := h.of_block (k.block pb h.lt.1 h1) (k.block hs h.lt.2 h2)
theorem WCells.below {pb x y hs : Nat} {b : Int} {S : ByteArray} {W W' : World} (h : WCells pb x y hs b S W) (k : Below W.heap.size W W') : WCells pb x y hs b S W' := h.kept (Kept.of_below (S := fun _ => False) k) (fun h => h) (fun h => h)
/-- The program's half has written; the block of the bytes is none of its own. -/
def WXG (gb : Nat) (f : Int) (n : Nat) (g : Nat → Nat) (w : World) (x y : Nat) (q : PSt) (N : Nat) (v : Value) (w1 : World) : Prop :=
  ∃ s' a' left' dn', Mid w w1 x q.s s' a' dn' ∧ ¬ FootD x s' gb ∧ (∀ W p cap, RefIn W y q.a q.V q.left q.dn → BytesAt W p n g → (∀ b o, p = some ⟨b, o, none⟩ → ¬ RFoot y q.a q.V b) → Calls Tryz.prog 43 #[.pointer (some ⟨y, 0, none⟩), .int .i64 f, .slice p n cap] W (fun e w2 => e = .returned v ∧ ∃ V', RWent y q.a q.V W a' V' left' dn' w2)) ∧ ∀ V', PGood ⟨s', a', V', left', dn'⟩ N
theorem WXPost.pre {gb : Nat} {f : Int} {n : Nat} {g : Nat → Nat} {w W : World} {x y : Nat} {q : PSt} {N M : Nat} {v : Value} {w1 : World} (p : PairAt w x y q M) (k : Below w.heap.size w W) (hg : w.heap.size ≤ gb) (hg2 : gb < W.heap.size) (h : WXPost f n g W x y q N v w1) : WXG gb f n g w x y q N v w1 ∧ Kept (FootD x q.s) W w1 := by
  obtain ⟨s', a', left', dn', hm, hc, hgd⟩ := h
  refine ⟨⟨s', a', left', dn', ⟨hm.xu, hm.xd, (Kept.of_below k).trans' hm.kept (fun i hi => .inl hi), fun b hb => ?_⟩, fun hf => ?_, hc, hgd⟩, hm.kept⟩
  · rcases hm.foot b hb with h1 | h1
    · exact .inl h1
    · exact .inr (Nat.le_trans (Kept.of_below (S := fun _ => False) k).size h1)
  · rcases hm.foot gb hf with h1 | h1
    · have := p.lt (.inl h1); omega
    · omega
/-- The document's half from there. -/
theorem WXG.go {gb : Nat} {f : Int} {n : Nat} {g : Nat → Nat} {w : World} {x y : Nat} {q : PSt} {N M : Nat} {v : Value} {w1 w2 W : World} {pp : Option Addr} {cap : Nat} (p : PairAt w x y q M) (h : WXG gb f n g w x y q N v w1) (hg : w.heap.size ≤ gb) (k : Kept (fun b => b = gb) w1 w2) (k2 : Below w2.heap.size w2 W) (hd : BytesAt W pp n g) (hF : ∀ b o, pp = some ⟨b, o, none⟩ → w.heap.size ≤ b) :
    Calls Tryz.prog 43 #[.pointer (some ⟨y, 0, none⟩), .int .i64 f, .slice pp n cap] W (fun e w3 => e = .returned v ∧ (∃ q', PTurn w w3 x y q q' N) ∧ Kept (RFoot y q.a q.V) W w3) := by
  obtain ⟨s', a', left', dn', hm, hn, hc, hgd⟩ := h
  have kk : Kept (fun b => b = gb) w1 W := k.trans (Kept.of_below k2)
  refine (hc W pp cap (hm.ref p kk (fun i hi => by subst hi; exact hg)) hd (fun b o e hf => ?_)).mono ?_
  · have := hF b o e
    have := p.lt (.inr hf)
    omega
  · rintro e w3 ⟨rfl, V', hr⟩
    exact ⟨rfl, ⟨_, hm.join p kk (fun i hi => by subst hi; exact ⟨hg, hn⟩) hr (hgd V')⟩, hr.kept⟩
/-- What stands behind wide, behind the program's Write, and behind still. -/
structure WA (w : World) (S : ByteArray) (g cap : Nat) (w1 : World) : Prop where
  k : Below w.heap.size w w1
  own : OwnFn w1 5 1 (.slice (some ⟨g, 0, none⟩) (S.size + 1) cap) (S.size + 1) (wideF S)
  lo : w.heap.size < g
  hi : g < w1.heap.size
  cap : S.size + 1 ≤ cap
theorem WA.bytes {w w1 : World} {S : ByteArray} {g cap : Nat} (h : WA w S g cap w1) {W : World} (hh : W.heap = w1.heap) : BytesAt W (some ⟨g, 0, none⟩) S.size (byteOfS S) := by
  intro i hi
  obtain ⟨g', cap', e, _, _, hcell, _⟩ := h.own.slice (by omega)
  injection e with e1 _ _
  injection e1 with e1
  injection e1 with e1
  subst e1
  refine ⟨g, 0, rfl, ?_, byteOfS_lt S i⟩
  rw [Nat.zero_add, World.cell?_of_block (w := w1) (by rw [hh]), hcell i (by omega)]
  unfold wideF
  rw [if_pos hi]
theorem piece_wide {w W : World} {pb x y : Nat} {b : Int} {S : ByteArray} (hS : S.size ≤ 1100000) (k : Below w.heap.size w W) (hc : WCells pb x y w.heap.size b S W) :
    Calls Tryz.prog 40 #[.string S] W fun e w1 => ∃ g cap, e = .returned (.slice (some ⟨g, 0, none⟩) S.size cap) ∧ Hid (WA w S g cap w1) ∧ WCells pb x y w.heap.size b S w1 := by
  refine (wide_any S W hS).mono ?_
  rintro e w1 ⟨g, cap, rfl, ho, hg, hcap, hb⟩
  have := hc.lt.2
  exact ⟨g, cap, rfl, ⟨k.trans (hb.mono (Kept.of_below (S := fun _ => False) k).size), ho, by omega, ho.lt rfl, hcap⟩, hc.below hb⟩
theorem piece_x {w w1 W : World} {pb x y : Nat} {b : Int} {S : ByteArray} {g cap : Nat} {q : PSt} {M : Nat} (p : PairAt w x y q M) (hp : ¬ PFoot x y q pb) (hf : -9223372036854775808 ≤ b ∧ b ≤ 9223372036854775807) (hM : M ≤ 999999990000) (h : Hid (WA w S g cap w1)) (hc : WCells pb x y w.heap.size b S w1) (hh : W.heap = w1.heap) (ho : W.os = w1.os) (ht : W.tape = w1.tape) (hpp : W.output = w1.output) :
    Calls Tryz.prog 41 #[.pointer (some ⟨x, 0, none⟩), .int .i64 b, .slice (some ⟨g, 0, none⟩) S.size cap] W fun e w2 => ∃ z : Int, e = .returned (.int .i64 z) ∧ Hid (WXG g b S.size (byteOfS S) w x y q (M + 200) (.int .i64 z) w2 ∧ OwnFn w2 5 1 (.slice (some ⟨g, 0, none⟩) (S.size + 1) cap) (S.size + 1) (wideF S) ∧ w.heap.size < g ∧ S.size + 1 ≤ cap) ∧ WCells pb x y w.heap.size b S w2 := by
  have k0 : Below w1.heap.size w1 W := ⟨ho, ht, hpp, by rw [hh]; exact Nat.le_refl _, fun i _ => by rw [hh]⟩
  have kW : Below w.heap.size w W := h.out.k.trans (k0.mono (Kept.of_below (S := fun _ => False) h.out.k).size)
  have hcW : WCells pb x y w.heap.size b S W := hc.below k0
  have hgo := h.out.lo
  have hgi := h.out.hi
  refine (pair_write W x y q M b (some ⟨g, 0, none⟩) S.size cap (byteOfS S) (p.below kW) hf hM (h.out.bytes hh) (fun b o e hf => ?_)).mono ?_
  · injection e with e
    injection e with e
    subst e
    have := p.lt hf
    omega
  · rintro e w2 ⟨z, rfl, hx⟩
    obtain ⟨hx1, hx2⟩ := hx.pre (gb := g) p kW (by omega) (by rw [hh]; exact hgi)
    have hng : ¬ FootD x q.s g := fun hf => by have := p.lt (.inl hf); omega
    refine ⟨z, rfl, ⟨hx1, h.out.own.of_block (fun k hk => ?_), hgo, h.out.cap⟩, hcW.kept hx2 (fun hf => hp (.inl hf)) (fun hf => by have := p.lt (.inl hf); omega)⟩
    simp only [Value.ownBlock, Option.some.injEq] at hk
    subst hk
    rw [hx2.block g (by rw [hh]; exact hgi) hng, hh]
theorem piece_still {w w2 W : World} {pb x y : Nat} {b : Int} {S : ByteArray} {g cap : Nat} {X : World → Prop} (hS : S.size ≤ 1100000) (hpl : pb < w.heap.size) (h : Hid (X w2 ∧ OwnFn w2 5 1 (.slice (some ⟨g, 0, none⟩) (S.size + 1) cap) (S.size + 1) (wideF S) ∧ w.heap.size < g ∧ S.size + 1 ≤ cap)) (hc : WCells pb x y w.heap.size b S w2) (hh : W.heap = w2.heap) (ho : W.os = w2.os) (ht : W.tape = w2.tape) (hpp : W.output = w2.output) :
    Calls Tryz.prog 42 #[.slice (some ⟨g, 0, none⟩) S.size cap, .string S] W fun e w3 => e = .returned (.bool true) ∧ Hid (∃ u, X u ∧ w.heap.size < g ∧ Kept (fun b => b = g) u w3) ∧ WCells pb x y w.heap.size b S w3 := by
  obtain ⟨h1, h2, h3, h4⟩ := h.out
  refine (still_any S g cap W hS (h2.of_block (fun k _ => by rw [hh])) h4).mono ?_
  rintro e w3 ⟨rfl, hk⟩
  have k0 : Kept (fun b => b = g) w2 W := ⟨ho, ht, hpp, by rw [hh]; exact Nat.le_refl _, fun i _ _ => by rw [hh]⟩
  have kk := k0.trans hk
  exact ⟨rfl, ⟨w2, h1, h3, kk⟩, hc.kept kk (fun e => by omega) (fun e => by omega)⟩
theorem piece_y {w w3 w4 : World} {pb x y : Nat} {b : Int} {S : ByteArray} {g : Nat} {q : PSt} {M N : Nat} {z : Int} {cap : Nat} (p : PairAt w x y q M) (hp : ¬ PFoot x y q pb) (h : Hid (∃ u, WXG g b S.size (byteOfS S) w x y q N (.int .i64 z) u ∧ w.heap.size < g ∧ Kept (fun b => b = g) u w3)) (hc : WCells pb x y w.heap.size b S w3) (k4 : Below w3.heap.size w3 w4) (hd : BytesAt w4 (some ⟨w3.heap.size, 0, none⟩) S.size (byteOfS S)) :
    Calls Tryz.prog 43 #[.pointer (some ⟨y, 0, none⟩), .int .i64 b, .slice (some ⟨w3.heap.size, 0, none⟩) S.size cap] w4 fun e w5 => e = .returned (.int .i64 z) ∧ Hid (∃ q', PTurn w w5 x y q q' N) ∧ WCells pb x y w.heap.size b S w5 := by
  obtain ⟨u, h1, h2, h3⟩ := h.out
  have hlt := hc.lt.2
  refine (h1.go p (by omega) h3 k4 hd (fun b o e => ?_)).mono ?_
  · injection e with e
    injection e with e
    omega
  · rintro e w5 ⟨rfl, hq, hk⟩
    exact ⟨rfl, hq, (hc.below k4).kept hk (fun hf => hp (.inr hf)) (fun hf => by have := p.lt (.inr hf); omega)⟩
set_option maxRecDepth 100000 in
set_option maxHeartbeats 1000000 in
theorem moved_write (pb x y : Nat) (q : PSt) (M : Nat) (o : OpV) (w : World) (hk : o.k = 5) (hb0 : w.cell? ⟨pb, 0, none⟩ = some (.pointer (some ⟨x, 0, none⟩))) (hb1 : w.cell? ⟨pb, 1, none⟩ = some (.pointer (some ⟨y, 0, none⟩))) (hnp : ¬ PFoot x y q pb) (p : PairAt w x y q M)
    (hf : -9223372036854775808 ≤ o.b ∧ o.b ≤ 9223372036854775807) (hM : M ≤ 999999990000) (hS : o.s.size ≤ 1100000) :
    Calls Tryz.prog 16 #[o.val, .pointer (some ⟨pb, 0, none⟩)] w fun e w' => e = .returned (.bool true) ∧ ∃ q', PTurn w w' x y q q' (M + 200) := by
  obtain ⟨k, a0, b0, c0, d0, e0, s0⟩ := o
  simp only at hk hf hS
  subst hk
  have hpl : pb < w.heap.size := block_lt_of_cell hb0
  have HW1 : Hid (∀ W, Below w.heap.size w W → WCells pb x y w.heap.size b0 s0 W → Calls Tryz.prog 40 #[.string s0] W fun e w1 => ∃ g cap, e = .returned (.slice (some ⟨g, 0, none⟩) s0.size cap) ∧ Hid (WA w s0 g cap w1) ∧ WCells pb x y w.heap.size b0 s0 w1) := fun W hW hc => piece_wide hS hW hc
  have HW2 : Hid (∀ g cap w1 W, Hid (WA w s0 g cap w1) → Hid (WCells pb x y w.heap.size b0 s0 w1) → W.heap = w1.heap → W.os = w1.os → W.tape = w1.tape → W.output = w1.output → Calls Tryz.prog 41 #[.pointer (some ⟨x, 0, none⟩), .int .i64 b0, .slice (some ⟨g, 0, none⟩) s0.size cap] W fun e w2 => ∃ z : Int, e = .returned (.int .i64 z) ∧ Hid (WXG g b0 s0.size (byteOfS s0) w x y q (M + 200) (.int .i64 z) w2 ∧ OwnFn w2 5 1 (.slice (some ⟨g, 0, none⟩) (s0.size + 1) cap) (s0.size + 1) (wideF s0) ∧ w.heap.size < g ∧ s0.size + 1 ≤ cap) ∧ WCells pb x y w.heap.size b0 s0 w2) := fun g cap w1 W h hc h1 h2 h3 h4 => piece_x p hnp hf hM h hc h1 h2 h3 h4
  have HW3 : Hid (∀ g cap w2 W (z : Int), Hid (WXG g b0 s0.size (byteOfS s0) w x y q (M + 200) (.int .i64 z) w2 ∧ OwnFn w2 5 1 (.slice (some ⟨g, 0, none⟩) (s0.size + 1) cap) (s0.size + 1) (wideF s0) ∧ w.heap.size < g ∧ s0.size + 1 ≤ cap) → Hid (WCells pb x y w.heap.size b0 s0 w2) → W.heap = w2.heap → W.os = w2.os → W.tape = w2.tape → W.output = w2.output → Calls Tryz.prog 42 #[.slice (some ⟨g, 0, none⟩) s0.size cap, .string s0] W fun e w3 => e = .returned (.bool true) ∧ Hid (∃ u, WXG g b0 s0.size (byteOfS s0) w x y q (M + 200) (.int .i64 z) u ∧ w.heap.size < g ∧ Kept (fun b => b = g) u w3) ∧ WCells pb x y w.heap.size b0 s0 w3) := fun g cap w2 W z h hc h1 h2 h3 h4 => piece_still hS hpl h hc h1 h2 h3 h4
  have HW4 : Hid (∀ g w3 w4 cap (z : Int), Hid (∃ u, WXG g b0 s0.size (byteOfS s0) w x y q (M + 200) (.int .i64 z) u ∧ w.heap.size < g ∧ Kept (fun b => b = g) u w3) → Hid (WCells pb x y w.heap.size b0 s0 w3) → Hid (Below w3.heap.size w3 w4) → Hid (BytesAt w4 (some ⟨w3.heap.size, 0, none⟩) s0.size (byteOfS s0)) → Calls Tryz.prog 43 #[.pointer (some ⟨y, 0, none⟩), .int .i64 b0, .slice (some ⟨w3.heap.size, 0, none⟩) s0.size cap] w4 fun e w5 => e = .returned (.int .i64 z) ∧ Hid (∃ q', PTurn w w5 x y q q' (M + 200)) ∧ WCells pb x y w.heap.size b0 s0 w5) := fun g w3 w4 cap z h hc h1 h2 => piece_y p hnp h hc h1 h2
  have HP : Hid (PairAt w x y q M) := p
  have hsz0 : s0.size ≤ 1100000 := hS
  clear p hnp hS hf hM
  unfold OpV.val
  go_enter Tryz.func16, Tryz.ntmps16
  have HWA : Hid (Below w.heap.size w (w.alloc (Obj.cells #[.int .i64 5, .int .i64 a0, .int .i64 b0, .int .i64 c0, .int .i64 d0, .int .i64 e0, .string s0] 35)).drew) := (below_al _ _).drew
  have HWC : Hid (WCells pb x y w.heap.size b0 s0 (w.alloc (Obj.cells #[.int .i64 5, .int .i64 a0, .int .i64 b0, .int .i64 c0, .int .i64 d0, .int .i64 e0, .string s0] 35)).drew) := ⟨below_cell' HWA.out hb0, below_cell' HWA.out hb1, by simp [go_sem], by simp [go_sem]⟩
  have HSC : Hid (∀ W, WCells pb x y w.heap.size b0 s0 W → W.cell? ⟨pb, 0, none⟩ = some (.pointer (some ⟨x, 0, none⟩)) ∧ W.cell? ⟨pb, 1, none⟩ = some (.pointer (some ⟨y, 0, none⟩)) ∧ W.cell? ⟨w.heap.size, 2, none⟩ = some (.int .i64 b0) ∧ W.cell? ⟨w.heap.size, 6, none⟩ = some (.string s0)) := fun W h => h
  go_wp2_with (go_at_call 40; go_must (refine (HW1.out _ (below_al _ _) ?_).mono ?_))
  · exact ⟨below_cell' (below_al _ _) hb0, below_cell' (below_al _ _) hb1, by simp [go_sem], by simp [go_sem]⟩
  rintro e w1 ⟨g, cap, rfl, hA, hC⟩
  have HC1 : Hid (WCells pb x y w.heap.size b0 s0 w1) := hC
  obtain ⟨t0, t1, t2, t3⟩ := HSC.out _ hC
  clear hC
  go_wp2_with fail
  go_region_held3 (fun W => W.cell? ⟨pb, 0, none⟩ = some (.pointer (some ⟨x, 0, none⟩)) ∧ W.cell? ⟨pb, 1, none⟩ = some (.pointer (some ⟨y, 0, none⟩)) ∧ W.cell? ⟨w.heap.size, 2, none⟩ = some (.int .i64 b0) ∧ W.cell? ⟨w.heap.size, 6, none⟩ = some (.string s0)) (go_keep) (first | (go_at_call 41; refine (HW2.out g cap w1 _ hA HC1 (by rfl) (by rfl) (by rfl) (by rfl)).mono ?_; rintro e w2 ⟨rz, rfl, hB, hC2⟩; have HC2 : Hid (WCells pb x y w.heap.size b0 s0 w2) := hC2; obtain ⟨u0, u1, u2, u3⟩ := HSC.out _ hC2; clear hC2 t0 t1 t2 t3))
  all_goals
    clear HW1 HW2
    go_wp2_with (go_at_call 42; go_must (refine (HW3.out g cap w2 _ rz hB HC2 (by rfl) (by rfl) (by rfl) (by rfl)).mono ?_))
    rintro e w3 ⟨rfl, hD, hC3⟩
    have HC3 : Hid (WCells pb x y w.heap.size b0 s0 w3) := hC3
    obtain ⟨v0, v1, v2, v3⟩ := HSC.out _ hC3
    clear hC3 u0 u1 u2 u3
    go_wp2_with fail
    clear HW3 HC1 HC2
    obtain ⟨cap4, w4, hconv, hb4, hby4⟩ := conv_bytes w3.drew s0
    have hds : w3.drew.heap.size = w3.heap.size := rfl
    rw [hds] at hconv hby4
    have HB4 : Hid (Below w3.heap.size w3 w4) := ((Below.refl w3.heap.size w3).drew).trans hb4
    have HY4 : Hid (BytesAt w4 (some ⟨w3.heap.size, 0, none⟩) s0.size (byteOfS s0)) := hby4
    obtain ⟨y0, y1, y2, y3⟩ := HSC.out _ (HC3.out.below HB4.out)
    clear hb4 hby4 hds HWA HWC
    go_region_with ((go_at_call 43; go_must (refine (HW4.out g w3 w4 cap4 rz hD HC3 HB4 HY4).mono ?_); rintro e w5 ⟨rfl, hE, hC5⟩; clear hC5 y0 y1 y2 y3))
    all_goals
      go_wp2_with fail
      go_ret
      exact ⟨by simp, hE.out⟩
end Go.Proofs.YtfpoiikhhjdpdaaGreat
