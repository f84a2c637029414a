import Derived.Test.YtfpoiikhhjdpdaaGreatJ16
import Derived.Test.YtfpoiikhhjdpdaaGreatJ17
import Derived.Test.YtfpoiikhhjdpdaaGreatJ01
import Derived.ArgAppend
import Derived.Test.YtfpoiikhhjdpdaaGreatJ02
import Derived.Test.YtfpoiikhhjdpdaaGreatJ03
/- Two hoards, the program's and the document's; all that a script has made. -/
namespace Go.Proofs.YtfpoiikhhjdpdaaGreat
open Go.RowKit
set_option linter.unusedVariables false
structure PSt where
  s : St
  a : Ab
  V : Nat → Value
  left : Int
  dn : Bool
/-- What is left up to the break. -/
def lft (a : Ab) : Int := match a.brk with
  | none => -1
  | some b => (b : Int) - a.steps
structure PGood (q : PSt) (N : Nat) : Prop where
  up : q.dn = false → q.a = q.s.toAb ∧ q.left = lft q.a
  down : q.dn = true → q.left = -1 ∧ q.a.brk = none
  brk : ∀ b, q.a.brk = some b → q.a.steps ≤ b ∧ b ≤ N + 1000
  fit : Fit q.a
  steps : q.a.steps ≤ N
theorem PGood.mono {q : PSt} {N M : Nat} (h : PGood q N) (hM : N ≤ M) : PGood q M := ⟨h.up, h.down, fun b hb => ⟨(h.brk b hb).1, by have := (h.brk b hb).2; omega⟩, h.fit, Nat.le_trans h.steps hM⟩
structure PairAt (w : World) (x y : Nat) (q : PSt) (N : Nat) : Prop where
  xu : q.dn = false → HoardAt w x q.s
  xd : q.dn = true → DownAt w x q.s q.a
  ya : RefIn w y q.a q.V q.left q.dn
  ap : ∀ k, FootD x q.s k → ¬ RFoot y q.a q.V k
  good : PGood q N
def PFoot (x y : Nat) (q : PSt) (k : Nat) : Prop := FootD x q.s k ∨ RFoot y q.a q.V k
theorem HoardAt.footD {w : World} {hb : Nat} {s : St} (h : HoardAt w hb s) {k : Nat} (hk : FootD hb s k) : Foot hb s k := by
  rcases hk with h1 | h1
  · exact h1
  · rw [h.up] at h1; simp [aux0, Value.ownBlock] at h1
theorem PairAt.lt {w : World} {x y : Nat} {q : PSt} {N k : Nat} (h : PairAt w x y q N) (hk : PFoot x y q k) : k < w.heap.size := by
  rcases hk with h1 | h1
  · cases hd : q.dn
    · exact (h.xu hd).foot_lt ((h.xu hd).footD h1)
    · exact (h.xd hd).lt h1
  · exact h.ya.foot_lt h1
theorem PairAt.of_block {w w' : World} {x y : Nat} {q : PSt} {N : Nat} (h : PairAt w x y q N) (e : ∀ k, PFoot x y q k → w'.heap[k]? = w.heap[k]?) : PairAt w' x y q N :=
  ⟨fun hd => (h.xu hd).of_block (fun k hk => e k (.inl (.inl hk))), fun hd => (h.xd hd).of_block (fun k hk => e k (.inl hk)), h.ya.of_block (fun k hk => e k (.inr hk)), h.ap, h.good⟩
theorem PairAt.below {w w' : World} {x y : Nat} {q : PSt} {N : Nat} (h : PairAt w x y q N) (k : Below w.heap.size w w') : PairAt w' x y q N := h.of_block (fun i hi => k.block i (h.lt hi))
theorem PairAt.mono {w : World} {x y : Nat} {q : PSt} {N M : Nat} (h : PairAt w x y q N) (hM : N ≤ M) : PairAt w x y q M := ⟨h.xu, h.xd, h.ya, h.ap, h.good.mono hM⟩
structure PTurn (w w' : World) (x y : Nat) (q q' : PSt) (N : Nat) : Prop where
  at' : PairAt w' x y q' N
  kept : Kept (PFoot x y q) w w'
  foot : ∀ k, PFoot x y q' k → PFoot x y q k ∨ w.heap.size ≤ k
theorem PTurn.below {w w' : World} {x y : Nat} {q : PSt} {N : Nat} (h : PairAt w x y q N) (k : Below w.heap.size w w') : PTurn w w' x y q q N := ⟨h.below k, Kept.of_below k, fun _ h => .inl h⟩
/-- A list that its owner has marked: of bytes, and of records. -/
def MkB (w : World) (lo : Nat) (tag : Nat → Nat) (m : Nat) (v : Value) : Prop :=
  ∃ p n cap, v = .slice p n cap ∧ n ≤ 200 ∧ (∀ g o sp, p = some ⟨g, o, sp⟩ → lo ≤ g ∧ tag g = 4 ∧ g < w.heap.size) ∧ ∀ j, j < n → ∃ g, p = some ⟨g, 0, none⟩ ∧ w.cell? ⟨g, j, none⟩ = some (.int .u8 m)
def MkL (w : World) (lo : Nat) (tag : Nat → Nat) (m : Int) (v : Value) : Prop :=
  ∃ p n cap, v = .slice p n cap ∧ n ≤ 200 ∧ (∀ g o sp, p = some ⟨g, o, sp⟩ → lo ≤ g ∧ tag g = 4 ∧ g < w.heap.size) ∧ ∀ j, j < n → ∃ g, p = some ⟨g, 0, none⟩ ∧ w.cell? ⟨g, j * 5, none⟩ = some (.int .i64 m) ∧ ∀ i, i < 4 → w.cell? ⟨g, j * 5 + 1 + i, none⟩ = some (.int .u8 0)
theorem MkB.of_block {w w' : World} {lo m : Nat} {tag tag' : Nat → Nat} {v : Value} (h : MkB w lo tag m v) (hs : w.heap.size ≤ w'.heap.size) (e : ∀ k, lo ≤ k → tag k = 4 → k < w.heap.size → w'.heap[k]? = w.heap[k]? ∧ tag' k = 4) : MkB w' lo tag' m v := by
  obtain ⟨p, n, cap, hv, hn, hp, hc⟩ := h
  refine ⟨p, n, cap, hv, hn, fun g o sp hg => ?_, fun j hj => ?_⟩
  · obtain ⟨h1, h2, h3⟩ := hp g o sp hg
    exact ⟨h1, (e g h1 h2 h3).2, by omega⟩
  · obtain ⟨g, hg, hcell⟩ := hc j hj
    obtain ⟨h1, h2, h3⟩ := hp g 0 none hg
    exact ⟨g, hg, (World.cell?_of_block (e g h1 h2 h3).1).trans hcell⟩
theorem MkL.of_block {w w' : World} {lo : Nat} {m : Int} {tag tag' : Nat → Nat} {v : Value} (h : MkL w lo tag m v) (hs : w.heap.size ≤ w'.heap.size) (e : ∀ k, lo ≤ k → tag k = 4 → k < w.heap.size → w'.heap[k]? = w.heap[k]? ∧ tag' k = 4) : MkL w' lo tag' m v := by
  obtain ⟨p, n, cap, hv, hn, hp, hc⟩ := h
  refine ⟨p, n, cap, hv, hn, fun g o sp hg => ?_, fun j hj => ?_⟩
  · obtain ⟨h1, h2, h3⟩ := hp g o sp hg
    exact ⟨h1, (e g h1 h2 h3).2, by omega⟩
  · obtain ⟨g, hg, hcell, hcells⟩ := hc j hj
    obtain ⟨h1, h2, h3⟩ := hp g 0 none hg
    exact ⟨g, hg, (World.cell?_of_block (e g h1 h2 h3).1).trans hcell, fun i hi => (World.cell?_of_block (e g h1 h2 h3).1).trans (hcells i hi)⟩
/-- What a script has made: so many pairs, where they lie, in what state; the lists that came out. -/
structure GSt where
  n : Nat
  pv : Value
  pb : Nat → Nat
  xb : Nat → Nat
  yb : Nat → Nat
  Q : Nat → PSt
  nb : Nat
  bv : Value
  BL : Nat → Nat → Value
  nl : Nat
  lv : Value
  LL : Nat → Nat → Value
def bsF (G : GSt) (j : Nat) : Value := if j % 5 = 4 then .int .u8 (j / 5 % 251 : Nat) else G.BL (j / 5) (j % 5)
def lsF (G : GSt) (j : Nat) : Value := if j % 5 = 4 then .int .i64 (-1000 - (j / 5 : Nat) : Int) else G.LL (j / 5) (j % 5)
structure Great (W w : World) (tag : Nat → Nat) (G : GSt) (N : Nat) : Prop where
  bel : Below W.heap.size W w
  top : w.rowIs W.heap.size 33 3 (fun j => if j = 0 then G.pv else if j = 1 then G.bv else G.lv)
  top_t : tag W.heap.size = 0
  ps : OwnFn w 38 1 G.pv G.n (fun i => .pointer (some ⟨G.pb i, 0, none⟩))
  ps_t : ∀ g, G.pv.ownBlock = some g → W.heap.size ≤ g ∧ tag g = 1
  bs : OwnFn w 44 5 G.bv G.nb (bsF G)
  bs_t : ∀ g, G.bv.ownBlock = some g → W.heap.size ≤ g ∧ tag g = 2
  ls : OwnFn w 48 5 G.lv G.nl (lsF G)
  ls_t : ∀ g, G.lv.ownBlock = some g → W.heap.size ≤ g ∧ tag g = 3
  bm : ∀ i j, i < G.nb → j < 4 → MkB w W.heap.size tag (i % 251) (G.BL i j)
  lm : ∀ i j, i < G.nl → j < 4 → MkL w W.heap.size tag (-1000 - (i : Nat) : Int) (G.LL i j)
  box : ∀ i, i < G.n → w.rowIs (G.pb i) 63 2 (fun j => if j = 0 then .pointer (some ⟨G.xb i, 0, none⟩) else .pointer (some ⟨G.yb i, 0, none⟩))
  box_t : ∀ i, i < G.n → W.heap.size ≤ G.pb i ∧ tag (G.pb i) = 5
  pr : ∀ i, i < G.n → PairAt w (G.xb i) (G.yb i) (G.Q i) N
  pr_t : ∀ i k, i < G.n → PFoot (G.xb i) (G.yb i) (G.Q i) k → W.heap.size ≤ k ∧ tag k = 7 + i
  cnt : 200 * G.n ≤ N ∧ 200 * G.nb ≤ N ∧ 200 * G.nl ≤ N
theorem Great.mono {W w : World} {tag : Nat → Nat} {G : GSt} {N M : Nat} (h : Great W w tag G N) (hM : N ≤ M) : Great W w tag G M :=
  ⟨h.bel, h.top, h.top_t, h.ps, h.ps_t, h.bs, h.bs_t, h.ls, h.ls_t, h.bm, h.lm, h.box, h.box_t, fun i hi => (h.pr i hi).mono hM, h.pr_t, ⟨by have := h.cnt.1; omega, by have := h.cnt.2.1; omega, by have := h.cnt.2.2; omega⟩⟩
/-- Whose block it is, where those that are new are given to t. -/
def tagN (tag : Nat → Nat) (B t b : Nat) : Nat := if b < B then tag b else t
theorem tagN_lt {tag : Nat → Nat} {B t b : Nat} (h : b < B) : tagN tag B t b = tag b := if_pos h
theorem tagN_ge {tag : Nat → Nat} {B t b : Nat} (h : B ≤ b) : tagN tag B t b = t := if_neg (by omega)
def GSt.setQ (G : GSt) (i : Nat) (q : PSt) : GSt := { G with Q := fun j => if j = i then q else G.Q j }
/-- Blocks of nobody's have turned (6), or those of one pair (7 + its number). -/
theorem Great.other {W w w' : World} {tag : Nat → Nat} {G : GSt} {N t : Nat} (h : Great W w tag G N) (ht : 6 ≤ t) (k : Kept (fun b => W.heap.size ≤ b ∧ tag b = t) w w') (Q' : Nat → PSt) (hQ : ∀ i, i < G.n → 7 + i ≠ t → Q' i = G.Q i) (hp : ∀ i, i < G.n → 7 + i = t → PairAt w' (G.xb i) (G.yb i) (Q' i) N ∧ ∀ b, PFoot (G.xb i) (G.yb i) (Q' i) b → W.heap.size ≤ b ∧ tagN tag w.heap.size t b = t) :
    Great W w' (tagN tag w.heap.size t) { G with Q := Q' } N := by
  have hkb : ∀ b, b < w.heap.size → tag b ≠ t → w'.heap[b]? = w.heap[b]? := fun b hb ht => k.block b hb (fun hf => ht hf.2)
  have hlo : ∀ b, b < W.heap.size → w'.heap[b]? = w.heap[b]? := fun b hb => k.block b (Nat.lt_of_lt_of_le hb h.bel.size) (fun hf => by have := hf.1; omega)
  refine ⟨⟨k.os.trans h.bel.os, k.tape.trans h.bel.tape, k.output.trans h.bel.output, Nat.le_trans h.bel.size k.size, fun b hb => (hlo b hb).trans (h.bel.block b hb)⟩, ?_, ?_, ?_, ?_, ?_, ?_, ?_, ?_, ?_, ?_, ?_, ?_, ?_, ?_, h.cnt⟩
  · exact h.top.of_block (hkb _ h.top.lt (by rw [h.top_t]; omega))
  · rw [tagN_lt h.top.lt]; exact h.top_t
  · exact h.ps.of_block (fun g hg => hkb g (h.ps.lt hg) (by rw [(h.ps_t g hg).2]; omega))
  · intro g hg
    rw [tagN_lt (h.ps.lt hg)]; exact h.ps_t g hg
  · exact h.bs.of_block (fun g hg => hkb g (h.bs.lt hg) (by rw [(h.bs_t g hg).2]; omega))
  · intro g hg
    rw [tagN_lt (h.bs.lt hg)]; exact h.bs_t g hg
  · exact h.ls.of_block (fun g hg => hkb g (h.ls.lt hg) (by rw [(h.ls_t g hg).2]; omega))
  · intro g hg
    rw [tagN_lt (h.ls.lt hg)]; exact h.ls_t g hg
  · intro a b ha hb
    exact (h.bm a b ha hb).of_block k.size (fun c _ ht hlt => ⟨hkb c hlt (by rw [ht]; omega), by rw [tagN_lt hlt]; exact ht⟩)
  · intro a b ha hb
    exact (h.lm a b ha hb).of_block k.size (fun c _ ht hlt => ⟨hkb c hlt (by rw [ht]; omega), by rw [tagN_lt hlt]; exact ht⟩)
  · intro j hj
    replace hj : j < G.n := hj
    exact (h.box j hj).of_block (hkb _ (h.box j hj).lt (by rw [(h.box_t j hj).2]; omega))
  · intro j hj
    replace hj : j < G.n := hj
    rw [tagN_lt (h.box j hj).lt]; exact h.box_t j hj
  · intro j hj
    replace hj : j < G.n := hj
    show PairAt w' (G.xb j) (G.yb j) (Q' j) N
    by_cases e : 7 + j = t
    · exact (hp j hj e).1
    · rw [hQ j hj e]
      exact (h.pr j hj).of_block (fun b hb => hkb b ((h.pr j hj).lt hb) (by rw [(h.pr_t j b hj hb).2]; exact e))
  · intro j b hj hb
    replace hj : j < G.n := hj
    replace hb : PFoot (G.xb j) (G.yb j) (Q' j) b := hb
    by_cases e : 7 + j = t
    · have := (hp j hj e).2 b hb
      exact ⟨this.1, this.2.trans e.symm⟩
    · rw [hQ j hj e] at hb
      rw [tagN_lt ((h.pr j hj).lt hb)]; exact h.pr_t j b hj hb
/-- Blocks of nobody's have turned. -/
theorem Great.idle {W w w' : World} {tag : Nat → Nat} {G : GSt} {N : Nat} (h : Great W w tag G N) (k : Kept (fun b => W.heap.size ≤ b ∧ tag b = 6) w w') : Great W w' (tagN tag w.heap.size 6) G N :=
  h.other (by omega) k G.Q (fun _ _ _ => rfl) (fun i _ e => by omega)
theorem Great.below {W w w' : World} {tag : Nat → Nat} {G : GSt} {N : Nat} (h : Great W w tag G N) (k : Below w.heap.size w w') : Great W w' (tagN tag w.heap.size 6) G N := h.idle (Kept.of_below k)
/-- A pair has turned. -/
theorem Great.turn {W w w' : World} {tag : Nat → Nat} {G : GSt} {N : Nat} (h : Great W w tag G N) (i : Nat) (hi : i < G.n) (q' : PSt) (k : PTurn w w' (G.xb i) (G.yb i) (G.Q i) q' N) :
    Great W w' (tagN tag w.heap.size (7 + i)) (G.setQ i q') N := by
  refine h.other (by omega) (k.kept.mono (fun b hb => h.pr_t i b hi hb)) _ (fun j hj e => if_neg (by omega)) (fun j hj e => ?_)
  obtain rfl : j = i := by omega
  show PairAt w' _ _ (if j = j then q' else G.Q j) N ∧ ∀ b, PFoot _ _ (if j = j then q' else G.Q j) b → _
  rw [if_pos rfl]
  refine ⟨k.at', fun b hb => ?_⟩
  rcases k.foot b hb with h1 | h1
  · rw [tagN_lt ((h.pr j hj).lt h1)]; exact h.pr_t j b hj h1
  · rw [tagN_ge h1]; exact ⟨Nat.le_trans h.bel.size h1, rfl⟩
end Go.Proofs.YtfpoiikhhjdpdaaGreat

/- One half of a pair has gone on, then the other. -/
namespace Go.Proofs.YtfpoiikhhjdpdaaGreat
open Go.RowKit
set_option linter.unusedVariables false
/-- The program's half has gone on. -/
structure Mid (w w1 : World) (x : Nat) (s s' : St) (a' : Ab) (dn' : Bool) : Prop where
  xu : dn' = false → HoardAt w1 x s'
  xd : dn' = true → DownAt w1 x s' a'
  kept : Kept (FootD x s) w w1
  foot : ∀ k, FootD x s' k → FootD x s k ∨ w.heap.size ≤ k
theorem Mid.lt {w w1 : World} {x : Nat} {s s' : St} {a' : Ab} {dn' : Bool} (h : Mid w w1 x s s' a' dn') {k : Nat} (hk : FootD x s' k) : k < w1.heap.size := by
  cases hd : dn'
  · exact (h.xu hd).foot_lt ((h.xu hd).footD hk)
  · exact (h.xd hd).lt hk
theorem Mid.went {w w1 : World} {x : Nat} {s s' : St} {a' : Ab} (hu : s.aux = aux0) (h : Went x s w s' w1) : Mid w w1 x s s' a' false :=
  ⟨fun _ => h.at', fun hh => (by cases hh), h.kept.mono (fun _ hi => .inl hi), fun k hk => by
    rcases h.foot k (h.at'.footD hk) with h1 | h1
    · exact .inl (.inl h1)
    · exact .inr h1⟩
theorem Mid.same {w w1 : World} {x : Nat} {s : St} {a : Ab} (h : HoardAt w x s) (k : Below w.heap.size w w1) : Mid w w1 x s s a false :=
  ⟨fun _ => h.below k, fun hh => (by cases hh), Kept.of_below k, fun _ hk => .inl hk⟩
theorem Mid.sameD {w w1 : World} {x : Nat} {s : St} {a : Ab} (h : DownAt w x s a) (k : Below w.heap.size w w1) : Mid w w1 x s s a true :=
  ⟨fun hh => (by cases hh), fun _ => h.below k, Kept.of_below k, fun _ hk => .inl hk⟩
/-- The document's half, where the program's has gone on and blocks of nobody's have turned. -/
theorem Mid.ref {w w1 w2 : World} {x y : Nat} {q : PSt} {N : Nat} {s' : St} {a' : Ab} {dn' : Bool} {S : Nat → Prop} (p : PairAt w x y q N) (h : Mid w w1 x q.s s' a' dn') (k : Kept S w1 w2) (hS : ∀ i, S i → w.heap.size ≤ i) : RefIn w2 y q.a q.V q.left q.dn :=
  p.ya.of_block (fun i hi => by
    have hlt := p.ya.foot_lt hi
    rw [k.block i (Nat.lt_of_lt_of_le hlt h.kept.size) (fun hs => by have := hS i hs; omega)]
    exact h.kept.block i hlt (fun hf => p.ap i hf hi))
theorem Mid.join {w w1 w2 w3 : World} {x y : Nat} {q : PSt} {N N' : Nat} {s' : St} {a' : Ab} {dn' : Bool} {left' : Int} {V' : Nat → Value} {S : Nat → Prop} (p : PairAt w x y q N) (h : Mid w w1 x q.s s' a' dn') (k : Kept S w1 w2) (hS : ∀ i, S i → w.heap.size ≤ i ∧ ¬ FootD x s' i) (r : RWent y q.a q.V w2 a' V' left' dn' w3) (g : PGood ⟨s', a', V', left', dn'⟩ N') : PTurn w w3 x y q ⟨s', a', V', left', dn'⟩ N' := by
  have hlt1 : ∀ i, FootD x s' i → i < w1.heap.size := fun i hi => h.lt hi
  have hnr : ∀ i, FootD x s' i → ¬ RFoot y q.a q.V i := fun i hi hr => by
    rcases h.foot i hi with h1 | h1
    · exact p.ap i h1 hr
    · have := p.ya.foot_lt hr; omega
  have hb : ∀ i, FootD x s' i → w3.heap[i]? = w1.heap[i]? := fun i hi =>
    (r.kept.block i (Nat.lt_of_lt_of_le (hlt1 i hi) k.size) (hnr i hi)).trans (k.block i (hlt1 i hi) (fun hs => (hS i hs).2 hi))
  refine ⟨⟨fun hd => (h.xu hd).of_block (fun i hi => hb i (.inl hi)), fun hd => (h.xd hd).of_block (fun i hi => hb i hi), r.at', fun i hi hr => ?_, g⟩, ?_, ?_⟩
  · rcases r.foot i hr with h1 | h1
    · exact hnr i hi h1
    · have := hlt1 i hi; have := k.size; omega
  · refine ⟨r.kept.os.trans (k.os.trans h.kept.os), r.kept.tape.trans (k.tape.trans h.kept.tape), r.kept.output.trans (k.output.trans h.kept.output), Nat.le_trans h.kept.size (Nat.le_trans k.size r.kept.size), fun i hi hn => ?_⟩
    have h1 : ¬ FootD x q.s i := fun hf => hn (.inl hf)
    have h2 : ¬ RFoot y q.a q.V i := fun hf => hn (.inr hf)
    rw [r.kept.block i (Nat.lt_of_lt_of_le hi (Nat.le_trans h.kept.size k.size)) h2, k.block i (Nat.lt_of_lt_of_le hi h.kept.size) (fun hs => by have := (hS i hs).1; omega), h.kept.block i hi h1]
  · intro i hi
    rcases hi with h1 | h1
    · rcases h.foot i h1 with h2 | h2
      · exact .inl (.inl h2)
      · exact .inr h2
    · rcases r.foot i h1 with h2 | h2
      · exact .inl (.inr h2)
      · exact .inr (Nat.le_trans h.kept.size (Nat.le_trans k.size h2))
/-- What a call of the program's half leaves: the document's call from there gives the same, and the pair goes on. -/
def XPost (G : Nat) (args : Array Value) (w : World) (x y : Nat) (q : PSt) (N : Nat) (v : Value) (w1 : World) : Prop :=
  ∃ s' a' left' dn', Mid w w1 x q.s s' a' dn' ∧ (∀ W, RefIn W y q.a q.V q.left q.dn → Calls Tryz.prog G args W (fun e w2 => e = .returned v ∧ ∃ V', RWent y q.a q.V W a' V' left' dn' w2)) ∧ ∀ V', PGood ⟨s', a', V', left', dn'⟩ N
/-- From there to the end. -/
theorem XPost.go {G : Nat} {args : Array Value} {w : World} {x y : Nat} {q : PSt} {N M : Nat} {v : Value} {w1 W : World} (p : PairAt w x y q M) (h : XPost G args w x y q N v w1) (hh : W.heap = w1.heap) (ho : W.os = w1.os) (ht : W.tape = w1.tape) (hp : W.output = w1.output) :
    Calls Tryz.prog G args W (fun e w2 => e = .returned v ∧ ∃ q', PTurn w w2 x y q q' N) := by
  obtain ⟨s', a', left', dn', hm, hc, hg⟩ := h
  have hk : Kept (fun _ => False) w1 W := ⟨ho, ht, hp, by rw [hh]; exact Nat.le_refl _, fun i _ _ => by rw [hh]⟩
  refine (hc W (hm.ref p hk (fun _ h => h.elim))).mono ?_
  rintro e w2 ⟨rfl, V', hr⟩
  exact ⟨rfl, _, hm.join p hk (fun _ h => h.elim) hr (hg V')⟩
end Go.Proofs.YtfpoiikhhjdpdaaGreat

/- append, and where the new list lies: in place, or in a new block and all old ones as they were. What a script has made grows by one. -/
namespace Go.Proofs.YtfpoiikhhjdpdaaGreat
open Go.RowKit
set_option linter.unusedVariables false
/-- In place, or new. -/
def Lies (w w' : World) (v v' : Value) : Prop := (w.grownBy w' v.ownBlock ∧ v'.ownBlock = v.ownBlock) ∨ (w.grownBy w' none ∧ ∀ g, v'.ownBlock = some g → w.heap.size ≤ g)
theorem ownsRow_base {w : World} {base base' e size n : Nat} {v : Value} {xs : List Value} (h : w.ownsRow base e size v n xs) (hb : ∀ g, v.ownBlock = some g → base' ≤ g) : w.ownsRow base' e size v n xs := by
  refine ⟨h.1, ?_⟩
  rcases h.2 with h1 | ⟨g, cap, cur, rfl, hg0, hg, rest⟩
  · exact .inl h1
  · exact .inr ⟨g, cap, cur, rfl, hb g rfl, hg, rest⟩
theorem run_append2 {t e size bytes : Nat} (hI : AppInfo t e size bytes) (ty base : Nat) (v : Value) (n : Nat) (xs : List Value) (w : World) (hown : w.ownsRow base e size v n xs)
    (ad : Addr) (m c : Nat) (news : List Value) (hl : news.length = m * size) (hnews : ∀ j u, news[j]? = some u → w.cell? (ad.add j) = some u) (h1 : ∀ u ∈ news, u.oneCell' = true) (hm : 0 < m)
    (h63 : n + m ≤ maxLen) (hbytes : (n + m) * bytes ≤ 140737488355328) (hbase : base ≤ w.heap.size) :
    ∃ g' c' w', (Builtin.append_ #[t, t] ty #[v, .slice (some ad) m c]).run Tryz.prog w = .ok (.slice (some ⟨g', 0, none⟩) (n + m) c') w' ∧ w'.ownsRow base e size (.slice (some ⟨g', 0, none⟩) (n + m) c') (n + m) (xs ++ news) ∧ Lies w w' v (.slice (some ⟨g', 0, none⟩) (n + m) c') := by
  suffices h : ∃ v' w', (Builtin.append_ #[t, t] ty #[v, .slice (some ad) m c]).run Tryz.prog w = .ok v' w' ∧ w'.ownsRow base e size v' (n + m) (xs ++ news) ∧ Lies w w' v v' by
    obtain ⟨v', w', h1, h2, h3⟩ := h
    obtain ⟨g', c', rfl, _⟩ := h2.form (by omega)
    exact ⟨g', c', w', h1, h2, h3⟩
  obtain ⟨i, z, g1, g2, g3, g4, g5, g6, g7⟩ := hI
  rcases hown.2 with ⟨rfl, rfl⟩ | ⟨g, cap, cur, rfl, hbg, hg, hnc, hcm, hcs, htake⟩
  · obtain ⟨v', w', hr, a1, a2, _, a4⟩ := run_append_own_at (P := Tryz.prog) w base t ty e i z size bytes g1 g2 g3 g4 g5 g6 g7 _ 0 xs hown ad m c news hl hnews h1 h63 hbytes hbase
    refine ⟨v', w', hr, a1, .inr ⟨a2, fun g hg => ?_⟩⟩
    rcases a4 with h | h
    · rw [h] at hg; cases hg
    · rw [h] at hg; injection hg with hg; omega
  · by_cases hroom : n + m ≤ cap
    · obtain ⟨w', hr, a1, a2⟩ := run_append_fits (P := Tryz.prog) w base t ty e i size g1 g2 g4 g n cap xs hown ad m c news hl hnews h1 hroom
      exact ⟨_, w', hr, a1, .inl ⟨a2, rfl⟩⟩
    · obtain ⟨v', w', hr, a1, a2⟩ := run_append_arg_grows (P := Tryz.prog) w t ty e i z size bytes g1 g2 g3 g4 g5 g6 g7 ⟨g, 0, none⟩ n cap xs hown.1 (fun j u hj => World.ownsRow.cells hown (g := g) rfl j u hj) ad m c news hl hnews (by omega) h63 hbytes
      have hlt := fun g hg => (World.ownsRow.lt a1 g hg).1
      exact ⟨v', w', hr, ownsRow_base a1 (fun g hg => Nat.le_trans hbase (hlt g hg)), .inr ⟨a2, hlt⟩⟩
theorem wpl_append2 {t e size bytes : Nat} (hI : AppInfo t e size bytes) {ops : Array Oper} {rest : List Oper} {o : Oper} {a : Act} {Q : Exit → Act → World → Prop} {w : World} (hgd : o.guard = none) (s x : Operand)
    (ho : o.op = .call { callee := .builtin .append, args := #[s, x], argTypes := #[t, t] }) (base : Nat)
    (v : Value) (n : Nat) (xs : List Value) (hs : a.eval s = v) (hown : w.ownsRow base e size v n xs)
    (ad : Addr) (m c : Nat) (news : List Value) (hx : a.eval x = .slice (some ad) m c) (hl : news.length = m * size) (hnews : ∀ j u, news[j]? = some u → w.cell? (ad.add j) = some u) (h1 : ∀ u ∈ news, u.oneCell' = true) (hm : 0 < m)
    (h63 : n + m ≤ maxLen) (hbytes : (n + m) * bytes ≤ 140737488355328) (hbase : base ≤ w.heap.size)
    (h : ∀ g' c' w', w'.ownsRow base e size (.slice (some ⟨g', 0, none⟩) (n + m) c') (n + m) (xs ++ news) → Lies w w' v (.slice (some ⟨g', 0, none⟩) (n + m) c') → wpList Tryz.prog ops Q rest (a.put o.dst (.slice (some ⟨g', 0, none⟩) (n + m) c')) w') :
    wpList Tryz.prog ops Q (o :: rest) a w := by
  refine wpList_plain hgd fun K hK => ?_
  obtain ⟨g', c', w', hr, h2, h3⟩ := run_append2 hI o.type base v n xs w hown ad m c news hl hnews h1 hm h63 hbytes hbase
  unfold Oper.wp execOp
  simp only [ho, resolve, invoke, builtin, Sem.run_bind, Sem.run_pure, Result.andThen_ok, List.map_toArray, List.map_cons, List.map_nil, hs, hx, hr]
  exact hK _ _ (h g' c' w' h2 h3)
theorem step_append2 {t e size bytes : Nat} (hI : AppInfo t e size bytes) {ops : Array Oper} {o : Oper} {a : Act} {K : Act → World → Prop} {Q : Exit → Act → World → Prop} {E : Prop} {w : World} (hgd : o.guard = none) (s x : Operand)
    (ho : o.op = .call { callee := .builtin .append, args := #[s, x], argTypes := #[t, t] }) (base : Nat)
    (v : Value) (n : Nat) (xs : List Value) (hs : a.eval s = v) (hown : w.ownsRow base e size v n xs)
    (ad : Addr) (m c : Nat) (news : List Value) (hx : a.eval x = .slice (some ad) m c) (hl : news.length = m * size) (hnews : ∀ j u, news[j]? = some u → w.cell? (ad.add j) = some u) (h1 : ∀ u ∈ news, u.oneCell' = true) (hm : 0 < m)
    (h63 : n + m ≤ maxLen) (hbytes : (n + m) * bytes ≤ 140737488355328) (hbase : base ≤ w.heap.size)
    (h : ∀ g' c' w', w'.ownsRow base e size (.slice (some ⟨g', 0, none⟩) (n + m) c') (n + m) (xs ++ news) → Lies w w' v (.slice (some ⟨g', 0, none⟩) (n + m) c') → K (a.put o.dst (.slice (some ⟨g', 0, none⟩) (n + m) c')) w') :
    if Region.wanted o (yielded ops a.tmps) = true then Oper.wp Tryz.prog o a w K Q else E := by
  have hw : Region.wanted o (yielded ops a.tmps) = true := by simp [Region.wanted, hgd]
  rw [if_pos hw]
  obtain ⟨g', c', w', hr, h2, h3⟩ := run_append2 hI o.type base v n xs w hown ad m c news hl hnews h1 hm h63 hbytes hbase
  unfold Oper.wp execOp
  simp only [ho, resolve, invoke, builtin, Sem.run_bind, Sem.run_pure, Result.andThen_ok, List.map_toArray, List.map_cons, List.map_nil, hs, hx, hr]
  exact h g' c' w' h2 h3
def own6 (tag : Nat → Nat) (b : Nat) : Nat := if tag b = 6 then 4 else tag b
theorem own6_ne {tag : Nat → Nat} {b : Nat} (h : tag b ≠ 6) : own6 tag b = tag b := if_neg h
/-- The blocks of nobody's become somebody's. -/
theorem Great.retag {W w : World} {tag : Nat → Nat} {G : GSt} {N : Nat} (h : Great W w tag G N) (tag' : Nat → Nat) (e : ∀ b, tag b ≠ 6 → tag' b = tag b) : Great W w tag' G N := by
  refine ⟨h.bel, h.top, ?_, h.ps, ?_, h.bs, ?_, h.ls, ?_, ?_, ?_, h.box, ?_, h.pr, ?_, h.cnt⟩
  · rw [e _ (by rw [h.top_t]; omega)]; exact h.top_t
  · intro g hg
    have := h.ps_t g hg
    rw [e _ (by omega)]; exact this
  · intro g hg
    have := h.bs_t g hg
    rw [e _ (by omega)]; exact this
  · intro g hg
    have := h.ls_t g hg
    rw [e _ (by omega)]; exact this
  · intro i j hi hj
    exact (h.bm i j hi hj).of_block (Nat.le_refl _) (fun k _ hk _ => ⟨rfl, by rw [e _ (by omega)]; exact hk⟩)
  · intro i j hi hj
    exact (h.lm i j hi hj).of_block (Nat.le_refl _) (fun k _ hk _ => ⟨rfl, by rw [e _ (by omega)]; exact hk⟩)
  · intro i hi
    have := h.box_t i hi
    rw [e _ (by omega)]; exact this
  · intro i k hi hk
    have := h.pr_t i k hi hk
    rw [e _ (by omega)]; exact this
theorem Great.own6 {W w : World} {tag : Nat → Nat} {G : GSt} {N : Nat} (h : Great W w tag G N) : Great W w (own6 tag) G N := h.retag _ (fun _ hb => own6_ne hb)
theorem Lies.kept {w w1 : World} {v v' : Value} (h : Lies w w1 v v') : w1.os = w.os ∧ w1.tape = w.tape ∧ w1.output = w.output ∧ w.heap.size ≤ w1.heap.size ∧ ∀ b, b < w.heap.size → v.ownBlock ≠ some b → w1.heap[b]? = w.heap[b]? := by
  rcases h with ⟨h, _⟩ | ⟨h, _⟩
  · exact ⟨h.os, h.tape, h.output, h.size, fun b hb hv => h.block b hb (fun e => hv e.symm)⟩
  · exact ⟨h.os, h.tape, h.output, h.size, fun b hb hv => h.block b hb (by simp)⟩
theorem Lies.block {w w1 : World} {v v' : Value} (h : Lies w w1 v v') {g : Nat} (hg : v'.ownBlock = some g) : v.ownBlock = some g ∨ w.heap.size ≤ g := by
  rcases h with ⟨_, h⟩ | ⟨_, h⟩
  · exact .inl (by rw [← h]; exact hg)
  · exact .inr (h g hg)
def GSt.addB (G : GSt) (v : Value) (L : Nat → Value) : GSt := { G with nb := G.nb + 1, bv := v, BL := fun i j => if i = G.nb then L j else G.BL i j }
theorem Great.addB {W w w1 : World} {tag : Nat → Nat} {G : GSt} {N : Nat} (h : Great W w tag G N) (v' : Value) (L : Nat → Value) (hl : Lies w w1 G.bv v') (ho : OwnFn w1 44 5 v' (G.nb + 1) (bsF (G.addB v' L))) (hN : 200 * (G.nb + 1) ≤ N)
    (hL : ∀ j, j < 4 → MkB w W.heap.size tag (G.nb % 251) (L j)) :
    Great W (w1.setCell ⟨W.heap.size, 1, none⟩ v') (tagN tag w.heap.size 2) (G.addB v' L) N := by
  obtain ⟨k1, k2, k3, k4, k5⟩ := hl.kept
  have hset : ∀ b, b ≠ W.heap.size → (w1.setCell ⟨W.heap.size, 1, none⟩ v').heap[b]? = w1.heap[b]? := fun b hb => Below.heap_setCell _ _ _ _ hb
  have hvt : ∀ b, G.bv.ownBlock = some b → tag b = 2 := fun b hb => (h.bs_t b hb).2
  have hkb : ∀ b, b < w.heap.size → tag b ≠ 2 → tag b ≠ 0 → (w1.setCell ⟨W.heap.size, 1, none⟩ v').heap[b]? = w.heap[b]? := fun b hb ht h0 =>
    (hset b (fun e => h0 (by rw [e]; exact h.top_t))).trans (k5 b hb (fun hv => ht (hvt b hv)))
  have hsz : w.heap.size ≤ (w1.setCell ⟨W.heap.size, 1, none⟩ v').heap.size := by simpa [World.setCell] using k4
  have htop1 : w1.rowIs W.heap.size 33 3 (fun j => if j = 0 then G.pv else if j = 1 then G.bv else G.lv) := h.top.of_block (k5 _ h.top.lt (fun hv => by have := hvt _ hv; rw [h.top_t] at this; omega))
  refine ⟨⟨k1.trans h.bel.os, k2.trans h.bel.tape, k3.trans h.bel.output, Nat.le_trans h.bel.size hsz, fun b hb => ?_⟩, ?_, ?_, ?_, ?_, ?_, ?_, ?_, ?_, ?bm, ?lm, ?box, ?box_t, ?pr, ?pr_t, ⟨h.cnt.1, hN, h.cnt.2.2⟩⟩
  · rw [hset b (by omega), k5 b (Nat.lt_of_lt_of_le hb h.bel.size) (fun hv => by have := (h.bs_t b hv).1; omega), h.bel.block b hb]
  · refine (htop1.set 1 v').congr (fun j hj => ?_)
    have : j = 0 ∨ j = 1 ∨ j = 2 := by omega
    rcases this with rfl | rfl | rfl <;> rfl
  · rw [tagN_lt h.top.lt]; exact h.top_t
  · exact h.ps.of_block (fun g hg => hkb g (h.ps.lt hg) (by rw [(h.ps_t g hg).2]; omega) (by rw [(h.ps_t g hg).2]; omega))
  · intro g hg
    rw [tagN_lt (h.ps.lt hg)]; exact h.ps_t g hg
  · refine ho.of_block (fun g hg => hset g (fun e => ?_))
    rcases hl.block hg with h1 | h1
    · have := (h.bs_t g h1).2; rw [e, h.top_t] at this; omega
    · have := h.top.lt; omega
  · intro g hg
    rcases hl.block hg with h1 | h1
    · rw [tagN_lt (h.bs.lt h1)]; exact h.bs_t g h1
    · rw [tagN_ge h1]; exact ⟨Nat.le_trans h.bel.size h1, rfl⟩
  · exact h.ls.of_block (fun g hg => hkb g (h.ls.lt hg) (by rw [(h.ls_t g hg).2]; omega) (by rw [(h.ls_t g hg).2]; omega))
  · intro g hg
    rw [tagN_lt (h.ls.lt hg)]; exact h.ls_t g hg
  case bm =>
    intro i j hi hj
    show MkB _ _ _ _ (if i = G.nb then L j else G.BL i j)
    by_cases e : i = G.nb
    · rw [if_pos e, e]
      exact (hL j hj).of_block hsz (fun k _ hk hlt => ⟨hkb k hlt (by omega) (by omega), by rw [tagN_lt hlt]; exact hk⟩)
    · rw [if_neg e]
      have hi' : i < G.nb := by have : i < G.nb + 1 := hi; omega
      exact (h.bm i j hi' hj).of_block hsz (fun k _ hk hlt => ⟨hkb k hlt (by omega) (by omega), by rw [tagN_lt hlt]; exact hk⟩)
  case lm =>
    intro i j hi hj
    exact (h.lm i j hi hj).of_block hsz (fun k _ hk hlt => ⟨hkb k hlt (by omega) (by omega), by rw [tagN_lt hlt]; exact hk⟩)
  case box =>
    intro j hj
    replace hj : j < G.n := hj
    exact (h.box j hj).of_block (hkb _ (h.box j hj).lt (by rw [(h.box_t j hj).2]; omega) (by rw [(h.box_t j hj).2]; omega))
  case box_t =>
    intro j hj
    replace hj : j < G.n := hj
    show W.heap.size ≤ G.pb j ∧ tagN tag w.heap.size _ (G.pb j) = 5
    rw [tagN_lt (h.box j hj).lt]; exact h.box_t j hj
  case pr =>
    intro j hj
    replace hj : j < G.n := hj
    exact (h.pr j hj).of_block (fun b hb => hkb b ((h.pr j hj).lt hb) (by rw [(h.pr_t j b hj hb).2]; omega) (by rw [(h.pr_t j b hj hb).2]; omega))
  case pr_t =>
    intro j b hj hb
    replace hj : j < G.n := hj
    replace hb : PFoot (G.xb j) (G.yb j) (G.Q j) b := hb
    rw [tagN_lt ((h.pr j hj).lt hb)]; exact h.pr_t j b hj hb

def GSt.addL (G : GSt) (v : Value) (L : Nat → Value) : GSt := { G with nl := G.nl + 1, lv := v, LL := fun i j => if i = G.nl then L j else G.LL i j }
theorem Great.addL {W w w1 : World} {tag : Nat → Nat} {G : GSt} {N : Nat} (h : Great W w tag G N) (v' : Value) (L : Nat → Value) (hl : Lies w w1 G.lv v') (ho : OwnFn w1 48 5 v' (G.nl + 1) (lsF (G.addL v' L))) (hN : 200 * (G.nl + 1) ≤ N)
    (hL : ∀ j, j < 4 → MkL w W.heap.size tag (-1000 - (G.nl : Nat) : Int) (L j)) :
    Great W (w1.setCell ⟨W.heap.size, 2, none⟩ v') (tagN tag w.heap.size 3) (G.addL v' L) N := by
  obtain ⟨k1, k2, k3, k4, k5⟩ := hl.kept
  have hset : ∀ b, b ≠ W.heap.size → (w1.setCell ⟨W.heap.size, 2, none⟩ v').heap[b]? = w1.heap[b]? := fun b hb => Below.heap_setCell _ _ _ _ hb
  have hvt : ∀ b, G.lv.ownBlock = some b → tag b = 3 := fun b hb => (h.ls_t b hb).2
  have hkb : ∀ b, b < w.heap.size → tag b ≠ 3 → tag b ≠ 0 → (w1.setCell ⟨W.heap.size, 2, none⟩ v').heap[b]? = w.heap[b]? := fun b hb ht h0 =>
    (hset b (fun e => h0 (by rw [e]; exact h.top_t))).trans (k5 b hb (fun hv => ht (hvt b hv)))
  have hsz : w.heap.size ≤ (w1.setCell ⟨W.heap.size, 2, none⟩ v').heap.size := by simpa [World.setCell] using k4
  have htop1 : w1.rowIs W.heap.size 33 3 (fun j => if j = 0 then G.pv else if j = 1 then G.bv else G.lv) := h.top.of_block (k5 _ h.top.lt (fun hv => by have := hvt _ hv; rw [h.top_t] at this; omega))
  refine ⟨⟨k1.trans h.bel.os, k2.trans h.bel.tape, k3.trans h.bel.output, Nat.le_trans h.bel.size hsz, fun b hb => ?_⟩, ?_, ?_, ?_, ?_, ?_, ?_, ?_, ?_, ?bm, ?lm, ?box, ?box_t, ?pr, ?pr_t, ⟨h.cnt.1, h.cnt.2.1, hN⟩⟩
  · rw [hset b (by omega), k5 b (Nat.lt_of_lt_of_le hb h.bel.size) (fun hv => by have := (h.ls_t b hv).1; omega), h.bel.block b hb]
  · refine (htop1.set 2 v').congr (fun j hj => ?_)
    have : j = 0 ∨ j = 1 ∨ j = 2 := by omega
    rcases this with rfl | rfl | rfl <;> rfl
  · rw [tagN_lt h.top.lt]; exact h.top_t
  · exact h.ps.of_block (fun g hg => hkb g (h.ps.lt hg) (by rw [(h.ps_t g hg).2]; omega) (by rw [(h.ps_t g hg).2]; omega))
  · intro g hg
    rw [tagN_lt (h.ps.lt hg)]; exact h.ps_t g hg
  · exact h.bs.of_block (fun g hg => hkb g (h.bs.lt hg) (by rw [(h.bs_t g hg).2]; omega) (by rw [(h.bs_t g hg).2]; omega))
  · intro g hg
    rw [tagN_lt (h.bs.lt hg)]; exact h.bs_t g hg
  · refine ho.of_block (fun g hg => hset g (fun e => ?_))
    rcases hl.block hg with h1 | h1
    · have := (h.ls_t g h1).2; rw [e, h.top_t] at this; omega
    · have := h.top.lt; omega
  · intro g hg
    rcases hl.block hg with h1 | h1
    · rw [tagN_lt (h.ls.lt h1)]; exact h.ls_t g h1
    · rw [tagN_ge h1]; exact ⟨Nat.le_trans h.bel.size h1, rfl⟩
  case bm =>
    intro i j hi hj
    exact (h.bm i j hi hj).of_block hsz (fun k _ hk hlt => ⟨hkb k hlt (by omega) (by omega), by rw [tagN_lt hlt]; exact hk⟩)
  case lm =>
    intro i j hi hj
    show MkL _ _ _ _ (if i = G.nl then L j else G.LL i j)
    by_cases e : i = G.nl
    · rw [if_pos e, e]
      exact (hL j hj).of_block hsz (fun k _ hk hlt => ⟨hkb k hlt (by omega) (by omega), by rw [tagN_lt hlt]; exact hk⟩)
    · rw [if_neg e]
      have hi' : i < G.nl := by have : i < G.nl + 1 := hi; omega
      exact (h.lm i j hi' hj).of_block hsz (fun k _ hk hlt => ⟨hkb k hlt (by omega) (by omega), by rw [tagN_lt hlt]; exact hk⟩)
  case box =>
    intro j hj
    replace hj : j < G.n := hj
    exact (h.box j hj).of_block (hkb _ (h.box j hj).lt (by rw [(h.box_t j hj).2]; omega) (by rw [(h.box_t j hj).2]; omega))
  case box_t =>
    intro j hj
    replace hj : j < G.n := hj
    show W.heap.size ≤ G.pb j ∧ tagN tag w.heap.size _ (G.pb j) = 5
    rw [tagN_lt (h.box j hj).lt]; exact h.box_t j hj
  case pr =>
    intro j hj
    replace hj : j < G.n := hj
    exact (h.pr j hj).of_block (fun b hb => hkb b ((h.pr j hj).lt hb) (by rw [(h.pr_t j b hj hb).2]; omega) (by rw [(h.pr_t j b hj hb).2]; omega))
  case pr_t =>
    intro j b hj hb
    replace hj : j < G.n := hj
    replace hb : PFoot (G.xb j) (G.yb j) (G.Q j) b := hb
    rw [tagN_lt ((h.pr j hj).lt hb)]; exact h.pr_t j b hj hb

def GSt.addP (G : GSt) (v : Value) (pbn xn yn : Nat) (q : PSt) : GSt := { G with n := G.n + 1, pv := v, pb := fun i => if i = G.n then pbn else G.pb i, xb := fun i => if i = G.n then xn else G.xb i, yb := fun i => if i = G.n then yn else G.yb i, Q := fun i => if i = G.n then q else G.Q i }
theorem Great.addP {W w w1 : World} {tag : Nat → Nat} {G : GSt} {N : Nat} (h : Great W w tag G N) (v' : Value) (pbn xn yn : Nat) (q : PSt) (hl : Lies w w1 G.pv v') (ho : OwnFn w1 38 1 v' (G.n + 1) (fun i => .pointer (some ⟨if i = G.n then pbn else G.pb i, 0, none⟩))) (hN : 200 * (G.n + 1) ≤ N)
    (hbox : w.rowIs pbn 63 2 (fun j => if j = 0 then .pointer (some ⟨xn, 0, none⟩) else .pointer (some ⟨yn, 0, none⟩))) (hbt : W.heap.size ≤ pbn ∧ tag pbn = 5) (hpr : PairAt w xn yn q N) (hpt : ∀ b, PFoot xn yn q b → W.heap.size ≤ b ∧ tag b = 7 + G.n) :
    Great W (w1.setCell ⟨W.heap.size, 0, none⟩ v') (tagN tag w.heap.size 1) (G.addP v' pbn xn yn q) N := by
  obtain ⟨k1, k2, k3, k4, k5⟩ := hl.kept
  have hset : ∀ b, b ≠ W.heap.size → (w1.setCell ⟨W.heap.size, 0, none⟩ v').heap[b]? = w1.heap[b]? := fun b hb => Below.heap_setCell _ _ _ _ hb
  have hvt : ∀ b, G.pv.ownBlock = some b → tag b = 1 := fun b hb => (h.ps_t b hb).2
  have hkb : ∀ b, b < w.heap.size → tag b ≠ 1 → tag b ≠ 0 → (w1.setCell ⟨W.heap.size, 0, none⟩ v').heap[b]? = w.heap[b]? := fun b hb ht h0 =>
    (hset b (fun e => h0 (by rw [e]; exact h.top_t))).trans (k5 b hb (fun hv => ht (hvt b hv)))
  have hsz : w.heap.size ≤ (w1.setCell ⟨W.heap.size, 0, none⟩ v').heap.size := by simpa [World.setCell] using k4
  have htop1 : w1.rowIs W.heap.size 33 3 (fun j => if j = 0 then G.pv else if j = 1 then G.bv else G.lv) := h.top.of_block (k5 _ h.top.lt (fun hv => by have := hvt _ hv; rw [h.top_t] at this; omega))
  refine ⟨⟨k1.trans h.bel.os, k2.trans h.bel.tape, k3.trans h.bel.output, Nat.le_trans h.bel.size hsz, fun b hb => ?_⟩, ?_, ?_, ?_, ?_, ?_, ?_, ?_, ?_, ?bm, ?lm, ?box, ?box_t, ?pr, ?pr_t, ⟨hN, h.cnt.2.1, h.cnt.2.2⟩⟩
  · rw [hset b (by omega), k5 b (Nat.lt_of_lt_of_le hb h.bel.size) (fun hv => by have := (h.ps_t b hv).1; omega), h.bel.block b hb]
  · refine (htop1.set 0 v').congr (fun j hj => ?_)
    have : j = 0 ∨ j = 1 ∨ j = 2 := by omega
    rcases this with rfl | rfl | rfl <;> rfl
  · rw [tagN_lt h.top.lt]; exact h.top_t
  · refine ho.of_block (fun g hg => hset g (fun e => ?_))
    rcases hl.block hg with h1 | h1
    · have := (h.ps_t g h1).2; rw [e, h.top_t] at this; omega
    · have := h.top.lt; omega
  · intro g hg
    rcases hl.block hg with h1 | h1
    · rw [tagN_lt (h.ps.lt h1)]; exact h.ps_t g h1
    · rw [tagN_ge h1]; exact ⟨Nat.le_trans h.bel.size h1, rfl⟩
  · exact h.bs.of_block (fun g hg => hkb g (h.bs.lt hg) (by rw [(h.bs_t g hg).2]; omega) (by rw [(h.bs_t g hg).2]; omega))
  · intro g hg
    rw [tagN_lt (h.bs.lt hg)]; exact h.bs_t g hg
  · exact h.ls.of_block (fun g hg => hkb g (h.ls.lt hg) (by rw [(h.ls_t g hg).2]; omega) (by rw [(h.ls_t g hg).2]; omega))
  · intro g hg
    rw [tagN_lt (h.ls.lt hg)]; exact h.ls_t g hg
  case bm =>
    intro i j hi hj
    exact (h.bm i j hi hj).of_block hsz (fun k _ hk hlt => ⟨hkb k hlt (by omega) (by omega), by rw [tagN_lt hlt]; exact hk⟩)
  case lm =>
    intro i j hi hj
    exact (h.lm i j hi hj).of_block hsz (fun k _ hk hlt => ⟨hkb k hlt (by omega) (by omega), by rw [tagN_lt hlt]; exact hk⟩)
  case box =>
    intro j hj
    show World.rowIs _ (if j = G.n then pbn else G.pb j) _ _ (fun i => if i = 0 then .pointer (some ⟨if j = G.n then xn else G.xb j, 0, none⟩) else .pointer (some ⟨if j = G.n then yn else G.yb j, 0, none⟩))
    by_cases e : j = G.n
    · simp only [e, if_true]
      exact hbox.of_block (hkb _ hbox.lt (by omega) (by omega))
    · simp only [e, if_false]
      have hj' : j < G.n := by have : j < G.n + 1 := hj; omega
      exact (h.box j hj').of_block (hkb _ (h.box j hj').lt (by rw [(h.box_t j hj').2]; omega) (by rw [(h.box_t j hj').2]; omega))
  case box_t =>
    intro j hj
    show W.heap.size ≤ (if j = G.n then pbn else G.pb j) ∧ tagN tag w.heap.size 1 (if j = G.n then pbn else G.pb j) = 5
    by_cases e : j = G.n
    · rw [if_pos e, tagN_lt hbox.lt]; exact hbt
    · rw [if_neg e]
      have hj' : j < G.n := by have : j < G.n + 1 := hj; omega
      rw [tagN_lt (h.box j hj').lt]; exact h.box_t j hj'
  case pr =>
    intro j hj
    show PairAt _ (if j = G.n then xn else G.xb j) (if j = G.n then yn else G.yb j) (if j = G.n then q else G.Q j) N
    by_cases e : j = G.n
    · simp only [e, if_true]
      exact hpr.of_block (fun b hb => hkb b (hpr.lt hb) (by rw [(hpt b hb).2]; omega) (by rw [(hpt b hb).2]; omega))
    · simp only [e, if_false]
      have hj' : j < G.n := by have : j < G.n + 1 := hj; omega
      exact (h.pr j hj').of_block (fun b hb => hkb b ((h.pr j hj').lt hb) (by rw [(h.pr_t j b hj' hb).2]; omega) (by rw [(h.pr_t j b hj' hb).2]; omega))
  case pr_t =>
    intro j b hj hb
    replace hb : PFoot (if j = G.n then xn else G.xb j) (if j = G.n then yn else G.yb j) (if j = G.n then q else G.Q j) b := hb
    by_cases e : j = G.n
    · simp only [e, if_true] at hb
      rw [tagN_lt (hpr.lt hb), e]; exact hpt b hb
    · simp only [e, if_false] at hb
      have hj' : j < G.n := by have : j < G.n + 1 := hj; omega
      rw [tagN_lt ((h.pr j hj').lt hb)]; exact h.pr_t j b hj' hb

end Go.Proofs.YtfpoiikhhjdpdaaGreat

/- hoardlaw: lists that are the same; lists that bear a mark. -/
namespace Go.Proofs.YtfpoiikhhjdpdaaGreat
open Go.RowKit
set_option linter.unusedVariables false
attribute [local go_sem ↓] Go.wp_at_zero Go.wp_at_succ
set_option maxRecDepth 100000 in
set_option maxHeartbeats 1000000 in
theorem lsameCell_eq (x : C4) (w : World) :
    Calls Tryz.prog 35 #[x.val, x.val] w fun e w' => e = .returned (.bool true) ∧ Below w.heap.size w w' := by
  obtain ⟨x0, x1, x2, x3⟩ := x
  unfold C4.val
  go_enter Tryz.func35, Tryz.ntmps35
  go_wp2
  refine wp_loop_rounds 5 ?_
  iterate 4 (rw [rounds_succ]; go_wp2; go_quiet (fail); go_wp2)
  rw [rounds_succ]
  go_wp2
  go_ret
  exact ⟨rfl, by repeat (first | exact Below.refl _ _ | refine below_drewN ?_ _ | refine Below.drew ?_ | refine Below.alloc ?_ (by simp <;> omega) _)⟩
set_option maxRecDepth 100000 in
set_option maxHeartbeats 1000000 in
theorem lsameBytes_eq (pa pb : Option Addr) (n ca cb : Nat) (f : Nat → Nat) (w : World) (hn : n ≤ 1000) (ha : BytesAt w pa n f) (hb : BytesAt w pb n f) :
    Calls Tryz.prog 27 #[.slice pa n ca, .slice pb n cb] w fun e w' => e = .returned (.bool true) ∧ ∃ q, w' = w.drewN q := by
  have HA : Hid (BytesAt w pa n f) := ha
  have HB : Hid (BytesAt w pb n f) := hb
  clear ha hb
  go_enter Tryz.func27, Tryz.ntmps27
  go_wp2
  go_loopw [5] (fun i wr => ∃ k : Nat, k ≤ n ∧ i = .int .i64 k ∧ ∃ q, wr = w.drewN q) (fun i _ => n - (intOf i).toNat)
  case atStart => exact ⟨0, by omega, rfl, 0, rfl⟩
  case round =>
    obtain ⟨k, hk, rfl, q, rfl⟩ := hrel
    by_cases hlt : k < n
    · have hki : (k : Int) < (n : Int) := by omega
      obtain ⟨b1, o1, rfl, x1, _⟩ := HA.out k hlt
      obtain ⟨b2, o2, rfl, x2, _⟩ := HB.out k hlt
      have hl1 := block_lt_of_cell x1
      have hl2 := block_lt_of_cell x2
      simp only at hl1 hl2
      generalize f k = fk at *
      go_wp2
      go_quiet (fail)
      go_wp2
      exact ⟨⟨k + 1, by omega, by go_num, _, rfl⟩, by simp [intOf]; omega⟩
    · go_wp2
      go_ret
      exact ⟨rfl, _, rfl⟩
set_option maxRecDepth 100000 in
set_option maxHeartbeats 1000000 in
theorem allBytes_eq (p : Option Addr) (n c m : Nat) (w : World) (hn : n ≤ 1000) (ha : ∀ j, j < n → ∃ g, p = some ⟨g, 0, none⟩ ∧ w.cell? ⟨g, j, none⟩ = some (.int .u8 m)) :
    Calls Tryz.prog 17 #[.slice p n c, .int .u8 m] w fun e w' => e = .returned (.bool true) ∧ ∃ q, w' = w.drewN q := by
  have HA : Hid (∀ j, j < n → ∃ g, p = some ⟨g, 0, none⟩ ∧ w.cell? ⟨g, j, none⟩ = some (.int .u8 m)) := ha
  clear ha
  go_enter Tryz.func17, Tryz.ntmps17
  go_wp2
  go_loopw [5] (fun i wr => ∃ k : Nat, k ≤ n ∧ i = .int .i64 k ∧ ∃ q, wr = w.drewN q) (fun i _ => n - (intOf i).toNat)
  case atStart => exact ⟨0, by omega, rfl, 0, rfl⟩
  case round =>
    obtain ⟨k, hk, rfl, q, rfl⟩ := hrel
    by_cases hlt : k < n
    · have hki : (k : Int) < (n : Int) := by omega
      obtain ⟨b1, rfl, x1⟩ := HA.out k hlt
      have hl1 := block_lt_of_cell x1
      simp only at hl1
      go_wp2
      first
        | exact ⟨⟨k + 1, by omega, by go_num, _, rfl⟩, by simp [intOf]; omega⟩
        | (go_quiet (fail)
           go_wp2
           exact ⟨⟨k + 1, by omega, by go_num, _, rfl⟩, by simp [intOf]; omega⟩)
    · go_wp2
      go_ret
      exact ⟨rfl, _, rfl⟩
/-- Records that lie behind an address. -/
def RecsAt (w : World) (p : Option Addr) (l : List Rec) : Prop := ∀ k, k < l.length → ∃ g x, p = some ⟨g, 0, none⟩ ∧ l[k]? = some x ∧ w.cell? ⟨g, k * 5, none⟩ = some (.int .i64 x.row) ∧ w.cell? ⟨g, k * 5 + 1, none⟩ = some (.int .u8 x.c.b0) ∧ w.cell? ⟨g, k * 5 + 2, none⟩ = some (.int .u8 x.c.b1) ∧ w.cell? ⟨g, k * 5 + 3, none⟩ = some (.int .u8 x.c.b2) ∧ w.cell? ⟨g, k * 5 + 4, none⟩ = some (.int .u8 x.c.b3)
theorem LogAt.recs {w : World} {v : Value} {l : List Rec} (h : LogAt w v l) : ∃ p cap, v = .slice p l.length cap ∧ RecsAt w p l := by
  obtain ⟨p, cap, e, hc⟩ := h.slice
  refine ⟨p, cap, e, fun k hk => ?_⟩
  obtain ⟨g, x, h1, _, h2, h3⟩ := hc k hk
  exact ⟨g, x, h1, h2, h3⟩
theorem RecsAt.below {w w' : World} {p : Option Addr} {l : List Rec} (h : RecsAt w p l) (k : Below w.heap.size w w') : RecsAt w' p l := fun i hi => by
  obtain ⟨g, x, e, hx, h0, h1, h2, h3, h4⟩ := h i hi
  exact ⟨g, x, e, hx, below_cell' k h0, below_cell' k h1, below_cell' k h2, below_cell' k h3, below_cell' k h4⟩
set_option maxRecDepth 100000 in
set_option maxHeartbeats 1000000 in
theorem lsameLog_eq (pa pb : Option Addr) (ca cb : Nat) (l : List Rec) (w : World) (hn : l.length ≤ 1000) (ha : RecsAt w pa l) (hb : RecsAt w pb l) :
    Calls Tryz.prog 38 #[.slice pa l.length ca, .slice pb l.length cb] w fun e w' => e = .returned (.bool true) ∧ Below w.heap.size w w' := by
  have HA : Hid (RecsAt w pa l) := ha
  have HB : Hid (RecsAt w pb l) := hb
  have HN : Hid (l.length = l.length) := rfl
  clear ha hb
  generalize hln : l.length = n at *
  have HLN : Hid (l.length = n) := hln
  clear hln HN
  go_enter Tryz.func38, Tryz.ntmps38
  go_wp2
  go_loopw [5, 6] (fun i _ wr => ∃ k : Nat, k ≤ n ∧ i = .int .i64 k ∧ Below w.heap.size w wr) (fun i _ _ => n - (intOf i).toNat)
  case atStart => exact ⟨0, by omega, rfl, Below.refl _ _⟩
  case round =>
    obtain ⟨k, hk, rfl, hbel⟩ := hrel
    by_cases hlt : k < n
    · have hki : (k : Int) < (n : Int) := by omega
      obtain ⟨b1, x, rfl, hx, x0, x1, x2, x3, x4⟩ := (HA.out.below hbel) k (by rw [HLN.out]; exact hlt)
      obtain ⟨b2, y, rfl, hy, y0, y1, y2, y3, y4⟩ := (HB.out.below hbel) k (by rw [HLN.out]; exact hlt)
      obtain rfl : x = y := by rw [hx] at hy; injection hy
      have hl1 := block_lt_of_cell x0
      have hl2 := block_lt_of_cell y0
      simp only at hl1 hl2
      have HS : Hid (∀ W, Calls Tryz.prog 35 #[.agg #[.int .u8 x.c.b0, .int .u8 x.c.b1, .int .u8 x.c.b2, .int .u8 x.c.b3], .agg #[.int .u8 x.c.b0, .int .u8 x.c.b1, .int .u8 x.c.b2, .int .u8 x.c.b3]] W fun e w' => e = .returned (.bool true) ∧ Below W.heap.size W w') := fun W => lsameCell_eq x.c W
      have HX0 : Hid (∀ W, Below wr.heap.size wr W → W.cell? ⟨b1, k * 5, none⟩ = some (.int .i64 x.row) ∧ W.cell? ⟨b2, k * 5, none⟩ = some (.int .i64 x.row) ∧ b1 < W.heap.size ∧ b2 < W.heap.size) := fun W kW => ⟨below_cell' kW x0, below_cell' kW y0, Nat.lt_of_lt_of_le hl1 kW.size, Nat.lt_of_lt_of_le hl2 kW.size⟩
      clear hx hy
      go_wp2_with fail
      go_region_with ((go_at_call 35; go_must (refine (HS.out _).mono ?_); rintro e w3 ⟨rfl, k3⟩; have K3 : Below wr.heap.size wr w3 := below_from k3 rfl rfl rfl rfl))
      all_goals
        obtain ⟨q1, q2, q3, q4⟩ := HX0.out w3 K3
        have HB3 : Hid (Below w.heap.size w w3) := hbel.trans (K3.mono hbel.size)
        clear x0 x1 x2 x3 x4 y0 y1 y2 y3 y4 K3 k3 hl1 hl2 HX0
        go_wp2_with fail
        first
          | exact ⟨⟨k + 1, by omega, by go_num, by repeat (first | exact HB3.out | refine Below.drew ?_)⟩, by simp [intOf]; omega⟩
          | (go_quiet (fail)
             go_wp2
             exact ⟨⟨k + 1, by omega, by go_num, by repeat (first | exact HB3.out | refine Below.drew ?_ | refine below_drewN ?_ _)⟩, by simp [intOf]; omega⟩)
    · go_wp2
      go_ret
      exact ⟨rfl, hbel⟩
set_option maxRecDepth 100000 in
set_option maxHeartbeats 1000000 in
theorem allLog_eq (p : Option Addr) (n c : Nat) (m : Int) (w : World) (hn : n ≤ 1000) (ha : ∀ j, j < n → ∃ g, p = some ⟨g, 0, none⟩ ∧ w.cell? ⟨g, j * 5, none⟩ = some (.int .i64 m) ∧ ∀ i, i < 4 → w.cell? ⟨g, j * 5 + 1 + i, none⟩ = some (.int .u8 0)) :
    Calls Tryz.prog 18 #[.slice p n c, .int .i64 m] w fun e w' => e = .returned (.bool true) ∧ Below w.heap.size w w' := by
  have HA : Hid (∀ j, j < n → ∃ g, p = some ⟨g, 0, none⟩ ∧ w.cell? ⟨g, j * 5, none⟩ = some (.int .i64 m) ∧ ∀ i, i < 4 → w.cell? ⟨g, j * 5 + 1 + i, none⟩ = some (.int .u8 0)) := ha
  clear ha
  go_enter Tryz.func18, Tryz.ntmps18
  go_wp2
  go_loopw [5, 6] (fun i _ wr => ∃ k : Nat, k ≤ n ∧ i = .int .i64 k ∧ Below w.heap.size w wr) (fun i _ _ => n - (intOf i).toNat)
  case atStart => exact ⟨0, by omega, rfl, Below.refl _ _⟩
  case round =>
    obtain ⟨k, hk, rfl, hbel⟩ := hrel
    by_cases hlt : k < n
    · have hki : (k : Int) < (n : Int) := by omega
      obtain ⟨b1, rfl, z0, hz⟩ := HA.out k hlt
      have x0 := below_cell' hbel z0
      have x1 := below_cell' hbel (hz 0 (by omega))
      have x2 := below_cell' hbel (hz 1 (by omega))
      have x3 := below_cell' hbel (hz 2 (by omega))
      have x4 := below_cell' hbel (hz 3 (by omega))
      simp only [Nat.add_zero] at x1
      have hl1 := block_lt_of_cell x0
      simp only at hl1
      have HS : Hid (∀ W, Calls Tryz.prog 35 #[.agg #[.int .u8 0, .int .u8 0, .int .u8 0, .int .u8 0], .agg #[.int .u8 0, .int .u8 0, .int .u8 0, .int .u8 0]] W fun e w' => e = .returned (.bool true) ∧ Below W.heap.size W w') := fun W => lsameCell_eq C4.zero W
      have HX0 : Hid (∀ W, Below wr.heap.size wr W → W.cell? ⟨b1, k * 5, none⟩ = some (.int .i64 m) ∧ b1 < W.heap.size) := fun W kW => ⟨below_cell' kW x0, Nat.lt_of_lt_of_le hl1 kW.size⟩
      clear z0 hz
      go_wp2_with fail
      first
        | go_region_with ((go_at_call 35; go_must (refine (HS.out _).mono ?_); rintro e w3 ⟨rfl, k3⟩; have K3 : Below wr.heap.size wr w3 := below_from k3 rfl rfl rfl rfl))
        | (refine (HS.out _).mono ?_
           rintro e w3 ⟨rfl, K3⟩)
      all_goals
        obtain ⟨q1, q2⟩ := HX0.out w3 K3
        have HB3 : Hid (Below w.heap.size w w3) := hbel.trans (K3.mono hbel.size)
        clear x0 x1 x2 x3 x4 K3 hl1 HX0
        go_wp2_with fail
        first
          | exact ⟨⟨k + 1, by omega, by go_num, by repeat (first | exact HB3.out | refine Below.drew ?_)⟩, by simp [intOf]; omega⟩
          | (go_quiet (fail)
             go_wp2
             exact ⟨⟨k + 1, by omega, by go_num, by repeat (first | exact HB3.out | refine Below.drew ?_ | refine below_drewN ?_ _)⟩, by simp [intOf]; omega⟩)
    · go_wp2
      go_ret
      exact ⟨rfl, hbel⟩
end Go.Proofs.YtfpoiikhhjdpdaaGreat

/- hoardlaw: a list that came out gets its owner's mark. -/
namespace Go.Proofs.YtfpoiikhhjdpdaaGreat
open Go.RowKit
set_option linter.unusedVariables false
attribute [local go_sem ↓] Go.wp_at_zero Go.wp_at_succ
theorem appU8 : AppInfo 42 5 1 1 := by
  have h : (Tryz.prog.info? 5).map (fun i => (i.zero, i.size, i.bytes)) = some (some (.int .u8 0), 1, 1) := by kernel_rfl
  obtain ⟨i, h1, h2, h3, h4⟩ := info_of h
  exact ⟨i, _, Tryz.underlying42, h1, h2, h3, h4, rfl, by omega⟩
theorem appBytes : AppInfo 28 44 5 104 := by
  have h : (Tryz.prog.info? 44).map (fun i => (i.zero, i.size, i.bytes)) = some (some (.agg #[.slice none 0 0, .slice none 0 0, .slice none 0 0, .slice none 0 0, .int .u8 0]), 5, 104) := by kernel_rfl
  obtain ⟨i, h1, h2, h3, h4⟩ := info_of h
  exact ⟨i, _, Tryz.underlying28, h1, h2, h3, h4, rfl, by omega⟩
theorem appLogs : AppInfo 29 48 5 104 := by
  have h : (Tryz.prog.info? 48).map (fun i => (i.zero, i.size, i.bytes)) = some (some (.agg #[.slice none 0 0, .slice none 0 0, .slice none 0 0, .slice none 0 0, .int .i64 0]), 5, 104) := by kernel_rfl
  obtain ⟨i, h1, h2, h3, h4⟩ := info_of h
  exact ⟨i, _, Tryz.underlying29, h1, h2, h3, h4, rfl, by omega⟩
theorem appPair : AppInfo 27 38 1 8 := by
  have h : (Tryz.prog.info? 38).map (fun i => (i.zero, i.size, i.bytes)) = some (some (.pointer none), 1, 8) := by kernel_rfl
  obtain ⟨i, h1, h2, h3, h4⟩ := info_of h
  exact ⟨i, _, Tryz.underlying27, h1, h2, h3, h4, rfl, by omega⟩
/-- A list all of whose cells are known by their number. -/
def MarkF (w : World) (size : Nat) (F : Nat → Value) (v : Value) (n : Nat) : Prop :=
  ∃ p cap, v = .slice p n cap ∧ (∀ g o sp, p = some ⟨g, o, sp⟩ → g < w.heap.size) ∧ ∀ j, j < n * size → ∃ g, p = some ⟨g, 0, none⟩ ∧ w.cell? ⟨g, j, none⟩ = some (F j)
theorem MarkF.of_own {w : World} {base e size n : Nat} {v : Value} {xs : List Value} {F : Nat → Value} (h : w.ownsRow base e size v n xs) (hx : ∀ j, j < n * size → xs[j]? = some (F j)) : MarkF w size F v n := by
  rcases h.2 with ⟨rfl, rfl⟩ | ⟨g, cap, cur, rfl, hb, hg, hc, hm, hs, ht⟩
  · exact ⟨none, 0, rfl, fun g o sp e => (by cases e), fun j hj => (by omega)⟩
  · refine ⟨some ⟨g, 0, none⟩, cap, rfl, fun g' o sp e => ?_, fun j hj => ⟨g, rfl, ?_⟩⟩
    · injection e with e; injection e with e; rw [← e]; exact (World.ownsRow.lt h g rfl).2
    · rw [World.ownsRow.cellAt h j hj]; exact hx j hj
theorem MarkF.own {w : World} {size n : Nat} {v : Value} {F : Nat → Value} (h : MarkF w size F v n) {g : Nat} (hg : v.ownBlock = some g) : g < w.heap.size := by
  obtain ⟨p, cap, rfl, hp, _⟩ := h
  cases p with
  | none => cases hg
  | some a =>
    obtain ⟨b, o, sp⟩ := a
    have : b = g := by simpa [Value.ownBlock] using hg
    rw [← this]; exact hp b o sp rfl
/-- Behind an append of marks onto a list of marks, each such list bears its marks. -/
theorem MarkF.append {w w' : World} {size n n' base e : Nat} {u v v' : Value} {xs : List Value} {F : Nat → Value} (h : MarkF w size F u n) (hn : n ≤ n') (hl : Lies w w' v v') (ho : w'.ownsRow base e size v' n' xs) (hx : ∀ j, j < n' * size → xs[j]? = some (F j)) : MarkF w' size F u n := by
  obtain ⟨p, cap, rfl, hp, hc⟩ := h
  obtain ⟨_, _, _, k4, k5⟩ := hl.kept
  have hnn : n * size ≤ n' * size := Nat.mul_le_mul_right _ hn
  refine ⟨p, cap, rfl, fun g o sp e => Nat.lt_of_lt_of_le (hp g o sp e) k4, fun j hj => ?_⟩
  obtain ⟨g, rfl, hcell⟩ := hc j hj
  refine ⟨g, rfl, ?_⟩
  have hlt := hp g 0 none rfl
  by_cases hv : v.ownBlock = some g
  · rcases hl with ⟨_, hl⟩ | ⟨hl, _⟩
    · rw [hv] at hl
      rcases ho.2 with ⟨rfl, _⟩ | ⟨g2, cap2, cur, rfl, _⟩
      · cases hl
      · have hg2 : g2 = g := by simpa [Value.ownBlock] using hl
        subst hg2
        rw [World.ownsRow.cellAt ho j (by omega)]; exact hx j (by omega)
    · exact (World.cell?_of_block (hl.block g hlt (by simp))).trans hcell
  · exact (World.cell?_of_block (k5 g hlt hv)).trans hcell
theorem MarkF.alloc {w : World} {size n : Nat} {v : Value} {F : Nat → Value} (h : MarkF w size F v n) (o : Obj) : MarkF (w.alloc o) size F v n := by
  obtain ⟨p, cap, rfl, hp, hc⟩ := h
  refine ⟨p, cap, rfl, fun g o' sp e => by have := hp g o' sp e; simp; omega, fun j hj => ?_⟩
  obtain ⟨g, rfl, hcell⟩ := hc j hj
  exact ⟨g, rfl, (World.cell?_alloc_lt _ _ _ (hp g 0 none rfl)).trans hcell⟩
theorem MarkF.heap {w w' : World} {size n : Nat} {v : Value} {F : Nat → Value} (h : MarkF w size F v n) (e : w'.heap = w.heap) : MarkF w' size F v n := by
  obtain ⟨p, cap, rfl, hp, hc⟩ := h
  refine ⟨p, cap, rfl, fun g o' sp e' => by rw [e]; exact hp g o' sp e', fun j hj => ?_⟩
  obtain ⟨g, rfl, hcell⟩ := hc j hj
  exact ⟨g, rfl, (World.cell?_of_block (by rw [e])).trans hcell⟩
/-- What marking a list and appending thrice leaves: the four lists, and what else has turned. -/
structure Marked (w w' : World) (size : Nat) (F : Nat → Value) (v : Value) (n : Nat) (L : Nat → Value) : Prop where
  mark : ∀ j, j < 4 → MarkF w' size F (L j) (n + j)
  own : ∀ j g, j < 4 → (L j).ownBlock = some g → v.ownBlock = some g ∨ w.heap.size ≤ g
  kept : Kept (fun b => v.ownBlock = some b) w w'
theorem get_snoc {xs : List Value} {F : Nat → Value} {n size : Nat} {news : List Value} (hl : xs.length = n * size) (hx : ∀ j, j < n * size → xs[j]? = some (F j)) (hnl : news.length = size) (hn : ∀ j, j < size → news[j]? = some (F (n * size + j))) : ∀ j, j < (n + 1) * size → (xs ++ news)[j]? = some (F j) := by
  intro j hj
  by_cases h : j < n * size
  · rw [List.getElem?_append_left (by omega)]; exact hx j h
  · have e : (n + 1) * size = n * size + size := Nat.succ_mul n size
    rw [List.getElem?_append_right (by omega), hl, hn (j - n * size) (by omega), show n * size + (j - n * size) = j by omega]
theorem Lies.keptL {w w1 : World} {v v' : Value} (h : Lies w w1 v v') : Kept (fun b => v.ownBlock = some b) w w1 := by
  obtain ⟨k1, k2, k3, k4, k5⟩ := h.kept
  exact ⟨k1, k2, k3, k4, k5⟩
/-- Marked, and so many appended. -/
structure MkTo (w w' : World) (e size : Nat) (F : Nat → Value) (v : Value) (n : Nat) (L : Nat → Value) (i : Nat) (xs : List Value) : Prop where
  mark : ∀ j, j ≤ i → MarkF w' size F (L j) (n + j)
  own : ∀ j g, j ≤ i → (L j).ownBlock = some g → v.ownBlock = some g ∨ w.heap.size ≤ g
  kept : Kept (fun b => v.ownBlock = some b) w w'
  row : w'.ownsRow 0 e size (L i) (n + i) xs
  all : ∀ j, j < (n + i) * size → xs[j]? = some (F j)
theorem MkTo.start {w w' : World} {e size : Nat} {F : Nat → Value} {v : Value} {n : Nat} {xs : List Value} (k : Kept (fun b => v.ownBlock = some b) w w') (h : w'.ownsRow 0 e size v n xs) (ha : ∀ j, j < n * size → xs[j]? = some (F j)) : MkTo w w' e size F v n (fun _ => v) 0 xs :=
  ⟨fun j hj => by
    obtain rfl : j = 0 := by omega
    exact MarkF.of_own h ha, fun j g _ hg => .inl hg, k, h, ha⟩
theorem MkTo.step {w w' w2 : World} {e size : Nat} {F : Nat → Value} {v v2 : Value} {n i : Nat} {L : Nat → Value} {xs news : List Value} {o : Obj} (h : MkTo w w' e size F v n L i xs) (hl : Lies (w'.alloc o) w2 (L i) v2) (ho : w2.ownsRow 0 e size v2 (n + i + 1) (xs ++ news)) (hnl : news.length = size) (hn : ∀ j, j < size → news[j]? = some (F ((n + i) * size + j))) :
    MkTo w w2 e size F v n (fun j => if j = i + 1 then v2 else L j) (i + 1) (xs ++ news) := by
  have hall : ∀ j, j < (n + i + 1) * size → (xs ++ news)[j]? = some (F j) := get_snoc h.row.1 h.all hnl hn
  have hsz : w'.heap.size ≤ (w'.alloc o).heap.size := by simp
  refine ⟨fun j hj => ?_, fun j g hj hg => ?_, ?_, ?_, hall⟩
  · by_cases e : j = i + 1
    · simp only [e, if_true]
      exact MarkF.of_own ho hall
    · simp only [e, if_false]
      exact ((h.mark j (by omega)).alloc o).append (by omega) hl ho hall
  · by_cases e : j = i + 1
    · simp only [e, if_true] at hg
      rcases hl.block hg with h1 | h1
      · exact h.own i g (Nat.le_refl _) h1
      · exact .inr (Nat.le_trans h.kept.size (Nat.le_trans hsz h1))
    · simp only [e, if_false] at hg
      exact h.own j g (by omega) hg
  · exact (h.kept.alloc o).trans' hl.keptL (fun b hb => h.own i b (Nat.le_refl _) hb)
  · simp only [if_true]
    exact ho
theorem MkTo.done {w w' : World} {e size : Nat} {F : Nat → Value} {v : Value} {n : Nat} {L : Nat → Value} {xs : List Value} (h : MkTo w w' e size F v n L 3 xs) : Marked w w' size F v n L := ⟨fun j hj => h.mark j (by omega), fun j g hj => h.own j g (by omega), h.kept⟩
theorem Marked.alloc {w w' : World} {size : Nat} {F : Nat → Value} {v : Value} {n : Nat} {L : Nat → Value} (h : Marked w w' size F v n L) (o : Obj) : Marked w (w'.alloc o) size F v n L := ⟨fun j hj => (h.mark j hj).alloc o, h.own, h.kept.alloc o⟩
end Go.Proofs.YtfpoiikhhjdpdaaGreat
