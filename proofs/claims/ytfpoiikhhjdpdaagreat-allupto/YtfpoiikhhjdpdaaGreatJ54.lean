import Derived.Test.YtfpoiikhhjdpdaaGreatJ28
import Derived.Test.YtfpoiikhhjdpdaaGreatJ20
import Derived.Test.YtfpoiikhhjdpdaaGreatJ15
import Derived.Test.YtfpoiikhhjdpdaaGreatJ03
import Derived.Test.YtfpoiikhhjdpdaaGreatJ16
/- hoardlaw.moved: Scrub. -/
namespace Go.Proofs.YtfpoiikhhjdpdaaGreat
open Go.RowKit
set_option linter.unusedVariables false
attribute [local go_sem ↓] Go.wp_at_zero Go.wp_at_succ
set_option maxRecDepth 100000 in
set_option maxHeartbeats 1000000 in
theorem moved_scrub (pb x y : Nat) (q : PSt) (M N : Nat) (o : OpV) (w : World) (hk : o.k = 17) (hb0 : w.cell? ⟨pb, 0, none⟩ = some (.pointer (some ⟨x, 0, none⟩))) (hb1 : w.cell? ⟨pb, 1, none⟩ = some (.pointer (some ⟨y, 0, none⟩))) (hnp : ¬ PFoot x y q pb) (p : PairAt w x y q M)
    (hX : ∀ W, Below w.heap.size w W → Calls Tryz.prog 58 #[.pointer (some ⟨x, 0, none⟩), .int .i64 o.b] W fun e w1 => ∃ k z : Int, e = .returned (.tuple #[.int .i64 k, .int .i64 z]) ∧ XPost 59 #[.pointer (some ⟨y, 0, none⟩), .int .i64 o.b] W x y q N (.tuple #[.int .i64 k, .int .i64 z]) w1) :
    Calls Tryz.prog 16 #[o.val, .pointer (some ⟨pb, 0, none⟩)] w fun e w' => e = .returned (.bool true) ∧ ∃ q', PTurn w w' x y q q' N := by
  obtain ⟨k, a0, b0, c0, d0, e0, s0⟩ := o
  simp only at hk hX
  subst hk
  have HX : Hid (∀ W, Below w.heap.size w W → W.cell? ⟨pb, 1, none⟩ = some (.pointer (some ⟨y, 0, none⟩)) → W.cell? ⟨w.heap.size, 2, none⟩ = some (.int .i64 b0) → Calls Tryz.prog 58 #[.pointer (some ⟨x, 0, none⟩), .int .i64 b0] W fun e w1 => ∃ k z : Int, e = .returned (.tuple #[.int .i64 k, .int .i64 z]) ∧ Hid (XPost 59 #[.pointer (some ⟨y, 0, none⟩), .int .i64 b0] w x y q N (.tuple #[.int .i64 k, .int .i64 z]) w1) ∧ w1.cell? ⟨pb, 0, none⟩ = some (.pointer (some ⟨x, 0, none⟩)) ∧ w1.cell? ⟨pb, 1, none⟩ = some (.pointer (some ⟨y, 0, none⟩)) ∧ w1.cell? ⟨w.heap.size, 2, none⟩ = some (.int .i64 b0)) := fun W hW h1 h2 => by
    refine (hX W hW).mono ?_
    rintro e w1 ⟨k, z, he, hx⟩
    obtain ⟨hx1, hx2⟩ := hx.pre hW
    have hnb : ¬ FootD x q.s pb := fun hf => hnp (.inl hf)
    have hnw : ¬ FootD x q.s w.heap.size := fun hf => by have := p.lt (.inl hf); omega
    exact ⟨k, z, he, hx1, hx2.cell (p := ⟨pb, 0, none⟩) hnb (below_cell' hW hb0), hx2.cell (p := ⟨pb, 1, none⟩) hnb h1, hx2.cell (p := ⟨w.heap.size, 2, none⟩) hnw h2⟩
  have HY : Hid (∀ v w2, Hid (XPost 59 #[.pointer (some ⟨y, 0, none⟩), .int .i64 b0] w x y q N v w2) → w2.cell? ⟨pb, 1, none⟩ = some (.pointer (some ⟨y, 0, none⟩)) → w2.cell? ⟨w.heap.size, 2, none⟩ = some (.int .i64 b0) → ∀ W, W.heap = w2.heap → W.os = w2.os → W.tape = w2.tape → W.output = w2.output → Calls Tryz.prog 59 #[.pointer (some ⟨y, 0, none⟩), .int .i64 b0] W fun e w3 => e = .returned v ∧ Hid (∃ q', PTurn w w3 x y q q' N) ∧ w3.cell? ⟨pb, 1, none⟩ = some (.pointer (some ⟨y, 0, none⟩)) ∧ w3.cell? ⟨w.heap.size, 2, none⟩ = some (.int .i64 b0)) := fun v w2 hx c1 c2 W hh ho ht hp => by
    refine (hx.out.goK p hh ho ht hp).mono ?_
    rintro e w3 ⟨rfl, hq, hk⟩
    have hnb : ¬ RFoot y q.a q.V pb := fun hf => hnp (.inr hf)
    have hnw : ¬ RFoot y q.a q.V w.heap.size := fun hf => by have := p.lt (.inr hf); omega
    exact ⟨rfl, hq, hk.cell (p := ⟨pb, 1, none⟩) hnb (by rw [cell_of_heap hh]; exact c1), hk.cell (p := ⟨w.heap.size, 2, none⟩) hnw (by rw [cell_of_heap hh]; exact c2)⟩
  have HP : Hid (PairAt w x y q M) := p
  have hpl := block_lt_of_cell hb0
  simp only at hpl
  clear hX p hnp
  unfold OpV.val
  go_enter Tryz.func16, Tryz.ntmps16
  have HWA : Hid (Below w.heap.size w (w.alloc (Obj.cells #[.int .i64 17, .int .i64 a0, .int .i64 b0, .int .i64 c0, .int .i64 d0, .int .i64 e0, .string s0] 35)).drew) := (below_al _ _).drew
  have HWC : Hid ((w.alloc (Obj.cells #[.int .i64 17, .int .i64 a0, .int .i64 b0, .int .i64 c0, .int .i64 d0, .int .i64 e0, .string s0] 35)).drew.cell? ⟨pb, 1, none⟩ = some (.pointer (some ⟨y, 0, none⟩)) ∧ (w.alloc (Obj.cells #[.int .i64 17, .int .i64 a0, .int .i64 b0, .int .i64 c0, .int .i64 d0, .int .i64 e0, .string s0] 35)).drew.cell? ⟨w.heap.size, 2, none⟩ = some (.int .i64 b0)) := ⟨below_cell' HWA.out hb1, by simp [go_sem]⟩
  go_wp2_with fail
  go_region_held3 (fun W => W.cell? ⟨pb, 0, none⟩ = some (.pointer (some ⟨x, 0, none⟩)) ∧ W.cell? ⟨pb, 1, none⟩ = some (.pointer (some ⟨y, 0, none⟩)) ∧ W.cell? ⟨w.heap.size, 2, none⟩ = some (.int .i64 b0)) (go_keep) (first | (go_at_call 58; refine (HX.out _ HWA.out HWC.out.1 HWC.out.2).mono ?_; rintro e w2 ⟨rk, rz, rfl, hxp, t0, t1, t2⟩))
  all_goals
    clear HX
    go_wp2_with fail
    go_region_held3 (fun W => W.cell? ⟨pb, 1, none⟩ = some (.pointer (some ⟨y, 0, none⟩)) ∧ W.cell? ⟨w.heap.size, 2, none⟩ = some (.int .i64 b0)) (go_keep) (first | (go_at_call 59; refine (HY.out _ w2 hxp t1 t2 _ (by rfl) (by rfl) (by rfl) (by rfl)).mono ?_; rintro e w3 ⟨rfl, hq, u1, u2⟩))
    all_goals
      go_wp2_with fail
      go_ret
      exact ⟨by simp, hq.out⟩
end Go.Proofs.YtfpoiikhhjdpdaaGreat

/- The document: Corrupt, what it refuses. -/
namespace Go.Proofs.YtfpoiikhhjdpdaaGreat
open Go.RowKit
set_option linter.unusedVariables false
attribute [local go_sem ↓] Go.wp_at_zero Go.wp_at_succ
set_option maxRecDepth 100000 in
set_option maxHeartbeats 1000000 in
theorem rCorrupt_arg (yb : Nat) (a : Ab) (V : Nat → Value) (left : Int) (d : Nat) (r i v : Int) (w : World) (h : RefIn w yb a V left false) (hd : d < a.D + a.P) (hr : (r < 0 ∨ (a.R : Int) ≤ r) ∨ i < 0 ∨ 4 ≤ i) :
    Calls Tryz.prog 57 #[.pointer (some ⟨yb, 0, none⟩), .int .i64 d, .int .i64 r, .int .i64 i, .int .u8 v] w fun e w' => e = .returned (.int .i64 1) ∧ Below w.heap.size w w' := by
  have HT : Hid (∀ W, W.heap = w.heap → Calls Tryz.prog 74 #[.pointer (some ⟨yb, 0, none⟩), .int .i64 d, .int .i64 0] W fun e w' => e = .returned (.int .i64 0) ∧ w' = W) := fun W hW => (show Calls _ _ _ _ _ by
    have h1 := rthere_any yb a V left false d 0 W (h.heap hW)
    rw [there_ok hd (by omega)] at h1; exact h1)
  obtain ⟨_, _, c2, _⟩ := h.cells
  have hlt := h.row.lt
  clear h hd
  by_cases h1 : r < 0
  · have h1' : decide (r < 0) = true := by simpa using h1
    clear hr
    go_enter Tryz.func57, Tryz.ntmps57
    go_wp2_with fail
    refine (HT.out _ rfl).mono ?_
    rintro e W ⟨rfl, hW⟩
    obtain rfl := hW.symm
    go_wp2_with fail
    go_ret
    exact ⟨rfl, by repeat (first | exact Below.refl _ _ | refine Below.drew ?_)⟩
  have h1' : decide (r < 0) = false := by simpa using h1
  by_cases h2 : (a.R : Int) ≤ r
  · have h2' : decide ((a.R : Int) ≤ r) = true := by simpa using h2
    clear hr
    go_enter Tryz.func57, Tryz.ntmps57
    go_wp2_with fail
    refine (HT.out _ rfl).mono ?_
    rintro e W ⟨rfl, hW⟩
    obtain rfl := hW.symm
    go_wp2_with fail
    go_ret
    exact ⟨rfl, by repeat (first | exact Below.refl _ _ | refine Below.drew ?_)⟩
  have h2' : decide ((a.R : Int) ≤ r) = false := by simpa using h2
  by_cases h3 : i < 0
  · have h3' : decide (i < 0) = true := by simpa using h3
    clear hr
    go_enter Tryz.func57, Tryz.ntmps57
    go_wp2_with fail
    refine (HT.out _ rfl).mono ?_
    rintro e W ⟨rfl, hW⟩
    obtain rfl := hW.symm
    go_wp2_with fail
    go_ret
    exact ⟨rfl, by repeat (first | exact Below.refl _ _ | refine Below.drew ?_)⟩
  have h3' : decide (i < 0) = false := by simpa using h3
  have h4 : 4 ≤ i := by omega
  have h4' : decide (4 ≤ i) = true := by simpa using h4
  · clear hr
    go_enter Tryz.func57, Tryz.ntmps57
    go_wp2_with fail
    refine (HT.out _ rfl).mono ?_
    rintro e W ⟨rfl, hW⟩
    obtain rfl := hW.symm
    go_wp2_with fail
    go_ret
    exact ⟨rfl, by repeat (first | exact Below.refl _ _ | refine Below.drew ?_)⟩
set_option maxRecDepth 100000 in
set_option maxHeartbeats 1000000 in
theorem rCorrupt_state (yb : Nat) (a : Ab) (V : Nat → Value) (left : Int) (d r i : Nat) (v : Int) (w : World) (h : RefIn w yb a V left false) (hd : d < a.D + a.P) (hr : r < a.R) (hi : i < 4) (hav : avB a d r = false) :
    Calls Tryz.prog 57 #[.pointer (some ⟨yb, 0, none⟩), .int .i64 d, .int .i64 r, .int .i64 i, .int .u8 v] w fun e w' => e = .returned (.int .i64 7) ∧ Below w.heap.size w w' := by
  have HT : Hid (∀ W, W.heap = w.heap → Calls Tryz.prog 74 #[.pointer (some ⟨yb, 0, none⟩), .int .i64 d, .int .i64 0] W fun e w' => e = .returned (.int .i64 0) ∧ w' = W) := fun W hW => (show Calls _ _ _ _ _ by
    have h1 := rthere_any yb a V left false d 0 W (h.heap hW)
    rw [there_ok hd (by omega)] at h1; exact h1)
  have HA : Hid (∀ W, W.heap = w.heap → Calls Tryz.prog 77 #[.pointer (some ⟨yb, 0, none⟩), .int .i64 d, .int .i64 r] W fun e w' => e = .returned (.bool false) ∧ w' = W) := fun W hW => (show Calls _ _ _ _ _ by
    have h1 := ravail_any yb a V left false d r W (h.heap hW) hd hr
    rw [hav] at h1; exact h1)
  obtain ⟨_, _, c2, _⟩ := h.cells
  have hlt := h.row.lt
  have hri : (r : Int) < (a.R : Int) := by omega
  have hri2 : ¬ ((a.R : Int) ≤ (r : Int)) := by omega
  have hii : (i : Int) < 4 := by omega
  have hii2 : ¬ (4 ≤ (i : Int)) := by omega
  clear h hd hav
  · go_enter Tryz.func57, Tryz.ntmps57
    go_wp2_with fail
    refine (HT.out _ rfl).mono ?_
    rintro e W ⟨rfl, hW⟩
    obtain rfl := hW.symm
    go_wp2_with fail
    refine (HA.out _ rfl).mono ?_
    rintro e W ⟨rfl, hW⟩
    obtain rfl := hW.symm
    go_wp2_with fail
    go_ret
    exact ⟨rfl, by repeat (first | exact Below.refl _ _ | refine Below.drew ?_)⟩
end Go.Proofs.YtfpoiikhhjdpdaaGreat

/- What the document tries in Scrub, against what the program makes out. -/
namespace Go.Proofs.YtfpoiikhhjdpdaaGreat
open Go.RowKit
set_option linter.unusedVariables false
def abBad (a : Ab) (d r : Nat) (e : C4) : Ab := a.setCell d r ((a.cell d r).xor e)
theorem abBad_cell (a : Ab) (d r : Nat) (e : C4) (d' r' : Nat) : (abBad a d r e).cell d' r' = if d' = d ∧ r' = r then (a.cell d r).xor e else a.cell d' r' := rfl
theorem recSum_xor' (r : Nat) (l : List Rec) (c e : C4) : recSum r l (c.xor e) = (recSum r l c).xor e := by
  induction l generalizing c with
  | nil => rfl
  | cons x l ih =>
    show recSum r l (if x.row = r then (c.xor e).xor x.c else c.xor e) = (recSum r l (if x.row = r then c.xor x.c else c)).xor e
    split
    · rw [C4.xor_assoc, C4.xor_comm e, ← C4.xor_assoc, ih]
    · rw [ih]
theorem abBad_val (a : Ab) (d r : Nat) (e : C4) (p k : Nat) : valC (abBad a d r e) p k = if p = d ∧ k = r then (valC a p k).xor e else valC a p k := by
  unfold valC
  show recSum k (a.recs p) ((abBad a d r e).cell p k) = _
  rw [abBad_cell]
  by_cases h : p = d ∧ k = r
  · rw [if_pos h, if_pos h]
    obtain ⟨rfl, rfl⟩ := h
    rw [recSum_xor']
  · rw [if_neg h, if_neg h]
theorem abBad_msum (a : Ab) (d r : Nat) (e : C4) (p : Nat) (hav : ∀ c, c < a.D → avB a c r = true) (hp : a.D ≤ p) (n : Nat) (hn : n ≤ a.D) :
    msum (abBad a d r e) p r n = (msum a p r n).xor (if d < n then e.scale (wgt a p d) else if d = p then e else C4.zero) := by
  induction n with
  | zero =>
    show valC _ _ _ = (valC a p r).xor _
    rw [abBad_val, if_neg (Nat.not_lt_zero _)]
    by_cases h : p = d
    · rw [if_pos ⟨h, rfl⟩, if_pos h.symm]
    · rw [if_neg (fun hh => h hh.1), if_neg (fun hh => h hh.symm), C4.xor_zero]
  | succ n ih =>
    have hw : wgt (abBad a d r e) p n = wgt a p n := rfl
    have hv : avB (abBad a d r e) n r = avB a n r := rfl
    simp only [msum]
    rw [hv, hav n (by omega), if_pos rfl, if_pos rfl, ih (by omega), hw]
    by_cases h : n = d
    · subst h
      have hc : (abBad a n r e).cell n r = (a.cell n r).xor e := by rw [abBad_cell, if_pos ⟨rfl, rfl⟩]
      rw [hc, if_neg (Nat.lt_irrefl _), if_pos (Nat.lt_succ_self _), if_neg (show ¬ n = p by omega), C4.xor_zero, C4.scale_xor, ← C4.xor_assoc]
    · have hc : (abBad a d r e).cell n r = a.cell n r := by rw [abBad_cell, if_neg (fun hh => h hh.1)]
      rw [hc]
      by_cases h2 : d < n
      · rw [if_pos h2, if_pos (show d < n + 1 by omega), C4.xor_assoc, C4.xor_comm (e.scale _), ← C4.xor_assoc]
      · rw [if_neg h2, if_neg (show ¬ d < n + 1 by omega)]
        split
        · rw [C4.xor_assoc, C4.xor_comm e, ← C4.xor_assoc]
        · rw [C4.xor_zero, C4.xor_zero]
theorem abBad_gap (a : Ab) (d r : Nat) (e : C4) (he : e.ok) (p : Nat) (hav : ∀ c, c < a.D → avB a c r = true) (hp : a.D ≤ p) :
    msum (abBad a d r e) p r a.D = (msum a p r a.D).xor (e.scale (shareN a p d)) := by
  rw [abBad_msum a d r e p hav hp a.D (Nat.le_refl _)]
  unfold shareN
  split
  · rfl
  · split
    · rw [C4.scale_one e he]
    · rw [C4.scale_zero_left]
/-- The byte v in the place i of a cell. -/
theorem putB_bad (a : Ab) (d r i v : Nat) (hi : i < 4) : a.putB d r i v = abBad a d r (C4.zero.put i ((a.cell d r).at i ^^^ v)) := by
  unfold Ab.putB abBad
  congr 1
  refine C4.ext' (fun j hj => ?_)
  rw [C4.at_put _ _ _ _ hj, C4.at_xor, C4.at_put _ _ _ _ hj]
  by_cases e : j = i
  · rw [if_pos e, if_pos e, e, ← Nat.xor_assoc, Nat.xor_self, Nat.zero_xor]
  · rw [if_neg e, if_neg e]
    have : C4.zero.at j = 0 := by
      have : j = 0 ∨ j = 1 ∨ j = 2 ∨ j = 3 := by omega
      rcases this with rfl | rfl | rfl | rfl <;> rfl
    rw [this, Nat.xor_zero]
theorem put_gap (a : Ab) (hok : a.ok) (d r i v : Nat) (hi : i < 4) (hv : v < 256) (p : Nat) (hav : ∀ c, c < a.D → avB a c r = true) (hp : a.D ≤ p) :
    (msum (a.putB d r i v) p r a.D).at i = (msum a p r a.D).at i ^^^ Hd.mul (shareN a p d) ((a.cell d r).at i ^^^ v) := by
  have hx : (a.cell d r).at i ^^^ v < 256 := Hd.xor_lt _ _ (C4.at_lt (hok.cells d r) i) hv
  rw [putB_bad a d r i v hi, abBad_gap a d r _ (C4.put_ok C4.zero_ok i _ hx) p hav hp, C4.at_xor, C4.at_scale, C4.at_put _ _ _ _ hi, if_pos rfl]
theorem whole_miss (a : Ab) (r n : Nat) (hav : ∀ c, c < n → avB a c r = true) : missL a r n = [] := by
  induction n with
  | zero => rfl
  | succ n ih =>
    simp only [missL]
    rw [hav n (by omega), ih (fun c hc => hav c (by omega))]
    rfl
/-- Do all equations hold at a byte? -/
theorem hold_whole (a : Ab) (hok : a.ok) (r i : Nat) (G : Nat → Nat) (ps : List Nat) (hav : ∀ c, c < a.D → avB a c r = true) (hl : ps.length = a.P) (hps : ∀ k, k < a.P → ps.getD k 0 = k) :
    rHold a ps r i [] G ps.length = true ↔ ∀ p, p < a.P → (msum a (a.D + p) r a.D).at i = 0 := by
  rw [rHold_iff, hl]
  have hm := whole_miss a r a.D hav
  constructor
  · intro h p hp
    have h1 := h p hp
    rw [hps p hp] at h1
    have h2 := (hold_iff a hok p r i G)
    rw [hm] at h2
    exact (h2.1 h1).symm
  · intro h p hp
    rw [hps p hp]
    have h2 := (hold_iff a hok p r i G)
    rw [hm] at h2
    exact h2.2 (h p hp).symm
/-- Does a byte of the drive's cell explain what the equations say of that byte? -/
def exP (a : Ab) (d r i : Nat) : Prop := ∀ p, p < a.P → (msum a (a.D + p) r a.D).at i = Hd.mul (shareN a (a.D + p) d) ((mendC a d r).at i)
theorem explB_iff (a : Ab) (d r : Nat) : explB a d r = true ↔ ∀ i, i < 4 → exP a d r i := by
  unfold explB
  rw [exTo_iff]
  constructor
  · intro h i hi p hp
    rw [h p hp, C4.at_scale]
  · intro h p hp
    refine C4.ext' (fun i hi => ?_)
    rw [C4.at_scale]; exact h i hi p hp
theorem share_of (a : Ab) (d : Nat) : (d < a.D → shareN a (a.D + 0) d = 1) ∧ (a.D ≤ d → shareN a d d = 1) := by
  constructor
  · intro h; unfold shareN wgt; rw [if_pos h, if_pos (by omega)]
  · intro h; unfold shareN; rw [if_neg (by omega), if_pos rfl]
theorem mul_one' (n : Nat) (hn : n < 256) : Hd.mul 1 n = n := by
  have h := C4.scale_one ⟨n, 0, 0, 0⟩ ⟨hn, show 0 < 256 by decide, show 0 < 256 by decide, show 0 < 256 by decide⟩
  have h1 := congrArg C4.b0 h
  exact h1
/-- The byte at which all equations hold, if there is one. -/
theorem put_hold (a : Ab) (hok : a.ok) (d r i v : Nat) (hd : d < a.D + a.P) (hi : i < 4) (hv : v < 256) (hav : ∀ c, c < a.D → avB a c r = true) :
    (∀ p, p < a.P → (msum (a.putB d r i v) (a.D + p) r a.D).at i = 0) ↔ (exP a d r i ∧ v = (a.cell d r).at i ^^^ (mendC a d r).at i) := by
  have hc := C4.at_lt (hok.cells d r) i
  have hx : (a.cell d r).at i ^^^ v < 256 := Hd.xor_lt _ _ hc hv
  have key : ∀ p, p < a.P → ((msum (a.putB d r i v) (a.D + p) r a.D).at i = 0 ↔ (msum a (a.D + p) r a.D).at i = Hd.mul (shareN a (a.D + p) d) ((a.cell d r).at i ^^^ v)) := fun p hp => by
    rw [put_gap a hok d r i v hi hv (a.D + p) hav (by omega)]
    constructor
    · intro h; have := xor_left h; rwa [Nat.xor_zero] at this
    · intro h; rw [h, Nat.xor_self]
  have hP := hok.P1
  constructor
  · intro h
    have hv2 : (a.cell d r).at i ^^^ v = (mendC a d r).at i := by
      by_cases hdD : a.D ≤ d
      · have h1 := (key (d - a.D) (by omega)).1 (h (d - a.D) (by omega))
        rw [show a.D + (d - a.D) = d by omega, (share_of a d).2 hdD, mul_one' _ hx] at h1
        unfold mendC
        rw [if_pos hdD, h1]
      · have h1 := (key 0 (by omega)).1 (h 0 (by omega))
        rw [(share_of a d).1 (by omega), mul_one' _ hx] at h1
        unfold mendC
        rw [if_neg hdD]
        exact h1.symm
    refine ⟨fun p hp => ?_, ?_⟩
    · rw [← hv2]; exact (key p hp).1 (h p hp)
    · rw [← hv2, ← Nat.xor_assoc, Nat.xor_self, Nat.zero_xor]
  · rintro ⟨h1, h2⟩ p hp
    rw [key p hp, h2, ← Nat.xor_assoc, Nat.xor_self, Nat.zero_xor]
    exact h1 p hp
theorem eqHold_iff (a : Ab) (r : Nat) : eqHoldB a r = true ↔ ∀ p, p < a.P → msum a (a.D + p) r a.D = C4.zero := by
  unfold eqHoldB; exact eqTo_iff a r a.P
/-- All equations hold: then every drive's cell explains it as it is. -/
theorem eq_expl (a : Ab) (d r : Nat) (hd : d < a.D + a.P) (hP : 1 ≤ a.P) (h : eqHoldB a r = true) : explB a d r = true ∧ mendC a d r = C4.zero := by
  have h0 := (eqHold_iff a r).1 h
  have hm : mendC a d r = C4.zero := by
    unfold mendC
    split
    · have := h0 (d - a.D) (by omega)
      rwa [show a.D + (d - a.D) = d by omega] at this
    · exact h0 0 (by omega)
  refine ⟨?_, hm⟩
  unfold explB
  rw [exTo_iff]
  intro p hp
  rw [h0 p hp, hm]
  refine C4.ext' (fun i hi => ?_)
  rw [C4.at_scale]
  have : C4.zero.at i = 0 := by
    have : i = 0 ∨ i = 1 ∨ i = 2 ∨ i = 3 := by omega
    rcases this with rfl | rfl | rfl | rfl <;> rfl
  rw [this, Hd.mul_zero]
/-- If a drive explains it and its cell need not change, all equations hold. -/
theorem expl_eq (a : Ab) (d r : Nat) (he : explB a d r = true) (hm : mendC a d r = C4.zero) : eqHoldB a r = true := by
  rw [eqHold_iff]
  intro p hp
  have h := (exTo_iff a d r a.P).1 he p hp
  rw [h, hm]
  refine C4.ext' (fun i hi => ?_)
  rw [C4.at_scale]
  have : C4.zero.at i = 0 := by
    have : i = 0 ∨ i = 1 ∨ i = 2 ∨ i = 3 := by omega
    rcases this with rfl | rfl | rfl | rfl <;> rfl
  rw [this, Hd.mul_zero]
theorem xor_same (c e : C4) : c.xor e = c ↔ e = C4.zero := by
  constructor
  · intro h
    refine C4.ext' (fun i hi => ?_)
    have h1 := congrArg (fun x => x.at i) h
    simp only [C4.at_xor] at h1
    have h2 : e.at i = (c.at i ^^^ c.at i) := by
      have h3 : c.at i ^^^ (c.at i ^^^ e.at i) = c.at i ^^^ c.at i := by rw [h1]
      rw [← Nat.xor_assoc, Nat.xor_self, Nat.zero_xor] at h3
      rw [h3, Nat.xor_self]
    rw [h2, Nat.xor_self]
    have : i = 0 ∨ i = 1 ∨ i = 2 ∨ i = 3 := by omega
    rcases this with rfl | rfl | rfl | rfl <;> rfl
  · intro h; rw [h, C4.xor_zero]
end Go.Proofs.YtfpoiikhhjdpdaaGreat
