import Derived.Test.YtfpoiikhhjdpdaaGreatJ21
import Derived.Test.YtfpoiikhhjdpdaaGreatJ24
import Derived.Test.YtfpoiikhhjdpdaaGreatJ20
import Derived.Test.YtfpoiikhhjdpdaaGreatJ04
import Derived.Test.YtfpoiikhhjdpdaaGreatJ08
/- The document: Fail, Replace, Rebuild. -/
namespace Go.Proofs.YtfpoiikhhjdpdaaGreat
open Go.RowKit
set_option linter.unusedVariables false
attribute [local go_sem ↓] Go.wp_at_zero Go.wp_at_succ
set_option maxRecDepth 100000 in
set_option maxHeartbeats 1000000 in
theorem rFail_no (yb : Nat) (a : Ab) (V : Nat → Value) (left : Int) (dn : Bool) (d : Int) (w : World) (h : RefIn w yb a V left dn) (hd : rThere (a.D + a.P) dn d 0 ≠ 0) :
    Calls Tryz.prog 47 #[.pointer (some ⟨yb, 0, none⟩), .int .i64 d] w fun e w' => e = .returned (.int .i64 (rThere (a.D + a.P) dn d 0)) ∧ Below w.heap.size w w' := by
  have HT : Hid (∀ W, W.heap = w.heap → Calls Tryz.prog 74 #[.pointer (some ⟨yb, 0, none⟩), .int .i64 d, .int .i64 0] W fun e w' => e = .returned (.int .i64 (rThere (a.D + a.P) dn d 0)) ∧ w' = W) := fun W hW => rthere_any yb a V left dn d 0 W (h.heap hW)
  generalize rThere (a.D + a.P) dn d 0 = t at *
  have hne : (t != 0) = true := by rw [bne_iff_ne]; exact hd
  have hlt := h.row.lt
  clear h hd
  go_enter Tryz.func47, Tryz.ntmps47
  go_wp2_with fail
  refine (HT.out _ rfl).mono ?_
  rintro e W ⟨rfl, hW⟩
  obtain rfl := hW.symm
  go_wp2_with fail
  go_ret
  exact ⟨rfl, by repeat (first | exact Below.refl _ _ | refine Below.drew ?_)⟩
set_option maxRecDepth 100000 in
set_option maxHeartbeats 1000000 in
theorem rFail_state (yb : Nat) (a : Ab) (V : Nat → Value) (left : Int) (d : Nat) (w : World) (h : RefIn w yb a V left false) (hd : d < a.D + a.P) (hl : a.lost d = true) :
    Calls Tryz.prog 47 #[.pointer (some ⟨yb, 0, none⟩), .int .i64 d] w fun e w' => e = .returned (.int .i64 7) ∧ Below w.heap.size w w' := by
  have HT : Hid (∀ W, W.heap = w.heap → Calls Tryz.prog 74 #[.pointer (some ⟨yb, 0, none⟩), .int .i64 d, .int .i64 0] W fun e w' => e = .returned (.int .i64 0) ∧ w' = W) := fun W hW => (show Calls _ _ _ _ _ by
    have h1 := rthere_any yb a V left false d 0 W (h.heap hW)
    rw [there_ok hd (by omega)] at h1; exact h1)
  obtain ⟨_, _, _, _, c4, _⟩ := h.cells
  have hlt := h.row.lt
  obtain ⟨g, cap, e0, hg, hgy, hdr⟩ := h.drive
  obtain ⟨d0, _, _, _⟩ := hdr d hd
  rw [e0] at c4
  rw [hl] at d0
  have hdi : (d : Int) < ((a.D + a.P : Nat) : Int) := by omega
  have hd6 : d < 6 := by have := h.ok.D4; have := h.ok.P2; omega
  clear h hdr e0 hd hl
  generalize a.D + a.P = nn at *
  go_enter Tryz.func47, Tryz.ntmps47
  go_wp2_with fail
  refine (HT.out _ rfl).mono ?_
  rintro e W ⟨rfl, hW⟩
  obtain rfl := hW.symm
  go_wp2_with fail
  go_ret
  exact ⟨rfl, by repeat (first | exact Below.refl _ _ | refine Below.drew ?_)⟩
set_option maxRecDepth 100000 in
set_option maxHeartbeats 1000000 in
theorem rReplace_no (yb : Nat) (a : Ab) (V : Nat → Value) (left : Int) (dn : Bool) (d : Int) (w : World) (h : RefIn w yb a V left dn) (hd : rThere (a.D + a.P) dn d 0 ≠ 0) :
    Calls Tryz.prog 49 #[.pointer (some ⟨yb, 0, none⟩), .int .i64 d] w fun e w' => e = .returned (.int .i64 (rThere (a.D + a.P) dn d 0)) ∧ Below w.heap.size w w' := by
  have HT : Hid (∀ W, W.heap = w.heap → Calls Tryz.prog 74 #[.pointer (some ⟨yb, 0, none⟩), .int .i64 d, .int .i64 0] W fun e w' => e = .returned (.int .i64 (rThere (a.D + a.P) dn d 0)) ∧ w' = W) := fun W hW => rthere_any yb a V left dn d 0 W (h.heap hW)
  generalize rThere (a.D + a.P) dn d 0 = t at *
  have hne : (t != 0) = true := by rw [bne_iff_ne]; exact hd
  have hlt := h.row.lt
  clear h hd
  go_enter Tryz.func49, Tryz.ntmps49
  go_wp2_with fail
  refine (HT.out _ rfl).mono ?_
  rintro e W ⟨rfl, hW⟩
  obtain rfl := hW.symm
  go_wp2_with fail
  go_ret
  exact ⟨rfl, by repeat (first | exact Below.refl _ _ | refine Below.drew ?_)⟩
set_option maxRecDepth 100000 in
set_option maxHeartbeats 1000000 in
theorem rReplace_state (yb : Nat) (a : Ab) (V : Nat → Value) (left : Int) (d : Nat) (w : World) (h : RefIn w yb a V left false) (hd : d < a.D + a.P) (hl : a.lost d = false) :
    Calls Tryz.prog 49 #[.pointer (some ⟨yb, 0, none⟩), .int .i64 d] w fun e w' => e = .returned (.int .i64 7) ∧ Below w.heap.size w w' := by
  have HT : Hid (∀ W, W.heap = w.heap → Calls Tryz.prog 74 #[.pointer (some ⟨yb, 0, none⟩), .int .i64 d, .int .i64 0] W fun e w' => e = .returned (.int .i64 0) ∧ w' = W) := fun W hW => (show Calls _ _ _ _ _ by
    have h1 := rthere_any yb a V left false d 0 W (h.heap hW)
    rw [there_ok hd (by omega)] at h1; exact h1)
  obtain ⟨_, _, _, _, c4, _⟩ := h.cells
  have hlt := h.row.lt
  obtain ⟨g, cap, e0, hg, hgy, hdr⟩ := h.drive
  obtain ⟨d0, _, _, _⟩ := hdr d hd
  rw [e0] at c4
  rw [hl] at d0
  have hdi : (d : Int) < ((a.D + a.P : Nat) : Int) := by omega
  have hd6 : d < 6 := by have := h.ok.D4; have := h.ok.P2; omega
  clear h hdr e0 hd hl
  generalize a.D + a.P = nn at *
  go_enter Tryz.func49, Tryz.ntmps49
  go_wp2_with fail
  refine (HT.out _ rfl).mono ?_
  rintro e W ⟨rfl, hW⟩
  obtain rfl := hW.symm
  go_wp2_with fail
  go_ret
  exact ⟨rfl, by repeat (first | exact Below.refl _ _ | refine Below.drew ?_)⟩
/-- Where the rows of a drive that comes new lie. -/
def lostV (V : Nat → Value) (d : Nat) (v1 v2 : Value) : Nat → Value := setV (setV (setV V (1 + 3 * d) v1) (2 + 3 * d) v2) (3 + 3 * d) (.slice none 0 0)
theorem lostV_1 (V : Nat → Value) (d : Nat) (v1 v2 : Value) : lostV V d v1 v2 (1 + 3 * d) = v1 := by
  unfold lostV
  rw [setV_ne _ _ _ _ (by omega), setV_ne _ _ _ _ (by omega), setV_same]
theorem lostV_2 (V : Nat → Value) (d : Nat) (v1 v2 : Value) : lostV V d v1 v2 (2 + 3 * d) = v2 := by
  unfold lostV
  rw [setV_ne _ _ _ _ (by omega), setV_same]
theorem lostV_3 (V : Nat → Value) (d : Nat) (v1 v2 : Value) : lostV V d v1 v2 (3 + 3 * d) = .slice none 0 0 := by
  unfold lostV
  rw [setV_same]
theorem lostV_ne (V : Nat → Value) (d : Nat) (v1 v2 : Value) (i : Nat) (h1 : i ≠ 1 + 3 * d) (h2 : i ≠ 2 + 3 * d) (h3 : i ≠ 3 + 3 * d) : lostV V d v1 v2 i = V i := by
  unfold lostV
  rw [setV_ne _ _ _ _ h3, setV_ne _ _ _ _ h2, setV_ne _ _ _ _ h1]
theorem lostV_block {V : Nat → Value} {d : Nat} {v1 v2 : Value} {i k : Nat} (h : (lostV V d v1 v2 i).ownBlock = some k) : (i ≠ 1 + 3 * d ∧ i ≠ 2 + 3 * d ∧ i ≠ 3 + 3 * d ∧ (V i).ownBlock = some k) ∨ (i = 1 + 3 * d ∧ v1.ownBlock = some k) ∨ (i = 2 + 3 * d ∧ v2.ownBlock = some k) := by
  by_cases h1 : i = 1 + 3 * d
  · subst h1; rw [lostV_1] at h; exact .inr (.inl ⟨rfl, h⟩)
  · by_cases h2 : i = 2 + 3 * d
    · subst h2; rw [lostV_2] at h; exact .inr (.inr ⟨rfl, h⟩)
    · by_cases h3 : i = 3 + 3 * d
      · subst h3; rw [lostV_3] at h; cases h
      · rw [lostV_ne _ _ _ _ _ h1 h2 h3] at h; exact .inl ⟨h1, h2, h3, h⟩
theorem newAv (a : Ab) (d r : Nat) : avB (a.newDrive d true 0) d r = false := by
  unfold avB Ab.newDrive
  simp
theorem newAv_ne (a : Ab) (d : Nat) (lo : Bool) (n d' r : Nat) (h : d' ≠ d) : avB (a.newDrive d lo n) d' r = avB a d' r := by
  unfold avB Ab.newDrive
  simp only [h, if_false]
theorem RefIn.fresh {w w1 W : World} {yb : Nat} {a : Ab} {V : Nat → Value} {left : Int} {dn : Bool} (h : RefIn w yb a V left dn) (d : Nat) (hd : d < a.D + a.P) (g cap : Nat) (hV : V 0 = .slice (some ⟨g, 0, none⟩) (a.D + a.P) cap) (k : Below w.heap.size w w1) (v1 v2 : Value)
    (o1 : w1.ownsRow w.heap.size 4 1 v1 a.R ((List.range (a.R * 1)).map (fun _ => Value.bool false))) (o2 : w1.ownsRow w.heap.size 75 4 v2 a.R ((List.range (a.R * 4)).map (fun _ => Value.int .u8 0))) (hap : ∀ g, v1.ownBlock = some g → v2.ownBlock ≠ some g)
    (hW : ∀ b, b ≠ g → W.heap[b]? = w1.heap[b]?) (hdr : OwnFn W 111 4 (V 0) (a.D + a.P) (fun j => if j = d * 4 then .bool true else if j = d * 4 + 1 then v1 else if j = d * 4 + 2 then v2 else if j = d * 4 + 3 then .slice none 0 0 else drF a V j)) :
    RefIn W yb (a.newDrive d true 0) (lostV V d v1 v2) left dn := by
  have hown : (V 0).ownBlock = some g := by rw [hV]; rfl
  have hglt : g < w.heap.size := h.dr.lt hown
  have hlt : ∀ i, i < 1 + 3 * (a.D + a.P) → ∀ b, (V i).ownBlock = some b → b < w.heap.size := fun i hi b hb => h.foot_lt (.inr ⟨i, hi, hb⟩)
  have hblk : ∀ b, b < w.heap.size → b ≠ g → W.heap[b]? = w.heap[b]? := fun b hb hbg => (hW b hbg).trans (k.block b hb)
  have hne0 : ∀ j, j < 1 + 3 * (a.D + a.P) → j ≠ 0 → ∀ b, (V j).ownBlock = some b → b ≠ g := fun j hj hj0 b hb e => h.ap2 0 j g (by omega) hj (fun e2 => hj0 e2.symm) hown (by rw [hb, e])
  have f1 := fun b hb => World.ownsRow.lt o1 b hb
  have f2 := fun b hb => World.ownsRow.lt o2 b hb
  refine ⟨⟨h.ok.D1, h.ok.D4, h.ok.P1, h.ok.P2, h.ok.R1, h.ok.R6, h.ok.M1, h.ok.M8, ?_, ?_, ?_, ?_⟩, ?_, ?_, ?_, ?_, ?_, ?_, ?_⟩
  · intro d' r
    show (if d' = d then C4.zero else a.cell d' r).ok
    split
    · exact ⟨by decide, by decide, by decide, by decide⟩
    · exact h.ok.cells d' r
  · intro d'
    show (if d' = d then [] else a.recs d').length ≤ a.M
    split
    · exact Nat.zero_le _
    · exact h.ok.len d'
  · intro d' x hx
    replace hx : x ∈ (if d' = d then [] else a.recs d') := hx
    split at hx
    · cases hx
    · exact h.ok.recs d' x hx
  · intro d' hd'
    show (if d' = d then [] else a.recs d') = []
    split
    · rfl
    · exact h.ok.data d' hd'
  · have hyg : yb ≠ g := fun e => h.ap 0 (by omega) (by rw [hown, e])
    refine (h.row.of_block (hblk yb h.row.lt hyg)).congr (fun j _ => ?_)
    unfold rv
    rw [lostV_ne _ _ _ _ _ (by omega) (by omega) (by omega)]
    rfl
  · rw [lostV_ne _ _ _ _ _ (by omega) (by omega) (by omega)]
    refine hdr.congr (fun j hj => ?_)
    unfold drF
    by_cases e : j / 4 = d
    · have : j % 4 = 0 ∨ j % 4 = 1 ∨ j % 4 = 2 ∨ j % 4 = 3 := by omega
      rcases this with e1 | e1 | e1 | e1
      · rw [if_pos (by omega), if_pos e1, e]
        show _ = Value.bool (if d = d then true else a.lost d)
        rw [if_pos rfl]
      · rw [if_neg (by omega), if_pos (by omega), if_neg (by omega), show j % 4 + 3 * (j / 4) = 1 + 3 * d by omega, lostV_1]
      · rw [if_neg (by omega), if_neg (by omega), if_pos (by omega), if_neg (by omega), show j % 4 + 3 * (j / 4) = 2 + 3 * d by omega, lostV_2]
      · rw [if_neg (by omega), if_neg (by omega), if_neg (by omega), if_pos (by omega), if_neg (by omega), show j % 4 + 3 * (j / 4) = 3 + 3 * d by omega, lostV_3]
    · rw [if_neg (by omega), if_neg (by omega), if_neg (by omega), if_neg (by omega)]
      by_cases e0 : j % 4 = 0
      · rw [if_pos e0, if_pos e0]
        show _ = Value.bool (if j / 4 = d then true else a.lost (j / 4))
        rw [if_neg e]
      · rw [if_neg e0, if_neg e0, lostV_ne _ _ _ _ _ (by omega) (by omega) (by omega)]
  · intro d' hd'
    replace hd' : d' < a.D + a.P := hd'
    by_cases e : d' = d
    · subst e
      rw [lostV_1]
      have h1 : OwnFn W 4 1 v1 a.R (fun _ => .bool false) := own_block (ownsRow_base0 o1) (fun b hb => hW b (by have := (f1 b hb).1; omega))
      exact h1.congr (fun j hj => by rw [newAv])
    · rw [lostV_ne _ _ _ _ _ (by omega) (by omega) (by omega)]
      refine ((h.bt d' hd').of_block (fun b hb => hblk b (hlt _ (by omega) b hb) (hne0 (1 + 3 * d') (by omega) (by omega) b hb))).congr (fun j hj => ?_)
      rw [newAv_ne _ _ _ _ _ _ e]
  · intro d' hd'
    replace hd' : d' < a.D + a.P := hd'
    by_cases e : d' = d
    · subst e
      rw [lostV_2]
      have h1 : OwnFn W 75 4 v2 a.R (fun _ => .int .u8 0) := own_block (ownsRow_base0 o2) (fun b hb => hW b (by have := (f2 b hb).1; omega))
      refine h1.congr (fun j hj => ?_)
      show _ = Value.int .u8 ((if d' = d' then C4.zero else a.cell d' (j / 4)).at (j % 4) : Nat)
      rw [if_pos rfl, z_at _ (by omega)]; rfl
    · rw [lostV_ne _ _ _ _ _ (by omega) (by omega) (by omega)]
      refine ((h.ce d' hd').of_block (fun b hb => hblk b (hlt _ (by omega) b hb) (hne0 (2 + 3 * d') (by omega) (by omega) b hb))).congr (fun j hj => ?_)
      show _ = Value.int .u8 ((if d' = d then C4.zero else a.cell d' (j / 4)).at (j % 4) : Nat)
      rw [if_neg e]
  · intro d' hd'
    replace hd' : d' < a.D + a.P := hd'
    by_cases e : d' = d
    · subst e
      rw [lostV_3]
      show LogAt _ _ (if d' = d' then [] else a.recs d')
      rw [if_pos rfl]
      exact World.ownsRow_nil _ _ _ _
    · rw [lostV_ne _ _ _ _ _ (by omega) (by omega) (by omega)]
      show LogAt _ _ (if d' = d then [] else a.recs d')
      rw [if_neg e]
      exact (h.lg d' hd').of_block (fun b hb => hblk b (hlt _ (by omega) b hb) (hne0 (3 + 3 * d') (by omega) (by omega) b hb))
  · intro i hi hb
    replace hi : i < 1 + 3 * (a.D + a.P) := hi
    have := h.row.lt
    rcases lostV_block hb with ⟨_, _, _, h1⟩ | ⟨_, h1⟩ | ⟨_, h1⟩
    · exact h.ap i hi h1
    · have := (f1 _ h1).1; omega
    · have := (f2 _ h1).1; omega
  · intro i j b hi hj hij hb hb2
    replace hi : i < 1 + 3 * (a.D + a.P) := hi
    replace hj : j < 1 + 3 * (a.D + a.P) := hj
    rcases lostV_block hb with ⟨_, _, _, h1⟩ | ⟨e1, h1⟩ | ⟨e1, h1⟩ <;> rcases lostV_block hb2 with ⟨_, _, _, h2⟩ | ⟨e2, h2⟩ | ⟨e2, h2⟩
    · exact h.ap2 i j b hi hj hij h1 h2
    · have := (f1 _ h2).1; have := hlt i hi b h1; omega
    · have := (f2 _ h2).1; have := hlt i hi b h1; omega
    · have := (f1 _ h1).1; have := hlt j hj b h2; omega
    · omega
    · exact hap b h1 h2
    · have := (f2 _ h1).1; have := hlt j hj b h2; omega
    · exact hap b h2 h1
    · omega
/-- A drive that was lost is there again, blank. -/
theorem RefIn.again {w : World} {yb : Nat} {a : Ab} {V : Nat → Value} {left : Int} {dn : Bool} (h : RefIn w yb a V left dn) (hf : Fit a) (d : Nat) (hd : d < a.D + a.P) (hl : a.lost d = true) (g cap : Nat) (hV : V 0 = .slice (some ⟨g, 0, none⟩) (a.D + a.P) cap) :
    RefIn (w.setCell ⟨g, d * 4, none⟩ (.bool false)) yb (a.newDrive d false a.R) V left dn := by
  have hown : (V 0).ownBlock = some g := by rw [hV]; rfl
  have hset : ∀ b, b ≠ g → (w.setCell ⟨g, d * 4, none⟩ (.bool false)).heap[b]? = w.heap[b]? := fun b hb => Below.heap_setCell _ _ _ _ hb
  have hne0 : ∀ j, j < 1 + 3 * (a.D + a.P) → j ≠ 0 → ∀ b, (V j).ownBlock = some b → b ≠ g := fun j hj hj0 b hb e => h.ap2 0 j g (by omega) hj (fun e2 => hj0 e2.symm) hown (by rw [hb, e])
  have hrc : ∀ d', (a.newDrive d false a.R).recs d' = a.recs d' := fun d' => by
    show (if d' = d then [] else a.recs d') = _
    split
    · rename_i e; rw [e, hf.recs d hl]
    · rfl
  have hce : ∀ d' r, (a.newDrive d false a.R).cell d' r = a.cell d' r := fun d' r => by
    show (if d' = d then C4.zero else a.cell d' r) = _
    split
    · rename_i e; rw [e, hf.cells d hl r]
    · rfl
  refine ⟨⟨h.ok.D1, h.ok.D4, h.ok.P1, h.ok.P2, h.ok.R1, h.ok.R6, h.ok.M1, h.ok.M8, fun d' r => by rw [hce]; exact h.ok.cells d' r, fun d' => by rw [hrc]; exact h.ok.len d', fun d' x hx => by rw [hrc] at hx; exact h.ok.recs d' x hx, fun d' hd' => by rw [hrc]; exact h.ok.data d' hd'⟩, ?_, ?_, ?_, ?_, ?_, h.ap, h.ap2⟩
  · exact h.row.of_block (hset yb (fun e => h.ap 0 (by omega) (by rw [hown, e])))
  · have h1 := h.dr
    rw [hV] at h1 ⊢
    refine (h1.set (d * 4) (.bool false)).congr (fun j hj => ?_)
    unfold drF
    by_cases e : j = d * 4
    · rw [if_pos e, if_pos (by omega), show j / 4 = d by omega]
      show _ = Value.bool (if d = d then false else a.lost d)
      rw [if_pos rfl]
    · rw [if_neg e]
      by_cases e0 : j % 4 = 0
      · rw [if_pos e0, if_pos e0]
        show _ = Value.bool (if j / 4 = d then false else a.lost (j / 4))
        rw [if_neg (by omega)]
      · rw [if_neg e0, if_neg e0]
  · intro d' hd'
    replace hd' : d' < a.D + a.P := hd'
    refine ((h.bt d' hd').of_block (fun b hb => hset b (hne0 (1 + 3 * d') (by omega) (by omega) b hb))).congr (fun j hj => ?_)
    replace hj : j < a.R * 1 := hj
    by_cases e : d' = d
    · subst e
      have h1 : avB a d' j = false := by unfold avB; rw [hl]; rfl
      have h2 : avB (a.newDrive d' false a.R) d' j = false := by
        unfold avB Ab.newDrive
        simp; omega
      rw [h1, h2]
    · rw [newAv_ne _ _ _ _ _ _ e]
  · intro d' hd'
    replace hd' : d' < a.D + a.P := hd'
    refine ((h.ce d' hd').of_block (fun b hb => hset b (hne0 (2 + 3 * d') (by omega) (by omega) b hb))).congr (fun j hj => ?_)
    rw [hce]
  · intro d' hd'
    replace hd' : d' < a.D + a.P := hd'
    rw [hrc]
    exact (h.lg d' hd').of_block (fun b hb => hset b (hne0 (3 + 3 * d') (by omega) (by omega) b hb))
set_option maxRecDepth 100000 in
set_option maxHeartbeats 1000000 in
theorem rFail_ok (yb : Nat) (a : Ab) (V : Nat → Value) (left : Int) (d : Nat) (w : World) (h : RefIn w yb a V left false) (hd : d < a.D + a.P) (hl : a.lost d = false) :
    Calls Tryz.prog 47 #[.pointer (some ⟨yb, 0, none⟩), .int .i64 d] w fun e w' => e = .returned (.int .i64 0) ∧ ∃ V', RWent yb a V w (a.newDrive d true 0) V' left false w' := by
  have HT : Hid (∀ W, W.heap = w.heap → Calls Tryz.prog 74 #[.pointer (some ⟨yb, 0, none⟩), .int .i64 d, .int .i64 0] W fun e w' => e = .returned (.int .i64 0) ∧ w' = W) := fun W hW => (show Calls _ _ _ _ _ by
    have h1 := rthere_any yb a V left false d 0 W (h.heap hW)
    rw [there_ok hd (by omega)] at h1; exact h1)
  obtain ⟨_, _, c2, _, c4, _⟩ := h.cells
  have hlt := h.row.lt
  obtain ⟨g, cap, e0, hg, hgy, hdr⟩ := h.drive
  obtain ⟨d0, d1, d2, d3⟩ := hdr d hd
  have hR6 := h.ok.R6
  have hR1 := h.ok.R1
  have hfz : ∀ j, w.frozen? ⟨g, j, none⟩ = false := fun j => by
    have h1 := h.dr
    rw [e0] at h1
    exact World.ownsRow.frozenAt h1 _
  have HB : Hid (∀ W, W.heap = w.heap → W.os = w.os → W.tape = w.tape → W.output = w.output → Calls Tryz.prog 63 #[.int .i64 a.R, .bool false] W fun e w' => ∃ p1 q1 p2 q2, e = .returned (.agg #[.bool false, .slice p1 a.R q1, .slice p2 a.R q2, .slice none 0 0]) ∧ w'.cell? ⟨yb, 4, none⟩ = some (V 0) ∧ (w'.cell? ⟨g, d * 4, none⟩ = some (.bool false) ∧ w'.cell? ⟨g, d * 4 + 1, none⟩ = some (V (1 + 3 * d)) ∧ w'.cell? ⟨g, d * 4 + 2, none⟩ = some (V (2 + 3 * d)) ∧ w'.cell? ⟨g, d * 4 + 3, none⟩ = some (V (3 + 3 * d))) ∧ (w'.frozen? ⟨g, d * 4, none⟩ = false ∧ w'.frozen? ⟨g, d * 4 + 1, none⟩ = false ∧ w'.frozen? ⟨g, d * 4 + 2, none⟩ = false ∧ w'.frozen? ⟨g, d * 4 + 3, none⟩ = false) ∧ g < w'.heap.size ∧ yb < w'.heap.size ∧ Hid (RWent yb a V w (a.newDrive d true 0) (lostV V d (.slice p1 a.R q1) (.slice p2 a.R q2)) left false (((((w'.setCell ⟨g, d * 4, none⟩ (.bool false)).setCell ⟨g, d * 4 + 1, none⟩ (.slice p1 a.R q1)).setCell ⟨g, d * 4 + 2, none⟩ (.slice p2 a.R q2)).setCell ⟨g, d * 4 + 3, none⟩ (.slice none 0 0)).setCell ⟨g, d * 4, none⟩ (.bool true)))) := fun W hW ho ht hp => by
    refine (rblank_any a.R false W hR6 hR1).mono ?_
    rintro e w' ⟨v1, v2, rfl, o1, o2, hap, hbel0⟩
    obtain ⟨p1, q1, rfl⟩ := own_wid o1
    obtain ⟨p2, q2, rfl⟩ := own_wid o2
    have hbel : Below w.heap.size w w' := below_from hbel0 hW ho ht hp
    have hsz : W.heap.size = w.heap.size := by rw [hW]
    rw [hsz] at o1 o2
    rw [hl] at d0
    have hfr : ∀ j, w'.frozen? ⟨g, j, none⟩ = false := fun j => (hbel.frozen (p := ⟨g, j, none⟩) hg).trans (hfz j)
    refine ⟨p1, q1, p2, q2, rfl, below_cell' hbel c4, ⟨below_cell' hbel d0, below_cell' hbel d1, below_cell' hbel d2, below_cell' hbel d3⟩, ⟨hfr _, hfr _, hfr _, hfr _⟩, Nat.lt_of_lt_of_le hg hbel.size, Nat.lt_of_lt_of_le hlt hbel.size, (show RWent _ _ _ _ _ _ _ _ _ from ?_)⟩
    obtain ⟨W', hh1, hh2, hh3, hh4, hWW⟩ : ∃ W' : World, W'.heap = (((((w'.setCell ⟨g, d * 4, none⟩ (.bool false)).setCell ⟨g, d * 4 + 1, none⟩ (.slice p1 a.R q1)).setCell ⟨g, d * 4 + 2, none⟩ (.slice p2 a.R q2)).setCell ⟨g, d * 4 + 3, none⟩ (.slice none 0 0)).setCell ⟨g, d * 4, none⟩ (.bool true)).heap ∧ W'.os = w'.os ∧ W'.tape = w'.tape ∧ W'.output = w'.output ∧ W' = (((((w'.setCell ⟨g, d * 4, none⟩ (.bool false)).setCell ⟨g, d * 4 + 1, none⟩ (.slice p1 a.R q1)).setCell ⟨g, d * 4 + 2, none⟩ (.slice p2 a.R q2)).setCell ⟨g, d * 4 + 3, none⟩ (.slice none 0 0)).setCell ⟨g, d * 4, none⟩ (.bool true)) := ⟨_, rfl, rfl, rfl, rfl, rfl⟩
    rw [← hWW]
    have hset : ∀ b, b ≠ g → W'.heap[b]? = w'.heap[b]? := fun b hb => by
      rw [hh1, Below.heap_setCell _ _ _ _ hb, Below.heap_setCell _ _ _ _ hb, Below.heap_setCell _ _ _ _ hb, Below.heap_setCell _ _ _ _ hb, Below.heap_setCell _ _ _ _ hb]
    have h1 := h.dr.of_block (w' := w') (fun b hb => hbel.block b (h.dr.lt hb))
    rw [e0] at h1
    have h2 := ((((h1.set (d * 4) (.bool false)).set (d * 4 + 1) (.slice p1 a.R q1)).set (d * 4 + 2) (.slice p2 a.R q2)).set (d * 4 + 3) (.slice none 0 0)).set (d * 4) (.bool true)
    have h3 := OwnFn.of_block (w' := W') h2 (fun b _ => by rw [hh1])
    have f1 := fun b hb => (World.ownsRow.lt o1 b hb).1
    have f2 := fun b hb => (World.ownsRow.lt o2 b hb).1
    have hin : RFoot yb a V g := .inr ⟨0, by omega, by rw [e0]; rfl⟩
    refine ⟨h.fresh d hd g cap e0 hbel _ _ o1 o2 hap hset ?_, ?_, ?_⟩
    · rw [e0]
      refine h3.congr (fun j hj => ?_)
      by_cases e1 : j = d * 4
      · subst e1; simp
      · by_cases e2 : j = d * 4 + 1
        · subst e2; simp
        · by_cases e3 : j = d * 4 + 2
          · subst e3; simp
          · by_cases e4 : j = d * 4 + 3
            · subst e4; simp
            · simp [e1, e2, e3, e4]
    · refine ⟨hh2.trans hbel.os, hh3.trans hbel.tape, hh4.trans hbel.output, ?_, fun b hb hn => ?_⟩
      · rw [hh1]; simpa [World.setCell] using hbel.size
      · rw [hset b (fun e => hn (e ▸ hin))]; exact hbel.block b hb
    · intro k hk
      rcases hk with hk | ⟨i, hi, hk⟩
      · exact .inl (.inl hk)
      · rcases lostV_block hk with ⟨_, _, _, h4⟩ | ⟨_, h4⟩ | ⟨_, h4⟩
        · exact .inl (.inr ⟨i, hi, h4⟩)
        · exact .inr (f1 k h4)
        · exact .inr (f2 k h4)
  rw [e0] at c4 HB
  rw [hl] at d0
  have hdi : (d : Int) < ((a.D + a.P : Nat) : Int) := by omega
  have hd6 : d < 6 := by have := h.ok.D4; have := h.ok.P2; omega
  clear h hdr hd hl hfz e0
  generalize a.D + a.P = nn at *
  generalize V (1 + 3 * d) = V1 at *
  generalize V (2 + 3 * d) = V2 at *
  generalize V (3 + 3 * d) = V3 at *
  go_enter Tryz.func47, Tryz.ntmps47
  go_wp2_with fail
  refine (HT.out _ rfl).mono ?_
  rintro e W ⟨rfl, hW⟩
  obtain rfl := hW.symm
  go_wp2_with fail
  go_region_with ((go_at_call 63; go_must (refine (HB.out _ (by rfl) (by rfl) (by rfl) (by rfl)).mono ?_); rintro e w2 ⟨p1, q1, p2, q2, rfl, x4, ⟨y0, y1, y2, y3⟩, ⟨f0, f1, f2, f3⟩, hg2, hy2, HF⟩; clear c4 d0 d1 d2 d3 HB))
  all_goals
    go_wp2_with fail
    go_ret
    exact ⟨rfl, _, by first | exact HF.out | exact HF.out.drew⟩
set_option maxRecDepth 100000 in
set_option maxHeartbeats 1000000 in
theorem rReplace_ok (yb : Nat) (a : Ab) (V : Nat → Value) (left : Int) (d : Nat) (w : World) (h : RefIn w yb a V left false) (hft : Fit a) (hd : d < a.D + a.P) (hl : a.lost d = true) :
    Calls Tryz.prog 49 #[.pointer (some ⟨yb, 0, none⟩), .int .i64 d] w fun e w' => e = .returned (.int .i64 0) ∧ ∃ V', RWent yb a V w (a.newDrive d false a.R) V' left false w' := by
  have HT : Hid (∀ W, W.heap = w.heap → Calls Tryz.prog 74 #[.pointer (some ⟨yb, 0, none⟩), .int .i64 d, .int .i64 0] W fun e w' => e = .returned (.int .i64 0) ∧ w' = W) := fun W hW => (show Calls _ _ _ _ _ by
    have h1 := rthere_any yb a V left false d 0 W (h.heap hW)
    rw [there_ok hd (by omega)] at h1; exact h1)
  obtain ⟨_, _, _, _, c4, _⟩ := h.cells
  have hlt := h.row.lt
  obtain ⟨g, cap, e0, hg, hgy, hdr⟩ := h.drive
  obtain ⟨d0, _, _, _⟩ := hdr d hd
  have hf0 : w.frozen? ⟨g, d * 4, none⟩ = false := by
    have h1 := h.dr
    rw [e0] at h1
    exact World.ownsRow.frozenAt h1 _
  have HF : Hid (RWent yb a V w (a.newDrive d false a.R) V left false (w.setCell ⟨g, d * 4, none⟩ (.bool false))) := (show RWent _ _ _ _ _ _ _ _ _ from ⟨h.again hft d hd hl g cap e0, (Kept.refl _ _).setCell (.inl (.inr ⟨0, by omega, by rw [e0]; rfl⟩)) _, fun k hk => .inl hk⟩)
  rw [e0] at c4
  rw [hl] at d0
  have hdi : (d : Int) < ((a.D + a.P : Nat) : Int) := by omega
  have hd6 : d < 6 := by have := h.ok.D4; have := h.ok.P2; omega
  clear h hdr e0 hd hl hft
  generalize a.D + a.P = nn at *
  go_enter Tryz.func49, Tryz.ntmps49
  go_wp2_with fail
  refine (HT.out _ rfl).mono ?_
  rintro e W ⟨rfl, hW⟩
  obtain rfl := hW.symm
  go_wp2_with fail
  go_ret
  exact ⟨rfl, _, by first | exact HF.out | exact HF.out.drew⟩
end Go.Proofs.YtfpoiikhhjdpdaaGreat
