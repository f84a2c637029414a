import Derived.Test.YtfpoiikhhjdpdaaGreatJ44
import Derived.Test.YtfpoiikhhjdpdaaGreatJ27
/- The document: Rebuild. -/
namespace Go.Proofs.YtfpoiikhhjdpdaaGreat
open Go.RowKit
set_option linter.unusedVariables false
attribute [local go_sem ↓] Go.wp_at_zero Go.wp_at_succ
/-- The same run, of what a hoard has. -/
def abR (a : Ab) (d r : Nat) : Ab := if rbB a d r then a.layC d r (rbC a d r) else a
def abRun (a : Ab) (d : Nat) (n : Int) : Nat → Ab × Nat
  | 0 => (a, 0)
  | k + 1 => if ((abRun a d n k).2 : Int) < n then (abR (abRun a d n k).1 d k, (abRun a d n k).2 + if rbB (abRun a d n k).1 d k then 1 else 0) else abRun a d n k
theorem rbS_ab (s : St) (d r : Nat) : (rbS s d r).toAb = abR s.toAb d r := by
  unfold rbS abR
  split
  · rfl
  · rfl
theorem rbRun_ab (s : St) (d : Nat) (n : Int) (k : Nat) : (rbRun s d n k).1.toAb = (abRun s.toAb d n k).1 ∧ (rbRun s d n k).2 = (abRun s.toAb d n k).2 := by
  induction k with
  | zero => exact ⟨rfl, rfl⟩
  | succ k ih =>
    obtain ⟨h1, h2⟩ := ih
    simp only [rbRun, abRun]
    rw [h2]
    split
    · exact ⟨by rw [rbS_ab, h1], by rw [h1]⟩
    · exact ⟨h1, h2⟩
theorem abR_props (a : Ab) (d r : Nat) : ((abR a d r).D = a.D ∧ (abR a d r).P = a.P ∧ (abR a d r).R = a.R ∧ (abR a d r).M = a.M) ∧ (abR a d r).lost = a.lost ∧ (abR a d r).steps = a.steps ∧ (abR a d r).brk = a.brk := by
  unfold abR
  split
  · exact ⟨⟨rfl, rfl, rfl, rfl⟩, rfl, rfl, rfl⟩
  · exact ⟨⟨rfl, rfl, rfl, rfl⟩, rfl, rfl, rfl⟩
theorem abRun_props (a : Ab) (d : Nat) (n : Int) (k : Nat) : ((abRun a d n k).1.D = a.D ∧ (abRun a d n k).1.P = a.P ∧ (abRun a d n k).1.R = a.R ∧ (abRun a d n k).1.M = a.M) ∧ (abRun a d n k).1.lost = a.lost ∧ (abRun a d n k).1.steps = a.steps ∧ (abRun a d n k).1.brk = a.brk := by
  induction k with
  | zero => exact ⟨⟨rfl, rfl, rfl, rfl⟩, rfl, rfl, rfl⟩
  | succ k ih =>
    simp only [abRun]
    split
    · have h := abR_props (abRun a d n k).1 d k
      exact ⟨⟨h.1.1.trans ih.1.1, h.1.2.1.trans ih.1.2.1, h.1.2.2.1.trans ih.1.2.2.1, h.1.2.2.2.trans ih.1.2.2.2⟩, h.2.1.trans ih.2.1, h.2.2.1.trans ih.2.2.1, h.2.2.2.trans ih.2.2.2⟩
    · exact ih
theorem Fit.abRun {a : Ab} (h : Fit a) (d : Nat) (n : Int) (hl : a.lost d = false) (k : Nat) : Fit (abRun a d n k).1 := by
  induction k with
  | zero => exact h
  | succ k ih =>
    simp only [Go.Proofs.YtfpoiikhhjdpdaaGreat.abRun]
    split
    · show Fit (abR _ d k)
      unfold abR
      split
      · exact ih.layC d k _ (by rw [(abRun_props a d n k).2.1]; exact hl)
      · exact ih
    · exact ih
theorem abRun_le (a : Ab) (d : Nat) (n : Int) (k : Nat) : (abRun a d n k).2 ≤ k := by
  induction k with
  | zero => exact Nat.le_refl _
  | succ k ih =>
    simp only [abRun]
    split
    · show (abRun a d n k).2 + _ ≤ _
      split <;> omega
    · omega
theorem abRun_stop (a : Ab) (d : Nat) (n : Int) (k j : Nat) (h : ¬ ((abRun a d n k).2 : Int) < n) : abRun a d n (k + j) = abRun a d n k := by
  induction j with
  | zero => rfl
  | succ j ih =>
    show (if ((abRun a d n (k + j)).2 : Int) < n then _ else abRun a d n (k + j)) = _
    rw [ih, if_neg h]
theorem abRun_yes (a : Ab) (d : Nat) (n : Int) (k : Nat) (h : ((abRun a d n k).2 : Int) < n) (hb : rbB (abRun a d n k).1 d k = true) : abRun a d n (k + 1) = ((abRun a d n k).1.layC d k (rbC (abRun a d n k).1 d k), (abRun a d n k).2 + 1) := by
  show (if ((abRun a d n k).2 : Int) < n then _ else _) = _
  rw [if_pos h, hb]
  unfold abR
  rw [if_pos hb]; rfl
theorem abRun_no (a : Ab) (d : Nat) (n : Int) (k : Nat) (h : ((abRun a d n k).2 : Int) < n) (hb : rbB (abRun a d n k).1 d k = false) : abRun a d n (k + 1) = abRun a d n k := by
  show (if ((abRun a d n k).2 : Int) < n then _ else _) = _
  rw [if_pos h, hb]
  unfold abR
  rw [if_neg (by rw [hb]; decide)]; rfl
set_option maxRecDepth 100000 in
set_option maxHeartbeats 1000000 in
theorem rRebuild_no (yb : Nat) (a : Ab) (V : Nat → Value) (left : Int) (dn : Bool) (d n : Int) (w : World) (h : RefIn w yb a V left dn) (hd : rThere (a.D + a.P) dn d 0 ≠ 0) :
    Calls Tryz.prog 51 #[.pointer (some ⟨yb, 0, none⟩), .int .i64 d, .int .i64 n] w fun e w' => e = .returned (.tuple #[.int .i64 0, .int .i64 (rThere (a.D + a.P) dn d 0)]) ∧ Below w.heap.size w w' := by
  have HT : Hid (∀ W, W.heap = w.heap → Calls Tryz.prog 74 #[.pointer (some ⟨yb, 0, none⟩), .int .i64 d, .int .i64 0] W fun e w' => e = .returned (.int .i64 (rThere (a.D + a.P) dn d 0)) ∧ w' = W) := fun W hW => rthere_any yb a V left dn d 0 W (h.heap hW)
  generalize rThere (a.D + a.P) dn d 0 = t at *
  have hne : (t != 0) = true := by rw [bne_iff_ne]; exact hd
  have hlt := h.row.lt
  clear h hd
  go_enter Tryz.func51, Tryz.ntmps51
  go_wp2_with fail
  refine (HT.out _ rfl).mono ?_
  rintro e W ⟨rfl, hW⟩
  obtain rfl := hW.symm
  go_wp2_with fail
  go_ret2
  exact ⟨rfl, by repeat (first | exact Below.refl _ _ | refine Below.drew ?_)⟩
set_option maxRecDepth 100000 in
set_option maxHeartbeats 1000000 in
theorem rRebuild_bad (yb : Nat) (a : Ab) (V : Nat → Value) (left : Int) (d : Nat) (n : Int) (w : World) (h : RefIn w yb a V left false) (hd : d < a.D + a.P) (hb : a.lost d = true ∨ n < 1) :
    Calls Tryz.prog 51 #[.pointer (some ⟨yb, 0, none⟩), .int .i64 d, .int .i64 n] w fun e w' => e = .returned (.tuple #[.int .i64 0, .int .i64 (if a.lost d then 7 else 1)]) ∧ Below w.heap.size w w' := by
  have HT : Hid (∀ W, W.heap = w.heap → Calls Tryz.prog 74 #[.pointer (some ⟨yb, 0, none⟩), .int .i64 d, .int .i64 0] W fun e w' => e = .returned (.int .i64 0) ∧ w' = W) := fun W hW => (show Calls _ _ _ _ _ by
    have h1 := rthere_any yb a V left false d 0 W (h.heap hW)
    rw [there_ok hd (by omega)] at h1; exact h1)
  obtain ⟨_, _, _, _, c4, _⟩ := h.cells
  have hlt := h.row.lt
  obtain ⟨g, cap, e0, hg, hgy, hdr⟩ := h.drive
  obtain ⟨d0, _, _, _⟩ := hdr d hd
  rw [e0] at c4
  have hdi : (d : Int) < ((a.D + a.P : Nat) : Int) := by omega
  have hd6 : d < 6 := by have := h.ok.D4; have := h.ok.P2; omega
  clear h hdr e0 hd
  generalize a.D + a.P = nn at *
  cases hl : a.lost d
  · rw [hl] at d0
    have hn1 : n < 1 := by
      rcases hb with h1 | h1
      · rw [hl] at h1; cases h1
      · exact h1
    have hn2 : decide (n < 1) = true := by simpa using hn1
    clear hb hl
    go_enter Tryz.func51, Tryz.ntmps51
    go_wp2_with fail
    refine (HT.out _ rfl).mono ?_
    rintro e W ⟨rfl, hW⟩
    obtain rfl := hW.symm
    go_wp2_with fail
    go_ret2
    exact ⟨rfl, by repeat (first | exact Below.refl _ _ | refine Below.drew ?_)⟩
  · rw [hl] at d0
    clear hb hl
    go_enter Tryz.func51, Tryz.ntmps51
    go_wp2_with fail
    refine (HT.out _ rfl).mono ?_
    rintro e W ⟨rfl, hW⟩
    obtain rfl := hW.symm
    go_wp2_with fail
    go_ret2
    exact ⟨rfl, by repeat (first | exact Below.refl _ _ | refine Below.drew ?_)⟩
theorem ints_len {w : World} {B : Nat} {v : Value} {l : List Nat} (h : IntsAt w B v l) : ∃ p cap, v = .slice p l.length cap := by
  obtain ⟨p, cap, e, _⟩ := IntsAt.nums h
  exact ⟨p, cap, e⟩
theorem gone_len (a : Ab) (r : Nat) : goneB a r = decide ((parP a r a.P).length < (missL a r a.D).length) := by
  unfold goneB
  rw [parL_parP, List.length_map]
/-- A row is rebuilt. -/
theorem RWent.lay {yb : Nat} {a A : Ab} {V : Nat → Value} {left : Int} {w w' : World} (h : RWent yb a V w A V left false w') (d r : Nat) (c : C4) (hd : d < A.D + A.P) (hr : r < A.R) (hl : A.lost d = false) (hc : c.ok) (gc capc gb capb : Nat) (ec : V (2 + 3 * d) = .slice (some ⟨gc, 0, none⟩) A.R capc) (eb : V (1 + 3 * d) = .slice (some ⟨gb, 0, none⟩) A.R capb) :
    RWent yb a V w (A.layC d r c) V left false (((((w'.setCell ⟨gc, r * 4, none⟩ (.int .u8 c.b0)).setCell ⟨gc, r * 4 + 1, none⟩ (.int .u8 c.b1)).setCell ⟨gc, r * 4 + 2, none⟩ (.int .u8 c.b2)).setCell ⟨gc, r * 4 + 3, none⟩ (.int .u8 c.b3)).setCell ⟨gb, r, none⟩ (.bool true)) := by
  have hin1 : RFoot yb A V gc := .inr ⟨2 + 3 * d, by omega, by rw [ec]; rfl⟩
  have hin2 : RFoot yb A V gb := .inr ⟨1 + 3 * d, by omega, by rw [eb]; rfl⟩
  exact h.trans ⟨h.at'.layC d r c hd hr hl hc gc capc gb capb ec eb, (((((Kept.refl _ _).setCell (.inl hin1) _).setCell (.inl hin1) _).setCell (.inl hin1) _).setCell (.inl hin1) _).setCell (.inl hin2) _, fun _ hk => .inl hk⟩
theorem RWent.lift {yb : Nat} {a A : Ab} {V V' : Nat → Value} {left : Int} {w w' W : World} (h : RWent yb a V w A V' left false w') (k : Below w'.heap.size w' W) : RWent yb a V w A V' left false W := h.trans (RWent.below h.at' k)
set_option maxRecDepth 100000 in
set_option maxHeartbeats 2000000 in
theorem rRebuild_ok (yb : Nat) (a : Ab) (V : Nat → Value) (left : Int) (d : Nat) (n : Int) (w : World) (h : RefIn w yb a V left false) (hd : d < a.D + a.P) (hl : a.lost d = false) (hn : 1 ≤ n) (hn2 : n ≤ 9223372036854775807) :
    Calls Tryz.prog 51 #[.pointer (some ⟨yb, 0, none⟩), .int .i64 d, .int .i64 n] w fun e w' => e = .returned (.tuple #[.int .i64 ((abRun a d n a.R).2 : Nat), .int .i64 0]) ∧ ∃ V', RWent yb a V w (abRun a d n a.R).1 V' left false w' := by
  have HT : Hid (∀ W, W.heap = w.heap → Calls Tryz.prog 74 #[.pointer (some ⟨yb, 0, none⟩), .int .i64 d, .int .i64 0] W fun e w' => e = .returned (.int .i64 0) ∧ w' = W) := fun W hW => (show Calls _ _ _ _ _ by
    have h1 := rthere_any yb a V left false d 0 W (h.heap hW)
    rw [there_ok hd (by omega)] at h1; exact h1)
  obtain ⟨c0, _, c2, _, c4, _⟩ := h.cells
  have hlt := h.row.lt
  obtain ⟨g, cap, e0, hg, hgy, hdr⟩ := h.drive
  obtain ⟨d0, _, _, _⟩ := hdr d hd
  rw [e0] at c4
  rw [hl] at d0
  have hdi : (d : Int) < ((a.D + a.P : Nat) : Int) := by omega
  have hD4 := h.ok.D4
  have hd6 : d < 6 := by have := h.ok.P2; omega
  have hR6 := h.ok.R6
  have hni : ¬ (n < 1) := by omega
  have HH : Hid (RefIn w yb a V left false) := h
  have HD : Hid (d < a.D + a.P ∧ a.lost d = false) := ⟨hd, hl⟩
  clear h hdr e0 hl hd
  generalize hnn : a.D + a.P = nn at *
  have HNN : Hid (a.D + a.P = nn) := hnn
  clear hnn
  go_enter Tryz.func51, Tryz.ntmps51
  go_wp2_with fail
  refine (HT.out _ rfl).mono ?_
  rintro e W ⟨rfl, hW⟩
  obtain rfl := hW.symm
  go_wp2_with fail
  clear c0 c2 c4 d0 hgy hg
  go_loopw [9, 10] (fun ck cr wr => ∃ r : Nat, r ≤ a.R ∧ cr = .int .i64 (r : Nat) ∧ ck = .int .i64 ((abRun a d n r).2 : Nat) ∧ Hid (RWent yb a V w (abRun a d n r).1 V left false wr)) (fun _ cr _ => a.R - (intOf cr).toNat)
  case atStart => exact ⟨0, by omega, rfl, rfl, (show RWent yb a V w a V left false _ from RWent.below HH.out (by repeat (first | exact Below.refl _ _ | refine Below.drew ?_)))⟩
  case round =>
    obtain ⟨r, hr, rfl, rfl, hwt⟩ := hrel
    have h1 := hwt.out.at'
    have hpr := abRun_props a d n r
    obtain ⟨c0, _, c2, _, c4, _⟩ := h1.cells
    rw [hpr.1.1] at c0
    rw [hpr.1.2.2.1] at c2
    have hlt1 := h1.row.lt
    obtain ⟨g, cap, e0, hg, hgy, hdr⟩ := h1.drive
    have hDP : (abRun a d n r).1.D + (abRun a d n r).1.P = nn := by rw [hpr.1.1, hpr.1.2.1]; exact HNN.out
    have hdN : d < (abRun a d n r).1.D + (abRun a d n r).1.P := by rw [hDP]; omega
    have hRR : (abRun a d n r).1.R = a.R := hpr.1.2.2.1
    have hDD : (abRun a d n r).1.D = a.D := hpr.1.1
    have hLL : (abRun a d n r).1.lost d = false := by rw [hpr.2.1]; exact HD.out.2
    obtain ⟨_, d1, d2, _⟩ := hdr d hdN
    rw [e0, hDP] at c4
    have hkl := abRun_le a d n r
    obtain ⟨k, hk⟩ : ∃ k, (abRun a d n r).2 = k := ⟨_, rfl⟩
    have HK : Hid ((abRun a d n r).2 = k) := hk
    rw [hk] at hkl ⊢
    by_cases hrR : r < a.R
    · have hri : (r : Int) < (a.R : Int) := by omega
      by_cases hkn : (k : Int) < n
      · obtain ⟨gb, capb, eb, hgb, hbt⟩ := h1.built d hdN
        obtain ⟨gc, capc, ec, hgc, hfz, hce⟩ := h1.cellsOf d hdN
        have hfb : wr.frozen? ⟨gb, r, none⟩ = false := by
          have h2 := h1.bt d hdN
          rw [eb] at h2
          exact World.ownsRow.frozenAt h2 _
        have b0 := hbt r (by rw [hRR]; exact hrR)
        have x0 := hce r 0 (by rw [hRR]; exact hrR) (by omega)
        have x1 := hce r 1 (by rw [hRR]; exact hrR) (by omega)
        have x2 := hce r 2 (by rw [hRR]; exact hrR) (by omega)
        have x3 := hce r 3 (by rw [hRR]; exact hrR) (by omega)
        rw [Nat.add_zero] at x0
        have f0 := hfz (r * 4)
        have f1 := hfz (r * 4 + 1)
        have f2 := hfz (r * 4 + 2)
        have f3 := hfz (r * 4 + 3)
        have hcy : gc ≠ yb := fun e => h1.ap (2 + 3 * d) (by omega) (by rw [ec, e]; rfl)
        have hcg : gc ≠ g := fun e => h1.ap2 (2 + 3 * d) 0 g (by omega) (by omega) (by omega) (by rw [ec, e]; rfl) (by rw [e0]; rfl)
        have hcb : gc ≠ gb := fun e => h1.ap2 (2 + 3 * d) (1 + 3 * d) gb (by omega) (by omega) (by omega) (by rw [ec, e]; rfl) (by rw [eb]; rfl)
        have hby : gb ≠ yb := fun e => h1.ap (1 + 3 * d) (by omega) (by rw [eb, e]; rfl)
        have hbg : gb ≠ g := fun e => h1.ap2 (1 + 3 * d) 0 g (by omega) (by omega) (by omega) (by rw [eb, e]; rfl) (by rw [e0]; rfl)
        have HMS : Hid (∀ W, Below wr.heap.size wr W → Calls Tryz.prog 87 #[.pointer (some ⟨yb, 0, none⟩), .int .i64 r] W fun e w' => ∃ p1 q1 p2 q2, e = .returned (.tuple #[.slice p1 (missL (abRun a d n r).1 r a.D).length q1, .slice p2 (parP (abRun a d n r).1 r (abRun a d n r).1.P).length q2]) ∧ Below wr.heap.size wr w') := fun W hW => by
          refine (rmissing_any yb _ V left false r W (h1.below hW) (by rw [hRR]; exact hrR)).mono ?_
          rintro e w' ⟨v1, v2, rfl, i1, i2, hb⟩
          obtain ⟨p1, q1, rfl⟩ := ints_len i1
          obtain ⟨p2, q2, rfl⟩ := ints_len i2
          exact ⟨p1, q1, p2, q2, by rw [hDD], hW.trans (hb.mono hW.size)⟩
        have HHO : Hid (rbB (abRun a d n r).1 d r = true → ∀ W, d < a.D → Below wr.heap.size wr W → Calls Tryz.prog 71 #[.pointer (some ⟨yb, 0, none⟩), .int .i64 d, .int .i64 r] W fun e w' => e = .returned (.agg #[.int .u8 (rbC (abRun a d n r).1 d r).b0, .int .u8 (rbC (abRun a d n r).1 d r).b1, .int .u8 (rbC (abRun a d n r).1 d r).b2, .int .u8 (rbC (abRun a d n r).1 d r).b3]) ∧ Below W.heap.size W w') := fun hrb W hdD hW => by
          have hgo : goneB (abRun a d n r).1 r = false := by
            unfold rbB at hrb
            simp at hrb; exact hrb.2
          have h2 := rholds_any yb _ V left false d r W (h1.below hW) (by rw [hDD]; exact hdD) (by rw [hRR]; exact hrR) (.inr hgo)
          have hcc : rbC (abRun a d n r).1 d r = holdC (abRun a d n r).1 d r := by unfold rbC; rw [if_neg (by rw [hDD]; omega)]
          rw [hcc]; exact h2
        have HPA : Hid (rbB (abRun a d n r).1 d r = true → ∀ W, a.D ≤ d → Below wr.heap.size wr W → Calls Tryz.prog 88 #[.pointer (some ⟨yb, 0, none⟩), .int .i64 ((d - a.D : Nat) : Int), .int .i64 r] W fun e w' => e = .returned (.agg #[.int .u8 (rbC (abRun a d n r).1 d r).b0, .int .u8 (rbC (abRun a d n r).1 d r).b1, .int .u8 (rbC (abRun a d n r).1 d r).b2, .int .u8 (rbC (abRun a d n r).1 d r).b3]) ∧ Below W.heap.size W w') := fun hrb W hdD hW => by
          have hgo : goneB (abRun a d n r).1 r = false := by
            unfold rbB at hrb
            simp at hrb; exact hrb.2
          have h2 := rparity_any yb _ V left false (d - a.D) r W (h1.below hW) (by rw [hRR]; exact hrR) hgo
          have hcc : rbC (abRun a d n r).1 d r = psum (abRun a d n r).1 ((abRun a d n r).1.D + (d - a.D)) r (abRun a d n r).1.D := by unfold rbC; rw [if_pos (by rw [hDD]; omega), hDD, show a.D + (d - a.D) = d by omega]
          rw [hcc]; exact h2
        have HCO : Hid ((rbC (abRun a d n r).1 d r).ok) := rbC_ok h1.ok d r
        have HG : Hid (goneB (abRun a d n r).1 r = decide ((parP (abRun a d n r).1 r (abRun a d n r).1.P).length < (missL (abRun a d n r).1 r a.D).length)) := (show _ = _ by rw [gone_len, hDD])
        have HLAY : Hid (∀ w', Below wr.heap.size wr w' → RWent yb a V w ((abRun a d n r).1.layC d r (rbC (abRun a d n r).1 d r)) V left false (((((w'.setCell ⟨gc, r * 4, none⟩ (.int .u8 (rbC (abRun a d n r).1 d r).b0)).setCell ⟨gc, r * 4 + 1, none⟩ (.int .u8 (rbC (abRun a d n r).1 d r).b1)).setCell ⟨gc, r * 4 + 2, none⟩ (.int .u8 (rbC (abRun a d n r).1 d r).b2)).setCell ⟨gc, r * 4 + 3, none⟩ (.int .u8 (rbC (abRun a d n r).1 d r).b3)).setCell ⟨gb, r, none⟩ (.bool true))) := fun w' hb => (hwt.out.lift hb).lay d r _ hdN (by rw [hRR]; exact hrR) hLL (rbC_ok h1.ok d r) gc capc gb capb ec eb
        have HCL : Hid (∀ W, Below wr.heap.size wr W → W.cell? ⟨yb, 0, none⟩ = some (.int .i64 a.D) ∧ W.cell? ⟨yb, 2, none⟩ = some (.int .i64 a.R) ∧ W.cell? ⟨yb, 4, none⟩ = some (.slice (some ⟨g, 0, none⟩) nn cap) ∧ W.cell? ⟨g, d * 4 + 1, none⟩ = some (.slice (some ⟨gb, 0, none⟩) a.R capb) ∧ W.cell? ⟨g, d * 4 + 2, none⟩ = some (.slice (some ⟨gc, 0, none⟩) a.R capc) ∧ W.cell? ⟨gb, r, none⟩ = some (.bool (avB (abRun a d n r).1 d r)) ∧ (∃ y0 y1 y2 y3, W.cell? ⟨gc, r * 4, none⟩ = some (.int .u8 y0) ∧ W.cell? ⟨gc, r * 4 + 1, none⟩ = some (.int .u8 y1) ∧ W.cell? ⟨gc, r * 4 + 2, none⟩ = some (.int .u8 y2) ∧ W.cell? ⟨gc, r * 4 + 3, none⟩ = some (.int .u8 y3)) ∧ (W.frozen? ⟨gc, r * 4, none⟩ = false ∧ W.frozen? ⟨gc, r * 4 + 1, none⟩ = false ∧ W.frozen? ⟨gc, r * 4 + 2, none⟩ = false ∧ W.frozen? ⟨gc, r * 4 + 3, none⟩ = false ∧ W.frozen? ⟨gb, r, none⟩ = false) ∧ yb < W.heap.size ∧ g < W.heap.size ∧ gb < W.heap.size ∧ gc < W.heap.size) := fun W hb => by
          have hz := hb.size
          refine ⟨below_cell' hb c0, below_cell' hb c2, below_cell' hb c4, ?_, ?_, below_cell' hb b0, ⟨_, _, _, _, below_cell' hb x0, below_cell' hb x1, below_cell' hb x2, below_cell' hb x3⟩, ⟨(hb.frozen (p := ⟨gc, _, none⟩) hgc).trans f0, (hb.frozen (p := ⟨gc, _, none⟩) hgc).trans f1, (hb.frozen (p := ⟨gc, _, none⟩) hgc).trans f2, (hb.frozen (p := ⟨gc, _, none⟩) hgc).trans f3, (hb.frozen (p := ⟨gb, _, none⟩) hgb).trans hfb⟩, by omega, by omega, by omega, by omega⟩
          · rw [below_cell' hb d1, eb, hRR]
          · rw [below_cell' hb d2, ec, hRR]
        have HLIFT : Hid (∀ W, Below wr.heap.size wr W → RWent yb a V w (abRun a d n r).1 V left false W) := fun W hb => hwt.out.lift hb
        have hr6 : r < 6 := by omega
        have hk6 : k ≤ 6 := by omega
        have HML : Hid ((missL (abRun a d n r).1 r a.D).length ≤ 4) := (show _ ≤ _ by have := missL_len (abRun a d n r).1 r a.D; omega)
        have HPL : Hid ((parP (abRun a d n r).1 r (abRun a d n r).1.P).length ≤ 2) := (show _ ≤ _ by have := parP_len (abRun a d n r).1 r (abRun a d n r).1.P; have := h1.ok.P2; omega)
        have HYES : Hid (rbB (abRun a d n r).1 d r = true → abRun a d n (r + 1) = ((abRun a d n r).1.layC d r (rbC (abRun a d n r).1 d r), k + 1)) := fun hb => by
          rw [← HK.out]; exact abRun_yes a d n r (by rw [HK.out]; exact hkn) hb
        have HNO : Hid (rbB (abRun a d n r).1 d r = false → abRun a d n (r + 1) = abRun a d n r) := fun hb => abRun_no a d n r (by rw [HK.out]; exact hkn) hb
        have HRB : Hid (rbB (abRun a d n r).1 d r = !(avB (abRun a d n r).1 d r || goneB (abRun a d n r).1 r)) := rfl
        rw [hRR] at eb ec
        have hlt2 := h1.row.lt
        clear c0 c4 d1 d2 b0 x0 x1 x2 x3 f0 f1 f2 f3 hfb
        clear h1 hpr hdr hbt hce hfz e0 eb ec hwt hRR hDD hLL hdN hk HD
        generalize hA : (abRun a d n r).1 = A at *
        have HA : Hid ((abRun a d n r).1 = A) := hA
        clear hA
        generalize hml : (missL A r a.D).length = ml at *
        generalize hpl : (parP A r A.P).length = pl at *
        have hml4 := HML.out
        have hpl2 := HPL.out
        clear hml hpl HML HPL
        generalize hC : rbC A d r = C at *
        clear hC
        cases hav : avB A d r
        · cases hgo : goneB A r
          · have hrb : rbB A d r = true := by rw [HRB.out, hav, hgo]; rfl
            have hpm : ¬ ((pl : Int) < (ml : Int)) := by have := HG.out; rw [hgo] at this; simp at this; omega
            have hpm2 : decide ((pl : Int) < (ml : Int)) = false := by simpa using hpm
            have HYE : Hid (abRun a d n (r + 1) = (A.layC d r C, k + 1)) := HYES.out hrb
            have HHO2 : Hid _ := HHO.out hrb
            have HPA2 : Hid _ := HPA.out hrb
            clear HHO HPA HYES HNO HRB HG hgo HA
            by_cases hdD : d < a.D
            · have hdDi : (d : Int) < (a.D : Int) := by omega
              have HHO3 : Hid (∀ W, Below wr.heap.size wr W → Calls Tryz.prog 71 #[.pointer (some ⟨yb, 0, none⟩), .int .i64 d, .int .i64 r] W fun e w' => e = .returned (.agg #[.int .u8 C.b0, .int .u8 C.b1, .int .u8 C.b2, .int .u8 C.b3]) ∧ Below W.heap.size W w') := fun W => HHO2.out W hdD
              clear HHO2 HPA2
              go_wp2_with fail
              refine (HMS.out _ (Below.refl _ _)).mono ?_
              rintro e w2 ⟨p1, q1, p2, q2, rfl, k2⟩
              have HK2 : Hid (Below wr.heap.size wr w2) := k2
              clear c2
              obtain ⟨c0, c2, c4, d1, d2, b0, ⟨y0, y1, y2, y3, x0, x1, x2, x3⟩, ⟨f0, f1, f2, f3, fb⟩, l1, l2, l3, l4⟩ := HCL.out w2 k2
              rw [hav] at b0
              clear k2
              go_wp2_with fail
              have HA2 : Hid (Below wr.heap.size wr (w2.alloc (.cells #[.int .u8 0, .int .u8 0, .int .u8 0, .int .u8 0] 75))) := HK2.out.alloc HK2.out.size _
              refine (HHO3.out _ HA2.out).mono ?_
              rintro e w3 ⟨rfl, k3⟩
              have HB3 : Hid (BoxAt w3 w2.heap.size C4.zero) := (BoxAt.new0 w2 _ rfl).below k3
              have HK3 : Hid (Below wr.heap.size wr w3) := HA2.out.trans (k3.mono HA2.out.size)
              have HS3 : Hid (wr.heap.size ≤ w2.heap.size) := HK2.out.size
              clear k3 HA2 HK2 c0 c2 c4 d1 d2 b0 x0 x1 x2 x3 f0 f1 f2 f3 fb l1 l2 l3 l4
              obtain ⟨n0, n1, n2, n3⟩ := HB3.out.cells
              obtain ⟨m0, m1, m2, m3⟩ := HB3.out.frz
              have hbl := HB3.out.lt
              go_wp2_with fail
              obtain ⟨w4, hw4⟩ : ∃ w4 : World, w4 = ((((w3.setCell ⟨w2.heap.size, 0, none⟩ (.int .u8 C.b0)).setCell ⟨w2.heap.size, 1, none⟩ (.int .u8 C.b1)).setCell ⟨w2.heap.size, 2, none⟩ (.int .u8 C.b2)).setCell ⟨w2.heap.size, 3, none⟩ (.int .u8 C.b3)) := ⟨_, rfl⟩
              rw [← hw4]
              have HK4 : Hid (Below wr.heap.size wr w4) := (show Below _ _ _ by rw [hw4]; exact below_set4 HK3.out HS3.out _ _ _ _)
              have HB4 : Hid (BoxAt w4 w2.heap.size C) := (show BoxAt _ _ _ by rw [hw4]; exact HB3.out.set C)
              have HL4 : Hid (RWent yb a V w (abRun a d n (r + 1)).1 V left false (((((w4.setCell ⟨gc, r * 4, none⟩ (.int .u8 C.b0)).setCell ⟨gc, r * 4 + 1, none⟩ (.int .u8 C.b1)).setCell ⟨gc, r * 4 + 2, none⟩ (.int .u8 C.b2)).setCell ⟨gc, r * 4 + 3, none⟩ (.int .u8 C.b3)).setCell ⟨gb, r, none⟩ (.bool true))) := (show RWent _ _ _ _ _ _ _ _ _ by rw [HYE.out]; exact HLAY.out w4 HK4.out)
              clear hw4 HB3 HK3 n0 n1 n2 n3 m0 m1 m2 m3 hbl
              obtain ⟨c0, c2, c4, d1, d2, b0, ⟨y0, y1, y2, y3, x0, x1, x2, x3⟩, ⟨f0, f1, f2, f3, fb⟩, l1, l2, l3, l4⟩ := HCL.out w4 HK4.out
              rw [hav] at b0
              obtain ⟨n0, n1, n2, n3⟩ := HB4.out.cells
              have hbl := HB4.out.lt
              have HK5 : Hid ((abRun a d n (r + 1)).2 = k + 1) := (show _ = _ by rw [HYE.out])
              clear HLAY HCL HMS HK4 HB4 HS3
              go_wp2_with fail
              go_region
              all_goals
                go_wp2_with fail
                exact ⟨⟨r + 1, by omega, by go_num, by rw [HK5.out]; go_num, by first | exact HL4 | exact HL4.out.drew⟩, by simp [intOf]; omega⟩
            · have hdDi : ¬ ((d : Int) < (a.D : Int)) := by omega
              have HPA3 : Hid (∀ W, Below wr.heap.size wr W → Calls Tryz.prog 88 #[.pointer (some ⟨yb, 0, none⟩), .int .i64 ((d : Int) - (a.D : Int)), .int .i64 r] W fun e w' => e = .returned (.agg #[.int .u8 C.b0, .int .u8 C.b1, .int .u8 C.b2, .int .u8 C.b3]) ∧ Below W.heap.size W w') := fun W hW => (show Calls _ _ _ _ _ by
                have h2 := HPA2.out W (by omega) hW
                rw [show ((d - a.D : Nat) : Int) = (d : Int) - (a.D : Int) by omega] at h2
                exact h2)
              have hwr : IntKind.i64.wrap ((d : Int) - (a.D : Int)) = (d : Int) - (a.D : Int) := wrap_big _ (by omega) (by omega)
              clear HHO2 HPA2
              go_wp2_with fail
              refine (HMS.out _ (Below.refl _ _)).mono ?_
              rintro e w2 ⟨p1, q1, p2, q2, rfl, k2⟩
              have HK2 : Hid (Below wr.heap.size wr w2) := k2
              clear c2
              obtain ⟨c0, c2, c4, d1, d2, b0, ⟨y0, y1, y2, y3, x0, x1, x2, x3⟩, ⟨f0, f1, f2, f3, fb⟩, l1, l2, l3, l4⟩ := HCL.out w2 k2
              rw [hav] at b0
              clear k2
              go_wp2_with fail
              have HA2 : Hid (Below wr.heap.size wr (w2.alloc (.cells #[.int .u8 0, .int .u8 0, .int .u8 0, .int .u8 0] 75))) := HK2.out.alloc HK2.out.size _
              refine (HPA3.out _ HA2.out).mono ?_
              rintro e w3 ⟨rfl, k3⟩
              have HB3 : Hid (BoxAt w3 w2.heap.size C4.zero) := (BoxAt.new0 w2 _ rfl).below k3
              have HK3 : Hid (Below wr.heap.size wr w3) := HA2.out.trans (k3.mono HA2.out.size)
              have HS3 : Hid (wr.heap.size ≤ w2.heap.size) := HK2.out.size
              clear k3 HA2 HK2 c0 c2 c4 d1 d2 b0 x0 x1 x2 x3 f0 f1 f2 f3 fb l1 l2 l3 l4
              obtain ⟨n0, n1, n2, n3⟩ := HB3.out.cells
              obtain ⟨m0, m1, m2, m3⟩ := HB3.out.frz
              have hbl := HB3.out.lt
              go_wp2_with fail
              obtain ⟨w4, hw4⟩ : ∃ w4 : World, w4 = ((((w3.setCell ⟨w2.heap.size, 0, none⟩ (.int .u8 C.b0)).setCell ⟨w2.heap.size, 1, none⟩ (.int .u8 C.b1)).setCell ⟨w2.heap.size, 2, none⟩ (.int .u8 C.b2)).setCell ⟨w2.heap.size, 3, none⟩ (.int .u8 C.b3)) := ⟨_, rfl⟩
              rw [← hw4]
              have HK4 : Hid (Below wr.heap.size wr w4) := (show Below _ _ _ by rw [hw4]; exact below_set4 HK3.out HS3.out _ _ _ _)
              have HB4 : Hid (BoxAt w4 w2.heap.size C) := (show BoxAt _ _ _ by rw [hw4]; exact HB3.out.set C)
              have HL4 : Hid (RWent yb a V w (abRun a d n (r + 1)).1 V left false (((((w4.setCell ⟨gc, r * 4, none⟩ (.int .u8 C.b0)).setCell ⟨gc, r * 4 + 1, none⟩ (.int .u8 C.b1)).setCell ⟨gc, r * 4 + 2, none⟩ (.int .u8 C.b2)).setCell ⟨gc, r * 4 + 3, none⟩ (.int .u8 C.b3)).setCell ⟨gb, r, none⟩ (.bool true))) := (show RWent _ _ _ _ _ _ _ _ _ by rw [HYE.out]; exact HLAY.out w4 HK4.out)
              clear hw4 HB3 HK3 n0 n1 n2 n3 m0 m1 m2 m3 hbl
              obtain ⟨c0, c2, c4, d1, d2, b0, ⟨y0, y1, y2, y3, x0, x1, x2, x3⟩, ⟨f0, f1, f2, f3, fb⟩, l1, l2, l3, l4⟩ := HCL.out w4 HK4.out
              rw [hav] at b0
              obtain ⟨n0, n1, n2, n3⟩ := HB4.out.cells
              have hbl := HB4.out.lt
              have HK5 : Hid ((abRun a d n (r + 1)).2 = k + 1) := (show _ = _ by rw [HYE.out])
              clear HLAY HCL HMS HK4 HB4 HS3
              go_wp2_with fail
              go_region
              all_goals
                go_wp2_with fail
                exact ⟨⟨r + 1, by omega, by go_num, by rw [HK5.out]; go_num, by first | exact HL4 | exact HL4.out.drew⟩, by simp [intOf]; omega⟩
          · have hpm : (pl : Int) < (ml : Int) := by have := HG.out; rw [hgo] at this; simp at this; omega
            have HNE : Hid (abRun a d n (r + 1) = abRun a d n r) := HNO.out (by rw [HRB.out, hav, hgo]; rfl)
            clear HHO HPA HYES HNO HRB HG hgo
            go_wp2_with fail
            refine (HMS.out _ (Below.refl _ _)).mono ?_
            rintro e w2 ⟨p1, q1, p2, q2, rfl, k2⟩
            have HK2 : Hid (RWent yb a V w (abRun a d n (r + 1)).1 V left false w2) := (show RWent _ _ _ _ _ _ _ _ _ by rw [HNE.out]; exact (show RWent yb a V w (abRun a d n r).1 V left false w2 by rw [HA.out]; exact HLIFT.out w2 k2))
            clear c2
            obtain ⟨c0, c2, c4, d1, d2, b0, _, _, l1, l2, l3, l4⟩ := HCL.out w2 k2
            rw [hav] at b0
            have HK5 : Hid ((abRun a d n (r + 1)).2 = k) := (show _ = _ by rw [HNE.out]; exact HK.out)
            clear k2 HLAY HCL HMS
            go_wp2_with fail
            exact ⟨⟨r + 1, by omega, by go_num, by rw [HK5.out], by first | exact HK2 | exact HK2.out.drew⟩, by simp [intOf]; omega⟩
        · have HNE : Hid (abRun a d n (r + 1) = abRun a d n r) := HNO.out (by rw [HRB.out, hav]; rfl)
          clear HHO HPA HYES HNO HRB HG
          go_wp2_with fail
          refine (HMS.out _ (Below.refl _ _)).mono ?_
          rintro e w2 ⟨p1, q1, p2, q2, rfl, k2⟩
          have HK2 : Hid (RWent yb a V w (abRun a d n (r + 1)).1 V left false w2) := (show RWent _ _ _ _ _ _ _ _ _ by rw [HNE.out]; exact (show RWent yb a V w (abRun a d n r).1 V left false w2 by rw [HA.out]; exact HLIFT.out w2 k2))
          clear c2
          obtain ⟨c0, c2, c4, d1, d2, b0, _, _, l1, l2, l3, l4⟩ := HCL.out w2 k2
          rw [hav] at b0
          have HK5 : Hid ((abRun a d n (r + 1)).2 = k) := (show _ = _ by rw [HNE.out]; exact HK.out)
          clear k2 HLAY HCL HMS
          go_wp2_with fail
          exact ⟨⟨r + 1, by omega, by go_num, by rw [HK5.out], by first | exact HK2 | exact HK2.out.drew⟩, by simp [intOf]; omega⟩
      · have hkni : ¬ ((k : Int) < n) := hkn
        have HE : Hid (abRun a d n a.R = abRun a d n r) := (show _ = _ by
          have h2 := abRun_stop a d n r (a.R - r) (by rw [HK.out]; exact hkn)
          rw [show r + (a.R - r) = a.R by omega] at h2; exact h2)
        clear h1 hpr hdr e0 hk d1 d2 c4
        go_wp2_with fail
        go_ret2
        exact ⟨by rw [HE.out, HK.out]; rfl, V, by rw [HE.out]; exact hwt.out⟩
    · have hre : r = a.R := by omega
      have hri : ¬ ((r : Int) < (a.R : Int)) := by omega
      have HE : Hid (abRun a d n a.R = abRun a d n r) := (show _ = _ by rw [hre])
      clear h1 hpr hdr e0 hk d1 d2 c4 hre
      go_wp2_with fail
      go_ret2
      exact ⟨by rw [HE.out, HK.out]; rfl, V, by rw [HE.out]; exact hwt.out⟩
end Go.Proofs.YtfpoiikhhjdpdaaGreat
