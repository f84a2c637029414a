import Derived.Test.YtfpoiikhhjdpdaaGreatJ20
import Derived.Test.YtfpoiikhhjdpdaaGreatJ11
import Derived.Test.YtfpoiikhhjdpdaaGreatJ19
import Derived.Deep.DeepCutAuto
/- The document: Read. -/
namespace Go.Proofs.YtfpoiikhhjdpdaaGreat
open Go.RowKit
set_option linter.unusedVariables false
attribute [local go_sem ↓] Go.wp_at_zero Go.wp_at_succ
set_option maxRecDepth 100000 in
set_option maxHeartbeats 1000000 in
theorem rRead_down (yb : Nat) (a : Ab) (V : Nat → Value) (left : Int) (f n : Int) (w : World) (h : RefIn w yb a V left true) :
    Calls Tryz.prog 26 #[.pointer (some ⟨yb, 0, none⟩), .int .i64 f, .int .i64 n] w fun e w' => e = .returned (.tuple #[.slice none 0 0, .int .i64 3]) ∧ Below w.heap.size w w' := by
  obtain ⟨_, _, _, _, _, _, _, c7⟩ := h.cells
  have hlt := h.row.lt
  clear h
  go_enter Tryz.func26, Tryz.ntmps26
  go_wp2
  go_ret2
  exact ⟨rfl, Below.refl _ _⟩
set_option maxRecDepth 100000 in
set_option maxHeartbeats 1000000 in
theorem rRead_no (yb : Nat) (a : Ab) (V : Nat → Value) (left : Int) (f n : Int) (w : World) (h : RefIn w yb a V left false) (hf : -9223372036854775808 ≤ f ∧ f ≤ 9223372036854775807) (hh : hasB a f n = false) :
    Calls Tryz.prog 26 #[.pointer (some ⟨yb, 0, none⟩), .int .i64 f, .int .i64 n] w fun e w' => e = .returned (.tuple #[.slice none 0 0, .int .i64 4]) ∧ Below w.heap.size w w' := by
  have HW : Hid (Calls Tryz.prog 68 #[.pointer (some ⟨yb, 0, none⟩), .int .i64 f, .int .i64 n] w fun e w' => e = .returned (.bool false) ∧ ∃ q, w' = w.drewN q) := (show Calls _ _ _ _ _ by
    have h1 := rwithin_any yb a V left false f n w h hf
    rw [hh] at h1; exact h1)
  obtain ⟨_, _, _, _, _, _, _, c7⟩ := h.cells
  have hlt := h.row.lt
  clear h hf hh
  go_enter Tryz.func26, Tryz.ntmps26
  go_wp2_with fail
  refine HW.out.mono ?_
  rintro e w1 ⟨rfl, q, rfl⟩
  go_wp2_with fail
  go_ret2
  exact ⟨rfl, below_drewN (Below.refl _ _) q⟩
theorem has_nums {a : Ab} {f n : Nat} (h : a.ok) (hh : hasB a f n = true) : f + n ≤ a.D * a.R * 4 ∧ a.D * a.R * 4 ≤ 96 ∧ rFirst f n + (rBehind f n - rFirst f n) = rBehind f n ∧ rBehind f n ≤ a.D * a.R := by
  obtain ⟨h1, h2⟩ := has_le h hh
  refine ⟨h1, h2, ?_, ?_⟩
  · unfold rFirst rBehind; split <;> omega
  · unfold rBehind; split <;> omega
theorem gone_same (a : Ab) (f n : Nat) : goneR a (rFirst f n) (rBehind f n - rFirst f n) = anyGone a f (blkEnd f n - f / 4) := by
  rw [← goneR_any]
  unfold rFirst rBehind blkEnd
  by_cases h : n = 0
  · rw [if_pos h, if_pos h, if_pos h, Nat.sub_self, Nat.sub_self]; rfl
  · rw [if_neg h, if_neg h, if_neg h]
theorem anyGone_of {yb : Nat} {a : Ab} {V : Nat → Value} {left : Int} {dn : Bool} {w : World} (h : RefIn w yb a V left dn) (f n : Nat) (hh : hasB a f n = true) (W : World) (hW : Below w.heap.size w W) :
    Calls Tryz.prog 70 #[.pointer (some ⟨yb, 0, none⟩), .int .i64 (rFirst f n : Nat), .int .i64 (rBehind f n : Nat)] W fun e w' => e = .returned (.bool (anyGone a f (blkEnd f n - f / 4))) ∧ Below W.heap.size W w' := by
  obtain ⟨_, _, h3, h4⟩ := has_nums h.ok hh
  have h1 := ranyGone_any yb a V left dn (rFirst f n) (rBehind f n - rFirst f n) W (h.below hW) (by rw [h3]; exact h4)
  rw [h3, gone_same] at h1
  exact h1
set_option maxRecDepth 100000 in
set_option maxHeartbeats 1000000 in
theorem rRead_lost (yb : Nat) (a : Ab) (V : Nat → Value) (left : Int) (f n : Nat) (w : World) (h : RefIn w yb a V left false) (hh : hasB a f n = true) (hg : anyGone a f (blkEnd f n - f / 4) = true) :
    Calls Tryz.prog 26 #[.pointer (some ⟨yb, 0, none⟩), .int .i64 f, .int .i64 n] w fun e w' => e = .returned (.tuple #[.slice none 0 0, .int .i64 5]) ∧ Below w.heap.size w w' := by
  obtain ⟨n1, n2, n3, n4⟩ := has_nums h.ok hh
  have HW : Hid (Calls Tryz.prog 68 #[.pointer (some ⟨yb, 0, none⟩), .int .i64 f, .int .i64 n] w fun e w' => e = .returned (.bool true) ∧ ∃ q, w' = w.drewN q) := (show Calls _ _ _ _ _ by
    have h1 := rwithin_any yb a V left false f n w h (by omega)
    rw [hh] at h1; exact h1)
  have HB : Hid (∀ W, Calls Tryz.prog 69 #[.int .i64 f, .int .i64 n] W fun e w' => e = .returned (.tuple #[.int .i64 (rFirst f n : Nat), .int .i64 (rBehind f n : Nat)]) ∧ w' = W) := fun W => rblocks_any f n W (by omega) (by omega)
  have HG : Hid (∀ W, Below w.heap.size w W → Calls Tryz.prog 70 #[.pointer (some ⟨yb, 0, none⟩), .int .i64 (rFirst f n : Nat), .int .i64 (rBehind f n : Nat)] W fun e w' => e = .returned (.bool true) ∧ Below W.heap.size W w') := fun W hW => (show Calls _ _ _ _ _ by
    have h1 := anyGone_of h f n hh W hW
    rw [hg] at h1; exact h1)
  obtain ⟨_, _, _, _, _, _, _, c7⟩ := h.cells
  have hlt := h.row.lt
  clear h hh hg
  generalize rFirst f n = F1 at *
  generalize rBehind f n = B1 at *
  go_enter Tryz.func26, Tryz.ntmps26
  go_wp2_with fail
  refine HW.out.mono ?_
  rintro e w1 ⟨rfl, q, rfl⟩
  go_wp2_with fail
  refine (HB.out _).mono ?_
  rintro e w1 ⟨rfl, rfl⟩
  go_wp2_with fail
  refine (HG.out _ (below_drewN (Below.refl _ _) q)).mono ?_
  rintro e w2 ⟨rfl, k2⟩
  go_wp2_with fail
  go_ret2
  exact ⟨rfl, (below_drewN (Below.refl _ _) q).trans (k2.mono (by simp))⟩
/-- How many of the bytes asked for lie below byte K. -/
def cntR (f n K : Nat) : Nat := min n (K - f)
def byteV (a : Ab) (f i : Nat) : Value := .int .u8 (byteAt a (f + i) : Nat)
def bytesL (a : Ab) (f k : Nat) : List Value := (List.range k).map (byteV a f)
theorem bytesL_len (a : Ab) (f k : Nat) : (bytesL a f k).length = k := by unfold bytesL; simp
theorem bytesL_succ (a : Ab) (f k : Nat) : bytesL a f (k + 1) = bytesL a f k ++ [byteV a f k] := by
  unfold bytesL
  rw [List.range_succ, List.map_append]; rfl
theorem byteAt_of (a : Ab) (b k : Nat) (hk : k < 4) : byteAt a (b * 4 + k) = (holdC a (b % a.D) (b / a.D)).at k := by
  unfold byteAt
  rw [show (b * 4 + k) / 4 = b by omega, show (b * 4 + k) % 4 = k by omega]
set_option maxRecDepth 100000 in
set_option maxHeartbeats 2000000 in
theorem rRead_ok (yb : Nat) (a : Ab) (V : Nat → Value) (left : Int) (f n : Nat) (w : World) (h : RefIn w yb a V left false) (hh : hasB a f n = true) (hg : anyGone a f (blkEnd f n - f / 4) = false) :
    Calls Tryz.prog 26 #[.pointer (some ⟨yb, 0, none⟩), .int .i64 f, .int .i64 n] w fun e w' => ∃ v, e = .returned (.tuple #[v, .int .i64 0]) ∧ w'.ownsRow w.heap.size 5 1 v n (bytesL a f n) ∧ Below w.heap.size w w' := by
  obtain ⟨n1, n2, n3, n4⟩ := has_nums h.ok hh
  have hD := h.ok.D4
  have hD1 := h.ok.D1
  have hR := h.ok.R6
  have HW : Hid (Calls Tryz.prog 68 #[.pointer (some ⟨yb, 0, none⟩), .int .i64 f, .int .i64 n] w fun e w' => e = .returned (.bool true) ∧ ∃ q, w' = w.drewN q) := (show Calls _ _ _ _ _ by
    have h1 := rwithin_any yb a V left false f n w h (by omega)
    rw [hh] at h1; exact h1)
  have HB : Hid (∀ W, Calls Tryz.prog 69 #[.int .i64 f, .int .i64 n] W fun e w' => e = .returned (.tuple #[.int .i64 (rFirst f n : Nat), .int .i64 (rBehind f n : Nat)]) ∧ w' = W) := fun W => rblocks_any f n W (by omega) (by omega)
  have HG : Hid (∀ W, Below w.heap.size w W → Calls Tryz.prog 70 #[.pointer (some ⟨yb, 0, none⟩), .int .i64 (rFirst f n : Nat), .int .i64 (rBehind f n : Nat)] W fun e w' => e = .returned (.bool false) ∧ Below W.heap.size W w') := fun W hW => (show Calls _ _ _ _ _ by
    have h1 := anyGone_of h f n hh W hW
    rw [hg] at h1; exact h1)
  have HGN : Hid (∀ b, rFirst f n ≤ b → b < rBehind f n → blkGone a b = false) := fun b h1 h2 => by
    have h3 := hg
    rw [← gone_same] at h3
    cases hbg : blkGone a b
    · rfl
    · have h4 : goneR a (rFirst f n) (b - rFirst f n + 1) = true := by
        simp only [goneR]
        rw [show rFirst f n + (b - rFirst f n) = b by omega, hbg]; simp
      have h5 := goneR_yes a (rFirst f n) (b - rFirst f n + 1) (rBehind f n - rFirst f n - (b - rFirst f n + 1)) h4
      rw [show b - rFirst f n + 1 + (rBehind f n - rFirst f n - (b - rFirst f n + 1)) = rBehind f n - rFirst f n by omega, h3] at h5
      cases h5
  have HC0 : Hid (cntR f n (rFirst f n * 4) = 0) := (show _ = _ by unfold cntR rFirst; split <;> omega)
  have HCE : Hid (cntR f n (rBehind f n * 4) = n) := (show _ = _ by unfold cntR rBehind; split <;> omega)
  obtain ⟨_, _, _, _, _, _, _, c7⟩ := h.cells
  have hlt := h.row.lt
  have HH : Hid (RefIn w yb a V left false) := h
  have H0 : Hid (∀ W : World, W.ownsRow w.heap.size 5 1 (.slice none 0 0) 0 []) := fun W => World.ownsRow_nil W _ _ 1
  clear h hh hg
  generalize hF1 : rFirst f n = F1 at *
  generalize hB1 : rBehind f n = B1 at *
  clear hF1 hB1
  have hB24 : B1 ≤ 24 := by omega
  go_enter Tryz.func26, Tryz.ntmps26
  go_wp2_with fail
  refine HW.out.mono ?_
  rintro e w1 ⟨rfl, q, rfl⟩
  go_wp2_with fail
  refine (HB.out _).mono ?_
  rintro e w1 ⟨rfl, rfl⟩
  go_wp2_with fail
  refine (HG.out _ (below_drewN (Below.refl _ _) q)).mono ?_
  rintro e w2 ⟨rfl, k2⟩
  have HB2 : Hid (Below w.heap.size w w2) := (below_drewN (Below.refl _ _) q).trans (k2.mono (by simp))
  clear k2 c7 HW HB HG
  go_wp2_with fail
  go_loopw [12, 13, 14, 15, 16] (fun l c _ _ _ wr => ∃ (b : Nat) (v : Value), F1 ≤ b ∧ b ≤ B1 ∧ c = .int .i64 b ∧ l = v ∧ Hid (wr.ownsRow w.heap.size 5 1 v (cntR f n (b * 4)) (bytesL a f (cntR f n (b * 4)))) ∧ Below w.heap.size w wr) (fun _ c _ _ _ _ => B1 - (intOf c).toNat)
  case atStart => exact ⟨F1, _, by omega, by omega, rfl, rfl, (show World.ownsRow _ _ _ _ _ _ _ by rw [HC0.out]; exact H0.out _), HB2.out⟩
  case round =>
    clear HB2
    obtain ⟨b, v, hFb, hbB, rfl, rfl, hown, hbel⟩ := hrel
    have h1 := HH.out.below hbel
    obtain ⟨c0, _⟩ := h1.cells
    have hlt1 := h1.row.lt
    by_cases hbl : b < B1
    · have hbi : (b : Int) < (B1 : Int) := by omega
      have hb24 : b < 24 := by omega
      have hbDR : b < a.D * a.R := by omega
      have hc4 : b % a.D < a.D := Nat.mod_lt _ (by omega)
      have hr6 : b / a.D < a.R := Nat.div_lt_of_lt_mul hbDR
      have hmodi : (b : Int) % (a.D : Int) = ((b % a.D : Nat) : Int) := by simp
      have hdivi : (b : Int) / (a.D : Int) = ((b / a.D : Nat) : Int) := by simp
      have hmodt : (b : Int).tmod (a.D : Int) = ((b % a.D : Nat) : Int) := by rw [Int.tmod_eq_emod_of_nonneg (by omega)]; simp
      have hdivt : (b : Int).tdiv (a.D : Int) = ((b / a.D : Nat) : Int) := by rw [Int.tdiv_eq_ediv_of_nonneg (by omega)]; simp
      have hD0 : (0 : Int) < (a.D : Int) := by omega
      have hng : avB a (b % a.D) (b / a.D) = true ∨ goneB a (b / a.D) = false := by
        have := HGN.out b hFb hbl
        unfold blkGone at this
        cases hav : avB a (b % a.D) (b / a.D)
        · rw [hav] at this; right; simpa using this
        · left; rfl
      have HHO : Hid (∀ (W : World) (z1 z2 : Int), z1 = ((b % a.D : Nat) : Int) → z2 = ((b / a.D : Nat) : Int) → RefIn W yb a V left false → Calls Tryz.prog 71 #[.pointer (some ⟨yb, 0, none⟩), .int .i64 z1, .int .i64 z2] W fun e w' => e = .returned (.agg #[.int .u8 (holdC a (b % a.D) (b / a.D)).b0, .int .u8 (holdC a (b % a.D) (b / a.D)).b1, .int .u8 (holdC a (b % a.D) (b / a.D)).b2, .int .u8 (holdC a (b % a.D) (b / a.D)).b3]) ∧ Below W.heap.size W w') := fun W z1 z2 e1 e2 hW => by
        subst e1 e2
        exact rholds_any yb a V left false (b % a.D) (b / a.D) W hW hc4 hr6 hng
      have HBY : Hid (∀ k, k < 4 → byteAt a (b * 4 + k) = (holdC a (b % a.D) (b / a.D)).at k) := fun k hk => byteAt_of a b k hk
      have HXO : Hid ((holdC a (b % a.D) (b / a.D)).ok) := holdC_ok HH.out.ok _ _
      have H1 : Hid (RefIn wr yb a V left false) := h1
      generalize holdC a (b % a.D) (b / a.D) = X at *
      have hdl : b / a.D < 24 := by omega
      generalize b % a.D = cc at *
      generalize b / a.D = rr at *
      have hwd : IntKind.i64.wrap (rr : Int) = (rr : Int) := wrap_i64_small _ (by omega) (by omega)
      clear h1 hng
      go_upto_region 14 with fail
      go_cut [14] (fun s14 wx => ∃ cb, s14 = .pointer (some ⟨cb, 0, none⟩) ∧ BoxAt wx cb X ∧ Below wr.heap.size wr wx ∧ wr.heap.size ≤ cb)
      case first =>
        go_region_with ((go_at_call 71; go_must (refine (HHO.out _ _ _ (by first | rfl | exact hmodi | exact hmodt) (by first | rfl | exact hdivi | exact hdivt | (rw [hdivt]; exact hwd) | (rw [hdivi]; exact hwd) | exact hwd) (H1.out.below (by repeat (first | exact Below.refl _ _ | refine Below.drew ?_ | refine Below.alloc ?_ (Nat.le_refl _) _)))).mono ?_); rintro e w3 ⟨rfl, k3⟩; (try (have hB9 : BoxAt w3 wr.heap.size C4.zero := (BoxAt.new0 wr _ rfl).below (below_from k3 rfl rfl rfl rfl); obtain ⟨z0, z1, z2, z3⟩ := hB9.cells; obtain ⟨q0, q1, q2, q3⟩ := hB9.frz; have hzl := hB9.lt; have HB9 : Hid (BoxAt w3 wr.heap.size C4.zero) := hB9; clear hB9)); have K3 : Below wr.heap.size wr w3 := (by first | exact below_from k3 rfl rfl rfl rfl | exact (below_al wr (.cells #[.int .u8 0, .int .u8 0, .int .u8 0, .int .u8 0] 75)).trans ((below_from (w := wr.alloc (.cells #[.int .u8 0, .int .u8 0, .int .u8 0, .int .u8 0] 75)) k3 rfl rfl rfl rfl).mono (below_al wr (.cells #[.int .u8 0, .int .u8 0, .int .u8 0, .int .u8 0] 75)).size)); have hs3 := K3.size))
        all_goals
          go_wp2_with fail
          go_meet
          first
            | exact ⟨wr.heap.size, rfl, HB9.out.set X, below_set4 K3 (Nat.le_refl _) _ _ _ _, Nat.le_refl _⟩
            | exact ⟨w3.heap.size, rfl, BoxAt.new w3 X _ rfl, K3.alloc hs3 _, hs3⟩
      case rest =>
      obtain ⟨cb, rfl, hbx, hbw, hcb⟩ := hcut
      have HBX : Hid (BoxAt wc cb X) := hbx
      have HBW : Hid (Below w.heap.size w wc) := hbel.trans (hbw.mono hbel.size)
      have HCB : Hid (w.heap.size ≤ cb) := Nat.le_trans hbel.size hcb
      have HOW : Hid (wc.ownsRow w.heap.size 5 1 u12 (cntR f n (b * 4 + 0)) (bytesL a f (cntR f n (b * 4 + 0)))) := (show World.ownsRow _ _ _ _ _ _ _ from own_block hown.out (fun g hg => hbw.block g (World.ownsRow.lt hown.out g hg).2))
      have HNB : Hid (∀ g, u12.ownBlock = some g → g ≠ cb) := fun g hg e => by have := (World.ownsRow.lt hown.out g hg).2; omega
      clear hbx hbw hcb hown H1 HHO c0
      go_wp2_with fail
      go_loopw [12, 15, 16] (fun l c _ wi => ∃ (k : Nat) (v : Value), k ≤ 4 ∧ c = .int .i64 k ∧ l = v ∧ Hid (wi.ownsRow w.heap.size 5 1 v (cntR f n (b * 4 + k)) (bytesL a f (cntR f n (b * 4 + k)))) ∧ Hid (BoxAt wi cb X) ∧ Hid (∀ g, v.ownBlock = some g → g ≠ cb) ∧ Below w.heap.size w wi) (fun _ c _ _ => 4 - (intOf c).toNat)
      case atStart => exact ⟨0, _, by omega, rfl, rfl, HOW, HBX, HNB, HBW.out⟩
      case round =>
        clear HOW HBX HNB HBW
        obtain ⟨k, v, hk, rfl, rfl, hown, hbx, hnb, hbel2⟩ := hrel
        by_cases hk4 : k < 4
        · have hki : (k : Int) < 4 := by omega
          obtain ⟨ii, hii⟩ : ∃ ii, b * 4 + k = ii := ⟨_, rfl⟩
          have hiw : (b : Int) * 4 + (k : Int) = (ii : Int) := by omega
          have hi96 : ii < 100 := by omega
          by_cases h1 : f ≤ ii
          · have h1i : (f : Int) ≤ (ii : Int) := by omega
            by_cases h2 : ii < f + n
            · have h2i : (ii : Int) < (f : Int) + (n : Int) := by omega
              have z0 := World.rowIs.cell hbx.out (i := k) (by omega)
              have hzl := hbx.out.lt
              have HBK : Hid (byteV a f (ii - f) = .int .u8 (X.at k : Nat)) := (show _ = _ by unfold byteV; rw [show f + (ii - f) = b * 4 + k by omega, HBY.out k hk4])
              have HC1 : Hid (cntR f n (b * 4 + k) = ii - f ∧ cntR f n (b * 4 + (k + 1)) = ii - f + 1) := (show _ ∧ _ by unfold cntR; omega)
              have hcl : ii - f < 100 := by omega
              rw [HC1.out.1] at hown
              obtain ⟨cn, hcn⟩ : ∃ cn, ii - f = cn := ⟨_, rfl⟩
              rw [hcn] at hown HBK HC1 hcl
              have HXK := hbx
              generalize hxk : X.at k = xk at *
              have HXE : Hid (X.at k = xk) := hxk
              clear hxk hcn hii
              have HOA : Hid ((wr.alloc (Obj.cells #[.int .u8 xk] 5)).ownsRow w.heap.size 5 1 u12 cn (bytesL a f cn)) := hown.out.alloc _
              have HNW : Hid (∀ (j : Nat) (u : Value), [Value.int .u8 (xk : Nat)][j]? = some u → (wr.alloc (Obj.cells #[.int .u8 xk] 5)).cell? ((⟨wr.heap.size, 0, none⟩ : Addr).add j) = some u) := cell_one_new _ _ _
              have hone : ∀ u ∈ [Value.int .u8 (xk : Nat)], u.oneCell' = true := by simp [Value.oneCell']
              have hsz2 := hbel2.size
              have hbll := bytesL_len a f cn
              go_wp2_with (at_builtin; go_must (refine wpl_append2 appU8 (by rfl) _ _ (by rfl) w.heap.size u12 cn (bytesL a f cn) (by rfl) HOA.out ⟨wr.heap.size, 0, none⟩ 1 1 [.int .u8 xk] (by rfl) (by rfl) HNW.out hone (by omega) (by simp only [maxLen]; omega) (by omega) (by simp; omega) ?_))
              intro g5 c5 w5 ho5 hl5
              obtain ⟨k1, k2, k3, k4, k5⟩ := hl5.kept
              have hal := below_al wr (Obj.cells #[.int .u8 xk] 5)
              have HO5 : Hid (w5.ownsRow w.heap.size 5 1 (.slice (some ⟨g5, 0, none⟩) (cn + 1) c5) (cntR f n (b * 4 + (k + 1))) (bytesL a f (cntR f n (b * 4 + (k + 1))))) := (show World.ownsRow _ _ _ _ _ _ _ by
                rw [HC1.out.2, bytesL_succ, HBK.out]; exact ho5)
              have HB5 : Hid (BoxAt w5 cb X) := World.rowIs.of_block hbx.out ((k5 cb (Nat.lt_of_lt_of_le hzl hal.size) (fun e => hnb.out cb e rfl)).trans (hal.block cb hzl))
              have HN5 : Hid (∀ g, (Value.slice (some ⟨g5, 0, none⟩) (cn + 1) c5).ownBlock = some g → g ≠ cb) := fun g hg e => by
                rcases hl5.block hg with h3 | h3
                · exact hnb.out g h3 e
                · have := hal.size; omega
              have HW5 : Hid (Below w.heap.size w w5) := (show Below _ _ _ from (hbel2.trans (hal.mono hsz2)).trans ⟨k1, k2, k3, k4, fun g hg => k5 g (by have := hal.size; omega) (fun e => by have := (World.ownsRow.lt hown.out g e).1; omega)⟩)
              clear k1 k2 k3 k4 k5 ho5 hl5 hal HOA HNW hone hown hbx hnb hbel2 HXK z0 hzl
              go_wp2_with fail
              first
                | exact ⟨⟨k + 1, _, by omega, by go_num, rfl, HO5, HB5, HN5, HW5.out⟩, by simp [intOf]; omega⟩
                | (go_roundw
                   case rel => exact ⟨k + 1, _, by omega, by go_num, rfl, HO5, HB5, HN5, HW5.out⟩
                   case measure => simp [intOf]; omega)
            · have h2i : ¬ ((ii : Int) < (f : Int) + (n : Int)) := by omega
              have HO5 : Hid (wr.ownsRow w.heap.size 5 1 u12 (cntR f n (b * 4 + (k + 1))) (bytesL a f (cntR f n (b * 4 + (k + 1))))) := (show World.ownsRow _ _ _ _ _ _ _ by
                rw [show cntR f n (b * 4 + (k + 1)) = cntR f n (b * 4 + k) by unfold cntR; omega]; exact hown.out)
              clear hown hii
              go_wp2_with fail
              exact ⟨⟨k + 1, _, by omega, by go_num, rfl, HO5, hbx, hnb, hbel2⟩, by simp [intOf]; omega⟩
          · have h1i : ¬ ((f : Int) ≤ (ii : Int)) := by omega
            have HO5 : Hid (wr.ownsRow w.heap.size 5 1 u12 (cntR f n (b * 4 + (k + 1))) (bytesL a f (cntR f n (b * 4 + (k + 1))))) := (show World.ownsRow _ _ _ _ _ _ _ by
              rw [show cntR f n (b * 4 + (k + 1)) = cntR f n (b * 4 + k) by unfold cntR; omega]; exact hown.out)
            clear hown hii
            go_wp2_with fail
            exact ⟨⟨k + 1, _, by omega, by go_num, rfl, HO5, hbx, hnb, hbel2⟩, by simp [intOf]; omega⟩
        · have hke : k = 4 := by omega
          have hki : ¬ ((k : Int) < 4) := by omega
          have HO5 : Hid (wr.ownsRow w.heap.size 5 1 u12 (cntR f n ((b + 1) * 4)) (bytesL a f (cntR f n ((b + 1) * 4)))) := (show World.ownsRow _ _ _ _ _ _ _ by
            have h2 := hown.out
            rw [hke, show b * 4 + 4 = (b + 1) * 4 by omega] at h2; exact h2)
          clear hown hke
          go_wp2_with fail
          first
            | exact ⟨⟨b + 1, _, by omega, by omega, by go_num, rfl, HO5, hbel2⟩, by simp [intOf]; omega⟩
            | (go_roundw
               case rel => exact ⟨b + 1, _, by omega, by omega, by go_num, rfl, HO5, hbel2⟩
               case measure => simp [intOf]; omega)
    · have hbe : b = B1 := by omega
      have hbi : ¬ ((b : Int) < (B1 : Int)) := by omega
      have HO5 : Hid (wr.ownsRow w.heap.size 5 1 u12 n (bytesL a f n)) := (show World.ownsRow _ _ _ _ _ _ _ by
        have h2 := hown.out
        rw [hbe, HCE.out] at h2; exact h2)
      clear h1 c0 hown hbe
      go_wp2_with fail
      go_ret2
      exact ⟨u12, rfl, HO5.out, hbel⟩
end Go.Proofs.YtfpoiikhhjdpdaaGreat
