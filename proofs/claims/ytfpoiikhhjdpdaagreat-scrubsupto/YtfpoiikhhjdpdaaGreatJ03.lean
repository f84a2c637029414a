import Derived.Test.YtfpoiikhhjdpdaaGreatJ02
/- What the missing cells of a row add up to in an equation. -/
namespace Go.Proofs.YtfpoiikhhjdpdaaGreat
open Go.RowKit
set_option linter.unusedVariables false
attribute [local go_sem ↓] Go.wp_at_zero Go.wp_at_succ
/-- A world that differs in what was drawn alone. -/
theorem below_from {w W w2 : World} (k : Below W.heap.size W w2) (h : W.heap = w.heap) (ho : W.os = w.os) (ht : W.tape = w.tape) (hp : W.output = w.output) : Below w.heap.size w w2 :=
  ⟨k.os.trans ho, k.tape.trans ht, k.output.trans hp, by have := k.size; rwa [h] at this, fun i hi => by rw [k.block i (by rw [h]; exact hi), h]⟩
theorem HoardIn.heap {w W : World} {hb : Nat} {s : St} (h : HoardIn w hb s) (e : W.heap = w.heap) : HoardIn W hb s := h.of_block (fun k _ => by rw [e])
def msum (s : Ab) (d r : Nat) : Nat → C4
  | 0 => valC s d r
  | k + 1 => if avB s k r then (msum s d r k).xor ((s.cell k r).scale (wgt s d k)) else msum s d r k
theorem wgt_lt (s : Ab) (d c : Nat) (hc : c < 4) : wgt s d c < 256 := by
  unfold wgt
  split
  · omega
  · exact Nat.lt_of_le_of_lt (Nat.pow_le_pow_right (by omega) (by omega) : 2 ^ c ≤ 2 ^ 4) (by omega)
theorem msum_ok {s : Ab} (h : s.ok) (d r k : Nat) (hk : k ≤ 4) : (msum s d r k).ok := by
  induction k with
  | zero => exact valC_ok h d r
  | succ k ih =>
    simp only [msum]
    split
    · exact C4.xor_ok (ih (by omega)) (C4.scale_ok (wgt_lt s d k (by omega)))
    · exact ih (by omega)
set_option maxRecDepth 100000 in
set_option maxHeartbeats 2000000 in
theorem gap_any (hb : Nat) (s : St) (d r : Nat) (w : World) (h : HoardIn w hb s) (hd : d < 6) (hr : r < 6) :
    Calls Tryz.prog 115 #[.pointer (some ⟨hb, 0, none⟩), .int .i64 d, .int .i64 r] w fun e w' => e = .returned (msum s d r s.D).val ∧ Below w.heap.size w w' := by
  have hri : (r : Int) < 6 := by omega
  have hdi : (d : Int) < 6 := by omega
  have HH : Hid (HoardIn w hb s) := h
  have hlt0 := h.row.lt
  have hD := h.ok.D4
  have HOK : Hid (s.ok) := h.ok
  have HA : Hid (∀ o, HoardIn (w.alloc o) hb s) := fun o => h.below ((Below.refl _ _).alloc (Nat.le_refl _) o)
  clear h
  go_enter Tryz.func115, Tryz.ntmps115
  go_wp2_with fail
  refine (value_any hb s d r _ (HA.out _) hd hr).mono ?_
  rintro e w1 ⟨rfl, k1⟩
  have K1 : Below w.heap.size w w1 := ((Below.refl _ _).alloc (Nat.le_refl _) _).trans (k1.mono (by simp))
  have R1 : Hid (BoxAt w1 w.heap.size C4.zero) := (BoxAt.new0 w _ rfl).below k1
  have hs1 : w.heap.size < w1.heap.size := R1.out.lt
  clear k1
  unfold C4.val
  go_wp2_with fail
  go_loopw [8] (fun c wr => ∃ (k : Nat) (S : C4), k ≤ s.D ∧ c = .int .i64 k ∧ Hid (S = msum s d r k) ∧ Hid (BoxAt wr w1.heap.size S) ∧ Hid (BoxAt wr w.heap.size C4.zero) ∧ Below w.heap.size w wr) (fun c _ => s.D - (intOf c).toNat)
  case atStart =>
    exact ⟨0, _, by omega, rfl, rfl, BoxAt.new _ _ _ rfl, R1.out.alloc _, K1.alloc K1.size _⟩
  case round =>
    obtain ⟨k, S, hk, rfl, hS, hbox, hres, hbel⟩ := hrel
    have h1 := HH.out.below hbel
    obtain ⟨c0, _⟩ := h1.shape
    have hlt2 := h1.row.lt
    obtain ⟨b0, b1, b2, b3⟩ := hbox.out.cells
    obtain ⟨f0, f1, f2, f3⟩ := hbox.out.frz
    have hbl := hbox.out.lt
    by_cases hlt : k < s.D
    · have hki : (k : Int) < (s.D : Int) := by omega
      have hk6 : (k : Int) < 6 := by omega
      have HAV : Hid (Calls Tryz.prog 76 #[.pointer (some ⟨hb, 4 + k * 32, none⟩), .int .i64 r] wr fun e w' => e = .returned (.bool (avB s k r)) ∧ w' = wr) := has_any hb s k r wr h1 (by omega) hr
      have HSO : Hid (S.ok) := hS.out ▸ msum_ok HOK.out d r k (by omega)
      have hwl := wgt_lt s d k (by omega)
      obtain ⟨y0, y1, y2, y3⟩ := h1.cell k r (by omega) hr
      have hco : Hid ((s.cell k r).ok) := HOK.out.cells k r
      cases hav : avB s k r
      · rw [hav] at HAV
        have HS2 : Hid (S = msum s d r (k + 1)) := (show _ = _ by simp only [msum, hav]; exact hS.out)
        clear hS
        go_wp2_with fail
        refine HAV.out.mono ?_
        rintro e w2 ⟨rfl, rfl⟩
        go_wp2_with fail
        exact ⟨⟨k + 1, S, by omega, by go_num, HS2, hbox, hres, hbel⟩, by simp [intOf]; omega⟩
      · rw [hav] at HAV
        have HS2 : Hid (S.xor ((s.cell k r).scale (wgt s d k)) = msum s d r (k + 1)) := (show _ = _ by simp only [msum, hav]; rw [← hS.out]; rfl)
        have HW : Hid (∀ W : World, W.heap = wr.heap → Calls Tryz.prog 112 #[.pointer (some ⟨hb, 0, none⟩), .int .i64 d, .int .i64 k] W fun e w' => e = .returned (.int .u8 (wgt s d k : Nat)) ∧ w' = W) := fun W e => weight_any hb s d k W (h1.heap e) (by omega)
        generalize hcc : s.cell k r = cl at *
        generalize hww : wgt s d k = wg at *
        have HSC : Hid (∀ W, Calls Tryz.prog 113 #[.int .u8 wg, .agg #[.int .u8 cl.b0, .int .u8 cl.b1, .int .u8 cl.b2, .int .u8 cl.b3]] W fun e w' => e = .returned (.agg #[.int .u8 (cl.scale wg).b0, .int .u8 (cl.scale wg).b1, .int .u8 (cl.scale wg).b2, .int .u8 (cl.scale wg).b3]) ∧ Below W.heap.size W w') := fun W => Scale_any wg cl W hwl hco.out
        have HPO : Hid ((cl.scale wg).ok) := C4.scale_ok hwl
        generalize hpp : cl.scale wg = pr at *
        have HADD : Hid (∀ W, Calls Tryz.prog 108 #[.agg #[.int .u8 S.b0, .int .u8 S.b1, .int .u8 S.b2, .int .u8 S.b3], .agg #[.int .u8 pr.b0, .int .u8 pr.b1, .int .u8 pr.b2, .int .u8 pr.b3]] W fun e w' => e = .returned (.agg #[.int .u8 (S.xor pr).b0, .int .u8 (S.xor pr).b1, .int .u8 (S.xor pr).b2, .int .u8 (S.xor pr).b3]) ∧ Below W.heap.size W w') := fun W => Add_any S pr W HSO.out HPO.out
        clear hcc hww hpp hS h1
        go_wp2_with fail
        refine HAV.out.mono ?_
        rintro e w2 ⟨rfl, rfl⟩
        go_wp2_with fail
        go_region_with (first
          | (go_at_call 112; go_must (refine (HW.out _ (by rfl)).mono ?_); rintro e W ⟨rfl, rfl⟩)
          | (go_at_call 113; refine (HSC.out _).mono ?_; rintro e w3 ⟨rfl, k3⟩; have K3 : Below w2.heap.size w2 w3 := below_from k3 rfl rfl rfl rfl; obtain ⟨e0, e1, e2, e3⟩ := (hbox.out.below K3).cells; obtain ⟨q0, q1, q2, q3⟩ := (hbox.out.below K3).frz; obtain ⟨t0, t1, t2, t3⟩ := And.intro (below_cell' K3 y0) (And.intro (below_cell' K3 y1) (And.intro (below_cell' K3 y2) (below_cell' K3 y3))))
          | (go_at_call 108; refine (HADD.out _).mono ?_; rintro e w4 ⟨rfl, k4⟩; have K4 : Below w2.heap.size w2 w4 := K3.trans ((below_from k4 rfl rfl rfl rfl : Below w3.heap.size w3 w4).mono K3.size); obtain ⟨m0, m1, m2, m3⟩ := (hbox.out.below K4).cells; obtain ⟨n0, n1, n2, n3⟩ := (hbox.out.below K4).frz))
        all_goals
          go_wp2_with fail
          refine ⟨⟨k + 1, S.xor pr, by omega, by go_num, HS2, ?_, ?_, ?_⟩, by simp [intOf]; omega⟩
          · exact (hbox.out.below K4).set _
          · exact (hres.out.below K4).other4 (by omega) _ _ _ _
          · exact below_set4 (hbel.trans (K4.mono hbel.size)) (by omega) _ _ _ _
    · have hke : k = s.D := by omega
      have HKE : Hid (k = s.D) := hke
      have hlti : ¬ ((k : Int) < (s.D : Int)) := by omega
      obtain ⟨r0, r1, r2, r3⟩ := hres.out.cells
      obtain ⟨g0, g1, g2, g3⟩ := hres.out.frz
      clear hke
      go_wp2_with fail
      refine bodyPost_ret (v := S.val) (by simp [results, Tryz.results115, go_sem, r0, r1, r2, r3, C4.val]) rfl ⟨?_, ?_⟩
      · rw [hS.out, HKE.out]
      · exact below_set4 hbel (Nat.le_refl _) _ _ _ _
end Go.Proofs.YtfpoiikhhjdpdaaGreat

/- What a data cell that is not available must have. -/
namespace Go.Proofs.YtfpoiikhhjdpdaaGreat
open Go.RowKit
set_option linter.unusedVariables false
attribute [local go_sem ↓] Go.wp_at_zero Go.wp_at_succ
def solve1 (s : Ab) (c r d : Nat) : C4 := (msum s d r s.D).scale (Hd.div 1 (wgt s d c))
def times2 (s : Ab) (c o d e : Nat) : Nat := Hd.mul (wgt s e o) (wgt s d c) ^^^ Hd.mul (wgt s d o) (wgt s e c)
def solve2 (s : Ab) (c o r d e : Nat) : C4 := (((msum s d r s.D).scale (wgt s e o)).xor ((msum s e r s.D).scale (wgt s d o))).scale (Hd.div 1 (times2 s c o d e))
theorem solve1_ok (s : Ab) (c r d : Nat) : (solve1 s c r d).ok := C4.scale_ok (Hd.div_lt _ _ (by omega))
theorem solve2_ok (s : Ab) (c o r d e : Nat) : (solve2 s c o r d e).ok := C4.scale_ok (Hd.div_lt _ _ (by omega))
set_option maxRecDepth 100000 in
set_option maxHeartbeats 2000000 in
theorem solveOne_any (hb : Nat) (s : St) (c r d : Nat) (w : World) (h : HoardIn w hb s) (hc : c < 4) (hd : d < 6) (hr : r < 6) :
    Calls Tryz.prog 100 #[.pointer (some ⟨hb, 0, none⟩), .int .i64 c, .int .i64 r, .int .i64 d] w fun e w' => e = .returned (solve1 s c r d).val ∧ Below w.heap.size w w' := by
  have HH : Hid (HoardIn w hb s) := h
  have hlt0 := h.row.lt
  have hD := h.ok.D4
  have HOK : Hid (s.ok) := h.ok
  have HA : Hid (∀ o, HoardIn (w.alloc o) hb s) := fun o => h.below ((Below.refl _ _).alloc (Nat.le_refl _) o)
  have hwl := wgt_lt s d c hc
  clear h
  go_enter Tryz.func100, Tryz.ntmps100
  go_wp2_with fail
  refine (gap_any hb s d r _ (HA.out _) hd hr).mono ?_
  rintro e w1 ⟨rfl, k1⟩
  have K1 : Below w.heap.size w w1 := ((Below.refl _ _).alloc (Nat.le_refl _) _).trans (k1.mono (by simp))
  have R1 : Hid (BoxAt w1 w.heap.size C4.zero) := (BoxAt.new0 w _ rfl).below k1
  have hs1 : w.heap.size < w1.heap.size := R1.out.lt
  clear k1
  have HMO : Hid ((msum s d r s.D).ok) := msum_ok HOK.out d r s.D hD
  have HSV : Hid (solve1 s c r d = (msum s d r s.D).scale (Hd.div 1 (wgt s d c))) := rfl
  have HW : Hid (∀ W : World, HoardIn W hb s → Calls Tryz.prog 112 #[.pointer (some ⟨hb, 0, none⟩), .int .i64 d, .int .i64 c] W fun e w' => e = .returned (.int .u8 (wgt s d c : Nat)) ∧ w' = W) := fun W e => weight_any hb s d c W e hc
  generalize msum s d r s.D = S at *
  generalize wgt s d c = wg at *
  unfold C4.val
  have H2 := HH.out.below (K1.alloc K1.size (.cells #[.int .u8 S.b0, .int .u8 S.b1, .int .u8 S.b2, .int .u8 S.b3] 75))
  have hdl := Hd.div_lt 1 wg (by omega)
  have HDV : Hid (∀ W, Calls Tryz.prog 61 #[.int .u8 1, .int .u8 wg] W fun e w' => e = .returned (.int .u8 (Hd.div 1 wg : Nat)) ∧ w' = W) := fun W => fdiv_any 1 wg W (by omega) hwl
  generalize Hd.div 1 wg = iv at *
  have HSC : Hid (∀ W, Calls Tryz.prog 113 #[.int .u8 iv, .agg #[.int .u8 S.b0, .int .u8 S.b1, .int .u8 S.b2, .int .u8 S.b3]] W fun e w' => e = .returned (.agg #[.int .u8 (S.scale iv).b0, .int .u8 (S.scale iv).b1, .int .u8 (S.scale iv).b2, .int .u8 (S.scale iv).b3]) ∧ Below W.heap.size W w') := fun W => Scale_any iv S W hdl HMO.out
  generalize S.scale iv = Z at *
  have B2 : Hid (BoxAt (w1.alloc (.cells #[.int .u8 S.b0, .int .u8 S.b1, .int .u8 S.b2, .int .u8 S.b3] 75)) w1.heap.size S) := BoxAt.new _ _ _ rfl
  have R2 : Hid (BoxAt (w1.alloc (.cells #[.int .u8 S.b0, .int .u8 S.b1, .int .u8 S.b2, .int .u8 S.b3] 75)) w.heap.size C4.zero) := R1.out.alloc _
  have K2 : Below w.heap.size w (w1.alloc (.cells #[.int .u8 S.b0, .int .u8 S.b1, .int .u8 S.b2, .int .u8 S.b3] 75)) := K1.alloc K1.size _
  go_wp2_with fail
  generalize w1.alloc (.cells #[.int .u8 S.b0, .int .u8 S.b1, .int .u8 S.b2, .int .u8 S.b3] 75) = w2 at *
  refine (HW.out _ H2).mono ?_
  rintro e w3 ⟨rfl, rfl⟩
  obtain ⟨b0, b1, b2, b3⟩ := B2.out.cells
  clear hwl hdl
  go_wp2_with fail
  go_region_with (first
    | (go_at_call 61; go_must (refine (HDV.out _).mono ?_); rintro e W ⟨rfl, rfl⟩)
    | (go_at_call 113; go_must (refine (HSC.out _).mono ?_); rintro e w4 ⟨rfl, k4⟩; have K4 : Below w3.heap.size w3 w4 := below_from k4 rfl rfl rfl rfl; obtain ⟨e0, e1, e2, e3⟩ := (R2.out.below K4).cells; obtain ⟨q0, q1, q2, q3⟩ := (R2.out.below K4).frz))
  all_goals
    go_wp2_with fail
    refine bodyPost_ret (v := Z.val) (by simp [results, Tryz.results100, go_sem, e0, e1, e2, e3, C4.val]) rfl ⟨?_, ?_⟩
    · rw [HSV.out]
    · exact below_set4 (K2.trans (K4.mono K2.size)) (Nat.le_refl _) _ _ _ _
set_option maxRecDepth 100000 in
set_option maxHeartbeats 4000000 in
theorem solveTwo_any (hb : Nat) (s : St) (c o r d e' : Nat) (w : World) (h : HoardIn w hb s) (hc : c < 4) (ho : o < 4) (hd : d < 6) (he : e' < 6) (hr : r < 6) :
    Calls Tryz.prog 101 #[.pointer (some ⟨hb, 0, none⟩), .int .i64 c, .int .i64 o, .int .i64 r, .int .i64 d, .int .i64 e'] w fun e w' => e = .returned (solve2 s c o r d e').val ∧ Below w.heap.size w w' := by
  have HH : Hid (HoardIn w hb s) := h
  have hlt0 := h.row.lt
  have hD := h.ok.D4
  have HSV : Hid (solve2 s c o r d e' = (((msum s d r s.D).scale (wgt s e' o)).xor ((msum s e' r s.D).scale (wgt s d o))).scale (Hd.div 1 (Hd.mul (wgt s e' o) (wgt s d c) ^^^ Hd.mul (wgt s d o) (wgt s e' c)))) := rfl
  have HA : Hid (∀ o, HoardIn (w.alloc o) hb s) := fun o => h.below ((Below.refl _ _).alloc (Nat.le_refl _) o)
  have W1 : Hid (∀ W : World, HoardIn W hb s → Calls Tryz.prog 112 #[.pointer (some ⟨hb, 0, none⟩), .int .i64 e', .int .i64 o] W fun e w' => e = .returned (.int .u8 (wgt s e' o : Nat)) ∧ w' = W) := fun W e => weight_any hb s e' o W e ho
  have W2 : Hid (∀ W : World, HoardIn W hb s → Calls Tryz.prog 112 #[.pointer (some ⟨hb, 0, none⟩), .int .i64 d, .int .i64 o] W fun e w' => e = .returned (.int .u8 (wgt s d o : Nat)) ∧ w' = W) := fun W e => weight_any hb s d o W e ho
  have W3 : Hid (∀ W : World, HoardIn W hb s → Calls Tryz.prog 112 #[.pointer (some ⟨hb, 0, none⟩), .int .i64 d, .int .i64 c] W fun e w' => e = .returned (.int .u8 (wgt s d c : Nat)) ∧ w' = W) := fun W e => weight_any hb s d c W e hc
  have W4 : Hid (∀ W : World, HoardIn W hb s → Calls Tryz.prog 112 #[.pointer (some ⟨hb, 0, none⟩), .int .i64 e', .int .i64 c] W fun e w' => e = .returned (.int .u8 (wgt s e' c : Nat)) ∧ w' = W) := fun W e => weight_any hb s e' c W e hc
  have M1 : Hid (∀ W : World, HoardIn W hb s → Calls Tryz.prog 115 #[.pointer (some ⟨hb, 0, none⟩), .int .i64 d, .int .i64 r] W fun e w' => e = .returned (msum s d r s.D).val ∧ Below W.heap.size W w') := fun W e => gap_any hb s d r W e hd hr
  have M2 : Hid (∀ W : World, HoardIn W hb s → Calls Tryz.prog 115 #[.pointer (some ⟨hb, 0, none⟩), .int .i64 e', .int .i64 r] W fun e w' => e = .returned (msum s e' r s.D).val ∧ Below W.heap.size W w') := fun W e => gap_any hb s e' r W e he hr
  have l1 := wgt_lt s e' o ho
  have l2 := wgt_lt s d o ho
  have l3 := wgt_lt s d c hc
  have l4 := wgt_lt s e' c hc
  have o1 : Hid ((msum s d r s.D).ok) := msum_ok h.ok d r s.D hD
  have o2 : Hid ((msum s e' r s.D).ok) := msum_ok h.ok e' r s.D hD
  clear h
  generalize wgt s e' o = a at *
  generalize wgt s d o = b at *
  generalize wgt s d c = x at *
  generalize wgt s e' c = y at *
  generalize msum s d r s.D = S at *
  generalize msum s e' r s.D = T at *
  have SC1 : Hid (∀ W, Calls Tryz.prog 113 #[.int .u8 a, S.val] W fun e w' => e = .returned (S.scale a).val ∧ Below W.heap.size W w') := fun W => Scale_any a S W l1 o1.out
  have SC2 : Hid (∀ W, Calls Tryz.prog 113 #[.int .u8 b, T.val] W fun e w' => e = .returned (T.scale b).val ∧ Below W.heap.size W w') := fun W => Scale_any b T W l2 o2.out
  have o3 : Hid ((S.scale a).ok) := C4.scale_ok l1
  have o4 : Hid ((T.scale b).ok) := C4.scale_ok l2
  have MU1 : Hid (∀ W, Calls Tryz.prog 60 #[.int .u8 a, .int .u8 x] W fun e w' => e = .returned (.int .u8 (Hd.mul a x : Nat)) ∧ w' = W) := fun W => fmul_any a x W l1 l3
  have MU2 : Hid (∀ W, Calls Tryz.prog 60 #[.int .u8 b, .int .u8 y] W fun e w' => e = .returned (.int .u8 (Hd.mul b y : Nat)) ∧ w' = W) := fun W => fmul_any b y W l2 l4
  have m1 := Hd.mul_lt a x l1
  have m2 := Hd.mul_lt b y l2
  generalize Hd.mul a x = p at *
  generalize Hd.mul b y = q at *
  have hxor := u8_xor_nat p q m1 m2
  have hxl := Hd.xor_lt p q m1 m2
  generalize p ^^^ q = t at *
  have DV : Hid (∀ W, Calls Tryz.prog 61 #[.int .u8 1, .int .u8 t] W fun e w' => e = .returned (.int .u8 (Hd.div 1 t : Nat)) ∧ w' = W) := fun W => fdiv_any 1 t W (by omega) hxl
  have hdl := Hd.div_lt 1 t (by omega)
  generalize Hd.div 1 t = iv at *
  generalize S.scale a = X at *
  generalize T.scale b = Y at *
  have AD : Hid (∀ W, Calls Tryz.prog 108 #[X.val, Y.val] W fun e w' => e = .returned (X.xor Y).val ∧ Below W.heap.size W w') := fun W => Add_any X Y W o3.out o4.out
  have o5 : Hid ((X.xor Y).ok) := C4.xor_ok o3.out o4.out
  generalize X.xor Y = V at *
  have SC3 : Hid (∀ W, Calls Tryz.prog 113 #[.int .u8 iv, V.val] W fun e w' => e = .returned (V.scale iv).val ∧ Below W.heap.size W w') := fun W => Scale_any iv V W hdl o5.out
  generalize V.scale iv = Z at *
  unfold C4.val at M1 M2 SC1 SC2 SC3 AD
  clear l1 l2 l3 l4
  go_enter Tryz.func101, Tryz.ntmps101
  go_wp2_with fail
  refine (W1.out _ (HA.out _)).mono ?_
  rintro e w1 ⟨rfl, rfl⟩
  go_wp2_with fail
  refine (W2.out _ (HA.out _)).mono ?_
  rintro e w1 ⟨rfl, rfl⟩
  have K0 : Below w.heap.size w (w.alloc (.cells #[.int .u8 0, .int .u8 0, .int .u8 0, .int .u8 0] 75)) := (Below.refl _ _).alloc (Nat.le_refl _) _
  have R0 : Hid (BoxAt (w.alloc (.cells #[.int .u8 0, .int .u8 0, .int .u8 0, .int .u8 0] 75)) w.heap.size C4.zero) := BoxAt.new0 w _ rfl
  have H0 := HA.out (.cells #[.int .u8 0, .int .u8 0, .int .u8 0, .int .u8 0] 75)
  generalize w.alloc (.cells #[.int .u8 0, .int .u8 0, .int .u8 0, .int .u8 0] 75) = w0 at *
  have hlt1 := R0.out.lt
  go_wp2_with fail
  refine (M1.out _ H0).mono ?_
  rintro e w1 ⟨rfl, k1⟩
  have K1 : Below w.heap.size w w1 := K0.trans (k1.mono K0.size)
  have R1 : Hid (BoxAt w1 w.heap.size C4.zero) := R0.out.below k1
  clear k1 H0 R0 K0 hlt1
  go_wp2_with fail
  refine (SC1.out _).mono ?_
  rintro e w2 ⟨rfl, k2⟩
  have K2 : Below w.heap.size w (w2.alloc (.cells #[.int .u8 X.b0, .int .u8 X.b1, .int .u8 X.b2, .int .u8 X.b3] 75)) := by
    have k3 := K1.trans (k2.mono K1.size)
    exact k3.alloc k3.size _
  have R2 : Hid (BoxAt (w2.alloc (.cells #[.int .u8 X.b0, .int .u8 X.b1, .int .u8 X.b2, .int .u8 X.b3] 75)) w.heap.size C4.zero) := (R1.out.below k2).alloc _
  have X2 : Hid (BoxAt (w2.alloc (.cells #[.int .u8 X.b0, .int .u8 X.b1, .int .u8 X.b2, .int .u8 X.b3] 75)) w2.heap.size X) := BoxAt.new _ _ _ rfl
  have H2 := HH.out.below K2
  clear k2 K1 R1
  go_wp2_with fail
  generalize w2.alloc (.cells #[.int .u8 X.b0, .int .u8 X.b1, .int .u8 X.b2, .int .u8 X.b3] 75) = w3 at *
  generalize w2.heap.size = xb at *
  refine (M2.out _ H2).mono ?_
  rintro e w4 ⟨rfl, k4⟩
  have K4 : Below w.heap.size w w4 := K2.trans (k4.mono K2.size)
  have R4 : Hid (BoxAt w4 w.heap.size C4.zero) := R2.out.below k4
  have X4 : Hid (BoxAt w4 xb X) := X2.out.below k4
  clear k4 H2 R2 X2 K2
  go_wp2_with fail
  refine (SC2.out _).mono ?_
  rintro e w5 ⟨rfl, k5⟩
  have K5 : Below w.heap.size w (w5.alloc (.cells #[.int .u8 Y.b0, .int .u8 Y.b1, .int .u8 Y.b2, .int .u8 Y.b3] 75)) := by
    have k3 := K4.trans (k5.mono K4.size)
    exact k3.alloc k3.size _
  have R5 : Hid (BoxAt (w5.alloc (.cells #[.int .u8 Y.b0, .int .u8 Y.b1, .int .u8 Y.b2, .int .u8 Y.b3] 75)) w.heap.size C4.zero) := (R4.out.below k5).alloc _
  have X5 : Hid (BoxAt (w5.alloc (.cells #[.int .u8 Y.b0, .int .u8 Y.b1, .int .u8 Y.b2, .int .u8 Y.b3] 75)) xb X) := (X4.out.below k5).alloc _
  have Y5 : Hid (BoxAt (w5.alloc (.cells #[.int .u8 Y.b0, .int .u8 Y.b1, .int .u8 Y.b2, .int .u8 Y.b3] 75)) w5.heap.size Y) := BoxAt.new _ _ _ rfl
  have H5 := HH.out.below K5
  clear k5 K4 R4 X4
  go_wp2_with fail
  generalize w5.alloc (.cells #[.int .u8 Y.b0, .int .u8 Y.b1, .int .u8 Y.b2, .int .u8 Y.b3] 75) = w6 at *
  generalize w5.heap.size = yb at *
  refine (W3.out _ H5).mono ?_
  rintro e W ⟨rfl, rfl⟩
  go_wp2_with fail
  refine (MU1.out _).mono ?_
  rintro e W ⟨rfl, rfl⟩
  go_wp2_with fail
  refine (W4.out _ H5).mono ?_
  rintro e W ⟨rfl, rfl⟩
  go_wp2_with fail
  refine (MU2.out _).mono ?_
  rintro e w7 ⟨rfl, rfl⟩
  obtain ⟨b0, b1, b2, b3⟩ := X5.out.cells
  obtain ⟨c0, c1, c2, c3⟩ := Y5.out.cells
  clear m1 m2 hdl
  go_wp2_with fail
  go_region_with (first
    | (go_at_call 61; go_must (refine (DV.out _).mono ?_); rintro e W ⟨rfl, rfl⟩)
    | (go_at_call 108; go_must (refine (AD.out _).mono ?_); rintro e w8 ⟨rfl, k8⟩; have K8 : Below w7.heap.size w7 w8 := below_from k8 rfl rfl rfl rfl)
    | (go_at_call 113; go_must (refine (SC3.out _).mono ?_); rintro e w9 ⟨rfl, k9⟩; have K9 : Below w7.heap.size w7 w9 := K8.trans ((below_from k9 rfl rfl rfl rfl : Below w8.heap.size w8 w9).mono K8.size); obtain ⟨e0, e1, e2, e3⟩ := (R5.out.below K9).cells; obtain ⟨q0, q1, q2, q3⟩ := (R5.out.below K9).frz))
  all_goals
    go_wp2_with fail
    refine bodyPost_ret (v := Z.val) (by simp [results, Tryz.results101, go_sem, e0, e1, e2, e3, C4.val]) rfl ⟨?_, ?_⟩
    · rw [HSV.out]
    · exact below_set4 (K5.trans (K9.mono K5.size)) (Nat.le_refl _) _ _ _ _
end Go.Proofs.YtfpoiikhhjdpdaaGreat

/- What a data cell holds; what a parity cell must have. -/
namespace Go.Proofs.YtfpoiikhhjdpdaaGreat
open Go.RowKit
set_option linter.unusedVariables false
attribute [local go_sem ↓] Go.wp_at_zero Go.wp_at_succ
theorem missL_lt (s : Ab) (r m : Nat) : ∀ i, i < (missL s r m).length → (missL s r m).getD i 0 < m := by
  have : ∀ x ∈ missL s r m, x < m := by
    induction m with
    | zero => simp [missL]
    | succ m ih =>
      intro x hx
      simp only [missL] at hx
      split at hx
      · have := ih x hx; omega
      · rcases List.mem_append.1 hx with h | h
        · have := ih x h; omega
        · simp at h; omega
  intro i hi
  rw [List.getD_eq_getElem?_getD, List.getElem?_eq_getElem hi]
  exact this _ (List.getElem_mem hi)
theorem parL_lt (s : Ab) (r m : Nat) : ∀ i, i < (parL s r m).length → (parL s r m).getD i 0 < s.D + m := by
  have : ∀ x ∈ parL s r m, x < s.D + m := by
    induction m with
    | zero => simp [parL]
    | succ m ih =>
      intro x hx
      simp only [parL] at hx
      split at hx
      · rcases List.mem_append.1 hx with h | h
        · have := ih x h; omega
        · simp at h; omega
      · have := ih x hx; omega
  intro i hi
  rw [List.getD_eq_getElem?_getD, List.getElem?_eq_getElem hi]
  exact this _ (List.getElem_mem hi)
def holdM (s : Ab) (c r : Nat) (m p : List Nat) : C4 :=
  if m.length = 1 ∧ 1 ≤ p.length then solve1 s c r (p.getD 0 0)
  else if m.length = 2 ∧ p.length = 2 then solve2 s c (if m.getD 0 0 = c then m.getD 1 0 else m.getD 0 0) r (p.getD 0 0) (p.getD 1 0)
  else C4.zero
def holdC (s : Ab) (c r : Nat) : C4 := if avB s c r then s.cell c r else holdM s c r (missL s r s.D) (parL s r s.P)
theorem holdC_ok {s : Ab} (h : s.ok) (c r : Nat) : (holdC s c r).ok := by
  unfold holdC holdM
  split
  · exact h.cells c r
  · split
    · exact solve1_ok _ _ _ _
    · split
      · exact solve2_ok _ _ _ _ _ _
      · exact C4.zero_ok
set_option maxRecDepth 100000 in
set_option maxHeartbeats 2000000 in
theorem holds_av (hb : Nat) (s : St) (c r : Nat) (w : World) (h : HoardIn w hb s) (hc : c < 4) (hr : r < 6) (hav : avB s c r = true) :
    Calls Tryz.prog 67 #[.pointer (some ⟨hb, 0, none⟩), .int .i64 c, .int .i64 r] w fun e w' => e = .returned (holdC s c r).val ∧ Below w.heap.size w w' := by
  have hri : (r : Int) < 6 := by omega
  have hci : (c : Int) < 6 := by omega
  have hlt0 := h.row.lt
  have HA : Hid (∀ o, HoardIn (w.alloc o) hb s) := fun o => h.below ((Below.refl _ _).alloc (Nat.le_refl _) o)
  have HAV : Hid (∀ W, HoardIn W hb s → Calls Tryz.prog 76 #[.pointer (some ⟨hb, 4 + c * 32, none⟩), .int .i64 r] W fun e w' => e = .returned (.bool true) ∧ w' = W) := fun W hW => (has_any hb s c r W hW (by omega) hr).mono (fun e w' ⟨h1, h2⟩ => ⟨by rw [h1, hav], h2⟩)
  have HE : Hid (holdC s c r = s.cell c r) := (show _ = _ by unfold holdC; rw [hav]; rfl)
  obtain ⟨y0, y1, y2, y3⟩ := h.cell c r (by omega) hr
  clear h hav
  generalize s.cell c r = cl at *
  go_enter Tryz.func67, Tryz.ntmps67
  go_wp2_with fail
  refine (HAV.out _ (HA.out _)).mono ?_
  rintro e w1 ⟨rfl, rfl⟩
  go_wp2_with fail
  exact bodyPost_ret (v := cl.val) (by simp [results, Tryz.results67, go_sem, C4.val]) rfl ⟨by rw [HE.out], by repeat (first | exact Below.refl _ _ | refine Below.setCell ?_ (by simp) _ | refine below_drewN ?_ _ | refine Below.drew ?_ | refine Below.alloc ?_ (by simp <;> omega) _)⟩
set_option maxRecDepth 100000 in
set_option maxHeartbeats 4000000 in
theorem holds_no (hb : Nat) (s : St) (c r : Nat) (w : World) (h : HoardIn w hb s) (hc : c < 4) (hr : r < 6) (hav : avB s c r = false) :
    Calls Tryz.prog 67 #[.pointer (some ⟨hb, 0, none⟩), .int .i64 c, .int .i64 r] w fun e w' => e = .returned (holdC s c r).val ∧ Below w.heap.size w w' := by
  have hri : (r : Int) < 6 := by omega
  have hci : (c : Int) < 6 := by omega
  have hlt0 := h.row.lt
  have hD := h.ok.D4
  have hP := h.ok.P2
  have HH : Hid (HoardIn w hb s) := h
  have HA : Hid (∀ o, HoardIn (w.alloc o) hb s) := fun o => h.below ((Below.refl _ _).alloc (Nat.le_refl _) o)
  have HAV : Hid (∀ W, HoardIn W hb s → Calls Tryz.prog 76 #[.pointer (some ⟨hb, 4 + c * 32, none⟩), .int .i64 r] W fun e w' => e = .returned (.bool false) ∧ w' = W) := fun W hW => (has_any hb s c r W hW (by omega) hr).mono (fun e w' ⟨h1, h2⟩ => ⟨by rw [h1, hav], h2⟩)
  have HE : Hid (holdC s c r = holdM s c r (missL s r s.D) (parL s r s.P)) := (show _ = _ by unfold holdC; rw [hav]; rfl)
  have HM : Hid (∀ i, i < (missL s r s.D).length → (missL s r s.D).getD i 0 < 4) := fun i hi => by have := missL_lt s r s.D i hi; omega
  have HP : Hid (∀ i, i < (parL s r s.P).length → (parL s r s.P).getD i 0 < 6) := fun i hi => by have := parL_lt s r s.P i hi; omega
  have hml := missL_len s r s.D
  have hpl := parL_len s r s.P
  clear h hav
  go_enter Tryz.func67, Tryz.ntmps67
  go_wp2_with fail
  refine (HAV.out _ (HA.out _)).mono ?_
  rintro e w1 ⟨rfl, rfl⟩
  have K0 : Below w.heap.size w (w.alloc (.cells #[.int .u8 0, .int .u8 0, .int .u8 0, .int .u8 0] 75)) := (Below.refl _ _).alloc (Nat.le_refl _) _
  have R0 : Hid (BoxAt (w.alloc (.cells #[.int .u8 0, .int .u8 0, .int .u8 0, .int .u8 0] 75)) w.heap.size C4.zero) := BoxAt.new0 w _ rfl
  have H0 := HA.out (.cells #[.int .u8 0, .int .u8 0, .int .u8 0, .int .u8 0] 75)
  generalize w.alloc (.cells #[.int .u8 0, .int .u8 0, .int .u8 0, .int .u8 0] 75) = w0 at *
  go_wp2_with fail
  refine (missingData_any hb s r w0 H0 hr).mono ?_
  rintro e w1 ⟨v1, rfl, i1, k1⟩
  have K1 : Below w.heap.size w w1 := K0.trans (k1.mono K0.size)
  have R1 : Hid (BoxAt w1 w.heap.size C4.zero) := R0.out.below k1
  obtain ⟨p1, q1, rfl, _⟩ := i1.slice
  have H1 := HH.out.below K1
  go_wp2_with fail
  refine (availableParity_any hb s r w1 H1 hr).mono ?_
  rintro e w2 ⟨v2, rfl, i2, k2⟩
  have K2 : Below w.heap.size w w2 := K1.trans (k2.mono K1.size)
  have R2 : Hid (BoxAt w2 w.heap.size C4.zero) := R1.out.below k2
  obtain ⟨p2, q2, rfl, g2⟩ := i2.slice
  have i3 := i1.below k2
  obtain ⟨p3, q3, e3, g3⟩ := i3.slice
  obtain ⟨rfl, rfl⟩ : p1 = p3 ∧ q1 = q3 := by simp only [Value.slice.injEq] at e3; exact ⟨e3.1, e3.2.2⟩
  have G2 : Hid _ := g2
  have G3 : Hid _ := g3
  have H2 := HH.out.below K2
  have S1 : Hid (∀ d : Nat, d < 6 → Calls Tryz.prog 100 #[.pointer (some ⟨hb, 0, none⟩), .int .i64 c, .int .i64 r, .int .i64 d] w2 fun e w' => e = .returned (solve1 s c r d).val ∧ Below w2.heap.size w2 w') := fun d hd => solveOne_any hb s c r d w2 H2 hc hd hr
  have S2 : Hid (∀ (W : World) (o d e' : Nat), HoardIn W hb s → o < 4 → d < 6 → e' < 6 → Calls Tryz.prog 101 #[.pointer (some ⟨hb, 0, none⟩), .int .i64 c, .int .i64 o, .int .i64 r, .int .i64 d, .int .i64 e'] W fun e w' => e = .returned (solve2 s c o r d e').val ∧ Below W.heap.size W w') := fun W o d e' hW ho hd he => solveTwo_any hb s c o r d e' W hW hc ho hd he hr
  clear k1 k2 i1 i2 i3 H0 H1 K0 R0 K1 R1 e3 g2 g3
  generalize missL s r s.D = m at *
  generalize parL s r s.P = p at *
  obtain ⟨r0, r1, r2, r3⟩ := R2.out.cells
  obtain ⟨f0, f1, f2, f3⟩ := R2.out.frz
  have hrl := R2.out.lt
  generalize hml1 : m.length = ml at *
  generalize hpl1 : p.length = pl at *
  by_cases c1 : ml = 1 ∧ 1 ≤ pl
  · have HZ : Hid (holdC s c r = solve1 s c r (p.getD 0 0)) := (show _ = _ by rw [HE.out]; unfold holdM; rw [if_pos (by omega)])
    obtain ⟨rfl, c1b⟩ := c1
    obtain ⟨b, rfl, hcell⟩ := G2.out 0 (by omega)
    have hpi := HP.out 0 (by omega)
    have hS := S1.out _ hpi
    generalize p.getD 0 0 = pd at *
    have HS : Hid _ := hS
    clear hS
    unfold C4.val at HS
    generalize solve1 s c r pd = Z at *
    go_wp2_with fail
    refine Calls.mono HS.out ?_
    rintro e w3 ⟨rfl, k3⟩
    have K3 := K2.trans (k3.mono K2.size)
    obtain ⟨e0, e1, e2, e3⟩ := (R2.out.below k3).cells
    obtain ⟨q0, q1, q2, q3⟩ := (R2.out.below k3).frz
    go_wp2_with fail
    refine bodyPost_ret (v := Z.val) (by simp [results, Tryz.results67, go_sem, e0, e1, e2, e3, C4.val, C4.zero]) rfl ⟨by rw [HZ.out], ?_⟩
    exact below_set4 K3 (Nat.le_refl _) _ _ _ _
  · by_cases c2 : ml = 2
    · subst c2
      by_cases c3 : pl = 2
      · subst c3
        have hm0 := HM.out 0 (by omega)
        have hm1 := HM.out 1 (by omega)
        have hp0 := HP.out 0 (by omega)
        have hp1 := HP.out 1 (by omega)
        obtain ⟨b, rfl, hcell⟩ := G2.out 0 (by omega)
        obtain ⟨b', hbb, hcell1⟩ := G2.out 1 (by omega)
        obtain rfl : b = b' := by simpa using hbb
        obtain ⟨g, rfl, hcm⟩ := G3.out 0 (by omega)
        obtain ⟨g', hgg, hcm1⟩ := G3.out 1 (by omega)
        obtain rfl : g = g' := by simpa using hgg
        have HZ : Hid (holdC s c r = solve2 s c (if m.getD 0 0 = c then m.getD 1 0 else m.getD 0 0) r (p.getD 0 0) (p.getD 1 0)) := (show _ = _ by rw [HE.out]; unfold holdM; rw [if_neg (by omega), if_pos (by omega)])
        generalize p.getD 0 0 = d0 at *
        generalize p.getD 1 0 = d1 at *
        generalize m.getD 0 0 = m0 at *
        generalize m.getD 1 0 = m1 at *
        by_cases c4 : m0 = c
        · subst c4
          have hS : ∀ W : World, W.heap = w2.heap → _ := fun W e => S2.out W m1 d0 d1 (H2.heap e) hm1 hp0 hp1
          rw [if_pos rfl] at HZ
          have HS : Hid _ := hS
          clear hS
          unfold C4.val at HS
          generalize solve2 s m0 m1 r d0 d1 = Z at *
          go_wp2_with fail
          go_region_with ((go_at_call 101; go_must (refine Calls.mono (HS.out _ (by rfl)) ?_); rintro e w3 ⟨rfl, k4⟩; have k3 : Below w2.heap.size w2 w3 := below_from k4 rfl rfl rfl rfl; have K3 := K2.trans (k3.mono K2.size); obtain ⟨e0, e1, e2, e3⟩ := (R2.out.below k3).cells; obtain ⟨q0, q1, q2, q3⟩ := (R2.out.below k3).frz))
          all_goals
           go_wp2_with fail
           refine bodyPost_ret (v := Z.val) (by simp [results, Tryz.results67, go_sem, e0, e1, e2, e3, C4.val, C4.zero]) rfl ⟨by rw [HZ.out], ?_⟩
           exact below_set4 K3 (Nat.le_refl _) _ _ _ _
        · have c4i : ((m0 : Int) == (c : Int)) = false := by rw [beq_eq_false_iff_ne]; omega
          have hS : ∀ W : World, W.heap = w2.heap → _ := fun W e => S2.out W m0 d0 d1 (H2.heap e) hm0 hp0 hp1
          rw [if_neg c4] at HZ
          have HS : Hid _ := hS
          clear hS c4
          unfold C4.val at HS
          generalize solve2 s c m0 r d0 d1 = Z at *
          go_wp2_with fail
          go_region_with ((go_at_call 101; go_must (refine Calls.mono (HS.out _ (by rfl)) ?_); rintro e w3 ⟨rfl, k4⟩; have k3 : Below w2.heap.size w2 w3 := below_from k4 rfl rfl rfl rfl; have K3 := K2.trans (k3.mono K2.size); obtain ⟨e0, e1, e2, e3⟩ := (R2.out.below k3).cells; obtain ⟨q0, q1, q2, q3⟩ := (R2.out.below k3).frz))
          all_goals
           go_wp2_with fail
           refine bodyPost_ret (v := Z.val) (by simp [results, Tryz.results67, go_sem, e0, e1, e2, e3, C4.val, C4.zero]) rfl ⟨by rw [HZ.out], ?_⟩
           exact below_set4 K3 (Nat.le_refl _) _ _ _ _
      · have HZ : Hid (holdC s c r = C4.zero) := (show _ = _ by rw [HE.out]; unfold holdM; rw [if_neg (by omega), if_neg (by omega)])
        have c3i : ((pl : Int) == 2) = false := by rw [beq_eq_false_iff_ne]; omega
        clear c3 c1
        go_wp2_with fail
        refine bodyPost_ret (v := C4.zero.val) (by simp [results, Tryz.results67, go_sem, r0, r1, r2, r3, C4.val, C4.zero]) rfl ⟨by rw [HZ.out], ?_⟩
        exact below_set4 K2 (Nat.le_refl _) _ _ _ _
    · have HZ : Hid (holdC s c r = C4.zero) := (show _ = _ by rw [HE.out]; unfold holdM; rw [if_neg (by omega), if_neg (by omega)])
      have c2i : ((ml : Int) == 2) = false := by rw [beq_eq_false_iff_ne]; omega
      by_cases c5 : ml = 1
      · subst c5
        have c6 : pl = 0 := by omega
        subst c6
        clear c1 c2 c2i
        go_wp2_with fail
        refine bodyPost_ret (v := C4.zero.val) (by simp [results, Tryz.results67, go_sem, r0, r1, r2, r3, C4.val, C4.zero]) rfl ⟨by rw [HZ.out], ?_⟩
        exact below_set4 K2 (Nat.le_refl _) _ _ _ _
      · have c5i : ((ml : Int) == 1) = false := by rw [beq_eq_false_iff_ne]; omega
        clear c1 c2 c5
        go_wp2_with fail
        refine bodyPost_ret (v := C4.zero.val) (by simp [results, Tryz.results67, go_sem, r0, r1, r2, r3, C4.val, C4.zero]) rfl ⟨by rw [HZ.out], ?_⟩
        exact below_set4 K2 (Nat.le_refl _) _ _ _ _
theorem holds_any (hb : Nat) (s : St) (c r : Nat) (w : World) (h : HoardIn w hb s) (hc : c < 4) (hr : r < 6) :
    Calls Tryz.prog 67 #[.pointer (some ⟨hb, 0, none⟩), .int .i64 c, .int .i64 r] w fun e w' => e = .returned (holdC s c r).val ∧ Below w.heap.size w w' := by
  cases hav : avB s c r
  · exact holds_no hb s c r w h hc hr hav
  · exact holds_av hb s c r w h hc hr hav
end Go.Proofs.YtfpoiikhhjdpdaaGreat

/- What the cells of a row want of one another; what is missing is found. -/
namespace Go.Proofs.YtfpoiikhhjdpdaaGreat
open Go.RowKit
set_option linter.unusedVariables false
theorem C4.xor_assoc (a b c : C4) : (a.xor b).xor c = a.xor (b.xor c) := by
  simp only [C4.xor, Nat.xor_assoc]
theorem C4.xor_comm (a b : C4) : a.xor b = b.xor a := by
  simp only [C4.xor, Nat.xor_comm]
theorem C4.xor_self (a : C4) : a.xor a = C4.zero := by
  simp only [C4.xor, Nat.xor_self]; rfl
theorem C4.zero_xor (a : C4) : C4.zero.xor a = a := by
  simp only [C4.xor, C4.zero, Nat.zero_xor]
theorem C4.xor_zero (a : C4) : a.xor C4.zero = a := by
  simp only [C4.xor, C4.zero, Nat.xor_zero]
theorem C4.scale_xor (n : Nat) (a b : C4) : (a.xor b).scale n = (a.scale n).xor (b.scale n) := by
  simp only [C4.xor, C4.scale, Hd.mul_right]
theorem C4.scale_scale (m n : Nat) (a : C4) (hm : m < 256) (hn : n < 256) (ha : a.ok) : (a.scale n).scale m = a.scale (Hd.mul m n) := by
  obtain ⟨h0, h1, h2, h3⟩ := ha
  simp only [C4.scale]
  rw [Hd.mul_assoc m n _ hm hn h0, Hd.mul_assoc m n _ hm hn h1, Hd.mul_assoc m n _ hm hn h2, Hd.mul_assoc m n _ hm hn h3]
theorem C4.scale_add (m n : Nat) (a : C4) : (a.scale m).xor (a.scale n) = a.scale (m ^^^ n) := by
  simp only [C4.scale, C4.xor, Hd.mul_left]
theorem C4.scale_one (a : C4) (ha : a.ok) : a.scale 1 = a := by
  obtain ⟨h0, h1, h2, h3⟩ := ha
  simp only [C4.scale]
  rw [Hd.one_mul _ h0, Hd.one_mul _ h1, Hd.one_mul _ h2, Hd.one_mul _ h3]
theorem C4.scale_inv (n : Nat) (a : C4) (hn : n < 256) (h0 : n ≠ 0) (ha : a.ok) : (a.scale n).scale (Hd.div 1 n) = a := by
  rw [C4.scale_scale _ _ a (Hd.div_lt _ _ (by omega)) hn ha, Hd.inv_mul n hn h0, C4.scale_one a ha]
theorem C4.scale_zero_left (a : C4) : a.scale 0 = C4.zero := by
  simp only [C4.scale, Hd.zero_mul]; rfl
/-- The block of data drive d in row r, as the bytes say. -/
def blkC (D : Nat) (f : Nat → Nat) (d r : Nat) : C4 := C4.mk4 (fun i => f ((r * D + d) * 4 + i))
theorem blkC_ok {D : Nat} {f : Nat → Nat} (hf : ∀ i, f i < 256) (d r : Nat) : (blkC D f d r).ok := ⟨hf _, hf _, hf _, hf _⟩
/-- What the equation of parity drive d wants, of the first k data cells. -/
def wsum (s : Ab) (f : Nat → Nat) (d r : Nat) : Nat → C4
  | 0 => C4.zero
  | k + 1 => (wsum s f d r k).xor ((blkC s.D f k r).scale (wgt s d k))
/-- Of the missing ones among them. -/
def lsum (s : Ab) (f : Nat → Nat) (d r : Nat) (l : List Nat) : C4 := l.foldl (fun c k => c.xor ((blkC s.D f k r).scale (wgt s d k))) C4.zero
theorem lsum_snoc (s : Ab) (f : Nat → Nat) (d r : Nat) (l : List Nat) (k : Nat) : lsum s f d r (l ++ [k]) = (lsum s f d r l).xor ((blkC s.D f k r).scale (wgt s d k)) := by
  unfold lsum; rw [List.foldl_append]; rfl
/-- In a row: the available data cells are their blocks. -/
def RowData (s : Ab) (f : Nat → Nat) (r : Nat) : Prop := ∀ d, d < s.D → avB s d r = true → s.cell d r = blkC s.D f d r
def RowPar (s : Ab) (f : Nat → Nat) (r : Nat) : Prop := ∀ d, s.D ≤ d → d < s.D + s.P → avB s d r = true → valC s d r = wsum s f d r s.D
theorem msum_eq {s : Ab} {f : Nat → Nat} {r : Nat} (hd : RowData s f r) (d : Nat) (k : Nat) (hk : k ≤ s.D) : msum s d r k = (valC s d r).xor ((wsum s f d r k).xor (lsum s f d r (missL s r k))) := by
  induction k with
  | zero => simp only [msum, wsum, missL]; show _ = _; rw [show lsum s f d r [] = C4.zero from rfl, C4.xor_zero, C4.xor_zero]
  | succ k ih =>
    have ih := ih (by omega)
    simp only [msum, wsum, missL]
    cases hav : avB s k r
    · simp only [Bool.false_eq_true, if_false]
      rw [lsum_snoc, ih]
      congr 1
      rw [C4.xor_assoc, ← C4.xor_assoc ((blkC s.D f k r).scale (wgt s d k)), C4.xor_comm ((blkC s.D f k r).scale (wgt s d k)) (lsum s f d r (missL s r k)), C4.xor_assoc, C4.xor_self, C4.xor_zero]
    · simp only [if_true]
      rw [ih, hd k (by omega) hav, C4.xor_assoc]
      congr 1
      rw [C4.xor_assoc, C4.xor_assoc]
      congr 1
      rw [C4.xor_comm]
theorem msum_par {s : Ab} {f : Nat → Nat} {r : Nat} (hd : RowData s f r) (hp : RowPar s f r) (d : Nat) (h1 : s.D ≤ d) (h2 : d < s.D + s.P) (hav : avB s d r = true) : msum s d r s.D = lsum s f d r (missL s r s.D) := by
  rw [msum_eq hd d s.D (Nat.le_refl _), hp d h1 h2 hav, ← C4.xor_assoc, C4.xor_self, C4.zero_xor]
theorem missL_mem (s : Ab) (r k c : Nat) : c ∈ missL s r k ↔ c < k ∧ avB s c r = false := by
  induction k with
  | zero => simp [missL]
  | succ k ih =>
    simp only [missL]
    cases hav : avB s k r
    · simp only [Bool.false_eq_true, if_false, List.mem_append, List.mem_singleton, ih]
      constructor
      · rintro (⟨h1, h2⟩ | rfl)
        · exact ⟨by omega, h2⟩
        · exact ⟨by omega, hav⟩
      · rintro ⟨h1, h2⟩
        by_cases e : c = k
        · exact .inr e
        · exact .inl ⟨by omega, h2⟩
    · simp only [if_true, ih]
      constructor
      · rintro ⟨h1, h2⟩; exact ⟨by omega, h2⟩
      · rintro ⟨h1, h2⟩
        refine ⟨?_, h2⟩
        by_cases e : c = k
        · subst e; rw [hav] at h2; simp at h2
        · omega
theorem missL_nodup (s : Ab) (r k : Nat) : (missL s r k).Nodup := by
  induction k with
  | zero => simp [missL]
  | succ k ih =>
    simp only [missL]
    split
    · exact ih
    · rw [List.nodup_append]
      refine ⟨ih, by simp, ?_⟩
      intro a ha b hb
      have := ((missL_mem s r k a).1 ha).1
      simp at hb
      omega
theorem parL_mem (s : Ab) (r k d : Nat) : d ∈ parL s r k ↔ s.D ≤ d ∧ d < s.D + k ∧ avB s d r = true := by
  induction k with
  | zero => simp [parL]; omega
  | succ k ih =>
    simp only [parL]
    cases hav : avB s (s.D + k) r
    · simp only [Bool.false_eq_true, if_false, ih]
      constructor
      · rintro ⟨h1, h2, h3⟩; exact ⟨h1, by omega, h3⟩
      · rintro ⟨h1, h2, h3⟩
        refine ⟨h1, ?_, h3⟩
        by_cases e : d = s.D + k
        · subst e; rw [hav] at h3; simp at h3
        · omega
    · simp only [if_true, List.mem_append, List.mem_singleton, ih]
      constructor
      · rintro (⟨h1, h2, h3⟩ | rfl)
        · exact ⟨h1, by omega, h3⟩
        · exact ⟨by omega, by omega, hav⟩
      · rintro ⟨h1, h2, h3⟩
        by_cases e : d = s.D + k
        · exact .inr e
        · exact .inl ⟨h1, by omega, h3⟩
theorem parL_two (s : Ab) (r : Nat) (h : (parL s r s.P).length = 2) (hP : s.P ≤ 2) : parL s r s.P = [s.D, s.D + 1] := by
  have hl := parL_len s r s.P
  have hp : s.P = 2 := by omega
  rw [hp] at h ⊢
  simp only [parL, List.nil_append, Nat.add_zero] at h ⊢
  cases h0 : avB s s.D r <;> cases h1 : avB s (s.D + 1) r <;> simp [h0, h1] at h ⊢
theorem wgt_ne (s : Ab) (d c : Nat) : wgt s d c ≠ 0 := by
  unfold wgt
  split
  · omega
  · have := Nat.pow_pos (n := c) (show 0 < 2 by omega); omega
theorem two_times (s : Ab) (c o : Nat) (hc : c < 4) (ho : o < 4) (hne : c ≠ o) : times2 s c o s.D (s.D + 1) ≠ 0 := by
  unfold times2
  have e1 : ∀ x, wgt s s.D x = 1 := fun x => by unfold wgt; rw [if_pos rfl]
  have e2 : ∀ x, wgt s (s.D + 1) x = 2 ^ x := fun x => by unfold wgt; rw [if_neg (by omega)]
  rw [e1, e1, e2, e2]
  have : ∀ c, c < 4 → ∀ o, o < 4 → c ≠ o → Hd.mul (2 ^ o) 1 ^^^ Hd.mul 1 (2 ^ c) ≠ 0 := by decide +kernel
  exact this c hc o ho hne
/-- What is missing is found. -/
theorem holdC_eq {s : Ab} {f : Nat → Nat} {r : Nat} (hok : s.ok) (hf : ∀ i, f i < 256) (hd : RowData s f r) (hp : RowPar s f r) (hg : goneB s r = false) (c : Nat) (hc : c < s.D) : holdC s c r = blkC s.D f c r := by
  unfold holdC
  cases hav : avB s c r
  · simp only [Bool.false_eq_true, if_false]
    have hmem : c ∈ missL s r s.D := (missL_mem s r s.D c).2 ⟨hc, hav⟩
    have hnd := missL_nodup s r s.D
    have hD := hok.D4
    have hP := hok.P2
    have hpl := parL_len s r s.P
    have hle : (missL s r s.D).length ≤ (parL s r s.P).length := by
      simp only [goneB, decide_eq_false_iff_not] at hg; omega
    have hbo := fun k => blkC_ok (D := s.D) hf k r
    have hpar : ∀ d ∈ parL s r s.P, msum s d r s.D = lsum s f d r (missL s r s.D) := fun d hd' => by
      obtain ⟨h1, h2, h3⟩ := (parL_mem s r s.P d).1 hd'
      exact msum_par hd hp d h1 h2 h3
    have hmlt : ∀ x ∈ missL s r s.D, x < 4 := fun x hx => by have := ((missL_mem s r s.D x).1 hx).1; omega
    have hp2 := parL_two s r
    unfold holdM
    generalize missL s r s.D = m at *
    match m, hmem, hnd, hle, hpar, hmlt with
    | [x], hmem, hnd, hle, hpar, hmlt =>
      have hx : c = x := by simpa using hmem
      subst hx
      rw [if_pos ⟨rfl, by simpa using hle⟩]
      have h0 : (parL s r s.P).getD 0 0 ∈ parL s r s.P := by
        have h1 : 0 < (parL s r s.P).length := by simp at hle; omega
        rw [List.getD_eq_getElem?_getD, List.getElem?_eq_getElem h1]
        exact List.getElem_mem h1
      unfold solve1
      rw [hpar _ h0]
      show ((C4.zero.xor ((blkC s.D f c r).scale (wgt s _ c))).scale _) = _
      rw [C4.zero_xor, C4.scale_inv _ _ (wgt_lt s _ c (by omega)) (wgt_ne s _ c) (hbo c)]
    | [x, y], hmem, hnd, hle, hpar, hmlt =>
      have h2 : (parL s r s.P).length = 2 := by simp at hle; omega
      have hpe := hp2 h2 hP
      rw [if_neg (by simp), if_pos ⟨rfl, h2⟩]
      rw [hpe]
      show solve2 s c (if x = c then y else x) r s.D (s.D + 1) = _
      have m0 := hpar s.D (by rw [hpe]; simp)
      have m1 := hpar (s.D + 1) (by rw [hpe]; simp)
      have hxy : x ≠ y := by simpa using hnd
      have hx4 := hmlt x (by simp)
      have hy4 := hmlt y (by simp)
      have key : ∀ a b : Nat, a < 4 → b < 4 → a ≠ b → lsum s f s.D r [x, y] = ((blkC s.D f a r).scale (wgt s s.D a)).xor ((blkC s.D f b r).scale (wgt s s.D b)) → lsum s f (s.D + 1) r [x, y] = ((blkC s.D f a r).scale (wgt s (s.D + 1) a)).xor ((blkC s.D f b r).scale (wgt s (s.D + 1) b)) → solve2 s a b r s.D (s.D + 1) = blkC s.D f a r := by
        intro a b ha hb hab e0 e1
        have t0 := two_times s a b ha hb hab
        have l := fun d c (hc : c < 4) => wgt_lt s d c hc
        have hsum : (C4.scale (wgt s (s.D + 1) b) ((C4.scale (wgt s s.D a) (blkC s.D f a r)).xor (C4.scale (wgt s s.D b) (blkC s.D f b r)))).xor (C4.scale (wgt s s.D b) ((C4.scale (wgt s (s.D + 1) a) (blkC s.D f a r)).xor (C4.scale (wgt s (s.D + 1) b) (blkC s.D f b r)))) = C4.scale (times2 s a b s.D (s.D + 1)) (blkC s.D f a r) := by
          rw [C4.scale_xor, C4.scale_xor, C4.scale_scale _ _ _ (l _ b hb) (l _ a ha) (hbo a), C4.scale_scale _ _ _ (l _ b hb) (l _ b hb) (hbo b), C4.scale_scale _ _ _ (l _ b hb) (l _ a ha) (hbo a), C4.scale_scale _ _ _ (l _ b hb) (l _ b hb) (hbo b)]
          rw [Hd.mul_comm (wgt s s.D b) (wgt s (s.D + 1) b) (l _ b hb) (l _ b hb)]
          rw [C4.xor_assoc, C4.xor_comm (C4.scale (Hd.mul (wgt s (s.D + 1) b) (wgt s s.D b)) (blkC s.D f b r)), C4.xor_assoc, C4.xor_self, C4.xor_zero, C4.scale_add]
          rfl
        unfold solve2
        rw [m0, m1, e0, e1, hsum]
        exact C4.scale_inv _ _ (Hd.xor_lt _ _ (Hd.mul_lt _ _ (l _ b hb)) (Hd.mul_lt _ _ (l _ b hb))) t0 (hbo a)
      have e : ∀ d, lsum s f d r [x, y] = ((blkC s.D f x r).scale (wgt s d x)).xor ((blkC s.D f y r).scale (wgt s d y)) := fun d => by
        show (C4.zero.xor _).xor _ = _
        rw [C4.zero_xor]
      rcases List.mem_cons.1 hmem with h | h
      · subst h
        rw [if_pos rfl]
        exact key c y hx4 hy4 hxy (e _) (e _)
      · have h : c = y := by simpa using h
        subst h
        rw [if_neg hxy]
        exact key c x hy4 hx4 (fun e => hxy e.symm) (by rw [e, C4.xor_comm]) (by rw [e, C4.xor_comm])
    | x :: y :: z :: t, hmem, hnd, hle, hpar, hmlt => simp at hle; omega
  · simp only [if_true]
    exact hd c hc hav
end Go.Proofs.YtfpoiikhhjdpdaaGreat

/- The document's equations and the program's: what the missing bytes must be. -/
namespace Go.Proofs.YtfpoiikhhjdpdaaGreat
set_option linter.unusedVariables false
theorem getD_inj {l : List Nat} (hn : l.Nodup) {i j : Nat} (hi : i < l.length) (hj : j < l.length) (e : l.getD i 0 = l.getD j 0) : i = j := by
  rw [List.getD_eq_getElem?_getD, List.getD_eq_getElem?_getD, List.getElem?_eq_getElem hi, List.getElem?_eq_getElem hj] at e
  exact (List.getElem_inj hn).1 e
theorem getD_mem' {l : List Nat} {i : Nat} (hi : i < l.length) : l.getD i 0 ∈ l := by
  rw [List.getD_eq_getElem?_getD, List.getElem?_eq_getElem hi]
  exact List.getElem_mem hi
theorem pick_out (l : List Nat) (G : Nat → Nat) (d v : Nat) (m : Nat) (h : ∀ k, k < m → l.getD k 0 ≠ d) : pickTo l G d v m = v := by
  induction m with
  | zero => rfl
  | succ m ih => simp only [pickTo]; rw [if_neg (h m (by omega))]; exact ih (fun k hk => h k (by omega))
theorem pick_in (l : List Nat) (hn : l.Nodup) (G : Nat → Nat) (d v j : Nat) (hj : l.getD j 0 = d) (hjl : j < l.length) (m : Nat) (hm : m ≤ l.length) (hjm : j < m) : pickTo l G d v m = G j := by
  induction m with
  | zero => omega
  | succ m ih =>
    simp only [pickTo]
    by_cases e : l.getD m 0 = d
    · rw [if_pos e]
      have := getD_inj hn (by omega) hjl (e.trans hj.symm)
      rw [this]
    · rw [if_neg e]
      have : j ≠ m := fun h => e (by rw [← h]; exact hj)
      exact ih (by omega) (by omega)
theorem missL_pre (a : Ab) (r n m : Nat) (h : n ≤ m) : ∃ t, missL a r m = missL a r n ++ t := by
  induction m with
  | zero => exact ⟨[], by have : n = 0 := by omega
                          subst this; simp⟩
  | succ m ih =>
    by_cases e : n = m + 1
    · subst e; exact ⟨[], by simp⟩
    · obtain ⟨t, ht⟩ := ih (by omega)
      simp only [missL]
      split
      · exact ⟨t, ht⟩
      · exact ⟨t ++ [m], by rw [ht, List.append_assoc]⟩
theorem missL_at (a : Ab) (r d D : Nat) (hd : d < D) (hav : avB a d r = false) : (missL a r D).getD (missL a r d).length 0 = d ∧ (missL a r d).length < (missL a r D).length := by
  obtain ⟨t, ht⟩ := missL_pre a r (d + 1) D hd
  have h1 : missL a r (d + 1) = missL a r d ++ [d] := by simp only [missL, hav]; rfl
  rw [ht, h1]
  constructor
  · rw [List.getD_eq_getElem?_getD, List.append_assoc, List.getElem?_append_right (Nat.le_refl _)]
    simp
  · simp only [List.length_append, List.length_cons, List.length_nil]; omega
/-- What the given bytes add up to in an equation. -/
def gSum (p : Nat) (l : List Nat) (G : Nat → Nat) : Nat → Nat
  | 0 => 0
  | k + 1 => gSum p l G k ^^^ Hd.mul (G k) (rW p (l.getD k 0))
theorem xor4 (a b c d : Nat) : (a ^^^ b) ^^^ (c ^^^ d) = (a ^^^ c) ^^^ (b ^^^ d) := by
  rw [Nat.xor_assoc, Nat.xor_assoc, ← Nat.xor_assoc b, ← Nat.xor_assoc c, Nat.xor_comm b c]
theorem xor_left {a b c : Nat} (h : a ^^^ b = c) : a = b ^^^ c := by
  rw [← h, Nat.xor_comm a, ← Nat.xor_assoc, Nat.xor_self, Nat.zero_xor]
/-- The sum that the document makes, against what the program has left over. -/
theorem rSum_gap (a : Ab) (hok : a.ok) (p r i : Nat) (G : Nat → Nat) (n : Nat) (hn : n ≤ a.D) :
    rSum a p r i (missL a r a.D) G n ^^^ (valC a (a.D + p) r).at i = (msum a (a.D + p) r n).at i ^^^ gSum p (missL a r a.D) G (missL a r n).length := by
  induction n with
  | zero => show 0 ^^^ _ = _ ^^^ 0; rw [Nat.zero_xor, Nat.xor_zero]; rfl
  | succ n ih =>
    have ih := ih (by omega)
    have hD := hok.D4
    simp only [rSum, msum]
    cases hav : avB a n r
    · have hm : missL a r (n + 1) = missL a r n ++ [n] := by simp only [missL, hav]; rfl
      obtain ⟨h1, h2⟩ := missL_at a r n a.D (by omega) hav
      rw [hm, List.length_append, pick_in _ (missL_nodup a r a.D) G n _ _ h1 h2 _ (Nat.le_refl _) h2]
      show (_ ^^^ _) ^^^ _ = (if false = true then _ else (msum a (a.D + p) r n)).at i ^^^ (gSum p (missL a r a.D) G (missL a r n).length ^^^ Hd.mul (G (missL a r n).length) (rW p ((missL a r a.D).getD (missL a r n).length 0)))
      rw [h1, if_neg (by simp), ← Nat.xor_assoc, ← ih, Nat.xor_assoc, Nat.xor_comm (Hd.mul _ _), ← Nat.xor_assoc]
    · have hm : missL a r (n + 1) = missL a r n := by simp only [missL, hav]; rfl
      have hno : ∀ k, k < (missL a r a.D).length → (missL a r a.D).getD k 0 ≠ n := fun k hk e => by
        have := (missL_mem a r a.D n).1 (e ▸ getD_mem' hk)
        rw [hav] at this
        cases this.2
      rw [hm, pick_out _ _ _ _ _ hno, if_pos rfl, C4.at_xor, C4.at_scale, rW_wgt a p n]
      rw [Hd.mul_comm _ _ (C4.at_lt (hok.cells n r) i) (wgt_lt a _ n (by omega))]
      rw [Nat.xor_assoc, Nat.xor_comm (Hd.mul _ _), ← Nat.xor_assoc, ih, Nat.xor_assoc, Nat.xor_comm (gSum _ _ _ _), ← Nat.xor_assoc]
/-- An equation of the document's holds just if the given bytes make up what is left over. -/
theorem hold_iff (a : Ab) (hok : a.ok) (p r i : Nat) (G : Nat → Nat) : rSum a p r i (missL a r a.D) G a.D = (valC a (a.D + p) r).at i ↔ gSum p (missL a r a.D) G (missL a r a.D).length = (msum a (a.D + p) r a.D).at i := by
  have h := rSum_gap a hok p r i G a.D (Nat.le_refl _)
  constructor
  · intro e
    rw [e, Nat.xor_self] at h
    have := xor_left h.symm
    rw [Nat.xor_zero] at this
    exact this.symm
  · intro e
    rw [e, Nat.xor_self] at h
    have := xor_left h
    rw [Nat.xor_zero] at this
    exact this
end Go.Proofs.YtfpoiikhhjdpdaaGreat

/- Two equations in two unknown bytes: there is one solution, the program's. -/
namespace Go.Proofs.YtfpoiikhhjdpdaaGreat
set_option linter.unusedVariables false
theorem undo_mul {x w m : Nat} (hx : x < 256) (hw : w < 256) (h0 : w ≠ 0) (h : Hd.mul x w = m) : x = Hd.mul (Hd.div 1 w) m := by
  have hd := Hd.div_lt 1 w (by omega)
  rw [← h, Hd.mul_comm x w hx hw, ← Hd.mul_assoc _ _ _ hd hw hx, Hd.inv_mul w hw h0, Hd.mul_comm 1 x (by omega) hx, Hd.mul_one x hx]
theorem do_mul {w m : Nat} (hm : m < 256) (hw : w < 256) (h0 : w ≠ 0) : Hd.mul (Hd.mul (Hd.div 1 w) m) w = m := by
  have hd := Hd.div_lt 1 w (by omega)
  rw [Hd.mul_comm _ m hd hm, Hd.mul_assoc _ _ _ hm hd hw, Hd.inv_mul w hw h0, Hd.mul_one m hm]
theorem pow_ne' : ∀ c, c < 4 → ∀ o, o < 4 → c ≠ o → rW 1 c ≠ rW 1 o := by decide
theorem xor_ne {u v : Nat} (h : u ≠ v) : v ^^^ u ≠ 0 := fun e => h (by have := xor_left e; rw [Nat.xor_zero] at this; exact this.symm)
theorem mulr (a b c : Nat) (ha : a < 256) (hb : b < 256) (hc : c < 256) : Hd.mul (a ^^^ b) c = Hd.mul a c ^^^ Hd.mul b c := by
  rw [Hd.mul_comm _ c (Hd.xor_lt _ _ ha hb) hc, Hd.mul_right, Hd.mul_comm c a hc ha, Hd.mul_comm c b hc hb]
theorem lin_one {u v m0 m1 x y : Nat} (hu : u < 256) (hv : v < 256) (h0 : m0 < 256) (hx : x < 256) (hne : u ≠ v) (e0 : x ^^^ y = m0) (e1 : Hd.mul x u ^^^ Hd.mul y v = m1) : x = Hd.mul (Hd.div 1 (v ^^^ u)) (Hd.mul v m0 ^^^ m1) := by
  have ey : y = x ^^^ m0 := by rw [Nat.xor_comm] at e0; exact xor_left e0
  have hy : y < 256 := by rw [ey]; exact Hd.xor_lt _ _ hx h0
  refine undo_mul hx (Hd.xor_lt _ _ hv hu) (xor_ne hne) ?_
  rw [Hd.mul_right, ← e1, ey, mulr x m0 v hx h0 hv, Hd.mul_comm v m0 hv h0]
  rw [← Nat.xor_assoc (Hd.mul x u), Nat.xor_comm (Hd.mul x u) (Hd.mul x v), Nat.xor_comm _ (Hd.mul m0 v), ← Nat.xor_assoc, Nat.xor_self, Nat.zero_xor]
theorem lin_is {u v m0 m1 : Nat} (hu : u < 256) (hv : v < 256) (h0 : m0 < 256) (h1 : m1 < 256) (hne : u ≠ v) :
    Hd.mul (Hd.div 1 (v ^^^ u)) (Hd.mul v m0 ^^^ m1) ^^^ Hd.mul (Hd.div 1 (u ^^^ v)) (Hd.mul u m0 ^^^ m1) = m0 ∧ Hd.mul (Hd.mul (Hd.div 1 (v ^^^ u)) (Hd.mul v m0 ^^^ m1)) u ^^^ Hd.mul (Hd.mul (Hd.div 1 (u ^^^ v)) (Hd.mul u m0 ^^^ m1)) v = m1 := by
  have ht : v ^^^ u < 256 := Hd.xor_lt _ _ hv hu
  have hd := Hd.div_lt 1 (v ^^^ u) (by omega)
  have hvm := Hd.mul_lt v m0 hv
  have hum := Hd.mul_lt u m0 hu
  rw [Nat.xor_comm u v]
  have e0 : Hd.mul (Hd.div 1 (v ^^^ u)) (Hd.mul v m0 ^^^ m1) ^^^ Hd.mul (Hd.div 1 (v ^^^ u)) (Hd.mul u m0 ^^^ m1) = m0 := by
    rw [← Hd.mul_right, xor4, Nat.xor_self, Nat.xor_zero, ← mulr v u m0 hv hu h0, ← Hd.mul_assoc _ _ _ hd ht h0, Hd.inv_mul _ ht (xor_ne hne), Hd.mul_comm 1 m0 (by omega) h0, Hd.mul_one m0 h0]
  refine ⟨e0, ?_⟩
  have hX : Hd.mul (Hd.div 1 (v ^^^ u)) (Hd.mul v m0 ^^^ m1) < 256 := Hd.mul_lt _ _ hd
  have eX := do_mul (w := v ^^^ u) (m := Hd.mul v m0 ^^^ m1) (Hd.xor_lt _ _ hvm h1) ht (xor_ne hne)
  generalize Hd.mul (Hd.div 1 (v ^^^ u)) (Hd.mul v m0 ^^^ m1) = X at *
  generalize Hd.mul (Hd.div 1 (v ^^^ u)) (Hd.mul u m0 ^^^ m1) = Y at *
  have ey : Y = X ^^^ m0 := by rw [Nat.xor_comm] at e0; exact xor_left e0
  rw [ey, mulr X m0 v hX h0 hv]
  rw [Hd.mul_right] at eX
  have h3 := xor_left eX
  rw [Hd.mul_comm m0 v h0 hv, ← Nat.xor_assoc, Nat.xor_comm (Hd.mul X u), eX, Nat.xor_comm (Hd.mul v m0) m1, Nat.xor_assoc, Nat.xor_self, Nat.xor_zero]
theorem parP_mem (a : Ab) (r k p : Nat) : p ∈ parP a r k ↔ p < k ∧ avB a (a.D + p) r = true := by
  induction k with
  | zero => simp [parP]
  | succ k ih =>
    simp only [parP]
    split
    · rename_i h
      rw [List.mem_append, ih, List.mem_singleton]
      constructor
      · rintro (⟨h1, h2⟩ | rfl)
        · exact ⟨by omega, h2⟩
        · exact ⟨by omega, h⟩
      · rintro ⟨h1, h2⟩
        by_cases e : p = k
        · exact .inr e
        · exact .inl ⟨by omega, h2⟩
    · rename_i h
      rw [ih]
      constructor
      · rintro ⟨h1, h2⟩; exact ⟨by omega, h2⟩
      · rintro ⟨h1, h2⟩
        refine ⟨?_, h2⟩
        by_cases e : p = k
        · subst e; exact absurd h2 h
        · omega
theorem parP_two (a : Ab) (r : Nat) (h : (parP a r a.P).length = 2) (hP : a.P ≤ 2) : parP a r a.P = [0, 1] := by
  have : a.P = 2 := by have := parP_len a r a.P; omega
  rw [this] at h ⊢
  simp only [parP, List.nil_append, Nat.add_zero] at h ⊢
  cases h0 : avB a a.D r <;> cases h1 : avB a (a.D + 1) r <;> simp [h0, h1] at h ⊢
/-- What the missing cells hold, byte i: the solution. -/
def solG (a : Ab) (r i k : Nat) : Nat := (holdM a ((missL a r a.D).getD k 0) r (missL a r a.D) (parL a r a.P)).at i
theorem rW_one (c : Nat) : rW 0 c = 1 := rfl
theorem hold_one (a : Ab) (hok : a.ok) (r i : Nat) (G : Nat → Nat) (hG : G 0 < 256) (h1 : (missL a r a.D).length = 1) (h2 : 1 ≤ (parP a r a.P).length) : rHold a (parP a r a.P) r i (missL a r a.D) G 1 = true ↔ G 0 = solG a r i 0 := by
  have hD := hok.D4
  obtain ⟨c, hc⟩ : ∃ c, missL a r a.D = [c] := List.length_eq_one_iff.1 h1
  have hcm := (missL_mem a r a.D c).1 (by rw [hc]; simp)
  obtain ⟨p, t, hp⟩ : ∃ p t, parP a r a.P = p :: t := by
    cases hx : parP a r a.P with
    | nil => rw [hx] at h2; simp at h2
    | cons p t => exact ⟨p, t, rfl⟩
  have hpl : parL a r a.P = (a.D + p) :: t.map (fun q => a.D + q) := by rw [parL_parP, hp]; rfl
  have hw := rW_lt p c (by omega)
  have hw0 : rW p c ≠ 0 := by rw [rW_wgt a p c]; exact wgt_ne a _ c
  have hm : (msum a (a.D + p) r a.D).at i < 256 := C4.at_lt (msum_ok hok (a.D + p) r a.D hD) i
  have hsol : solG a r i 0 = Hd.mul (Hd.div 1 (rW p c)) ((msum a (a.D + p) r a.D).at i) := by
    unfold solG holdM
    rw [hc, hpl]
    rw [if_pos ⟨rfl, by simp⟩]
    show (solve1 a c r (a.D + p)).at i = _
    unfold solve1
    rw [C4.at_scale, rW_wgt a p c]
  rw [rHold_iff]
  have hone : (∀ k, k < 1 → rSum a ((parP a r a.P).getD k 0) r i (missL a r a.D) G a.D = (valC a (a.D + (parP a r a.P).getD k 0) r).at i) ↔ Hd.mul (G 0) (rW p c) = (msum a (a.D + p) r a.D).at i := by
    have h3 := hold_iff a hok p r i G
    rw [h1] at h3
    have h4 : gSum p (missL a r a.D) G 1 = Hd.mul (G 0) (rW p c) := by
      show 0 ^^^ Hd.mul (G 0) (rW p ((missL a r a.D).getD 0 0)) = _
      rw [Nat.zero_xor, hc]; rfl
    rw [h4] at h3
    rw [← h3]
    constructor
    · intro h; have := h 0 (by omega); rw [hp] at this; exact this
    · intro h k hk
      have : k = 0 := by omega
      subst this
      rw [hp]; exact h
  rw [hone, hsol]
  constructor
  · intro h; exact undo_mul hG hw hw0 h
  · intro h; rw [h]; exact do_mul hm hw hw0
theorem hold_two (a : Ab) (hok : a.ok) (r i : Nat) (G : Nat → Nat) (hG0 : G 0 < 256) (hG1 : G 1 < 256) (h1 : (missL a r a.D).length = 2) (h2 : (parP a r a.P).length = 2) :
    (rHold a (parP a r a.P) r i (missL a r a.D) G 2 = true ↔ G 0 = solG a r i 0 ∧ G 1 = solG a r i 1) ∧ solG a r i 0 ^^^ solG a r i 1 = (msum a a.D r a.D).at i := by
  have hD := hok.D4
  have hps := parP_two a r h2 hok.P2
  have hpl : parL a r a.P = [a.D, a.D + 1] := by rw [parL_parP, hps]; rfl
  obtain ⟨c, o, hco⟩ : ∃ c o, missL a r a.D = [c, o] := by
    match hx : missL a r a.D with
    | [] => rw [hx] at h1; simp at h1
    | [x] => rw [hx] at h1; simp at h1
    | [x, y] => exact ⟨x, y, rfl⟩
    | x :: y :: z :: t => rw [hx] at h1; simp at h1
  have hcm := (missL_mem a r a.D c).1 (by rw [hco]; simp)
  have hom := (missL_mem a r a.D o).1 (by rw [hco]; simp)
  have hnd := missL_nodup a r a.D
  rw [hco] at hnd
  have hne : c ≠ o := by simpa using hnd
  have hm0 : (msum a a.D r a.D).at i < 256 := C4.at_lt (msum_ok hok a.D r a.D hD) i
  have hm1 : (msum a (a.D + 1) r a.D).at i < 256 := C4.at_lt (msum_ok hok (a.D + 1) r a.D hD) i
  have hu : rW 1 c < 256 := rW_lt 1 c (by omega)
  have hv : rW 1 o < 256 := rW_lt 1 o (by omega)
  have huv : rW 1 c ≠ rW 1 o := by
    have h3 := (pow_ne' c (by omega) o (by omega) hne)
    exact h3
  have e1 : ∀ x, wgt a a.D x = 1 := fun x => by unfold wgt; rw [if_pos rfl]
  have e2 : ∀ x, wgt a (a.D + 1) x = rW 1 x := fun x => (rW_wgt a 1 x).symm
  have hs2 : ∀ x y, x < 4 → y < 4 → (solve2 a x y r a.D (a.D + 1)).at i = Hd.mul (Hd.div 1 (rW 1 y ^^^ rW 1 x)) (Hd.mul (rW 1 y) ((msum a a.D r a.D).at i) ^^^ (msum a (a.D + 1) r a.D).at i) := by
    intro x y hx hy
    unfold solve2 times2
    rw [C4.at_scale, C4.at_xor, C4.at_scale, C4.at_scale, e1, e1, e2, e2, Hd.mul_one _ (rW_lt 1 y hy), Hd.mul_comm 1 _ (by omega) (rW_lt 1 x hx), Hd.mul_one _ (rW_lt 1 x hx), Hd.mul_comm 1 _ (by omega) hm1, Hd.mul_one _ hm1]
  have hX : solG a r i 0 = Hd.mul (Hd.div 1 (rW 1 o ^^^ rW 1 c)) (Hd.mul (rW 1 o) ((msum a a.D r a.D).at i) ^^^ (msum a (a.D + 1) r a.D).at i) := by
    rw [← hs2 c o (by omega) (by omega)]
    unfold solG holdM
    rw [hco, hpl, if_neg (by simp), if_pos ⟨rfl, rfl⟩]
    show (solve2 a c (if c = c then o else c) r a.D (a.D + 1)).at i = _
    rw [if_pos rfl]
  have hY : solG a r i 1 = Hd.mul (Hd.div 1 (rW 1 c ^^^ rW 1 o)) (Hd.mul (rW 1 c) ((msum a a.D r a.D).at i) ^^^ (msum a (a.D + 1) r a.D).at i) := by
    rw [← hs2 o c (by omega) (by omega)]
    unfold solG holdM
    rw [hco, hpl, if_neg (by simp), if_pos ⟨rfl, rfl⟩]
    show (solve2 a o (if c = o then o else c) r a.D (a.D + 1)).at i = _
    rw [if_neg hne]
  obtain ⟨l0, l1⟩ := lin_is hu hv hm0 hm1 huv
  rw [← hX, ← hY] at l0 l1
  refine ⟨?_, l0⟩
  rw [rHold_iff]
  have hg : ∀ p, gSum p (missL a r a.D) G 2 = Hd.mul (G 0) (rW p c) ^^^ Hd.mul (G 1) (rW p o) := fun p => by
    show (0 ^^^ Hd.mul (G 0) (rW p ((missL a r a.D).getD 0 0))) ^^^ Hd.mul (G 1) (rW p ((missL a r a.D).getD 1 0)) = _
    rw [Nat.zero_xor, hco]; rfl
  have h30 := hold_iff a hok 0 r i G
  have h31 := hold_iff a hok 1 r i G
  rw [h1, hg] at h30 h31
  rw [rW_one, rW_one, Hd.mul_one _ hG0, Hd.mul_one _ hG1] at h30
  have hall : (∀ k, k < 2 → rSum a ((parP a r a.P).getD k 0) r i (missL a r a.D) G a.D = (valC a (a.D + (parP a r a.P).getD k 0) r).at i) ↔ (G 0 ^^^ G 1 = (msum a a.D r a.D).at i ∧ Hd.mul (G 0) (rW 1 c) ^^^ Hd.mul (G 1) (rW 1 o) = (msum a (a.D + 1) r a.D).at i) := by
    rw [hps]
    constructor
    · intro h; exact ⟨h30.1 (h 0 (by omega)), h31.1 (h 1 (by omega))⟩
    · intro h k hk
      have : k = 0 ∨ k = 1 := by omega
      rcases this with rfl | rfl
      · exact h30.2 h.1
      · exact h31.2 h.2
  rw [hall]
  constructor
  · rintro ⟨h3, h4⟩
    have hx := lin_one hu hv hm0 hG0 huv h3 h4
    rw [← hX] at hx
    refine ⟨hx, ?_⟩
    have h5 := xor_left h3
    rw [hx, ← l0] at h3
    have h6 : G 1 = solG a r i 0 ^^^ (solG a r i 0 ^^^ solG a r i 1) := by
      rw [Nat.xor_comm] at h3
      exact xor_left h3
    rw [← Nat.xor_assoc, Nat.xor_self, Nat.zero_xor] at h6
    exact h6
  · rintro ⟨h3, h4⟩
    rw [h3, h4]
    exact ⟨l0, l1⟩
end Go.Proofs.YtfpoiikhhjdpdaaGreat

/- The document: the missing bytes, by trying. -/
namespace Go.Proofs.YtfpoiikhhjdpdaaGreat
open Go.RowKit
set_option linter.unusedVariables false
attribute [local go_sem ↓] Go.wp_at_zero Go.wp_at_succ
theorem solG_lt (a : Ab) (r i k : Nat) : solG a r i k < 256 := by
  unfold solG holdM
  refine C4.at_lt ?_ i
  split
  · exact solve1_ok _ _ _ _
  · split
    · exact solve2_ok _ _ _ _ _ _
    · exact C4.zero_ok
theorem parP_lt (a : Ab) (r : Nat) : ∀ k, k < (parP a r a.P).length → (parP a r a.P).getD k 0 < a.P := fun k hk => ((parP_mem a r a.P _).1 (getD_mem' hk)).1
set_option maxRecDepth 100000 in
set_option maxHeartbeats 2000000 in
theorem found_one (yb : Nat) (a : Ab) (V : Nat → Value) (left : Int) (dn : Bool) (r i : Nat) (pl pp : Option Addr) (cl cp : Nat) (w : World) (h : RefIn w yb a V left dn) (hr : r < a.R) (hi : i < 4) (hl : NumsAt w pl (missL a r a.D)) (hp : NumsAt w pp (parP a r a.P)) (h1 : (missL a r a.D).length = 1) (h2 : 1 ≤ (parP a r a.P).length) :
    Calls Tryz.prog 104 #[.pointer (some ⟨yb, 0, none⟩), .int .i64 r, .int .i64 i, .slice pl 1 cl, .slice pp (parP a r a.P).length cp] w fun e w' => ∃ g, e = .returned (.slice (some ⟨g, 0, none⟩) 1 1) ∧ w.heap.size ≤ g ∧ w'.rowIs g 5 1 (fun k => .int .u8 (solG a r i k : Nat)) ∧ Below w.heap.size w w' := by
  have hP := h.ok.P2
  have hpl := parP_len a r a.P
  have HHO : Hid (∀ (v : Nat) (g : Nat) (W : World), v < 256 → Below w.heap.size w W → W.rowIs g 5 1 (fun _ => .int .u8 v) → Calls Tryz.prog 118 #[.pointer (some ⟨yb, 0, none⟩), .slice pp (parP a r a.P).length cp, .int .i64 1, .int .i64 r, .int .i64 i, .slice pl 1 cl, .slice (some ⟨g, 0, none⟩) 1 1] W fun e w' => e = .returned (.bool (decide (v = solG a r i 0))) ∧ Below W.heap.size W w') := fun v g W hv hW hrow => by
    have h3 := rhold_any yb a V left dn (parP a r a.P) 1 r i (missL a r a.D) (fun _ => v) pp pl (some ⟨g, 0, none⟩) cp cl 1 1 W (h.below hW) hr hi (hp.below hW) (parP_lt a r) h2 (by omega) (hl.below hW) (fun k hk => ⟨g, 0, rfl, by rw [Nat.zero_add]; exact hrow.cell hk, hv⟩) (by omega) (by omega)
    rw [h1] at h3
    have h4 : rHold a (parP a r a.P) r i (missL a r a.D) (fun _ => v) 1 = decide (v = solG a r i 0) := by
      rw [Bool.eq_iff_iff, hold_one a h.ok r i (fun _ => v) hv h1 h2, decide_eq_true_eq]
    rw [h4] at h3
    exact h3
  have hsl := solG_lt a r i 0
  have HE : Hid (∀ k : Nat, k < 1 → solG a r i k = solG a r i 0) := fun k hk => by
    have hk0 : k = 0 := by omega
    rw [hk0]
  have HRS : Hid (∀ (g : Nat) (W : World), W.rowIs g 5 1 (fun _ => .int .u8 (solG a r i 0 : Nat)) → W.rowIs g 5 1 (fun k => .int .u8 (solG a r i k : Nat))) := fun g W hW => hW.congr (fun j hj => by rw [HE.out j hj])
  clear h hl hp h1 HE
  generalize (parP a r a.P).length = pn at *
  generalize solG a r i 0 = sol at *
  go_enter Tryz.func104, Tryz.ntmps104
  have hmk : ∀ W : World, (Instr.makeSlice 42 (.int .i64 1) (.int .i64 1)).run Tryz.prog W = .ok (.slice (some ⟨W.heap.size, 0, none⟩) 1 1) (W.alloc (.cells (madeCells #[.int .u8 0] 1) 5)) := run_make_row' (P := Tryz.prog) 42 5 (.int .u8 0) 1 Tryz.underlying42 (by kernel_rfl) rfl .i64 .i64 1 (by omega) (by omega)
  have HR0 : Hid ((w.alloc (.cells (madeCells #[.int .u8 0] 1) 5)).rowIs w.heap.size 5 1 (fun _ => .int .u8 0)) := World.rowIs_made w (.int .u8 0) 1 5
  go_wp2_with fail
  clear hmk
  go_loopw [12, 13, 14, 15] (fun c _ _ _ wr => ∃ (k v : Nat), k ≤ sol ∧ c = .int .i64 k ∧ Hid (wr.rowIs w.heap.size 5 1 (fun _ => .int .u8 v)) ∧ Below w.heap.size w wr) (fun c _ _ _ _ => sol + 1 - (intOf c).toNat)
  case atStart => exact ⟨0, 0, by omega, rfl, HR0, (Below.refl _ _).alloc (Nat.le_refl _) _⟩
  case round =>
    clear HR0
    obtain ⟨k, v, hk, rfl, hrow, hbel⟩ := hrel
    have hk256 : (k : Int) < 256 := by omega
    have y0 := hrow.out.cell (i := 0) (by omega)
    have f0 := hrow.out.frozen 0
    have hgl := hrow.out.lt
    have hkm : (k : Int) % 256 = (k : Int) := by omega
    have HR1 : Hid ((wr.setCell ⟨w.heap.size, 0, none⟩ (.int .u8 (k : Nat))).rowIs w.heap.size 5 1 (fun _ => .int .u8 k)) := (hrow.out.set 0 _).congr (fun j hj => by rw [if_pos (by omega)])
    have HB1 : Hid (Below w.heap.size w (wr.setCell ⟨w.heap.size, 0, none⟩ (.int .u8 (k : Nat)))) := hbel.setCell (by simp) _
    clear hrow hbel
    go_wp2_with fail
    clear y0 f0 hgl hkm
    generalize wr.setCell ⟨w.heap.size, 0, none⟩ (.int .u8 (k : Nat)) = w1 at *
    refine (HHO.out k w.heap.size w1 (by omega) HB1.out HR1.out).mono ?_
    rintro e w2 ⟨rfl, k2⟩
    have HR2 : Hid (w2.rowIs w.heap.size 5 1 (fun _ => .int .u8 k)) := HR1.out.of_block (k2.block _ HR1.out.lt)
    have HB2 : Hid (Below w.heap.size w w2) := HB1.out.trans (k2.mono HB1.out.size)
    clear k2 HR1 HB1
    by_cases hks : k = sol
    · rw [decide_eq_true hks]
      have HR3 : Hid (w2.rowIs w.heap.size 5 1 (fun j => .int .u8 (solG a r i j : Nat))) := HRS.out _ _ (by rw [← hks]; exact HR2.out)
      clear hks
      go_wp2_with fail
      go_ret
      exact ⟨_, rfl, Nat.le_refl _, HR3.out, HB2.out⟩
    · rw [decide_eq_false hks]
      have hk2 : k + 1 ≤ sol := by omega
      clear hks
      go_wp2_with fail
      exact ⟨⟨k + 1, k, hk2, by go_num, HR2, HB2.out⟩, by simp [intOf]; omega⟩
def two (x y : Nat) (k : Nat) : Nat := if k = 0 then x else y
set_option maxRecDepth 100000 in
set_option maxHeartbeats 4000000 in
theorem found_two (yb : Nat) (a : Ab) (V : Nat → Value) (left : Int) (dn : Bool) (r i : Nat) (pl pp : Option Addr) (cl cp : Nat) (w : World) (h : RefIn w yb a V left dn) (hr : r < a.R) (hi : i < 4) (hl : NumsAt w pl (missL a r a.D)) (hp : NumsAt w pp (parP a r a.P)) (h1 : (missL a r a.D).length = 2) (h2 : (parP a r a.P).length = 2) :
    Calls Tryz.prog 104 #[.pointer (some ⟨yb, 0, none⟩), .int .i64 r, .int .i64 i, .slice pl 2 cl, .slice pp 2 cp] w fun e w' => ∃ g, e = .returned (.slice (some ⟨g, 0, none⟩) 2 2) ∧ w.heap.size ≤ g ∧ w'.rowIs g 5 2 (fun k => .int .u8 (solG a r i k : Nat)) ∧ Below w.heap.size w w' := by
  have hP := h.ok.P2
  have hD := h.ok.D4
  have hps := parP_two a r h2 hP
  have hm0 : (msum a a.D r a.D).at i < 256 := C4.at_lt (msum_ok h.ok a.D r a.D hD) i
  have hvv : (valC a (a.D + 0) r).at i < 256 := C4.at_lt (valC_ok h.ok _ r) i
  have HBY : ∀ (x y g : Nat) (W : World), x < 256 → y < 256 → W.rowIs g 5 2 (fun k => .int .u8 (two x y k : Nat)) → BytesAt W (some ⟨g, 0, none⟩) 2 (two x y) := fun x y g W hx hy hrow k hk => ⟨g, 0, rfl, by rw [Nat.zero_add]; exact hrow.cell hk, by unfold two; split <;> assumption⟩
  have hom : ∀ k, k < 2 → (missL a r a.D).getD k 0 < 4 := fun k hk => by
    have := ((missL_mem a r a.D _).1 (getD_mem' (show k < (missL a r a.D).length by omega))).1
    omega
  have HHO : Hid (∀ (x g : Nat) (W : World), x < 256 → Below w.heap.size w W → W.rowIs g 5 2 (fun k => .int .u8 (two x ((msum a a.D r a.D).at i ^^^ x) k : Nat)) → Calls Tryz.prog 118 #[.pointer (some ⟨yb, 0, none⟩), .slice pp 2 cp, .int .i64 2, .int .i64 r, .int .i64 i, .slice pl 2 cl, .slice (some ⟨g, 0, none⟩) 2 2] W fun e w' => e = .returned (.bool (decide (x = solG a r i 0))) ∧ Below W.heap.size W w') := fun x g W hx hW hrow => by
    have hxm := Hd.xor_lt _ _ hm0 hx
    have h3 := rhold_any yb a V left dn (parP a r a.P) 2 r i (missL a r a.D) (two x ((msum a a.D r a.D).at i ^^^ x)) pp pl (some ⟨g, 0, none⟩) cp cl 2 2 W (h.below hW) hr hi (hp.below hW) (parP_lt a r) (by omega) (by omega) (hl.below hW) (HBY _ _ g W hx hxm hrow) (by omega) (by omega)
    rw [h1, h2] at h3
    obtain ⟨h5, h6⟩ := hold_two a h.ok r i (two x ((msum a a.D r a.D).at i ^^^ x)) hx hxm h1 h2
    have h4 : rHold a (parP a r a.P) r i (missL a r a.D) (two x ((msum a a.D r a.D).at i ^^^ x)) 2 = decide (x = solG a r i 0) := by
      rw [Bool.eq_iff_iff, h5, decide_eq_true_eq]
      show (x = solG a r i 0 ∧ (msum a a.D r a.D).at i ^^^ x = solG a r i 1) ↔ _
      constructor
      · exact fun hh => hh.1
      · intro hh
        refine ⟨hh, ?_⟩
        rw [← h6, hh, Nat.xor_comm (solG a r i 0), Nat.xor_assoc, Nat.xor_self, Nat.xor_zero]
    rw [h4] at h3
    exact h3
  have HSU : Hid (∀ (x g : Nat) (W : World), x < 256 → Below w.heap.size w W → W.rowIs g 5 2 (fun k => .int .u8 (two x 0 k : Nat)) → Calls Tryz.prog 119 #[.pointer (some ⟨yb, 0, none⟩), .int .i64 0, .int .i64 r, .int .i64 i, .slice pl 2 cl, .slice (some ⟨g, 0, none⟩) 2 2] W fun e w' => e = .returned (.int .u8 (((msum a a.D r a.D).at i ^^^ x) ^^^ (valC a (a.D + 0) r).at i : Nat)) ∧ ∃ q, w' = W.drewN q) := fun x g W hx hW hrow => by
    have h3 := rsum_any yb a V left dn 0 r i (missL a r a.D) (two x 0) pl (some ⟨g, 0, none⟩) cl 2 2 W (h.below hW) hr hi (hl.below hW) (HBY _ _ g W hx (by omega) hrow) (by omega) (by omega)
    rw [h1] at h3
    have h4 := rSum_gap a h.ok 0 r i (two x 0) a.D (Nat.le_refl _)
    rw [h1] at h4
    have h5 : gSum 0 (missL a r a.D) (two x 0) 2 = x := by
      show (0 ^^^ Hd.mul x 1) ^^^ Hd.mul 0 1 = x
      rw [Nat.zero_xor, Hd.mul_one x hx, Hd.zero_mul, Nat.xor_zero]
    rw [h5, Nat.xor_comm] at h4
    have h6 := xor_left h4
    have h7 : rSum a 0 r i (missL a r a.D) (two x 0) a.D = ((msum a a.D r a.D).at i ^^^ x) ^^^ (valC a (a.D + 0) r).at i := by
      have := xor_left (show rSum a 0 r i (missL a r a.D) (two x 0) a.D ^^^ (valC a (a.D + 0) r).at i = (msum a (a.D + 0) r a.D).at i ^^^ x by rw [Nat.xor_comm]; exact h4)
      rw [this, Nat.xor_comm]
      rfl
    rw [h7] at h3
    exact h3
  have HVA : Hid (∀ W, Below w.heap.size w W → Calls Tryz.prog 120 #[.pointer (some ⟨yb, 0, none⟩), .int .i64 0, .int .i64 r, .int .i64 i] W fun e w' => e = .returned (.int .u8 ((valC a (a.D + 0) r).at i : Nat)) ∧ Below W.heap.size W w') := fun W hW => rvalue_any yb a V left dn 0 r i W (h.below hW) h.ok.P1 hr hi
  obtain ⟨pb, po, rfl, hpc⟩ := hp 0 (by omega)
  obtain ⟨lb, lo, rfl, hlc⟩ := hl 1 (by omega)
  rw [show (parP a r a.P).getD 0 0 = 0 by rw [hps]; rfl] at hpc
  have ho4 := hom 1 (by omega)
  have HDV : Hid (∀ (x : Nat) (W : World), x < 256 → Calls Tryz.prog 22 #[.int .u8 x, .int .u8 1] W fun e w' => e = .returned (.int .u8 (x : Nat)) ∧ w' = W) := fun x W hx => by
    have h3 := rdiv_any x 1 W hx (by omega) (by omega)
    have h4 := Hd.mul_div x 1 hx (by omega) (by omega)
    rw [Hd.mul_one x hx] at h4
    rw [h4] at h3
    exact h3
  have HTI : Hid (∀ W, Calls Tryz.prog 109 #[.int .i64 0, .int .i64 ((missL a r a.D).getD 1 0 : Nat)] W fun e w' => e = .returned (.int .u8 1) ∧ w' = W) := fun W => rtimes_any 0 _ W ho4
  have HCE : Hid (∀ W, Below w.heap.size w W → W.cell? ⟨pb, po, none⟩ = some (.int .i64 0) ∧ W.cell? ⟨lb, lo + 1, none⟩ = some (.int .i64 ((missL a r a.D).getD 1 0 : Nat))) := fun W hW => ⟨below_cell' hW hpc, below_cell' hW hlc⟩
  have hsl := solG_lt a r i 0
  have HS01 : Hid (solG a r i 0 ^^^ solG a r i 1 = (msum a a.D r a.D).at i) := (hold_two a h.ok r i (two 0 0) (by decide) (by decide) h1 h2).2
  have HRS : Hid (∀ (g : Nat) (W : World), W.rowIs g 5 2 (fun k => .int .u8 (two (solG a r i 0) ((msum a a.D r a.D).at i ^^^ solG a r i 0) k : Nat)) → W.rowIs g 5 2 (fun k => .int .u8 (solG a r i k : Nat))) := fun g W hW => hW.congr (fun j hj => by
    have : j = 0 ∨ j = 1 := by omega
    rcases this with rfl | rfl
    · rfl
    · show Value.int .u8 (((msum a a.D r a.D).at i ^^^ solG a r i 0 : Nat) : Int) = _
      rw [← HS01.out, Nat.xor_comm (solG a r i 0), Nat.xor_assoc, Nat.xor_self, Nat.xor_zero])
  clear h hl hp h1 h2 hpc hlc hps HBY hom HS01
  generalize (missL a r a.D).getD 1 0 = oo at *
  generalize (msum a a.D r a.D).at i = m0 at *
  generalize (valC a (a.D + 0) r).at i = vv at *
  generalize solG a r i 0 = sol at *
  have hmk : ∀ W : World, (Instr.makeSlice 42 (.int .i64 2) (.int .i64 2)).run Tryz.prog W = .ok (.slice (some ⟨W.heap.size, 0, none⟩) 2 2) (W.alloc (.cells (madeCells #[.int .u8 0] 2) 5)) := run_make_row' (P := Tryz.prog) 42 5 (.int .u8 0) 1 Tryz.underlying42 (by kernel_rfl) rfl .i64 .i64 2 (by omega) (by omega)
  have HR0 : Hid ((w.alloc (.cells (madeCells #[.int .u8 0] 2) 5)).rowIs w.heap.size 5 2 (fun k => .int .u8 (two 0 0 k : Nat))) := (World.rowIs_made w (.int .u8 0) 2 5).congr (fun j _ => by unfold two; split <;> rfl)
  go_enter Tryz.func104, Tryz.ntmps104
  go_wp2_with fail
  clear hmk
  go_loopw [12, 13, 14, 15] (fun c _ _ _ wr => ∃ (k x y : Nat), k ≤ sol ∧ c = .int .i64 k ∧ Hid (wr.rowIs w.heap.size 5 2 (fun j => .int .u8 (two x y j : Nat))) ∧ Below w.heap.size w wr) (fun c _ _ _ _ => sol + 1 - (intOf c).toNat)
  case atStart => exact ⟨0, 0, 0, by omega, rfl, HR0, (Below.refl _ _).alloc (Nat.le_refl _) _⟩
  case round =>
    clear HR0
    obtain ⟨k, x, y, hk, rfl, hrow, hbel⟩ := hrel
    have hk256 : (k : Int) < 256 := by omega
    have y0 := hrow.out.cell (i := 0) (by omega)
    have y1 := hrow.out.cell (i := 1) (by omega)
    have f0 := hrow.out.frozen 0
    have f1 := hrow.out.frozen 1
    have hgl := hrow.out.lt
    have hkm : (k : Int) % 256 = (k : Int) := by omega
    obtain ⟨c0, c1⟩ := HCE.out _ hbel
    have hpb := block_lt_of_cell c0
    have hlb := block_lt_of_cell c1
    simp only at hpb hlb
    have HR1 : Hid (((wr.setCell ⟨w.heap.size, 0, none⟩ (.int .u8 (k : Nat))).setCell ⟨w.heap.size, 1, none⟩ (.int .u8 0)).rowIs w.heap.size 5 2 (fun j => .int .u8 (two k 0 j : Nat))) := ((hrow.out.set 0 _).set 1 _).congr (fun j hj => by
      have : j = 0 ∨ j = 1 := by omega
      rcases this with rfl | rfl <;> rfl)
    have HB1 : Hid (Below w.heap.size w ((wr.setCell ⟨w.heap.size, 0, none⟩ (.int .u8 (k : Nat))).setCell ⟨w.heap.size, 1, none⟩ (.int .u8 0))) := (hbel.setCell (by simp) _).setCell (by simp) _
    have hne1 : pb ≠ w.heap.size := by
      intro e
      have hh := HCE.out w (Below.refl _ _)
      have := block_lt_of_cell hh.1
      simp only at this
      omega
    have hne2 : lb ≠ w.heap.size := by
      intro e
      have hh := HCE.out w (Below.refl _ _)
      have := block_lt_of_cell hh.2
      simp only at this
      omega
    clear hrow hbel
    go_wp2_with fail
    clear y0 y1 f0 f1 hgl hkm c0 c1 hpb hlb
    generalize (wr.setCell ⟨w.heap.size, 0, none⟩ (.int .u8 (k : Nat))).setCell ⟨w.heap.size, 1, none⟩ (.int .u8 0) = w1 at *
    refine (HSU.out k w.heap.size w1 (by omega) HB1.out HR1.out).mono ?_
    rintro e w2 ⟨rfl, q, rfl⟩
    have HR2 : Hid ((w1.drewN q).rowIs w.heap.size 5 2 (fun j => .int .u8 (two k 0 j : Nat))) := HR1.out.of_block rfl
    have HB2 : Hid (Below w.heap.size w (w1.drewN q)) := below_drewN HB1.out q
    clear HR1 HB1
    generalize w1.drewN q = w2 at *
    obtain ⟨c0, c1⟩ := HCE.out _ HB2.out
    have hpb := block_lt_of_cell c0
    simp only at hpb
    go_wp2_with fail
    refine (HVA.out w2 HB2.out).mono ?_
    rintro e w3 ⟨rfl, k3⟩
    have HR3 : Hid (w3.rowIs w.heap.size 5 2 (fun j => .int .u8 (two k 0 j : Nat))) := HR2.out.of_block (k3.block _ HR2.out.lt)
    have HB3 : Hid (Below w.heap.size w w3) := HB2.out.trans (k3.mono HB2.out.size)
    clear k3 HR2 HB2 c0 c1 hpb
    obtain ⟨c0, c1⟩ := HCE.out _ HB3.out
    have hpb := block_lt_of_cell c0
    have hlb := block_lt_of_cell c1
    simp only at hpb hlb
    have y0 := HR3.out.cell (i := 0) (by omega)
    have y1 := HR3.out.cell (i := 1) (by omega)
    have f0 := HR3.out.frozen 0
    have f1 := HR3.out.frozen 1
    have hgl := HR3.out.lt
    have hmk2 : m0 ^^^ k < 256 := Hd.xor_lt _ _ hm0 (by omega)
    have hxx := u8_xor_nat ((m0 ^^^ k) ^^^ vv) vv (Hd.xor_lt _ _ hmk2 hvv) hvv
    have hxe : ((m0 ^^^ k) ^^^ vv) ^^^ vv = m0 ^^^ k := by rw [Nat.xor_assoc, Nat.xor_self, Nat.xor_zero]
    rw [hxe] at hxx
    clear hxe
    have HR4 : Hid ((w3.setCell ⟨w.heap.size, 1, none⟩ (.int .u8 (m0 ^^^ k : Nat))).rowIs w.heap.size 5 2 (fun j => .int .u8 (two k (m0 ^^^ k) j : Nat))) := (HR3.out.set 1 _).congr (fun j hj => by
      have : j = 0 ∨ j = 1 := by omega
      rcases this with rfl | rfl <;> rfl)
    have HB4 : Hid (Below w.heap.size w (w3.setCell ⟨w.heap.size, 1, none⟩ (.int .u8 (m0 ^^^ k : Nat)))) := HB3.out.setCell (by simp) _
    have HDV1 : Hid (∀ W, Calls Tryz.prog 22 #[.int .u8 (m0 ^^^ k : Nat), .int .u8 1] W fun e w' => e = .returned (.int .u8 (m0 ^^^ k : Nat)) ∧ w' = W) := fun W => HDV.out _ W hmk2
    have HHO1 : Hid (∀ (W : World), Below w.heap.size w W → W.rowIs w.heap.size 5 2 (fun j => .int .u8 (two k (m0 ^^^ k) j : Nat)) → Calls Tryz.prog 118 #[.pointer (some ⟨yb, 0, none⟩), .slice (some ⟨pb, po, none⟩) 2 cp, .int .i64 2, .int .i64 r, .int .i64 i, .slice (some ⟨lb, lo, none⟩) 2 cl, .slice (some ⟨w.heap.size, 0, none⟩) 2 2] W fun e w' => e = .returned (.bool (decide (k = sol))) ∧ Below W.heap.size W w') := fun W hW hrow => HHO.out k w.heap.size W (by omega) hW hrow
    have HRS1 : Hid (∀ (W : World), k = sol → W.rowIs w.heap.size 5 2 (fun j => .int .u8 (two k (m0 ^^^ k) j : Nat)) → W.rowIs w.heap.size 5 2 (fun j => .int .u8 (solG a r i j : Nat))) := fun W hks hW => HRS.out _ _ (by rw [← hks]; exact hW)
    generalize m0 ^^^ k = mk at *
    go_wp2_with fail
    go_region_with (first
      | (go_at_call 109; go_must (refine (HTI.out _).mono ?_); rintro e W ⟨rfl, rfl⟩)
      | (go_at_call 22; go_must (refine (HDV1.out _).mono ?_); rintro e W ⟨rfl, rfl⟩))
    all_goals
      go_wp2_with fail
      refine (HHO1.out _ (by first | exact HB4.out | exact HB4.out.drew) (by first | exact HR4.out | exact World.rowIs.of_block HR4.out rfl)).mono ?_
      rintro e w5 ⟨rfl, k5⟩
      have K5 : Below (w3.setCell ⟨w.heap.size, 1, none⟩ (.int .u8 (mk : Nat))).heap.size (w3.setCell ⟨w.heap.size, 1, none⟩ (.int .u8 (mk : Nat))) w5 := below_from k5 rfl rfl rfl rfl
      have HR5 : Hid (w5.rowIs w.heap.size 5 2 (fun j => .int .u8 (two k mk j : Nat))) := HR4.out.of_block (K5.block _ HR4.out.lt)
      have HB5 : Hid (Below w.heap.size w w5) := HB4.out.trans (K5.mono HB4.out.size)
      clear k5 K5
      by_cases hks : k = sol
      · rw [decide_eq_true hks]
        have HR6 : Hid (w5.rowIs w.heap.size 5 2 (fun j => .int .u8 (solG a r i j : Nat))) := HRS1.out _ hks HR5.out
        clear hks
        go_wp2_with fail
        go_ret
        exact ⟨_, rfl, Nat.le_refl _, HR6.out, HB5.out⟩
      · rw [decide_eq_false hks]
        have hk2 : k + 1 ≤ sol := by omega
        clear hks
        go_wp2_with fail
        exact ⟨⟨k + 1, k, mk, hk2, by go_num, HR5, HB5.out⟩, by simp [intOf]; omega⟩
end Go.Proofs.YtfpoiikhhjdpdaaGreat
