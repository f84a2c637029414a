/- What a data cell that is not available must have. -/
import Derived.Test.YtfpoiikhhjdpdabSums
namespace Go.Proofs.Ytfpoiikhhjdpdab
open Go.RowKit
set_option linter.unusedVariables false
attribute [local go_sem ↓] Go.wp_at_zero Go.wp_at_succ
def solve1 (s : Ab) (c r d : Nat) : C4 := (msum s d r s.D).scale (Hd.div 1 (wgt s d c))
def times2 (s : Ab) (c o d e : Nat) : Nat := Hd.mul (wgt s e o) (wgt s d c) ^^^ Hd.mul (wgt s d o) (wgt s e c)
def solve2 (s : Ab) (c o r d e : Nat) : C4 := (((msum s d r s.D).scale (wgt s e o)).xor ((msum s e r s.D).scale (wgt s d o))).scale (Hd.div 1 (times2 s c o d e))
theorem solve1_ok (s : Ab) (c r d : Nat) : (solve1 s c r d).ok := C4.scale_ok (Hd.div_lt _ _ (by omega))
theorem solve2_ok (s : Ab) (c o r d e : Nat) : (solve2 s c o r d e).ok := C4.scale_ok (Hd.div_lt _ _ (by omega))
set_option maxRecDepth 100000 in
set_option maxHeartbeats 2000000 in
theorem solveOne_any (hb : Nat) (s : St) (c r d : Nat) (w : World) (h : HoardIn w hb s) (hc : c < 4) (hd : d < 6) (hr : r < 6) :
    Calls Try.prog 70 #[.pointer (some ⟨hb, 0, none⟩), .int .i64 c, .int .i64 r, .int .i64 d] w fun e w' => e = .returned (solve1 s c r d).val ∧ Below w.heap.size w w' := by
  have HH : Hid (HoardIn w hb s) := h
  have hlt0 := h.row.lt
  have hD := h.ok.D4
  have HOK : Hid (s.ok) := h.ok
  have HA : Hid (∀ o, HoardIn (w.alloc o) hb s) := fun o => h.below ((Below.refl _ _).alloc (Nat.le_refl _) o)
  have hwl := wgt_lt s d c hc
  clear h
  go_enter Try.func70, Try.ntmps70
  go_wp2_with fail
  refine (gap_any hb s d r _ (HA.out _) hd hr).mono ?_
  rintro e w1 ⟨rfl, k1⟩
  have K1 : Below w.heap.size w w1 := ((Below.refl _ _).alloc (Nat.le_refl _) _).trans (k1.mono (by simp))
  have R1 : Hid (BoxAt w1 w.heap.size C4.zero) := (BoxAt.new0 w _ rfl).below k1
  have hs1 : w.heap.size < w1.heap.size := R1.out.lt
  clear k1
  have HMO : Hid ((msum s d r s.D).ok) := msum_ok HOK.out d r s.D hD
  have HSV : Hid (solve1 s c r d = (msum s d r s.D).scale (Hd.div 1 (wgt s d c))) := rfl
  have HW : Hid (∀ W : World, HoardIn W hb s → Calls Try.prog 77 #[.pointer (some ⟨hb, 0, none⟩), .int .i64 d, .int .i64 c] W fun e w' => e = .returned (.int .u8 (wgt s d c : Nat)) ∧ w' = W) := fun W e => weight_any hb s d c W e hc
  generalize msum s d r s.D = S at *
  generalize wgt s d c = wg at *
  unfold C4.val
  have H2 := HH.out.below (K1.alloc K1.size (.cells #[.int .u8 S.b0, .int .u8 S.b1, .int .u8 S.b2, .int .u8 S.b3] 48))
  have hdl := Hd.div_lt 1 wg (by omega)
  have HDV : Hid (∀ W, Calls Try.prog 86 #[.int .u8 1, .int .u8 wg] W fun e w' => e = .returned (.int .u8 (Hd.div 1 wg : Nat)) ∧ w' = W) := fun W => fdiv_any 1 wg W (by omega) hwl
  generalize Hd.div 1 wg = iv at *
  have HSC : Hid (∀ W, Calls Try.prog 78 #[.int .u8 iv, .agg #[.int .u8 S.b0, .int .u8 S.b1, .int .u8 S.b2, .int .u8 S.b3]] W fun e w' => e = .returned (.agg #[.int .u8 (S.scale iv).b0, .int .u8 (S.scale iv).b1, .int .u8 (S.scale iv).b2, .int .u8 (S.scale iv).b3]) ∧ Below W.heap.size W w') := fun W => Scale_any iv S W hdl HMO.out
  generalize S.scale iv = Z at *
  have B2 : Hid (BoxAt (w1.alloc (.cells #[.int .u8 S.b0, .int .u8 S.b1, .int .u8 S.b2, .int .u8 S.b3] 48)) w1.heap.size S) := BoxAt.new _ _ _ rfl
  have R2 : Hid (BoxAt (w1.alloc (.cells #[.int .u8 S.b0, .int .u8 S.b1, .int .u8 S.b2, .int .u8 S.b3] 48)) w.heap.size C4.zero) := R1.out.alloc _
  have K2 : Below w.heap.size w (w1.alloc (.cells #[.int .u8 S.b0, .int .u8 S.b1, .int .u8 S.b2, .int .u8 S.b3] 48)) := K1.alloc K1.size _
  go_wp2_with fail
  generalize w1.alloc (.cells #[.int .u8 S.b0, .int .u8 S.b1, .int .u8 S.b2, .int .u8 S.b3] 48) = w2 at *
  refine (HW.out _ H2).mono ?_
  rintro e w3 ⟨rfl, rfl⟩
  obtain ⟨b0, b1, b2, b3⟩ := B2.out.cells
  clear hwl hdl
  go_wp2_with fail
  go_region_with (first
    | (go_at_call 86; go_must (refine (HDV.out _).mono ?_); rintro e W ⟨rfl, rfl⟩)
    | (go_at_call 78; go_must (refine (HSC.out _).mono ?_); rintro e w4 ⟨rfl, k4⟩; have K4 : Below w3.heap.size w3 w4 := below_from k4 rfl rfl rfl rfl; obtain ⟨e0, e1, e2, e3⟩ := (R2.out.below K4).cells; obtain ⟨q0, q1, q2, q3⟩ := (R2.out.below K4).frz))
  all_goals
    go_wp2_with fail
    refine bodyPost_ret (v := Z.val) (by simp [results, Try.results70, go_sem, e0, e1, e2, e3, C4.val]) rfl ⟨?_, ?_⟩
    · rw [HSV.out]
    · exact below_set4 (K2.trans (K4.mono K2.size)) (Nat.le_refl _) _ _ _ _
set_option maxRecDepth 100000 in
set_option maxHeartbeats 4000000 in
theorem solveTwo_any (hb : Nat) (s : St) (c o r d e' : Nat) (w : World) (h : HoardIn w hb s) (hc : c < 4) (ho : o < 4) (hd : d < 6) (he : e' < 6) (hr : r < 6) :
    Calls Try.prog 71 #[.pointer (some ⟨hb, 0, none⟩), .int .i64 c, .int .i64 o, .int .i64 r, .int .i64 d, .int .i64 e'] w fun e w' => e = .returned (solve2 s c o r d e').val ∧ Below w.heap.size w w' := by
  have HH : Hid (HoardIn w hb s) := h
  have hlt0 := h.row.lt
  have hD := h.ok.D4
  have HSV : Hid (solve2 s c o r d e' = (((msum s d r s.D).scale (wgt s e' o)).xor ((msum s e' r s.D).scale (wgt s d o))).scale (Hd.div 1 (Hd.mul (wgt s e' o) (wgt s d c) ^^^ Hd.mul (wgt s d o) (wgt s e' c)))) := rfl
  have HA : Hid (∀ o, HoardIn (w.alloc o) hb s) := fun o => h.below ((Below.refl _ _).alloc (Nat.le_refl _) o)
  have W1 : Hid (∀ W : World, HoardIn W hb s → Calls Try.prog 77 #[.pointer (some ⟨hb, 0, none⟩), .int .i64 e', .int .i64 o] W fun e w' => e = .returned (.int .u8 (wgt s e' o : Nat)) ∧ w' = W) := fun W e => weight_any hb s e' o W e ho
  have W2 : Hid (∀ W : World, HoardIn W hb s → Calls Try.prog 77 #[.pointer (some ⟨hb, 0, none⟩), .int .i64 d, .int .i64 o] W fun e w' => e = .returned (.int .u8 (wgt s d o : Nat)) ∧ w' = W) := fun W e => weight_any hb s d o W e ho
  have W3 : Hid (∀ W : World, HoardIn W hb s → Calls Try.prog 77 #[.pointer (some ⟨hb, 0, none⟩), .int .i64 d, .int .i64 c] W fun e w' => e = .returned (.int .u8 (wgt s d c : Nat)) ∧ w' = W) := fun W e => weight_any hb s d c W e hc
  have W4 : Hid (∀ W : World, HoardIn W hb s → Calls Try.prog 77 #[.pointer (some ⟨hb, 0, none⟩), .int .i64 e', .int .i64 c] W fun e w' => e = .returned (.int .u8 (wgt s e' c : Nat)) ∧ w' = W) := fun W e => weight_any hb s e' c W e hc
  have M1 : Hid (∀ W : World, HoardIn W hb s → Calls Try.prog 80 #[.pointer (some ⟨hb, 0, none⟩), .int .i64 d, .int .i64 r] W fun e w' => e = .returned (msum s d r s.D).val ∧ Below W.heap.size W w') := fun W e => gap_any hb s d r W e hd hr
  have M2 : Hid (∀ W : World, HoardIn W hb s → Calls Try.prog 80 #[.pointer (some ⟨hb, 0, none⟩), .int .i64 e', .int .i64 r] W fun e w' => e = .returned (msum s e' r s.D).val ∧ Below W.heap.size W w') := fun W e => gap_any hb s e' r W e he hr
  have l1 := wgt_lt s e' o ho
  have l2 := wgt_lt s d o ho
  have l3 := wgt_lt s d c hc
  have l4 := wgt_lt s e' c hc
  have o1 : Hid ((msum s d r s.D).ok) := msum_ok h.ok d r s.D hD
  have o2 : Hid ((msum s e' r s.D).ok) := msum_ok h.ok e' r s.D hD
  clear h
  generalize wgt s e' o = a at *
  generalize wgt s d o = b at *
  generalize wgt s d c = x at *
  generalize wgt s e' c = y at *
  generalize msum s d r s.D = S at *
  generalize msum s e' r s.D = T at *
  have SC1 : Hid (∀ W, Calls Try.prog 78 #[.int .u8 a, S.val] W fun e w' => e = .returned (S.scale a).val ∧ Below W.heap.size W w') := fun W => Scale_any a S W l1 o1.out
  have SC2 : Hid (∀ W, Calls Try.prog 78 #[.int .u8 b, T.val] W fun e w' => e = .returned (T.scale b).val ∧ Below W.heap.size W w') := fun W => Scale_any b T W l2 o2.out
  have o3 : Hid ((S.scale a).ok) := C4.scale_ok l1
  have o4 : Hid ((T.scale b).ok) := C4.scale_ok l2
  have MU1 : Hid (∀ W, Calls Try.prog 67 #[.int .u8 a, .int .u8 x] W fun e w' => e = .returned (.int .u8 (Hd.mul a x : Nat)) ∧ w' = W) := fun W => fmul_any a x W l1 l3
  have MU2 : Hid (∀ W, Calls Try.prog 67 #[.int .u8 b, .int .u8 y] W fun e w' => e = .returned (.int .u8 (Hd.mul b y : Nat)) ∧ w' = W) := fun W => fmul_any b y W l2 l4
  have m1 := Hd.mul_lt a x l1
  have m2 := Hd.mul_lt b y l2
  generalize Hd.mul a x = p at *
  generalize Hd.mul b y = q at *
  have hxor := u8_xor_nat p q m1 m2
  have hxl := Hd.xor_lt p q m1 m2
  generalize p ^^^ q = t at *
  have DV : Hid (∀ W, Calls Try.prog 86 #[.int .u8 1, .int .u8 t] W fun e w' => e = .returned (.int .u8 (Hd.div 1 t : Nat)) ∧ w' = W) := fun W => fdiv_any 1 t W (by omega) hxl
  have hdl := Hd.div_lt 1 t (by omega)
  generalize Hd.div 1 t = iv at *
  generalize S.scale a = X at *
  generalize T.scale b = Y at *
  have AD : Hid (∀ W, Calls Try.prog 75 #[X.val, Y.val] W fun e w' => e = .returned (X.xor Y).val ∧ Below W.heap.size W w') := fun W => Add_any X Y W o3.out o4.out
  have o5 : Hid ((X.xor Y).ok) := C4.xor_ok o3.out o4.out
  generalize X.xor Y = V at *
  have SC3 : Hid (∀ W, Calls Try.prog 78 #[.int .u8 iv, V.val] W fun e w' => e = .returned (V.scale iv).val ∧ Below W.heap.size W w') := fun W => Scale_any iv V W hdl o5.out
  generalize V.scale iv = Z at *
  unfold C4.val at M1 M2 SC1 SC2 SC3 AD
  clear l1 l2 l3 l4
  go_enter Try.func71, Try.ntmps71
  go_wp2_with fail
  refine (W1.out _ (HA.out _)).mono ?_
  rintro e w1 ⟨rfl, rfl⟩
  go_wp2_with fail
  refine (W2.out _ (HA.out _)).mono ?_
  rintro e w1 ⟨rfl, rfl⟩
  have K0 : Below w.heap.size w (w.alloc (.cells #[.int .u8 0, .int .u8 0, .int .u8 0, .int .u8 0] 48)) := (Below.refl _ _).alloc (Nat.le_refl _) _
  have R0 : Hid (BoxAt (w.alloc (.cells #[.int .u8 0, .int .u8 0, .int .u8 0, .int .u8 0] 48)) w.heap.size C4.zero) := BoxAt.new0 w _ rfl
  have H0 := HA.out (.cells #[.int .u8 0, .int .u8 0, .int .u8 0, .int .u8 0] 48)
  generalize w.alloc (.cells #[.int .u8 0, .int .u8 0, .int .u8 0, .int .u8 0] 48) = w0 at *
  have hlt1 := R0.out.lt
  go_wp2_with fail
  refine (M1.out _ H0).mono ?_
  rintro e w1 ⟨rfl, k1⟩
  have K1 : Below w.heap.size w w1 := K0.trans (k1.mono K0.size)
  have R1 : Hid (BoxAt w1 w.heap.size C4.zero) := R0.out.below k1
  clear k1 H0 R0 K0 hlt1
  go_wp2_with fail
  refine (SC1.out _).mono ?_
  rintro e w2 ⟨rfl, k2⟩
  have K2 : Below w.heap.size w (w2.alloc (.cells #[.int .u8 X.b0, .int .u8 X.b1, .int .u8 X.b2, .int .u8 X.b3] 48)) := by
    have k3 := K1.trans (k2.mono K1.size)
    exact k3.alloc k3.size _
  have R2 : Hid (BoxAt (w2.alloc (.cells #[.int .u8 X.b0, .int .u8 X.b1, .int .u8 X.b2, .int .u8 X.b3] 48)) w.heap.size C4.zero) := (R1.out.below k2).alloc _
  have X2 : Hid (BoxAt (w2.alloc (.cells #[.int .u8 X.b0, .int .u8 X.b1, .int .u8 X.b2, .int .u8 X.b3] 48)) w2.heap.size X) := BoxAt.new _ _ _ rfl
  have H2 := HH.out.below K2
  clear k2 K1 R1
  go_wp2_with fail
  generalize w2.alloc (.cells #[.int .u8 X.b0, .int .u8 X.b1, .int .u8 X.b2, .int .u8 X.b3] 48) = w3 at *
  generalize w2.heap.size = xb at *
  refine (M2.out _ H2).mono ?_
  rintro e w4 ⟨rfl, k4⟩
  have K4 : Below w.heap.size w w4 := K2.trans (k4.mono K2.size)
  have R4 : Hid (BoxAt w4 w.heap.size C4.zero) := R2.out.below k4
  have X4 : Hid (BoxAt w4 xb X) := X2.out.below k4
  clear k4 H2 R2 X2 K2
  go_wp2_with fail
  refine (SC2.out _).mono ?_
  rintro e w5 ⟨rfl, k5⟩
  have K5 : Below w.heap.size w (w5.alloc (.cells #[.int .u8 Y.b0, .int .u8 Y.b1, .int .u8 Y.b2, .int .u8 Y.b3] 48)) := by
    have k3 := K4.trans (k5.mono K4.size)
    exact k3.alloc k3.size _
  have R5 : Hid (BoxAt (w5.alloc (.cells #[.int .u8 Y.b0, .int .u8 Y.b1, .int .u8 Y.b2, .int .u8 Y.b3] 48)) w.heap.size C4.zero) := (R4.out.below k5).alloc _
  have X5 : Hid (BoxAt (w5.alloc (.cells #[.int .u8 Y.b0, .int .u8 Y.b1, .int .u8 Y.b2, .int .u8 Y.b3] 48)) xb X) := (X4.out.below k5).alloc _
  have Y5 : Hid (BoxAt (w5.alloc (.cells #[.int .u8 Y.b0, .int .u8 Y.b1, .int .u8 Y.b2, .int .u8 Y.b3] 48)) w5.heap.size Y) := BoxAt.new _ _ _ rfl
  have H5 := HH.out.below K5
  clear k5 K4 R4 X4
  go_wp2_with fail
  generalize w5.alloc (.cells #[.int .u8 Y.b0, .int .u8 Y.b1, .int .u8 Y.b2, .int .u8 Y.b3] 48) = w6 at *
  generalize w5.heap.size = yb at *
  refine (W3.out _ H5).mono ?_
  rintro e W ⟨rfl, rfl⟩
  go_wp2_with fail
  refine (MU1.out _).mono ?_
  rintro e W ⟨rfl, rfl⟩
  go_wp2_with fail
  refine (W4.out _ H5).mono ?_
  rintro e W ⟨rfl, rfl⟩
  go_wp2_with fail
  refine (MU2.out _).mono ?_
  rintro e w7 ⟨rfl, rfl⟩
  obtain ⟨b0, b1, b2, b3⟩ := X5.out.cells
  obtain ⟨c0, c1, c2, c3⟩ := Y5.out.cells
  clear m1 m2 hdl
  go_wp2_with fail
  go_region_with (first
    | (go_at_call 86; go_must (refine (DV.out _).mono ?_); rintro e W ⟨rfl, rfl⟩)
    | (go_at_call 75; go_must (refine (AD.out _).mono ?_); rintro e w8 ⟨rfl, k8⟩; have K8 : Below w7.heap.size w7 w8 := below_from k8 rfl rfl rfl rfl)
    | (go_at_call 78; go_must (refine (SC3.out _).mono ?_); rintro e w9 ⟨rfl, k9⟩; have K9 : Below w7.heap.size w7 w9 := K8.trans ((below_from k9 rfl rfl rfl rfl : Below w8.heap.size w8 w9).mono K8.size); obtain ⟨e0, e1, e2, e3⟩ := (R5.out.below K9).cells; obtain ⟨q0, q1, q2, q3⟩ := (R5.out.below K9).frz))
  all_goals
    go_wp2_with fail
    refine bodyPost_ret (v := Z.val) (by simp [results, Try.results71, go_sem, e0, e1, e2, e3, C4.val]) rfl ⟨?_, ?_⟩
    · rw [HSV.out]
    · exact below_set4 (K5.trans (K9.mono K5.size)) (Nat.le_refl _) _ _ _ _
end Go.Proofs.Ytfpoiikhhjdpdab
