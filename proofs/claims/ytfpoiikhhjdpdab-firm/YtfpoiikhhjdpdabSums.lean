/- What the missing cells of a row add up to in an equation. -/
import Derived.Test.YtfpoiikhhjdpdabValues
namespace Go.Proofs.Ytfpoiikhhjdpdab
open Go.RowKit
set_option linter.unusedVariables false
attribute [local go_sem ↓] Go.wp_at_zero Go.wp_at_succ
/-- A world that differs in what was drawn alone. -/
theorem below_from {w W w2 : World} (k : Below W.heap.size W w2) (h : W.heap = w.heap) (ho : W.os = w.os) (ht : W.tape = w.tape) (hp : W.output = w.output) : Below w.heap.size w w2 :=
  ⟨k.os.trans ho, k.tape.trans ht, k.output.trans hp, by have := k.size; rwa [h] at this, fun i hi => by rw [k.block i (by rw [h]; exact hi), h]⟩
theorem HoardIn.heap {w W : World} {hb : Nat} {s : St} (h : HoardIn w hb s) (e : W.heap = w.heap) : HoardIn W hb s := h.of_block (fun k _ => by rw [e])
def msum (s : Ab) (d r : Nat) : Nat → C4
  | 0 => valC s d r
  | k + 1 => if avB s k r then (msum s d r k).xor ((s.cell k r).scale (wgt s d k)) else msum s d r k
theorem wgt_lt (s : Ab) (d c : Nat) (hc : c < 4) : wgt s d c < 256 := by
  unfold wgt
  split
  · omega
  · exact Nat.lt_of_le_of_lt (Nat.pow_le_pow_right (by omega) (by omega) : 2 ^ c ≤ 2 ^ 4) (by omega)
theorem msum_ok {s : Ab} (h : s.ok) (d r k : Nat) (hk : k ≤ 4) : (msum s d r k).ok := by
  induction k with
  | zero => exact valC_ok h d r
  | succ k ih =>
    simp only [msum]
    split
    · exact C4.xor_ok (ih (by omega)) (C4.scale_ok (wgt_lt s d k (by omega)))
    · exact ih (by omega)
set_option maxRecDepth 100000 in
set_option maxHeartbeats 2000000 in
theorem gap_any (hb : Nat) (s : St) (d r : Nat) (w : World) (h : HoardIn w hb s) (hd : d < 6) (hr : r < 6) :
    Calls Try.prog 80 #[.pointer (some ⟨hb, 0, none⟩), .int .i64 d, .int .i64 r] w fun e w' => e = .returned (msum s d r s.D).val ∧ Below w.heap.size w w' := by
  have hri : (r : Int) < 6 := by omega
  have hdi : (d : Int) < 6 := by omega
  have HH : Hid (HoardIn w hb s) := h
  have hlt0 := h.row.lt
  have hD := h.ok.D4
  have HOK : Hid (s.ok) := h.ok
  have HA : Hid (∀ o, HoardIn (w.alloc o) hb s) := fun o => h.below ((Below.refl _ _).alloc (Nat.le_refl _) o)
  clear h
  go_enter Try.func80, Try.ntmps80
  go_wp2_with fail
  refine (value_any hb s d r _ (HA.out _) hd hr).mono ?_
  rintro e w1 ⟨rfl, k1⟩
  have K1 : Below w.heap.size w w1 := ((Below.refl _ _).alloc (Nat.le_refl _) _).trans (k1.mono (by simp))
  have R1 : Hid (BoxAt w1 w.heap.size C4.zero) := (BoxAt.new0 w _ rfl).below k1
  have hs1 : w.heap.size < w1.heap.size := R1.out.lt
  clear k1
  unfold C4.val
  go_wp2_with fail
  go_loopw [8] (fun c wr => ∃ (k : Nat) (S : C4), k ≤ s.D ∧ c = .int .i64 k ∧ Hid (S = msum s d r k) ∧ Hid (BoxAt wr w1.heap.size S) ∧ Hid (BoxAt wr w.heap.size C4.zero) ∧ Below w.heap.size w wr) (fun c _ => s.D - (intOf c).toNat)
  case atStart =>
    exact ⟨0, _, by omega, rfl, rfl, BoxAt.new _ _ _ rfl, R1.out.alloc _, K1.alloc K1.size _⟩
  case round =>
    obtain ⟨k, S, hk, rfl, hS, hbox, hres, hbel⟩ := hrel
    have h1 := HH.out.below hbel
    obtain ⟨c0, _⟩ := h1.shape
    have hlt2 := h1.row.lt
    obtain ⟨b0, b1, b2, b3⟩ := hbox.out.cells
    obtain ⟨f0, f1, f2, f3⟩ := hbox.out.frz
    have hbl := hbox.out.lt
    by_cases hlt : k < s.D
    · have hki : (k : Int) < (s.D : Int) := by omega
      have hk6 : (k : Int) < 6 := by omega
      have HAV : Hid (Calls Try.prog 45 #[.pointer (some ⟨hb, 4 + k * 32, none⟩), .int .i64 r] wr fun e w' => e = .returned (.bool (avB s k r)) ∧ w' = wr) := has_any hb s k r wr h1 (by omega) hr
      have HSO : Hid (S.ok) := hS.out ▸ msum_ok HOK.out d r k (by omega)
      have hwl := wgt_lt s d k (by omega)
      obtain ⟨y0, y1, y2, y3⟩ := h1.cell k r (by omega) hr
      have hco : Hid ((s.cell k r).ok) := HOK.out.cells k r
      cases hav : avB s k r
      · rw [hav] at HAV
        have HS2 : Hid (S = msum s d r (k + 1)) := (show _ = _ by simp only [msum, hav]; exact hS.out)
        clear hS
        go_wp2_with fail
        refine HAV.out.mono ?_
        rintro e w2 ⟨rfl, rfl⟩
        go_wp2_with fail
        exact ⟨⟨k + 1, S, by omega, by go_num, HS2, hbox, hres, hbel⟩, by simp [intOf]; omega⟩
      · rw [hav] at HAV
        have HS2 : Hid (S.xor ((s.cell k r).scale (wgt s d k)) = msum s d r (k + 1)) := (show _ = _ by simp only [msum, hav]; rw [← hS.out]; rfl)
        have HW : Hid (∀ W : World, W.heap = wr.heap → Calls Try.prog 77 #[.pointer (some ⟨hb, 0, none⟩), .int .i64 d, .int .i64 k] W fun e w' => e = .returned (.int .u8 (wgt s d k : Nat)) ∧ w' = W) := fun W e => weight_any hb s d k W (h1.heap e) (by omega)
        generalize hcc : s.cell k r = cl at *
        generalize hww : wgt s d k = wg at *
        have HSC : Hid (∀ W, Calls Try.prog 78 #[.int .u8 wg, .agg #[.int .u8 cl.b0, .int .u8 cl.b1, .int .u8 cl.b2, .int .u8 cl.b3]] W fun e w' => e = .returned (.agg #[.int .u8 (cl.scale wg).b0, .int .u8 (cl.scale wg).b1, .int .u8 (cl.scale wg).b2, .int .u8 (cl.scale wg).b3]) ∧ Below W.heap.size W w') := fun W => Scale_any wg cl W hwl hco.out
        have HPO : Hid ((cl.scale wg).ok) := C4.scale_ok hwl
        generalize hpp : cl.scale wg = pr at *
        have HADD : Hid (∀ W, Calls Try.prog 75 #[.agg #[.int .u8 S.b0, .int .u8 S.b1, .int .u8 S.b2, .int .u8 S.b3], .agg #[.int .u8 pr.b0, .int .u8 pr.b1, .int .u8 pr.b2, .int .u8 pr.b3]] W fun e w' => e = .returned (.agg #[.int .u8 (S.xor pr).b0, .int .u8 (S.xor pr).b1, .int .u8 (S.xor pr).b2, .int .u8 (S.xor pr).b3]) ∧ Below W.heap.size W w') := fun W => Add_any S pr W HSO.out HPO.out
        clear hcc hww hpp hS h1
        go_wp2_with fail
        refine HAV.out.mono ?_
        rintro e w2 ⟨rfl, rfl⟩
        go_wp2_with fail
        go_region_with (first
          | (go_at_call 77; go_must (refine (HW.out _ (by rfl)).mono ?_); rintro e W ⟨rfl, rfl⟩)
          | (go_at_call 78; refine (HSC.out _).mono ?_; rintro e w3 ⟨rfl, k3⟩; have K3 : Below w2.heap.size w2 w3 := below_from k3 rfl rfl rfl rfl; obtain ⟨e0, e1, e2, e3⟩ := (hbox.out.below K3).cells; obtain ⟨q0, q1, q2, q3⟩ := (hbox.out.below K3).frz; obtain ⟨t0, t1, t2, t3⟩ := And.intro (below_cell' K3 y0) (And.intro (below_cell' K3 y1) (And.intro (below_cell' K3 y2) (below_cell' K3 y3))))
          | (go_at_call 75; refine (HADD.out _).mono ?_; rintro e w4 ⟨rfl, k4⟩; have K4 : Below w2.heap.size w2 w4 := K3.trans ((below_from k4 rfl rfl rfl rfl : Below w3.heap.size w3 w4).mono K3.size); obtain ⟨m0, m1, m2, m3⟩ := (hbox.out.below K4).cells; obtain ⟨n0, n1, n2, n3⟩ := (hbox.out.below K4).frz))
        all_goals
          go_wp2_with fail
          refine ⟨⟨k + 1, S.xor pr, by omega, by go_num, HS2, ?_, ?_, ?_⟩, by simp [intOf]; omega⟩
          · exact (hbox.out.below K4).set _
          · exact (hres.out.below K4).other4 (by omega) _ _ _ _
          · exact below_set4 (hbel.trans (K4.mono hbel.size)) (by omega) _ _ _ _
    · have hke : k = s.D := by omega
      have HKE : Hid (k = s.D) := hke
      have hlti : ¬ ((k : Int) < (s.D : Int)) := by omega
      obtain ⟨r0, r1, r2, r3⟩ := hres.out.cells
      obtain ⟨g0, g1, g2, g3⟩ := hres.out.frz
      clear hke
      go_wp2_with fail
      refine bodyPost_ret (v := S.val) (by simp [results, Try.results80, go_sem, r0, r1, r2, r3, C4.val]) rfl ⟨?_, ?_⟩
      · rw [hS.out, HKE.out]
      · exact below_set4 hbel (Nat.le_refl _) _ _ _ _
end Go.Proofs.Ytfpoiikhhjdpdab
