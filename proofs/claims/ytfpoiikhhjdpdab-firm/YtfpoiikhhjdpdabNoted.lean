/- A block is noted: the drives that take it in. -/
import Derived.Test.YtfpoiikhhjdpdabBreaks
namespace Go.Proofs.Ytfpoiikhhjdpdab
open Go.RowKit
set_option linter.unusedVariables false
attribute [local go_sem ↓] Go.wp_at_zero Go.wp_at_succ
/-- The hoard in memory, with what is noted of a block. -/
structure NotedAt (w : World) (hb : Nat) (s : St) : Prop extends HoardIn w hb s where
  blk : s.aux.blk < s.D * s.R
  aft : s.aux.aft.ok
  chg : s.aux.chg.ok
  tk : IntsAt w 0 s.aux.tv s.aux.tk
  own : ∀ g, s.aux.tv.ownBlock = some g → ¬ Foot hb s g
  dn : s.aux.dn ≤ s.aux.tk.length
  few : s.aux.tk.length ≤ 3
  sort : ∀ d ∈ s.aux.tk, d = s.aux.blk % s.D ∨ (s.D ≤ d ∧ d < s.D + s.P)
theorem IntsAt.kept {S : Nat → Prop} {w w' : World} {B : Nat} {v : Value} {l : List Nat} (h : IntsAt w B v l) (k : Kept S w w') (hS : ∀ g, v.ownBlock = some g → ¬ S g) : IntsAt w' B v l := by
  refine ⟨h.1, ?_⟩
  rcases h.2 with h1 | ⟨g, cap, cur, rfl, hb, hg, rest⟩
  · exact .inl h1
  · exact .inr ⟨g, cap, cur, rfl, hb, (k.block g (Array.getElem?_eq_some_iff.1 hg).1 (hS g rfl)).trans hg, rest⟩
theorem IntsAt.lt {w : World} {B : Nat} {v : Value} {l : List Nat} (h : IntsAt w B v l) {g : Nat} (hg : v.ownBlock = some g) : g < w.heap.size := (World.ownsRow.lt h g hg).2
theorem NotedAt.went {w w' : World} {hb : Nat} {s s' : St} (h : NotedAt w hb s) (k : WentIn hb s w s' w') (ha : s'.aux = s.aux) (hD : s'.D = s.D) (hP : s'.P = s.P) (hR : s'.R = s.R) : NotedAt w' hb s' := by
  refine ⟨k.at', by rw [ha, hD, hR]; exact h.blk, by rw [ha]; exact h.aft, by rw [ha]; exact h.chg, by rw [ha]; exact h.tk.kept k.kept h.own, ?_, by rw [ha]; exact h.dn, by rw [ha]; exact h.few, by rw [ha, hD, hP]; exact h.sort⟩
  intro g hg hf
  rw [ha] at hg
  rcases k.foot g hf with h1 | h1
  · exact h.own g hg h1
  · have := h.tk.lt hg; omega
/-- A hoard that is down, and what it will be behind Mount. -/
structure DownAt (w : World) (hb : Nat) (s : St) (a : Ab) : Prop extends NotedAt w hb s where
  down : s.aux.down = true
  gives : abTakes s.toAb (s.aux.blk % s.D) (s.aux.blk / s.D) s.aux.aft s.aux.chg (s.aux.tk.drop s.aux.dn) = a
def FootD (hb : Nat) (s : St) (k : Nat) : Prop := Foot hb s k ∨ s.aux.tv.ownBlock = some k
theorem DownAt.lt {w : World} {hb : Nat} {s : St} {a : Ab} (h : DownAt w hb s a) {k : Nat} (hk : FootD hb s k) : k < w.heap.size := by
  rcases hk with h1 | h1
  · exact h.toHoardIn.foot_lt h1
  · exact h.tk.lt h1
theorem DownAt.of_block {w w' : World} {hb : Nat} {s : St} {a : Ab} (h : DownAt w hb s a) (e : ∀ k, FootD hb s k → w'.heap[k]? = w.heap[k]?) : DownAt w' hb s a := by
  refine ⟨⟨h.toHoardIn.of_block (fun k hk => e k (.inl hk)), h.blk, h.aft, h.chg, ?_, h.own, h.dn, h.few, h.sort⟩, h.down, h.gives⟩
  refine ⟨h.tk.1, ?_⟩
  rcases h.tk.2 with h1 | ⟨g, cap, cur, h1, hb, hg, rest⟩
  · exact .inl h1
  · exact .inr ⟨g, cap, cur, h1, hb, (e g (.inr (by rw [h1]; rfl))).trans hg, rest⟩
theorem DownAt.below {w w' : World} {hb : Nat} {s : St} {a : Ab} (h : DownAt w hb s a) (k : Below w.heap.size w w') : DownAt w' hb s a := h.of_block (fun i hi => k.block i (h.lt hi))
theorem DownAt.downAt {w : World} {hb : Nat} {s : St} {a : Ab} (h : DownAt w hb s a) : w.cell? ⟨hb, 210, none⟩ = some (.bool true) := by
  have := h.toHoardIn.downAt
  rw [h.down] at this; exact this
theorem HoardIn.notedAt {w : World} {hb : Nat} {s : St} (h : HoardIn w hb s) : w.cell? ⟨hb, 197, none⟩ = some (.int .i64 s.aux.blk) ∧ w.cell? ⟨hb, 206, none⟩ = some s.aux.tv ∧ w.cell? ⟨hb, 207, none⟩ = some (.int .i64 s.aux.dn) := ⟨h.row.cell (by omega), h.row.cell (by omega), h.row.cell (by omega)⟩
theorem HoardIn.aftAt {w : World} {hb : Nat} {s : St} (h : HoardIn w hb s) : w.cell? ⟨hb, 198, none⟩ = some (.int .u8 s.aux.aft.b0) ∧ w.cell? ⟨hb, 199, none⟩ = some (.int .u8 s.aux.aft.b1) ∧ w.cell? ⟨hb, 200, none⟩ = some (.int .u8 s.aux.aft.b2) ∧ w.cell? ⟨hb, 201, none⟩ = some (.int .u8 s.aux.aft.b3) := ⟨h.row.cell (by omega), h.row.cell (by omega), h.row.cell (by omega), h.row.cell (by omega)⟩
theorem HoardIn.chgAt {w : World} {hb : Nat} {s : St} (h : HoardIn w hb s) : w.cell? ⟨hb, 202, none⟩ = some (.int .u8 s.aux.chg.b0) ∧ w.cell? ⟨hb, 203, none⟩ = some (.int .u8 s.aux.chg.b1) ∧ w.cell? ⟨hb, 204, none⟩ = some (.int .u8 s.aux.chg.b2) ∧ w.cell? ⟨hb, 205, none⟩ = some (.int .u8 s.aux.chg.b3) := ⟨h.row.cell (by omega), h.row.cell (by omega), h.row.cell (by omega), h.row.cell (by omega)⟩
theorem wgt_lt256 (s : Ab) (d c : Nat) (hc : c < 4) : wgt s d c < 256 := by
  unfold wgt; split
  · omega
  · exact Nat.lt_of_le_of_lt (Nat.pow_le_pow_right (by omega) (by omega) : 2 ^ c ≤ 2 ^ 4) (by omega)
set_option maxRecDepth 100000 in
set_option maxHeartbeats 2000000 in
theorem takeIn_lay (hb : Nat) (s : St) (w : World) (h : HoardIn w hb s) (hbl : s.aux.blk < s.D * s.R) (ha : s.aux.aft.ok) :
    Calls Try.prog 54 #[.pointer (some ⟨hb, 0, none⟩), .int .i64 (s.aux.blk % s.D : Nat)] w fun e w' => e = .returned (.tuple #[]) ∧ WentIn hb s w (s.layC (s.aux.blk % s.D) (s.aux.blk / s.D) s.aux.aft) w' := by
  have hD := h.ok.D4
  have hD1 := h.ok.D1
  have hR := h.ok.R6
  have hb24 : s.aux.blk < 24 := Nat.lt_of_lt_of_le hbl (Nat.mul_le_mul hD hR)
  have hc4 : s.aux.blk % s.D < 4 := by have := Nat.mod_lt s.aux.blk (show 0 < s.D by omega); omega
  have hr6 : s.aux.blk / s.D < 6 := by
    have : s.aux.blk / s.D < s.R := Nat.div_lt_of_lt_mul hbl
    omega
  have HH : Hid (HoardIn w hb s) := h
  have HPL : Hid (∀ W, HoardIn W hb s → Calls Try.prog 49 #[.pointer (some ⟨hb, 0, none⟩), .int .i64 s.aux.blk] W fun e w' => e = .returned (.tuple #[.int .i64 (s.aux.blk % s.D : Nat), .int .i64 (s.aux.blk / s.D : Nat)]) ∧ ∃ n, w' = W.drewN n) := fun W hW => place_any hb s s.aux.blk W hW (by omega)
  have HLY : Hid (∀ W, HoardIn W hb s → Calls Try.prog 66 #[.pointer (some ⟨hb, 4 + (s.aux.blk % s.D) * 32, none⟩), .int .i64 (s.aux.blk / s.D : Nat), s.aux.aft.val] W fun e w' => e = .returned (.tuple #[]) ∧ WentIn hb s W (s.layC (s.aux.blk % s.D) (s.aux.blk / s.D) s.aux.aft) w') := fun W hW => lay_any hb s _ _ s.aux.aft W hW (by omega) hr6 ha
  have hlt := h.row.lt
  obtain ⟨n1, _, _⟩ := h.notedAt
  have HAF : Hid (∀ W, HoardIn W hb s → _) := fun W (hW : HoardIn W hb s) => hW.aftAt
  clear h
  unfold C4.val at HLY
  generalize s.aux.aft = nw at *
  generalize s.aux.blk % s.D = c at *
  generalize s.aux.blk / s.D = r at *
  generalize s.aux.blk = b at *
  have hci : (c : Int) < 6 := by omega
  go_enter Try.func54, Try.ntmps54
  go_wp2_with fail
  refine (HPL.out _ HH.out).mono ?_
  rintro e w1 ⟨rfl, q, rfl⟩
  have h1 := HH.out.drewN q
  have k1 : Below w.heap.size w (w.drewN q) := below_drewN (Below.refl _ _) q
  obtain ⟨a0, a1, a2, a3⟩ := HAF.out _ h1
  have hlt1 := h1.row.lt
  have H1 : Hid (HoardIn (w.drewN q) hb s) := h1
  clear h1 n1
  generalize w.drewN q = w1 at *
  go_wp2_with fail
  go_region_with ((go_at_call 66; go_must (refine (HLY.out _ (H1.out.heap (by rfl))).mono ?_); rintro e w2 ⟨rfl, went⟩; have went2 : WentIn hb s w1 (s.layC c r nw) w2 := went_from went rfl rfl rfl rfl))
  all_goals
    go_wp2_with fail
    exact bodyPost_ret (v := .tuple #[]) (by simp [results, Try.results54, go_sem]) rfl ⟨rfl, (WentIn.below HH.out k1).trans went2⟩
set_option maxRecDepth 100000 in
set_option maxHeartbeats 2000000 in
theorem takeIn_note (hb : Nat) (s : St) (d : Nat) (w : World) (h : HoardIn w hb s) (hbl : s.aux.blk < s.D * s.R) (hx : s.aux.chg.ok) (hp : s.D ≤ d) (hd : d < s.D + s.P) :
    Calls Try.prog 54 #[.pointer (some ⟨hb, 0, none⟩), .int .i64 d] w fun e w' => ∃ v', e = .returned (.tuple #[]) ∧ WentIn hb s w (noteS s d ⟨s.aux.blk / s.D, s.aux.chg.scale (wgt s d (s.aux.blk % s.D))⟩ v') w' := by
  have hD := h.ok.D4
  have hD1 := h.ok.D1
  have hP := h.ok.P2
  have hR := h.ok.R6
  have hb24 : s.aux.blk < 24 := Nat.lt_of_lt_of_le hbl (Nat.mul_le_mul hD hR)
  have hcD : s.aux.blk % s.D < s.D := Nat.mod_lt s.aux.blk (show 0 < s.D by omega)
  have hc4 : s.aux.blk % s.D < 4 := by omega
  have hrR : s.aux.blk / s.D < s.R := Nat.div_lt_of_lt_mul hbl
  have hr6 : s.aux.blk / s.D < 6 := by omega
  have HH : Hid (HoardIn w hb s) := h
  have HPL : Hid (∀ W, HoardIn W hb s → Calls Try.prog 49 #[.pointer (some ⟨hb, 0, none⟩), .int .i64 s.aux.blk] W fun e w' => e = .returned (.tuple #[.int .i64 (s.aux.blk % s.D : Nat), .int .i64 (s.aux.blk / s.D : Nat)]) ∧ ∃ n, w' = W.drewN n) := fun W hW => place_any hb s s.aux.blk W hW (by omega)
  have HWT : Hid (∀ W, HoardIn W hb s → Calls Try.prog 77 #[.pointer (some ⟨hb, 0, none⟩), .int .i64 d, .int .i64 (s.aux.blk % s.D : Nat)] W fun e w' => e = .returned (.int .u8 (wgt s d (s.aux.blk % s.D) : Nat)) ∧ w' = W) := fun W hW => weight_any hb s d _ W hW hc4
  have hwg := wgt_lt256 s d (s.aux.blk % s.D) hc4
  have HSC : Hid (∀ W, Calls Try.prog 78 #[.int .u8 (wgt s d (s.aux.blk % s.D) : Nat), s.aux.chg.val] W fun e w' => e = .returned (s.aux.chg.scale (wgt s d (s.aux.blk % s.D))).val ∧ Below W.heap.size W w') := fun W => Scale_any _ _ W hwg hx
  have HY : Hid ((s.aux.chg.scale (wgt s d (s.aux.blk % s.D))).ok) := C4.scale_ok hwg
  have HNO : Hid (∀ W, HoardIn W hb s → Calls Try.prog 79 #[.pointer (some ⟨hb, 4 + d * 32, none⟩), .agg #[.int .i64 (s.aux.blk / s.D : Nat), .int .u8 (s.aux.chg.scale (wgt s d (s.aux.blk % s.D))).b0, .int .u8 (s.aux.chg.scale (wgt s d (s.aux.blk % s.D))).b1, .int .u8 (s.aux.chg.scale (wgt s d (s.aux.blk % s.D))).b2, .int .u8 (s.aux.chg.scale (wgt s d (s.aux.blk % s.D))).b3], .int .i64 s.M] W fun e w' => ∃ v', e = .returned (.tuple #[]) ∧ WentIn hb s W (noteS s d ⟨s.aux.blk / s.D, s.aux.chg.scale (wgt s d (s.aux.blk % s.D))⟩ v') w') := fun W hW => note_any hb s d ⟨s.aux.blk / s.D, s.aux.chg.scale (wgt s d (s.aux.blk % s.D))⟩ W hW (by omega) hp hrR HY.out
  have hlt := h.row.lt
  obtain ⟨n1, _, _⟩ := h.notedAt
  have HAF : Hid (∀ W, HoardIn W hb s → W.cell? ⟨hb, 202, none⟩ = some (.int .u8 s.aux.chg.b0) ∧ W.cell? ⟨hb, 203, none⟩ = some (.int .u8 s.aux.chg.b1) ∧ W.cell? ⟨hb, 204, none⟩ = some (.int .u8 s.aux.chg.b2) ∧ W.cell? ⟨hb, 205, none⟩ = some (.int .u8 s.aux.chg.b3)) := fun W (hW : HoardIn W hb s) => hW.chgAt
  have hne : ¬ ((d : Int) = ((s.aux.blk % s.D : Nat) : Int)) := by omega
  clear h
  generalize s.aux.chg.scale (wgt s d (s.aux.blk % s.D)) = y at *
  generalize wgt s d (s.aux.blk % s.D) = g at *
  unfold C4.val at HSC
  generalize s.aux.chg = x at *
  generalize s.aux.blk % s.D = c at *
  generalize s.aux.blk / s.D = r at *
  generalize s.aux.blk = b at *
  have hdi : (d : Int) < 6 := by omega
  clear hp hd hcD hbl
  go_enter Try.func54, Try.ntmps54
  go_wp2_with fail
  refine (HPL.out _ HH.out).mono ?_
  rintro e w1 ⟨rfl, q, rfl⟩
  have h1 := HH.out.drewN q
  have k1 : Below w.heap.size w (w.drewN q) := below_drewN (Below.refl _ _) q
  have hlt1 := h1.row.lt
  have H1 : Hid (HoardIn (w.drewN q) hb s) := h1
  clear h1 n1
  generalize w.drewN q = w1 at *
  go_wp2_with fail
  refine (HWT.out _ H1.out).mono ?_
  rintro e w2 ⟨rfl, rfl⟩
  obtain ⟨a0, a1, a2, a3⟩ := HAF.out _ H1.out
  go_wp2_with fail
  refine (HSC.out _).mono ?_
  rintro e w3 ⟨rfl, k3⟩
  have K3 : Below w.heap.size w w3 := k1.trans (k3.mono k1.size)
  have h3 := HH.out.below K3
  obtain ⟨sh0, sh1, sh2, sh3⟩ := h3.shape
  have hlt3 := h3.row.lt
  have H3 : Hid (HoardIn w3 hb s) := h3
  clear k3 h3 a0 a1 a2 a3
  go_wp2_with fail
  go_region_with ((go_at_call 79; go_must (refine (HNO.out _ ?_).mono ?_; (exact H3.out.below (by repeat (first | exact Below.refl _ _ | refine Below.drew ?_ | refine Below.alloc ?_ (by simp <;> omega) _))); rintro e w4 ⟨v4, rfl, went⟩)))
  all_goals
    go_end0
    exact ⟨v4, rfl, (WentIn.below HH.out (K3.alloc K3.size _).drew).trans went⟩
theorem takeIn_any (hb : Nat) (s : St) (d : Nat) (w : World) (h : HoardIn w hb s) (hbl : s.aux.blk < s.D * s.R) (ha : s.aux.aft.ok) (hx : s.aux.chg.ok) (hd : d = s.aux.blk % s.D ∨ (s.D ≤ d ∧ d < s.D + s.P)) :
    Calls Try.prog 54 #[.pointer (some ⟨hb, 0, none⟩), .int .i64 d] w fun e w' => ∃ s', e = .returned (.tuple #[]) ∧ s'.toAb = abTake s.toAb (s.aux.blk % s.D) (s.aux.blk / s.D) s.aux.aft s.aux.chg d ∧ s'.aux = s.aux ∧ WentIn hb s w s' w' := by
  have hD1 := h.ok.D1
  have hcD : s.aux.blk % s.D < s.D := Nat.mod_lt s.aux.blk (show 0 < s.D by omega)
  unfold abTake
  rcases hd with rfl | ⟨h1, h2⟩
  · refine (takeIn_lay hb s w h hbl ha).mono fun e w' ⟨he, hw⟩ => ⟨s.layC (s.aux.blk % s.D) (s.aux.blk / s.D) s.aux.aft, he, ?_, rfl, hw⟩
    rw [if_pos rfl]; rfl
  · refine (takeIn_note hb s d w h hbl hx h1 h2).mono fun e w' ⟨v, he, hw⟩ => ⟨_, he, ?_, (noteS_aux s d _ v).1, hw⟩
    rw [if_neg (by omega), ab_note]
set_option maxRecDepth 100000 in
set_option maxHeartbeats 2000000 in
theorem takers_any (hb : Nat) (s : St) (c r : Nat) (w : World) (h : HoardIn w hb s) (hc : c < 6) (hr : r < 6) :
    Calls Try.prog 74 #[.pointer (some ⟨hb, 0, none⟩), .int .i64 c, .int .i64 r] w fun e w' => ∃ v, e = .returned v ∧ IntsAt w' w.heap.size v (takersL s c r) ∧ Below w.heap.size w w' := by
  have HH : Hid (HoardIn w hb s) := h
  have hP := h.ok.P2
  have hci : (c : Int) < 6 := by omega
  have hlen := parL_len s r s.P
  have hlt0 := h.row.lt
  have HTL : Hid (takersL s c r = parL s r s.P ++ (if s.lost c then [] else [c])) := rfl
  have HAP : Hid (∀ W, HoardIn W hb s → Calls Try.prog 69 #[.pointer (some ⟨hb, 0, none⟩), .int .i64 r] W fun e w' => ∃ v, e = .returned v ∧ IntsAt w' W.heap.size v (parL s r s.P) ∧ Below W.heap.size W w') := fun W hW => availableParity_any hb s r W hW hr
  generalize parL s r s.P = L at *
  clear h
  go_enter Try.func74, Try.ntmps74
  go_wp2_with fail
  refine (HAP.out _ HH.out).mono ?_
  rintro e w1 ⟨v, rfl, hown, k1⟩
  have h1 := HH.out.below k1
  have hlo := h1.lostAt c hc
  have hlt1 := h1.row.lt
  cases hl : s.lost c
  · rw [hl] at hlo HTL
    have HL : Hid (takersL s c r = L ++ [c]) := HTL
    generalize hln : L.length = ln at *
    have HLN : Hid (L.length = ln) := hln
    have hsz := k1.size
    have hil : (intsOf L).length = ln := by unfold intsOf; rw [List.length_map]; exact hln
    have HO : Hid ((w1.alloc (Obj.cells #[.int .i64 c] 3)).ownsRow w.heap.size 3 1 v ln (intsOf L)) := by
      have h1 : w1.ownsRow w.heap.size 3 1 v ln (intsOf L) := HLN.out ▸ hown
      exact h1.alloc _
    have HNW : Hid (∀ j u, [Value.int .i64 c][j]? = some u → (w1.alloc (Obj.cells #[.int .i64 c] 3)).cell? ((⟨w1.heap.size, 0, none⟩ : Addr).add j) = some u) := cell_one_new _ _ _
    clear hl hln hown h1
    go_wp2_with (at_builtin; go_must (refine wpl_append appInt (by rfl) _ _ (by rfl) w.heap.size _ ln (intsOf L) (by rfl) HO.out ⟨w1.heap.size, 0, none⟩ 1 1 [.int .i64 c] (by rfl) (by rfl) HNW.out (by simp [Value.oneCell']) ?_ ?_ ?_ ?_))
    · simp only [maxLen]; omega
    · omega
    · simp; omega
    · intro v' w3 hown3 hgr hat
      have hb3 : Below w.heap.size w w3 := by
        have k0 : Below w.heap.size w (w1.alloc (Obj.cells #[.int .i64 c] 3)) := k1.alloc hsz _
        exact k0.trans (grown_below hgr (by simp; omega) (fun k hk => (World.ownsRow.lt HO.out k hk).1))
      have HF : Hid (IntsAt w3 w.heap.size v' (takersL s c r)) := by
        show World.ownsRow _ _ _ _ _ _ _
        rw [show (takersL s c r).length = ln + 1 by rw [HL.out, List.length_append, HLN.out]; rfl, show intsOf (takersL s c r) = intsOf L ++ [.int .i64 c] by rw [HL.out]; unfold intsOf; rw [List.map_append]; rfl]
        exact hown3
      clear hown3 hgr hat HO HNW
      go_wp2_with fail
      go_ret
      exact ⟨_, rfl, HF.out, hb3⟩
  · rw [hl] at hlo HTL
    have HL : Hid (takersL s c r = L) := (show _ = _ by rw [HTL.out]; simp)
    clear hl h1
    go_wp2_with fail
    go_ret
    exact ⟨_, rfl, by rw [HL.out]; exact hown, k1⟩
end Go.Proofs.Ytfpoiikhhjdpdab
