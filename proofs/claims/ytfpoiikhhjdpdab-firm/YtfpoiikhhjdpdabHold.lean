/- Which cells of a row are not available, and which parity cells are. -/
import Derived.Test.YtfpoiikhhjdpdabAppends
namespace Go.Proofs.Ytfpoiikhhjdpdab
open Go.RowKit
set_option linter.unusedVariables false
attribute [local go_sem ↓] Go.wp_at_zero Go.wp_at_succ
def missL (s : Ab) (r : Nat) : Nat → List Nat
  | 0 => []
  | k + 1 => if avB s k r then missL s r k else missL s r k ++ [k]
def parL (s : Ab) (r : Nat) : Nat → List Nat
  | 0 => []
  | k + 1 => if avB s (s.D + k) r then parL s r k ++ [s.D + k] else parL s r k
theorem missL_len (s : Ab) (r m : Nat) : (missL s r m).length ≤ m := by
  induction m with
  | zero => simp [missL]
  | succ m ih =>
    simp only [missL]
    split
    · omega
    · rw [List.length_append]; simp; omega
theorem parL_len (s : Ab) (r m : Nat) : (parL s r m).length ≤ m := by
  induction m with
  | zero => simp [parL]
  | succ m ih =>
    simp only [parL]
    split
    · rw [List.length_append]; simp; omega
    · omega
/-- A list of numbers that came out: one's own. -/
def IntsAt (w : World) (B : Nat) (v : Value) (l : List Nat) : Prop := w.ownsRow B 3 1 v l.length (intsOf l)
theorem IntsAt.slice {w : World} {B : Nat} {v : Value} {l : List Nat} (h : IntsAt w B v l) : ∃ p cap, v = .slice p l.length cap ∧ ∀ i, i < l.length → ∃ b, p = some ⟨b, 0, none⟩ ∧ w.cell? ⟨b, i, none⟩ = some (.int .i64 (l.getD i 0 : Nat)) := by
  rcases h.2 with ⟨rfl, h1⟩ | ⟨g, cap, cur, rfl, hb, hg, rest⟩
  · exact ⟨none, 0, by rw [h1], fun i hi => by omega⟩
  · refine ⟨_, cap, rfl, fun i hi => ⟨g, rfl, ?_⟩⟩
    have h1 := World.ownsRow.cells h rfl i _ (intsOf_get l i hi)
    rw [addr_add, Nat.zero_add] at h1
    exact h1
theorem IntsAt.below {w w' : World} {B : Nat} {v : Value} {l : List Nat} (h : IntsAt w B v l) (k : Below w.heap.size w w') : IntsAt w' B v l := by
  refine ⟨h.1, ?_⟩
  rcases h.2 with h1 | ⟨g, cap, cur, rfl, hb, hg, rest⟩
  · exact .inl h1
  · exact .inr ⟨g, cap, cur, rfl, hb, (k.block g (Array.getElem?_eq_some_iff.1 hg).1).trans hg, rest⟩
set_option maxRecDepth 100000 in
set_option maxHeartbeats 1000000 in
theorem missingData_any (hb : Nat) (s : St) (r : Nat) (w : World) (h : HoardIn w hb s) (hr : r < 6) :
    Calls Try.prog 68 #[.pointer (some ⟨hb, 0, none⟩), .int .i64 r] w fun e w' => ∃ v, e = .returned v ∧ IntsAt w' w.heap.size v (missL s r s.D) ∧ Below w.heap.size w w' := by
  have hD := h.ok.D4
  have HH : Hid (HoardIn w hb s) := h
  have H0 : Hid (IntsAt (w.alloc (.cells #[] 3)) w.heap.size (.slice (some ⟨w.heap.size, 0, none⟩) 0 0) []) := World.ownsRow_made w #[] 0 (Nat.le_refl _) (by decide) rfl
  clear h
  go_enter Try.func68, Try.ntmps68
  go_wp2_with fail
  go_loopw [5, 6] (fun l c wr => ∃ (k : Nat) (v : Value), k ≤ s.D ∧ c = .int .i64 k ∧ l = v ∧ Hid (IntsAt wr w.heap.size v (missL s r k)) ∧ Below w.heap.size w wr) (fun _ c _ => s.D - (intOf c).toNat)
  case atStart => exact ⟨0, _, by omega, rfl, rfl, H0, (Below.refl _ _).alloc (Nat.le_refl _) _⟩
  case round =>
    obtain ⟨k, v, hk, rfl, rfl, hown, hbel⟩ := hrel
    have h1 := HH.out.below hbel
    obtain ⟨c0, _⟩ := h1.shape
    by_cases hlt : k < s.D
    · have hki : (k : Int) < (s.D : Int) := by omega
      have hk6 : (k : Int) < 6 := by omega
      have HA : Hid (Calls Try.prog 45 #[.pointer (some ⟨hb, 4 + k * 32, none⟩), .int .i64 r] wr fun e w' => e = .returned (.bool (avB s k r)) ∧ w' = wr) := has_any hb s k r wr h1 (by omega) hr
      have hlen := missL_len s r k
      have hlt2 := h1.row.lt
      clear h1
      cases hav : avB s k r
      · rw [hav] at HA
        have HL : Hid (missL s r (k + 1) = missL s r k ++ [k]) := (show _ = _ by simp only [missL, hav]; rfl)
        generalize hL : missL s r k = L at *
        have HLE : Hid (missL s r k = L) := hL
        generalize hln : L.length = ln at *
        have HLN : Hid (L.length = ln) := hln
        have HO : Hid ((wr.alloc (Obj.cells #[.int .i64 k] 3)).ownsRow w.heap.size 3 1 u5 ln (intsOf L)) := by
          have h1 : wr.ownsRow w.heap.size 3 1 u5 ln (intsOf L) := HLN.out ▸ hown.out
          exact h1.alloc _
        have HNW : Hid (∀ j u, [Value.int .i64 k][j]? = some u → (wr.alloc (Obj.cells #[.int .i64 k] 3)).cell? ((⟨wr.heap.size, 0, none⟩ : Addr).add j) = some u) := cell_one_new _ _ _
        have hsz := hbel.size
        have hln24 : ln ≤ 24 := by omega
        have hil : (intsOf L).length = ln := by unfold intsOf; rw [List.length_map]; exact hln
        clear hL hln
        go_wp2_with fail
        refine HA.out.mono ?_
        rintro e w2 ⟨rfl, rfl⟩
        go_wp2_with (at_builtin; go_must (refine wpl_append appInt (by rfl) _ _ (by rfl) w.heap.size _ ln (intsOf L) (by rfl) HO.out ⟨w2.heap.size, 0, none⟩ 1 1 [.int .i64 k] (by rfl) (by rfl) HNW.out (by simp [Value.oneCell']) ?_ ?_ ?_ ?_))
        · simp only [maxLen]; omega
        · omega
        · simp; omega
        · intro v' w3 hown3 hgr hat
          have hb3 : Below w.heap.size w w3 := by
            have k0 : Below w.heap.size w (w2.alloc (Obj.cells #[.int .i64 k] 3)) := hbel.alloc hsz _
            exact k0.trans (grown_below hgr (by simp; omega) (fun k hk => (World.ownsRow.lt HO.out k hk).1))
          have HF : Hid (IntsAt w3 w.heap.size v' (missL s r (k + 1))) := by
            show World.ownsRow _ _ _ _ _ _ _
            rw [show (missL s r (k + 1)).length = ln + 1 by rw [HL.out, List.length_append, HLN.out]; rfl, show intsOf (missL s r (k + 1)) = intsOf L ++ [.int .i64 k] by rw [HL.out]; unfold intsOf; rw [List.map_append]; rfl]
            exact hown3
          clear hown3 hgr hat HO HNW
          go_wp2_with fail
          first
            | exact ⟨⟨k + 1, v', by omega, by go_num, rfl, HF, hb3⟩, by simp [intOf]; omega⟩
            | (go_roundw
               case rel => exact ⟨k + 1, v', by omega, by go_num, rfl, HF, hb3⟩
               case measure => simp [intOf]; omega)
      · rw [hav] at HA
        have HL : Hid (missL s r (k + 1) = missL s r k) := (show _ = _ by simp only [missL, hav]; rfl)
        go_wp2_with fail
        refine HA.out.mono ?_
        rintro e w2 ⟨rfl, rfl⟩
        go_wp2_with fail
        refine ⟨⟨k + 1, _, by omega, by go_num, rfl, ?_, hbel⟩, by simp [intOf]; omega⟩
        rw [HL.out]; exact hown
    · have hke : k = s.D := by omega
      have HKE : Hid (k = s.D) := hke
      have hlti : ¬ ((k : Int) < (s.D : Int)) := by omega
      clear hke
      go_wp2_with fail
      go_ret
      have h1 := hown.out
      rw [HKE.out] at h1
      exact ⟨_, rfl, h1, hbel⟩
set_option maxRecDepth 100000 in
set_option maxHeartbeats 1000000 in
theorem availableParity_any (hb : Nat) (s : St) (r : Nat) (w : World) (h : HoardIn w hb s) (hr : r < 6) :
    Calls Try.prog 69 #[.pointer (some ⟨hb, 0, none⟩), .int .i64 r] w fun e w' => ∃ v, e = .returned v ∧ IntsAt w' w.heap.size v (parL s r s.P) ∧ Below w.heap.size w w' := by
  have hD := h.ok.D4
  have hP := h.ok.P2
  have HH : Hid (HoardIn w hb s) := h
  have c00 := h.shape.1
  have hlt0 := h.row.lt
  have H0 : Hid (IntsAt (w.alloc (.cells #[] 3)) w.heap.size (.slice (some ⟨w.heap.size, 0, none⟩) 0 0) []) := World.ownsRow_made w #[] 0 (Nat.le_refl _) (by decide) rfl
  clear h
  go_enter Try.func69, Try.ntmps69
  go_wp2_with fail
  clear c00 hlt0
  go_loopw [5, 6] (fun l c wr => ∃ (k d : Nat) (v : Value), k ≤ s.P ∧ Hid (d = s.D + k) ∧ d ≤ s.D + s.P ∧ c = .int .i64 d ∧ l = v ∧ Hid (IntsAt wr w.heap.size v (parL s r k)) ∧ Below w.heap.size w wr) (fun _ c _ => s.D + s.P - (intOf c).toNat)
  case atStart => exact ⟨0, s.D, _, by omega, (show _ = _ by omega), by omega, rfl, rfl, H0, (Below.refl _ _).alloc (Nat.le_refl _) _⟩
  case round =>
    obtain ⟨k, d, v, hk, hdk, hds, rfl, rfl, hown, hbel⟩ := hrel
    have h1 := HH.out.below hbel
    obtain ⟨c0, c1, _⟩ := h1.shape
    by_cases hlt : d < s.D + s.P
    · have hki : (d : Int) < (s.D : Int) + s.P := by omega
      have hk6 : (d : Int) < 6 := by omega
      have HA : Hid (∀ q, Calls Try.prog 45 #[.pointer (some ⟨hb, 4 + d * 32, none⟩), .int .i64 r] (wr.drewN q) fun e w' => e = .returned (.bool (avB s d r)) ∧ w' = wr.drewN q) := fun q => has_any hb s d r _ (h1.drewN q) (by omega) hr
      have hlen := parL_len s r k
      have hlt2 := h1.row.lt
      have hkp : k + 1 ≤ s.P := by have := hdk.out; omega
      have HDD : Hid (d + 1 = s.D + (k + 1)) := (show _ = _ by have := hdk.out; omega)
      clear h1
      cases hav : avB s d r
      · rw [hav] at HA
        have HL : Hid (parL s r (k + 1) = parL s r k) := (show _ = _ by simp only [parL, ← hdk.out, hav]; rfl)
        go_wp2_with fail
        go_quiet (fail)
        go_wp2_with fail
        refine (HA.out _).mono ?_
        rintro e w2 ⟨rfl, rfl⟩
        go_wp2_with fail
        refine ⟨⟨k + 1, d + 1, _, hkp, HDD, by omega, by go_num, rfl, ?_, below_drewN hbel _⟩, by simp [intOf]; omega⟩
        rw [HL.out]; exact hown
      · rw [hav] at HA
        have HL : Hid (parL s r (k + 1) = parL s r k ++ [d]) := (show _ = _ by simp only [parL, ← hdk.out, hav]; rfl)
        generalize hL : parL s r k = L at *
        have HLE : Hid (parL s r k = L) := hL
        generalize hln : L.length = ln at *
        have HLN : Hid (L.length = ln) := hln
        have hsz := hbel.size
        have hln24 : ln ≤ 24 := by omega
        have hil : (intsOf L).length = ln := by unfold intsOf; rw [List.length_map]; exact hln
        clear hL hln
        go_wp2_with fail
        go_quiet (fail)
        go_wp2_with fail
        refine (HA.out _).mono ?_
        rintro e w2 ⟨rfl, rfl⟩
        have hbel2 := below_drewN hbel nq
        have hown2 : Hid (IntsAt (wr.drewN nq) w.heap.size u5 L) := hown
        generalize wr.drewN nq = w2 at *
        have HO : Hid ((w2.alloc (Obj.cells #[.int .i64 d] 3)).ownsRow w.heap.size 3 1 u5 ln (intsOf L)) := by
          have h1 : w2.ownsRow w.heap.size 3 1 u5 ln (intsOf L) := HLN.out ▸ hown2.out
          exact h1.alloc _
        have HNW : Hid (∀ j u, [Value.int .i64 d][j]? = some u → (w2.alloc (Obj.cells #[.int .i64 d] 3)).cell? ((⟨w2.heap.size, 0, none⟩ : Addr).add j) = some u) := cell_one_new _ _ _
        have hsz2 := hbel2.size
        go_wp2_with (at_builtin; go_must (refine wpl_append appInt (by rfl) _ _ (by rfl) w.heap.size _ ln (intsOf L) (by rfl) HO.out ⟨w2.heap.size, 0, none⟩ 1 1 [.int .i64 d] (by rfl) (by rfl) HNW.out (by simp [Value.oneCell']) ?_ ?_ ?_ ?_))
        · simp only [maxLen]; omega
        · omega
        · simp; omega
        · intro v' w3 hown3 hgr hat
          have hb3 : Below w.heap.size w w3 := by
            have k0 : Below w.heap.size w (w2.alloc (Obj.cells #[.int .i64 d] 3)) := hbel2.alloc hsz2 _
            exact k0.trans (grown_below hgr (by simp; omega) (fun k hk => (World.ownsRow.lt HO.out k hk).1))
          have HF : Hid (IntsAt w3 w.heap.size v' (parL s r (k + 1))) := by
            show World.ownsRow _ _ _ _ _ _ _
            rw [show (parL s r (k + 1)).length = ln + 1 by rw [HL.out, List.length_append, HLN.out]; rfl, show intsOf (parL s r (k + 1)) = intsOf L ++ [.int .i64 d] by rw [HL.out]; unfold intsOf; rw [List.map_append]; rfl]
            exact hown3
          clear hown3 hgr hat HO HNW
          go_wp2_with fail
          first
            | exact ⟨⟨k + 1, d + 1, v', hkp, HDD, by omega, by go_num, rfl, HF, hb3⟩, by simp [intOf]; omega⟩
            | (go_roundw
               case rel => exact ⟨k + 1, d + 1, v', hkp, HDD, by omega, by go_num, rfl, HF, hb3⟩
               case measure => simp [intOf]; omega)
    · have hke : k = s.P := by have := hdk.out; omega
      have HKE : Hid (k = s.P) := hke
      have hlti : ¬ ((d : Int) < (s.D : Int) + s.P) := by omega
      clear hke
      go_wp2_with fail
      go_quiet (fail)
      go_wp2_with fail
      go_ret
      have h1 := hown.out
      rw [HKE.out] at h1
      exact ⟨_, rfl, h1, below_drewN hbel _⟩
/-- A data cell of the row is gone. -/
def goneB (s : Ab) (r : Nat) : Bool := decide ((parL s r s.P).length < (missL s r s.D).length)
set_option maxRecDepth 100000 in
set_option maxHeartbeats 1000000 in
theorem hasGone_any (hb : Nat) (s : St) (r : Nat) (w : World) (h : HoardIn w hb s) (hr : r < 6) :
    Calls Try.prog 64 #[.pointer (some ⟨hb, 0, none⟩), .int .i64 r] w fun e w' => e = .returned (.bool (goneB s r)) ∧ Below w.heap.size w w' := by
  have HH : Hid (HoardIn w hb s) := h
  clear h
  unfold goneB
  go_enter Try.func64, Try.ntmps64
  go_wp2_with fail
  refine (missingData_any hb s r w HH.out hr).mono ?_
  rintro e w1 ⟨v1, rfl, i1, k1⟩
  obtain ⟨p1, q1, rfl, _⟩ := i1.slice
  have H1 := HH.out.below k1
  go_wp2_with fail
  refine (availableParity_any hb s r w1 H1 hr).mono ?_
  rintro e w2 ⟨v2, rfl, i2, k2⟩
  obtain ⟨p2, q2, rfl, _⟩ := i2.slice
  have K : Hid (Below w.heap.size w w2) := k1.trans (k2.mono k1.size)
  clear i1 i2 k1 k2 H1
  go_wp2_with fail
  go_ret
  exact ⟨by simp, K.out⟩
end Go.Proofs.Ytfpoiikhhjdpdab
