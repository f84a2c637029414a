/- hoardkeep: lay. -/
import Derived.Test.YtfpoiikhhjdpdabDownPure
import Derived.Test.YtfpoiikhhjdpdabKStart
namespace Go.Proofs.Ytfpoiikhhjdpdab
open Go.RowKit
set_option linter.unusedVariables false
attribute [local go_sem ↓] Go.wp_at_zero Go.wp_at_succ
theorem fLay_zero (f : Nat → Nat) (a : Nat) (g : Nat → Nat) (L : List Nat) : fLay f a 0 g L = f := by
  funext i; unfold fLay; rw [if_neg (by omega)]
theorem fLay_succ (f : Nat → Nat) (a k : Nat) (g : Nat → Nat) (L : List Nat) : fLay f a (k + 1) g L = if L.contains ((a + k) / 4) = true then upd (fLay f a k g L) (a + k) (g k) else fLay f a k g L := by
  funext i
  unfold fLay
  by_cases e : i = a + k
  · subst e
    by_cases hc : L.contains ((a + k) / 4) = true
    · rw [if_pos (show (a ≤ a + k ∧ a + k < a + (k + 1)) ∧ L.contains ((a + k) / 4) = true from ⟨by omega, hc⟩), if_pos hc, upd_same, show a + k - a = k by omega]
    · rw [if_neg (show ¬ ((a ≤ a + k ∧ a + k < a + (k + 1)) ∧ L.contains ((a + k) / 4) = true) from fun h => hc h.2), if_neg hc, if_neg (by omega)]
  · have h2 : (if L.contains ((a + k) / 4) = true then upd (fun i => if (a ≤ i ∧ i < a + k) ∧ L.contains (i / 4) = true then g (i - a) else f i) (a + k) (g k) else (fun i => if (a ≤ i ∧ i < a + k) ∧ L.contains (i / 4) = true then g (i - a) else f i)) i = if (a ≤ i ∧ i < a + k) ∧ L.contains (i / 4) = true then g (i - a) else f i := by
      split
      · rw [upd_other _ _ e]
      · rfl
    rw [h2]
    by_cases h3 : (a ≤ i ∧ i < a + k) ∧ L.contains (i / 4) = true
    · rw [if_pos h3, if_pos ⟨by omega, h3.2⟩]
    · rw [if_neg h3, if_neg (fun h => h3 ⟨by omega, h.2⟩)]
/-- In the midst of one byte: the first j blocks are looked at. -/
def fMid (f : Nat → Nat) (a k : Nat) (g : Nat → Nat) (L : List Nat) (j : Nat) : Nat → Nat := if (L.take j).contains ((a + k) / 4) = true then upd (fLay f a k g L) (a + k) (g k) else fLay f a k g L
theorem upd_upd (f : Nat → Nat) (i v : Nat) : upd (upd f i v) i v = upd f i v := by
  funext j
  by_cases e : j = i
  · subst e; rw [upd_same, upd_same]
  · rw [upd_other _ _ e]
theorem fMid_eq (f : Nat → Nat) (a k : Nat) (g : Nat → Nat) (L : List Nat) (j : Nat) (hj : j < L.length) (e : L.getD j 0 = (a + k) / 4) : upd (fMid f a k g L j) (a + k) (g k) = fMid f a k g L (j + 1) := by
  unfold fMid
  have h1 : (L.take (j + 1)).contains ((a + k) / 4) = true := by
    rw [take_succ_getD L j hj, e, List.contains_append]; simp
  rw [if_pos h1]
  split
  · exact upd_upd _ _ _
  · rfl
theorem fMid_ne (f : Nat → Nat) (a k : Nat) (g : Nat → Nat) (L : List Nat) (j : Nat) (hj : j < L.length) (e : L.getD j 0 ≠ (a + k) / 4) : fMid f a k g L (j + 1) = fMid f a k g L j := by
  unfold fMid
  have h1 : (L.take (j + 1)).contains ((a + k) / 4) = (L.take j).contains ((a + k) / 4) := by
    rw [take_succ_getD L j hj, List.contains_append]
    have : ([L.getD j 0].contains ((a + k) / 4)) = false := by
      simp; exact fun h => e h.symm
    rw [this, Bool.or_false]
  rw [h1]
theorem fMid_end (f : Nat → Nat) (a k : Nat) (g : Nat → Nat) (L : List Nat) : fMid f a k g L L.length = fLay f a (k + 1) g L := by
  unfold fMid; rw [List.take_length, fLay_succ]
theorem fMid_zero (f : Nat → Nat) (a k : Nat) (g : Nat → Nat) (L : List Nat) : fMid f a k g L 0 = fLay f a k g L := by
  unfold fMid; simp
set_option maxRecDepth 100000 in
set_option maxHeartbeats 2000000 in
theorem klay_any {w0 : World} (kb bb hb : Nat) (s : St) (f : Nat → Nat) (V : Nat → Value) (lo : Nat → Bool) (bu : Nat → Nat → Bool) (a : Nat) (d : ByteArray) (tp : Option Addr) (m cap : Nat) (L : List Nat) (w : World) (h : KeepAt w0 w kb bb hb s f V lo bu) (had : a + d.size ≤ s.D * s.R * 4) (hm : L.length = m) (hm25 : m ≤ 25) (hL : ∀ k, k < m → L.getD k 0 < 100)
    (hc : ∀ k, k < m → ∃ g, tp = some ⟨g, 0, none⟩ ∧ g ≠ bb ∧ w.cell? ⟨g, k, none⟩ = some (.int .i64 (L.getD k 0 : Nat))) :
    Calls Try.prog 30 #[.pointer (some ⟨kb, 0, none⟩), .int .i64 a, .string d, .slice tp m cap] w fun e w' => e = .returned (.tuple #[]) ∧ KeepAt w0 w' kb bb hb s (fLay f a d.size (byteOfS d) L) V lo bu ∧ Kept (fun g => g = bb) w w' := by
  obtain ⟨hs96, hs4⟩ := h.size
  have HK : Hid (KeepAt w0 w kb bb hb s f V lo bu) := h
  have HM : Hid (L.length = m) := hm
  have HL : Hid (∀ k, k < m → L.getD k 0 < 100) := hL
  have HC : Hid (∀ k, k < m → ∃ g, tp = some ⟨g, 0, none⟩ ∧ g ≠ bb ∧ w.cell? ⟨g, k, none⟩ = some (.int .i64 (L.getD k 0 : Nat))) := hc
  generalize hN : s.D * s.R * 4 = N at *
  have HN : Hid (s.D * s.R * 4 = N) := hN
  clear h hm hL hc hN
  go_enter Try.func30, Try.ntmps30
  go_wp2_with fail
  go_loopw [8, 9] (fun i _ wr => ∃ k : Nat, k ≤ d.size ∧ i = .int .i64 k ∧ Hid (KeepAt w0 wr kb bb hb s (fLay f a k (byteOfS d) L) V lo bu) ∧ Hid (Kept (fun g => g = bb) w wr)) (fun i _ _ => d.size - (intOf i).toNat)
  case atStart => exact ⟨0, by omega, rfl, by rw [fLay_zero]; exact HK, Kept.refl _ _⟩
  case round =>
    obtain ⟨k, hk, rfl, hK, hP⟩ := hrel
    by_cases hlt : k < d.size
    · have hki : (k : Int) < (d.size : Int) := by omega
      have HG : Hid (d[k].toNat = byteOfS d k) := byteOfS_get d k hlt
      go_wp2_with fail
      go_loopw [9] (fun j wi => ∃ jj : Nat, jj ≤ m ∧ j = .int .i64 jj ∧ Hid (KeepAt w0 wi kb bb hb s (fMid f a k (byteOfS d) L jj) V lo bu) ∧ Hid (Kept (fun g => g = bb) w wi)) (fun j _ => m - (intOf j).toNat)
      case atStart => exact ⟨0, by omega, rfl, by rw [fMid_zero]; exact hK, hP⟩
      case round =>
        clear hK hP
        obtain ⟨jj, hjj, rfl, hK, hP⟩ := hrel
        by_cases hltj : jj < m
        · have hji : (jj : Int) < (m : Int) := by omega
          obtain ⟨tb, rfl, htb, hcell0⟩ := HC.out jj hltj
          have hcell : wr.cell? ⟨tb, jj, none⟩ = some (.int .i64 (L.getD jj 0 : Nat)) := hP.out.cell (p := ⟨tb, jj, none⟩) htb hcell0
          have htl : tb < wr.heap.size := block_lt_of_cell hcell
          clear hcell0
          have hx100 := HL.out jj hltj
          obtain ⟨_, _, _, _, _, c5, _⟩ := hK.out.cells
          rw [HN.out] at c5
          have hltk := hK.out.row.lt
          have hltb := hK.out.bytes.lt
          have cb := hK.out.byteCell (a + k) (by rw [HN.out]; omega)
          have cf := hK.out.bytes.frozen (a + k)
          have haki : (a : Int) + k < (N : Int) := by omega
          generalize hx : L.getD jj 0 = x at *
          have HX : Hid (L.getD jj 0 = x) := hx
          have hak : a + k < 200 := by omega
          by_cases e : x = (a + k) / 4
          · have HE : Hid (L.getD jj 0 = (a + k) / 4) := HX.out.trans e
            have he : ((a : Int) + (k : Int)) / 4 = (x : Int) := by omega
            clear e hx
            go_wp2_with fail
            go_region
            all_goals
              go_wp2_with fail
              refine ⟨⟨jj + 1, by omega, by go_num, ?_, (hP.out.setCell (.inl rfl) _).drew⟩, by simp [intOf]; omega⟩
              rw [HG.out]
              have h1 := hK.out.setByte (a + k) (byteOfS d k) (byteOfS_lt d k)
              rw [fMid_eq f a k (byteOfS d) L jj (by rw [HM.out]; omega) HE.out] at h1
              exact h1.of_below (Below.refl _ _).drew
          · have HE : Hid (L.getD jj 0 ≠ (a + k) / 4) := fun h => e (HX.out.symm.trans h)
            have he : ¬ (((a : Int) + (k : Int)) / 4 = (x : Int)) := by omega
            clear e hx
            go_wp2_with fail
            refine ⟨⟨jj + 1, by omega, by go_num, ?_, hP⟩, by simp [intOf]; omega⟩
            rw [fMid_ne f a k (byteOfS d) L jj (by rw [HM.out]; omega) HE.out]; exact hK
        · have hji : ¬ ((jj : Int) < (m : Int)) := by omega
          have hje : jj = m := by omega
          have HJE : Hid (jj = m) := hje
          clear hje
          go_wp2_with fail
          refine ⟨⟨k + 1, by omega, by go_num, ?_, hP⟩, by simp [intOf]; omega⟩
          rw [← fMid_end, HM.out, ← HJE.out]; exact hK
    · have hki : ¬ ((k : Int) < (d.size : Int)) := by omega
      have hke : k = d.size := by omega
      have HKE : Hid (k = d.size) := hke
      clear hke
      go_wp2_with fail
      go_end0
      exact ⟨rfl, by rw [← HKE.out]; exact hK.out, hP.out⟩
end Go.Proofs.Ytfpoiikhhjdpdab
