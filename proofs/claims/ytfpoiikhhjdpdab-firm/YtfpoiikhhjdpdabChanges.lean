/- hoardkeep: which blocks a write makes different. -/
import Derived.Test.YtfpoiikhhjdpdabWorld
namespace Go.Proofs.Ytfpoiikhhjdpdab
open Go.RowKit
set_option linter.unusedVariables false
attribute [local go_sem ↓] Go.wp_at_zero Go.wp_at_succ
/-- Byte i of a text. -/
def byteOfS (d : ByteArray) (i : Nat) : Nat := (d.data.toList.getD i 0).toNat
theorem byteOfS_lt (d : ByteArray) (i : Nat) : byteOfS d i < 256 := UInt8.toNat_lt _
theorem byteOfS_get (d : ByteArray) (i : Nat) (h : i < d.size) : d[i].toNat = byteOfS d i := by
  unfold byteOfS
  have h1 : i < d.data.toList.length := by simpa using h
  rw [List.getD_eq_getElem?_getD, List.getElem?_eq_getElem h1]
  rfl
def chAt (f : Nat → Nat) (a n : Nat) (g : Nat → Nat) (b j : Nat) : Bool := decide (a ≤ b * 4 + j ∧ b * 4 + j < a + n) && (g (b * 4 + j - a) != f (b * 4 + j))
def chTo (f : Nat → Nat) (a n : Nat) (g : Nat → Nat) (b : Nat) : Nat → Bool
  | 0 => false
  | j + 1 => chTo f a n g b j || chAt f a n g b j
def chB (f : Nat → Nat) (a n : Nat) (g : Nat → Nat) (b : Nat) : Bool := chTo f a n g b 4
def chL (f : Nat → Nat) (a n : Nat) (g : Nat → Nat) : Nat → List Nat
  | 0 => []
  | m + 1 => if chB f a n g (a / 4 + m) then chL f a n g m ++ [a / 4 + m] else chL f a n g m
theorem chL_len (f : Nat → Nat) (a n : Nat) (g : Nat → Nat) (m : Nat) : (chL f a n g m).length ≤ m := by
  induction m with
  | zero => simp [chL]
  | succ m ih =>
    simp only [chL]
    split
    · rw [List.length_append]; simp; omega
    · omega
set_option maxRecDepth 100000 in
set_option maxHeartbeats 2000000 in
theorem changes_any {w0 : World} (kb bb hb : Nat) (s : St) (f : Nat → Nat) (V : Nat → Value) (lo : Nat → Bool) (bu : Nat → Nat → Bool) (a : Nat) (d : ByteArray) (w : World) (h : KeepAt w0 w kb bb hb s f V lo bu) (had : a + d.size ≤ s.D * s.R * 4) :
    Calls Try.prog 25 #[.pointer (some ⟨kb, 0, none⟩), .int .i64 a, .string d] w fun e w' => ∃ v, e = .returned v ∧ w'.ownsRow w.heap.size 3 1 v (chL f a d.size (byteOfS d) ((a + d.size + 3) / 4 - a / 4)).length (intsOf (chL f a d.size (byteOfS d) ((a + d.size + 3) / 4 - a / 4))) ∧ Below w.heap.size w w' := by
  obtain ⟨hs, hs4⟩ := h.size
  have HK : Hid (KeepAt w0 w kb bb hb s f V lo bu) := h
  generalize hN : s.D * s.R * 4 = N at *
  have HN : Hid (s.D * s.R * 4 = N) := hN
  clear h hN
  go_enter Try.func25, Try.ntmps25
  go_wp2_with fail
  go_loopw [7, 8, 9, 10, 11] (fun l b _ _ _ wr => ∃ (m bk : Nat) (v : Value), m ≤ (a + d.size + 3) / 4 - a / 4 ∧ Hid (bk = a / 4 + m) ∧ bk ≤ 24 ∧ b = .int .i64 bk ∧ l = v ∧ Hid (wr.ownsRow w.heap.size 3 1 v (chL f a d.size (byteOfS d) m).length (intsOf (chL f a d.size (byteOfS d) m))) ∧ Below w.heap.size w wr) (fun _ b _ _ _ _ => 25 - (intOf b).toNat)
  case atStart => exact ⟨0, a / 4, _, by omega, rfl, by omega, by go_num, rfl, World.ownsRow_nil _ _ _ _, Below.refl _ _⟩
  case round =>
    obtain ⟨m, bk, v, hm, hbk, hb24, rfl, rfl, hown, hbel⟩ := hrel
    by_cases hlt : bk * 4 < a + d.size
    · have hlti : (bk : Int) * 4 < (a : Int) + d.size := by omega
      have hk := HK.out.of_below hbel
      obtain ⟨_, _, _, _, _, c5, _⟩ := hk.cells
      rw [HN.out] at c5
      have HKW : Hid (KeepAt w0 wr kb bb hb s f V lo bu) := hk
      clear hk
      go_wp2_with fail
      go_loopw [9, 10, 11] (fun o at' _ wi => ∃ (j q : Nat), j ≤ 4 ∧ at' = .int .i64 j ∧ o = .bool (chTo f a d.size (byteOfS d) bk j) ∧ wi = wr.drewN q) (fun _ at' _ _ => 4 - (intOf at').toNat)
      case atStart => exact ⟨0, 0, by omega, rfl, rfl, rfl⟩
      case round =>
        obtain ⟨j, q, hj, rfl, rfl, rfl⟩ := hrel
        by_cases hj4 : j < 4
        · have hj4i : (j : Int) < 4 := by omega
          by_cases h1 : a ≤ bk * 4 + j
          · by_cases h2 : bk * 4 + j < a + d.size
            · obtain ⟨i, hi⟩ : ∃ i : Nat, (bk : Int) * 4 + j - a = (i : Int) := ⟨bk * 4 + j - a, by omega⟩
              have hii : bk * 4 + j - a = i := by omega
              have hid : (i : Int) < (d.size : Int) := by omega
              have hid' : i < d.size := by omega
              have cb := HKW.out.byteCell (bk * 4 + j) (by rw [HN.out]; omega)
              have hbN : (bk : Int) * 4 + j < (N : Int) := by omega
              have HG : Hid (d[i].toNat = byteOfS d i) := byteOfS_get d i hid'
              have HCH : Hid (chTo f a d.size (byteOfS d) bk (j + 1) = (chTo f a d.size (byteOfS d) bk j || (byteOfS d i != f (bk * 4 + j)))) := by
                show _ = _
                simp only [chTo, chAt]
                rw [decide_eq_true (by omega), hii, Bool.true_and]
              by_cases hne : byteOfS d i = f (bk * 4 + j)
              · have hbq : (((d[i].toNat : Nat) : Int) != ((f (bk * 4 + j) : Nat) : Int)) = false := by rw [HG.out, hne]; simp
                have HF : Hid (chTo f a d.size (byteOfS d) bk (j + 1) = chTo f a d.size (byteOfS d) bk j) := (show _ = _ by rw [HCH.out, hne]; simp)
                clear HCH hne
                go_wp2_with fail
                go_quiet (fail)
                go_wp2_with fail
                exact ⟨⟨j + 1, _, by omega, by go_num, by rw [HF.out], rfl⟩, by simp [intOf]; omega⟩
              · have hbq : (((d[i].toNat : Nat) : Int) != ((f (bk * 4 + j) : Nat) : Int)) = true := by rw [HG.out, bne_iff_ne]; omega
                have HF : Hid (chTo f a d.size (byteOfS d) bk (j + 1) = true) := (show _ = _ by rw [HCH.out]; simp [hne])
                clear HCH hne
                go_wp2_with fail
                go_quiet (fail)
                go_wp2_with fail
                exact ⟨⟨j + 1, _, by omega, by go_num, by rw [HF.out], rfl⟩, by simp [intOf]; omega⟩
            · have HF : Hid (chTo f a d.size (byteOfS d) bk (j + 1) = chTo f a d.size (byteOfS d) bk j) := by
                show _ = _
                simp only [chTo, chAt]
                rw [decide_eq_false (by omega)]; simp
              obtain ⟨i, hi⟩ : ∃ i : Nat, (bk : Int) * 4 + j - a = (i : Int) := ⟨bk * 4 + j - a, by omega⟩
              have h2i : decide ((i : Int) < (d.size : Int)) = false := by simp; omega
              have h2n : decide (i < d.size) = false := by simp; omega
              go_wp2_with fail
              go_quiet (fail)
              go_wp2_with fail
              exact ⟨⟨j + 1, _, by omega, by go_num, by rw [HF.out], rfl⟩, by simp [intOf]; omega⟩
          · have HF : Hid (chTo f a d.size (byteOfS d) bk (j + 1) = chTo f a d.size (byteOfS d) bk j) := by
              show _ = _
              simp only [chTo, chAt]
              rw [decide_eq_false (by omega)]; simp
            obtain ⟨i, hi⟩ : ∃ i : Int, (bk : Int) * 4 + j - a = i := ⟨_, rfl⟩
            have h1j : i < 0 := by omega
            have h1i : decide ((0 : Int) ≤ i) = false := by simp; omega
            go_wp2_with fail
            go_quiet (fail)
            go_wp2_with fail
            exact ⟨⟨j + 1, _, by omega, by go_num, by rw [HF.out], rfl⟩, by simp [intOf]; omega⟩
        · have hje : j = 4 := by omega
          subst hje
          have hmn : m + 1 ≤ (a + d.size + 3) / 4 - a / 4 := by have := hbk.out; omega
          have hb23 : bk < 24 := by omega
          cases hch : chTo f a d.size (byteOfS d) bk 4
          · have HL : Hid (chL f a d.size (byteOfS d) (m + 1) = chL f a d.size (byteOfS d) m) := by
              show _ = _
              simp only [chL]; rw [← hbk.out, show chB f a d.size (byteOfS d) bk = false from hch]; rfl
            go_wp2_with fail
            refine ⟨⟨m + 1, bk + 1, _, hmn, (show bk + 1 = _ by have := hbk.out; omega), by omega, by go_num, rfl, ?_, below_drewN hbel q⟩, by simp [intOf]; omega⟩
            show World.ownsRow _ _ _ _ _ _ _
            rw [HL.out]; exact hown.out
          · have HL : Hid (chL f a d.size (byteOfS d) (m + 1) = chL f a d.size (byteOfS d) m ++ [bk]) := by
              show _ = _
              simp only [chL]; rw [← hbk.out, show chB f a d.size (byteOfS d) bk = true from hch]; rfl
            have hlen := chL_len f a d.size (byteOfS d) m
            generalize hL : chL f a d.size (byteOfS d) m = L at *
            have HLE : Hid (chL f a d.size (byteOfS d) m = L) := hL
            generalize hln : L.length = ln at *
            have HLN : Hid (L.length = ln) := hln
            have HO : Hid (((wr.drewN q).alloc (Obj.cells #[.int .i64 bk] 3)).ownsRow w.heap.size 3 1 u7 ln (intsOf L)) := by
              have h1 : (wr.drewN q).ownsRow w.heap.size 3 1 u7 ln (intsOf L) := hown.out
              exact h1.alloc _
            have HNW : Hid (∀ j u, [Value.int .i64 bk][j]? = some u → ((wr.drewN q).alloc (Obj.cells #[.int .i64 bk] 3)).cell? ((⟨(wr.drewN q).heap.size, 0, none⟩ : Addr).add j) = some u) := cell_one_new _ _ _
            have hsz := hbel.size
            have hln24 : ln ≤ 24 := by omega
            have hil : (intsOf L).length = ln := by unfold intsOf; rw [List.length_map]; exact hln
            clear hL hln
            go_wp2_with (at_builtin; go_must (refine wpl_append appInt (by rfl) _ _ (by rfl) w.heap.size _ ln (intsOf L) (by rfl) HO.out ⟨wr.heap.size, 0, none⟩ 1 1 [.int .i64 bk] (by rfl) (by rfl) HNW.out (by simp [Value.oneCell']) ?_ ?_ ?_ ?_))
            · simp only [maxLen]; omega
            · omega
            · simp; omega
            · intro v' w3 hown3 hgr hat
              have hb3 : Below w.heap.size w w3 := by
                have k0 : Below w.heap.size w ((wr.drewN q).alloc (Obj.cells #[.int .i64 bk] 3)) := (below_drewN hbel q).alloc hsz _
                exact k0.trans (grown_below hgr (by simp; omega) (fun k hk => (World.ownsRow.lt HO.out k hk).1))
              have HO3 : Hid (w3.ownsRow w.heap.size 3 1 v' (ln + 1) (intsOf L ++ [.int .i64 bk])) := hown3
              clear hown3 hgr hat HO HNW
              go_wp2_with fail
              have e1 : (chL f a d.size (byteOfS d) (m + 1)).length = ln + 1 := by rw [HL.out, List.length_append, HLN.out]; rfl
              have e2 : intsOf (chL f a d.size (byteOfS d) (m + 1)) = intsOf L ++ [.int .i64 bk] := by rw [HL.out]; unfold intsOf; rw [List.map_append]; rfl
              have HF : Hid (w3.ownsRow w.heap.size 3 1 v' (chL f a d.size (byteOfS d) (m + 1)).length (intsOf (chL f a d.size (byteOfS d) (m + 1)))) := by
                show World.ownsRow _ _ _ _ _ _ _
                rw [e1, e2]; exact HO3.out
              first
                | exact ⟨⟨m + 1, bk + 1, v', hmn, (show bk + 1 = _ by have := hbk.out; omega), by omega, by go_num, rfl, HF, hb3⟩, by simp [intOf]; omega⟩
                | (go_roundw
                   case rel => exact ⟨m + 1, bk + 1, v', hmn, (show bk + 1 = _ by have := hbk.out; omega), by omega, by go_num, rfl, HF, hb3⟩
                   case measure => simp [intOf]; omega)
    · have hmm : m = (a + d.size + 3) / 4 - a / 4 := by have := hbk.out; omega
      have HMM : Hid (m = (a + d.size + 3) / 4 - a / 4) := hmm
      have hlti : ¬ ((bk : Int) * 4 < (a : Int) + d.size) := by omega
      clear hmm
      go_wp2_with fail
      go_ret
      have h1 := hown.out
      rw [HMM.out] at h1
      exact ⟨_, rfl, h1, hbel⟩
end Go.Proofs.Ytfpoiikhhjdpdab
