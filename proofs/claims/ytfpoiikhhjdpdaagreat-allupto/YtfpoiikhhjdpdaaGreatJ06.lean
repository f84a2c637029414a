import Derived.Test.YtfpoiikhhjdpdaaGreatJ01
/- drive.merge. -/
namespace Go.Proofs.YtfpoiikhhjdpdaaGreat
open Go.RowKit
set_option linter.unusedVariables false
attribute [local go_sem ↓] Go.wp_at_zero Go.wp_at_succ
def applyRec (s : St) (d : Nat) (r : Rec) : St := s.setCell d r.row ((s.cell d r.row).xor r.c)
def applyRecs (s : St) (d : Nat) (l : List Rec) : St := l.foldl (fun s r => applyRec s d r) s
theorem applyRecs_lv (s : St) (d : Nat) (l : List Rec) : (applyRecs s d l).lv = s.lv ∧ (applyRecs s d l).recs = s.recs ∧ (applyRecs s d l).M = s.M ∧ (applyRecs s d l).R = s.R ∧ (applyRecs s d l).D = s.D ∧ (applyRecs s d l).P = s.P ∧ (applyRecs s d l).steps = s.steps := by
  induction l generalizing s with
  | nil => exact ⟨rfl, rfl, rfl, rfl, rfl, rfl, rfl⟩
  | cons r l ih => exact ih (applyRec s d r)
theorem below_cell {X w2 : World} (h : Below X.heap.size X w2) {p : Addr} {v : Value} (hc : X.cell? p = some v) : w2.cell? p = some v := (h.cell (block_lt_of_cell hc)).trans hc
theorem below_frozen {X w2 : World} {s : St} {hb o : Nat} (h : Below X.heap.size X w2) (hh : HoardIn X hb s) (hc : X.frozen? ⟨hb, o, none⟩ = false) : w2.frozen? ⟨hb, o, none⟩ = false := (h.frozen (p := ⟨hb, o, none⟩) hh.row.lt).trans hc
theorem applyRecs_rest (s : St) (d : Nat) (l : List Rec) : (applyRecs s d l).lost = s.lost ∧ (applyRecs s d l).ub = s.ub ∧ (applyRecs s d l).aux = s.aux := by
  induction l generalizing s with
  | nil => exact ⟨rfl, rfl, rfl⟩
  | cons r l ih => exact ih (applyRec s d r)
theorem applyRecs_succ (s : St) (d k : Nat) (r : Rec) (h : (s.recs d)[k]? = some r) : applyRecs s d ((s.recs d).take (k + 1)) = (applyRecs s d ((s.recs d).take k)).setCell d r.row (((applyRecs s d ((s.recs d).take k)).cell d r.row).xor r.c) := by
  rw [List.take_add_one, h]
  simp [applyRecs, List.foldl_append, applyRec]
theorem below_frozen2 {X w2 : World} {hb o : Nat} (h : Below X.heap.size X w2) (hh : hb < X.heap.size) (hc : X.frozen? ⟨hb, o, none⟩ = false) : w2.frozen? ⟨hb, o, none⟩ = false := (h.frozen (p := ⟨hb, o, none⟩) hh).trans hc
theorem own_slice {w : World} {base e size n : Nat} {v : Value} {xs : List Value} (h : w.ownsRow base e size v n xs) : ∃ p n' c, v = .slice p n' c := by
  rcases h.2 with ⟨rfl, _⟩ | ⟨g, cap, cur, rfl, _⟩
  · exact ⟨_, _, _, rfl⟩
  · exact ⟨_, _, _, rfl⟩
theorem recCells_drop (l : List Rec) (m : Nat) : ∀ j, (recCells (l.drop m))[j]? = if m ≤ l.length then (recCells l)[m * 5 + j]? else none := by
  intro j
  by_cases h : m ≤ l.length
  · rw [if_pos h]
    have : recCells l = recCells (l.take m) ++ recCells (l.drop m) := by
      unfold recCells; rw [← List.flatMap_append, List.take_append_drop]
    rw [this, List.getElem?_append_right (by rw [recCells_length]; simp; omega)]
    congr 1
    rw [recCells_length]; simp [Nat.min_eq_left h]
  · rw [if_neg h, List.drop_eq_nil_of_le (by omega)]; rfl
set_option maxRecDepth 100000 in
set_option maxHeartbeats 4000000 in
theorem dmerge_gt (hb : Nat) (s : St) (d n : Nat) (w : World) (h : HoardIn w hb s) (hd : d < 6) (hp : s.D ≤ d) (hn : n ≤ 9223372036854775807) (hne : s.lv d ≠ .slice none 0 0) (hc0 : (s.recs d).length < n) :
    Calls Tryz.prog 83 #[.pointer (some ⟨hb, 4 + d * 32, none⟩), .int .i64 n] w fun e w' => ∃ v', e = .returned (.int .i64 ((s.recs d).length : Nat)) ∧ HoardIn w' hb ((applyRecs s d ((s.recs d).take n)).setLog d ((s.recs d).drop n) v') ∧ Kept (fun i => i = hb) w w' ∧ (∀ g, v'.ownBlock = some g → w.heap.size ≤ g) := by
  have hl := h.log d hd
  have hlt := h.row.lt
  have hlen := h.ok.len d
  have hM := h.ok.M8
  rcases (h.logs d hd).form with ⟨hv, hr⟩ | ⟨g, cap, hv, hcap, hg, hcells⟩
  · exact absurd hv hne
  · rw [hv] at hl
    generalize hln : (s.recs d).length = len at *
    have HLN : Hid ((s.recs d).length = len) := hln
    have HH : Hid (HoardIn w hb s) := h
    have HV : Hid (s.lv d = .slice (some ⟨g, 0, none⟩) len cap) := hv
    have HC : Hid (∀ j u, (recCells (s.recs d))[j]? = some u → w.cell? ((⟨g, 0, none⟩ : Addr).add j) = some u) := hcells
    clear h hv hcells hln hne
    go_enter Tryz.func83, Tryz.ntmps83
    go_wp2
    go_loopw [5, 6] (fun i _ wr => ∃ k : Nat, k ≤ n ∧ k ≤ len ∧ i = .int .i64 k ∧ HoardIn wr hb (applyRecs s d ((s.recs d).take k)) ∧ Kept (fun i => i = hb) w wr) (fun i _ _ => len - (intOf i).toNat)
    case atStart => exact ⟨0, by omega, by omega, rfl, by simpa [applyRecs] using HH.out, Kept.refl _ _⟩
    case round =>
      obtain ⟨k, hk, hk2, rfl, hh, hkept⟩ := hrel
      clear hl
      have hl := hh.log d hd
      rw [(applyRecs_lv s d _).1, HV.out] at hl
      have hlt2 := hh.row.lt
      by_cases hlt : k < n ∧ k < len
      · obtain ⟨hlt3, hlt4⟩ := hlt
        have hkk : (k : Int) < (len : Int) := by omega
        obtain ⟨r, hr, x0, x1, x2, x3, x4⟩ := recCells_get (s.recs d) k (by have := HLN.out; omega)
        have hgb : g ≠ hb := fun e => HH.out.apart d hd (by rw [HV.out, e]; rfl)
        have cc := fun j u h => hkept.cell (p := ⟨g, 0 + j, none⟩) hgb ((addr_add g 0 j) ▸ HC.out j u h)
        have c0 := cc _ _ x0
        have c1 := cc _ _ x1
        have c2 := cc _ _ x2
        have c3 := cc _ _ x3
        have c4 := cc _ _ x4
        simp only [Nat.zero_add] at c0 c1 c2 c3 c4
        have hrr := HH.out.ok.recs d r (List.mem_of_getElem? hr)
        have hR := HH.out.ok.R6
        have hrow : r.row < 6 := by omega
        have hg2 := block_lt_of_cell c0
        obtain ⟨y0, y1, y2, y3⟩ := hh.cell d r.row hd hrow
        have HR : Hid ((s.recs d)[k]? = some r) := hr
        have HRR : Hid (r.row < s.R ∧ r.c.ok) := hrr
        have HHH : Hid (HoardIn wr hb (applyRecs s d ((s.recs d).take k))) := hh
        have hokc : Hid (((applyRecs s d ((s.recs d).take k)).cell d r.row).ok) := hh.ok.cells d r.row
        generalize hcc : (applyRecs s d ((s.recs d).take k)).cell d r.row = cl at *
        have HCL : Hid ((applyRecs s d ((s.recs d).take k)).cell d r.row = cl) := hcc
        have q0 := hh.row.frozen (4 + d * 32 + 7 + r.row * 4)
        have q1 := hh.row.frozen (4 + d * 32 + 7 + r.row * 4 + 1)
        have q2 := hh.row.frozen (4 + d * 32 + 7 + r.row * 4 + 2)
        have q3 := hh.row.frozen (4 + d * 32 + 7 + r.row * 4 + 3)
        clear cc x0 x1 x2 x3 x4 hr hrr hh hcc
        have HADD : Hid (∀ W, Calls Tryz.prog 108 #[.agg #[.int .u8 cl.b0, .int .u8 cl.b1, .int .u8 cl.b2, .int .u8 cl.b3], .agg #[.int .u8 r.c.b0, .int .u8 r.c.b1, .int .u8 r.c.b2, .int .u8 r.c.b3]] W fun e w' => e = .returned (.agg #[.int .u8 (cl.b0 ^^^ r.c.b0 : Nat), .int .u8 (cl.b1 ^^^ r.c.b1 : Nat), .int .u8 (cl.b2 ^^^ r.c.b2 : Nat), .int .u8 (cl.b3 ^^^ r.c.b3 : Nat)]) ∧ Below W.heap.size W w') := fun W => Add_any cl r.c W hokc.out HRR.out.2
        go_wp2
        clear c0 c1 c2 c3 c4
        have hri : ((r.row : Nat) : Int) < 6 := by omega
        go_region_with ((go_at_call 108; refine (HADD.out _).mono ?_; rintro e w2 ⟨rfl, hbel⟩; obtain ⟨hcc2, hff2⟩ := bcell hbel))
        all_goals
          go_wp2
          have hX := HHH.out.below (((Below.refl _ _).alloc (Nat.le_refl _) (.cells #[.int .i64 r.row, .int .u8 r.c.b0, .int .u8 r.c.b1, .int .u8 r.c.b2, .int .u8 r.c.b3] 92)).drew)
          have h2 := (hX.below hbel).setCell d r.row (cl.xor r.c) hd hrow (C4.xor_ok hokc.out HRR.out.2)
          refine ⟨⟨k + 1, by omega, by omega, by go_num, ?_, ?_⟩, by simp [intOf]; omega⟩
          · rw [applyRecs_succ s d k r HR.out, HCL.out]; exact h2
          · exact ((((((hkept.alloc _).drew.trans (Kept.of_below hbel)).setCell (.inl rfl) _).setCell (.inl rfl) _).setCell (.inl rfl) _).setCell (.inl rfl) _)
      · obtain rfl : len = k := by omega
        have HHH : Hid (HoardIn wr hb (applyRecs s d ((s.recs d).take len))) := hh
        have hfz := hh.row.frozen (4 + d * 32 + 31)
        have hkl : (len : Int) ≤ (cap : Int) := by omega
        clear hh
        go_wp2_with fail
        all_goals
          go_ret
          refine ⟨.slice (some ⟨wr.heap.size, 0, none⟩) 0 0, rfl, ?_, ?_, ?_⟩
          · have hnil : (s.recs d).drop n = [] := List.drop_eq_nil_of_le (by have := HLN.out; omega)
            have htk : (s.recs d).take n = (s.recs d).take len := by
              first | rfl | rw [List.take_of_length_le (by have := HLN.out; omega), List.take_of_length_le (by have := HLN.out; omega)]
            rw [hnil, htk, ← World.setCell_alloc_past _ _ _ _ (by exact hlt2)]
            refine HHH.out.setLog (w1 := wr.alloc (.cells #[] 92)) d [] _ hd (by rw [(applyRecs_lv s d _).2.2.2.2.1]; exact hp) (fun k hk _ => Below.heap_alloc _ _ _ hk) ?_ (by simp) (by simp) (.inr ?_)
            · exact World.ownsRow_made wr #[] 0 (Nat.zero_le _) (by decide) rfl
            · intro g hg
              simp [Value.ownBlock] at hg
              omega
          · exact (hkept.setCell (.inl rfl) _).alloc _
          · intro g hg
            simp [Value.ownBlock] at hg
            have := hkept.size; omega
set_option maxRecDepth 100000 in
set_option maxHeartbeats 4000000 in
theorem dmerge_eq (hb : Nat) (s : St) (d n : Nat) (w : World) (h : HoardIn w hb s) (hd : d < 6) (hp : s.D ≤ d) (hn : n ≤ 9223372036854775807) (hne : s.lv d ≠ .slice none 0 0) (hc0 : (s.recs d).length = n) :
    Calls Tryz.prog 83 #[.pointer (some ⟨hb, 4 + d * 32, none⟩), .int .i64 n] w fun e w' => ∃ v', e = .returned (.int .i64 ((s.recs d).length : Nat)) ∧ HoardIn w' hb ((applyRecs s d ((s.recs d).take n)).setLog d ((s.recs d).drop n) v') ∧ Kept (fun i => i = hb) w w' ∧ (∀ g, v'.ownBlock = some g → w.heap.size ≤ g) := by
  have hl := h.log d hd
  have hlt := h.row.lt
  have hlen := h.ok.len d
  have hM := h.ok.M8
  rcases (h.logs d hd).form with ⟨hv, hr⟩ | ⟨g, cap, hv, hcap, hg, hcells⟩
  · exact absurd hv hne
  · rw [hv] at hl
    generalize hln : (s.recs d).length = len at *
    have HLN : Hid ((s.recs d).length = len) := hln
    have HH : Hid (HoardIn w hb s) := h
    have HV : Hid (s.lv d = .slice (some ⟨g, 0, none⟩) len cap) := hv
    have HC : Hid (∀ j u, (recCells (s.recs d))[j]? = some u → w.cell? ((⟨g, 0, none⟩ : Addr).add j) = some u) := hcells
    clear h hv hcells hln hne
    subst hc0
    go_enter Tryz.func83, Tryz.ntmps83
    go_wp2
    go_loopw [5, 6] (fun i _ wr => ∃ k : Nat, k ≤ len ∧ i = .int .i64 k ∧ HoardIn wr hb (applyRecs s d ((s.recs d).take k)) ∧ Kept (fun i => i = hb) w wr) (fun i _ _ => len - (intOf i).toNat)
    case atStart => exact ⟨0, by omega, rfl, by simpa [applyRecs] using HH.out, Kept.refl _ _⟩
    case round =>
      obtain ⟨k, hk2, rfl, hh, hkept⟩ := hrel
      clear hl
      have hl := hh.log d hd
      rw [(applyRecs_lv s d _).1, HV.out] at hl
      have hlt2 := hh.row.lt
      by_cases hlt : k < len
      · have hlt4 := hlt
        have hkk : (k : Int) < (len : Int) := by omega
        obtain ⟨r, hr, x0, x1, x2, x3, x4⟩ := recCells_get (s.recs d) k (by have := HLN.out; omega)
        have hgb : g ≠ hb := fun e => HH.out.apart d hd (by rw [HV.out, e]; rfl)
        have cc := fun j u h => hkept.cell (p := ⟨g, 0 + j, none⟩) hgb ((addr_add g 0 j) ▸ HC.out j u h)
        have c0 := cc _ _ x0
        have c1 := cc _ _ x1
        have c2 := cc _ _ x2
        have c3 := cc _ _ x3
        have c4 := cc _ _ x4
        simp only [Nat.zero_add] at c0 c1 c2 c3 c4
        have hrr := HH.out.ok.recs d r (List.mem_of_getElem? hr)
        have hR := HH.out.ok.R6
        have hrow : r.row < 6 := by omega
        have hg2 := block_lt_of_cell c0
        obtain ⟨y0, y1, y2, y3⟩ := hh.cell d r.row hd hrow
        have HR : Hid ((s.recs d)[k]? = some r) := hr
        have HRR : Hid (r.row < s.R ∧ r.c.ok) := hrr
        have HHH : Hid (HoardIn wr hb (applyRecs s d ((s.recs d).take k))) := hh
        have hokc : Hid (((applyRecs s d ((s.recs d).take k)).cell d r.row).ok) := hh.ok.cells d r.row
        generalize hcc : (applyRecs s d ((s.recs d).take k)).cell d r.row = cl at *
        have HCL : Hid ((applyRecs s d ((s.recs d).take k)).cell d r.row = cl) := hcc
        have q0 := hh.row.frozen (4 + d * 32 + 7 + r.row * 4)
        have q1 := hh.row.frozen (4 + d * 32 + 7 + r.row * 4 + 1)
        have q2 := hh.row.frozen (4 + d * 32 + 7 + r.row * 4 + 2)
        have q3 := hh.row.frozen (4 + d * 32 + 7 + r.row * 4 + 3)
        clear cc x0 x1 x2 x3 x4 hr hrr hh hcc
        have HADD : Hid (∀ W, Calls Tryz.prog 108 #[.agg #[.int .u8 cl.b0, .int .u8 cl.b1, .int .u8 cl.b2, .int .u8 cl.b3], .agg #[.int .u8 r.c.b0, .int .u8 r.c.b1, .int .u8 r.c.b2, .int .u8 r.c.b3]] W fun e w' => e = .returned (.agg #[.int .u8 (cl.b0 ^^^ r.c.b0 : Nat), .int .u8 (cl.b1 ^^^ r.c.b1 : Nat), .int .u8 (cl.b2 ^^^ r.c.b2 : Nat), .int .u8 (cl.b3 ^^^ r.c.b3 : Nat)]) ∧ Below W.heap.size W w') := fun W => Add_any cl r.c W hokc.out HRR.out.2
        go_wp2
        clear c0 c1 c2 c3 c4
        have hri : ((r.row : Nat) : Int) < 6 := by omega
        go_region_with ((go_at_call 108; refine (HADD.out _).mono ?_; rintro e w2 ⟨rfl, hbel⟩; obtain ⟨hcc2, hff2⟩ := bcell hbel))
        all_goals
          go_wp2
          have hX := HHH.out.below (((Below.refl _ _).alloc (Nat.le_refl _) (.cells #[.int .i64 r.row, .int .u8 r.c.b0, .int .u8 r.c.b1, .int .u8 r.c.b2, .int .u8 r.c.b3] 92)).drew)
          have h2 := (hX.below hbel).setCell d r.row (cl.xor r.c) hd hrow (C4.xor_ok hokc.out HRR.out.2)
          refine ⟨⟨k + 1, by omega, by go_num, ?_, ?_⟩, by simp [intOf]; omega⟩
          · rw [applyRecs_succ s d k r HR.out, HCL.out]; exact h2
          · exact ((((((hkept.alloc _).drew.trans (Kept.of_below hbel)).setCell (.inl rfl) _).setCell (.inl rfl) _).setCell (.inl rfl) _).setCell (.inl rfl) _)
      · obtain rfl : len = k := by omega
        have HHH : Hid (HoardIn wr hb (applyRecs s d ((s.recs d).take len))) := hh
        have hfz := hh.row.frozen (4 + d * 32 + 31)
        have hkl : (len : Int) ≤ (cap : Int) := by omega
        clear hh
        go_wp2_with fail
        all_goals
          go_ret
          refine ⟨.slice (some ⟨wr.heap.size, 0, none⟩) 0 0, rfl, ?_, ?_, ?_⟩
          · have hnil : (s.recs d).drop len = [] := List.drop_eq_nil_of_le (by have := HLN.out; omega)
            have htk : (s.recs d).take len = (s.recs d).take len := by
              first | rfl | rw [List.take_of_length_le (by have := HLN.out; omega), List.take_of_length_le (by have := HLN.out; omega)]
            rw [hnil, htk, ← World.setCell_alloc_past _ _ _ _ (by exact hlt2)]
            refine HHH.out.setLog (w1 := wr.alloc (.cells #[] 92)) d [] _ hd (by rw [(applyRecs_lv s d _).2.2.2.2.1]; exact hp) (fun k hk _ => Below.heap_alloc _ _ _ hk) ?_ (by simp) (by simp) (.inr ?_)
            · exact World.ownsRow_made wr #[] 0 (Nat.zero_le _) (by decide) rfl
            · intro g hg
              simp [Value.ownBlock] at hg
              omega
          · exact (hkept.setCell (.inl rfl) _).alloc _
          · intro g hg
            simp [Value.ownBlock] at hg
            have := hkept.size; omega
set_option maxRecDepth 100000 in
set_option maxHeartbeats 4000000 in
theorem dmerge_lt (hb : Nat) (s : St) (d n : Nat) (w : World) (h : HoardIn w hb s) (hd : d < 6) (hp : s.D ≤ d) (hn : n ≤ 9223372036854775807) (hne : s.lv d ≠ .slice none 0 0) (hc0 : n < (s.recs d).length) :
    Calls Tryz.prog 83 #[.pointer (some ⟨hb, 4 + d * 32, none⟩), .int .i64 n] w fun e w' => ∃ v', e = .returned (.int .i64 (n : Nat)) ∧ HoardIn w' hb ((applyRecs s d ((s.recs d).take n)).setLog d ((s.recs d).drop n) v') ∧ Kept (fun i => i = hb) w w' ∧ (∀ g, v'.ownBlock = some g → w.heap.size ≤ g) := by
  have hl := h.log d hd
  have hlt := h.row.lt
  have hlen := h.ok.len d
  have hM := h.ok.M8
  rcases (h.logs d hd).form with ⟨hv, hr⟩ | ⟨g, cap, hv, hcap, hg, hcells⟩
  · exact absurd hv hne
  · rw [hv] at hl
    generalize hln : (s.recs d).length = len at *
    have HLN : Hid ((s.recs d).length = len) := hln
    have HH : Hid (HoardIn w hb s) := h
    have HV : Hid (s.lv d = .slice (some ⟨g, 0, none⟩) len cap) := hv
    have HC : Hid (∀ j u, (recCells (s.recs d))[j]? = some u → w.cell? ((⟨g, 0, none⟩ : Addr).add j) = some u) := hcells
    clear h hv hcells hln hne
    have hcn : ¬ len < n := by omega
    go_enter Tryz.func83, Tryz.ntmps83
    go_wp2
    go_loopw [5, 6] (fun i _ wr => ∃ k : Nat, k ≤ n ∧ k ≤ len ∧ i = .int .i64 k ∧ HoardIn wr hb (applyRecs s d ((s.recs d).take k)) ∧ Kept (fun i => i = hb) w wr) (fun i _ _ => len - (intOf i).toNat)
    case atStart => exact ⟨0, by omega, by omega, rfl, by simpa [applyRecs] using HH.out, Kept.refl _ _⟩
    case round =>
      obtain ⟨k, hk, hk2, rfl, hh, hkept⟩ := hrel
      clear hl
      have hl := hh.log d hd
      rw [(applyRecs_lv s d _).1, HV.out] at hl
      have hlt2 := hh.row.lt
      by_cases hlt : k < n ∧ k < len
      · obtain ⟨hlt3, hlt4⟩ := hlt
        have hkk : (k : Int) < (len : Int) := by omega
        obtain ⟨r, hr, x0, x1, x2, x3, x4⟩ := recCells_get (s.recs d) k (by have := HLN.out; omega)
        have hgb : g ≠ hb := fun e => HH.out.apart d hd (by rw [HV.out, e]; rfl)
        have cc := fun j u h => hkept.cell (p := ⟨g, 0 + j, none⟩) hgb ((addr_add g 0 j) ▸ HC.out j u h)
        have c0 := cc _ _ x0
        have c1 := cc _ _ x1
        have c2 := cc _ _ x2
        have c3 := cc _ _ x3
        have c4 := cc _ _ x4
        simp only [Nat.zero_add] at c0 c1 c2 c3 c4
        have hrr := HH.out.ok.recs d r (List.mem_of_getElem? hr)
        have hR := HH.out.ok.R6
        have hrow : r.row < 6 := by omega
        have hg2 := block_lt_of_cell c0
        obtain ⟨y0, y1, y2, y3⟩ := hh.cell d r.row hd hrow
        have HR : Hid ((s.recs d)[k]? = some r) := hr
        have HRR : Hid (r.row < s.R ∧ r.c.ok) := hrr
        have HHH : Hid (HoardIn wr hb (applyRecs s d ((s.recs d).take k))) := hh
        have hokc : Hid (((applyRecs s d ((s.recs d).take k)).cell d r.row).ok) := hh.ok.cells d r.row
        generalize hcc : (applyRecs s d ((s.recs d).take k)).cell d r.row = cl at *
        have HCL : Hid ((applyRecs s d ((s.recs d).take k)).cell d r.row = cl) := hcc
        have q0 := hh.row.frozen (4 + d * 32 + 7 + r.row * 4)
        have q1 := hh.row.frozen (4 + d * 32 + 7 + r.row * 4 + 1)
        have q2 := hh.row.frozen (4 + d * 32 + 7 + r.row * 4 + 2)
        have q3 := hh.row.frozen (4 + d * 32 + 7 + r.row * 4 + 3)
        clear cc x0 x1 x2 x3 x4 hr hrr hh hcc
        have HADD : Hid (∀ W, Calls Tryz.prog 108 #[.agg #[.int .u8 cl.b0, .int .u8 cl.b1, .int .u8 cl.b2, .int .u8 cl.b3], .agg #[.int .u8 r.c.b0, .int .u8 r.c.b1, .int .u8 r.c.b2, .int .u8 r.c.b3]] W fun e w' => e = .returned (.agg #[.int .u8 (cl.b0 ^^^ r.c.b0 : Nat), .int .u8 (cl.b1 ^^^ r.c.b1 : Nat), .int .u8 (cl.b2 ^^^ r.c.b2 : Nat), .int .u8 (cl.b3 ^^^ r.c.b3 : Nat)]) ∧ Below W.heap.size W w') := fun W => Add_any cl r.c W hokc.out HRR.out.2
        go_wp2
        clear c0 c1 c2 c3 c4
        have hri : ((r.row : Nat) : Int) < 6 := by omega
        go_region_with ((go_at_call 108; refine (HADD.out _).mono ?_; rintro e w2 ⟨rfl, hbel⟩; obtain ⟨hcc2, hff2⟩ := bcell hbel))
        all_goals
          go_wp2
          have hX := HHH.out.below (((Below.refl _ _).alloc (Nat.le_refl _) (.cells #[.int .i64 r.row, .int .u8 r.c.b0, .int .u8 r.c.b1, .int .u8 r.c.b2, .int .u8 r.c.b3] 92)).drew)
          have h2 := (hX.below hbel).setCell d r.row (cl.xor r.c) hd hrow (C4.xor_ok hokc.out HRR.out.2)
          refine ⟨⟨k + 1, by omega, by omega, by go_num, ?_, ?_⟩, by simp [intOf]; omega⟩
          · rw [applyRecs_succ s d k r HR.out, HCL.out]; exact h2
          · exact ((((((hkept.alloc _).drew.trans (Kept.of_below hbel)).setCell (.inl rfl) _).setCell (.inl rfl) _).setCell (.inl rfl) _).setCell (.inl rfl) _)
      · obtain rfl : n = k := by omega
        have hgb : g ≠ hb := fun e => HH.out.apart d hd (by rw [HV.out, e]; rfl)
        have hone := recCells_one ((s.recs d).drop n)
        have hcl := recCells_length ((s.recs d).drop n)
        rw [List.length_drop, HLN.out] at hcl
        have HHH : Hid (HoardIn wr hb (applyRecs s d ((s.recs d).take n))) := hh
        have H0 : Hid ((wr.alloc (.cells #[] 92)).ownsRow wr.heap.size 92 5 (.slice (some ⟨wr.heap.size, 0, none⟩) 0 0) 0 []) := World.ownsRow_made wr #[] 0 (Nat.le_refl _) (by decide) rfl
        have hg2 : g < wr.heap.size := Nat.lt_of_lt_of_le hg hkept.size
        have HNEW : Hid (∀ j u, (recCells ((s.recs d).drop n))[j]? = some u → (wr.alloc (.cells #[] 92)).cell? ((⟨g, n * 5, none⟩ : Addr).add j) = some u) := by
          intro j u hj
          rw [recCells_drop, if_pos (by rw [HLN.out]; omega)] at hj
          rw [addr_add, World.cell?_alloc_lt _ _ _ (by exact hg2)]
          have := hkept.cell (p := ⟨g, 0 + (n * 5 + j), none⟩) hgb ((addr_add g 0 _) ▸ HC.out _ _ hj)
          simpa using this
        have hfz := hh.row.frozen (4 + d * 32 + 31)
        generalize hcs : recCells ((s.recs d).drop n) = cs at *
        have HCS : Hid (recCells ((s.recs d).drop n) = cs) := hcs
        have hkl : (n : Int) ≤ (len : Int) := by omega
        have hcap2 : (len : Int) ≤ (cap : Int) := by omega
        clear hh hcs
        go_wp2_with (at_builtin; go_must (refine wpl_append appRec (by rfl) _ _ (by rfl) wr.heap.size _ 0 [] (by rfl) H0.out ⟨g, n * 5, none⟩ (len - n) (cap - n) cs (by rfl) hcl ?_ hone ?_ ?_ ?_ ?_))
        · exact HNEW.out
        · simp only [maxLen]; omega
        · omega
        · simp
        · intro v' w2 hown hgr hat
          have hat2 : v'.ownBlock = none ∨ (∀ g', v'.ownBlock = some g' → wr.heap.size ≤ g') := by
            right; intro g' hg'
            rcases hat with h1 | h1
            · rw [h1] at hg'; simp [Value.ownBlock] at hg'; omega
            · rw [h1] at hg'; simp at hg'; omega
          have hge : ∀ g', v'.ownBlock = some g' → wr.heap.size ≤ g' := by
            intro g' hg'
            rcases hat2 with h1 | h1
            · rw [h1] at hg'; cases hg'
            · exact h1 g' hg'
          have hbl : Below wr.heap.size (wr.alloc (.cells #[] 92)) w2 := grown_below hgr (by simp) (by intro k hk; simp [Value.ownBlock] at hk; omega)
          have hbl2 : Below wr.heap.size wr w2 := ((Below.refl _ _).alloc (Nat.le_refl _) _).trans hbl
          have hl2 : w2.cell? ⟨hb, 4 + d * 32 + 31, none⟩ = some (.slice (some ⟨g, 0, none⟩) len cap) := below_cell hbl2 hl
          have hf2 : w2.frozen? ⟨hb, 4 + d * 32 + 31, none⟩ = false := (hbl2.frozen (p := ⟨hb, _, none⟩) hlt2).trans hfz
          have HO : Hid (w2.ownsRow wr.heap.size 92 5 v' (len - n) cs) := hown
          have HGE : Hid (∀ g', v'.ownBlock = some g' → wr.heap.size ≤ g') := hge
          have HBL : Hid (Below wr.heap.size wr w2) := hbl2
          obtain ⟨p', n', c', hv'⟩ := own_slice hown
          subst hv'
          clear hown hgr hat hat2 hge hbl hbl2 HNEW HC
          go_wp2_with fail
          go_ret
          refine ⟨.slice p' n' c', rfl, ?_, ?_, ?_⟩
          · refine HHH.out.setLog (w1 := w2) d _ _ hd (by rw [(applyRecs_lv s d _).2.2.2.2.1]; exact hp) (fun k hk _ => HBL.out.block k hk) ?_ ?_ ?_ (.inr HGE.out)
            · have h1 := HO.out
              rw [← HCS.out] at h1
              refine ⟨by rw [List.length_drop, HLN.out]; exact h1.1, ?_⟩
              rw [List.length_drop, HLN.out]
              rcases h1.2 with h3 | ⟨g', cap', cur', e1, _, rest⟩
              · exact .inl h3
              · exact .inr ⟨g', cap', cur', e1, Nat.zero_le _, rest⟩
            · rw [(applyRecs_lv s d _).2.2.1, List.length_drop, HLN.out]; omega
            · intro x hx
              rw [(applyRecs_lv s d _).2.2.2.1]
              exact HH.out.ok.recs d x (List.mem_of_mem_drop hx)
          · exact Kept.setCell (hkept.trans (⟨HBL.out.os, HBL.out.tape, HBL.out.output, HBL.out.size, fun i hi _ => HBL.out.block i hi⟩)) (.inl rfl) _
          · intro g' hg'
            have := HGE.out g' hg'
            have := hkept.size
            omega
set_option maxRecDepth 100000 in
set_option maxHeartbeats 1000000 in
theorem dmerge_nil (hb : Nat) (s : St) (d n : Nat) (w : World) (h : HoardIn w hb s) (hd : d < 6) (hp : s.D ≤ d) (hn : n ≤ 9223372036854775807) (hz : 0 < n) (hv : s.lv d = .slice none 0 0) :
    Calls Tryz.prog 83 #[.pointer (some ⟨hb, 4 + d * 32, none⟩), .int .i64 n] w fun e w' => ∃ v', e = .returned (.int .i64 0) ∧ HoardIn w' hb (s.setLog d [] v') ∧ Kept (fun i => i = hb) w w' ∧ (∀ g, v'.ownBlock = some g → w.heap.size ≤ g) := by
  have hl := h.log d hd
  have hlt := h.row.lt
  have hfz := h.row.frozen (4 + d * 32 + 31)
  rw [hv] at hl
  have HH : Hid (HoardIn w hb s) := h
  clear h hv
  go_enter Tryz.func83, Tryz.ntmps83
  go_wp2
  go_loopw [5, 6] (fun i _ wr => i = .int .i64 0 ∧ wr = w) (fun _ _ _ => 0)
  case atStart => exact ⟨rfl, rfl⟩
  case round =>
    obtain ⟨rfl, rfl⟩ := hrel
    go_wp2
    go_ret
    refine ⟨.slice (some ⟨wr.heap.size, 0, none⟩) 0 0, rfl, ?_, ?_, ?_⟩
    · rw [← World.setCell_alloc_past _ _ _ _ (by exact hlt)]
      refine HH.out.setLog (w1 := wr.alloc (.cells #[] 92)) d [] _ hd hp (fun k hk _ => Below.heap_alloc _ _ _ hk) ?_ (by simp) (by simp) (.inr ?_)
      · exact World.ownsRow_made wr #[] 0 (Nat.zero_le _) (by decide) rfl
      · intro g hg
        simp [Value.ownBlock] at hg
        omega
    · exact Kept.alloc (Kept.setCell (S := fun i => i = hb) (Kept.refl _ _) (.inl rfl) _) _
    · intro g hg
      simp [Value.ownBlock] at hg
      omega
/-- The n oldest records are merged, or all: the new log lies in new memory. -/
theorem dmerge_any (hb : Nat) (s : St) (d n : Nat) (w : World) (h : HoardIn w hb s) (hd : d < 6) (hp : s.D ≤ d) (hn : n ≤ 9223372036854775807) (hz : 0 < n) :
    Calls Tryz.prog 83 #[.pointer (some ⟨hb, 4 + d * 32, none⟩), .int .i64 n] w fun e w' => ∃ v', e = .returned (.int .i64 (min n (s.recs d).length : Nat)) ∧ HoardIn w' hb ((applyRecs s d ((s.recs d).take n)).setLog d ((s.recs d).drop n) v') ∧ Kept (fun i => i = hb) w w' ∧ (∀ g, v'.ownBlock = some g → w.heap.size ≤ g) := by
  by_cases hv : s.lv d = .slice none 0 0
  · have hr : s.recs d = [] := by
      rcases (h.logs d hd).form with ⟨_, hr⟩ | ⟨g, cap, hv', _⟩
      · exact hr
      · rw [hv] at hv'; cases hv'
    rw [hr]
    simp only [List.length_nil, Nat.min_zero, List.take_nil, List.drop_nil]
    exact dmerge_nil hb s d n w h hd hp hn hz hv
  · rcases Nat.lt_trichotomy (s.recs d).length n with hc | hc | hc
    · rw [Nat.min_eq_right (by omega)]
      exact dmerge_gt hb s d n w h hd hp hn hv hc
    · rw [Nat.min_eq_right (by omega)]
      exact dmerge_eq hb s d n w h hd hp hn hv hc
    · rw [Nat.min_eq_left (by omega)]
      exact dmerge_lt hb s d n w h hd hp hn hv hc
end Go.Proofs.YtfpoiikhhjdpdaaGreat
