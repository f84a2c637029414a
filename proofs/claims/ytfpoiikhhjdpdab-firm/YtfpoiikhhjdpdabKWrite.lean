/- hoardkeep: a write, and what is read. -/
import Derived.Test.YtfpoiikhhjdpdabChanges
namespace Go.Proofs.Ytfpoiikhhjdpdab
open Go.RowKit
set_option linter.unusedVariables false
attribute [local go_sem ↓] Go.wp_at_zero Go.wp_at_succ
def layN (f : Nat → Nat) (a n : Nat) (g : Nat → Nat) : Nat → Nat := fun i => if a ≤ i ∧ i < a + n then g (i - a) else f i
/-- A cell gets what it holds. -/
theorem kept_same {w : World} {S : Nat → Prop} {b o : Nat} {v : Value} (h : w.cell? ⟨b, o, none⟩ = some v) : Kept S w (w.setCell ⟨b, o, none⟩ v) := by
  refine ⟨rfl, rfl, rfl, by simp [World.setCell], fun k hk _ => ?_⟩
  by_cases e : k = b
  · subst e
    cases hh : w.heap[k]? with
    | none => rw [Array.getElem?_eq_getElem hk] at hh; cases hh
    | some ob =>
      cases ob with
      | cells c t fz =>
        have h1 : c[o]? = some v := by
          simp only [World.cell?] at h
          rw [hh] at h
          simpa using h
        have h2 : c.setIfInBounds o v = c := by
          apply Array.ext_getElem?
          intro i
          by_cases e2 : o = i
          · subst e2
            have h3 : o < c.size := by
              rcases Nat.lt_or_ge o c.size with h4 | h4
              · exact h4
              · rw [Array.getElem?_eq_none h4] at h1; cases h1
            rw [Array.getElem?_setIfInBounds_self_of_lt h3, h1]
          · rw [Array.getElem?_setIfInBounds_ne e2]
        simp only [World.setCell]
        rw [Array.getElem?_modify, if_pos rfl, hh]
        simp [h2]
      | map es cl => simp only [World.cell?] at h; rw [hh] at h; cases h
      | _ => simp only [World.cell?] at h; rw [hh] at h; cases h
  · exact Below.heap_setCell _ _ _ _ e
/-- '[]byte(s)': a new row. -/
theorem conv_bytes (w : World) (d : ByteArray) : ∃ cap w3, (convert 9 33 (.string d)).run Try.prog w = .ok (.slice (some ⟨w.heap.size, 0, none⟩) d.size cap) w3 ∧ Below w.heap.size w w3 ∧ BytesAt w3 (some ⟨w.heap.size, 0, none⟩) d.size (byteOfS d) := by
  refine ⟨_, _, run_bytes_of_string (P := Try.prog) w 9 33 5 d Try.underlying9 Try.underlying33 Try.underlying5, ?_, ?_⟩
  · exact ((Below.refl _ _).drew).alloc (Nat.le_refl _) _
  · intro i hi
    refine ⟨w.heap.size, 0, rfl, ?_, byteOfS_lt d i⟩
    have h1 : i < d.data.size := hi
    have h2 : ∀ (C : Array Value) (fz : Nat × Nat) (v : Value), C[i]? = some v → (w.drew.alloc (.cells C 5 fz)).cell? ⟨w.heap.size, 0 + i, none⟩ = some v := by
      intro C fz v hv
      have : (w.drew.alloc (.cells C 5 fz)).heap[w.heap.size]? = some (.cells C 5 fz) := by
        show (w.heap.push (.cells C 5 fz))[w.heap.size]? = _
        simp
      simp only [World.cell?]
      rw [this]
      simpa using hv
    rw [h2 _ _ _ (bytesRow_at d _ i h1)]
    have : d.data[i].toNat = byteOfS d i := byteOfS_get d i hi
    rw [← this]
theorem layN_succ (f : Nat → Nat) (a k : Nat) (g : Nat → Nat) : upd (layN f a k g) (a + k) (g k) = layN f a (k + 1) g := by
  funext i
  unfold upd layN
  by_cases e : i = a + k
  · subst e; rw [if_pos rfl, if_pos (by omega)]; congr 1; omega
  · rw [if_neg e]
    by_cases h : a ≤ i ∧ i < a + k
    · rw [if_pos h, if_pos (by omega)]
    · rw [if_neg h, if_neg (by omega)]
theorem chL_mem (f : Nat → Nat) (a n : Nat) (g : Nat → Nat) (m : Nat) : ∀ x ∈ chL f a n g m, x < a / 4 + m := by
  induction m with
  | zero => simp [chL]
  | succ m ih =>
    intro x hx
    simp only [chL] at hx
    split at hx
    · rw [List.mem_append] at hx
      rcases hx with hx | hx
      · have := ih x hx; omega
      · simp at hx; omega
    · have := ih x hx; omega
theorem own_cell {w : World} {base e n : Nat} {v : Value} {xs : List Value} (h : w.ownsRow base e 1 v n xs) (i : Nat) (hi : i < n) (x : Value) (hx : xs[i]? = some x) : ∃ g cap, v = .slice (some ⟨g, 0, none⟩) n cap ∧ w.cell? ⟨g, i, none⟩ = some x ∧ w.frozen? ⟨g, i, none⟩ = false := by
  rcases h.2 with ⟨rfl, rfl⟩ | ⟨g, cap, cur, rfl, hb, hg, rest⟩
  · omega
  · refine ⟨g, cap, rfl, ?_, ?_⟩
    · have := World.ownsRow.cells h (g := g) rfl i x hx
      rw [addr_add, Nat.zero_add] at this
      exact this
    · simp only [World.frozen?]
      rw [hg]
      simp
theorem hasB_of {w0 w : World} {kb bb hb : Nat} {s : St} {f : Nat → Nat} {V : Nat → Value} {lo : Nat → Bool} {bu : Nat → Nat → Bool} (h : KeepAt w0 w kb bb hb s f V lo bu) {a n : Nat} (hn : a + n ≤ s.D * s.R * 4) : hasB s a n = true := by
  simp only [hasB, decide_eq_true_eq]
  have : ((s.D * s.R : Nat) : Int) = (s.D : Int) * s.R := by simp
  omega
/-- What is built behind a write that changed some blocks. -/
def buL (D : Nat) (bu : Nat → Nat → Bool) (L : List Nat) : Nat → Nat → Bool := fun d r => bu d r || (decide (d < D) && L.contains (r * D + d))
theorem buL_nil (D : Nat) (bu : Nat → Nat → Bool) : buL D bu [] = bu := by funext d r; simp [buL]
theorem buL_succ (D : Nat) (bu : Nat → Nat → Bool) (L : List Nat) (k x : Nat) (hx : L[k]? = some x) (hD : 0 < D) : buL D bu (L.take (k + 1)) = setBu (buL D bu (L.take k)) (x % D) (x / D) true := by
  funext d r
  unfold buL setBu
  rw [List.take_add_one, hx]
  simp only [Option.toList_some, List.contains_append]
  by_cases e : d = x % D ∧ r = x / D
  · obtain ⟨rfl, rfl⟩ := e
    rw [if_pos ⟨rfl, rfl⟩, decide_eq_true (Nat.mod_lt x hD), Nat.div_add_mod' x D]
    simp
  · rw [if_neg e]
    by_cases hd : d < D
    · have : ¬ (r * D + d = x) := by
        intro h
        refine e ⟨?_, ?_⟩
        · rw [← h, Nat.add_comm, Nat.add_mul_mod_self_right]; exact (Nat.mod_eq_of_lt hd).symm
        · rw [← h, Nat.add_comm, Nat.add_mul_div_right _ _ hD, Nat.div_eq_of_lt hd]; omega
      simp [this]
    · simp [hd]
theorem anyGone_no (s : Ab) (a m : Nat) (h : ∀ i, i < m → goneB s ((a / 4 + i) / s.D) = false) : anyGone s a m = false := by
  induction m with
  | zero => rfl
  | succ m ih =>
    simp only [anyGone]
    rw [ih (fun i hi => h i (by omega))]
    unfold blkGone
    rw [h m (by omega)]
    simp
theorem noGone {s : Ab} (hok : s.ok) {a n : Nat} (hn : a + n ≤ s.D * s.R * 4) (hg : ∀ r, r < s.R → goneB s r = false) : anyGone s a (blkEnd a n - a / 4) = false := by
  refine anyGone_no s a _ (fun i hi => hg _ (Nat.div_lt_of_lt_mul ?_))
  unfold blkEnd at hi
  split at hi <;> omega
set_option maxRecDepth 100000 in
set_option maxHeartbeats 2000000 in
theorem kwrite_foot {w0 : World} (kb bb hb : Nat) (s : St) (f : Nat → Nat) (V : Nat → Value) (lo : Nat → Bool) (bu : Nat → Nat → Bool) (a0 : Int) (d0 : ByteArray) (w : World) (h : KeepAt w0 w kb bb hb s f V lo bu) (ha : -9223372036854775808 ≤ a0 ∧ a0 ≤ 9223372036854775807) (hd : d0.size ≤ maxLen) (hst : s.steps ≤ 2305843009213693952 ∧ s.brk = none) (hgd : ∀ r, r < s.R → goneB s r = false) (a n : Nat) (d : ByteArray)
    (ea : a = pickN a0 (s.D * s.R * 4 + 1)) (ed : d = d0.extract 0 (cutN (s.D * s.R * 4) a d0.size)) (en : n = d.size) :
    Calls Try.prog 37 #[.pointer (some ⟨kb, 0, none⟩), .int .i64 a0, .string d0] w fun e w' => e = .returned (.bool true) ∧ ∃ s', s'.toAb = abWrite s.toAb a n (byteOfS d) ∧ KeepAt w0 w' kb bb hb s' (layN f a n (byteOfS d)) V lo (buL s.D bu (chL f a n (byteOfS d) ((a + n + 3) / 4 - a / 4))) ∧ Kept (KFoot kb bb hb s V) w w' ∧ ∀ k, Foot hb s' k → Foot hb s k ∨ w.heap.size ≤ k := by
  subst en
  obtain ⟨hs, hs4⟩ := h.size
  have haN : a < s.D * s.R * 4 + 1 := by rw [ea]; exact pickN_lt _ _ (by omega)
  have hdn : a + d.size ≤ s.D * s.R * 4 := by
    have : d.size ≤ s.D * s.R * 4 - a := by rw [ed, ByteArray.size_extract]; unfold cutN; omega
    omega
  have HK : Hid (KeepAt w0 w kb bb hb s f V lo bu) := h
  have EA : Hid (a = pickN a0 (s.D * s.R * 4 + 1)) := ea
  have HGD : Hid (∀ r, r < s.R → goneB s r = false) := hgd
  have ED : Hid (d = d0.extract 0 (cutN (s.D * s.R * 4) a d0.size)) := ed
  clear h ea ed
  go_enter Try.func37, Try.ntmps37
  go_wp2_with fail
  refine (cut_any kb bb hb s f V lo bu a0 d0 w HK.out ha hd).mono ?_
  rw [← EA.out, ← ED.out]
  rintro e w1 ⟨rfl, q, rfl⟩
  have k1 := HK.out.of_below (below_drewN (Below.refl _ _) q)
  have p1 : Kept (KFoot kb bb hb s V) w (w.drewN q) := (Kept.refl _ _).drewN q
  generalize w.drewN q = w1 at *
  go_wp2_with fail
  refine (changes_any kb bb hb s f V lo bu a d w1 k1 hdn).mono ?_
  rintro e w2 ⟨v, rfl, hown, k2⟩
  have K2 := k1.of_below k2
  obtain ⟨c0, c1, c2, c3, c4, c5, c6, c7⟩ := K2.cells
  have hlt2 := K2.row.lt
  obtain ⟨cap, w3, hcv, k3, hby⟩ := conv_bytes w2 d
  have K3 := K2.of_below k3
  have HK3 : Hid (KeepAt w0 w3 kb bb hb s f V lo bu) := K3
  have HBY : Hid (BytesAt w3 (some ⟨w2.heap.size, 0, none⟩) d.size (byteOfS d)) := hby
  have HF2 : Hid (∀ g, KFoot kb bb hb s V g → g < w2.heap.size) := fun g hg => K2.lt hg
  have HOW : Hid (w2.ownsRow w1.heap.size 3 1 v (chL f a d.size (byteOfS d) ((a + d.size + 3) / 4 - a / 4)).length (intsOf (chL f a d.size (byteOfS d) ((a + d.size + 3) / 4 - a / 4)))) := hown
  have hz3 : w2.heap.size ≤ w3.heap.size := k3.size
  have HK23 : Hid (Below w2.heap.size w2 w3) := k3
  have p3 : Kept (KFoot kb bb hb s V) w w3 := (p1.trans (Kept.of_below k2)).trans (Kept.of_below k3)
  have HP3 : Hid (Kept (KFoot kb bb hb s V) w w3) := p3
  have HW1 : Hid (w1.heap.size ≤ w2.heap.size) := k2.size
  have HK1 : Hid (KeepAt w0 w1 kb bb hb s f V lo bu) := k1
  clear K3 k3 hby hown K2 k2 k1 p1 p3
  go_wp2_with fail
  refine (Write_ok hb s a (some ⟨w2.heap.size, 0, none⟩) d.size cap (byteOfS d) w3 HK3.out.hoard (hasB_of HK3.out hdn) (noGone HK3.out.hoard.ok hdn HGD.out) HBY.out ?_ hst.1 hst.2).mono ?_
  · intro b o e hf
    simp only [Option.some.injEq, Addr.mk.injEq] at e
    have := HF2.out b (.inr (.inr (.inl hf)))
    omega
  rintro e w4 ⟨s4, rfl, hab, hwent⟩
  have hinv := (blocks_inv s.toAb a d.size (byteOfS d) (blkEnd a d.size - a / 4)).1
  have habw : s4.toAb = abBlocks s.toAb a d.size (byteOfS d) (blkEnd a d.size - a / 4) := hab
  rw [← habw] at hinv
  have i1 : s4.D = s.D := hinv.D
  have i2 : s4.P = s.P := hinv.P
  have i3 : s4.R = s.R := hinv.R
  have i4 : s4.M = s.M := hinv.M
  have K4 := HK3.out.went hwent i1 i2 i3 i4
  have hvb : ∀ g, v.ownBlock = some g → w1.heap.size ≤ g ∧ g < w2.heap.size := fun g hg => World.ownsRow.lt HOW.out g hg
  have HO4 : Hid (w4.ownsRow w1.heap.size 3 1 v (chL f a d.size (byteOfS d) ((a + d.size + 3) / 4 - a / 4)).length (intsOf (chL f a d.size (byteOfS d) ((a + d.size + 3) / 4 - a / 4)))) := by
    refine ownsRow_of_block HOW.out (fun g hg => ?_)
    have h1 := hvb g hg
    refine (hwent.kept.block g (Nat.lt_of_lt_of_le h1.2 hz3) (fun hf => ?_)).trans (HK23.out.block g h1.2)
    have := HK1.out.lt (.inr (.inr (.inl hf)))
    omega
  have HP4 : Hid (Kept (KFoot kb bb hb s V) w w4) := HP3.out.trans' hwent.kept (fun i hi => .inl (.inr (.inr (.inl hi))))
  have HAB : Hid (s4.toAb = abWrite s.toAb a d.size (byteOfS d)) := hab
  have HFT : Hid (∀ k, Foot hb s4 k → Foot hb s k ∨ w.heap.size ≤ k) := fun k hk => by
    rcases hwent.foot k hk with h1 | h1
    · exact .inl h1
    · right; have := HP3.out.size; omega
  have HK4 : Hid (KeepAt w0 w4 kb bb hb s4 f V lo bu) := K4
  have HVB : Hid (∀ g, v.ownBlock = some g → w1.heap.size ≤ g ∧ g < w2.heap.size) := hvb
  have I1 : Hid (s4.D = s.D) := i1
  have I3 : Hid (s4.R = s.R) := i3
  have hN4 : s4.D * s4.R * 4 = s.D * s.R * 4 := by rw [i1, i3]
  have HN4 : Hid (s4.D * s4.R * 4 = s.D * s.R * 4) := hN4
  have hDe : s.D ≤ 4 := HK1.out.hoard.ok.D4
  have hD1 : 1 ≤ s.D := HK1.out.hoard.ok.D1
  clear habw hinv i1 i2 i3 i4 K4 hvb hab hwent hN4 c0 c1 c2 c3 c4 c5 c6 c7 hcv
  go_wp2_with fail
  go_loopw [11] (fun i wr => ∃ k : Nat, k ≤ d.size ∧ i = .int .i64 k ∧ Hid (KeepAt w0 wr kb bb hb s4 (layN f a k (byteOfS d)) V lo bu) ∧ Hid (wr.ownsRow w1.heap.size 3 1 v (chL f a d.size (byteOfS d) ((a + d.size + 3) / 4 - a / 4)).length (intsOf (chL f a d.size (byteOfS d) ((a + d.size + 3) / 4 - a / 4)))) ∧ Hid (Kept (KFoot kb bb hb s V) w wr)) (fun i _ => d.size - (intOf i).toNat)
  case atStart =>
    refine ⟨0, by omega, rfl, ?_, HO4, HP4⟩
    have : layN f a 0 (byteOfS d) = f := by funext i; unfold layN; rw [if_neg (by omega)]
    rw [this]; exact HK4
  case round =>
    obtain ⟨k, hk, rfl, hK, hO, hP⟩ := hrel
    clear HK4 HO4 HP4
    have hltk := hK.out.row.lt
    by_cases hlt : k < d.size
    · obtain ⟨_, _, _, _, _, c5, _⟩ := hK.out.cells
      rw [HN4.out] at c5
      have cb := hK.out.byteCell (a + k) (by rw [HN4.out]; omega)
      have cf := hK.out.bytes.frozen (a + k)
      have hki : (k : Int) < (d.size : Int) := by omega
      have haki : (a : Int) + k < ((s.D * s.R * 4 : Nat) : Int) := by omega
      have HG : Hid (d[k].toNat = byteOfS d k) := byteOfS_get d k hlt
      have hltb := hK.out.bytes.lt
      generalize s.D * s.R * 4 = N at *
      go_wp2_with fail
      go_region
      all_goals
        go_wp2_with fail
        refine ⟨⟨k + 1, by omega, by go_num, ?_, ?_, (hP.out.setCell (.inl (.inr (.inl rfl))) _).drew⟩, by simp [intOf]; omega⟩
        · rw [HG.out]
          have h1 := hK.out.setByte (a + k) (byteOfS d k) (byteOfS_lt d k)
          rw [layN_succ] at h1
          exact h1.of_below (Below.refl _ _).drew
        · show World.ownsRow _ _ _ _ _ _ _
          refine ownsRow_of_block hO.out (fun g hg => ?_)
          have h1 := HVB.out g hg
          exact Below.heap_setCell _ _ _ _ (fun e => by
            have h2 := HK1.out.lt (k := bb) (.inr (.inl rfl))
            have h3 : g = bb := e
            omega)
    · have hke : k = d.size := by omega
      have HKE : Hid (k = d.size) := hke
      have hlti : ¬ ((k : Int) < (d.size : Int)) := by omega
      clear hke
      have hlL := chL_len f a d.size (byteOfS d) ((a + d.size + 3) / 4 - a / 4)
      have hmem := chL_mem f a d.size (byteOfS d) ((a + d.size + 3) / 4 - a / 4)
      generalize hL : chL f a d.size (byteOfS d) ((a + d.size + 3) / 4 - a / 4) = L at *
      have HLE : Hid (chL f a d.size (byteOfS d) ((a + d.size + 3) / 4 - a / 4) = L) := hL
      have HMEM : Hid (∀ x ∈ L, x < a / 4 + ((a + d.size + 3) / 4 - a / 4)) := hmem
      obtain ⟨pv, nv, qv, hv⟩ := own_slice hO.out
      have hnv : nv = L.length := by
        rcases hO.out.2 with ⟨h1, h2⟩ | ⟨g, c, cur, h1, _⟩
        · rw [hv] at h1; cases h1; exact h2.symm
        · rw [hv] at h1; cases h1; rfl
      subst hv
      subst hnv
      have hL24 : L.length ≤ 25 := by omega
      clear hmem hlL hL
      go_wp2_with fail
      go_loopw [12, 13] (fun i _ wi => ∃ k2 : Nat, k2 ≤ L.length ∧ i = .int .i64 k2 ∧ Hid (KeepAt w0 wi kb bb hb s4 (layN f a k (byteOfS d)) V lo (buL s.D bu (L.take k2))) ∧ Hid (wi.ownsRow w1.heap.size 3 1 (.slice pv L.length qv) L.length (intsOf L)) ∧ Hid (Kept (KFoot kb bb hb s V) w wi)) (fun i _ _ => L.length - (intOf i).toNat)
      case atStart => exact ⟨0, by omega, rfl, by rw [List.take_zero, buL_nil]; exact hK, hO, hP⟩
      case round =>
        clear hK hO hP
        obtain ⟨k2, hk2, rfl, hK, hO, hP⟩ := hrel
        by_cases hlt2' : k2 < L.length
        · obtain ⟨x, hx⟩ : ∃ x, L[k2]? = some x := ⟨L[k2], List.getElem?_eq_getElem hlt2'⟩
          have hxL : x ∈ L := List.mem_of_getElem? hx
          have hxb := HMEM.out x hxL
          have hxN : x < s.D * s.R := by omega
          obtain ⟨g, cg, hvg, hcg, _⟩ := own_cell hO.out k2 hlt2' (.int .i64 x) (by unfold intsOf; rw [List.getElem?_map, hx]; rfl)
          cases hvg
          obtain ⟨_, c1, _, _, _, _, _, c7⟩ := hK.out.cells
          rw [I1.out] at c1
          have hdd : x % s.D < s.D := Nat.mod_lt _ (by omega)
          have hrr : x / s.D < s.R := Nat.div_lt_of_lt_mul hxN
          have hr6 : s.R ≤ 6 := HK1.out.hoard.ok.R6
          obtain ⟨g1, q1, g2, q2, hv1, hc1, hv2, hc2, hf2, hl1, hl2⟩ := hK.out.builtAt (x % s.D) (x / s.D) (by rw [I1.out]; omega) (by rw [I3.out]; exact hrr)
          rw [I3.out] at hc1 hv2
          rw [hv1] at c7
          have HTK : Hid (buL s.D bu (L.take (k2 + 1)) = setBu (buL s.D bu (L.take k2)) (x % s.D) (x / s.D) true) := buL_succ s.D bu L k2 x hx (by omega)
          have HSB : Hid (∀ W, KeepAt w0 W kb bb hb s4 (layN f a k (byteOfS d)) V lo (buL s.D bu (L.take k2)) → KeepAt w0 (W.setCell ⟨g2, x / s.D, none⟩ (.bool true)) kb bb hb s4 (layN f a k (byteOfS d)) V lo (setBu (buL s.D bu (L.take k2)) (x % s.D) (x / s.D) true)) := fun W hW => hW.setBuilt (x % s.D) (x / s.D) (by rw [I1.out]; omega) (by rw [I3.out]; exact hrr) true g2 q2 (by rw [I3.out]; exact hv2)
          have HG2 : Hid (KFoot kb bb hb s V g2) := .inr (.inr (.inr ⟨2 + x % s.D, by omega, by rw [hv2]; rfl⟩))
          have hltr := hK.out.row.lt
          generalize hdp : s4.D + s4.P = DP at *
          have hDPi : ((x % s.D : Nat) : Int) < (DP : Int) := by have := I1.out; omega
          generalize hxd : x % s.D = dd at *
          generalize hxr : x / s.D = rr at *
          have hmodi : (x : Int) % s.D = (dd : Int) := by rw [← hxd]; simp
          have hdivi : (x : Int) / s.D = (rr : Int) := by rw [← hxr]; simp
          have hrri : (rr : Int) < (s.R : Int) := by omega
          have hk2i : (k2 : Int) < (L.length : Int) := by omega
          have hx96 : x ≤ 96 := by omega
          have hdd0 : (dd : Int) < (s.D : Int) := by omega
          have hD1i : (0 : Int) < (s.D : Int) := by omega
          clear hxd hxr hv1 hv2 hdp
          go_wp2_with fail
          go_quiet (fail)
          go_wp2_with fail
          rw [hmodi]
          go_region
          all_goals
            go_wp2_with fail
            have hK2 := HSB.out _ (hK.out.of_below (below_drewN (Below.refl _ _) (nq + 1)))
            rw [← HTK.out] at hK2
            have hP2 : Kept (KFoot kb bb hb s V) w ((wr.drewN (nq + 1)).setCell ⟨g2, rr, none⟩ (.bool true)) := (hP.out.drewN (nq + 1)).setCell (.inl HG2.out) _
            refine ⟨⟨k2 + 1, by omega, by go_num, hK2, ?_, hP2⟩, by simp [intOf]; omega⟩
            show World.ownsRow _ _ _ _ _ _ _
            have hO2 : (wr.drewN (nq + 1)).ownsRow w1.heap.size 3 1 _ L.length (intsOf L) := hO.out
            refine ownsRow_of_block hO2 (fun g' hg' => Below.heap_setCell _ _ _ _ (fun e => ?_))
            have h1 := HVB.out g' hg'
            have h2 := HK1.out.lt HG2.out
            have h3 : g' = g2 := e
            omega
        · have hk2e : ¬ ((k2 : Int) < (L.length : Int)) := by omega
          have HKF : Hid (KeepAt w0 wr kb bb hb s4 (layN f a d.size (byteOfS d)) V lo (buL s.D bu L)) := by
            have h1 := hK.out
            rw [List.take_of_length_le (by omega)] at h1
            rw [← HKE.out]; exact h1
          go_wp2_with fail
          go_ret
          exact ⟨rfl, s4, HAB.out, by rw [HLE.out]; exact HKF.out, hP.out, HFT.out⟩
theorem kwrite_any {w0 : World} (kb bb hb : Nat) (s : St) (f : Nat → Nat) (V : Nat → Value) (lo : Nat → Bool) (bu : Nat → Nat → Bool) (a0 : Int) (d0 : ByteArray) (w : World) (h : KeepAt w0 w kb bb hb s f V lo bu) (ha : -9223372036854775808 ≤ a0 ∧ a0 ≤ 9223372036854775807) (hd : d0.size ≤ maxLen) (hst : s.steps ≤ 2305843009213693952 ∧ s.brk = none) (hgd : ∀ r, r < s.R → goneB s r = false) (a n : Nat) (d : ByteArray)
    (ea : a = pickN a0 (s.D * s.R * 4 + 1)) (ed : d = d0.extract 0 (cutN (s.D * s.R * 4) a d0.size)) (en : n = d.size) :
    Calls Try.prog 37 #[.pointer (some ⟨kb, 0, none⟩), .int .i64 a0, .string d0] w fun e w' => e = .returned (.bool true) ∧ ∃ s', s'.toAb = abWrite s.toAb a n (byteOfS d) ∧ KeepAt w0 w' kb bb hb s' (layN f a n (byteOfS d)) V lo (buL s.D bu (chL f a n (byteOfS d) ((a + n + 3) / 4 - a / 4))) ∧ Kept (KFoot kb bb hb s V) w w' :=
  (kwrite_foot kb bb hb s f V lo bu a0 d0 w h ha hd hst hgd a n d ea ed en).mono fun _ _ ⟨h1, s', h2, h3, h4, _⟩ => ⟨h1, s', h2, h3, h4⟩
end Go.Proofs.Ytfpoiikhhjdpdab
