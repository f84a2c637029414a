import Derived.Test.YtfpoiikhhjdpdaaGreatJ19
import Derived.Lib.AppendStr
import Derived.Laws.BytesArg
import Derived.Test.YtfpoiikhhjdpdaaGreatJ16
/- hoardlaw: bytes that are handed in, with spare room; are they still as they were? -/
namespace Go.Proofs.YtfpoiikhhjdpdaaGreat
open Go.RowKit
set_option linter.unusedVariables false
attribute [local go_sem ↓] Go.wp_at_zero Go.wp_at_succ
/-- Byte i of a text. -/
def byteOfS (d : ByteArray) (i : Nat) : Nat := (d.data.toList.getD i 0).toNat
theorem byteOfS_lt (d : ByteArray) (i : Nat) : byteOfS d i < 256 := UInt8.toNat_lt _
theorem byteOfS_get (d : ByteArray) (i : Nat) (h : i < d.size) : d[i].toNat = byteOfS d i := by
  unfold byteOfS
  have h1 : i < d.data.toList.length := by simpa using h
  rw [List.getD_eq_getElem?_getD, List.getElem?_eq_getElem h1]
  rfl
/-- '[]byte(s)': a new row. -/
theorem conv_bytes (w : World) (d : ByteArray) : ∃ cap w3, (convert 9 42 (.string d)).run Tryz.prog w = .ok (.slice (some ⟨w.heap.size, 0, none⟩) d.size cap) w3 ∧ Below w.heap.size w w3 ∧ BytesAt w3 (some ⟨w.heap.size, 0, none⟩) d.size (byteOfS d) := by
  refine ⟨_, _, run_bytes_of_string (P := Tryz.prog) w 9 42 5 d Tryz.underlying9 Tryz.underlying42 Tryz.underlying5, ?_, ?_⟩
  · exact ((Below.refl _ _).drew).alloc (Nat.le_refl _) _
  · intro i hi
    refine ⟨w.heap.size, 0, rfl, ?_, byteOfS_lt d i⟩
    have h1 : i < d.data.size := hi
    have h2 : ∀ (C : Array Value) (fz : Nat × Nat) (v : Value), C[i]? = some v → (w.drew.alloc (.cells C 5 fz)).cell? ⟨w.heap.size, 0 + i, none⟩ = some v := by
      intro C fz v hv
      have : (w.drew.alloc (.cells C 5 fz)).heap[w.heap.size]? = some (.cells C 5 fz) := by
        show (w.heap.push (.cells C 5 fz))[w.heap.size]? = _
        simp
      simp only [World.cell?]
      rw [this]
      simpa using hv
    rw [h2 _ _ _ (bytesRow_at d _ i h1)]
    have : d.data[i].toNat = byteOfS d i := byteOfS_get d i hi
    rw [← this]
theorem infoU8 : ∃ i, Tryz.prog.info? 5 = some i ∧ i.zero = some (.int .u8 0) ∧ i.size = 1 ∧ i.bytes = 1 := by
  have h : (Tryz.prog.info? 5).map (fun i => (i.zero, i.size, i.bytes)) = some (some (.int .u8 0), 1, 1) := by kernel_rfl
  exact info_of h
/-- The bytes of a text, and one more. -/
def wideF (S : ByteArray) (j : Nat) : Value := if j < S.size then .int .u8 (byteOfS S j : Nat) else .int .u8 77
theorem wide_get (S : ByteArray) : ∀ j, j < S.size + 1 → (Go.Lib.strCells S ++ [Value.int .u8 77])[j]? = some (wideF S j) := by
  intro j hj
  unfold wideF
  by_cases h : j < S.size
  · rw [List.getElem?_append_left (by rw [Go.Lib.strCells_length]; exact h), if_pos h]
    unfold Go.Lib.strCells byteOfS
    have h1 : j < S.data.toList.length := by simpa using h
    rw [List.getElem?_map, List.getElem?_eq_getElem h1, List.getD_eq_getElem?_getD, List.getElem?_eq_getElem h1]
    rfl
  · rw [List.getElem?_append_right (by rw [Go.Lib.strCells_length]; omega), Go.Lib.strCells_length, if_neg h, show j - S.size = 0 by omega]
    rfl
set_option maxRecDepth 100000 in
set_option maxHeartbeats 1000000 in
theorem wide_any (S : ByteArray) (w : World) (hS : S.size ≤ 1100000) :
    Calls Tryz.prog 40 #[.string S] w fun e w' => ∃ g cap, e = .returned (.slice (some ⟨g, 0, none⟩) S.size cap) ∧ OwnFn w' 5 1 (.slice (some ⟨g, 0, none⟩) (S.size + 1) cap) (S.size + 1) (wideF S) ∧ w.heap.size ≤ g ∧ S.size + 1 ≤ cap ∧ Below w.heap.size w w' := by
  obtain ⟨i8, hi, hz, h1, h2⟩ := infoU8
  have H0 : Hid (w.ownsRow w.heap.size 5 1 (.slice none 0 0) 0 []) := World.ownsRow_nil w _ _ 1
  generalize hsz : S.size = n at *
  have HSZ : Hid (S.size = n) := hsz
  go_enter Tryz.func40, Tryz.ntmps40
  go_wp2_with (at_builtin; go_must (refine Go.Lib.wpList_append_own_string _ (by rfl) _ _ _ _ (by rfl) w.heap.size 5 i8 Tryz.underlying42 Tryz.underlying9 hi hz h1 h2 (.slice none 0 0) 0 [] (by rfl) H0.out S (by rfl) (by simp only [maxLen]; omega) (by omega) (Nat.le_refl _) ?_))
  intro v1 w1 ho1 hg1 hn1
  have hb1 : Below w.heap.size w w1 := grown_below hg1 (Nat.le_refl _) (by intro k hk; simp [Value.ownBlock] at hk)
  obtain ⟨p1, c1, rfl⟩ := own_wid ho1
  have hlen : (Go.Lib.strCells S).length = n := by rw [Go.Lib.strCells_length]; exact hsz
  have HWG : Hid (∀ j, j < S.size + 1 → (Go.Lib.strCells S ++ [Value.int .u8 77])[j]? = some (wideF S j)) := wide_get S
  have HX1 : Hid ((w1.alloc (Obj.cells #[.int .u8 77] 5)).ownsRow w.heap.size 5 1 (.slice p1 n c1) n (Go.Lib.strCells S)) := ho1.alloc _
  have HNW : Hid (∀ (j : Nat) (u : Value), [Value.int .u8 77][j]? = some u → (w1.alloc (Obj.cells #[.int .u8 77] 5)).cell? ((⟨w1.heap.size, 0, none⟩ : Addr).add j) = some u) := cell_one_new _ _ _
  have hone : ∀ u ∈ [Value.int .u8 77], u.oneCell' = true := by simp [Value.oneCell']
  have hsz1 : w.heap.size ≤ w1.heap.size := hb1.size
  have hpo : ∀ k, (Value.slice p1 n c1).ownBlock = some k → w.heap.size ≤ k := fun k hk => (World.ownsRow.lt ho1 k hk).1
  have HB1 : Hid (Below w.heap.size w w1) := hb1
  have HPO : Hid (∀ k, (Value.slice p1 n c1).ownBlock = some k → w.heap.size ≤ k) := hpo
  generalize Go.Lib.strCells S = ss at *
  clear ho1 hg1 hn1 hb1 hpo
  go_wp2_with (at_builtin; go_must (refine wpl_append2 appU8 (by rfl) _ _ (by rfl) w.heap.size (.slice p1 n c1) n ss (by rfl) HX1.out ⟨w1.heap.size, 0, none⟩ 1 1 [.int .u8 77] (by rfl) (by rfl) HNW.out hone (by omega) (by simp only [maxLen]; omega) (by omega) (by simp; omega) ?_))
  intro g2 c2 w2 ho2 hl2
  obtain ⟨k1, k2, k3, k4, k5⟩ := hl2.kept
  have hc2 : n + 1 ≤ c2 := by
    rcases ho2.2 with ⟨e, _⟩ | ⟨g, cap, cur, e, hb, hg, hc, _⟩
    · cases e
    · cases e; exact hc
  have HB2 : Hid (Below w.heap.size w w2) := (show Below _ _ _ by
    have h1 : Below w.heap.size w (w1.alloc (Obj.cells #[.int .u8 77] 5)) := HB1.out.alloc hsz1 _
    exact h1.trans ⟨k1, k2, k3, k4, fun b hb => k5 b (by simp; omega) (fun e => by have := HPO.out b e; omega)⟩)
  have HG2 : Hid (w.heap.size ≤ g2) := (World.ownsRow.lt ho2 g2 rfl).1
  have HF2 : Hid (OwnFn w2 5 1 (.slice (some ⟨g2, 0, none⟩) (n + 1) c2) (n + 1) (wideF S)) := (show OwnFn _ _ _ _ _ _ by
    unfold OwnFn
    have e : (List.range ((n + 1) * 1)).map (wideF S) = ss ++ [Value.int .u8 77] := by
      apply List.ext_getElem?
      intro j
      by_cases hj : j < n + 1
      · rw [HWG.out j (by rw [HSZ.out]; exact hj), List.getElem?_map, List.getElem?_range (by omega)]
        rfl
      · rw [List.getElem?_eq_none (by simp; omega), List.getElem?_eq_none (by simp; omega)]
    rw [e]
    exact ownsRow_base ho2 (fun _ _ => Nat.zero_le _))
  have hci : (n : Int) ≤ (c2 : Int) := by omega
  clear k1 k2 k3 k4 k5 ho2 hl2 HX1 HNW
  go_wp2_with fail
  go_ret
  exact ⟨g2, c2, by first | rfl | simp, HF2.out, HG2.out, hc2, HB2.out⟩
set_option maxRecDepth 100000 in
set_option maxHeartbeats 1000000 in
theorem still_any (S : ByteArray) (g cap : Nat) (w : World) (hS : S.size ≤ 1100000) (h : OwnFn w 5 1 (.slice (some ⟨g, 0, none⟩) (S.size + 1) cap) (S.size + 1) (wideF S)) (hc : S.size + 1 ≤ cap) :
    Calls Tryz.prog 42 #[.slice (some ⟨g, 0, none⟩) S.size cap, .string S] w fun e w' => e = .returned (.bool true) ∧ Kept (fun b => b = g) w w' := by
  have HC : Hid (∀ W, W.heap = w.heap → (convert 42 9 (.slice (some ⟨g, 0, none⟩) S.size cap)).run Tryz.prog W = .ok (.string S) W) := fun W hW => by
    have hr := run_convert_bytes_arg (P := Tryz.prog) W 42 5 Tryz.underlying42 Tryz.underlying5 g 0 S.size cap ((List.range S.size).map (fun j => ((byteOfS S j : Nat) : Int))) (by simp) (fun i hi => by
      obtain ⟨g', cap', e, _, _, hcell, _⟩ := h.slice (by omega)
      injection e with e1 _ _
      injection e1 with e1
      injection e1 with e1
      subst e1
      have h1 := hcell i (by omega)
      rw [Nat.zero_add, World.cell?_of_block (w := w) (by rw [hW]), h1]
      unfold wideF
      rw [if_pos hi]
      simp [List.getD_eq_getElem?_getD, hi]) 9 Tryz.underlying9
    rw [hr]
    congr 2
    apply ByteArray.ext
    apply Array.ext'
    rw [strOfNums_data, List.map_map]
    apply List.ext_getElem?
    intro j
    by_cases hj : j < S.size
    · have h1 : j < S.data.toList.length := by simpa using hj
      rw [List.getElem?_map, List.getElem?_range hj, List.getElem?_eq_getElem h1]
      have h2 : j < S.data.size := hj
      simp [byteOfS, List.getD_eq_getElem?_getD]
      rw [Array.getElem?_eq_getElem h2]
      rfl
    · rw [List.getElem?_eq_none (by simp; omega), List.getElem?_eq_none (by simpa using hj)]
  have HO : Hid (OwnFn w 5 1 (.slice (some ⟨g, 0, none⟩) (S.size + 1) cap) (S.size + 1) (wideF S)) := h
  obtain ⟨g', cap', e, _, hg, hcell, hfz⟩ := h.slice (by omega)
  injection e with e1 _ e3
  injection e1 with e1
  injection e1 with e1
  subst e1 e3
  have cn := hcell S.size (by omega)
  unfold wideF at cn
  rw [if_neg (by omega)] at cn
  generalize hsz : S.size = n at *
  clear h hcell hfz
  have hci : ((n + 1 : Nat) : Int) ≤ (cap : Int) := by omega
  have hconv := HC.out w rfl
  have HO0 : Hid (OwnFn w 5 1 (.slice (some ⟨g, 0, none⟩) (n + 1) cap) (n + 1) (fun j => if j < 0 then .int .u8 78 else wideF S j)) := HO.out.congr (fun j _ => by rw [if_neg (by omega)])
  go_enter Tryz.func42, Tryz.ntmps42
  go_wp2_with fail
  go_loopw [7] (fun i wr => ∃ k : Nat, k ≤ n + 1 ∧ i = .int .i64 k ∧ Hid (OwnFn wr 5 1 (.slice (some ⟨g, 0, none⟩) (n + 1) cap) (n + 1) (fun j => if j < k then .int .u8 78 else wideF S j)) ∧ Hid (Kept (fun b => b = g) w wr)) (fun i _ => n + 1 - (intOf i).toNat)
  case atStart => exact ⟨0, by omega, rfl, HO0, Kept.refl _ _⟩
  case round =>
    clear HO0 cn hconv
    obtain ⟨k, hk, rfl, hown, hkept⟩ := hrel
    by_cases hlt : k < n + 1
    · have hki : (k : Int) < ((n + 1 : Nat) : Int) := by omega
      have hki2 : (k : Int) < (n : Int) + 1 := by omega
      obtain ⟨g', cap', e, hcc, hg', hcell, hfz⟩ := hown.out.slice (by omega)
      injection e with e1 e2 e3
      injection e1 with e1
      injection e1 with e1
      subst e1 e3
      have c0 := hcell k (by omega)
      have f0 := hfz k
      have HO2 : Hid (OwnFn (wr.setCell ⟨g, k, none⟩ (.int .u8 78)) 5 1 (.slice (some ⟨g, 0, none⟩) (n + 1) cap) (n + 1) (fun j => if j < k + 1 then .int .u8 78 else wideF S j)) := (hown.out.set k (.int .u8 78)).congr (fun j hj => by
        by_cases e : j = k
        · rw [if_pos e, if_pos (by omega)]
        · rw [if_neg e]
          by_cases e2 : j < k
          · rw [if_pos e2, if_pos (by omega)]
          · rw [if_neg e2, if_neg (by omega)])
      have HK2 : Hid (Kept (fun b => b = g) w (wr.setCell ⟨g, k, none⟩ (.int .u8 78))) := hkept.out.setCell (p := ⟨g, k, none⟩) (.inl rfl) _
      clear hcell hfz hown hkept e2
      go_wp2_with fail
      exact ⟨⟨k + 1, by omega, by go_num, HO2, HK2⟩, by simp [intOf]; omega⟩
    · have hki : ¬ ((k : Int) < ((n + 1 : Nat) : Int)) := by omega
      have hki2 : ¬ ((k : Int) < (n : Int) + 1) := by omega
      clear hown
      go_wp2_with fail
      go_ret
      exact ⟨rfl, hkept.out⟩
end Go.Proofs.YtfpoiikhhjdpdaaGreat

/- The document: the oldest record of a log is merged. -/
namespace Go.Proofs.YtfpoiikhhjdpdaaGreat
open Go.RowKit
set_option linter.unusedVariables false
attribute [local go_sem ↓] Go.wp_at_zero Go.wp_at_succ
/-- The first m bytes of the sum, then those of c. -/
def mixC (c x : C4) (m : Nat) : C4 := C4.mk4 (fun j => if j < m then c.at j ^^^ x.at j else c.at j)
theorem mixC_at (c x : C4) (m j : Nat) (hj : j < 4) : (mixC c x m).at j = if j < m then c.at j ^^^ x.at j else c.at j := C4.at_mk4 _ j hj
theorem mixC_zero (c x : C4) : mixC c x 0 = c := C4.ext' (fun i hi => by rw [mixC_at _ _ _ _ hi, if_neg (by omega)])
theorem mixC_four (c x : C4) : mixC c x 4 = c.xor x := C4.ext' (fun i hi => by rw [mixC_at _ _ _ _ hi, if_pos hi, C4.at_xor])
theorem mixC_put (c x : C4) (m : Nat) (hm : m < 4) : (mixC c x m).put m (c.at m ^^^ x.at m) = mixC c x (m + 1) := C4.ext' (fun i hi => by
  rw [C4.at_put _ _ _ _ hi, mixC_at _ _ _ _ hi, mixC_at _ _ _ _ hi]
  by_cases e : i = m
  · rw [if_pos e, if_pos (by omega), e]
  · rw [if_neg e]
    by_cases e2 : i < m
    · rw [if_pos e2, if_pos (by omega)]
    · rw [if_neg e2, if_neg (by omega)])
theorem setCell_self (a : Ab) (d r : Nat) : a.setCell d r (a.cell d r) = a := by
  unfold Ab.setCell
  have : (fun d' r' => if d' = d ∧ r' = r then a.cell d r else a.cell d' r') = a.cell := by
    funext d' r'
    split
    · rename_i e; rw [e.1, e.2]
    · rfl
  rw [this]
theorem box5_row (w : World) (t : Nat) (x : Rec) (H : Nat) (hH : w.heap.size = H) : (w.alloc (.cells #[.int .i64 x.row, .int .u8 x.c.b0, .int .u8 x.c.b1, .int .u8 x.c.b2, .int .u8 x.c.b3] t)).rowIs H t 5 (fun j => if j = 0 then .int .i64 x.row else .int .u8 (x.c.at (j - 1))) := by
  subst hH
  refine World.rowIs_alloc w _ _ _ ?_
  intro i hi
  have hi' : i < 5 := hi
  have : i = 0 ∨ i = 1 ∨ i = 2 ∨ i = 3 ∨ i = 4 := by omega
  rcases this with rfl | rfl | rfl | rfl | rfl <;> rfl
theorem ownsRow_base0 {w : World} {base e size n : Nat} {v : Value} {xs : List Value} (h : w.ownsRow base e size v n xs) : w.ownsRow 0 e size v n xs := by
  refine ⟨h.1, ?_⟩
  rcases h.2 with h1 | ⟨g, cap, cur, rfl, hg0, hg, rest⟩
  · exact .inl h1
  · exact .inr ⟨g, cap, cur, rfl, Nat.zero_le _, hg, rest⟩
set_option maxRecDepth 100000 in
set_option maxHeartbeats 2000000 in
theorem rmerge_any (yb : Nat) (a : Ab) (V : Nat → Value) (left : Int) (dn : Bool) (d : Nat) (w : World) (h : RefIn w yb a V left dn) (hd : d < a.D + a.P) (hp : a.D ≤ d) (x : Rec) (l : List Rec) (hrec : a.recs d = x :: l) :
    Calls Tryz.prog 84 #[.pointer (some ⟨yb, 0, none⟩), .int .i64 d] w fun e w' => e = .returned (.tuple #[]) ∧ ∃ V', RWent yb a V w (abMerge a d 1) V' left dn w' := by
  have hD := h.ok.D4
  have hP := h.ok.P2
  have hR := h.ok.R6
  have hM := h.ok.M8
  have hlen := h.ok.len d
  obtain ⟨_, _, _, _, c4, _⟩ := h.cells
  have hlt := h.row.lt
  obtain ⟨g, cap, e0, hg, hgy, hdr⟩ := h.drive
  obtain ⟨_, _, d2, d3⟩ := hdr d hd
  obtain ⟨gc, capc, ec, hgc, hfz, hce⟩ := h.cellsOf d hd
  have hxr := h.ok.recs d x (by rw [hrec]; simp)
  have hf3 : w.frozen? ⟨g, d * 4 + 3, none⟩ = false := by
    have h1 := h.dr
    rw [e0] at h1
    exact World.ownsRow.frozenAt h1 _
  obtain ⟨gl, capl, el, hcapl, hgl, hcells⟩ : ∃ gl capl, V (3 + 3 * d) = .slice (some ⟨gl, 0, none⟩) (l.length + 1) capl ∧ l.length + 1 ≤ capl ∧ gl < w.heap.size ∧ ∀ j u, (recCells (x :: l))[j]? = some u → w.cell? ((⟨gl, 0, none⟩ : Addr).add j) = some u := by
    rcases (h.lg d hd).form with ⟨_, h2⟩ | ⟨gl, capl, h1, h2, h3, h4⟩
    · rw [hrec] at h2; cases h2
    · rw [hrec] at h1 h2 h4
      exact ⟨gl, capl, h1, h2, h3, h4⟩
  rw [hrec] at hlen
  have hll : l.length + 1 ≤ 8 := by simp only [List.length_cons] at hlen; omega
  have cc := fun j u (hj : (recCells (x :: l))[j]? = some u) => (addr_add gl 0 j) ▸ hcells j u hj
  have z0 := cc 0 _ rfl
  have z1 := cc 1 _ rfl
  have z2 := cc 2 _ rfl
  have z3 := cc 3 _ rfl
  have z4 := cc 4 _ rfl
  simp only [Nat.zero_add] at z0 z1 z2 z3 z4
  have HNW : Hid (∀ j u, (recCells l)[j]? = some u → w.cell? ⟨gl, 5 + j, none⟩ = some u) := fun j u hj => by
    have h1 := cc (5 + j) u (by
      have : recCells (x :: l) = x.cells ++ recCells l := rfl
      rw [this, List.getElem?_append_right (by simp [Rec.cells])]
      simpa [Rec.cells] using hj)
    simpa using h1
  have HH : Hid (RefIn w yb a V left dn) := h
  have HEC : Hid (V (2 + 3 * d) = .slice (some ⟨gc, 0, none⟩) a.R capc) := ec
  have HE0 : Hid (V 0 = .slice (some ⟨g, 0, none⟩) (a.D + a.P) cap) := e0
  have HREC : Hid (a.recs d = x :: l) := hrec
  have hgg : gl ≠ g := fun e => h.ap2 0 (3 + 3 * d) g (by omega) (by omega) (by omega) (by rw [e0]; rfl) (by rw [el, e]; rfl)
  have hgcl : gc ≠ gl := fun e => h.ap2 (2 + 3 * d) (3 + 3 * d) gl (by omega) (by omega) (by omega) (by rw [ec, e]; rfl) (by rw [el]; rfl)
  have hgcg : gc ≠ g := fun e => h.ap2 (2 + 3 * d) 0 g (by omega) (by omega) (by omega) (by rw [ec, e]; rfl) (by rw [e0]; rfl)
  have hgcy : gc ≠ yb := fun e => h.ap (2 + 3 * d) (by omega) (by rw [ec, e]; rfl)
  rw [e0] at c4
  rw [ec] at d2
  rw [el] at d3
  obtain ⟨hx1, hx2⟩ := hxr
  have hdi : (d : Int) < ((a.D + a.P : Nat) : Int) := by omega
  have hd6 : d < 6 := by omega
  have HX2 : Hid (x.c.ok) := hx2
  have HCO : Hid ((a.cell d x.row).ok) := h.ok.cells d x.row
  have HBX : Hid ((w.alloc (.cells #[.int .i64 x.row, .int .u8 x.c.b0, .int .u8 x.c.b1, .int .u8 x.c.b2, .int .u8 x.c.b3] 92)).rowIs w.heap.size 92 5 (fun j => if j = 0 then .int .i64 x.row else .int .u8 (x.c.at (j - 1)))) := box5_row w _ x _ rfl
  have HB0 : Hid (Below w.heap.size w (w.alloc (.cells #[.int .i64 x.row, .int .u8 x.c.b0, .int .u8 x.c.b1, .int .u8 x.c.b2, .int .u8 x.c.b3] 92))) := (Below.refl _ _).alloc (Nat.le_refl _) _
  generalize hln : l.length = ln at *
  have HLN : Hid (l.length = ln) := hln
  obtain ⟨L1, hL1⟩ : ∃ L1, ln + 1 = L1 := ⟨_, rfl⟩
  rw [hL1] at d3 hcapl hll el
  have HEL : Hid (V (3 + 3 * d) = .slice (some ⟨gl, 0, none⟩) L1 capl) := el
  have hL2 : (1 : Int) ≤ (L1 : Int) := by omega
  have HL1 : Hid (L1 - 1 = ln) := (show _ = _ by omega)
  clear h hdr hce e0 ec el hcells cc hrec hln hx2 hfz hlen hL1
  generalize hnn : a.D + a.P = n at *
  have HNN : Hid (a.D + a.P = n) := hnn
  clear hnn
  go_enter Tryz.func84, Tryz.ntmps84
  go_wp2_with fail
  generalize hwb : w.alloc (.cells #[.int .i64 x.row, .int .u8 x.c.b0, .int .u8 x.c.b1, .int .u8 x.c.b2, .int .u8 x.c.b3] 92) = wb at *
  clear hwb
  have HM0 : Hid (RefIn wb yb (a.setCell d x.row (mixC (a.cell d x.row) x.c 0)) V left dn) := (show RefIn _ _ _ _ _ _ by rw [mixC_zero, setCell_self]; exact HH.out.below HB0.out)
  have HK0 : Hid (Kept (fun b => b = gc) w wb) := Kept.of_below HB0.out
  go_loopw [6] (fun c wi => ∃ m : Nat, m ≤ 4 ∧ c = .int .i64 m ∧ Hid (RefIn wi yb (a.setCell d x.row (mixC (a.cell d x.row) x.c m)) V left dn) ∧ Hid (wi.rowIs w.heap.size 92 5 (fun j => if j = 0 then .int .i64 x.row else .int .u8 (x.c.at (j - 1)))) ∧ Hid (Kept (fun b => b = gc) w wi)) (fun c _ => 4 - (intOf c).toNat)
  case atStart => exact ⟨0, by omega, rfl, HM0, HBX, HK0⟩
  case round =>
    clear HM0 HBX HK0 HB0
    obtain ⟨m, hm, rfl, hin, hbx, hkp⟩ := hrel
    have D3 := hkp.out.cell (p := ⟨g, d * 4 + 3, none⟩) (Ne.symm hgcg) d3
    have D2 := hkp.out.cell (p := ⟨g, d * 4 + 2, none⟩) (Ne.symm hgcg) d2
    have hgl2 := Nat.lt_of_lt_of_le hgl hkp.out.size
    have hg2 := Nat.lt_of_lt_of_le hg hkp.out.size
    have hgc2 := Nat.lt_of_lt_of_le hgc hkp.out.size
    by_cases hm4 : m < 4
    · have hmi : (m : Int) < 4 := by omega
      obtain ⟨gc', capc', ec', _, hfz', hce'⟩ := hin.out.cellsOf d (by show d < a.D + a.P; rw [HNN.out]; omega)
      have ecc : (Value.slice (some ⟨gc', 0, none⟩) a.R capc') = .slice (some ⟨gc, 0, none⟩) a.R capc := ec'.symm.trans HEC.out
      simp only [Value.slice.injEq, Option.some.injEq, Addr.mk.injEq, and_true, true_and] at ecc
      obtain ⟨rfl, rfl⟩ := ecc
      have y0 := hce' x.row m hx1 hm4
      rw [Ab.setCell_same, mixC_at _ _ _ _ hm4, if_neg (by omega)] at y0
      have f0 := hfz' (x.row * 4 + m)
      have x0 := hbx.out.cell (i := 0) (by omega)
      have x1 := hbx.out.cell (i := 1 + m) (by omega)
      rw [if_pos rfl] at x0
      rw [if_neg (by omega), show 1 + m - 1 = m by omega] at x1
      have hbl := hbx.out.lt
      have hcl := C4.at_lt HCO.out m
      have hxl := C4.at_lt HX2.out m
      have hxx := u8_xor_nat ((a.cell d x.row).at m) (x.c.at m) hcl hxl
      have HE5 : Hid (RefIn (wr.setCell ⟨gc', x.row * 4 + m, none⟩ (.int .u8 ((a.cell d x.row).at m ^^^ x.c.at m : Nat))) yb (a.setCell d x.row (mixC (a.cell d x.row) x.c (m + 1))) V left dn) := (show RefIn _ _ _ _ _ _ by
        have h1 := hin.out.setByte d x.row m ((a.cell d x.row).at m ^^^ x.c.at m) (by show d < a.D + a.P; rw [HNN.out]; omega) hx1 hm4 (Hd.xor_lt _ _ hcl hxl) gc' capc' HEC.out
        unfold Ab.putB at h1
        rw [Ab.setCell_same, Ab.setCell_setCell, mixC_put _ _ _ hm4] at h1
        exact h1)
      have HX5 : Hid ((wr.setCell ⟨gc', x.row * 4 + m, none⟩ (.int .u8 ((a.cell d x.row).at m ^^^ x.c.at m : Nat))).rowIs w.heap.size 92 5 (fun j => if j = 0 then .int .i64 x.row else .int .u8 (x.c.at (j - 1)))) := hbx.out.setOther (by simp; omega) _
      have HK5 : Hid (Kept (fun b => b = gc') w (wr.setCell ⟨gc', x.row * 4 + m, none⟩ (.int .u8 ((a.cell d x.row).at m ^^^ x.c.at m : Nat)))) := hkp.out.setCell (p := ⟨gc', x.row * 4 + m, none⟩) (.inl rfl) _
      have hri : (x.row : Int) < (a.R : Int) := by omega
      have hr6 : x.row < 6 := by omega
      clear hin hbx hkp hce' hfz'
      generalize (a.cell d x.row).at m = cm at *
      generalize x.c.at m = xm at *
      generalize hxr : x.row = xr at *
      have HXR : Hid (x.row = xr) := hxr
      clear hxr
      go_wp2_with fail
      go_region
      all_goals
        go_wp2_with fail
        exact ⟨⟨m + 1, by omega, by go_num, by first | exact HE5 | exact RefIn.of_block HE5.out (fun _ _ => rfl), by first | exact HX5 | exact World.rowIs.of_block HX5.out rfl, by first | exact HK5 | exact HK5.out.drew⟩, by simp [intOf]; omega⟩
    · have hme : m = 4 := by omega
      have hmi : ¬ ((m : Int) < 4) := by omega
      have HIN : Hid (RefIn wr yb (a.setCell d x.row ((a.cell d x.row).xor x.c)) V left dn) := (show RefIn _ _ _ _ _ _ by have h1 := hin.out; rw [hme, mixC_four] at h1; exact h1)
      clear hin hme hbx
      have H0 : Hid (wr.ownsRow wr.heap.size 92 5 (.slice none 0 0) 0 []) := World.ownsRow_nil wr _ _ 5
      have HNEW : Hid (∀ j u, (recCells l)[j]? = some u → wr.cell? ((⟨gl, 5, none⟩ : Addr).add j) = some u) := fun j u hj => by
        rw [addr_add]
        exact hkp.out.cell (p := ⟨gl, 5 + j, none⟩) (Ne.symm hgcl) (HNW.out j u hj)
      have hcl := recCells_length l
      rw [HLN.out] at hcl
      have hone := recCells_one l
      have hf4 : wr.frozen? ⟨g, d * 4 + 3, none⟩ = false := by
        have h1 : OwnFn wr 111 4 (V 0) (a.D + a.P) (drF a V) := HIN.out.dr
        rw [HNN.out, HE0.out] at h1
        exact World.ownsRow.frozenAt h1 _
      generalize hcs : recCells l = cs at *
      have HCS : Hid (recCells l = cs) := hcs
      clear hcs HNW
      have hcap1 : (L1 : Int) ≤ (capl : Int) := by omega
      rw [← HL1.out] at hcl
      have HFIN : Hid (∀ (v' : Value) (w2 : World), w2.ownsRow wr.heap.size 92 5 v' (L1 - 1) cs → wr.grownBy w2 (Value.slice none 0 0).ownBlock → (∃ p' c', v' = .slice p' ln c') ∧ w2.cell? ⟨g, d * 4 + 3, none⟩ = some (.slice (some ⟨gl, 0, none⟩) L1 capl) ∧ w2.frozen? ⟨g, d * 4 + 3, none⟩ = false ∧ g < w2.heap.size ∧ RWent yb a V w (abMerge a d 1) (setV V (3 + 3 * d) v') left dn (w2.setCell ⟨g, d * 4 + 3, none⟩ v')) := fun v' w2 hown hgr => by
        have hbl : Below wr.heap.size wr w2 := grown_below hgr (Nat.le_refl _) (by intro k hk; simp [Value.ownBlock] at hk)
        have hge := fun k hk => (World.ownsRow.lt hown k hk).1
        have hgf : g < w2.heap.size := Nat.lt_of_lt_of_le hg2 hbl.size
        rw [HL1.out, ← HCS.out] at hown
        have hlog : LogAt w2 v' l := by
          have h1 := ownsRow_base0 hown
          rw [← HLN.out] at h1
          exact h1
        have hr1 := HIN.out.setLog (w1 := w2) d l v' (by show d < a.D + a.P; rw [HNN.out]; omega) hp g cap (by show V 0 = .slice _ (a.D + a.P) cap; rw [HNN.out]; exact HE0.out) (fun k hk _ => hbl.block k (HIN.out.foot_lt hk)) hlog (by show l.length ≤ a.M; have := HH.out.ok.len d; rw [HREC.out, List.length_cons] at this; omega) (fun y hy => HH.out.ok.recs d y (by rw [HREC.out]; simp [hy])) (fun k hk => .inr (hge k hk))
        refine ⟨?_, below_cell' hbl D3, (hbl.frozen (p := ⟨g, _, none⟩) hg2).trans hf4, hgf, ?_, ?_, ?_⟩
        · obtain ⟨p', n', c', e⟩ := own_slice hown
          rcases hown.2 with ⟨e2, h0⟩ | ⟨g', cap', cur, e2, _⟩
          · exact ⟨none, 0, by rw [e2, h0]⟩
          · exact ⟨_, _, e2⟩
        · rw [merge1 a d x l HREC.out]; exact hr1
        · have hk1 : Kept (RFoot yb a V) w wr := hkp.out.mono (fun b hb => .inr ⟨2 + 3 * d, by rw [HNN.out]; omega, by rw [HEC.out, hb]; rfl⟩)
          exact (hk1.trans (Kept.of_below hbl)).setCell (.inl (.inr ⟨0, by omega, by rw [HE0.out]; rfl⟩)) _
        · intro k hk
          rw [merge1 a d x l HREC.out] at hk
          rcases hk with h1 | ⟨i, hi, h1⟩
          · exact .inl (.inl h1)
          · replace hi : i < 1 + 3 * (a.D + a.P) := hi
            by_cases e : i = 3 + 3 * d
            · rw [e, setV_same] at h1
              exact .inr (Nat.le_trans hkp.out.size (hge k h1))
            · rw [setV_ne _ _ _ _ e] at h1
              exact .inl (.inr ⟨i, hi, h1⟩)
      have HADR : Hid (∃ ad : Addr, (if capl = 1 then (some ⟨gl, 0, none⟩ : Option Addr) else some ⟨gl, 5, none⟩) = some ad ∧ ∀ j u, cs[j]? = some u → wr.cell? (ad.add j) = some u) := (show ∃ ad : Addr, _ from by
        by_cases hc1 : capl = 1
        · refine ⟨⟨gl, 0, none⟩, if_pos hc1, fun j u hj => ?_⟩
          have : cs = [] := List.eq_nil_of_length_eq_zero (by omega)
          rw [this] at hj; simp at hj
        · exact ⟨⟨gl, 5, none⟩, if_neg hc1, HNEW.out⟩)
      obtain ⟨ad, hadr, hnew⟩ := HADR.out
      clear HNEW HADR
      go_wp2_with (at_builtin; go_must (refine wpl_append appRec (by rfl) _ _ (by rfl) wr.heap.size _ 0 [] (by rfl) H0.out ad (L1 - 1) (capl - 1) cs (by first | rfl | exact congrArg (fun o => Value.slice o (L1 - 1) (capl - 1)) hadr) hcl hnew hone ?_ ?_ ?_ ?_))
      · simp only [maxLen]; omega
      · omega
      · intro v' w2 hown hgr hat
        obtain ⟨⟨p', c', rfl⟩, z0, z1, z2, z3⟩ := HFIN.out v' w2 hown hgr
        have HZ3 : Hid (RWent yb a V w (abMerge a d 1) (setV V (3 + 3 * d) (.slice p' ln c')) left dn (w2.setCell ⟨g, d * 4 + 3, none⟩ (.slice p' ln c'))) := z3
        clear HFIN hown hgr hat z3 hnew hadr
        go_wp2_with fail
        go_end0
        exact ⟨rfl, _, HZ3.out⟩
end Go.Proofs.YtfpoiikhhjdpdaaGreat

/- The document: how many steps a block's write is. -/
namespace Go.Proofs.YtfpoiikhhjdpdaaGreat
open Go.RowKit
set_option linter.unusedVariables false
attribute [local go_sem ↓] Go.wp_at_zero Go.wp_at_succ
theorem costN_eq (a : Ab) (d r : Nat) : costN a d r = 2 + (parP a r a.P).length + if a.lost d then 0 else 1 := by
  unfold costN takersL
  rw [List.length_append, parL_parP, List.length_map]
  cases a.lost d <;> simp <;> omega
set_option maxRecDepth 100000 in
set_option maxHeartbeats 1000000 in
theorem rcost_any (yb : Nat) (a : Ab) (V : Nat → Value) (left : Int) (dn : Bool) (d r : Nat) (w : World) (h : RefIn w yb a V left dn) (hd : d < a.D) (hr : r < a.R) :
    Calls Tryz.prog 81 #[.pointer (some ⟨yb, 0, none⟩), .int .i64 d, .int .i64 r] w fun e w' => e = .returned (.int .i64 (costN a d r : Nat)) ∧ Below w.heap.size w w' := by
  have HM : Hid (Calls Tryz.prog 87 #[.pointer (some ⟨yb, 0, none⟩), .int .i64 r] w fun e w' => ∃ v1 v2, e = .returned (.tuple #[v1, v2]) ∧ IntsAt w' w.heap.size v1 (missL a r a.D) ∧ IntsAt w' w.heap.size v2 (parP a r a.P) ∧ Below w.heap.size w w') := rmissing_any yb a V left dn r w h hr
  have HH : Hid (RefIn w yb a V left dn) := h
  have HC : Hid (costN a d r = 2 + (parP a r a.P).length + if a.lost d then 0 else 1) := costN_eq a d r
  have hpl := parP_len a r a.P
  have hP := h.ok.P2
  have hD := h.ok.D4
  clear h
  go_enter Tryz.func81, Tryz.ntmps81
  go_wp2_with fail
  refine HM.out.mono ?_
  rintro e w1 ⟨v1, v2, rfl, i1, i2, k1⟩
  obtain ⟨p2, cap2, rfl, _⟩ := i2.slice
  obtain ⟨p1, cap1, rfl, _⟩ := i1.slice
  have h1 := HH.out.below k1
  obtain ⟨_, _, _, _, c4, _⟩ := h1.cells
  have hlt := h1.row.lt
  obtain ⟨g, cap, e0, hg, hgy, hdr⟩ := h1.drive
  obtain ⟨d0, _, _, _⟩ := hdr d (by omega)
  rw [e0] at c4
  have hdi : (d : Int) < ((a.D + a.P : Nat) : Int) := by omega
  clear i1 i2 hdr h1 e0
  generalize (parP a r a.P).length = ln at *
  generalize (missL a r a.D).length = lm at *
  generalize a.D + a.P = n at *
  have hd4 : d < 4 := by omega
  clear hd hr
  cases hl : a.lost d
  · rw [hl] at d0
    have HC2 : Hid (costN a d r = 2 + ln + 1) := (show _ = _ by rw [HC.out, hl]; rfl)
    clear HC hl
    go_wp2_with fail
    go_ret
    exact ⟨by rw [HC2.out]; first | rfl | (simp; omega), k1⟩
  · rw [hl] at d0
    have HC2 : Hid (costN a d r = 2 + ln) := (show _ = _ by rw [HC.out, hl]; rfl)
    clear HC hl
    go_wp2_with fail
    go_ret
    exact ⟨by rw [HC2.out]; first | rfl | (simp; omega), k1⟩
end Go.Proofs.YtfpoiikhhjdpdaaGreat

/- The document: Merge. -/
namespace Go.Proofs.YtfpoiikhhjdpdaaGreat
open Go.RowKit
set_option linter.unusedVariables false
attribute [local go_sem ↓] Go.wp_at_zero Go.wp_at_succ
theorem there_ok {n d : Nat} {least : Int} (hd : d < n) (hl : least ≤ d) : rThere n false d least = 0 := by
  unfold rThere
  rw [if_neg (by simp), if_neg (by omega)]
set_option maxRecDepth 100000 in
set_option maxHeartbeats 1000000 in
theorem rMerge_no (yb : Nat) (a : Ab) (V : Nat → Value) (left : Int) (dn : Bool) (d n : Int) (w : World) (h : RefIn w yb a V left dn) (hd : rThere (a.D + a.P) dn d a.D ≠ 0) :
    Calls Tryz.prog 45 #[.pointer (some ⟨yb, 0, none⟩), .int .i64 d, .int .i64 n] w fun e w' => e = .returned (.tuple #[.int .i64 0, .int .i64 (rThere (a.D + a.P) dn d a.D)]) ∧ Below w.heap.size w w' := by
  have HT : Hid (∀ W, W.heap = w.heap → Calls Tryz.prog 74 #[.pointer (some ⟨yb, 0, none⟩), .int .i64 d, .int .i64 a.D] W fun e w' => e = .returned (.int .i64 (rThere (a.D + a.P) dn d a.D)) ∧ w' = W) := fun W hW => rthere_any yb a V left dn d a.D W (h.heap hW)
  generalize rThere (a.D + a.P) dn d a.D = t at *
  have hne : (t != 0) = true := by rw [bne_iff_ne]; exact hd
  obtain ⟨c0, _⟩ := h.cells
  have hlt := h.row.lt
  clear h hd
  go_enter Tryz.func45, Tryz.ntmps45
  go_wp2_with fail
  refine (HT.out _ rfl).mono ?_
  rintro e W ⟨rfl, hW⟩
  obtain rfl := hW.symm
  go_wp2_with fail
  go_ret2
  exact ⟨rfl, by repeat (first | exact Below.refl _ _ | refine Below.drew ?_)⟩
set_option maxRecDepth 100000 in
set_option maxHeartbeats 1000000 in
theorem rMerge_bad (yb : Nat) (a : Ab) (V : Nat → Value) (left : Int) (d : Nat) (n : Int) (w : World) (h : RefIn w yb a V left false) (hd : d < a.D + a.P) (hp : a.D ≤ d) (hb : a.lost d = true ∨ n < 1) :
    Calls Tryz.prog 45 #[.pointer (some ⟨yb, 0, none⟩), .int .i64 d, .int .i64 n] w fun e w' => e = .returned (.tuple #[.int .i64 0, .int .i64 (if a.lost d then 7 else 1)]) ∧ Below w.heap.size w w' := by
  have HT : Hid (∀ W, W.heap = w.heap → Calls Tryz.prog 74 #[.pointer (some ⟨yb, 0, none⟩), .int .i64 d, .int .i64 a.D] W fun e w' => e = .returned (.int .i64 0) ∧ w' = W) := fun W hW => (show Calls _ _ _ _ _ by
    have h1 := rthere_any yb a V left false d a.D W (h.heap hW)
    rw [there_ok hd (by omega)] at h1; exact h1)
  obtain ⟨c0, _, _, _, c4, _⟩ := h.cells
  have hlt := h.row.lt
  obtain ⟨g, cap, e0, hg, hgy, hdr⟩ := h.drive
  obtain ⟨d0, _, _, _⟩ := hdr d hd
  rw [e0] at c4
  have hdi : (d : Int) < ((a.D + a.P : Nat) : Int) := by omega
  have hd6 : d < 6 := by have := h.ok.D4; have := h.ok.P2; omega
  clear h hdr e0 hp hd
  generalize a.D + a.P = nn at *
  cases hl : a.lost d
  · rw [hl] at d0
    have hn1 : n < 1 := by
      rcases hb with h1 | h1
      · rw [hl] at h1; cases h1
      · exact h1
    have hn2 : decide (n < 1) = true := by simpa using hn1
    clear hb hl
    go_enter Tryz.func45, Tryz.ntmps45
    go_wp2_with fail
    refine (HT.out _ rfl).mono ?_
    rintro e W ⟨rfl, hW⟩
    obtain rfl := hW.symm
    go_wp2_with fail
    go_ret2
    exact ⟨rfl, by repeat (first | exact Below.refl _ _ | refine Below.drew ?_)⟩
  · rw [hl] at d0
    clear hb hl
    go_enter Tryz.func45, Tryz.ntmps45
    go_wp2_with fail
    refine (HT.out _ rfl).mono ?_
    rintro e W ⟨rfl, hW⟩
    obtain rfl := hW.symm
    go_wp2_with fail
    go_ret2
    exact ⟨rfl, by repeat (first | exact Below.refl _ _ | refine Below.drew ?_)⟩
theorem abMerge_zero (a : Ab) (d : Nat) : abMerge a d 0 = a := by
  unfold abMerge
  rw [List.take_zero, List.drop_zero]
  show (abApply a d []).setLog d (a.recs d) = a
  unfold abApply Ab.setLog
  have : (fun d' => if d' = d then a.recs d else a.recs d') = a.recs := by
    funext d'
    split
    · rename_i e; rw [e]
    · rfl
  simp only [List.foldl_nil]
  rw [this]
set_option maxRecDepth 100000 in
set_option maxHeartbeats 2000000 in
theorem rMerge_ok (yb : Nat) (a : Ab) (V : Nat → Value) (left : Int) (d n : Nat) (w : World) (h : RefIn w yb a V left false) (hd : d < a.D + a.P) (hp : a.D ≤ d) (hl : a.lost d = false) (hn : 1 ≤ n) (hn2 : n ≤ 9223372036854775807) :
    Calls Tryz.prog 45 #[.pointer (some ⟨yb, 0, none⟩), .int .i64 d, .int .i64 n] w fun e w' => e = .returned (.tuple #[.int .i64 (min n (a.recs d).length : Nat), .int .i64 0]) ∧ ∃ V', RWent yb a V w (abMerge a d n) V' left false w' := by
  have HT : Hid (∀ W, W.heap = w.heap → Calls Tryz.prog 74 #[.pointer (some ⟨yb, 0, none⟩), .int .i64 d, .int .i64 a.D] W fun e w' => e = .returned (.int .i64 0) ∧ w' = W) := fun W hW => (show Calls _ _ _ _ _ by
    have h1 := rthere_any yb a V left false d a.D W (h.heap hW)
    rw [there_ok hd (by omega)] at h1; exact h1)
  obtain ⟨c0, _, _, _, c4, _⟩ := h.cells
  have hlt := h.row.lt
  obtain ⟨g, cap, e0, hg, hgy, hdr⟩ := h.drive
  obtain ⟨d0, _, _, _⟩ := hdr d hd
  rw [e0] at c4
  rw [hl] at d0
  have hdi : (d : Int) < ((a.D + a.P : Nat) : Int) := by omega
  have hd6 : d < 6 := by have := h.ok.D4; have := h.ok.P2; omega
  have hni : ¬ ((n : Int) < 1) := by omega
  have hlen : (a.recs d).length ≤ 8 := by have := h.ok.len d; have := h.ok.M8; omega
  have HH : Hid (RefIn w yb a V left false) := h
  have HD : Hid (d < a.D + a.P ∧ a.D ≤ d) := ⟨hd, hp⟩
  clear h hdr e0 hp hd
  generalize hnn : a.D + a.P = nn at *
  have HNN : Hid (a.D + a.P = nn) := hnn
  clear hnn
  go_enter Tryz.func45, Tryz.ntmps45
  go_wp2_with fail
  refine (HT.out _ rfl).mono ?_
  rintro e W ⟨rfl, hW⟩
  obtain rfl := hW.symm
  go_wp2_with fail
  clear c0 c4 d0
  go_loopw [9] (fun c wr => ∃ k V', k ≤ n ∧ k ≤ (a.recs d).length ∧ c = .int .i64 (k : Nat) ∧ Hid (RWent yb a V w (abMerge a d k) V' left false wr)) (fun c _ => (a.recs d).length - (intOf c).toNat)
  case atStart => exact ⟨0, V, by omega, by omega, rfl, (show RWent yb a V w (abMerge a d 0) V left false _ by rw [abMerge_zero]; exact RWent.below HH.out (by repeat (first | exact Below.refl _ _ | refine Below.drew ?_)))⟩
  case round =>
    obtain ⟨k, V', hk, hk2, rfl, hwt⟩ := hrel
    have h1 := hwt.out.at'
    have hpr := merge_props a d k
    obtain ⟨_, _, _, _, c4, _⟩ := h1.cells
    have hlt1 := h1.row.lt
    obtain ⟨g1, cap1, e1, hg1, hgy1, hdr1⟩ := h1.drive
    have hDP : (abMerge a d k).D + (abMerge a d k).P = nn := by rw [hpr.1.D, hpr.1.P]; exact HNN.out
    obtain ⟨_, _, _, d3⟩ := hdr1 d (by rw [hDP]; omega)
    obtain ⟨pl, capl, el, _⟩ := (h1.lg d (by rw [hDP]; omega)).slice
    rw [merge_recs, List.length_drop] at el
    rw [el] at d3
    rw [e1, hDP] at c4
    have H1 : Hid (RefIn wr yb (abMerge a d k) V' left false) := h1
    have HDP : Hid ((abMerge a d k).D + (abMerge a d k).P = nn ∧ (abMerge a d k).D = a.D) := ⟨hDP, hpr.1.D⟩
    clear h1 hpr hdr1 e1 el hDP
    by_cases hkn : k < n
    · have hkni : (k : Int) < (n : Int) := by omega
      by_cases hkl : k < (a.recs d).length
      · obtain ⟨x, l, hxl⟩ : ∃ x l, (a.recs d).drop k = x :: l := by
          cases hdl : (a.recs d).drop k with
          | nil => have := congrArg List.length hdl; rw [List.length_drop, List.length_nil] at this; omega
          | cons x l => exact ⟨x, l, rfl⟩
        have HM : Hid (∀ W, W.heap = wr.heap → Calls Tryz.prog 84 #[.pointer (some ⟨yb, 0, none⟩), .int .i64 d] W fun e w' => e = .returned (.tuple #[]) ∧ ∃ V'', RWent yb (abMerge a d k) V' W (abMerge (abMerge a d k) d 1) V'' left false w') := fun W hW => rmerge_any yb (abMerge a d k) V' left false d W (H1.out.heap hW) (by rw [HDP.out.1]; omega) (by rw [HDP.out.2]; exact HD.out.2) x l (by rw [merge_recs]; exact hxl)
        obtain ⟨lk, hlk⟩ : ∃ lk, (a.recs d).length - k = lk := ⟨_, rfl⟩
        rw [hlk] at d3
        have hlk0 : (0 : Int) < (lk : Int) := by omega
        have HLK : Hid ((a.recs d).length - k = lk) := hlk
        clear hlk hxl
        go_wp2_with fail
        refine (HM.out _ rfl).mono ?_
        rintro e w2 ⟨rfl, V'', hw2⟩
        have HW2 : Hid (RWent yb a V w (abMerge a d (k + 1)) V'' left false w2) := (show RWent _ _ _ _ _ _ _ _ _ by
          have h1 := hwt.out.trans hw2
          rw [merge_succ] at h1; exact h1)
        clear hw2 HM hwt H1 c4 d3
        go_wp2_with fail
        exact ⟨⟨k + 1, V'', by omega, by omega, by go_num, HW2⟩, by simp [intOf]; omega⟩
      · have hlk : (a.recs d).length - k = 0 := by omega
        rw [hlk] at d3
        have HE : Hid (abMerge a d n = abMerge a d k ∧ min n (a.recs d).length = k) := (show _ ∧ _ by
          have hke : k = (a.recs d).length := by omega
          refine ⟨?_, by omega⟩
          unfold abMerge
          rw [List.take_of_length_le (by omega), List.take_of_length_le (by omega), List.drop_of_length_le (by omega), List.drop_of_length_le (by omega)])
        clear hlk H1
        go_wp2_with fail
        go_ret2
        exact ⟨by rw [HE.out.2]; rfl, V', by rw [HE.out.1]; exact hwt.out⟩
    · have hkni : ¬ ((k : Int) < (n : Int)) := by omega
      have HE : Hid (n = k ∧ min n (a.recs d).length = k) := (show _ ∧ _ by omega)
      clear H1 d3 c4
      go_wp2_with fail
      go_ret2
      exact ⟨by rw [HE.out.2]; rfl, V', by rw [HE.out.1]; exact hwt.out⟩
end Go.Proofs.YtfpoiikhhjdpdaaGreat

/- The document: Log, Cell, Drive. -/
namespace Go.Proofs.YtfpoiikhhjdpdaaGreat
open Go.RowKit
set_option linter.unusedVariables false
attribute [local go_sem ↓] Go.wp_at_zero Go.wp_at_succ
theorem there_of {yb : Nat} {a : Ab} {V : Nat → Value} {left : Int} {dn : Bool} {w : World} (h : RefIn w yb a V left dn) (d least : Int) (W : World) (hW : Below w.heap.size w W) :
    Calls Tryz.prog 74 #[.pointer (some ⟨yb, 0, none⟩), .int .i64 d, .int .i64 least] W fun e w' => e = .returned (.int .i64 (rThere (a.D + a.P) dn d least)) ∧ w' = W := rthere_any yb a V left dn d least W (h.below hW)
theorem avail_of {yb : Nat} {a : Ab} {V : Nat → Value} {left : Int} {dn : Bool} {w : World} (h : RefIn w yb a V left dn) (d r : Nat) (hd : d < a.D + a.P) (hr : r < a.R) (W : World) (hW : Below w.heap.size w W) :
    Calls Tryz.prog 77 #[.pointer (some ⟨yb, 0, none⟩), .int .i64 d, .int .i64 r] W fun e w' => e = .returned (.bool (avB a d r)) ∧ w' = W := ravail_any yb a V left dn d r W (h.below hW) hd hr
theorem below_al (w : World) (o : Obj) : Below w.heap.size w (w.alloc o) := (Below.refl _ _).alloc (Nat.le_refl _) o
set_option maxRecDepth 100000 in
set_option maxHeartbeats 1000000 in
theorem rLog_no (yb : Nat) (a : Ab) (V : Nat → Value) (left : Int) (dn : Bool) (d : Int) (w : World) (h : RefIn w yb a V left dn) (hd : rThere (a.D + a.P) dn d a.D ≠ 0) :
    Calls Tryz.prog 37 #[.pointer (some ⟨yb, 0, none⟩), .int .i64 d] w fun e w' => e = .returned (.tuple #[.slice none 0 0, .int .i64 (rThere (a.D + a.P) dn d a.D)]) ∧ Below w.heap.size w w' := by
  have HT : Hid (∀ W, Below w.heap.size w W → Calls Tryz.prog 74 #[.pointer (some ⟨yb, 0, none⟩), .int .i64 d, .int .i64 a.D] W fun e w' => e = .returned (.int .i64 (rThere (a.D + a.P) dn d a.D)) ∧ w' = W) := there_of h d a.D
  generalize rThere (a.D + a.P) dn d a.D = t at *
  have hne : (t != 0) = true := by rw [bne_iff_ne]; exact hd
  obtain ⟨c0, _⟩ := h.cells
  have hlt := h.row.lt
  clear h hd
  go_enter Tryz.func37, Tryz.ntmps37
  go_wp2_with fail
  refine (HT.out _ (Below.refl _ _)).mono ?_
  rintro e W ⟨rfl, hW⟩
  obtain rfl := hW.symm
  go_wp2_with fail
  go_ret2
  exact ⟨rfl, Below.refl _ _⟩
set_option maxRecDepth 100000 in
set_option maxHeartbeats 1000000 in
theorem rLog_at (yb : Nat) (a : Ab) (V : Nat → Value) (left : Int) (d : Nat) (w : World) (h : RefIn w yb a V left false) (hd : d < a.D + a.P) (hp : a.D ≤ d) :
    Calls Tryz.prog 37 #[.pointer (some ⟨yb, 0, none⟩), .int .i64 d] w fun e w' => e = .returned (if a.lost d then .tuple #[.slice none 0 0, .int .i64 7] else .tuple #[V (3 + 3 * d), .int .i64 0]) ∧ Below w.heap.size w w' := by
  have HT : Hid (∀ W, Below w.heap.size w W → Calls Tryz.prog 74 #[.pointer (some ⟨yb, 0, none⟩), .int .i64 d, .int .i64 a.D] W fun e w' => e = .returned (.int .i64 0) ∧ w' = W) := fun W hW => (show Calls _ _ _ _ _ by
    have h1 := there_of h d a.D W hW
    rw [there_ok hd (by omega)] at h1; exact h1)
  obtain ⟨c0, _, _, _, c4, _⟩ := h.cells
  have hlt := h.row.lt
  obtain ⟨g, cap, e0, hg, hgy, hdr⟩ := h.drive
  obtain ⟨d0, _, _, d3⟩ := hdr d hd
  obtain ⟨pl, capl, el, _⟩ := (h.lg d hd).slice
  rw [e0] at c4
  rw [el] at d3
  have HEL : Hid (V (3 + 3 * d) = .slice pl (a.recs d).length capl) := el
  have hdi : (d : Int) < ((a.D + a.P : Nat) : Int) := by omega
  have hd6 : d < 6 := by have := h.ok.D4; have := h.ok.P2; omega
  clear h hdr e0 hp hd el
  generalize a.D + a.P = nn at *
  generalize (a.recs d).length = ln at *
  cases hl : a.lost d
  · rw [hl] at d0
    clear hl
    go_enter Tryz.func37, Tryz.ntmps37
    go_wp2_with fail
    refine (HT.out _ (Below.refl _ _)).mono ?_
    rintro e W ⟨rfl, hW⟩
    obtain rfl := hW.symm
    go_wp2_with fail
    go_ret2
    exact ⟨by rw [HEL.out]; rfl, Below.refl _ _⟩
  · rw [hl] at d0
    clear hl
    go_enter Tryz.func37, Tryz.ntmps37
    go_wp2_with fail
    refine (HT.out _ (Below.refl _ _)).mono ?_
    rintro e W ⟨rfl, hW⟩
    obtain rfl := hW.symm
    go_wp2_with fail
    go_ret2
    exact ⟨rfl, Below.refl _ _⟩
set_option maxRecDepth 100000 in
set_option maxHeartbeats 1000000 in
theorem rCell_no (yb : Nat) (a : Ab) (V : Nat → Value) (left : Int) (dn : Bool) (d r : Int) (w : World) (h : RefIn w yb a V left dn) (hd : rThere (a.D + a.P) dn d 0 ≠ 0) :
    Calls Tryz.prog 34 #[.pointer (some ⟨yb, 0, none⟩), .int .i64 d, .int .i64 r] w fun e w' => e = .returned (.tuple #[C4.zero.val, .int .i64 (rThere (a.D + a.P) dn d 0)]) ∧ Below w.heap.size w w' := by
  have HT : Hid (∀ W, Below w.heap.size w W → Calls Tryz.prog 74 #[.pointer (some ⟨yb, 0, none⟩), .int .i64 d, .int .i64 0] W fun e w' => e = .returned (.int .i64 (rThere (a.D + a.P) dn d 0)) ∧ w' = W) := there_of h d 0
  generalize rThere (a.D + a.P) dn d 0 = t at *
  have hne : (t != 0) = true := by rw [bne_iff_ne]; exact hd
  have hlt := h.row.lt
  clear h hd
  go_enter Tryz.func34, Tryz.ntmps34
  go_wp2_with fail
  refine (HT.out _ (below_al _ _)).mono ?_
  rintro e W ⟨rfl, hW⟩
  obtain rfl := hW.symm
  go_wp2_with fail
  exact bodyPost_ret (v := .tuple #[.agg #[.int .u8 0, .int .u8 0, .int .u8 0, .int .u8 0], .int .i64 t]) (by simp [results, Tryz.results34, go_sem]) rfl ⟨rfl, by repeat (first | exact Below.refl _ _ | refine Below.setCell ?_ (by simp) _ | refine Below.drew ?_ | refine Below.alloc ?_ (by simp <;> omega) _)⟩
set_option maxRecDepth 100000 in
set_option maxHeartbeats 1000000 in
theorem rCell_arg (yb : Nat) (a : Ab) (V : Nat → Value) (left : Int) (d : Nat) (r : Int) (w : World) (h : RefIn w yb a V left false) (hd : d < a.D + a.P) (hr : r < 0 ∨ (a.R : Int) ≤ r) :
    Calls Tryz.prog 34 #[.pointer (some ⟨yb, 0, none⟩), .int .i64 d, .int .i64 r] w fun e w' => e = .returned (.tuple #[C4.zero.val, .int .i64 1]) ∧ Below w.heap.size w w' := by
  have HT : Hid (∀ W, Below w.heap.size w W → Calls Tryz.prog 74 #[.pointer (some ⟨yb, 0, none⟩), .int .i64 d, .int .i64 0] W fun e w' => e = .returned (.int .i64 0) ∧ w' = W) := fun W hW => (show Calls _ _ _ _ _ by
    have h1 := there_of h d 0 W hW
    rw [there_ok hd (by omega)] at h1; exact h1)
  obtain ⟨_, _, c2, _⟩ := h.cells
  have hlt := h.row.lt
  clear h hd
  by_cases h1 : r < 0
  · have h1' : decide (r < 0) = true := by simpa using h1
    clear hr
    go_enter Tryz.func34, Tryz.ntmps34
    go_wp2_with fail
    refine (HT.out _ (below_al _ _)).mono ?_
    rintro e W ⟨rfl, hW⟩
    obtain rfl := hW.symm
    go_wp2_with fail
    exact bodyPost_ret (v := .tuple #[.agg #[.int .u8 0, .int .u8 0, .int .u8 0, .int .u8 0], .int .i64 1]) (by simp [results, Tryz.results34, go_sem]) rfl ⟨rfl, by repeat (first | exact Below.refl _ _ | refine Below.setCell ?_ (by simp) _ | refine Below.drew ?_ | refine Below.alloc ?_ (by simp <;> omega) _)⟩
  · have h1' : decide (r < 0) = false := by simpa using h1
    have h2 : (a.R : Int) ≤ r := by omega
    have h2' : decide ((a.R : Int) ≤ r) = true := by simpa using h2
    clear hr
    go_enter Tryz.func34, Tryz.ntmps34
    go_wp2_with fail
    refine (HT.out _ (below_al _ _)).mono ?_
    rintro e W ⟨rfl, hW⟩
    obtain rfl := hW.symm
    go_wp2_with fail
    exact bodyPost_ret (v := .tuple #[.agg #[.int .u8 0, .int .u8 0, .int .u8 0, .int .u8 0], .int .i64 1]) (by simp [results, Tryz.results34, go_sem]) rfl ⟨rfl, by repeat (first | exact Below.refl _ _ | refine Below.setCell ?_ (by simp) _ | refine Below.drew ?_ | refine Below.alloc ?_ (by simp <;> omega) _)⟩
set_option maxRecDepth 100000 in
set_option maxHeartbeats 1000000 in
theorem rCell_at (yb : Nat) (a : Ab) (V : Nat → Value) (left : Int) (d r : Nat) (w : World) (h : RefIn w yb a V left false) (hd : d < a.D + a.P) (hr : r < a.R) :
    Calls Tryz.prog 34 #[.pointer (some ⟨yb, 0, none⟩), .int .i64 d, .int .i64 r] w fun e w' => e = .returned (if avB a d r then .tuple #[(a.cell d r).val, .int .i64 0] else .tuple #[C4.zero.val, .int .i64 7]) ∧ Below w.heap.size w w' := by
  have HT : Hid (∀ W, Below w.heap.size w W → Calls Tryz.prog 74 #[.pointer (some ⟨yb, 0, none⟩), .int .i64 d, .int .i64 0] W fun e w' => e = .returned (.int .i64 0) ∧ w' = W) := fun W hW => (show Calls _ _ _ _ _ by
    have h1 := there_of h d 0 W hW
    rw [there_ok hd (by omega)] at h1; exact h1)
  have HA : Hid (∀ W, Below w.heap.size w W → Calls Tryz.prog 77 #[.pointer (some ⟨yb, 0, none⟩), .int .i64 d, .int .i64 r] W fun e w' => e = .returned (.bool (avB a d r)) ∧ w' = W) := avail_of h d r hd hr
  obtain ⟨_, _, c2, _, c4, _⟩ := h.cells
  have hlt := h.row.lt
  obtain ⟨g, cap, e0, hg, hgy, hdr⟩ := h.drive
  obtain ⟨_, _, d2, _⟩ := hdr d hd
  obtain ⟨gc, capc, ec, hgc, hfz, hce⟩ := h.cellsOf d hd
  have x0 : w.cell? ⟨gc, r * 4, none⟩ = some (.int .u8 (a.cell d r).b0) := hce r 0 hr (by omega)
  have x1 : w.cell? ⟨gc, r * 4 + 1, none⟩ = some (.int .u8 (a.cell d r).b1) := hce r 1 hr (by omega)
  have x2 : w.cell? ⟨gc, r * 4 + 2, none⟩ = some (.int .u8 (a.cell d r).b2) := hce r 2 hr (by omega)
  have x3 : w.cell? ⟨gc, r * 4 + 3, none⟩ = some (.int .u8 (a.cell d r).b3) := hce r 3 hr (by omega)
  rw [e0] at c4
  rw [ec] at d2
  have hdi : (d : Int) < ((a.D + a.P : Nat) : Int) := by omega
  have hri : (r : Int) < (a.R : Int) := by omega
  have hd6 : d < 6 := by have := h.ok.D4; have := h.ok.P2; omega
  have hr6 : r < 6 := by have := h.ok.R6; omega
  clear h hdr e0 hd hr hce hfz ec
  unfold C4.val
  generalize a.D + a.P = nn at *
  generalize a.cell d r = C at *
  cases hav : avB a d r
  · rw [hav] at HA
    clear hav
    go_enter Tryz.func34, Tryz.ntmps34
    go_wp2_with fail
    refine (HT.out _ (below_al _ _)).mono ?_
    rintro e W ⟨rfl, hW⟩
    obtain rfl := hW.symm
    go_wp2_with fail
    refine (HA.out _ (below_al _ _)).mono ?_
    rintro e W ⟨rfl, hW⟩
    obtain rfl := hW.symm
    go_wp2_with fail
    exact bodyPost_ret (v := .tuple #[.agg #[.int .u8 0, .int .u8 0, .int .u8 0, .int .u8 0], .int .i64 7]) (by simp [results, Tryz.results34, go_sem]) rfl ⟨rfl, by repeat (first | exact Below.refl _ _ | refine Below.setCell ?_ (by simp) _ | refine Below.drew ?_ | refine Below.alloc ?_ (by simp <;> omega) _)⟩
  · rw [hav] at HA
    clear hav
    go_enter Tryz.func34, Tryz.ntmps34
    go_wp2_with fail
    refine (HT.out _ (below_al _ _)).mono ?_
    rintro e W ⟨rfl, hW⟩
    obtain rfl := hW.symm
    go_wp2_with fail
    refine (HA.out _ (below_al _ _)).mono ?_
    rintro e W ⟨rfl, hW⟩
    obtain rfl := hW.symm
    go_wp2_with fail
    exact bodyPost_ret (v := .tuple #[.agg #[.int .u8 C.b0, .int .u8 C.b1, .int .u8 C.b2, .int .u8 C.b3], .int .i64 0]) (by simp [results, Tryz.results34, go_sem]) rfl ⟨rfl, by repeat (first | exact Below.refl _ _ | refine Below.setCell ?_ (by simp) _ | refine Below.drew ?_ | refine Below.alloc ?_ (by simp <;> omega) _)⟩
set_option maxRecDepth 100000 in
set_option maxHeartbeats 1000000 in
theorem rDrive_no (yb : Nat) (a : Ab) (V : Nat → Value) (left : Int) (dn : Bool) (d : Int) (w : World) (h : RefIn w yb a V left dn) (hd : rThere (a.D + a.P) dn d 0 ≠ 0) :
    Calls Tryz.prog 32 #[.pointer (some ⟨yb, 0, none⟩), .int .i64 d] w fun e w' => e = .returned (.tuple #[.agg #[.bool false, .int .i64 0, .int .i64 0], .int .i64 (rThere (a.D + a.P) dn d 0)]) ∧ Below w.heap.size w w' := by
  have HT : Hid (∀ W, Below w.heap.size w W → Calls Tryz.prog 74 #[.pointer (some ⟨yb, 0, none⟩), .int .i64 d, .int .i64 0] W fun e w' => e = .returned (.int .i64 (rThere (a.D + a.P) dn d 0)) ∧ w' = W) := there_of h d 0
  generalize rThere (a.D + a.P) dn d 0 = t at *
  have hne : (t != 0) = true := by rw [bne_iff_ne]; exact hd
  have hlt := h.row.lt
  clear h hd
  go_enter Tryz.func32, Tryz.ntmps32
  go_wp2_with fail
  refine (HT.out _ (below_al _ _)).mono ?_
  rintro e W ⟨rfl, hW⟩
  obtain rfl := hW.symm
  go_wp2_with fail
  exact bodyPost_ret (v := .tuple #[.agg #[.bool false, .int .i64 0, .int .i64 0], .int .i64 t]) (by simp [results, Tryz.results32, go_sem]) rfl ⟨rfl, by repeat (first | exact Below.refl _ _ | refine Below.setCell ?_ (by simp) _ | refine Below.drew ?_ | refine Below.alloc ?_ (by simp <;> omega) _)⟩
set_option maxRecDepth 100000 in
set_option maxHeartbeats 1000000 in
theorem rDrive_lost (yb : Nat) (a : Ab) (V : Nat → Value) (left : Int) (d : Nat) (w : World) (h : RefIn w yb a V left false) (hd : d < a.D + a.P) (hl : a.lost d = true) :
    Calls Tryz.prog 32 #[.pointer (some ⟨yb, 0, none⟩), .int .i64 d] w fun e w' => e = .returned (.tuple #[.agg #[.bool true, .int .i64 0, .int .i64 0], .int .i64 0]) ∧ Below w.heap.size w w' := by
  have HT : Hid (∀ W, Below w.heap.size w W → Calls Tryz.prog 74 #[.pointer (some ⟨yb, 0, none⟩), .int .i64 d, .int .i64 0] W fun e w' => e = .returned (.int .i64 0) ∧ w' = W) := fun W hW => (show Calls _ _ _ _ _ by
    have h1 := there_of h d 0 W hW
    rw [there_ok hd (by omega)] at h1; exact h1)
  obtain ⟨_, _, c2, _, c4, _⟩ := h.cells
  have hlt := h.row.lt
  obtain ⟨g, cap, e0, hg, hgy, hdr⟩ := h.drive
  obtain ⟨d0, _, _, _⟩ := hdr d hd
  rw [e0] at c4
  rw [hl] at d0
  have hdi : (d : Int) < ((a.D + a.P : Nat) : Int) := by omega
  have hd6 : d < 6 := by have := h.ok.D4; have := h.ok.P2; omega
  clear h hdr e0 hd hl
  generalize a.D + a.P = nn at *
  go_enter Tryz.func32, Tryz.ntmps32
  go_wp2_with fail
  refine (HT.out _ (below_al _ _)).mono ?_
  rintro e W ⟨rfl, hW⟩
  obtain rfl := hW.symm
  go_wp2_with fail
  exact bodyPost_ret (v := .tuple #[.agg #[.bool true, .int .i64 0, .int .i64 0], .int .i64 0]) (by simp [results, Tryz.results32, go_sem]) rfl ⟨rfl, by repeat (first | exact Below.refl _ _ | refine Below.setCell ?_ (by simp) _ | refine Below.drew ?_ | refine Below.alloc ?_ (by simp <;> omega) _)⟩
set_option maxRecDepth 100000 in
set_option maxHeartbeats 1000000 in
theorem rDrive_live (yb : Nat) (a : Ab) (V : Nat → Value) (left : Int) (d : Nat) (w : World) (h : RefIn w yb a V left false) (hd : d < a.D + a.P) (hl : a.lost d = false) :
    Calls Tryz.prog 32 #[.pointer (some ⟨yb, 0, none⟩), .int .i64 d] w fun e w' => e = .returned (.tuple #[.agg #[.bool false, .int .i64 (ubCount a d a.R : Nat), .int .i64 (a.recs d).length], .int .i64 0]) ∧ Below w.heap.size w w' := by
  have HT : Hid (∀ W, Below w.heap.size w W → Calls Tryz.prog 74 #[.pointer (some ⟨yb, 0, none⟩), .int .i64 d, .int .i64 0] W fun e w' => e = .returned (.int .i64 0) ∧ w' = W) := fun W hW => (show Calls _ _ _ _ _ by
    have h1 := there_of h d 0 W hW
    rw [there_ok hd (by omega)] at h1; exact h1)
  have hR := h.ok.R6
  obtain ⟨_, _, c2, _, c4, _⟩ := h.cells
  have hlt := h.row.lt
  obtain ⟨g, cap, e0, hg, hgy, hdr⟩ := h.drive
  obtain ⟨d0, d1, _, d3⟩ := hdr d hd
  obtain ⟨gb, capb, eb, hgb, hbt⟩ := h.built d hd
  obtain ⟨pl, capl, el, _⟩ := (h.lg d hd).slice
  rw [e0] at c4
  rw [hl] at d0
  rw [eb] at d1
  rw [el] at d3
  have HAV : Hid (∀ r, avB a d r = !a.ub d r) := fun r => (show _ = _ by unfold avB; rw [hl]; rfl)
  have HBT : Hid (∀ r, r < a.R → w.cell? ⟨gb, r, none⟩ = some (.bool (avB a d r))) := hbt
  have HUB : Hid (∀ k, ubCount a d (k + 1) = ubCount a d k + if a.ub d k then 1 else 0) := fun _ => rfl
  have HUL : Hid (∀ k, ubCount a d k ≤ k) := ubCount_le a d
  have HU0 : Hid (ubCount a d 0 = 0) := rfl
  have hdi : (d : Int) < ((a.D + a.P : Nat) : Int) := by omega
  have hd6 : d < 6 := by have := h.ok.D4; have := h.ok.P2; omega
  clear h hdr e0 hd hl hbt eb el
  generalize a.D + a.P = nn at *
  generalize (a.recs d).length = ln at *
  go_enter Tryz.func32, Tryz.ntmps32
  go_wp2_with fail
  refine (HT.out _ (below_al _ _)).mono ?_
  rintro e W ⟨rfl, hW⟩
  obtain rfl := hW.symm
  go_wp2_with fail
  have HR0 : Hid ((w.alloc (.cells #[.bool false, .int .i64 0, .int .i64 0] 71)).rowIs w.heap.size 71 3 (fun j => if j = 0 then .bool false else if j = 1 then .int .i64 0 else .int .i64 0)) := box3_row w _ rfl false 0 0
  have HB0 : Hid (Below w.heap.size w (w.alloc (.cells #[.bool false, .int .i64 0, .int .i64 0] 71))) := below_al _ _
  generalize w.alloc (.cells #[.bool false, .int .i64 0, .int .i64 0] 71) = wb at *
  have HC : Hid (∀ W, Below wb.heap.size wb W → W.cell? ⟨yb, 2, none⟩ = some (.int .i64 a.R) ∧ W.cell? ⟨yb, 4, none⟩ = some (.slice (some ⟨g, 0, none⟩) nn cap) ∧ W.cell? ⟨g, d * 4 + 1, none⟩ = some (.slice (some ⟨gb, 0, none⟩) a.R capb) ∧ W.cell? ⟨g, d * 4 + 3, none⟩ = some (.slice pl ln capl) ∧ yb < W.heap.size ∧ g < W.heap.size ∧ gb < W.heap.size ∧ (∀ r, r < a.R → W.cell? ⟨gb, r, none⟩ = some (.bool (avB a d r))) ∧ Below w.heap.size w W ∧ W.rowIs w.heap.size 71 3 (fun j => if j = 0 then .bool false else if j = 1 then .int .i64 0 else .int .i64 0)) := fun W hW => by
    have hb : Below w.heap.size w W := HB0.out.trans (hW.mono HB0.out.size)
    exact ⟨below_cell' hb c2, below_cell' hb c4, below_cell' hb d1, below_cell' hb d3, Nat.lt_of_lt_of_le hlt hb.size, Nat.lt_of_lt_of_le hg hb.size, Nat.lt_of_lt_of_le hgb hb.size, fun r hr => below_cell' hb (HBT.out r hr), hb, HR0.out.of_block (hW.block _ HR0.out.lt)⟩
  clear c2 c4 d0 d1 d3 hlt hg hgb HBT HR0 HB0
  go_loopw [7, 8] (fun nv rv wr => ∃ (k m : Nat), k ≤ a.R ∧ rv = .int .i64 k ∧ nv = .int .i64 m ∧ m ≤ k ∧ Hid (m = ubCount a d k) ∧ Below wb.heap.size wb wr) (fun _ rv _ => a.R - (intOf rv).toNat)
  case atStart => exact ⟨0, 0, by omega, rfl, rfl, by omega, HU0.out.symm, Below.refl _ _⟩
  case round =>
    obtain ⟨k, m, hk, rfl, rfl, hmk, hm, hbel⟩ := hrel
    obtain ⟨c2, c4, d1, d3, l1, l2, l3, hbt, hbw, hrw⟩ := HC.out wr hbel
    by_cases hlt : k < a.R
    · have hki : (k : Int) < (a.R : Int) := by omega
      have b0 := hbt k hlt
      rw [HAV.out k] at b0
      have hus := HUB.out k
      clear hbt hrw
      cases hub : a.ub d k
      · rw [hub] at b0 hus
        simp only [Bool.false_eq_true, if_false, Nat.add_zero] at hus
        have HM2 : Hid (m = ubCount a d (k + 1)) := (show _ = _ by rw [hus]; exact hm.out)
        clear hub hus
        go_wp2_with fail
        first
          | exact ⟨⟨k + 1, m, by omega, by go_num, rfl, by omega, HM2, by repeat (first | exact hbel | refine Below.drew ?_)⟩, by simp [intOf]; omega⟩
          | (go_region
             all_goals
               go_wp2_with fail
               exact ⟨⟨k + 1, m, by omega, by go_num, rfl, by omega, HM2, by repeat (first | exact hbel | refine Below.drew ?_)⟩, by simp [intOf]; omega⟩)
      · rw [hub] at b0 hus
        simp only [if_true] at hus
        have HM2 : Hid (m + 1 = ubCount a d (k + 1)) := (show _ = _ by rw [hus, ← hm.out])
        clear hub hus
        go_wp2_with fail
        first
          | exact ⟨⟨k + 1, m + 1, by omega, by go_num, by go_num, by omega, HM2, by repeat (first | exact hbel | refine Below.drew ?_)⟩, by simp [intOf]; omega⟩
          | (go_region
             all_goals
               go_wp2_with fail
               exact ⟨⟨k + 1, m + 1, by omega, by go_num, by go_num, by omega, HM2, by repeat (first | exact hbel | refine Below.drew ?_)⟩, by simp [intOf]; omega⟩)
    · have hki : ¬ ((k : Int) < (a.R : Int)) := by omega
      have HME : Hid (m = ubCount a d a.R) := (show _ = _ by rw [show a.R = k by omega]; exact hm.out)
      have r0 := hrw.cell (i := 0) (by omega)
      have r1 := hrw.cell (i := 1) (by omega)
      have r2 := hrw.cell (i := 2) (by omega)
      have f0 := hrw.frozen 0
      have f1 := hrw.frozen 1
      have f2 := hrw.frozen 2
      have hrl := hrw.lt
      simp only [if_true] at r0
      rw [if_neg (by omega), if_pos rfl] at r1
      rw [if_neg (by omega), if_neg (by omega)] at r2
      clear hbt hrw
      go_wp2_with fail
      refine bodyPost_ret (v := .tuple #[.agg #[.bool false, .int .i64 m, .int .i64 ln], .int .i64 0]) (by simp [results, Tryz.results32, go_sem, r0, r1, r2]) rfl ⟨by rw [HME.out], ?_⟩
      repeat (first | exact hbw | refine Below.setCell ?_ (by simp) _ | refine below_drewN ?_ _ | refine Below.drew ?_)
end Go.Proofs.YtfpoiikhhjdpdaaGreat
