/- A blank drive; a drive is replaced. -/
import Derived.Test.YtfpoiikhhjdpdabFails
namespace Go.Proofs.Ytfpoiikhhjdpdab
open Go.RowKit
set_option linter.unusedVariables false
attribute [local go_sem ↓] Go.wp_at_zero Go.wp_at_succ
def zeroDrive : Array Value := #[.bool false, .bool false, .bool false, .bool false, .bool false, .bool false, .bool false, .int .u8 0, .int .u8 0, .int .u8 0, .int .u8 0, .int .u8 0, .int .u8 0, .int .u8 0, .int .u8 0, .int .u8 0, .int .u8 0, .int .u8 0, .int .u8 0, .int .u8 0, .int .u8 0, .int .u8 0, .int .u8 0, .int .u8 0, .int .u8 0, .int .u8 0, .int .u8 0, .int .u8 0, .int .u8 0, .int .u8 0, .int .u8 0, .slice none 0 0]
theorem zeroDrive_size : zeroDrive.size = 32 := rfl
theorem infoZero : (Try.prog.info? 84).map (·.size) = some zeroDrive.size := by kernel_rfl
theorem zeroOne : zeroDrive.all (·.oneCell') = true := by kernel_rfl
theorem zeroDrive_get : ∀ j, j < 32 → zeroDrive[j]? = some (blankV 0 j) := by
  intro j hj
  rcases (by omega : j = 0 ∨ j = 1 ∨ j = 2 ∨ j = 3 ∨ j = 4 ∨ j = 5 ∨ j = 6 ∨ j = 7 ∨ j = 8 ∨ j = 9 ∨ j = 10 ∨ j = 11 ∨ j = 12 ∨ j = 13 ∨ j = 14 ∨ j = 15 ∨ j = 16 ∨ j = 17 ∨ j = 18 ∨ j = 19 ∨ j = 20 ∨ j = 21 ∨ j = 22 ∨ j = 23 ∨ j = 24 ∨ j = 25 ∨ j = 26 ∨ j = 27 ∨ j = 28 ∨ j = 29 ∨ j = 30 ∨ j = 31) with rfl | rfl | rfl | rfl | rfl | rfl | rfl | rfl | rfl | rfl | rfl | rfl | rfl | rfl | rfl | rfl | rfl | rfl | rfl | rfl | rfl | rfl | rfl | rfl | rfl | rfl | rfl | rfl | rfl | rfl | rfl | rfl <;> rfl
theorem blankL_get (n j : Nat) (hj : j < 32) : (blankL n)[j]? = some (blankV n j) := by
  unfold blankL; rw [List.getElem?_map, List.getElem?_range hj]; rfl
theorem blankL_len (n : Nat) : (blankL n).length = 32 := by unfold blankL; simp
theorem blankL_one (n : Nat) : ∀ v ∈ blankL n, v.oneCell' = true := by
  intro v hv
  unfold blankL at hv
  obtain ⟨j, _, rfl⟩ := List.mem_map.1 hv
  unfold blankV
  split
  · rfl
  · split
    · rfl
    · split <;> rfl
/-- A drive that is a variable: its places. -/
def DBox (w : World) (b n : Nat) : Prop := w.rowIs b 84 32 (blankV n)
theorem DBox.range {w : World} {b n : Nat} (h : DBox w b n) : w.rangeAt b 0 (blankL n) := fun j v hv => by
  have hj : j < 32 := by
    have := (List.getElem?_eq_some_iff.1 hv).1
    rwa [blankL_len] at this
  rw [blankL_get n j hj] at hv
  rw [Nat.zero_add, World.rowIs.cell h hj]; exact hv
theorem DBox.there {w : World} {b n : Nat} (h : DBox w b n) : w.there b 0 32 := fun j hj => ⟨by rw [Nat.zero_add, World.rowIs.cell h hj]; rfl, World.rowIs.frozen h _⟩
theorem DBox.store {w : World} {b n m : Nat} (h : DBox w b n) (vs : List Value) (hl : vs.length = 32) (hv : ∀ j, j < 32 → vs[j]? = some (blankV m j)) : DBox (w.setCells b 0 vs) b m :=
  (rowIs_setCells vs 0 w _ h).congr (fun j hj => by rw [if_pos (by omega), Nat.sub_zero, hv j hj]; rfl)
theorem DBox.other {w : World} {b b' n : Nat} (h : DBox w b n) (hne : b ≠ b') (o : Nat) (vs : List Value) : DBox (w.setCells b' o vs) b n := World.rowIs.of_block h (heap_setCells b' vs o w b hne)
theorem below_setCells {B b : Nat} {a : World} : ∀ (vs : List Value) (o : Nat) (w : World), Below B a w → B ≤ b → Below B a (w.setCells b o vs)
  | [], _, _, h, _ => h
  | v :: vs, o, w, h, hb => below_setCells vs (o + 1) _ (h.setCell hb _) hb
theorem DBox.mark {w : World} {b k : Nat} (h : DBox w b k) (hk : k < 6) : DBox (w.setCell ⟨b, 1 + k, none⟩ (.bool true)) b (k + 1) :=
  (World.rowIs.set h (1 + k) _).congr (fun j hj => by
    by_cases e : j = 1 + k
    · subst e
      rw [if_pos rfl]
      unfold blankV
      rw [if_neg (by omega), if_pos (by omega), decide_eq_true (by omega)]
    · rw [if_neg e]
      unfold blankV
      by_cases h0 : j = 0
      · rw [if_pos h0, if_pos h0]
      · rw [if_neg h0, if_neg h0]
        by_cases h1 : j < 7
        · rw [if_pos h1, if_pos h1]
          by_cases h2 : j - 1 < k
          · rw [decide_eq_true h2, decide_eq_true (by omega)]
          · rw [decide_eq_false h2, decide_eq_false (by omega)]
        · rw [if_neg h1, if_neg h1])
theorem undDrive : ∃ d, Try.prog.underlying 84 = some d ∧ d.isRow = true := ⟨_, Try.underlying84, rfl⟩
theorem infoBlank (n : Nat) : (Try.prog.info? 84).map (·.size) = some (blankL n).length := by rw [blankL_len]; exact infoDrive
theorem results_cell {P : Program} {fn : Func} {p : Tmp} {ty : TypeId} (h : fn.results = #[.cell p ty]) (tmps : Array Value) (w : World) {a : Addr} {v : Value} (hp : tmps.getD p undef = .pointer (some a)) (hl : (loadVar ty a).run P w = .ok v w) : (results fn tmps).run P w = .ok v w := by
  have hp' : tmps[p]?.getD undef = .pointer (some a) := by simpa using hp
  simp [results, h, hp', asAddr, hl]
set_option maxRecDepth 100000 in
set_option maxHeartbeats 2000000 in
theorem blankDrive_any (n : Nat) (w : World) (hn : n ≤ 6) :
    Calls Try.prog 41 #[.int .i64 n] w fun e w' => e = .returned (.agg (blankL n).toArray) ∧ Below w.heap.size w w' := by
  have R0 : DBox ((w.alloc (.cells zeroDrive 84)).alloc (.cells zeroDrive 84)) w.heap.size 0 :=
    World.rowIs.alloc (World.rowIs_alloc w zeroDrive 84 (blankV 0) zeroDrive_get) _
  have R1 : DBox ((w.alloc (.cells zeroDrive 84)).alloc (.cells zeroDrive 84)) (w.heap.size + 1) 0 := by
    have := World.rowIs_alloc (w.alloc (.cells zeroDrive 84)) zeroDrive 84 (blankV 0) zeroDrive_get
    have e : (w.alloc (.cells zeroDrive 84)).heap.size = w.heap.size + 1 := by simp
    rw [e] at this
    exact this
  have HT : Hid (((w.alloc (.cells zeroDrive 84)).alloc (.cells zeroDrive 84)).there (w.heap.size + 1) 0 zeroDrive.size) := R1.there
  have K0 : Below w.heap.size w ((w.alloc (.cells zeroDrive 84)).alloc (.cells zeroDrive 84)) := ((Below.refl _ _).alloc (Nat.le_refl _) _).alloc (by simp) _
  have H0 : Hid (DBox (((w.alloc (.cells zeroDrive 84)).alloc (.cells zeroDrive 84)).setCells (w.heap.size + 1) 0 zeroDrive.toList) w.heap.size 0) := R0.other (by omega) _ _
  have H1 : Hid (DBox (((w.alloc (.cells zeroDrive 84)).alloc (.cells zeroDrive 84)).setCells (w.heap.size + 1) 0 zeroDrive.toList) (w.heap.size + 1) 0) := R1.store _ rfl (fun j hj => by simpa using zeroDrive_get j hj)
  have H2 : Hid (Below w.heap.size w (((w.alloc (.cells zeroDrive 84)).alloc (.cells zeroDrive 84)).setCells (w.heap.size + 1) 0 zeroDrive.toList)) := below_setCells _ _ _ K0 (by omega)
  clear R0 R1 K0
  go_enter Try.func41, Try.ntmps41
  go_wp2_with ((with_reducible refine (id ?_ : wpList Try.prog _ _ ({ dst := _, op := Op.store 84 _ _, type := _, pos := _, after := _, guard := _ } :: _) _ _)); go_must (refine wpList_store_mid (by rfl) _ _ _ (by rfl) (w.heap.size + 1) 0 zeroDrive (by rfl) (by rfl) HT.out infoZero zeroOne ?_))
  go_loopw [4] (fun i wr => ∃ (k : Nat), k ≤ n ∧ i = .int .i64 k ∧ Hid (DBox wr (w.heap.size + 1) k) ∧ Hid (DBox wr w.heap.size 0) ∧ Below w.heap.size w wr) (fun i _ => n - (intOf i).toNat)
  case atStart => exact ⟨0, by omega, rfl, H1, H0, H2.out⟩
  case round =>
    clear HT H0 H1 H2
    obtain ⟨k, hk, rfl, hbox, hres, hbel⟩ := hrel
    by_cases hlt : k < n
    · have hlti : (k : Int) < (n : Int) := by omega
      have hk6 : (k : Int) < 6 := by omega
      have c0 := World.rowIs.cell hbox.out (i := 1 + k) (by omega)
      have f0 := World.rowIs.frozen hbox.out (1 + k)
      go_wp2_with fail
      refine ⟨⟨k + 1, by omega, by go_num, hbox.out.mark (by omega), World.rowIs.setOther hres.out (by simp) _, hbel.setCell (by simp) _⟩, by simp [intOf]; omega⟩
    · have hke : k = n := by omega
      have HKE : Hid (k = n) := hke
      have hlti : ¬ ((k : Int) < (n : Int)) := by omega
      have HR : Hid (wr.rangeAt (w.heap.size + 1) 0 (blankL k)) := hbox.out.range
      have HT : Hid (wr.there w.heap.size 0 (blankL k).toArray.size) := by
        have := hres.out.there
        rw [← blankL_len k] at this
        show World.there _ _ _ _
        rw [List.size_toArray]; exact this
      have H3 : Hid (DBox (wr.setCells w.heap.size 0 (blankL k).toArray.toList) w.heap.size k) := hres.out.store _ (by simpa using blankL_len k) (fun j hj => by simpa using blankL_get k j hj)
      have H4 : Hid (Below w.heap.size w (wr.setCells w.heap.size 0 (blankL k).toArray.toList)) := below_setCells _ _ _ hbel (Nat.le_refl _)
      clear hke
      go_wp2_with (first
        | ((with_reducible refine (id ?_ : wpList Try.prog _ _ ({ dst := _, op := Op.load 84 _, type := _, pos := _, after := _, guard := _ } :: _) _ _)); go_must (refine wpList_load_mid (by rfl) _ _ (by rfl) (w.heap.size + 1) 0 (by rfl) (blankL k) _ HR.out Try.underlying84 rfl (infoBlank k) ?_))
        | ((with_reducible refine (id ?_ : wpList Try.prog _ _ ({ dst := _, op := Op.store 84 _ _, type := _, pos := _, after := _, guard := _ } :: _) _ _)); go_must (refine wpList_store_mid (by rfl) _ _ _ (by rfl) w.heap.size 0 (blankL k).toArray (by rfl) (by rfl) HT.out (by rw [List.size_toArray]; exact infoBlank k) (all_oneCell_toArray (blankL_one k)) ?_)))
      have H5 : Below w.heap.size w (wr.setCells w.heap.size 0 (blankL k)) := H4.out
      have H6 : DBox (wr.setCells w.heap.size 0 (blankL k)) w.heap.size k := H3.out
      have hload := run_loadVar_mid (P := Try.prog) _ _ _ 84 (blankL k) _ H6.range Try.underlying84 rfl (infoBlank k)
      refine bodyPost_ret (v := .agg (blankL k).toArray) (results_cell Try.results41 _ _ (by rfl) hload) rfl ⟨by rw [HKE.out], H5⟩
theorem store_blank (hb : Nat) (s : St) (d : Nat) (w : World) (h : HoardIn w hb s) (hd : d < 6) : (storeCells ⟨hb, 4 + d * 32, none⟩ (blankL s.R)).run Try.prog w = .ok () (w.setCells hb (4 + d * 32) (blankL s.R)) := by
  have ht := h.there d hd
  have h1 := run_storeCells_cells (P := Try.prog) hb (4 + d * 32) (blankL s.R) 0 w (fun j hj => by rw [blankL_len] at hj; simpa using (ht j hj).1) (fun j hj => by rw [blankL_len] at hj; simpa using (ht j hj).2) (blankL_one s.R)
  simpa using h1
set_option maxRecDepth 100000 in
set_option maxHeartbeats 2000000 in
theorem Replace_ok (hb : Nat) (s : St) (d : Nat) (w : World) (h : HoardAt w hb s) (hd : d < s.D + s.P) (hl : s.lost d = true) :
    Calls Try.prog 13 #[.pointer (some ⟨hb, 0, none⟩), .int .i64 d] w fun e w' => e = .returned (.int .i64 0) ∧ Went hb s w (s.newDrive d false s.R) w' := by
  have hdn := h.downAt
  have HUP : Hid (s.aux = aux0) := h.up
  replace h := h.toHoardIn
  have hlt0 := h.row.lt
  have hD := h.ok.D4
  have hP := h.ok.P2
  have hR := h.ok.R6
  have hdi : (d : Int) < 6 := by omega
  have hd6 : d < 6 := by omega
  have HLS : Hid (s.lost d = true) := hl
  have HH : Hid (HoardIn w hb s) := h
  clear hl
  go_enter Try.func13, Try.ntmps13
  go_wp2_with fail
  refine (isDrive_t hb s d _ h hd).mono ?_
  rintro e w1 ⟨rfl, k1, h1⟩
  have hls := h1.lostAt d hd6
  rw [HLS.out] at hls
  have hlt := h1.row.lt
  obtain ⟨c0, c1, c2, c3⟩ := h1.shape
  have HBD : Hid (∀ W, Calls Try.prog 41 #[.int .i64 s.R] W fun e w' => e = .returned (.agg (blankL s.R).toArray) ∧ Below W.heap.size W w') := fun W => blankDrive_any s.R W hR
  have H1 : Hid (HoardIn w1 hb s) := h1
  have K1 : Hid (Below w.heap.size w w1) := k1
  clear h h1 c0 c1 c3 k1
  go_wp2_with fail
  go_region_with ((go_at_call 41; go_must (refine (HBD.out _).mono ?_); rintro e w2 ⟨rfl, k2⟩; have K2 : Below w1.heap.size w1 w2 := below_from k2 rfl rfl rfl rfl; have hst := store_blank hb s d w2 (H1.out.below K2) hd6))
  all_goals
    have HN : Hid (HoardIn (w2.setCells hb (4 + d * 32) (blankL s.R)) hb (s.newDrive d false s.R)) := (H1.out.below K2).newDrive d false s.R hd6 _ (blankL_len _) (fun j hj => by rw [blankL_get _ j hj, blankV_eq s d])
    have HK : Hid (Kept (Foot hb s) w (w2.setCells hb (4 + d * 32) (blankL s.R))) := kept_setCells _ _ _ _ (.inl rfl) (Kept.of_below (K1.out.trans (K2.mono K1.out.size)))
    go_wp2_with fail
    go_ret
    exact ⟨rfl, Went.of ⟨HN.out, HK.out, fun k hk => .inl (foot_new hk)⟩ HUP.out rfl⟩
end Go.Proofs.Ytfpoiikhhjdpdab
