import Derived.Test.YtfpoiikhhjdpdaaGreatJ09
import Derived.Test.YtfpoiikhhjdpdaaGreatJ28
import Derived.Test.YtfpoiikhhjdpdaaGreatJ45
import Derived.Test.YtfpoiikhhjdpdaaGreatJ40
import Derived.Test.YtfpoiikhhjdpdaaGreatJ42
import Derived.Test.YtfpoiikhhjdpdaaGreatJ43
/- A blank drive; a drive is replaced. -/
namespace Go.Proofs.YtfpoiikhhjdpdaaGreat
open Go.RowKit
set_option linter.unusedVariables false
attribute [local go_sem ↓] Go.wp_at_zero Go.wp_at_succ
def zeroDrive : Array Value := #[.bool false, .bool false, .bool false, .bool false, .bool false, .bool false, .bool false, .int .u8 0, .int .u8 0, .int .u8 0, .int .u8 0, .int .u8 0, .int .u8 0, .int .u8 0, .int .u8 0, .int .u8 0, .int .u8 0, .int .u8 0, .int .u8 0, .int .u8 0, .int .u8 0, .int .u8 0, .int .u8 0, .int .u8 0, .int .u8 0, .int .u8 0, .int .u8 0, .int .u8 0, .int .u8 0, .int .u8 0, .int .u8 0, .slice none 0 0]
theorem zeroDrive_size : zeroDrive.size = 32 := rfl
theorem infoZero : (Tryz.prog.info? 97).map (·.size) = some zeroDrive.size := by kernel_rfl
theorem zeroOne : zeroDrive.all (·.oneCell') = true := by kernel_rfl
theorem zeroDrive_get : ∀ j, j < 32 → zeroDrive[j]? = some (blankV 0 j) := by
  intro j hj
  rcases (by omega : j = 0 ∨ j = 1 ∨ j = 2 ∨ j = 3 ∨ j = 4 ∨ j = 5 ∨ j = 6 ∨ j = 7 ∨ j = 8 ∨ j = 9 ∨ j = 10 ∨ j = 11 ∨ j = 12 ∨ j = 13 ∨ j = 14 ∨ j = 15 ∨ j = 16 ∨ j = 17 ∨ j = 18 ∨ j = 19 ∨ j = 20 ∨ j = 21 ∨ j = 22 ∨ j = 23 ∨ j = 24 ∨ j = 25 ∨ j = 26 ∨ j = 27 ∨ j = 28 ∨ j = 29 ∨ j = 30 ∨ j = 31) with rfl | rfl | rfl | rfl | rfl | rfl | rfl | rfl | rfl | rfl | rfl | rfl | rfl | rfl | rfl | rfl | rfl | rfl | rfl | rfl | rfl | rfl | rfl | rfl | rfl | rfl | rfl | rfl | rfl | rfl | rfl | rfl <;> rfl
theorem blankL_get (n j : Nat) (hj : j < 32) : (blankL n)[j]? = some (blankV n j) := by
  unfold blankL; rw [List.getElem?_map, List.getElem?_range hj]; rfl
theorem blankL_len (n : Nat) : (blankL n).length = 32 := by unfold blankL; simp
theorem blankL_one (n : Nat) : ∀ v ∈ blankL n, v.oneCell' = true := by
  intro v hv
  unfold blankL at hv
  obtain ⟨j, _, rfl⟩ := List.mem_map.1 hv
  unfold blankV
  split
  · rfl
  · split
    · rfl
    · split <;> rfl
/-- A drive that is a variable: its places. -/
def DBox (w : World) (b n : Nat) : Prop := w.rowIs b 97 32 (blankV n)
theorem DBox.range {w : World} {b n : Nat} (h : DBox w b n) : w.rangeAt b 0 (blankL n) := fun j v hv => by
  have hj : j < 32 := by
    have := (List.getElem?_eq_some_iff.1 hv).1
    rwa [blankL_len] at this
  rw [blankL_get n j hj] at hv
  rw [Nat.zero_add, World.rowIs.cell h hj]; exact hv
theorem DBox.there {w : World} {b n : Nat} (h : DBox w b n) : w.there b 0 32 := fun j hj => ⟨by rw [Nat.zero_add, World.rowIs.cell h hj]; rfl, World.rowIs.frozen h _⟩
theorem DBox.store {w : World} {b n m : Nat} (h : DBox w b n) (vs : List Value) (hl : vs.length = 32) (hv : ∀ j, j < 32 → vs[j]? = some (blankV m j)) : DBox (w.setCells b 0 vs) b m :=
  (rowIs_setCells vs 0 w _ h).congr (fun j hj => by rw [if_pos (by omega), Nat.sub_zero, hv j hj]; rfl)
theorem DBox.other {w : World} {b b' n : Nat} (h : DBox w b n) (hne : b ≠ b') (o : Nat) (vs : List Value) : DBox (w.setCells b' o vs) b n := World.rowIs.of_block h (heap_setCells b' vs o w b hne)
theorem below_setCells {B b : Nat} {a : World} : ∀ (vs : List Value) (o : Nat) (w : World), Below B a w → B ≤ b → Below B a (w.setCells b o vs)
  | [], _, _, h, _ => h
  | v :: vs, o, w, h, hb => below_setCells vs (o + 1) _ (h.setCell hb _) hb
theorem DBox.mark {w : World} {b k : Nat} (h : DBox w b k) (hk : k < 6) : DBox (w.setCell ⟨b, 1 + k, none⟩ (.bool true)) b (k + 1) :=
  (World.rowIs.set h (1 + k) _).congr (fun j hj => by
    by_cases e : j = 1 + k
    · subst e
      rw [if_pos rfl]
      unfold blankV
      rw [if_neg (by omega), if_pos (by omega), decide_eq_true (by omega)]
    · rw [if_neg e]
      unfold blankV
      by_cases h0 : j = 0
      · rw [if_pos h0, if_pos h0]
      · rw [if_neg h0, if_neg h0]
        by_cases h1 : j < 7
        · rw [if_pos h1, if_pos h1]
          by_cases h2 : j - 1 < k
          · rw [decide_eq_true h2, decide_eq_true (by omega)]
          · rw [decide_eq_false h2, decide_eq_false (by omega)]
        · rw [if_neg h1, if_neg h1])
theorem undDrive : ∃ d, Tryz.prog.underlying 97 = some d ∧ d.isRow = true := ⟨_, Tryz.underlying97, rfl⟩
theorem infoBlank (n : Nat) : (Tryz.prog.info? 97).map (·.size) = some (blankL n).length := by rw [blankL_len]; exact infoDrive
theorem results_cell {P : Program} {fn : Func} {p : Tmp} {ty : TypeId} (h : fn.results = #[.cell p ty]) (tmps : Array Value) (w : World) {a : Addr} {v : Value} (hp : tmps.getD p undef = .pointer (some a)) (hl : (loadVar ty a).run P w = .ok v w) : (results fn tmps).run P w = .ok v w := by
  have hp' : tmps[p]?.getD undef = .pointer (some a) := by simpa using hp
  simp [results, h, hp', asAddr, hl]
set_option maxRecDepth 100000 in
set_option maxHeartbeats 2000000 in
theorem blankDrive_any (n : Nat) (w : World) (hn : n ≤ 6) :
    Calls Tryz.prog 85 #[.int .i64 n] w fun e w' => e = .returned (.agg (blankL n).toArray) ∧ Below w.heap.size w w' := by
  have R0 : DBox ((w.alloc (.cells zeroDrive 97)).alloc (.cells zeroDrive 97)) w.heap.size 0 :=
    World.rowIs.alloc (World.rowIs_alloc w zeroDrive 97 (blankV 0) zeroDrive_get) _
  have R1 : DBox ((w.alloc (.cells zeroDrive 97)).alloc (.cells zeroDrive 97)) (w.heap.size + 1) 0 := by
    have := World.rowIs_alloc (w.alloc (.cells zeroDrive 97)) zeroDrive 97 (blankV 0) zeroDrive_get
    have e : (w.alloc (.cells zeroDrive 97)).heap.size = w.heap.size + 1 := by simp
    rw [e] at this
    exact this
  have HT : Hid (((w.alloc (.cells zeroDrive 97)).alloc (.cells zeroDrive 97)).there (w.heap.size + 1) 0 zeroDrive.size) := R1.there
  have K0 : Below w.heap.size w ((w.alloc (.cells zeroDrive 97)).alloc (.cells zeroDrive 97)) := ((Below.refl _ _).alloc (Nat.le_refl _) _).alloc (by simp) _
  have H0 : Hid (DBox (((w.alloc (.cells zeroDrive 97)).alloc (.cells zeroDrive 97)).setCells (w.heap.size + 1) 0 zeroDrive.toList) w.heap.size 0) := R0.other (by omega) _ _
  have H1 : Hid (DBox (((w.alloc (.cells zeroDrive 97)).alloc (.cells zeroDrive 97)).setCells (w.heap.size + 1) 0 zeroDrive.toList) (w.heap.size + 1) 0) := R1.store _ rfl (fun j hj => by simpa using zeroDrive_get j hj)
  have H2 : Hid (Below w.heap.size w (((w.alloc (.cells zeroDrive 97)).alloc (.cells zeroDrive 97)).setCells (w.heap.size + 1) 0 zeroDrive.toList)) := below_setCells _ _ _ K0 (by omega)
  clear R0 R1 K0
  go_enter Tryz.func85, Tryz.ntmps85
  go_wp2_with ((with_reducible refine (id ?_ : wpList Tryz.prog _ _ ({ dst := _, op := Op.store 97 _ _, type := _, pos := _, after := _, guard := _ } :: _) _ _)); go_must (refine wpList_store_mid (by rfl) _ _ _ (by rfl) (w.heap.size + 1) 0 zeroDrive (by rfl) (by rfl) HT.out infoZero zeroOne ?_))
  go_loopw [4] (fun i wr => ∃ (k : Nat), k ≤ n ∧ i = .int .i64 k ∧ Hid (DBox wr (w.heap.size + 1) k) ∧ Hid (DBox wr w.heap.size 0) ∧ Below w.heap.size w wr) (fun i _ => n - (intOf i).toNat)
  case atStart => exact ⟨0, by omega, rfl, H1, H0, H2.out⟩
  case round =>
    clear HT H0 H1 H2
    obtain ⟨k, hk, rfl, hbox, hres, hbel⟩ := hrel
    by_cases hlt : k < n
    · have hlti : (k : Int) < (n : Int) := by omega
      have hk6 : (k : Int) < 6 := by omega
      have c0 := World.rowIs.cell hbox.out (i := 1 + k) (by omega)
      have f0 := World.rowIs.frozen hbox.out (1 + k)
      go_wp2_with fail
      refine ⟨⟨k + 1, by omega, by go_num, hbox.out.mark (by omega), World.rowIs.setOther hres.out (by simp) _, hbel.setCell (by simp) _⟩, by simp [intOf]; omega⟩
    · have hke : k = n := by omega
      have HKE : Hid (k = n) := hke
      have hlti : ¬ ((k : Int) < (n : Int)) := by omega
      have HR : Hid (wr.rangeAt (w.heap.size + 1) 0 (blankL k)) := hbox.out.range
      have HT : Hid (wr.there w.heap.size 0 (blankL k).toArray.size) := by
        have := hres.out.there
        rw [← blankL_len k] at this
        show World.there _ _ _ _
        rw [List.size_toArray]; exact this
      have H3 : Hid (DBox (wr.setCells w.heap.size 0 (blankL k).toArray.toList) w.heap.size k) := hres.out.store _ (by simpa using blankL_len k) (fun j hj => by simpa using blankL_get k j hj)
      have H4 : Hid (Below w.heap.size w (wr.setCells w.heap.size 0 (blankL k).toArray.toList)) := below_setCells _ _ _ hbel (Nat.le_refl _)
      clear hke
      go_wp2_with (first
        | ((with_reducible refine (id ?_ : wpList Tryz.prog _ _ ({ dst := _, op := Op.load 97 _, type := _, pos := _, after := _, guard := _ } :: _) _ _)); go_must (refine wpList_load_mid (by rfl) _ _ (by rfl) (w.heap.size + 1) 0 (by rfl) (blankL k) _ HR.out Tryz.underlying97 rfl (infoBlank k) ?_))
        | ((with_reducible refine (id ?_ : wpList Tryz.prog _ _ ({ dst := _, op := Op.store 97 _ _, type := _, pos := _, after := _, guard := _ } :: _) _ _)); go_must (refine wpList_store_mid (by rfl) _ _ _ (by rfl) w.heap.size 0 (blankL k).toArray (by rfl) (by rfl) HT.out (by rw [List.size_toArray]; exact infoBlank k) (all_oneCell_toArray (blankL_one k)) ?_)))
      have H5 : Below w.heap.size w (wr.setCells w.heap.size 0 (blankL k)) := H4.out
      have H6 : DBox (wr.setCells w.heap.size 0 (blankL k)) w.heap.size k := H3.out
      have hload := run_loadVar_mid (P := Tryz.prog) _ _ _ 97 (blankL k) _ H6.range Tryz.underlying97 rfl (infoBlank k)
      refine bodyPost_ret (v := .agg (blankL k).toArray) (results_cell Tryz.results85 _ _ (by rfl) hload) rfl ⟨by rw [HKE.out], H5⟩
theorem store_blank (hb : Nat) (s : St) (d : Nat) (w : World) (h : HoardIn w hb s) (hd : d < 6) : (storeCells ⟨hb, 4 + d * 32, none⟩ (blankL s.R)).run Tryz.prog w = .ok () (w.setCells hb (4 + d * 32) (blankL s.R)) := by
  have ht := h.there d hd
  have h1 := run_storeCells_cells (P := Tryz.prog) hb (4 + d * 32) (blankL s.R) 0 w (fun j hj => by rw [blankL_len] at hj; simpa using (ht j hj).1) (fun j hj => by rw [blankL_len] at hj; simpa using (ht j hj).2) (blankL_one s.R)
  simpa using h1
set_option maxRecDepth 100000 in
set_option maxHeartbeats 2000000 in
theorem Replace_ok (hb : Nat) (s : St) (d : Nat) (w : World) (h : HoardAt w hb s) (hd : d < s.D + s.P) (hl : s.lost d = true) :
    Calls Tryz.prog 48 #[.pointer (some ⟨hb, 0, none⟩), .int .i64 d] w fun e w' => e = .returned (.int .i64 0) ∧ Went hb s w (s.newDrive d false s.R) w' := by
  have hdn := h.downAt
  have HUP : Hid (s.aux = aux0) := h.up
  replace h := h.toHoardIn
  have hlt0 := h.row.lt
  have hD := h.ok.D4
  have hP := h.ok.P2
  have hR := h.ok.R6
  have hdi : (d : Int) < 6 := by omega
  have hd6 : d < 6 := by omega
  have HLS : Hid (s.lost d = true) := hl
  have HH : Hid (HoardIn w hb s) := h
  clear hl
  go_enter Tryz.func48, Tryz.ntmps48
  go_wp2_with fail
  refine (isDrive_t hb s d _ h hd).mono ?_
  rintro e w1 ⟨rfl, k1, h1⟩
  have hls := h1.lostAt d hd6
  rw [HLS.out] at hls
  have hlt := h1.row.lt
  obtain ⟨c0, c1, c2, c3⟩ := h1.shape
  have HBD : Hid (∀ W, Calls Tryz.prog 85 #[.int .i64 s.R] W fun e w' => e = .returned (.agg (blankL s.R).toArray) ∧ Below W.heap.size W w') := fun W => blankDrive_any s.R W hR
  have H1 : Hid (HoardIn w1 hb s) := h1
  have K1 : Hid (Below w.heap.size w w1) := k1
  clear h h1 c0 c1 c3 k1
  go_wp2_with fail
  go_region_with ((go_at_call 85; go_must (refine (HBD.out _).mono ?_); rintro e w2 ⟨rfl, k2⟩; have K2 : Below w1.heap.size w1 w2 := below_from k2 rfl rfl rfl rfl; have hst := store_blank hb s d w2 (H1.out.below K2) hd6))
  all_goals
    have HN : Hid (HoardIn (w2.setCells hb (4 + d * 32) (blankL s.R)) hb (s.newDrive d false s.R)) := (H1.out.below K2).newDrive d false s.R hd6 _ (blankL_len _) (fun j hj => by rw [blankL_get _ j hj, blankV_eq s d])
    have HK : Hid (Kept (Foot hb s) w (w2.setCells hb (4 + d * 32) (blankL s.R))) := kept_setCells _ _ _ _ (.inl rfl) (Kept.of_below (K1.out.trans (K2.mono K1.out.size)))
    go_wp2_with fail
    go_ret
    exact ⟨rfl, Went.of ⟨HN.out, HK.out, fun k hk => .inl (foot_new hk)⟩ HUP.out rfl⟩
end Go.Proofs.YtfpoiikhhjdpdaaGreat

/- Pairs: Fail, Replace, Rebuild. -/
namespace Go.Proofs.YtfpoiikhhjdpdaaGreat
open Go.RowKit
set_option linter.unusedVariables false
theorem pair_fail (w : World) (x y : Nat) (q : PSt) (N : Nat) (d : Int) (p : PairAt w x y q N) :
    Calls Tryz.prog 46 #[.pointer (some ⟨x, 0, none⟩), .int .i64 d] w fun e w1 => ∃ z : Int, e = .returned (.int .i64 z) ∧ XPost 47 #[.pointer (some ⟨y, 0, none⟩), .int .i64 d] w x y q N (.int .i64 z) w1 := by
  cases hd : q.dn
  · have hx := p.xu hd
    obtain ⟨ha, hl⟩ := p.good.up hd
    have hsD : q.a.D = q.s.D := by rw [ha]
    have hsP : q.a.P = q.s.P := by rw [ha]
    have hsl : q.a.lost = q.s.lost := by rw [ha]
    cases hdr : isDriveB q.s.toAb d
    · refine (Fail_no x q.s d w hx hdr).mono ?_
      rintro e w1 ⟨rfl, k1⟩
      refine ⟨6, rfl, XPost.same p (Nat.le_refl _) k1 (fun W hW => ?_)⟩
      rw [hd] at hW
      have ht : rThere (q.a.D + q.a.P) false d 0 = 6 := there_no (by simp only [isDriveB, decide_eq_false_iff_not] at hdr; rw [hsD, hsP]; omega)
      have h2 := rFail_no y q.a q.V q.left false d W hW (by rw [ht]; decide)
      rw [ht] at h2; exact h2
    · have hpr : (0 : Int) ≤ d ∧ d < (q.s.D : Int) + (q.s.P : Int) := by simpa [isDriveB] using hdr
      obtain ⟨dd, rfl⟩ : ∃ dd : Nat, d = (dd : Int) := ⟨d.toNat, by omega⟩
      have hdd : dd < q.a.D + q.a.P := by rw [hsD, hsP]; omega
      cases hlo : q.s.lost dd
      · refine (Fail_ok x q.s dd w hx (by omega) hlo).mono ?_
        rintro e w1 ⟨rfl, hw⟩
        refine ⟨0, rfl, q.s.newDrive dd true 0, q.a.newDrive dd true 0, q.left, false, Mid.went hx.up hw, fun W hW => ?_, fun V' => ?_⟩
        · rw [hd] at hW
          exact rFail_ok y q.a q.V q.left dd W hW hdd (by rw [hsl]; exact hlo)
        · refine ⟨fun _ => ⟨by rw [ha]; rfl, hl⟩, fun h => (by cases h), fun b hb => p.good.brk b hb, p.good.fit.newLost dd, p.good.steps⟩
      · refine (Fail_lost x q.s dd w hx (by omega) hlo).mono ?_
        rintro e w1 ⟨rfl, k1⟩
        refine ⟨7, rfl, XPost.same p (Nat.le_refl _) k1 (fun W hW => ?_)⟩
        rw [hd] at hW
        exact rFail_state y q.a q.V q.left dd W hW hdd (by rw [hsl]; exact hlo)
  · have hx := p.xd hd
    refine (Fail_down x q.s d w hx.toHoardIn hx.down).mono ?_
    rintro e w1 ⟨rfl, k1⟩
    refine ⟨3, rfl, XPost.same p (Nat.le_refl _) k1 (fun W hW => ?_)⟩
    rw [hd] at hW
    have h2 := rFail_no y q.a q.V q.left true d W hW (by rw [there_down]; decide)
    rw [there_down] at h2; exact h2
theorem pair_replace (w : World) (x y : Nat) (q : PSt) (N : Nat) (d : Int) (p : PairAt w x y q N) :
    Calls Tryz.prog 48 #[.pointer (some ⟨x, 0, none⟩), .int .i64 d] w fun e w1 => ∃ z : Int, e = .returned (.int .i64 z) ∧ XPost 49 #[.pointer (some ⟨y, 0, none⟩), .int .i64 d] w x y q N (.int .i64 z) w1 := by
  cases hd : q.dn
  · have hx := p.xu hd
    obtain ⟨ha, hl⟩ := p.good.up hd
    have hsD : q.a.D = q.s.D := by rw [ha]
    have hsP : q.a.P = q.s.P := by rw [ha]
    have hsR : q.a.R = q.s.R := by rw [ha]
    have hsl : q.a.lost = q.s.lost := by rw [ha]
    cases hdr : isDriveB q.s.toAb d
    · refine (Replace_no x q.s d w hx hdr).mono ?_
      rintro e w1 ⟨rfl, k1⟩
      refine ⟨6, rfl, XPost.same p (Nat.le_refl _) k1 (fun W hW => ?_)⟩
      rw [hd] at hW
      have ht : rThere (q.a.D + q.a.P) false d 0 = 6 := there_no (by simp only [isDriveB, decide_eq_false_iff_not] at hdr; rw [hsD, hsP]; omega)
      have h2 := rReplace_no y q.a q.V q.left false d W hW (by rw [ht]; decide)
      rw [ht] at h2; exact h2
    · have hpr : (0 : Int) ≤ d ∧ d < (q.s.D : Int) + (q.s.P : Int) := by simpa [isDriveB] using hdr
      obtain ⟨dd, rfl⟩ : ∃ dd : Nat, d = (dd : Int) := ⟨d.toNat, by omega⟩
      have hdd : dd < q.a.D + q.a.P := by rw [hsD, hsP]; omega
      cases hlo : q.s.lost dd
      · refine (Replace_live x q.s dd w hx (by omega) hlo).mono ?_
        rintro e w1 ⟨rfl, k1⟩
        refine ⟨7, rfl, XPost.same p (Nat.le_refl _) k1 (fun W hW => ?_)⟩
        rw [hd] at hW
        exact rReplace_state y q.a q.V q.left dd W hW hdd (by rw [hsl]; exact hlo)
      · refine (Replace_ok x q.s dd w hx (by omega) hlo).mono ?_
        rintro e w1 ⟨rfl, hw⟩
        refine ⟨0, rfl, q.s.newDrive dd false q.s.R, q.a.newDrive dd false q.a.R, q.left, false, Mid.went hx.up hw, fun W hW => ?_, fun V' => ?_⟩
        · rw [hd] at hW
          exact rReplace_ok y q.a q.V q.left dd W hW p.good.fit hdd (by rw [hsl]; exact hlo)
        · refine ⟨fun _ => ⟨by rw [ha]; rfl, hl⟩, fun h => (by cases h), fun b hb => p.good.brk b hb, p.good.fit.newLive dd, p.good.steps⟩
  · have hx := p.xd hd
    refine (Replace_down x q.s d w hx.toHoardIn hx.down).mono ?_
    rintro e w1 ⟨rfl, k1⟩
    refine ⟨3, rfl, XPost.same p (Nat.le_refl _) k1 (fun W hW => ?_)⟩
    rw [hd] at hW
    have h2 := rReplace_no y q.a q.V q.left true d W hW (by rw [there_down]; decide)
    rw [there_down] at h2; exact h2
theorem pair_rebuild (w : World) (x y : Nat) (q : PSt) (N : Nat) (d n : Int) (p : PairAt w x y q N) (hn : n ≤ 9223372036854775807) :
    Calls Tryz.prog 50 #[.pointer (some ⟨x, 0, none⟩), .int .i64 d, .int .i64 n] w fun e w1 => ∃ k z : Int, e = .returned (.tuple #[.int .i64 k, .int .i64 z]) ∧ XPost 51 #[.pointer (some ⟨y, 0, none⟩), .int .i64 d, .int .i64 n] w x y q N (.tuple #[.int .i64 k, .int .i64 z]) w1 := by
  cases hd : q.dn
  · have hx := p.xu hd
    obtain ⟨ha, hl⟩ := p.good.up hd
    have hsD : q.a.D = q.s.D := by rw [ha]
    have hsP : q.a.P = q.s.P := by rw [ha]
    have hsR : q.a.R = q.s.R := by rw [ha]
    have hsl : q.a.lost = q.s.lost := by rw [ha]
    cases hdr : isDriveB q.s.toAb d
    · refine (Rebuild_no x q.s d n w hx hdr).mono ?_
      rintro e w1 ⟨rfl, k1⟩
      refine ⟨0, 6, rfl, XPost.same p (Nat.le_refl _) k1 (fun W hW => ?_)⟩
      rw [hd] at hW
      have ht : rThere (q.a.D + q.a.P) false d 0 = 6 := there_no (by simp only [isDriveB, decide_eq_false_iff_not] at hdr; rw [hsD, hsP]; omega)
      have h2 := rRebuild_no y q.a q.V q.left false d n W hW (by rw [ht]; decide)
      rw [ht] at h2; exact h2
    · have hpr : (0 : Int) ≤ d ∧ d < (q.s.D : Int) + (q.s.P : Int) := by simpa [isDriveB] using hdr
      obtain ⟨dd, rfl⟩ : ∃ dd : Nat, d = (dd : Int) := ⟨d.toNat, by omega⟩
      have hdd : dd < q.a.D + q.a.P := by rw [hsD, hsP]; omega
      cases hlo : q.s.lost dd
      · by_cases hn1 : n < 1
        · refine (Rebuild_arg x q.s dd n w hx (by omega) hlo hn1).mono ?_
          rintro e w1 ⟨rfl, k1⟩
          refine ⟨0, 1, rfl, XPost.same p (Nat.le_refl _) k1 (fun W hW => ?_)⟩
          rw [hd] at hW
          have h2 := rRebuild_bad y q.a q.V q.left dd n W hW hdd (.inr hn1)
          rw [hsl, hlo] at h2; exact h2
        · refine (Rebuild_ok x q.s dd n w hx (by omega) hlo (by omega) hn).mono ?_
          rintro e w1 ⟨rfl, hw⟩
          have hrun := rbRun_ab q.s dd n q.s.R
          have hpp := abRun_props q.a dd n q.a.R
          refine ⟨_, 0, rfl, (rbRun q.s dd n q.s.R).1, (abRun q.a dd n q.a.R).1, q.left, false, Mid.went hx.up hw, fun W hW => ?_, fun V' => ?_⟩
          · rw [hd] at hW
            have h2 := rRebuild_ok y q.a q.V q.left dd n W hW hdd (by rw [hsl]; exact hlo) (by omega) hn
            have he : (abRun q.a dd n q.a.R).2 = (rbRun q.s dd n q.s.R).2 := by rw [ha]; exact hrun.2.symm
            rw [he] at h2
            exact h2
          · refine ⟨fun _ => ⟨by rw [ha]; exact hrun.1.symm, hl.trans (lft_congr hpp.2.2.2 hpp.2.2.1).symm⟩, fun h => (by cases h), fun b hb => ?_, p.good.fit.abRun dd n (by rw [hsl]; exact hlo) q.a.R, ?_⟩
            · replace hb : (abRun q.a dd n q.a.R).1.brk = some b := hb
              rw [hpp.2.2.2] at hb
              show (abRun q.a dd n q.a.R).1.steps ≤ b ∧ _
              rw [hpp.2.2.1]; exact p.good.brk b hb
            · show (abRun q.a dd n q.a.R).1.steps ≤ N
              rw [hpp.2.2.1]; exact p.good.steps
      · refine (Rebuild_lost x q.s dd n w hx (by omega) hlo).mono ?_
        rintro e w1 ⟨rfl, k1⟩
        refine ⟨0, 7, rfl, XPost.same p (Nat.le_refl _) k1 (fun W hW => ?_)⟩
        rw [hd] at hW
        have h2 := rRebuild_bad y q.a q.V q.left dd n W hW hdd (.inl (by rw [hsl]; exact hlo))
        rw [hsl, hlo] at h2; exact h2
  · have hx := p.xd hd
    refine (Rebuild_down x q.s d n w hx.toHoardIn hx.down).mono ?_
    rintro e w1 ⟨rfl, k1⟩
    refine ⟨0, 3, rfl, XPost.same p (Nat.le_refl _) k1 (fun W hW => ?_)⟩
    rw [hd] at hW
    have h2 := rRebuild_no y q.a q.V q.left true d n W hW (by rw [there_down]; decide)
    rw [there_down] at h2; exact h2
end Go.Proofs.YtfpoiikhhjdpdaaGreat

/- hoardlaw.step: the kinds of Losses. -/
namespace Go.Proofs.YtfpoiikhhjdpdaaGreat
open Go.RowKit
set_option linter.unusedVariables false
theorem step_losses {T w : World} {tag : Nat → Nat} {G : GSt} {N : Nat} (o : OpV) (hG : Great T w tag G N) (hN : N ≤ 220000000) (ho : o.fits) (hk : 3 ≤ o.k ∧ o.k ≤ 13) :
    Calls Tryz.prog 10 #[.pointer (some ⟨T.heap.size, 0, none⟩), o.val] w fun e w' => e = .returned (.bool true) ∧ ∃ tag' G', Great T w' tag' G' (N + 200) := by
  by_cases h10 : o.k ≤ 10
  · exact step_great o hG hN ho (by omega)
  have h0 : ∀ W, Below w.heap.size w W → ∃ tag' G', Great T W tag' G' (N + 200) := fun W hW => ⟨_, _, (hG.below hW).mono (by omega)⟩
  have hk' : o.k = 11 ∨ o.k = 12 ∨ o.k = 13 := by omega
  rcases hk' with h | h | h
  · refine step_11 T tag G N o w h ho.a hN hG _ h0 (fun i hi W hW => ?_)
    have g := hG.below hW
    refine (moved_fail (G.pb i) (G.xb i) (G.yb i) (G.Q i) N N o W h ((g.box i hi).cell (i := 0) (by omega)) ((g.box i hi).cell (i := 1) (by omega)) (g.noFoot hi) (g.pr i hi) (fun W' hW' => pair_fail W' _ _ _ N o.b ((g.pr i hi).below hW'))).mono ?_
    rintro e w' ⟨rfl, q', ht⟩
    exact ⟨rfl, _, _, ((g.turn i hi q' ht).mono (by omega))⟩
  · refine step_12 T tag G N o w h ho.a hN hG _ h0 (fun i hi W hW => ?_)
    have g := hG.below hW
    refine (moved_replace (G.pb i) (G.xb i) (G.yb i) (G.Q i) N N o W h ((g.box i hi).cell (i := 0) (by omega)) ((g.box i hi).cell (i := 1) (by omega)) (g.noFoot hi) (g.pr i hi) (fun W' hW' => pair_replace W' _ _ _ N o.b ((g.pr i hi).below hW'))).mono ?_
    rintro e w' ⟨rfl, q', ht⟩
    exact ⟨rfl, _, _, ((g.turn i hi q' ht).mono (by omega))⟩
  · refine step_13 T tag G N o w h ho.a hN hG _ h0 (fun i hi W hW => ?_)
    have g := hG.below hW
    refine (moved_rebuild (G.pb i) (G.xb i) (G.yb i) (G.Q i) N N o W h ((g.box i hi).cell (i := 0) (by omega)) ((g.box i hi).cell (i := 1) (by omega)) (g.noFoot hi) (g.pr i hi) (fun W' hW' => pair_rebuild W' _ _ _ N o.b o.c ((g.pr i hi).below hW') ho.c.2)).mono ?_
    rintro e w' ⟨rfl, q', ht⟩
    exact ⟨rfl, _, _, ((g.turn i hi q' ht).mono (by omega))⟩
end Go.Proofs.YtfpoiikhhjdpdaaGreat

/- hoardlaw.Losses: the walk. -/
namespace Go.Proofs.YtfpoiikhhjdpdaaGreat
open Go.RowKit
set_option linter.unusedVariables false
set_option maxRecDepth 100000 in
set_option maxHeartbeats 1000000 in
theorem losses_any (a0 : Option Addr) (n cap : Nat) (ops : Nat → OpV) (w : World) (hn : n ≤ 1048576) (hs : ScriptAt w a0 n ops) (hf : ∀ i, i < n → (ops i).fits) :
    Calls Tryz.prog 5 #[.slice a0 n cap] w fun e w' => e = .returned (.bool true) ∧ Below w.heap.size w w' := by
  have HS : Hid _ := hs
  have HF : Hid _ := hf
  clear hs hf
  go_enter Tryz.func5, Tryz.ntmps5
  go_wp2_with fail
  refine (plays_great a0 n cap w.heap.size 11 11 ops (fun j => 3 + (j : Int)) _ hn (by omega) (ScriptAt.below HS.out (below_al _ _)) ?_ (by simp) ?_).mono ?_
  · intro i hi
    have : i = 0 ∨ i = 1 ∨ i = 2 ∨ i = 3 ∨ i = 4 ∨ i = 5 ∨ i = 6 ∨ i = 7 ∨ i = 8 ∨ i = 9 ∨ i = 10 := by omega
    rcases this with rfl | rfl | rfl | rfl | rfl | rfl | rfl | rfl | rfl | rfl | rfl <;> simp [go_sem]
  · rintro i hi ⟨j, hj, e⟩ w' tag G N hN h
    exact step_losses (ops i) h hN (HF.out i hi) (by omega)
  · rintro e w1 ⟨rfl, h⟩
    go_wp2_with fail
    go_ret
    exact ⟨rfl, (below_al w _).trans (h.mono (by simp))⟩
end Go.Proofs.YtfpoiikhhjdpdaaGreat
