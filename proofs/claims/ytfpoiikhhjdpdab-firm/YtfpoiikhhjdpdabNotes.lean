/- A record is noted in a log. -/
import Derived.Test.YtfpoiikhhjdpdabMerges
import Derived.Deep.RegionLaw
namespace Go.Proofs.Ytfpoiikhhjdpdab
open Go.RowKit
set_option linter.unusedVariables false
attribute [local go_sem ↓] Go.wp_at_zero Go.wp_at_succ
theorem frz {w W : World} {hb o : Nat} (h : hb < w.heap.size ∧ w.frozen? ⟨hb, o, none⟩ = false) (k : Below w.heap.size w W) : W.frozen? ⟨hb, o, none⟩ = false := (k.frozen (p := ⟨hb, o, none⟩) h.1).trans h.2
theorem step_append {t e size bytes : Nat} (hI : AppInfo t e size bytes) {ops : Array Oper} {o : Oper} {a : Act} {K : Act → World → Prop} {Q : Exit → Act → World → Prop} {E : Prop} {w : World} (hgd : o.guard = none) (s x : Operand)
    (ho : o.op = .call { callee := .builtin .append, args := #[s, x], argTypes := #[t, t] }) (base : Nat)
    (v : Value) (n : Nat) (xs : List Value) (hs : a.eval s = v) (hown : w.ownsRow base e size v n xs)
    (ad : Addr) (m c : Nat) (news : List Value) (hx : a.eval x = .slice (some ad) m c) (hl : news.length = m * size) (hnews : ∀ j u, news[j]? = some u → w.cell? (ad.add j) = some u) (h1 : ∀ u ∈ news, u.oneCell' = true)
    (hm : 0 < m) (h63 : n + m ≤ maxLen) (hbytes : (n + m) * bytes ≤ 140737488355328) (hbase : base ≤ w.heap.size) (H : Nat) (hH : w.heap.size = H)
    (h : ∀ g cap w', w'.ownsRow base e size (.slice (some ⟨g, 0, none⟩) (n + m) cap) (n + m) (xs ++ news) → w.grownBy w' v.ownBlock → (v.ownBlock = some g ∨ g = H) → g < w'.heap.size → K (a.put o.dst (.slice (some ⟨g, 0, none⟩) (n + m) cap)) w') :
    if Region.wanted o (yielded ops a.tmps) = true then Oper.wp Try.prog o a w K Q else E := by
  obtain ⟨i, z, g1, g2, g3, g4, g5, g6, g7⟩ := hI
  exact step_append_lies w hgd s x t ho base e i z size bytes g1 g2 g3 g4 g5 g6 g7 v n xs hs hown ad m c news hx hl hnews h1 hm h63 hbytes hbase H hH h
theorem recCells_snoc (l : List Rec) (r : Rec) : recCells (l ++ [r]) = recCells l ++ r.cells := by simp [recCells]
theorem note_at {w W w2 : World} {hb : Nat} {s : St} {d len cap g1 cap1 : Nat} {p : Option Addr} {r : Rec} (h : HoardIn w hb s) (hd : d < 6) (hp : s.D ≤ d) (hln : (s.recs d).length = len) (hv : s.lv d = .slice p len cap) (hlen : len < s.M) (hr : r.row < s.R) (hc : r.c.ok)
    (k : Below w.heap.size w W) (hown : w2.ownsRow 0 76 5 (.slice (some ⟨g1, 0, none⟩) (len + 1) cap1) (len + 1) (recCells (s.recs d) ++ r.cells)) (hgr : W.grownBy w2 (Value.slice p len cap).ownBlock) (hat : (Value.slice p len cap).ownBlock = some g1 ∨ w.heap.size ≤ g1) :
    HoardIn (w2.setCell ⟨hb, 4 + d * 32 + 31, none⟩ (.slice (some ⟨g1, 0, none⟩) (len + 1) cap1)) hb (s.setLog d (s.recs d ++ [r]) (.slice (some ⟨g1, 0, none⟩) (len + 1) cap1)) := by
  refine h.setLog (w1 := w2) d _ _ hd hp ?_ ?_ ?_ ?_ ?_
  · intro k' hk' hne
    rw [hv] at hne
    exact (hgr.block k' (Nat.lt_of_lt_of_le hk' k.size) (fun e => hne e.symm)).trans (k.block k' hk')
  · show w2.ownsRow 0 76 5 _ _ _
    rw [recCells_snoc, List.length_append, hln]
    exact hown
  · rw [List.length_append, hln]; simp; omega
  · intro x hx
    rw [List.mem_append] at hx
    rcases hx with hx | hx
    · exact h.ok.recs d x hx
    · simp at hx; subst hx; exact ⟨hr, hc⟩
  · rw [hv]
    rcases hat with h1 | h1
    · exact .inl h1.symm
    · right; intro g hg; simp [Value.ownBlock] at hg; omega
theorem note_kept {w W w2 : World} {hb : Nat} {s : St} {d len cap : Nat} {p : Option Addr} (hd : d < 6) (hv : s.lv d = .slice p len cap) (k : Below w.heap.size w W) (hgr : W.grownBy w2 (Value.slice p len cap).ownBlock) : Kept (Foot hb s) w w2 :=
  ⟨hgr.os.trans k.os, hgr.tape.trans k.tape, hgr.output.trans k.output, Nat.le_trans k.size hgr.size, fun i hi hs => (hgr.block i (Nat.lt_of_lt_of_le hi k.size) (fun e => hs (.inr ⟨d, hd, by rw [hv]; exact e.symm⟩))).trans (k.block i hi)⟩
/- append of one record to a log of the hoard -/
set_option maxRecDepth 100000 in
set_option maxHeartbeats 1000000 in
theorem note_room (hb : Nat) (s : St) (d : Nat) (r : Rec) (w : World) (h : HoardIn w hb s) (hd : d < 6) (hp : s.D ≤ d) (hlen : (s.recs d).length < s.M) (hr : r.row < s.R) (hc : r.c.ok) :
    Calls Try.prog 79 #[.pointer (some ⟨hb, 4 + d * 32, none⟩), .agg #[.int .i64 r.row, .int .u8 r.c.b0, .int .u8 r.c.b1, .int .u8 r.c.b2, .int .u8 r.c.b3], .int .i64 s.M] w fun e w' => ∃ v', e = .returned (.tuple #[]) ∧ HoardIn w' hb (s.setLog d (s.recs d ++ [r]) v') ∧ Kept (Foot hb s) w w' ∧ (∀ g, v'.ownBlock = some g → (s.lv d).ownBlock = some g ∨ w.heap.size ≤ g) := by
  have hl := h.log d hd
  have hlt := h.row.lt
  have hM := h.ok.M8
  have hfz := h.row.frozen (4 + d * 32 + 31)
  have hown : w.ownsRow 0 76 5 (s.lv d) (s.recs d).length (recCells (s.recs d)) := h.logs d hd
  obtain ⟨p, n', cap, hv⟩ := own_slice hown
  have hn' : n' = (s.recs d).length := by
    rcases (h.logs d hd).form with ⟨hv', hr⟩ | ⟨g, cap', hv', _⟩
    · rw [hv] at hv'; cases hv'; rw [hr]; rfl
    · rw [hv] at hv'; cases hv'; rfl
  subst hn'
  have HH : Hid (HoardIn w hb s) := h
  have HV : Hid (s.lv d = .slice p (s.recs d).length cap) := hv
  rw [hv] at hl hown
  have HO : Hid (w.ownsRow 0 76 5 (.slice p (s.recs d).length cap) (s.recs d).length (recCells (s.recs d))) := hown
  generalize hln : (s.recs d).length = len at *
  have HLN : Hid ((s.recs d).length = len) := hln
  clear h hv hown hln
  go_enter Try.func79, Try.ntmps79
  have hcn : ¬ s.M ≤ len := by omega
  have HF : Hid (hb < w.heap.size ∧ w.frozen? ⟨hb, 4 + d * 32 + 31, none⟩ = false) := ⟨hlt, hfz⟩
  have HCL : Hid (∀ W, Below w.heap.size w W → W.cell? ⟨hb, 4 + d * 32 + 31, none⟩ = some (.slice p len cap)) := fun W k => below_cell k hl
  have hne : some hb ≠ (Value.slice p len cap).ownBlock := fun e => HH.out.apart d hd (by rw [HV.out]; exact e.symm)
  have hnw : some w.heap.size ≠ (Value.slice p len cap).ownBlock := fun e => by have := (World.ownsRow.lt HO.out _ e.symm).2; omega
  have HC : Hid (∀ j u, (Rec.cells r)[j]? = some u → ((w.alloc (Obj.cells #[.int .i64 r.row, .int .u8 r.c.b0, .int .u8 r.c.b1, .int .u8 r.c.b2, .int .u8 r.c.b3] 76)).alloc (Obj.cells #[.int .i64 r.row, .int .u8 r.c.b0, .int .u8 r.c.b1, .int .u8 r.c.b2, .int .u8 r.c.b3] 76)).drew.cell? ((⟨w.heap.size + 1, 0, none⟩ : Addr).add j) = some u) := by
    have h1 := heap_alloc_new (w.alloc (Obj.cells #[.int .i64 r.row, .int .u8 r.c.b0, .int .u8 r.c.b1, .int .u8 r.c.b2, .int .u8 r.c.b3] 76)) (Obj.cells #[.int .i64 r.row, .int .u8 r.c.b0, .int .u8 r.c.b1, .int .u8 r.c.b2, .int .u8 r.c.b3] 76)
    rw [show (w.alloc (Obj.cells #[.int .i64 r.row, .int .u8 r.c.b0, .int .u8 r.c.b1, .int .u8 r.c.b2, .int .u8 r.c.b3] 76)).heap.size = w.heap.size + 1 by simp] at h1
    exact World.news_of_block (w := ((w.alloc (Obj.cells #[.int .i64 r.row, .int .u8 r.c.b0, .int .u8 r.c.b1, .int .u8 r.c.b2, .int .u8 r.c.b3] 76)).alloc (Obj.cells #[.int .i64 r.row, .int .u8 r.c.b0, .int .u8 r.c.b1, .int .u8 r.c.b2, .int .u8 r.c.b3] 76)).drew) h1
  have HONE : Hid (∀ u ∈ Rec.cells r, u.oneCell' = true) := by
    intro u hu
    simp [Rec.cells] at hu
    rcases hu with rfl | rfl | rfl | rfl | rfl <;> rfl
  go_wp2
  go_region_law
    ((refine step_append appRec (by rfl) _ _ (by rfl) 0 (.slice p len cap) len (recCells (s.recs d)) (by rfl) (by exact (HO.out.alloc _).alloc _) ⟨w.heap.size + 1, 0, none⟩ 1 1 (Rec.cells r) (by rfl) (by rfl) (by exact HC.out) HONE.out (by omega) (by simp only [maxLen]; omega) (by omega) (Nat.zero_le _) (w.heap.size + 2) (by simp) ?_; intro g1 cap1 w2 hown2 hgr hat hg1; have q1 := (hgr.cell_far ⟨hb, 4 + d * 32 + 31, none⟩ (by simp <;> omega) hne).trans (HCL.out _ (by repeat (first | exact Below.refl _ _ | refine Below.drew ?_ | refine Below.alloc ?_ (by simp <;> omega) _))); have q2 := (hgr.frozen_far ⟨hb, 4 + d * 32 + 31, none⟩ (by simp <;> omega) hne).trans (frz HF.out (by repeat (first | exact Below.refl _ _ | refine Below.drew ?_ | refine Below.alloc ?_ (by simp <;> omega) _)))))
  all_goals
    go_end0
    refine ⟨.slice (some ⟨g1, 0, none⟩) (len + 1) cap1, rfl, ?_, ?_, fun g hg => by simp [Value.ownBlock] at hg; subst hg; rw [HV.out]; exact hat.imp id (fun e => by omega)⟩
    · exact note_at HH.out hd hp HLN.out HV.out hlen hr hc (by repeat (first | exact Below.refl _ _ | refine Below.drew ?_ | refine Below.alloc ?_ (by simp <;> omega) _)) hown2 hgr (hat.imp id (fun e => by omega))
    · have kk : Kept (Foot hb s) w w2 := note_kept hd HV.out (by repeat (first | exact Below.refl _ _ | refine Below.drew ?_ | refine Below.alloc ?_ (by simp <;> omega) _)) hgr
      exact kk.setCell (.inl (.inl rfl)) _
def noteS (s : St) (d : Nat) (r : Rec) (v : Value) : St := if (s.recs d).length < s.M then s.setLog d (s.recs d ++ [r]) v else (applyRecs s d ((s.recs d).take 1)).setLog d ((s.recs d).drop 1 ++ [r]) v
theorem setLog_setLog (s : St) (d : Nat) (l l' : List Rec) (v v' : Value) : (s.setLog d l v).setLog d l' v' = s.setLog d l' v' := by
  have e1 : (fun d' => if d' = d then l' else (s.setLog d l v).recs d') = fun d' => if d' = d then l' else s.recs d' := by
    funext d'; simp only [St.setLog]; split <;> rfl
  have e2 : (fun d' => if d' = d then v' else (s.setLog d l v).lv d') = fun d' => if d' = d then v' else s.lv d' := by
    funext d'; simp only [St.setLog]; split <;> rfl
  show ({ s with recs := _, lv := _ } : St) = { s with recs := _, lv := _ }
  rw [e1, e2]
set_option maxRecDepth 100000 in
set_option maxHeartbeats 2000000 in
theorem note_full (hb : Nat) (s : St) (d : Nat) (r : Rec) (w : World) (h : HoardIn w hb s) (hd : d < 6) (hp : s.D ≤ d) (hlen : (s.recs d).length = s.M) (hr : r.row < s.R) (hc : r.c.ok) :
    Calls Try.prog 79 #[.pointer (some ⟨hb, 4 + d * 32, none⟩), .agg #[.int .i64 r.row, .int .u8 r.c.b0, .int .u8 r.c.b1, .int .u8 r.c.b2, .int .u8 r.c.b3], .int .i64 s.M] w fun e w' => ∃ v', e = .returned (.tuple #[]) ∧ HoardIn w' hb ((applyRecs s d ((s.recs d).take 1)).setLog d ((s.recs d).drop 1 ++ [r]) v') ∧ Kept (fun i => i = hb) w w' ∧ (∀ g, v'.ownBlock = some g → w.heap.size ≤ g) := by
  have hl := h.log d hd
  have hlt := h.row.lt
  have hM := h.ok.M8
  have hM1 := h.ok.M1
  obtain ⟨p0, cap0, hv0⟩ : ∃ p cap, s.lv d = .slice p (s.recs d).length cap := by
    rcases (h.logs d hd).form with ⟨hv, hr⟩ | ⟨g, cap, hv, _⟩
    · exact ⟨none, 0, by rw [hv, hr]; rfl⟩
    · exact ⟨_, _, hv⟩
  rw [hv0, hlen] at hl
  have HH : Hid (HoardIn w hb s) := h
  have HLEN : Hid ((s.recs d).length = s.M) := hlen
  have HA : Hid (HoardIn (w.alloc (Obj.cells #[.int .i64 r.row, .int .u8 r.c.b0, .int .u8 r.c.b1, .int .u8 r.c.b2, .int .u8 r.c.b3] 76)) hb s) := h.below ((Below.refl _ _).alloc (Nat.le_refl _) _)
  clear h hv0 hlen
  go_enter Try.func79, Try.ntmps79
  go_wp2_with fail
  refine (dmerge_any hb s d 1 _ HA.out hd hp (by omega) (by omega)).mono ?_
  rintro e w1 ⟨v1, rfl, h1, k1, f1⟩
  have b0 := k1.cell (p := ⟨w.heap.size, 0, none⟩) (v := .int .i64 r.row) (by simp; omega) (by simp [go_sem])
  have b1 := k1.cell (p := ⟨w.heap.size, 1, none⟩) (v := .int .u8 r.c.b0) (by simp; omega) (by simp [go_sem])
  have b2 := k1.cell (p := ⟨w.heap.size, 2, none⟩) (v := .int .u8 r.c.b1) (by simp; omega) (by simp [go_sem])
  have b3 := k1.cell (p := ⟨w.heap.size, 3, none⟩) (v := .int .u8 r.c.b2) (by simp; omega) (by simp [go_sem])
  have b4 := k1.cell (p := ⟨w.heap.size, 4, none⟩) (v := .int .u8 r.c.b3) (by simp; omega) (by simp [go_sem])
  have hbx : w.heap.size < w1.heap.size := block_lt_of_cell b0
  have K1 : Kept (fun i => i = hb) w w1 := ((Kept.refl _ _).alloc _).trans k1
  have hF1 : ∀ g, v1.ownBlock = some g → w.heap.size ≤ g := fun g hg => by have := f1 g hg; simp at this; omega
  clear k1 f1 hl
  generalize hs1 : (applyRecs s d ((s.recs d).take 1)).setLog d ((s.recs d).drop 1) v1 = s1 at *
  have e1 : s1.recs d = (s.recs d).drop 1 := by rw [← hs1]; simp [St.setLog]
  have e2 : s1.lv d = v1 := by rw [← hs1]; simp [St.setLog]
  have e3 : s1.M = s.M := by rw [← hs1]; exact (applyRecs_lv s d _).2.2.1
  have e4 : s1.R = s.R := by rw [← hs1]; exact (applyRecs_lv s d _).2.2.2.1
  have e5 : s1.D = s.D := by rw [← hs1]; exact (applyRecs_lv s d _).2.2.2.2.1
  have hl := h1.log d hd
  have hlt1 := h1.row.lt
  have hfz := h1.row.frozen (4 + d * 32 + 31)
  have hown : w1.ownsRow 0 76 5 (s1.lv d) (s1.recs d).length (recCells (s1.recs d)) := h1.logs d hd
  obtain ⟨p, cap, hv⟩ : ∃ p cap, s1.lv d = .slice p (s1.recs d).length cap := by
    rcases (h1.logs d hd).form with ⟨hv, hr⟩ | ⟨g, cap, hv, _⟩
    · exact ⟨none, 0, by rw [hv, hr]; rfl⟩
    · exact ⟨_, _, hv⟩
  rw [hv] at hl hown
  have hln : (s1.recs d).length = s.M - 1 := by rw [e1, List.length_drop, HLEN.out]
  generalize hlg : (s1.recs d).length = len at *
  have HLN : Hid ((s1.recs d).length = len) := hlg
  have HV : Hid (s1.lv d = .slice p len cap) := hv
  have HO : Hid (w1.ownsRow 0 76 5 (.slice p len cap) len (recCells (s1.recs d))) := hown
  have H1 : Hid (HoardIn w1 hb s1) := h1
  have HS1 : Hid ((applyRecs s d ((s.recs d).take 1)).setLog d ((s.recs d).drop 1) v1 = s1) := hs1
  have E1 : Hid (s1.recs d = (s.recs d).drop 1) := e1
  have E2 : Hid (s1.lv d = v1) := e2
  have E3 : Hid (s1.M = s.M) := e3
  have E4 : Hid (s1.R = s.R) := e4
  have E5 : Hid (s1.D = s.D) := e5
  have hlen8 : len ≤ 8 := by omega
  have hlenM : len < s.M := by omega
  clear e1 e2 e3 e4 e5 hs1 h1 hv hlg hown hln
  have HF : Hid (hb < w1.heap.size ∧ w1.frozen? ⟨hb, 4 + d * 32 + 31, none⟩ = false) := ⟨hlt1, hfz⟩
  have HCL : Hid (∀ W, Below w1.heap.size w1 W → W.cell? ⟨hb, 4 + d * 32 + 31, none⟩ = some (.slice p len cap)) := fun W k => below_cell k hl
  have hne : some hb ≠ (Value.slice p len cap).ownBlock := fun e => H1.out.apart d hd (by rw [HV.out]; exact e.symm)
  have HC : Hid (∀ j u, (Rec.cells r)[j]? = some u → (w1.alloc (Obj.cells #[.int .i64 r.row, .int .u8 r.c.b0, .int .u8 r.c.b1, .int .u8 r.c.b2, .int .u8 r.c.b3] 76)).drew.cell? ((⟨w1.heap.size, 0, none⟩ : Addr).add j) = some u) :=
    World.news_of_block (w := (w1.alloc (Obj.cells #[.int .i64 r.row, .int .u8 r.c.b0, .int .u8 r.c.b1, .int .u8 r.c.b2, .int .u8 r.c.b3] 76)).drew) (heap_alloc_new w1 (Obj.cells #[.int .i64 r.row, .int .u8 r.c.b0, .int .u8 r.c.b1, .int .u8 r.c.b2, .int .u8 r.c.b3] 76))
  have HONE : Hid (∀ u ∈ Rec.cells r, u.oneCell' = true) := by
    intro u hu
    simp [Rec.cells] at hu
    rcases hu with rfl | rfl | rfl | rfl | rfl <;> rfl
  go_wp2_with fail
  go_region_law
    ((refine step_append appRec (by rfl) _ _ (by rfl) 0 (.slice p len cap) len (recCells (s1.recs d)) (by rfl) (by exact HO.out.alloc _) ⟨w1.heap.size, 0, none⟩ 1 1 (Rec.cells r) (by rfl) (by rfl) (by exact HC.out) HONE.out (by omega) (by simp only [maxLen]; omega) (by omega) (Nat.zero_le _) (w1.heap.size + 1) (by simp) ?_; intro g1 cap1 w2 hown2 hgr hat hg1; have q1 := (hgr.cell_far ⟨hb, 4 + d * 32 + 31, none⟩ (by simp <;> omega) hne).trans (HCL.out _ (by repeat (first | exact Below.refl _ _ | refine Below.drew ?_ | refine Below.alloc ?_ (by simp <;> omega) _))); have q2 := (hgr.frozen_far ⟨hb, 4 + d * 32 + 31, none⟩ (by simp <;> omega) hne).trans (frz HF.out (by repeat (first | exact Below.refl _ _ | refine Below.drew ?_ | refine Below.alloc ?_ (by simp <;> omega) _)))))
  all_goals
    go_end0
    refine ⟨.slice (some ⟨g1, 0, none⟩) (len + 1) cap1, rfl, ?_, ?_, ?_⟩
    · have hn := note_at H1.out hd (by rw [E5.out]; exact hp) HLN.out HV.out (by rw [E3.out]; omega) (by rw [E4.out]; exact hr) hc (by repeat (first | exact Below.refl _ _ | refine Below.drew ?_ | refine Below.alloc ?_ (by simp <;> omega) _)) hown2 hgr (hat.imp id (fun e => by omega))
      rw [E1.out, ← HS1.out, setLog_setLog] at hn
      exact hn
    · have kk : Kept (fun i => i = hb) w w2 := by
        have k2 : Kept (fun i => w.heap.size ≤ i) w1 w2 := by
          have k3 : Below w1.heap.size w1 (w1.alloc (Obj.cells #[.int .i64 r.row, .int .u8 r.c.b0, .int .u8 r.c.b1, .int .u8 r.c.b2, .int .u8 r.c.b3] 76)).drew := by repeat (first | exact Below.refl _ _ | refine Below.drew ?_ | refine Below.alloc ?_ (by simp <;> omega) _)
          refine ⟨hgr.os.trans k3.os, hgr.tape.trans k3.tape, hgr.output.trans k3.output, Nat.le_trans k3.size hgr.size, fun i hi hs => ?_⟩
          refine (hgr.block i (Nat.lt_of_lt_of_le hi k3.size) (fun e => hs ?_)).trans (k3.block i hi)
          exact hF1 i (by rw [← E2.out, HV.out]; exact e.symm)
        exact K1.trans' k2 (fun i hi => .inr hi)
      exact kk.setCell (.inl rfl) _
    · intro g hg
      simp [Value.ownBlock] at hg
      subst hg
      rcases hat with h3 | h3
      · exact hF1 g1 (by rw [← E2.out, HV.out]; exact h3)
      · omega
/-- From s in w to s' in w': none but the hoard's own blocks have turned; its blocks are old ones of its own, or new. -/
structure WentIn (hb : Nat) (s : St) (w : World) (s' : St) (w' : World) : Prop where
  at' : HoardIn w' hb s'
  kept : Kept (Foot hb s) w w'
  foot : ∀ k, Foot hb s' k → Foot hb s k ∨ w.heap.size ≤ k
theorem WentIn.trans {hb : Nat} {a b c : St} {w w1 w2 : World} (h : WentIn hb a w b w1) (k : WentIn hb b w1 c w2) : WentIn hb a w c w2 :=
  ⟨k.at', h.kept.trans' k.kept h.foot, fun i hi => by
    rcases k.foot i hi with h1 | h1
    · exact h.foot i h1
    · right; have := h.kept.size; omega⟩
theorem WentIn.below {hb : Nat} {s : St} {w w' : World} (h : HoardIn w hb s) (k : Below w.heap.size w w') : WentIn hb s w s w' :=
  ⟨h.below k, Kept.of_below k, fun _ h => .inl h⟩
theorem foot_setLog {hb : Nat} {s : St} {d : Nat} {l : List Rec} {v : Value} {k : Nat} (h : Foot hb (s.setLog d l v) k) : Foot hb s k ∨ v.ownBlock = some k := by
  rcases h with h | ⟨d', hd', h⟩
  · exact .inl (.inl h)
  · simp only [St.setLog] at h
    split at h
    · exact .inr h
    · exact .inl (.inr ⟨d', hd', h⟩)
theorem foot_apply {hb : Nat} {s : St} {d : Nat} {l : List Rec} {k : Nat} (h : Foot hb (applyRecs s d l) k) : Foot hb s k := by
  rcases h with h | ⟨d', hd', h⟩
  · exact .inl h
  · rw [(applyRecs_lv s d l).1] at h; exact .inr ⟨d', hd', h⟩
theorem note_any (hb : Nat) (s : St) (d : Nat) (r : Rec) (w : World) (h : HoardIn w hb s) (hd : d < 6) (hp : s.D ≤ d) (hr : r.row < s.R) (hc : r.c.ok) :
    Calls Try.prog 79 #[.pointer (some ⟨hb, 4 + d * 32, none⟩), .agg #[.int .i64 r.row, .int .u8 r.c.b0, .int .u8 r.c.b1, .int .u8 r.c.b2, .int .u8 r.c.b3], .int .i64 s.M] w fun e w' => ∃ v', e = .returned (.tuple #[]) ∧ WentIn hb s w (noteS s d r v') w' := by
  unfold noteS
  by_cases hlen : (s.recs d).length < s.M
  · simp only [hlen, if_true]
    refine (note_room hb s d r w h hd hp hlen hr hc).mono fun e w' ⟨v', he, hat, hk, hf⟩ => ⟨v', he, hat, hk, fun k hk' => ?_⟩
    rcases foot_setLog hk' with h1 | h1
    · exact .inl h1
    · rcases hf k h1 with h2 | h2
      · exact .inl (.inr ⟨d, hd, h2⟩)
      · exact .inr h2
  · simp only [hlen, if_false]
    have hle := h.ok.len d
    refine (note_full hb s d r w h hd hp (by omega) hr hc).mono fun e w' ⟨v', he, hat, hk, hf⟩ => ⟨v', he, hat, hk.mono (fun i hi => .inl hi), fun k hk' => ?_⟩
    rcases foot_setLog hk' with h1 | h1
    · exact .inl (foot_apply h1)
    · exact .inr (hf k h1)
end Go.Proofs.Ytfpoiikhhjdpdab
