import Derived.Test.YtfpoiikhhjdpdaaGreatJ18
import Derived.Test.YtfpoiikhhjdpdaaGreatJ20
import Derived.Test.YtfpoiikhhjdpdaaGreatJ27
import Derived.Test.YtfpoiikhhjdpdaaGreatJ01
/- Pairs: the program's call and the document's, side by side: Merge. -/
namespace Go.Proofs.YtfpoiikhhjdpdaaGreat
open Go.RowKit
set_option linter.unusedVariables false
theorem PTurn.pre {w W w3 : World} {x y : Nat} {q q' : PSt} {N : Nat} (k : Below w.heap.size w W) (h : PTurn W w3 x y q q' N) : PTurn w w3 x y q q' N :=
  ⟨h.at', (Kept.of_below k).trans' h.kept (fun i hi => .inl hi), fun b hb => by
    rcases h.foot b hb with h1 | h1
    · exact .inl h1
    · exact .inr (Nat.le_trans k.size h1)⟩
theorem PTurn.post {w w3 w4 : World} {x y : Nat} {q q' : PSt} {N : Nat} (h : PTurn w w3 x y q q' N) (k : Below w3.heap.size w3 w4) : PTurn w w4 x y q q' N := ⟨h.at'.below k, h.kept.trans (Kept.of_below k), h.foot⟩
theorem PGood.same {q : PSt} {N M : Nat} (h : PGood q N) (hM : N ≤ M) (V : Nat → Value) : PGood ⟨q.s, q.a, V, q.left, q.dn⟩ M := ⟨h.up, h.down, fun b hb => ⟨(h.brk b hb).1, by have := (h.brk b hb).2; omega⟩, h.fit, Nat.le_trans h.steps hM⟩
/-- Nothing has changed. -/
theorem XPost.same {G : Nat} {args : Array Value} {w : World} {x y : Nat} {q : PSt} {M N : Nat} {v : Value} {w1 : World} (p : PairAt w x y q M) (hM : M ≤ N) (k : Below w.heap.size w w1) (hY : ∀ W, RefIn W y q.a q.V q.left q.dn → Calls Tryz.prog G args W (fun e w2 => e = .returned v ∧ Below W.heap.size W w2)) : XPost G args w x y q N v w1 := by
  refine ⟨q.s, q.a, q.left, q.dn, ?_, fun W hW => (hY W hW).mono (fun e w2 hh => ⟨hh.1, q.V, RWent.below hW hh.2⟩), fun V' => p.good.same hM V'⟩
  cases hd : q.dn
  · exact Mid.same (p.xu hd) k
  · exact Mid.sameD (p.xd hd) k
theorem there_down (n : Nat) (d l : Int) : rThere n true d l = 3 := rfl
theorem there_no {n : Nat} {d l : Int} (h : d < l ∨ (n : Int) ≤ d) : rThere n false d l = 6 := by
  unfold rThere; rw [if_neg (by simp), if_pos h]
theorem SameAb.shape {a b : Ab} (h : SameAb a b) : b.D + b.P = a.D + a.P := by rw [h.D, h.P]
theorem lft_congr {a b : Ab} (hb : b.brk = a.brk) (hs : b.steps = a.steps) : lft b = lft a := by unfold lft; rw [hb, hs]
theorem pair_merge (w : World) (x y : Nat) (q : PSt) (N : Nat) (d n : Int) (p : PairAt w x y q N) (hn : n ≤ 9223372036854775807) :
    Calls Tryz.prog 44 #[.pointer (some ⟨x, 0, none⟩), .int .i64 d, .int .i64 n] w fun e w1 => ∃ k z : Int, e = .returned (.tuple #[.int .i64 k, .int .i64 z]) ∧ XPost 45 #[.pointer (some ⟨y, 0, none⟩), .int .i64 d, .int .i64 n] w x y q N (.tuple #[.int .i64 k, .int .i64 z]) w1 := by
  cases hd : q.dn
  · have hx := p.xu hd
    obtain ⟨ha, hl⟩ := p.good.up hd
    have hsD : q.a.D = q.s.D := by rw [ha]
    have hsP : q.a.P = q.s.P := by rw [ha]
    have hsl : q.a.lost = q.s.lost := by rw [ha]
    cases hpar : isParityB q.s.toAb d
    · refine (Merge_no x q.s d n w hx hpar).mono ?_
      rintro e w1 ⟨rfl, k1⟩
      refine ⟨0, 6, rfl, XPost.same p (Nat.le_refl _) k1 (fun W hW => ?_)⟩
      rw [hd] at hW
      have ht : rThere (q.a.D + q.a.P) false d q.a.D = 6 := there_no (by simp only [isParityB, decide_eq_false_iff_not] at hpar; rw [hsD, hsP]; omega)
      have h2 := rMerge_no y q.a q.V q.left false d n W hW (by rw [ht]; decide)
      rw [ht] at h2; exact h2
    · have hpr : (q.s.D : Int) ≤ d ∧ d < (q.s.D : Int) + (q.s.P : Int) := by simpa [isParityB] using hpar
      obtain ⟨dd, rfl⟩ : ∃ dd : Nat, d = (dd : Int) := ⟨d.toNat, by omega⟩
      have hdd : dd < q.a.D + q.a.P := by rw [hsD, hsP]; omega
      have hdp : q.a.D ≤ dd := by rw [hsD]; omega
      cases hlo : q.s.lost dd
      · by_cases hn1 : n < 1
        · refine (Merge_arg x q.s dd n w hx hpar hlo hn1).mono ?_
          rintro e w1 ⟨rfl, k1⟩
          refine ⟨0, 1, rfl, XPost.same p (Nat.le_refl _) k1 (fun W hW => ?_)⟩
          rw [hd] at hW
          have h2 := rMerge_bad y q.a q.V q.left dd n W hW hdd hdp (.inr hn1)
          rw [hsl, hlo] at h2; exact h2
        · obtain ⟨nn, rfl⟩ : ∃ nn : Nat, n = (nn : Int) := ⟨n.toNat, by omega⟩
          refine (Merge_ok x q.s dd nn w hx hpar hlo (by omega) (by omega)).mono ?_
          rintro e w1 ⟨s', rfl, hab, hw⟩
          refine ⟨_, 0, rfl, s', abMerge q.a dd nn, q.left, false, Mid.went hx.up hw, fun W hW => ?_, fun V' => ?_⟩
          · rw [hd] at hW
            have h2 := rMerge_ok y q.a q.V q.left dd nn W hW hdd hdp (by rw [hsl]; exact hlo) (by omega) (by omega)
            rw [show q.a.recs = q.s.recs by rw [ha]] at h2
            exact h2
          · have hmp := merge_props q.a dd nn
            refine ⟨fun _ => ⟨by rw [ha]; exact hab.symm, ?_⟩, fun h => (by cases h), fun b hb => ?_, p.good.fit.merge dd nn (by rw [hsl]; exact hlo), ?_⟩
            · exact hl.trans (lft_congr hmp.1.brk hmp.2.2.2).symm
            · replace hb : (abMerge q.a dd nn).brk = some b := hb
              rw [hmp.1.brk] at hb
              have := p.good.brk b hb
              show (abMerge q.a dd nn).steps ≤ b ∧ _
              rw [hmp.2.2.2]; exact this
            · show (abMerge q.a dd nn).steps ≤ N
              rw [hmp.2.2.2]; exact p.good.steps
      · refine (Merge_lost x q.s dd n w hx hpar hlo).mono ?_
        rintro e w1 ⟨rfl, k1⟩
        refine ⟨0, 7, rfl, XPost.same p (Nat.le_refl _) k1 (fun W hW => ?_)⟩
        rw [hd] at hW
        have h2 := rMerge_bad y q.a q.V q.left dd n W hW hdd hdp (.inl (by rw [hsl]; exact hlo))
        rw [hsl, hlo] at h2; exact h2
  · have hx := p.xd hd
    refine (Merge_down x q.s d n w hx.toHoardIn hx.down).mono ?_
    rintro e w1 ⟨rfl, k1⟩
    refine ⟨0, 3, rfl, XPost.same p (Nat.le_refl _) k1 (fun W hW => ?_)⟩
    rw [hd] at hW
    have h2 := rMerge_no y q.a q.V q.left true d n W hW (by rw [there_down]; decide)
    rw [there_down] at h2; exact h2
theorem down_props (A : Ab) (b f n : Nat) (g : Nat → Nat) (j : Nat) : (abDown A b f n g j).brk = none ∧ (abDown A b f n g j).steps = A.steps + j := by
  unfold abDown
  split
  · rename_i h; subst h; exact ⟨rfl, rfl⟩
  · exact ⟨rfl, rfl⟩
theorem block_steps_eq (A : Ab) (b f n : Nat) (g : Nat → Nat) (hD : 1 ≤ A.D) : (abBlock A b f n g).steps = A.steps + blockN A b f n g := by
  cases he : (abNew A b f n g).beq (holdC A (b % A.D) (b / A.D))
  · rw [blockN_diff A b f n g he, ← block_done A b f n g hD he]
  · have := block_same A b f n g he
    rw [this.1, this.2]; rfl
theorem hit_lt {A : Ab} {c j : Nat} (h : brkHit A c = some j) : j < c := by
  unfold brkHit at h
  split at h
  · cases h
  · split at h
    · injection h with h; omega
    · cases h
theorem blocks_under (a : Ab) (f n : Nat) (g : Nat → Nat) (k M : Nat) (hD : 1 ≤ a.D) (hk : a.brk = some k) (hs : a.steps ≤ k) (hno : ∀ m, m < M → brkHit (abBlocks a f n g m) (blockN (abBlocks a f n g m) (f / 4 + m) f n g) = none) : (abBlocks a f n g M).steps ≤ k := by
  induction M with
  | zero => exact hs
  | succ M ih =>
    have h1 := ih (fun m hm => hno m (by omega))
    have h2 := hno M (by omega)
    have h3 : (abBlocks a f n g M).brk = some k := by rw [blocks_brk a f n g hD M]; exact hk
    show (abBlock (abBlocks a f n g M) (f / 4 + M) f n g).steps ≤ k
    rw [block_steps_eq _ _ _ _ _ (by rw [(blocks_inv a f n g M).1.D]; exact hD)]
    unfold brkHit at h2
    rw [h3] at h2
    simp only at h2
    split at h2
    · cases h2
    · omega
theorem blockN_le (A : Ab) (b f n : Nat) (g : Nat → Nat) : blockN A b f n g ≤ 3 + A.P := by
  unfold blockN
  split
  · omega
  · exact cost_le A _ _
/-- What a Write of the program's half leaves; the document's bytes may lie wherever they are nobody's. -/
def WXPost (f : Int) (n : Nat) (g : Nat → Nat) (w : World) (x y : Nat) (q : PSt) (N : Nat) (v : Value) (w1 : World) : Prop :=
  ∃ s' a' left' dn', Mid w w1 x q.s s' a' dn' ∧ (∀ W p cap, RefIn W y q.a q.V q.left q.dn → BytesAt W p n g → (∀ b o, p = some ⟨b, o, none⟩ → ¬ RFoot y q.a q.V b) → Calls Tryz.prog 43 #[.pointer (some ⟨y, 0, none⟩), .int .i64 f, .slice p n cap] W (fun e w2 => e = .returned v ∧ ∃ V', RWent y q.a q.V W a' V' left' dn' w2)) ∧ ∀ V', PGood ⟨s', a', V', left', dn'⟩ N
theorem WXPost.same {f : Int} {n : Nat} {g : Nat → Nat} {w : World} {x y : Nat} {q : PSt} {M N : Nat} {v : Value} {w1 : World} (p : PairAt w x y q M) (hM : M ≤ N) (k : Below w.heap.size w w1) (hY : ∀ W pp cap, RefIn W y q.a q.V q.left q.dn → Calls Tryz.prog 43 #[.pointer (some ⟨y, 0, none⟩), .int .i64 f, .slice pp n cap] W (fun e w2 => e = .returned v ∧ Below W.heap.size W w2)) : WXPost f n g w x y q N v w1 := by
  refine ⟨q.s, q.a, q.left, q.dn, ?_, fun W pp cap hW _ _ => (hY W pp cap hW).mono (fun e w2 hh => ⟨hh.1, q.V, RWent.below hW hh.2⟩), fun V' => p.good.same hM V'⟩
  cases hd : q.dn
  · exact Mid.same (p.xu hd) k
  · exact Mid.sameD (p.xd hd) k
theorem pair_write (w : World) (x y : Nat) (q : PSt) (N : Nat) (f : Int) (pp : Option Addr) (n cap : Nat) (g : Nat → Nat) (p : PairAt w x y q N) (hf : -9223372036854775808 ≤ f ∧ f ≤ 9223372036854775807) (hN : N ≤ 999999990000) (hd : BytesAt w pp n g) (hF : ∀ b o, pp = some ⟨b, o, none⟩ → ¬ PFoot x y q b) :
    Calls Tryz.prog 41 #[.pointer (some ⟨x, 0, none⟩), .int .i64 f, .slice pp n cap] w fun e w1 => ∃ z : Int, e = .returned (.int .i64 z) ∧ WXPost f n g w x y q (N + 200) (.int .i64 z) w1 := by
  cases hdn : q.dn
  · have hx := p.xu hdn
    obtain ⟨ha, hl⟩ := p.good.up hdn
    have hh2 : ∀ f n, hasB q.a f n = hasB q.s.toAb f n := fun f n => by rw [ha]
    cases hh : hasB q.s.toAb f n
    · refine (Write_no x q.s f pp n cap w hx hf hh).mono ?_
      rintro e w1 ⟨rfl, k1⟩
      refine ⟨4, rfl, WXPost.same p (by omega) k1 (fun W pq cq hW => ?_)⟩
      rw [hdn] at hW
      exact rWrite_no y q.a q.V q.left f pq n cq W hW hf (by rw [hh2]; exact hh)
    · have hf0 : 0 ≤ f := by simp only [hasB, decide_eq_true_eq] at hh; omega
      obtain ⟨ff, rfl⟩ : ∃ ff : Nat, f = (ff : Int) := ⟨f.toNat, by omega⟩
      cases hg : anyGone q.s.toAb ff (blkEnd ff n - ff / 4)
      · have hst : q.s.steps ≤ N := by have := p.good.steps; rw [ha] at this; exact this
        have hhas := has_le hx.ok hh
        refine (Write_all x q.s ff pp n cap g w hx hh hg hd (fun b o e hb => hF b o e (.inl (.inl hb))) (by omega)).mono ?_
        intro e w1 hp
        obtain ⟨s', hw, hcs⟩ := hp
        have hM24 : blkEnd ff n - ff / 4 ≤ 24 := by unfold blkEnd; split <;> omega
        have hP2 := hx.ok.P2
        have hD1 := hx.ok.D1
        have hsteps : ∀ m, m ≤ 24 → (abBlocks q.s.toAb ff n g m).steps ≤ N + 120 := fun m hm => by
          have h3 := (blocks_inv q.s.toAb ff n g m).2
          have h4 : m * (3 + q.s.P) ≤ 24 * 5 := Nat.mul_le_mul hm (by omega)
          have h5 : q.s.toAb.steps = q.s.steps := rfl
          have h6 : q.s.toAb.P = q.s.P := rfl
          omega
        rcases hcs with ⟨he, hno, hab, hax⟩ | ⟨he, htv, m, j, hm, hno, hj, hdw⟩
        · refine ⟨0, he, s', abWrite q.a ff n g, lft (abWrite q.a ff n g), false, ?_, fun W pq cq hW hb hFo => ?_, fun V' => ?_⟩
          · have hbk : s'.brk = q.s.brk := by
              show s'.toAb.brk = q.s.toAb.brk
              rw [hab]; exact blocks_brk q.s.toAb ff n g hD1 _
            exact Mid.went hx.up (Went.of hw hax hbk)
          · rw [hdn, hl] at hW
            refine (rWrite_all y q.a q.V ff pq n cq g W hW (by rw [hh2]; exact hh) (by rw [ha]; exact hg) hb hFo (by have := p.good.steps; omega) (fun k hk => by have := p.good.brk k hk; omega)).mono ?_
            intro e2 w2 hr
            rcases hr with ⟨h1, _, V', h3⟩ | ⟨h1, m, j, hm, _, hj, _⟩
            · exact ⟨h1, V', h3⟩
            · rw [ha] at hj
              rw [hno m hm] at hj; cases hj
          · refine ⟨fun _ => ⟨by rw [ha]; exact hab.symm, rfl⟩, fun h => (by cases h), fun b hb => ?_, ?_, ?_⟩
            · replace hb : (abWrite q.a ff n g).brk = some b := hb
              show (abBlocks q.a ff n g _).steps ≤ b ∧ b ≤ N + 200 + 1000
              have hb0 : q.a.brk = some b := by
                have h3 := blocks_brk q.a ff n g (by rw [ha]; exact hD1) (blkEnd ff n - ff / 4)
                rw [← h3]; exact hb
              have h4 := p.good.brk b hb0
              exact ⟨blocks_under q.a ff n g b _ (by rw [ha]; exact hD1) hb0 h4.1 (fun m hm => by rw [ha]; exact hno m hm), by omega⟩
            · exact p.good.fit.blocks ff n g (by rw [ha]; exact hD1) _
            · show (abBlocks q.a ff n g _).steps ≤ N + 200
              rw [ha]; have := hsteps _ hM24; omega
        · have hD1a : 1 ≤ q.a.D := by rw [ha]; exact hD1
          refine ⟨3, he, s', abDown (abBlocks q.a ff n g m) (ff / 4 + m) ff n g j, -1, true, ?_, fun W pq cq hW hb hFo => ?_, fun V' => ?_⟩
          · rw [ha]
            refine ⟨fun h => (by cases h), fun _ => hdw, hw.kept.mono (fun i hi => .inl hi), fun k hk => ?_⟩
            rcases hk with h1 | h1
            · rcases hw.foot k h1 with h2 | h2
              · exact .inl (.inl h2)
              · exact .inr h2
            · exact .inr (htv k h1)
          · rw [hdn, hl] at hW
            refine (rWrite_all y q.a q.V ff pq n cq g W hW (by rw [hh2]; exact hh) (by rw [ha]; exact hg) hb hFo (by have := p.good.steps; omega) (fun k hk => by have := p.good.brk k hk; omega)).mono ?_
            intro e2 w2 hr
            rcases hr with ⟨h1, hno2, _⟩ | ⟨h1, m2, j2, hm2, hno2, hj2, V', h3⟩
            · have h4 := hno2 m hm
              rw [ha, hj] at h4; cases h4
            · have hmm : m2 = m := by
                rcases Nat.lt_trichotomy m2 m with h4 | h4 | h4
                · have h5 := hno m2 h4
                  rw [ha, h5] at hj2; cases hj2
                · exact h4
                · have h5 := hno2 m h4
                  rw [ha, hj] at h5; cases h5
              subst hmm
              have hjj : j2 = j := by
                rw [ha, hj] at hj2; injection hj2 with h4; exact h4.symm
              subst hjj
              exact ⟨h1, V', h3⟩
          · have hdp := down_props (abBlocks q.a ff n g m) (ff / 4 + m) ff n g j
            refine ⟨fun h => (by cases h), fun _ => ⟨rfl, hdp.1⟩, fun b hb => ?_, (p.good.fit.blocks ff n g hD1a m).down _ ff n g (by rw [(blocks_inv q.a ff n g m).1.D]; exact hD1a) j, ?_⟩
            · replace hb : (abDown (abBlocks q.a ff n g m) (ff / 4 + m) ff n g j).brk = some b := hb
              rw [hdp.1] at hb; cases hb
            · show (abDown (abBlocks q.a ff n g m) (ff / 4 + m) ff n g j).steps ≤ N + 200
              rw [hdp.2, ha]
              have h4 := hsteps m (by omega)
              have h5 := hit_lt hj
              have h6 := blockN_le (abBlocks q.s.toAb ff n g m) (ff / 4 + m) ff n g
              have h7 := (blocks_inv q.s.toAb ff n g m).1.P
              have h8 : q.s.toAb.P = q.s.P := rfl
              omega
      · refine (Write_lost x q.s ff pp n cap w hx hh hg).mono ?_
        rintro e w1 ⟨rfl, k1⟩
        refine ⟨5, rfl, WXPost.same p (by omega) k1 (fun W pq cq hW => ?_)⟩
        rw [hdn] at hW
        exact rWrite_lost y q.a q.V q.left ff pq n cq W hW (by rw [hh2]; exact hh) (by rw [ha]; exact hg)
  · have hx := p.xd hdn
    refine (Write_down x q.s f pp n cap w hx.toHoardIn hx.down).mono ?_
    rintro e w1 ⟨rfl, k1⟩
    refine ⟨3, rfl, WXPost.same p (by omega) k1 (fun W pq cq hW => ?_)⟩
    rw [hdn] at hW
    exact rWrite_down y q.a q.V q.left f pq n cq W hW
end Go.Proofs.YtfpoiikhhjdpdaaGreat

/- A pair's answers to questions: Steps, Drive, Cell, Log. -/
namespace Go.Proofs.YtfpoiikhhjdpdaaGreat
open Go.RowKit
set_option linter.unusedVariables false
/-- A call that gives v and changes nothing. -/
def Says (F : Nat) (args : Array Value) (v : Value) (W : World) : Prop := Calls Tryz.prog F args W fun e w' => e = .returned v ∧ Below W.heap.size W w'
theorem Says.of_eq {F : Nat} {args : Array Value} {v : Value} {W : World} (h : Calls Tryz.prog F args W fun e w' => e = .returned v ∧ w' = W) : Says F args v W := h.mono (fun e w' hh => ⟨hh.1, by rw [hh.2]; exact Below.refl _ _⟩)
theorem pair_steps (w : World) (x y : Nat) (q : PSt) (N : Nat) (p : PairAt w x y q N) : ∃ k z : Int, ∀ W, Below w.heap.size w W → Says 29 #[.pointer (some ⟨x, 0, none⟩)] (.tuple #[.int .i64 k, .int .i64 z]) W ∧ Says 30 #[.pointer (some ⟨y, 0, none⟩)] (.tuple #[.int .i64 k, .int .i64 z]) W := by
  cases hd : q.dn
  · obtain ⟨ha, hl⟩ := p.good.up hd
    refine ⟨q.s.steps, 0, fun W hW => ⟨.of_eq (Steps_any x q.s W ((p.below hW).xu hd)), .of_eq ?_⟩⟩
    have h := rTold_any y q.a q.V q.left q.dn W (p.below hW).ya
    rw [hd, ha] at h
    exact h
  · refine ⟨0, 3, fun W hW => ⟨Steps_down x q.s W ((p.below hW).xd hd).toHoardIn ((p.below hW).xd hd).down, .of_eq ?_⟩⟩
    have h := rTold_any y q.a q.V q.left q.dn W (p.below hW).ya
    rw [hd] at h
    exact h
theorem pair_drive (w : World) (x y : Nat) (q : PSt) (N : Nat) (d : Int) (p : PairAt w x y q N) : ∃ (l : Bool) (u r z : Int), ∀ W, Below w.heap.size w W → Says 31 #[.pointer (some ⟨x, 0, none⟩), .int .i64 d] (.tuple #[.agg #[.bool l, .int .i64 u, .int .i64 r], .int .i64 z]) W ∧ Says 32 #[.pointer (some ⟨y, 0, none⟩), .int .i64 d] (.tuple #[.agg #[.bool l, .int .i64 u, .int .i64 r], .int .i64 z]) W := by
  cases hd : q.dn
  · obtain ⟨ha, hl⟩ := p.good.up hd
    have hsD : q.a.D = q.s.D := by rw [ha]
    have hsP : q.a.P = q.s.P := by rw [ha]
    have hsl : q.a.lost = q.s.lost := by rw [ha]
    cases hdr : isDriveB q.s.toAb d
    · refine ⟨false, 0, 0, 6, fun W hW => ⟨Drive_no x q.s d W ((p.below hW).xu hd) hdr, ?_⟩⟩
      have ht : rThere (q.a.D + q.a.P) q.dn d 0 = 6 := by rw [hd]; exact there_no (by simp only [isDriveB, decide_eq_false_iff_not] at hdr; rw [hsD, hsP]; omega)
      have h2 := rDrive_no y q.a q.V q.left q.dn d W (p.below hW).ya (by rw [ht]; decide)
      rw [ht] at h2; exact h2
    · have hpr : (0 : Int) ≤ d ∧ d < (q.s.D : Int) + (q.s.P : Int) := by simpa [isDriveB] using hdr
      obtain ⟨dd, rfl⟩ : ∃ dd : Nat, d = (dd : Int) := ⟨d.toNat, by omega⟩
      have hdd : dd < q.a.D + q.a.P := by rw [hsD, hsP]; omega
      refine ⟨_, _, _, 0, fun W hW => ⟨Drive_ok x q.s dd W ((p.below hW).xu hd) (by omega), ?_⟩⟩
      have hy := (p.below hW).ya
      rw [hd] at hy
      have hR : q.s.R ≤ 6 := ((p.below hW).xu hd).toHoardIn.ok.R6
      cases hlo : q.a.lost dd
      · have h2 := rDrive_live y q.a q.V q.left dd W hy hdd hlo
        have hc : ubCount q.a dd 6 = ubCount q.a dd q.a.R := by
          have := p.good.fit.count dd (6 - q.a.R)
          rw [show q.a.R + (6 - q.a.R) = 6 by rw [show q.a.R = q.s.R by rw [ha]]; omega] at this
          exact this
        rw [← hc, ha] at h2
        rw [hsl] at hlo
        rw [hlo]
        exact h2
      · have h2 := rDrive_lost y q.a q.V q.left dd W hy hdd hlo
        have hc := p.good.fit.countL dd 6 hlo
        have hr := p.good.fit.recs dd hlo
        rw [ha] at hc hr
        rw [hsl] at hlo
        rw [hlo, hc, hr]
        exact h2
  · refine ⟨false, 0, 0, 3, fun W hW => ⟨Drive_down x q.s d W ((p.below hW).xd hd).toHoardIn ((p.below hW).xd hd).down, ?_⟩⟩
    have h2 := rDrive_no y q.a q.V q.left q.dn d W (p.below hW).ya (by rw [hd, there_down]; decide)
    rw [hd, there_down] at h2; exact h2
theorem pair_cell (w : World) (x y : Nat) (q : PSt) (N : Nat) (d r : Int) (p : PairAt w x y q N) : ∃ (c : C4) (z : Int), ∀ W, Below w.heap.size w W → Says 33 #[.pointer (some ⟨x, 0, none⟩), .int .i64 d, .int .i64 r] (.tuple #[c.val, .int .i64 z]) W ∧ Says 34 #[.pointer (some ⟨y, 0, none⟩), .int .i64 d, .int .i64 r] (.tuple #[c.val, .int .i64 z]) W := by
  cases hd : q.dn
  · obtain ⟨ha, hl⟩ := p.good.up hd
    have hsD : q.a.D = q.s.D := by rw [ha]
    have hsP : q.a.P = q.s.P := by rw [ha]
    have hsR : q.a.R = q.s.R := by rw [ha]
    cases hdr : isDriveB q.s.toAb d
    · refine ⟨C4.zero, 6, fun W hW => ⟨Cell_no x q.s d r W ((p.below hW).xu hd) hdr, ?_⟩⟩
      have ht : rThere (q.a.D + q.a.P) q.dn d 0 = 6 := by rw [hd]; exact there_no (by simp only [isDriveB, decide_eq_false_iff_not] at hdr; rw [hsD, hsP]; omega)
      have h2 := rCell_no y q.a q.V q.left q.dn d r W (p.below hW).ya (by rw [ht]; decide)
      rw [ht] at h2; exact h2
    · have hpr : (0 : Int) ≤ d ∧ d < (q.s.D : Int) + (q.s.P : Int) := by simpa [isDriveB] using hdr
      obtain ⟨dd, rfl⟩ : ∃ dd : Nat, d = (dd : Int) := ⟨d.toNat, by omega⟩
      have hdd : dd < q.a.D + q.a.P := by rw [hsD, hsP]; omega
      cases hrr : isRowB q.s.toAb r
      · refine ⟨C4.zero, 1, fun W hW => ⟨Cell_arg x q.s dd r W ((p.below hW).xu hd) (by omega) hrr, ?_⟩⟩
        have hy := (p.below hW).ya
        rw [hd] at hy
        exact rCell_arg y q.a q.V q.left dd r W hy hdd (by simp only [isRowB, decide_eq_false_iff_not] at hrr; rw [hsR]; omega)
      · have hrr2 : (0 : Int) ≤ r ∧ r < (q.s.R : Int) := by simpa [isRowB] using hrr
        obtain ⟨rr, rfl⟩ : ∃ rr : Nat, r = (rr : Int) := ⟨r.toNat, by omega⟩
        have hY : ∀ W, Below w.heap.size w W → Calls Tryz.prog 34 #[.pointer (some ⟨y, 0, none⟩), .int .i64 (dd : Int), .int .i64 (rr : Int)] W fun e w' => e = .returned (if avB q.a dd rr then .tuple #[(q.a.cell dd rr).val, .int .i64 0] else .tuple #[C4.zero.val, .int .i64 7]) ∧ Below W.heap.size W w' := fun W hW => by
          have hy := (p.below hW).ya
          rw [hd] at hy
          exact rCell_at y q.a q.V q.left dd rr W hy hdd (by omega)
        rw [ha] at hY
        cases hav : avB q.s.toAb dd rr
        · refine ⟨C4.zero, 7, fun W hW => ⟨Cell_state x q.s dd rr W ((p.below hW).xu hd) (by omega) (by omega) hav, ?_⟩⟩
          have h2 := hY W hW
          rw [hav] at h2
          exact h2
        · refine ⟨q.s.cell dd rr, 0, fun W hW => ⟨Cell_ok x q.s dd rr W ((p.below hW).xu hd) (by omega) (by omega) hav, ?_⟩⟩
          have h2 := hY W hW
          rw [hav] at h2
          exact h2
  · refine ⟨C4.zero, 3, fun W hW => ⟨Cell_down x q.s d r W ((p.below hW).xd hd).toHoardIn ((p.below hW).xd hd).down, ?_⟩⟩
    have h2 := rCell_no y q.a q.V q.left q.dn d r W (p.below hW).ya (by rw [hd, there_down]; decide)
    rw [hd, there_down] at h2; exact h2
end Go.Proofs.YtfpoiikhhjdpdaaGreat

/- hoardlaw.moved: Merge, Write. -/
namespace Go.Proofs.YtfpoiikhhjdpdaaGreat
open Go.RowKit
set_option linter.unusedVariables false
attribute [local go_sem ↓] Go.wp_at_zero Go.wp_at_succ
theorem XPost.cell {G : Nat} {args : Array Value} {w : World} {x y : Nat} {q : PSt} {N : Nat} {v : Value} {w1 : World} (h : XPost G args w x y q N v w1) {b o : Nat} {u : Value} (hc : w.cell? ⟨b, o, none⟩ = some u) (hb : ¬ PFoot x y q b) : w1.cell? ⟨b, o, none⟩ = some u := by
  obtain ⟨s', a', left', dn', hm, _, _⟩ := h
  exact hm.kept.cell (p := ⟨b, o, none⟩) (fun hf => hb (.inl hf)) hc
theorem XPost.size {G : Nat} {args : Array Value} {w : World} {x y : Nat} {q : PSt} {N : Nat} {v : Value} {w1 : World} (h : XPost G args w x y q N v w1) : w.heap.size ≤ w1.heap.size := by
  obtain ⟨s', a', left', dn', hm, _, _⟩ := h
  exact hm.kept.size
theorem XPost.pre {G : Nat} {args : Array Value} {w W : World} {x y : Nat} {q : PSt} {N : Nat} {v : Value} {w1 : World} (k : Below w.heap.size w W) (h : XPost G args W x y q N v w1) : XPost G args w x y q N v w1 ∧ Kept (FootD x q.s) W w1 := by
  obtain ⟨s', a', left', dn', hm, hc, hg⟩ := h
  exact ⟨⟨s', a', left', dn', ⟨hm.xu, hm.xd, (Kept.of_below k).trans' hm.kept (fun i hi => .inl hi), fun b hb => by
    rcases hm.foot b hb with h1 | h1
    · exact .inl h1
    · exact .inr (Nat.le_trans (Kept.of_below (S := fun _ => False) k).size h1)⟩, hc, hg⟩, hm.kept⟩
theorem cell_of_heap {w W : World} (h : W.heap = w.heap) {b o : Nat} : W.cell? ⟨b, o, none⟩ = w.cell? ⟨b, o, none⟩ := by
  unfold World.cell?
  rw [h]
theorem XPost.goK {G : Nat} {args : Array Value} {w : World} {x y : Nat} {q : PSt} {N M : Nat} {v : Value} {w1 W : World} (p : PairAt w x y q M) (h : XPost G args w x y q N v w1) (hh : W.heap = w1.heap) (ho : W.os = w1.os) (ht : W.tape = w1.tape) (hp : W.output = w1.output) :
    Calls Tryz.prog G args W (fun e w2 => e = .returned v ∧ (∃ q', PTurn w w2 x y q q' N) ∧ Kept (RFoot y q.a q.V) W w2) := by
  obtain ⟨s', a', left', dn', hm, hc, hg⟩ := h
  have hk : Kept (fun _ => False) w1 W := ⟨ho, ht, hp, by rw [hh]; exact Nat.le_refl _, fun i _ _ => by rw [hh]⟩
  refine (hc W (hm.ref p hk (fun _ h => h.elim))).mono ?_
  rintro e w2 ⟨rfl, V', hr⟩
  exact ⟨rfl, ⟨_, hm.join p hk (fun _ h => h.elim) hr (hg V')⟩, hr.kept⟩
set_option maxRecDepth 100000 in
set_option maxHeartbeats 1000000 in
theorem moved_merge (pb x y : Nat) (q : PSt) (M N : Nat) (o : OpV) (w : World) (hk : o.k = 10) (hb0 : w.cell? ⟨pb, 0, none⟩ = some (.pointer (some ⟨x, 0, none⟩))) (hb1 : w.cell? ⟨pb, 1, none⟩ = some (.pointer (some ⟨y, 0, none⟩))) (hnp : ¬ PFoot x y q pb) (p : PairAt w x y q M)
    (hX : ∀ W, Below w.heap.size w W → Calls Tryz.prog 44 #[.pointer (some ⟨x, 0, none⟩), .int .i64 o.b, .int .i64 o.c] W fun e w1 => ∃ k z : Int, e = .returned (.tuple #[.int .i64 k, .int .i64 z]) ∧ XPost 45 #[.pointer (some ⟨y, 0, none⟩), .int .i64 o.b, .int .i64 o.c] W x y q N (.tuple #[.int .i64 k, .int .i64 z]) w1) :
    Calls Tryz.prog 16 #[o.val, .pointer (some ⟨pb, 0, none⟩)] w fun e w' => e = .returned (.bool true) ∧ ∃ q', PTurn w w' x y q q' N := by
  obtain ⟨k, a0, b0, c0, d0, e0, s0⟩ := o
  simp only at hk hX
  subst hk
  have HX : Hid (∀ W, Below w.heap.size w W → W.cell? ⟨pb, 1, none⟩ = some (.pointer (some ⟨y, 0, none⟩)) → W.cell? ⟨w.heap.size, 2, none⟩ = some (.int .i64 b0) → W.cell? ⟨w.heap.size, 3, none⟩ = some (.int .i64 c0) → Calls Tryz.prog 44 #[.pointer (some ⟨x, 0, none⟩), .int .i64 b0, .int .i64 c0] W fun e w1 => ∃ k z : Int, e = .returned (.tuple #[.int .i64 k, .int .i64 z]) ∧ Hid (XPost 45 #[.pointer (some ⟨y, 0, none⟩), .int .i64 b0, .int .i64 c0] w x y q N (.tuple #[.int .i64 k, .int .i64 z]) w1) ∧ w1.cell? ⟨pb, 0, none⟩ = some (.pointer (some ⟨x, 0, none⟩)) ∧ w1.cell? ⟨pb, 1, none⟩ = some (.pointer (some ⟨y, 0, none⟩)) ∧ w1.cell? ⟨w.heap.size, 2, none⟩ = some (.int .i64 b0) ∧ w1.cell? ⟨w.heap.size, 3, none⟩ = some (.int .i64 c0)) := fun W hW h1 h2 h3 => by
    refine (hX W hW).mono ?_
    rintro e w1 ⟨k, z, he, hx⟩
    obtain ⟨hx1, hx2⟩ := hx.pre hW
    have hnb : ¬ FootD x q.s pb := fun hf => hnp (.inl hf)
    have hnw : ¬ FootD x q.s w.heap.size := fun hf => by have := p.lt (.inl hf); omega
    exact ⟨k, z, he, hx1, hx2.cell (p := ⟨pb, 0, none⟩) hnb (below_cell' hW hb0), hx2.cell (p := ⟨pb, 1, none⟩) hnb h1, hx2.cell (p := ⟨w.heap.size, 2, none⟩) hnw h2, hx2.cell (p := ⟨w.heap.size, 3, none⟩) hnw h3⟩
  have HY : Hid (∀ v w2, Hid (XPost 45 #[.pointer (some ⟨y, 0, none⟩), .int .i64 b0, .int .i64 c0] w x y q N v w2) → w2.cell? ⟨pb, 1, none⟩ = some (.pointer (some ⟨y, 0, none⟩)) → w2.cell? ⟨w.heap.size, 2, none⟩ = some (.int .i64 b0) → w2.cell? ⟨w.heap.size, 3, none⟩ = some (.int .i64 c0) → ∀ W, W.heap = w2.heap → W.os = w2.os → W.tape = w2.tape → W.output = w2.output → Calls Tryz.prog 45 #[.pointer (some ⟨y, 0, none⟩), .int .i64 b0, .int .i64 c0] W fun e w3 => e = .returned v ∧ Hid (∃ q', PTurn w w3 x y q q' N) ∧ w3.cell? ⟨pb, 1, none⟩ = some (.pointer (some ⟨y, 0, none⟩)) ∧ w3.cell? ⟨w.heap.size, 2, none⟩ = some (.int .i64 b0) ∧ w3.cell? ⟨w.heap.size, 3, none⟩ = some (.int .i64 c0)) := fun v w2 hx c1 c2 c3 W hh ho ht hp => by
    refine (hx.out.goK p hh ho ht hp).mono ?_
    rintro e w3 ⟨rfl, hq, hk⟩
    have hnb : ¬ RFoot y q.a q.V pb := fun hf => hnp (.inr hf)
    have hnw : ¬ RFoot y q.a q.V w.heap.size := fun hf => by have := p.lt (.inr hf); omega
    exact ⟨rfl, hq, hk.cell (p := ⟨pb, 1, none⟩) hnb (by rw [cell_of_heap hh]; exact c1), hk.cell (p := ⟨w.heap.size, 2, none⟩) hnw (by rw [cell_of_heap hh]; exact c2), hk.cell (p := ⟨w.heap.size, 3, none⟩) hnw (by rw [cell_of_heap hh]; exact c3)⟩
  have HP : Hid (PairAt w x y q M) := p
  have hpl := block_lt_of_cell hb0
  simp only at hpl
  clear hX p hnp
  unfold OpV.val
  go_enter Tryz.func16, Tryz.ntmps16
  have HWA : Hid (Below w.heap.size w (w.alloc (Obj.cells #[.int .i64 10, .int .i64 a0, .int .i64 b0, .int .i64 c0, .int .i64 d0, .int .i64 e0, .string s0] 35)).drew) := (below_al _ _).drew
  have HWC : Hid ((w.alloc (Obj.cells #[.int .i64 10, .int .i64 a0, .int .i64 b0, .int .i64 c0, .int .i64 d0, .int .i64 e0, .string s0] 35)).drew.cell? ⟨pb, 1, none⟩ = some (.pointer (some ⟨y, 0, none⟩)) ∧ (w.alloc (Obj.cells #[.int .i64 10, .int .i64 a0, .int .i64 b0, .int .i64 c0, .int .i64 d0, .int .i64 e0, .string s0] 35)).drew.cell? ⟨w.heap.size, 2, none⟩ = some (.int .i64 b0) ∧ (w.alloc (Obj.cells #[.int .i64 10, .int .i64 a0, .int .i64 b0, .int .i64 c0, .int .i64 d0, .int .i64 e0, .string s0] 35)).drew.cell? ⟨w.heap.size, 3, none⟩ = some (.int .i64 c0)) := ⟨below_cell' HWA.out hb1, by simp [go_sem], by simp [go_sem]⟩
  go_wp2_with fail
  go_region_held3 (fun W => W.cell? ⟨pb, 0, none⟩ = some (.pointer (some ⟨x, 0, none⟩)) ∧ W.cell? ⟨pb, 1, none⟩ = some (.pointer (some ⟨y, 0, none⟩)) ∧ W.cell? ⟨w.heap.size, 2, none⟩ = some (.int .i64 b0) ∧ W.cell? ⟨w.heap.size, 3, none⟩ = some (.int .i64 c0)) (go_keep) (first | (go_at_call 44; refine (HX.out _ HWA.out HWC.out.1 HWC.out.2.1 HWC.out.2.2).mono ?_; rintro e w2 ⟨rk, rz, rfl, hxp, t0, t1, t2, t3⟩))
  all_goals
    clear HX
    go_wp2_with fail
    go_region_held3 (fun W => W.cell? ⟨pb, 1, none⟩ = some (.pointer (some ⟨y, 0, none⟩)) ∧ W.cell? ⟨w.heap.size, 2, none⟩ = some (.int .i64 b0) ∧ W.cell? ⟨w.heap.size, 3, none⟩ = some (.int .i64 c0)) (go_keep) (first | (go_at_call 45; refine (HY.out _ w2 hxp t1 t2 t3 _ (by rfl) (by rfl) (by rfl) (by rfl)).mono ?_; rintro e w3 ⟨rfl, hq, u1, u2, u3⟩))
    all_goals
      go_wp2_with fail
      go_ret
      exact ⟨by simp, hq.out⟩
end Go.Proofs.YtfpoiikhhjdpdaaGreat
