import Derived.Test.YtfpoiikhhjdpdaaGreatJ32
import Derived.Test.YtfpoiikhhjdpdaaGreatJ18
import Derived.Test.YtfpoiikhhjdpdaaGreatJ29
/- hoardlaw: a list becomes the world's own. -/
namespace Go.Proofs.YtfpoiikhhjdpdaaGreat
open Go.RowKit
set_option linter.unusedVariables false
theorem Like.below {a b : World} (h : Like a b) : Below a.heap.size a b := ⟨h.os, h.tape, h.output, by rw [h.heap]; exact Nat.le_refl _, fun i _ => by rw [h.heap]⟩
theorem tag6_own {tag : Nat → Nat} {B b : Nat} (h : b < B → tag b = 6) : own6 (tagN tag B 6) b = 4 := by
  unfold own6 tagN
  by_cases e : b < B
  · rw [if_pos e, if_pos (h e)]
  · rw [if_neg e, if_pos rfl]
theorem own_great {W w : World} {tag : Nat → Nat} {G : GSt} {N : Nat} (h : Great W w tag G N) (hN : N ≤ 220000000) (p : Option Addr) (n cap : Nat) (xs : List Value) (hl : w.ownsRow 0 5 1 (.slice p n cap) n xs) (hn : n ≤ 100) (h6 : ∀ g, (Value.slice p n cap).ownBlock = some g → W.heap.size ≤ g ∧ tag g = 6) :
    Calls Tryz.prog 28 #[.pointer (some ⟨W.heap.size, 1, none⟩), .slice p n cap] w fun e w' => e = .returned (.tuple #[]) ∧ ∃ tag' G', Great W w' tag' G' (N + 200) := by
  have hc := h.cnt.2.1
  refine (own_raw W.heap.size G.bv G.nb (bsF G) p n cap xs w (h.top.cell (i := 1) (by omega)) (h.top.frozen 1) h.bs (by omega) hl hn (fun e => ?_) (fun g e e2 => ?_) (fun e => ?_) (G.nb % 251) rfl).mono ?_
  · have := (h6 _ e).2; have := h.top_t; omega
  · have := (h6 _ e).2; have := (h.bs_t _ e2).2; omega
  · have := (h.bs_t _ e).2; have := h.top_t; omega
  · rintro e w' ⟨rfl, L, v', w1, w2, hM, hLi, hO, hK⟩
    refine ⟨rfl, ?_⟩
    have g1 : Great W w1 (tagN tag w.heap.size 6) G N := h.idle (hM.kept.mono (fun b hb => h6 b hb))
    have g2 : Great W w1 (own6 (tagN tag w.heap.size 6)) G (N + 200) := g1.own6.mono (by omega)
    have hE : ∀ j, j < (G.nb + 1) * 5 → addF (bsF G) G.nb (ownE (.int .u8 (G.nb % 251 : Nat)) L) j = bsF (G.addB v' L) j := fun j hj => by
      unfold addF bsF ownE GSt.addB
      by_cases e : j < G.nb * 5
      · rw [if_pos e]
        by_cases e4 : j % 5 = 4
        · rw [if_pos e4, if_pos e4]
        · rw [if_neg e4, if_neg e4]
          show _ = if j / 5 = G.nb then L (j % 5) else G.BL (j / 5) (j % 5)
          rw [if_neg (by omega)]
      · rw [if_neg e]
        by_cases e4 : j % 5 = 4
        · rw [if_pos (by omega), if_pos e4, show j / 5 = G.nb by omega]
        · rw [if_neg (by omega), if_neg e4]
          show _ = if j / 5 = G.nb then L (j % 5) else G.BL (j / 5) (j % 5)
          rw [if_pos (by omega), show j - G.nb * 5 = j % 5 by omega]
    have g3 := g2.addB v' L hLi (hO.congr hE) (by omega) (fun j hj => by
      obtain ⟨pp, cc, he, hg, hcell⟩ := hM.mark j hj
      refine ⟨pp, n + j, cc, he, by omega, fun g o sp e => ?_, fun i hi => ?_⟩
      · have ho : (L j).ownBlock = some g := by rw [he, e]; rfl
        have hlt := hg g o sp e
        rcases hM.own j g hj ho with h1 | h1
        · exact ⟨(h6 g h1).1, tag6_own (fun _ => (h6 g h1).2), hlt⟩
        · exact ⟨Nat.le_trans h.bel.size h1, tag6_own (fun hh => by omega), hlt⟩
      · exact hcell i (by omega))
    exact ⟨_, _, g3.below hK.below⟩
theorem ownLog_great {W w : World} {tag : Nat → Nat} {G : GSt} {N : Nat} (h : Great W w tag G N) (hN : N ≤ 220000000) (p : Option Addr) (n cap : Nat) (xs : List Value) (hl : w.ownsRow 0 92 5 (.slice p n cap) n xs) (hn : n ≤ 100) (h6 : ∀ g, (Value.slice p n cap).ownBlock = some g → W.heap.size ≤ g ∧ tag g = 6) :
    Calls Tryz.prog 39 #[.pointer (some ⟨W.heap.size, 1, none⟩), .slice p n cap] w fun e w' => e = .returned (.tuple #[]) ∧ ∃ tag' G', Great W w' tag' G' (N + 200) := by
  have hc := h.cnt.2.2
  refine (ownLog_raw W.heap.size G.lv G.nl (lsF G) p n cap xs w (h.top.cell (i := 2) (by omega)) (h.top.frozen 2) h.ls (by omega) hl hn (fun e => ?_) (fun g e e2 => ?_) (fun e => ?_) (-1000 - (G.nl : Int)) rfl).mono ?_
  · have := (h6 _ e).2; have := h.top_t; omega
  · have := (h6 _ e).2; have := (h.ls_t _ e2).2; omega
  · have := (h.ls_t _ e).2; have := h.top_t; omega
  · rintro e w' ⟨rfl, L, v', w1, w2, hM, hLi, hO, hK⟩
    refine ⟨rfl, ?_⟩
    have g1 : Great W w1 (tagN tag w.heap.size 6) G N := h.idle (hM.kept.mono (fun b hb => h6 b hb))
    have g2 : Great W w1 (own6 (tagN tag w.heap.size 6)) G (N + 200) := g1.own6.mono (by omega)
    have hE : ∀ j, j < (G.nl + 1) * 5 → addF (lsF G) G.nl (ownE (.int .i64 (-1000 - (G.nl : Int))) L) j = lsF (G.addL v' L) j := fun j hj => by
      unfold addF lsF ownE GSt.addL
      by_cases e : j < G.nl * 5
      · rw [if_pos e]
        by_cases e4 : j % 5 = 4
        · rw [if_pos e4, if_pos e4]
        · rw [if_neg e4, if_neg e4]
          show _ = if j / 5 = G.nl then L (j % 5) else G.LL (j / 5) (j % 5)
          rw [if_neg (by omega)]
      · rw [if_neg e]
        by_cases e4 : j % 5 = 4
        · rw [if_pos (by omega), if_pos e4, show j / 5 = G.nl by omega]
        · rw [if_neg (by omega), if_neg e4]
          show _ = if j / 5 = G.nl then L (j % 5) else G.LL (j / 5) (j % 5)
          rw [if_pos (by omega), show j - G.nl * 5 = j % 5 by omega]
    have g3 := g2.addL v' L hLi (hO.congr hE) (by omega) (fun j hj => by
      obtain ⟨pp, cc, he, hg, hcell⟩ := hM.mark j hj
      refine ⟨pp, n + j, cc, he, by omega, fun g o sp e => ?_, fun i hi => ?_⟩
      · have ho : (L j).ownBlock = some g := by rw [he, e]; rfl
        have hlt := hg g o sp e
        rcases hM.own j g hj ho with h1 | h1
        · exact ⟨(h6 g h1).1, tag6_own (fun _ => (h6 g h1).2), hlt⟩
        · exact ⟨Nat.le_trans h.bel.size h1, tag6_own (fun hh => by omega), hlt⟩
      · obtain ⟨g, he1, hc0⟩ := hcell (i * 5) (by omega)
        refine ⟨g, he1, ?_, fun k hk => ?_⟩
        · rw [hc0]; unfold markL; rw [if_pos (by omega)]
        · obtain ⟨g', he2, hc1⟩ := hcell (i * 5 + 1 + k) (by omega)
          rw [he1] at he2
          injection he2 with he2
          injection he2 with he2
          subst he2
          rw [hc1]; unfold markL; rw [if_neg (by omega)])
    exact ⟨_, _, g3.below hK.below⟩
end Go.Proofs.YtfpoiikhhjdpdaaGreat

/- A nil slice is nil. -/
namespace Go.Proofs.YtfpoiikhhjdpdaaGreat
open Go.RowKit
theorem nil_bytes (k ca : Nat) (w : World) : Sem.run Tryz.prog (binOp BinOp.eql 42 (.slice none k ca) (.slice none 0 0)) w = .ok (.bool true) w := by
  have h : Sem.run Tryz.prog (Op.equal 42 (.slice none k ca) (.slice none 0 0)) w = .ok true w := by
    unfold Op.equal
    rw [show Op.maxDepth = (Op.maxDepth - 1) + 1 from rfl]
    unfold Op.equalIn
    simp [go_sem]
  simp [go_sem, binOp, h]
theorem nil_recs (k ca : Nat) (w : World) : Sem.run Tryz.prog (binOp BinOp.eql 46 (.slice none k ca) (.slice none 0 0)) w = .ok (.bool true) w := by
  have h : Sem.run Tryz.prog (Op.equal 46 (.slice none k ca) (.slice none 0 0)) w = .ok true w := by
    unfold Op.equal
    rw [show Op.maxDepth = (Op.maxDepth - 1) + 1 from rfl]
    unfold Op.equalIn
    simp [go_sem]
  simp [go_sem, binOp, h]
end Go.Proofs.YtfpoiikhhjdpdaaGreat
