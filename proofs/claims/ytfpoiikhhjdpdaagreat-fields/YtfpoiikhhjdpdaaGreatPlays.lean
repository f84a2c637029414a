/- hoardlaw.plays: whatever the kinds: a script is played to its end where each step and each look keep an invariant. -/
import Derived.Test.YtfpoiikhhjdpdaaGreatProg
import Derived.WalkKit
import Derived.WalkSpells
import Derived.Deep.QuietTactic
import Derived.BigQuiet
namespace Go.Proofs.YtfpoiikhhjdpdaaGreat
open Go.RowKit
structure OpV where
  k : Int
  a : Int
  b : Int
  c : Int
  d : Int
  e : Int
  s : ByteArray
def OpV.val (o : OpV) : Value := .agg #[.int .i64 o.k, .int .i64 o.a, .int .i64 o.b, .int .i64 o.c, .int .i64 o.d, .int .i64 o.e, .string o.s]
def OpAt (w : World) (b o : Nat) (x : OpV) : Prop :=
  w.cell? ⟨b, o, none⟩ = some (.int .i64 x.k) ∧ w.cell? ⟨b, o + 1, none⟩ = some (.int .i64 x.a) ∧ w.cell? ⟨b, o + 2, none⟩ = some (.int .i64 x.b) ∧ w.cell? ⟨b, o + 3, none⟩ = some (.int .i64 x.c) ∧ w.cell? ⟨b, o + 4, none⟩ = some (.int .i64 x.d) ∧ w.cell? ⟨b, o + 5, none⟩ = some (.int .i64 x.e) ∧ w.cell? ⟨b, o + 6, none⟩ = some (.string x.s)
def ScriptAt (w : World) (a0 : Option Addr) (n : Nat) (ops : Nat → OpV) : Prop := ∀ i, i < n → ∃ b o, a0 = some ⟨b, o, none⟩ ∧ OpAt w b (o + i * 7) (ops i)
def KindsAt (w : World) (b m : Nat) (L : Nat → Int) : Prop := ∀ i, i < m → w.cell? ⟨b, i, none⟩ = some (.int .i64 (L i))
def anyTo (k : Int) (L : Nat → Int) : Nat → Bool
  | 0 => false
  | j + 1 => anyTo k L j || (k == L j)
theorem anyTo_mem (k : Int) (L : Nat → Int) (m : Nat) (h : anyTo k L m = true) : ∃ j, j < m ∧ k = L j := by
  induction m with
  | zero => simp [anyTo] at h
  | succ m ih =>
    simp only [anyTo, Bool.or_eq_true, beq_iff_eq] at h
    rcases h with h | h
    · obtain ⟨j, hj, e⟩ := ih h; exact ⟨j, by omega, e⟩
    · exact ⟨m, by omega, h⟩
set_option maxRecDepth 100000 in
set_option maxHeartbeats 1000000 in
theorem plays_of (a0 : Option Addr) (n cap kb m kcap : Nat) (ops : Nat → OpV) (L : Nat → Int) (w : World) (hn : n ≤ maxLen) (hm : m ≤ 20)
    (Inv : World → Prop) (h0 : Inv (w.alloc (.cells #[.slice none 0 0, .slice none 0 0, .slice none 0 0] 33)))
    (hdr : ∀ w' q, Inv w' → Inv (w'.drewN q)) (hsc : ∀ w', Inv w' → ScriptAt w' a0 n ops) (hki : ∀ w', Inv w' → KindsAt w' kb m L)
    (hstep : ∀ i, i < n → (∃ j, j < m ∧ (ops i).k = L j) → ∀ w', Inv w' → Calls Tryz.prog 10 #[.pointer (some ⟨w.heap.size, 0, none⟩), (ops i).val] w' fun e w'' => e = .returned (.bool true) ∧ Inv w'')
    (hlooks : ∀ w', Inv w' → Calls Tryz.prog 11 #[.pointer (some ⟨w.heap.size, 1, none⟩)] w' fun e w'' => e = .returned (.bool true) ∧ Inv w'') :
    Calls Tryz.prog 9 #[.slice a0 n cap, .slice (some ⟨kb, 0, none⟩) m kcap] w fun e w' => e = .returned (.bool true) ∧ Inv w' := by
  unfold maxLen at hn
  have HI := h0
  have HDR : Hid _ := hdr
  have HSC : Hid _ := hsc
  have HKI : Hid _ := hki
  have HST : Hid _ := hstep
  have HLK : Hid _ := hlooks
  clear h0 hdr hsc hki hstep hlooks
  go_enter Tryz.func9, Tryz.ntmps9
  go_wp2
  go_loopw [6, 7, 8, 9] (fun i _ _ _ wr => ∃ k : Nat, k ≤ n ∧ i = .int .i64 k ∧ Inv wr) (fun i _ _ _ _ => n - (intOf i).toNat)
  case atStart => exact ⟨0, by omega, rfl, HI⟩
  case round =>
    obtain ⟨k, hk, rfl, hb⟩ := hrel
    clear HI
    by_cases hlt : k < n
    · obtain ⟨sb, so, rfl, x0, x1, x2, x3, x4, x5, x6⟩ := HSC.out _ hb k hlt
      have hL := HKI.out _ hb
      go_wp2
      go_loopw [7, 8] (fun b j wi => ∃ q : Nat, q ≤ m ∧ j = .int .i64 q ∧ b = .bool (anyTo (ops k).k L q) ∧ ∃ nq, wi = wr.drewN nq) (fun _ j _ => m - (intOf j).toNat)
      case atStart => exact ⟨0, by omega, rfl, rfl, 0, rfl⟩
      case round =>
        obtain ⟨q, hq, rfl, rfl, nq, rfl⟩ := hrel
        by_cases hqm : q < m
        · have hLq := hL q hqm
          have hkk : (k : Int) < (n : Int) := by omega
          have hqq : (q : Int) < (m : Int) := by omega
          cases han : anyTo (ops k).k L q
          · go_wp2
            go_quiet (fail)
            go_wp2
            exact ⟨⟨q + 1, by omega, by go_num, by simp [anyTo, han], _, rfl⟩, by simp [intOf]; omega⟩
          · go_wp2
            go_quiet (fail)
            go_wp2
            exact ⟨⟨q + 1, by omega, by go_num, by simp [anyTo, han], _, rfl⟩, by simp [intOf]; omega⟩
        · have hqe : q = m := by omega
          subst hqe
          cases han : anyTo (ops k).k L q
          · go_wp2
            exact ⟨⟨k + 1, by omega, by go_num, HDR.out _ _ hb⟩, by simp [intOf]; omega⟩
          · have HM : Hid _ := anyTo_mem _ _ _ han
            go_wp2_with fail
            refine (HST.out k hlt HM.out _ (HDR.out _ _ hb)).mono ?_
            rintro e w1 ⟨rfl, hb1⟩
            clear x0 x1 x2 x3 x4 x5 x6 hL HM
            go_wp2_with fail
            refine (HLK.out _ hb1).mono ?_
            rintro e w2 ⟨rfl, hb2⟩
            go_wp2_with fail
            exact ⟨⟨k + 1, by omega, by go_num, hb2⟩, by simp [intOf]; omega⟩
    · go_wp2
      go_ret
      exact ⟨rfl, hb⟩
end Go.Proofs.YtfpoiikhhjdpdaaGreat
