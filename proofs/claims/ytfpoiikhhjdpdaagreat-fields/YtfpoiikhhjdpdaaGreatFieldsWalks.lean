/- hoardlaw.field, and a step of kind Mul or Div; a look where no list came out. -/
import Derived.Test.YtfpoiikhhjdpdaaGreatRefField
import Derived.Test.YtfpoiikhhjdpdaaGreatPlays
import Derived.WalkSmall
namespace Go.Proofs.YtfpoiikhhjdpdaaGreat
open Go.RowKit
theorem byteOf (x : Int) : ∃ n : Nat, x % 256 = (n : Int) ∧ n < 256 := ⟨(x % 256).toNat, by omega, by omega⟩
set_option maxRecDepth 100000 in
set_option maxHeartbeats 1000000 in
theorem lfield_mul (o : OpV) (w : World) (hk : o.k = 1) :
    Calls Tryz.prog 12 #[o.val] w fun e w' => e = .returned (.bool true) ∧ Below w.heap.size w w' := by
  obtain ⟨k, a0, b0, c, d, e, s⟩ := o
  simp only at hk
  subst hk
  obtain ⟨a, ea, ha⟩ := byteOf a0
  obtain ⟨b, eb, hb⟩ := byteOf b0
  unfold OpV.val
  go_enter Tryz.func12, Tryz.ntmps12
  go_wp2_with fail
  refine (Mul_any a b _ ha hb).mono ?_
  rintro e w' ⟨rfl, rfl⟩
  go_wp2_with fail
  refine (rmul_any a b _ ha hb).mono ?_
  rintro e w' ⟨rfl, rfl⟩
  go_wp2_with fail
  go_ret
  exact ⟨by simp, (Below.refl _ _).alloc (Nat.le_refl _) _⟩
set_option maxRecDepth 100000 in
set_option maxHeartbeats 1000000 in
theorem lfield_div (o : OpV) (w : World) (hk : o.k = 2) :
    Calls Tryz.prog 12 #[o.val] w fun e w' => e = .returned (.bool true) ∧ Below w.heap.size w w' := by
  obtain ⟨k, a0, b0, c, d, e, s⟩ := o
  simp only at hk
  subst hk
  obtain ⟨a, ea, ha⟩ := byteOf a0
  obtain ⟨b, eb, hb⟩ := byteOf b0
  unfold OpV.val
  go_enter Tryz.func12, Tryz.ntmps12
  by_cases hz : b = 0
  · subst hz
    go_wp2_with fail
    refine (Div_zero a _).mono ?_
    rintro e w' ⟨rfl, rfl⟩
    go_wp2_with fail
    go_ret
    exact ⟨rfl, (Below.refl _ _).alloc (Nat.le_refl _) _⟩
  · have hpos : 0 < b := by omega
    clear hz
    go_wp2_with fail
    refine (Div_any a b _ ha hb hpos).mono ?_
    rintro e w' ⟨rfl, rfl⟩
    go_wp2_with fail
    refine (rdiv_any a b _ ha hb hpos).mono ?_
    rintro e w' ⟨rfl, rfl⟩
    go_wp2_with fail
    go_ret
    exact ⟨by simp, (Below.refl _ _).alloc (Nat.le_refl _) _⟩
set_option maxRecDepth 100000 in
set_option maxHeartbeats 1000000 in
theorem step_field (o : OpV) (p : Value) (w : World) (hk : o.k = 1 ∨ o.k = 2) :
    Calls Tryz.prog 10 #[p, o.val] w fun e w' => e = .returned (.bool true) ∧ Below w.heap.size w w' := by
  have H : Hid (∀ w, Calls Tryz.prog 12 #[o.val] w fun e w' => e = .returned (.bool true) ∧ Below w.heap.size w w') := by
    intro w
    rcases hk with h | h
    · exact lfield_mul o w h
    · exact lfield_div o w h
  obtain ⟨k, a0, b0, c, d, e, s⟩ := o
  simp only at hk
  rcases hk with h | h
  all_goals
    subst h
    unfold OpV.val at *
    go_enter Tryz.func10, Tryz.ntmps10
    go_wp2_with fail
    refine (H.out _).mono ?_
    rintro e w' ⟨rfl, hb⟩
    go_wp2_with fail
    go_ret
    exact ⟨rfl, ((Below.refl _ _).alloc (Nat.le_refl _) _).trans (hb.mono (by simp))⟩
set_option maxHeartbeats 1000000 in
theorem looks_nil (b : Nat) (w : World) (h1 : w.cell? ⟨b, 1, none⟩ = some (.slice none 0 0)) (h2 : w.cell? ⟨b, 2, none⟩ = some (.slice none 0 0)) :
    Calls Tryz.prog 11 #[.pointer (some ⟨b, 1, none⟩)] w fun e w' => e = .returned (.bool true) ∧ w' = w := by
  go_enter Tryz.func11, Tryz.ntmps11
  go_wp2
  go_loop [3] (fun i => i = .int .i64 0) (fun _ => 0)
  case atStart => rfl
  case round =>
    subst hrel
    go_wp2
    go_loop [9] (fun i => i = .int .i64 0) (fun _ => 0)
    case atStart => rfl
    case round =>
      subst hrel
      go_wp2
      go_ret
      exact ⟨rfl, rfl⟩
theorem OpAt.below {B : Nat} {w w' : World} {b o : Nat} {x : OpV} (h : OpAt w b o x) (hb : Below B w w') (hB : b < B) : OpAt w' b o x := by
  obtain ⟨h0, h1, h2, h3, h4, h5, h6⟩ := h
  exact ⟨(hb.cell (p := ⟨b, _, none⟩) hB).trans h0, (hb.cell (p := ⟨b, _, none⟩) hB).trans h1, (hb.cell (p := ⟨b, _, none⟩) hB).trans h2, (hb.cell (p := ⟨b, _, none⟩) hB).trans h3, (hb.cell (p := ⟨b, _, none⟩) hB).trans h4, (hb.cell (p := ⟨b, _, none⟩) hB).trans h5, (hb.cell (p := ⟨b, _, none⟩) hB).trans h6⟩
theorem ScriptAt.below {w w' : World} {a0 : Option Addr} {n : Nat} {ops : Nat → OpV} (h : ScriptAt w a0 n ops) (hb : Below w.heap.size w w') : ScriptAt w' a0 n ops := by
  intro i hi
  obtain ⟨b, o, e, h⟩ := h i hi
  exact ⟨b, o, e, h.below hb (block_lt_of_cell h.1)⟩
theorem below_drews {B : Nat} {a w : World} (h : Below B a w) (q : Nat) : Below B a (w.drewN q) := below_drewN h q
set_option maxRecDepth 100000 in
set_option maxHeartbeats 1000000 in
theorem fields_any (a0 : Option Addr) (n cap : Nat) (ops : Nat → OpV) (w : World) (hn : n ≤ maxLen) (hs : ScriptAt w a0 n ops) :
    Calls Tryz.prog 3 #[.slice a0 n cap] w fun e w' => e = .returned (.bool true) ∧ Below w.heap.size w w' := by
  have HS : Hid _ := hs
  clear hs
  go_enter Tryz.func3, Tryz.ntmps3
  go_wp2_with fail
  refine (plays_of a0 n cap w.heap.size 2 2 ops (fun j => if j = 0 then 1 else 2) (w.alloc (Obj.cells #[Value.int IntKind.i64 1, Value.int IntKind.i64 2] 3)) hn (by omega)
    (fun w' => Below (w.heap.size + 2) ((w.alloc (Obj.cells #[Value.int IntKind.i64 1, Value.int IntKind.i64 2] 3)).alloc (.cells #[.slice none 0 0, .slice none 0 0, .slice none 0 0] 33)) w') ?_ ?_ ?_ ?_ ?_ ?_).mono ?_
  · exact Below.refl _ _
  · exact fun w' q h => below_drews h q
  · intro w' h
    have h2 := ((Below.refl w.heap.size w).alloc (Nat.le_refl _) (Obj.cells #[Value.int IntKind.i64 1, Value.int IntKind.i64 2] 3)).alloc (by simp) (.cells #[.slice none 0 0, .slice none 0 0, .slice none 0 0] 33)
    exact ScriptAt.below HS.out (h2.trans (h.mono (by omega)))
  · intro w' h i hi
    rw [h.cell (p := ⟨w.heap.size, i, none⟩) (by simp)]
    have : i = 0 ∨ i = 1 := by omega
    rcases this with rfl | rfl <;> simp [go_sem]
  · intro i _ hj w' h
    refine (step_field (ops i) _ w' ?_).mono ?_
    · obtain ⟨j, hj, e⟩ := hj
      have : j = 0 ∨ j = 1 := by omega
      rcases this with rfl | rfl
      · left; simpa using e
      · right; simpa using e
    · rintro e w'' ⟨rfl, h2⟩
      exact ⟨rfl, h.trans (h2.mono (by have := h.size; simpa using this))⟩
  · intro w' h
    refine (looks_nil _ w' ?_ ?_).mono ?_
    · rw [h.cell (p := ⟨_, 1, none⟩) (by simp)]; simp [go_sem]
    · rw [h.cell (p := ⟨_, 2, none⟩) (by simp)]; simp [go_sem]
    · rintro e w'' ⟨rfl, rfl⟩; exact ⟨rfl, h⟩
  · rintro e w1 ⟨rfl, h⟩
    go_wp2_with fail
    go_ret
    have h2 := ((Below.refl w.heap.size w).alloc (Nat.le_refl _) (Obj.cells #[Value.int IntKind.i64 1, Value.int IntKind.i64 2] 3)).alloc (by simp) (.cells #[.slice none 0 0, .slice none 0 0, .slice none 0 0] 33)
    exact ⟨rfl, h2.trans (h.mono (by omega))⟩
end Go.Proofs.YtfpoiikhhjdpdaaGreat
