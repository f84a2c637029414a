/- append on rows of one's own, by element type; a log and what it gives. -/
import Derived.Test.YtfpoiikhhjdpdabReads
import Derived.Deep.AppendLies
namespace Go.Proofs.Ytfpoiikhhjdpdab
open Go.RowKit
theorem info_of {P : Program} {t : TypeId} {z : Option Value} {n b : Nat} (h : (P.info? t).map (fun i => (i.zero, i.size, i.bytes)) = some (z, n, b)) : ∃ i, P.info? t = some i ∧ i.zero = z ∧ i.size = n ∧ i.bytes = b := by
  cases hi : P.info? t with
  | none => simp [hi] at h
  | some i => simp [hi] at h; exact ⟨i, rfl, h.1, h.2.1, h.2.2⟩
def AppInfo (t e : TypeId) (size bytes : Nat) : Prop := ∃ i z, Try.prog.underlying t = some (.slice e) ∧ Try.prog.info? e = some i ∧ i.zero = some z ∧ i.size = size ∧ i.bytes = bytes ∧ z.cells.size = size ∧ 0 < size
theorem appRec : AppInfo 72 76 5 16 := by
  have h : (Try.prog.info? 76).map (fun i => (i.zero, i.size, i.bytes)) = some (some (.agg #[.int .i64 0, .int .u8 0, .int .u8 0, .int .u8 0, .int .u8 0]), 5, 16) := by kernel_rfl
  obtain ⟨i, h1, h2, h3, h4⟩ := info_of h
  exact ⟨i, _, Try.underlying72, h1, h2, h3, h4, rfl, by omega⟩
/-- append: 'w'.ownsRow' of the new list; where it lies. -/
theorem wpl_append {t e size bytes : Nat} (hI : AppInfo t e size bytes) {ops : Array Oper} {rest : List Oper} {o : Oper} {a : Act} {Q : Exit → Act → World → Prop} {w : World} (hgd : o.guard = none) (s x : Operand)
    (ho : o.op = .call { callee := .builtin .append, args := #[s, x], argTypes := #[t, t] }) (base : Nat)
    (v : Value) (n : Nat) (xs : List Value) (hs : a.eval s = v) (hown : w.ownsRow base e size v n xs)
    (ad : Addr) (m c : Nat) (news : List Value) (hx : a.eval x = .slice (some ad) m c) (hl : news.length = m * size) (hnews : ∀ j u, news[j]? = some u → w.cell? (ad.add j) = some u) (h1 : ∀ u ∈ news, u.oneCell' = true)
    (h63 : n + m ≤ maxLen) (hbytes : (n + m) * bytes ≤ 140737488355328) (hbase : base ≤ w.heap.size)
    (h : ∀ v' w', w'.ownsRow base e size v' (n + m) (xs ++ news) → w.grownBy w' v.ownBlock → (v'.ownBlock = v.ownBlock ∨ v'.ownBlock = some w.heap.size) → wpList Try.prog ops Q rest (a.put o.dst v') w') :
    wpList Try.prog ops Q (o :: rest) a w := by
  obtain ⟨i, z, g1, g2, g3, g4, g5, g6, g7⟩ := hI
  exact wpList_append_own_at w hgd s x t ho base e i z size bytes g1 g2 g3 g4 g5 g6 g7 v n xs hs hown ad m c news hx hl hnews h1 h63 hbytes hbase (fun v' w' a b _ c => h v' w' a b c)
theorem isDrive_b (hb : Nat) (s : St) (d : Int) (w : World) (h : HoardIn w hb s) :
    Calls Try.prog 40 #[.pointer (some ⟨hb, 0, none⟩), .int .i64 d] w fun e w' => e = .returned (.bool (isDriveB s d)) ∧ Below w.heap.size w w' ∧ HoardIn w' hb s :=
  (isDrive_any hb s d w h).mono fun _ _ ⟨he, n, hw⟩ => ⟨he, hw ▸ below_drewN (Below.refl _ _) n, hw ▸ h.drewN n⟩
theorem isParity_b (hb : Nat) (s : St) (d : Int) (w : World) (h : HoardIn w hb s) :
    Calls Try.prog 60 #[.pointer (some ⟨hb, 0, none⟩), .int .i64 d] w fun e w' => e = .returned (.bool (isParityB s d)) ∧ Below w.heap.size w w' ∧ HoardIn w' hb s :=
  (isParity_any hb s d w h).mono fun _ _ ⟨he, n, hw⟩ => ⟨he, hw ▸ below_drewN (Below.refl _ _) n, hw ▸ h.drewN n⟩
theorem LogAt.form {w : World} {v : Value} {l : List Rec} (h : LogAt w v l) : (v = .slice none 0 0 ∧ l = []) ∨ ∃ g cap, v = .slice (some ⟨g, 0, none⟩) l.length cap ∧ l.length ≤ cap ∧ g < w.heap.size ∧ ∀ j u, (recCells l)[j]? = some u → w.cell? ((⟨g, 0, none⟩ : Addr).add j) = some u := by
  rcases h.2 with ⟨rfl, h1⟩ | ⟨g, cap, cur, rfl, hb, hg, rest⟩
  · exact .inl ⟨rfl, List.eq_nil_of_length_eq_zero h1⟩
  · exact .inr ⟨g, cap, rfl, rest.1, (Array.getElem?_eq_some_iff.1 hg).1, World.ownsRow.cells h rfl⟩
theorem recCells_one (l : List Rec) : ∀ u ∈ recCells l, u.oneCell' = true := by
  intro u hu
  simp only [recCells, List.mem_flatMap, Rec.cells] at hu
  obtain ⟨r, _, hu⟩ := hu
  simp at hu
  rcases hu with rfl | rfl | rfl | rfl | rfl <;> rfl
theorem addr_add (b o j : Nat) : (⟨b, o, none⟩ : Addr).add j = ⟨b, o + j, none⟩ := by
  unfold Addr.add
  split
  · simp_all
  · rfl
theorem grown_below {w w' : World} {v : Value} {B : Nat} (h : w.grownBy w' v.ownBlock) (hB : B ≤ w.heap.size) (hv : ∀ k, v.ownBlock = some k → B ≤ k) : Below B w w' :=
  (Below.refl _ _).grown h hB hv
theorem appInt : AppInfo 62 3 1 8 := by
  have h : (Try.prog.info? 3).map (fun i => (i.zero, i.size, i.bytes)) = some (some (.int .i64 0), 1, 8) := by kernel_rfl
  obtain ⟨i, h1, h2, h3, h4⟩ := info_of h
  exact ⟨i, _, Try.underlying62, h1, h2, h3, h4, rfl, by omega⟩
def intsOf (l : List Nat) : List Value := l.map (fun x => .int .i64 (x : Nat))
theorem intsOf_length (l : List Nat) : (intsOf l).length = l.length := by unfold intsOf; rw [List.length_map]
theorem intsOf_get (l : List Nat) (i : Nat) (h : i < l.length) : (intsOf l)[i]? = some (.int .i64 (l.getD i 0 : Nat)) := by
  unfold intsOf
  rw [List.getElem?_map, List.getElem?_eq_getElem h]
  simp [List.getD_eq_getElem?_getD, h]

theorem recCells_get (l : List Rec) (k : Nat) (hk : k < l.length) : ∃ r, l[k]? = some r ∧ (recCells l)[k * 5]? = some (.int .i64 r.row) ∧ (recCells l)[k * 5 + 1]? = some (.int .u8 r.c.b0) ∧ (recCells l)[k * 5 + 2]? = some (.int .u8 r.c.b1) ∧ (recCells l)[k * 5 + 3]? = some (.int .u8 r.c.b2) ∧ (recCells l)[k * 5 + 4]? = some (.int .u8 r.c.b3) := by
  induction l generalizing k with
  | nil => simp at hk
  | cons r l ih =>
    cases k with
    | zero => exact ⟨r, rfl, rfl, rfl, rfl, rfl, rfl⟩
    | succ k =>
      obtain ⟨r', h0, h1, h2, h3, h4, h5⟩ := ih k (by simpa using hk)
      have e : ∀ j, (recCells (r :: l))[(k + 1) * 5 + j]? = (recCells l)[k * 5 + j]? := by
        intro j
        have : recCells (r :: l) = r.cells ++ recCells l := rfl
        rw [this, List.getElem?_append_right (by simp [Rec.cells]; omega)]
        congr 1
        simp [Rec.cells]; omega
      exact ⟨r', by simpa using h0, by simpa using (e 0).trans h1, (e 1).trans h2, (e 2).trans h3, (e 3).trans h4, (e 4).trans h5⟩
theorem LogAt.slice {w : World} {v : Value} {l : List Rec} (h : LogAt w v l) : ∃ p cap, v = .slice p l.length cap ∧ ∀ k, k < l.length → ∃ g x, p = some ⟨g, 0, none⟩ ∧ g < w.heap.size ∧ l[k]? = some x ∧ w.cell? ⟨g, k * 5, none⟩ = some (.int .i64 x.row) ∧ w.cell? ⟨g, k * 5 + 1, none⟩ = some (.int .u8 x.c.b0) ∧ w.cell? ⟨g, k * 5 + 2, none⟩ = some (.int .u8 x.c.b1) ∧ w.cell? ⟨g, k * 5 + 3, none⟩ = some (.int .u8 x.c.b2) ∧ w.cell? ⟨g, k * 5 + 4, none⟩ = some (.int .u8 x.c.b3) := by
  rcases h.form with ⟨rfl, rfl⟩ | ⟨g, cap, rfl, hcap, hg, hc⟩
  · exact ⟨none, 0, rfl, fun k hk => by simp at hk⟩
  · refine ⟨_, cap, rfl, fun k hk => ?_⟩
    obtain ⟨r, hr, x0, x1, x2, x3, x4⟩ := recCells_get l k hk
    have cc : ∀ j u, (recCells l)[j]? = some u → w.cell? ⟨g, j, none⟩ = some u := fun j u h => by
      have := hc j u h
      rwa [addr_add, Nat.zero_add] at this
    exact ⟨g, r, rfl, hg, hr, cc _ _ x0, cc _ _ x1, cc _ _ x2, cc _ _ x3, cc _ _ x4⟩
end Go.Proofs.Ytfpoiikhhjdpdab
