/- append on rows of one's own, by element type; a log and what it gives. -/
import Derived.Test.YtbjaiojajmdilaaReads
import Derived.Deep.AppendLies
namespace Go.Proofs.Ytbjaiojajmdilaa
open Go.RowKit
theorem info_of {P : Program} {t : TypeId} {z : Option Value} {n b : Nat} (h : (P.info? t).map (fun i => (i.zero, i.size, i.bytes)) = some (z, n, b)) : ∃ i, P.info? t = some i ∧ i.zero = z ∧ i.size = n ∧ i.bytes = b := by
  cases hi : P.info? t with
  | none => simp [hi] at h
  | some i => simp [hi] at h; exact ⟨i, rfl, h.1, h.2.1, h.2.2⟩
def AppInfo (t e : TypeId) (size bytes : Nat) : Prop := ∃ i z, Try.prog.underlying t = some (.slice e) ∧ Try.prog.info? e = some i ∧ i.zero = some z ∧ i.size = size ∧ i.bytes = bytes ∧ z.cells.size = size ∧ 0 < size
theorem appRec : AppInfo 56 62 5 16 := by
  have h : (Try.prog.info? 62).map (fun i => (i.zero, i.size, i.bytes)) = some (some (.agg #[.int .i64 0, .int .u8 0, .int .u8 0, .int .u8 0, .int .u8 0]), 5, 16) := by kernel_rfl
  obtain ⟨i, h1, h2, h3, h4⟩ := info_of h
  exact ⟨i, _, Try.underlying56, h1, h2, h3, h4, rfl, by omega⟩
/-- append: 'w'.ownsRow' of the new list; where it lies. -/
theorem wpl_append {t e size bytes : Nat} (hI : AppInfo t e size bytes) {ops : Array Oper} {rest : List Oper} {o : Oper} {a : Act} {Q : Exit → Act → World → Prop} {w : World} (hgd : o.guard = none) (s x : Operand)
    (ho : o.op = .call { callee := .builtin .append, args := #[s, x], argTypes := #[t, t] }) (base : Nat)
    (v : Value) (n : Nat) (xs : List Value) (hs : a.eval s = v) (hown : w.ownsRow base e size v n xs)
    (ad : Addr) (m c : Nat) (news : List Value) (hx : a.eval x = .slice (some ad) m c) (hl : news.length = m * size) (hnews : ∀ j u, news[j]? = some u → w.cell? (ad.add j) = some u) (h1 : ∀ u ∈ news, u.oneCell' = true)
    (h63 : n + m ≤ maxLen) (hbytes : (n + m) * bytes ≤ 140737488355328) (hbase : base ≤ w.heap.size)
    (h : ∀ v' w', w'.ownsRow base e size v' (n + m) (xs ++ news) → w.grownBy w' v.ownBlock → (v'.ownBlock = v.ownBlock ∨ v'.ownBlock = some w.heap.size) → wpList Try.prog ops Q rest (a.put o.dst v') w') :
    wpList Try.prog ops Q (o :: rest) a w := by
  obtain ⟨i, z, g1, g2, g3, g4, g5, g6, g7⟩ := hI
  exact wpList_append_own_at w hgd s x t ho base e i z size bytes g1 g2 g3 g4 g5 g6 g7 v n xs hs hown ad m c news hx hl hnews h1 h63 hbytes hbase (fun v' w' a b _ c => h v' w' a b c)
theorem isDrive_b (hb : Nat) (s : St) (d : Int) (w : World) (h : HoardAt w hb s) :
    Calls Try.prog 36 #[.pointer (some ⟨hb, 0, none⟩), .int .i64 d] w fun e w' => e = .returned (.bool (isDriveB s d)) ∧ Below w.heap.size w w' ∧ HoardAt w' hb s :=
  (isDrive_any hb s d w h).mono fun _ _ ⟨he, n, hw⟩ => ⟨he, hw ▸ below_drewN (Below.refl _ _) n, hw ▸ h.drewN n⟩
theorem isParity_b (hb : Nat) (s : St) (d : Int) (w : World) (h : HoardAt w hb s) :
    Calls Try.prog 37 #[.pointer (some ⟨hb, 0, none⟩), .int .i64 d] w fun e w' => e = .returned (.bool (isParityB s d)) ∧ Below w.heap.size w w' ∧ HoardAt w' hb s :=
  (isParity_any hb s d w h).mono fun _ _ ⟨he, n, hw⟩ => ⟨he, hw ▸ below_drewN (Below.refl _ _) n, hw ▸ h.drewN n⟩
theorem LogAt.form {w : World} {v : Value} {l : List Rec} (h : LogAt w v l) : (v = .slice none 0 0 ∧ l = []) ∨ ∃ g cap, v = .slice (some ⟨g, 0, none⟩) l.length cap ∧ l.length ≤ cap ∧ g < w.heap.size ∧ ∀ j u, (recCells l)[j]? = some u → w.cell? ((⟨g, 0, none⟩ : Addr).add j) = some u := by
  rcases h.2 with ⟨rfl, h1⟩ | ⟨g, cap, cur, rfl, hb, hg, rest⟩
  · exact .inl ⟨rfl, List.eq_nil_of_length_eq_zero h1⟩
  · exact .inr ⟨g, cap, rfl, rest.1, (Array.getElem?_eq_some_iff.1 hg).1, World.ownsRow.cells h rfl⟩
theorem recCells_one (l : List Rec) : ∀ u ∈ recCells l, u.oneCell' = true := by
  intro u hu
  simp only [recCells, List.mem_flatMap, Rec.cells] at hu
  obtain ⟨r, _, hu⟩ := hu
  simp at hu
  rcases hu with rfl | rfl | rfl | rfl | rfl <;> rfl
theorem addr_add (b o j : Nat) : (⟨b, o, none⟩ : Addr).add j = ⟨b, o + j, none⟩ := by
  unfold Addr.add
  split
  · simp_all
  · rfl
theorem grown_below {w w' : World} {v : Value} {B : Nat} (h : w.grownBy w' v.ownBlock) (hB : B ≤ w.heap.size) (hv : ∀ k, v.ownBlock = some k → B ≤ k) : Below B w w' :=
  (Below.refl _ _).grown h hB hv
set_option maxRecDepth 100000 in
set_option maxHeartbeats 1000000 in
theorem Log_ok (hb : Nat) (s : St) (d : Nat) (w : World) (h : HoardAt w hb s) (hd : isParityB s d = true) :
    Calls Try.prog 22 #[.pointer (some ⟨hb, 0, none⟩), .int .i64 d] w fun e w' => ∃ v', e = .returned (.tuple #[v', .int .i64 0]) ∧ w'.ownsRow w.heap.size 62 5 v' (s.recs d).length (recCells (s.recs d)) ∧ Below w.heap.size w w' := by
  have hd1 := hd
  simp only [isParityB, decide_eq_true_eq] at hd1
  have hD := h.ok.D4
  have hP := h.ok.P2
  have hd6 : d < 6 := by omega
  have HH : Hid (HoardAt w hb s) := h
  clear h
  go_enter Try.func22, Try.ntmps22
  go_wp2_with fail
  refine (isParity_b hb s d _ HH.out).mono ?_
  rintro e w1 ⟨rfl, k1, h1⟩
  have hl := h1.log d hd6
  have hlt := h1.row.lt
  have hlog := (h1.logs d hd6)
  have hlen := h1.ok.len d
  have hM := h1.ok.M8
  have h0 : (w1.alloc (.cells #[] 62)).ownsRow w.heap.size 62 5 (.slice (some ⟨w1.heap.size, 0, none⟩) 0 0) 0 [] := World.ownsRow_made w1 #[] 0 k1.size (by decide) rfl
  have H0 : Hid ((w1.alloc (.cells #[] 62)).ownsRow w.heap.size 62 5 (.slice (some ⟨w1.heap.size, 0, none⟩) 0 0) 0 []) := h0
  have K1 : Below w.heap.size w (w1.alloc (.cells #[] 62)) := k1.alloc k1.size _
  clear h0
  rcases hlog.form with ⟨hv, hr⟩ | ⟨g, cap, hv, hcap, hg, hcells⟩
  · rw [hv] at hl
    have HR : Hid (s.recs d = []) := hr
    clear hlog h1 hr hv
    go_wp2_with fail
    go_ret2
    refine ⟨_, rfl, ?_, K1⟩
    rw [HR.out]
    exact H0.out
  · rw [hv] at hl
    have hone := recCells_one (s.recs d)
    have hcl := recCells_length (s.recs d)
    have HC : Hid (∀ j u, (recCells (s.recs d))[j]? = some u → w1.cell? ((⟨g, 0, none⟩ : Addr).add j) = some u) := hcells
    generalize hn : (s.recs d).length = n at *
    have HN : Hid ((s.recs d).length = n) := hn
    generalize hcs : recCells (s.recs d) = cs at *
    have HCS : Hid (recCells (s.recs d) = cs) := hcs
    clear hlog h1 hv hcells hn hcs
    go_wp2_with (at_builtin; go_must (refine wpl_append appRec (by rfl) _ _ (by rfl) w.heap.size _ 0 [] (by rfl) H0.out ⟨g, 0, none⟩ n cap cs (by rfl) hcl ?_ hone ?_ ?_ ?_ ?_))
    · intro j u hj
      rw [addr_add, World.cell?_alloc_lt _ _ _ (by exact hg), ← addr_add]
      exact HC.out j u hj
    · simp only [maxLen]; omega
    · omega
    · have := k1.size; simp; omega
    · intro v' w2 hown hgr hat
      go_wp2_with fail
      go_ret2
      refine ⟨v', rfl, ?_, ?_⟩
      · rw [HN.out, HCS.out]; simpa using hown
      · exact K1.trans (grown_below hgr (by have := k1.size; simp; omega) (by intro k hk; simp [Value.ownBlock] at hk; have := k1.size; omega))
end Go.Proofs.Ytbjaiojajmdilaa
