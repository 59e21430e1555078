/- Rows of bools that grow; what Truth and many answer; a slice of bools that comes in. -/
import Derived.Test.YtpeklcbjhkchlaaBools
import Derived.Deep.Grids
import Derived.ArgAppend
namespace Go.Proofs.Ytpeklcbjhkchlaa
open Go.ChangeShapes Go.WideShapes Go.ChangeAt Go.RowKit Go.Deep
set_option maxRecDepth 20000

/-- A row of bools of the call's own that may have room behind it. -/
def RowV (w : World) (base : Nat) (v : Value) (bs : List Bool) : Prop := w.ownsRow base 4 1 v bs.length (bs.map Value.bool)
theorem RowV.kept {w w' : World} {base : Nat} {v : Value} {bs : List Bool} {row : Option Nat} (h : RowV w base v bs) (hg : w.grownBy w' row) (hne : v.ownBlock = none ∨ v.ownBlock ≠ row) : RowV w' base v bs := World.ownsRow.kept h hg hne
theorem RowV.alloc {w : World} {base : Nat} {v : Value} {bs : List Bool} (h : RowV w base v bs) (o : Obj) : RowV (w.alloc o) base v bs := World.ownsRow.alloc h o
theorem RowV.below {w w' : World} {base : Nat} {v : Value} {bs : List Bool} (h : RowV w base v bs) (hb : Below w.heap.size w w') : RowV w' base v bs := own_below h hb
theorem RowV.base {w : World} {base base' : Nat} {v : Value} {bs : List Bool} (h : RowV w base v bs) (hb : base' ≤ base) : RowV w base' v bs := own_base h hb
theorem RowV.empty (w : World) (base : Nat) : RowV w base (.slice Option.none 0 0) [] := by unfold RowV; simpa using World.ownsRow_nil w base 4 1
theorem RowV.drewN {w : World} {base : Nat} {v : Value} {bs : List Bool} (h : RowV w base v bs) (n : Nat) : RowV (w.drewN n) base v bs := h
theorem RowV.shape {w : World} {base : Nat} {v : Value} {bs : List Bool} (h : RowV w base v bs) : ∃ A cap, v = .slice A bs.length cap ∧ bs.length ≤ cap ∧ cap ≤ maxLen ∧ RdB w.heap.size w A bs := by
  have h' := h
  unfold RowV at h
  obtain ⟨h1, ⟨rfl, h2⟩ | ⟨g, cap, cur, rfl, hbase, hg, hn, hcm, hcs, ht⟩⟩ := h
  · exact ⟨none, 0, by rw [h2], by omega, Nat.zero_le _, fun hp => by omega⟩
  · refine ⟨_, cap, rfl, hn, hcm, fun _ => ⟨g, 0, rfl, (Array.getElem?_eq_some_iff.1 hg).1, fun j hj => ?_⟩⟩
    have hc := World.ownsRow.cellAt (w := w) (base := base) (e := 4) (size := 1) (g := g) (n := bs.length) (cap := cap) (xs := bs.map Value.bool) h' j (by omega)
    rw [Nat.zero_add, hc, boolsAt bs j hj]
theorem RowV.rd {w : World} {base n c : Nat} {A : Option Addr} {bs : List Bool} (h : RowV w base (.slice A n c) bs) : n = bs.length ∧ RdB w.heap.size w A bs := by
  obtain ⟨A', c', e, _, _, h2⟩ := h.shape
  injection e with e1 e2 e3
  subst e1
  exact ⟨e2, h2⟩
theorem RdB.cellAdd {B : Nat} {w : World} {a : Addr} {bs : List Bool} (h : RdB B w (some a) bs) : ∀ j u, (bs.map Value.bool)[j]? = some u → w.cell? (a.add j) = some u := by
  intro j u hj
  have hjl : j < bs.length := by
    have := (List.getElem?_eq_some_iff.1 hj).1
    simpa using this
  obtain ⟨b, off, e, _, hc⟩ := h (by omega)
  injection e with e
  subst e
  rw [boolsAt bs j hjl] at hj
  injection hj with hj
  rw [add_plain, ← hj]
  exact hc j hjl
theorem RowV.one (X : World) (base : Nat) (z : Bool) (hb : base ≤ X.heap.size) : RowV (X.alloc (.cells #[.bool z] 4)) base (.slice (some ⟨X.heap.size, 0, none⟩) 1 1) [z] := by
  have := World.ownsRow_lit (base := base) (e := 4) (size := 1) X #[Value.bool z] 1 hb (by unfold maxLen; omega) (by simp)
  unfold RowV
  simpa using this
/-- An append of a slice of bools to a row of the call's own. -/
theorem push_bools {ops : Array Oper} {rest : List Oper} {o : Oper} {a : Act} {Q : Exit → Act → World → Prop} {w : World} (hgd : o.guard = none) (s x : Operand)
    (ho : o.op = .call { callee := .builtin .append, args := #[s, x], argTypes := #[37, 37] }) (base : Nat) (v : Value) (bs : List Bool) (hs : a.eval s = v) (hrow : RowV w base v bs)
    (B : Nat) (A : Option Addr) (m c : Nat) (cs : List Bool) (hx : a.eval x = .slice A m c) (hr : RdB B w A cs) (hm : cs.length = m) (hn : A = none → c = 0)
    (hbound : bs.length + m ≤ 1000000) (hbase : base ≤ w.heap.size)
    (h : ∀ v' w', RowV w' base v' (bs ++ cs) → Below base w w' → wpList Try.prog ops Q rest (a.put o.dst v') w') : wpList Try.prog ops Q (o :: rest) a w := by
  obtain ⟨i0, hi, hz0, hz1, hz2⟩ := info_parts info4
  cases A with
  | none =>
    have hc := hn rfl
    subst hc
    have h0 : cs = [] := by
      rcases Nat.eq_zero_or_pos cs.length with e | e
      · exact List.eq_nil_of_length_eq_zero e
      · obtain ⟨b, off, e, _⟩ := hr e; cases e
    subst h0
    have hm0 : m = 0 := by rw [← hm]; rfl
    subst hm0
    exact wpList_append_own_none hgd s x 37 ho base 4 i0 1 underlying37' hi v bs.length (bs.map Value.bool) hs hrow hx (h v w (by simpa using hrow) (Below.refl _ _))
  | some ad =>
    refine wpList_append_own w hgd s x 37 ho base 4 i0 (.bool false) 1 1 underlying37' hi hz0 hz1 hz2 rfl (by decide) v bs.length (bs.map Value.bool) hs hrow ad m c (cs.map Value.bool) hx (by rw [List.length_map, hm, Nat.mul_one]) hr.cellAdd (by intro u hu; obtain ⟨z, _, rfl⟩ := List.mem_map.1 hu; rfl) (by unfold maxLen; omega) (by omega) hbase ?_
    intro v' w' hown hg _
    refine h v' w' ?_ ((Below.refl base w).grown hg hbase (fun k hk => (hrow.lt k hk).1))
    unfold RowV
    rw [List.length_append, hm, List.map_append]
    exact hown
/-- An append of one bool. -/
theorem push_bool {ops : Array Oper} {rest : List Oper} {o : Oper} {a : Act} {Q : Exit → Act → World → Prop} {w : World} (hgd : o.guard = none) (s x : Operand)
    (ho : o.op = .call { callee := .builtin .append, args := #[s, x], argTypes := #[37, 37] }) (base : Nat) (v : Value) (bs : List Bool) (hs : a.eval s = v) (hrow : RowV w base v bs) (z : Bool)
    (hx : a.eval x = .slice (some ⟨w.heap.size, 0, none⟩) 1 1) (hbound : bs.length ≤ 1000000) (hbase : base ≤ w.heap.size)
    (h : ∀ v' w', RowV w' base v' (bs ++ [z]) → Below base w w' → wpList Try.prog ops Q rest (a.put o.dst v') w') : wpList Try.prog ops Q (o :: rest) a (w.alloc (.cells #[.bool z] 4)) := by
  obtain ⟨i0, hi, hz0, hz1, hz2⟩ := info_parts info4
  have hrow2 := hrow.alloc (.cells #[.bool z] 4)
  refine wpList_append_own _ hgd s x 37 ho base 4 i0 (.bool false) 1 1 underlying37' hi hz0 hz1 hz2 rfl (by decide) v bs.length _ hs hrow2 ⟨w.heap.size, 0, none⟩ 1 1 [.bool z] hx rfl (cell_one_new _ _ _) (by simp [Value.oneCell']) (by unfold maxLen; omega) (by omega) (by simp; omega) ?_
  intro v' w' hown hg _
  refine h v' w' ?_ (((Below.refl base w).alloc hbase _).grown hg (by simp; omega) (fun k hk => (hrow.lt k hk).1))
  unfold RowV
  rw [List.length_append, List.map_append]
  exact hown

theorem Try_cells4 : Try.prog.cellsOf 4 = 1 := by kernel_rfl
theorem open_boollist {H : Type} {enc : TypeId × Value → H} {W : World} {base : Nat} {v : Value} {d : DataW H} {p : List MemPlace} (hval : Value.okWide Try.prog W .any base 37 v) (h : DataW.Trod enc Try.prog W 0 (fun _ => true) true 37 v d p)
    (hlt : ∀ x ∈ p, x.block < W.heap.size) :
    ∃ A len cap bs, v = .slice A len cap ∧ RdB W.heap.size W A bs ∧ bs.length = len ∧ len ≤ cap ∧ cap ≤ maxLen ∧ (A = Option.none → cap = 0) := by
  obtain ⟨a0, len, cap, rfl⟩ := okWide_slice underlying37' hval
  obtain ⟨fuel, hf⟩ := h
  rcases open_bools underlying37' underlying4 Try_cells4 hf with ⟨hcs, hx⟩ | ⟨a, len', cap', B, hcs, _, hl, hm, hx, hcell⟩
  · simp [Value.cells] at hcs
    obtain ⟨rfl, rfl, rfl⟩ := hcs
    exact ⟨_, _, _, [], rfl, fun h => absurd h (by simp), rfl, Nat.le_refl _, Nat.zero_le _, fun _ => rfl⟩
  · simp [Value.cells] at hcs
    obtain ⟨rfl, rfl, rfl⟩ := hcs
    simp only [Prod.mk.injEq] at hx
    obtain ⟨rfl, rfl⟩ := hx
    refine ⟨some a, len, cap, (List.range len).map B, rfl, fun hn => ?_, by simp, hl, hm, by intro e; cases e⟩
    rw [List.length_map, List.length_range] at hn
    obtain ⟨b, off, spot⟩ := a
    have hspot : spot = Option.none := by simpa [Addr.add] using World.cell?_spot (hcell 0 (by omega))
    subst hspot
    refine ⟨b, off, rfl, hlt (.cell b off) (MemPlace.mem_row.2 ⟨0, by omega, by simp⟩), fun j hj => ?_⟩
    rw [List.length_map, List.length_range] at hj
    rw [← add_plain, hcell j (by omega), List.getElem?_map, List.getElem?_range hj]; rfl

end Go.Proofs.Ytpeklcbjhkchlaa
