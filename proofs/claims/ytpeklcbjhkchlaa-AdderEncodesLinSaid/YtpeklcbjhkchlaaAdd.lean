/- Rows of clauses of the call's own; appends of one integer. -/
import Derived.Test.YtpeklcbjhkchlaaMem
import Derived.ArgAppend
namespace Go.Proofs.Ytpeklcbjhkchlaa
open Go.RowKit

theorem RowI.rd {w : World} {base n c : Nat} {A : Option Addr} {zs : List Int} (h : RowI w base (.slice A n c) zs) : RdI w.heap.size w A zs := by
  obtain ⟨A', c', e, _, _, hr⟩ := h.shape
  injection e with e1 _ _
  rw [e1]; exact hr
theorem wpList_push {ops : Array Oper} {rest : List Oper} {o : Oper} {a : Act} {Q : Exit → Act → World → Prop} {w : World} (hgd : o.guard = none) (s x : Operand)
    (ho : o.op = .call { callee := .builtin .append, args := #[s, x], argTypes := #[22, 22] }) (base : Nat) (v : Value) (zs : List Int) (hs : a.eval s = v) (hrow : RowI w base v zs) (z : Int) (hz : Wf z)
    (hx : a.eval x = .slice (some ⟨w.heap.size, 0, none⟩) 1 1) (hlen : zs.length ≤ 1000000) (hbase : base ≤ w.heap.size)
    (h : ∀ v' w', RowI w' base v' (zs ++ [z]) → Below base w w' → wpList Try.prog ops Q rest (a.put o.dst v') w') : wpList Try.prog ops Q (o :: rest) a (w.alloc (.cells #[.int .i64 z] 3)) := by
  obtain ⟨i0, hi, hz0, hz1, hz2⟩ := info_parts info3
  have hown := hrow.2.alloc (.cells #[.int .i64 z] 3)
  refine wpList_append_own _ hgd s x 22 ho base 3 i0 (.int .i64 0) 1 8 underlying22 hi hz0 hz1 hz2 rfl (by decide) v zs.length _ hs hown ⟨w.heap.size, 0, none⟩ 1 1 [.int .i64 z] hx rfl (cell_one_new _ _ _) (by simp [Value.oneCell']) (by unfold maxLen; omega) (by omega) (by simp; omega) ?_
  intro v' w' hown' hg _
  exact h v' w' (RowI.snoc hz hrow.1 hown') (((Below.refl base w).alloc hbase _).grown hg (by simp; omega) (fun k hk => (hown.lt k hk).1))

/-- A row of clauses of the call's own. -/
def Cls (w : World) (base : Nat) (v : Value) (cl : List (List Int)) : Prop := ∃ vs : List Value, w.ownsRow base 22 1 v vs.length vs ∧ Els w base vs cl
theorem Cls.nil (w : World) (base : Nat) : Cls w base (.slice Option.none 0 0) [] := ⟨[], World.ownsRow_nil _ _ _ _, Els.nil _ _⟩
theorem Cls.below {w w' : World} {base : Nat} {v : Value} {cl : List (List Int)} (h : Cls w base v cl) (hb : Below w.heap.size w w') : Cls w' base v cl := by
  obtain ⟨vs, h1, h2⟩ := h
  exact ⟨vs, own_below h1 hb, h2.below hb⟩
theorem Cls.res {w : World} {base : Nat} {v : Value} {cl : List (List Int)} (h : Cls w base v cl) : ∃ A c, v = .slice A cl.length c ∧ RdR w.heap.size w A cl ∧ ∀ j, j < cl.length → (cl[j]?.getD []).length ≤ maxLen := by
  obtain ⟨vs, h1, h2⟩ := h
  obtain ⟨A, c, rfl⟩ := own_shape h1
  obtain ⟨_, hr⟩ := h2.rd h1
  refine ⟨A, c, by rw [h2.1], hr, fun j hj => ?_⟩
  obtain ⟨x, _, hrow⟩ := h2.2 j hj
  obtain ⟨_, _, _, q1, q2, _⟩ := hrow.shape
  omega
theorem Cls.sl {w : World} {base : Nat} {v : Value} {cl : List (List Int)} (h : Cls w base v cl) : ∃ A L c, v = .slice A L c := by
  obtain ⟨A, c, e, _⟩ := h.res
  exact ⟨A, _, c, e⟩
/-- A row of one integer, as a literal makes it. -/
theorem RowI.one (X : World) (base : Nat) (z : Int) (hz : Wf z) (hb : base ≤ X.heap.size) : RowI (X.alloc (.cells #[.int .i64 z] 3)) base (.slice (some ⟨X.heap.size, 0, none⟩) 1 1) [z] := by
  refine ⟨fun x hx => by rw [List.mem_singleton.1 hx]; exact hz, ?_⟩
  have := World.ownsRow_lit (base := base) (e := 3) (size := 1) X #[Value.int .i64 z] 1 hb (by unfold maxLen; omega) (by simp)
  simpa using this
set_option maxRecDepth 20000 in
/-- An append to a full row: a new row, all that was there is as it was. -/
theorem push_new {ops : Array Oper} {rest : List Oper} {o : Oper} {a : Act} {Q : Exit → Act → World → Prop} {w : World} (hgd : o.guard = none) (s x : Operand)
    (ho : o.op = .call { callee := .builtin .append, args := #[s, x], argTypes := #[22, 22] }) (base : Nat) (A : Option Addr) (n : Nat) (zs : List Int) (hs : a.eval s = .slice A n n) (hrow : RowI w base (.slice A n n) zs) (hn : zs.length = n) (h0 : 0 < n) (z : Int) (hz : Wf z)
    (hx : a.eval x = .slice (some ⟨w.heap.size, 0, none⟩) 1 1) (hlen : n ≤ 1000000)
    (h : ∀ v' w', RowI w' w.heap.size v' (zs ++ [z]) → Below w.heap.size w w' → wpList Try.prog ops Q rest (a.put o.dst v') w') : wpList Try.prog ops Q (o :: rest) a (w.alloc (.cells #[.int .i64 z] 3)) := by
  obtain ⟨i0, hi, hz0, hz1, hz2⟩ := info_parts info3
  have hrow2 := hrow.alloc (.cells #[.int .i64 z] 3)
  have hrd := hrow2.rd
  obtain ⟨b, off, rfl, _, hcell⟩ := hrd.2 (by omega)
  refine wpList_append_grows _ hgd s x 22 ho 3 i0 (.int .i64 0) 1 8 underlying22 hi hz0 hz1 hz2 rfl (by decide) (some ⟨b, off, none⟩) n n (zs.map (Value.int .i64)) hs (fun e => by cases e) (by rw [List.length_map, hn, Nat.mul_one]) ?_ ⟨w.heap.size, 0, none⟩ 1 1 [.int .i64 z] hx rfl (cell_one_new _ _ _) (by simp [Value.oneCell']) (by omega) (by unfold maxLen; omega) (by omega) ?_
  · intro q hq j u hj
    injection hq with hq
    subst hq
    rw [add_plain]
    have hjl : j < zs.length := by
      have := (List.getElem?_eq_some_iff.1 hj).1
      simpa using this
    rw [intsAt zs j hjl] at hj
    injection hj with hj
    rw [← hj]
    exact hcell j hjl
  · intro v' w' hown' hg
    have hlow : Below w.heap.size w w' := ((Below.refl w.heap.size w).alloc (Nat.le_refl _) _).grown hg (by simp) (fun k hk => by cases hk)
    refine h v' w' (RowI.snoc hz hrow.1 ?_) hlow
    rw [hn]
    exact own_base hown' (by simp)
set_option maxRecDepth 20000 in
/-- An append to a row: no block but the row's own is turned. -/
theorem push_own {ops : Array Oper} {rest : List Oper} {o : Oper} {a : Act} {Q : Exit → Act → World → Prop} {w : World} (hgd : o.guard = none) (s x : Operand)
    (ho : o.op = .call { callee := .builtin .append, args := #[s, x], argTypes := #[22, 22] }) (base : Nat) (v : Value) (zs : List Int) (hs : a.eval s = v) (hrow : RowI w base v zs) (z : Int) (hz : Wf z)
    (hx : a.eval x = .slice (some ⟨w.heap.size, 0, none⟩) 1 1) (hlen : zs.length ≤ 1000000) (hbase : base ≤ w.heap.size)
    (h : ∀ v' w', RowI w' base v' (zs ++ [z]) → Below base w w' → (∀ k, k < w.heap.size → some k ≠ v.ownBlock → w'.heap[k]? = w.heap[k]?) → wpList Try.prog ops Q rest (a.put o.dst v') w') : wpList Try.prog ops Q (o :: rest) a (w.alloc (.cells #[.int .i64 z] 3)) := by
  obtain ⟨i0, hi, hz0, hz1, hz2⟩ := info_parts info3
  have hown := hrow.2.alloc (.cells #[.int .i64 z] 3)
  refine wpList_append_own _ hgd s x 22 ho base 3 i0 (.int .i64 0) 1 8 underlying22 hi hz0 hz1 hz2 rfl (by decide) v zs.length _ hs hown ⟨w.heap.size, 0, none⟩ 1 1 [.int .i64 z] hx rfl (cell_one_new _ _ _) (by simp [Value.oneCell']) (by unfold maxLen; omega) (by omega) (by simp; omega) ?_
  intro v' w' hown' hg _
  exact h v' w' (RowI.snoc hz hrow.1 hown') (((Below.refl base w).alloc hbase _).grown hg (by simp; omega) (fun k hk => (hown.lt k hk).1))
    (fun k hk hne => (hg.block k (by simp; omega) hne).trans (heap_alloc_old w _ hk))
/-- A row whose block is as it was. -/
theorem RowI.same {w w' : World} {base : Nat} {v : Value} {zs : List Int} (h : RowI w base v zs) (hb : ∀ k, v.ownBlock = some k → w'.heap[k]? = w.heap[k]?) : RowI w' base v zs := by
  refine ⟨h.1, h.2.1, ?_⟩
  rcases h.2.2 with h2 | ⟨g, cap, cur, rfl, hbase, hg, h3⟩
  · exact .inl h2
  · exact .inr ⟨g, cap, cur, rfl, hbase, (hb g rfl).trans hg, h3⟩
/-- A row that clauses are put behind does not matter to a row of integers. -/
theorem RowI.keep {w w' : World} {base : Nat} {v : Value} {zs : List Int} (h : RowI w base v zs) (hk : ∀ (b : Nat) (cs : Array Value) (t : TypeId), t ≠ 22 → w.heap[b]? = some (.cells cs t (0, 0)) → w'.heap[b]? = some (.cells cs t (0, 0))) : RowI w' base v zs := by
  refine ⟨h.1, h.2.1, ?_⟩
  rcases h.2.2 with h2 | ⟨g, cap, cur, rfl, hbase, hg, h3⟩
  · exact .inl h2
  · exact .inr ⟨g, cap, cur, rfl, hbase, hk g cur 3 (by decide) hg, h3⟩
/-- A clause is put behind a row of clauses; the row's values are named. -/
theorem push_row_ex {ops : Array Oper} {rest : List Oper} {o : Oper} {a : Act} {Q : Exit → Act → World → Prop} {w : World} (hgd : o.guard = none) (s x : Operand)
    (ho : o.op = .call { callee := .builtin .append, args := #[s, x], argTypes := #[24, 24] }) (base : Nat) (v : Value) (vs : List Value) (cl : List (List Int)) (hs : a.eval s = v) (hown : w.ownsRow base 22 1 v vs.length vs) (hels : Els w base vs cl) (u : Value) (zs : List Int) (hu : RowI w base u zs)
    (hx : a.eval x = .slice (some ⟨w.heap.size, 0, none⟩) 1 1) (hlen : cl.length ≤ 1000000) (hbase : base ≤ w.heap.size)
    (h : ∀ v' w', w'.ownsRow base 22 1 v' (vs ++ [u]).length (vs ++ [u]) → Els w' base (vs ++ [u]) (cl ++ [zs]) → Below base w w' → w.heap.size ≤ w'.heap.size → (∀ (b : Nat) (cs : Array Value) (t : TypeId), t ≠ 22 → w.heap[b]? = some (.cells cs t (0, 0)) → w'.heap[b]? = some (.cells cs t (0, 0))) → wpList Try.prog ops Q rest (a.put o.dst v') w') : wpList Try.prog ops Q (o :: rest) a (w.alloc (.cells #[u] 22)) := by
  obtain ⟨i0, hi, hz0, hz1, hz2⟩ := info_parts info22
  have hvl : vs.length ≤ 1000000 := by rw [hels.1]; exact hlen
  have hown1 := hown.alloc (.cells #[u] 22)
  have hone : u.oneCell' = true := (Els.one' hu).one u (by simp)
  refine wpList_append_own _ hgd s x 24 ho base 22 i0 (.slice Option.none 0 0) 1 24 underlying24 hi hz0 hz1 hz2 rfl (by decide) v vs.length _ hs hown1 ⟨w.heap.size, 0, none⟩ 1 1 [u] hx rfl (cell_one_new _ _ _) (by intro q hq; rw [List.mem_singleton.1 hq]; exact hone) (by unfold maxLen; omega) (by omega) (by simp; omega) ?_
  intro v' w' hown' hg _
  have hel : Els w' base (vs ++ [u]) (cl ++ [zs]) := ((hels.append (Els.one' hu)).alloc _).apart hg (off_own hown1 (by decide))
  have hkeep : ∀ (b : Nat) (cs : Array Value) (t : TypeId), t ≠ 22 → w.heap[b]? = some (.cells cs t (0, 0)) → w'.heap[b]? = some (.cells cs t (0, 0)) := fun b cs t ht hb => by
    have hlt := (Array.getElem?_eq_some_iff.1 hb).1
    have h2 : (w.alloc (.cells #[u] 22)).heap[b]? = some (.cells cs t (0, 0)) := (heap_alloc_old w _ hlt).trans hb
    refine (hg.block b (by simp; omega) ?_).trans h2
    intro q
    exact off_own (t := t) hown1 (Ne.symm ht) b q.symm cs h2
  have hlow := ((Below.refl base w).alloc hbase (.cells #[u] 22)).grown hg (by simp; omega) (fun k hk => (hown1.lt k hk).1)
  exact h v' w' (by rw [List.length_append]; exact hown') hel hlow hlow.size hkeep
end Go.Proofs.Ytpeklcbjhkchlaa
