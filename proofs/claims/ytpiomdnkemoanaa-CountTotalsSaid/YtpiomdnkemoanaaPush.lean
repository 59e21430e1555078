/- Two rows that grow in turn: an append to a full row makes a new one; an append to a row turns no other block. -/
import Derived.Test.YtpiomdnkemoanaaRefLits
import Derived.ArgAppend
namespace Go.Proofs.Ytpiomdnkemoanaa
open Go.RowKit

/-- A row of one integer, as a literal makes it. -/
theorem RowI.one (X : World) (base : Nat) (z : Int) (hz : Wf z) (hb : base ≤ X.heap.size) : RowI (X.alloc (.cells #[.int .i64 z] 3)) base (.slice (some ⟨X.heap.size, 0, none⟩) 1 1) [z] := by
  refine ⟨fun x hx => by rw [List.mem_singleton.1 hx]; exact hz, ?_⟩
  have := World.ownsRow_lit (base := base) (e := 3) (size := 1) X #[Value.int .i64 z] 1 hb (by unfold maxLen; omega) (by simp)
  simpa using this
/-- An append to a full row: a new row, all that was there is as it was. -/
theorem push_new {ops : Array Oper} {rest : List Oper} {o : Oper} {a : Act} {Q : Exit → Act → World → Prop} {w : World} (hgd : o.guard = none) (s x : Operand)
    (ho : o.op = .call { callee := .builtin .append, args := #[s, x], argTypes := #[22, 22] }) (base : Nat) (A : Option Addr) (n : Nat) (zs : List Int) (hs : a.eval s = .slice A n n) (hrow : RowI w base (.slice A n n) zs) (hn : zs.length = n) (h0 : 0 < n) (z : Int) (hz : Wf z)
    (hx : a.eval x = .slice (some ⟨w.heap.size, 0, none⟩) 1 1) (hlen : n ≤ 1000000)
    (h : ∀ v' w', RowI w' w.heap.size v' (zs ++ [z]) → Below w.heap.size w w' → wpList Try.prog ops Q rest (a.put o.dst v') w') : wpList Try.prog ops Q (o :: rest) a (w.alloc (.cells #[.int .i64 z] 3)) := by
  obtain ⟨i0, hi, hz0, hz1, hz2⟩ := info_parts info3
  have hrow2 := hrow.alloc (.cells #[.int .i64 z] 3)
  have hrd := hrow2.rd
  obtain ⟨b, off, rfl, _, hcell⟩ := hrd.2 (by omega)
  refine wpList_append_grows _ hgd s x 22 ho 3 i0 (.int .i64 0) 1 8 underlying22 hi hz0 hz1 hz2 rfl (by decide) (some ⟨b, off, none⟩) n n (zs.map (Value.int .i64)) hs (fun e => by cases e) (by rw [List.length_map, hn, Nat.mul_one]) ?_ ⟨w.heap.size, 0, none⟩ 1 1 [.int .i64 z] hx rfl (cell_one_new _ _ _) (by simp [Value.oneCell']) (by omega) (by unfold maxLen; omega) (by omega) ?_
  · intro q hq j u hj
    injection hq with hq
    subst hq
    rw [add_plain]
    have hjl : j < zs.length := by
      have := (List.getElem?_eq_some_iff.1 hj).1
      simpa using this
    rw [intsAt zs j hjl] at hj
    injection hj with hj
    rw [← hj]
    exact hcell j hjl
  · intro v' w' hown' hg
    have hlow : Below w.heap.size w w' := ((Below.refl w.heap.size w).alloc (Nat.le_refl _) _).grown hg (by simp) (fun k hk => by cases hk)
    refine h v' w' (RowI.snoc hz hrow.1 ?_) hlow
    rw [hn]
    exact own_base hown' (by simp)
/-- An append to a row: no block but the row's own is turned. -/
theorem push_own {ops : Array Oper} {rest : List Oper} {o : Oper} {a : Act} {Q : Exit → Act → World → Prop} {w : World} (hgd : o.guard = none) (s x : Operand)
    (ho : o.op = .call { callee := .builtin .append, args := #[s, x], argTypes := #[22, 22] }) (base : Nat) (v : Value) (zs : List Int) (hs : a.eval s = v) (hrow : RowI w base v zs) (z : Int) (hz : Wf z)
    (hx : a.eval x = .slice (some ⟨w.heap.size, 0, none⟩) 1 1) (hlen : zs.length ≤ 1000000) (hbase : base ≤ w.heap.size)
    (h : ∀ v' w', RowI w' base v' (zs ++ [z]) → Below base w w' → (∀ k, k < w.heap.size → some k ≠ v.ownBlock → w'.heap[k]? = w.heap[k]?) → wpList Try.prog ops Q rest (a.put o.dst v') w') : wpList Try.prog ops Q (o :: rest) a (w.alloc (.cells #[.int .i64 z] 3)) := by
  obtain ⟨i0, hi, hz0, hz1, hz2⟩ := info_parts info3
  have hown := hrow.2.alloc (.cells #[.int .i64 z] 3)
  refine wpList_append_own _ hgd s x 22 ho base 3 i0 (.int .i64 0) 1 8 underlying22 hi hz0 hz1 hz2 rfl (by decide) v zs.length _ hs hown ⟨w.heap.size, 0, none⟩ 1 1 [.int .i64 z] hx rfl (cell_one_new _ _ _) (by simp [Value.oneCell']) (by unfold maxLen; omega) (by omega) (by simp; omega) ?_
  intro v' w' hown' hg _
  exact h v' w' (RowI.snoc hz hrow.1 hown') (((Below.refl base w).alloc hbase _).grown hg (by simp; omega) (fun k hk => (hown.lt k hk).1))
    (fun k hk hne => (hg.block k (by simp; omega) hne).trans (heap_alloc_old w _ hk))
/-- A row whose block is as it was. -/
theorem RowI.same {w w' : World} {base : Nat} {v : Value} {zs : List Int} (h : RowI w base v zs) (hb : ∀ k, v.ownBlock = some k → w'.heap[k]? = w.heap[k]?) : RowI w' base v zs := by
  refine ⟨h.1, h.2.1, ?_⟩
  rcases h.2.2 with h2 | ⟨g, cap, cur, rfl, hbase, hg, h3⟩
  · exact .inl h2
  · exact .inr ⟨g, cap, cur, rfl, hbase, (hb g rfl).trans hg, h3⟩
/-- A row that clauses are put behind does not matter to a row of integers. -/
theorem RowI.keep {w w' : World} {base : Nat} {v : Value} {zs : List Int} (h : RowI w base v zs) (hk : ∀ (b : Nat) (cs : Array Value) (t : TypeId), t ≠ 22 → w.heap[b]? = some (.cells cs t (0, 0)) → w'.heap[b]? = some (.cells cs t (0, 0))) : RowI w' base v zs := by
  refine ⟨h.1, h.2.1, ?_⟩
  rcases h.2.2 with h2 | ⟨g, cap, cur, rfl, hbase, hg, h3⟩
  · exact .inl h2
  · exact .inr ⟨g, cap, cur, rfl, hbase, hk g cur 3 (by decide) hg, h3⟩
end Go.Proofs.Ytpiomdnkemoanaa
