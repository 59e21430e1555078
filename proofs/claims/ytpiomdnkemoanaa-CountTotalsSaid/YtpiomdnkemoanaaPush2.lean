/- An append to a row: no block but the row's own is turned, and the row stays in its block or goes to a new one. -/
import Derived.Test.YtpiomdnkemoanaaPush
namespace Go.Proofs.Ytpiomdnkemoanaa
open Go.RowKit

theorem push_either {ops : Array Oper} {rest : List Oper} {o : Oper} {a : Act} {Q : Exit → Act → World → Prop} {w : World} (hgd : o.guard = none) (s x : Operand)
    (ho : o.op = .call { callee := .builtin .append, args := #[s, x], argTypes := #[22, 22] }) (base : Nat) (v : Value) (zs : List Int) (hs : a.eval s = v) (hrow : RowI w base v zs) (h0 : 0 < zs.length) (z : Int) (hz : Wf z)
    (hx : a.eval x = .slice (some ⟨w.heap.size, 0, none⟩) 1 1) (hlen : zs.length ≤ 1000000) (hbase : base ≤ w.heap.size)
    (h : ∀ v' w', RowI w' base v' (zs ++ [z]) → Below base w w' → (∀ k, k < w.heap.size → some k ≠ v.ownBlock → w'.heap[k]? = w.heap[k]?) → (v'.ownBlock = v.ownBlock ∨ ∀ k, v'.ownBlock = some k → w.heap.size ≤ k) → wpList Try.prog ops Q rest (a.put o.dst v') w') : wpList Try.prog ops Q (o :: rest) a (w.alloc (.cells #[.int .i64 z] 3)) := by
  obtain ⟨i0, hi, hz0, hz1, hz2⟩ := info_parts info3
  have hown := hrow.2.alloc (.cells #[.int .i64 z] 3)
  have hrd := hrow
  rcases hrow.2.2 with ⟨_, h2⟩ | ⟨g, cap, cur, rfl, hbg, hg, hnc, hcm, hcs, ht⟩
  · omega
  · by_cases hfit : zs.length + 1 ≤ cap
    · refine wpList_append_fits _ hgd s x 22 ho base 3 i0 1 underlying22 hi hz1 g zs.length cap _ hs hown ⟨w.heap.size, 0, none⟩ 1 1 [.int .i64 z] hx rfl (cell_one_new _ _ _) (by simp [Value.oneCell']) hfit ?_
      intro w' hown' hgr
      refine h _ w' (RowI.snoc hz hrow.1 hown') (((Below.refl base w).alloc hbase _).grown hgr (by simp; omega) (fun k hk => by injection hk with hk; omega))
        (fun k hk hne => (hgr.block k (by simp; omega) hne).trans (heap_alloc_old w _ hk)) (.inl rfl)
    · have hcap : cap = zs.length := by omega
      subst hcap
      refine push_new hgd s x ho base (some ⟨g, 0, none⟩) zs.length zs hs hrd rfl h0 z hz hx hlen ?_
      intro v' w' hr hlow
      exact h v' w' (hr.base hbase) (hlow.mono hbase) (fun k hk _ => hlow.block k hk) (.inr fun k hk => (hr.2.lt k hk).1)
/-- A clause is put behind a row of clauses; the row's values are named. -/
theorem push_row_ex {ops : Array Oper} {rest : List Oper} {o : Oper} {a : Act} {Q : Exit → Act → World → Prop} {w : World} (hgd : o.guard = none) (s x : Operand)
    (ho : o.op = .call { callee := .builtin .append, args := #[s, x], argTypes := #[24, 24] }) (base : Nat) (v : Value) (vs : List Value) (cl : List (List Int)) (hs : a.eval s = v) (hown : w.ownsRow base 22 1 v vs.length vs) (hels : Els w base vs cl) (u : Value) (zs : List Int) (hu : RowI w base u zs)
    (hx : a.eval x = .slice (some ⟨w.heap.size, 0, none⟩) 1 1) (hlen : cl.length ≤ 1000000) (hbase : base ≤ w.heap.size)
    (h : ∀ v' w', w'.ownsRow base 22 1 v' (vs ++ [u]).length (vs ++ [u]) → Els w' base (vs ++ [u]) (cl ++ [zs]) → Below base w w' → w.heap.size ≤ w'.heap.size → (∀ (b : Nat) (cs : Array Value) (t : TypeId), t ≠ 22 → w.heap[b]? = some (.cells cs t (0, 0)) → w'.heap[b]? = some (.cells cs t (0, 0))) → wpList Try.prog ops Q rest (a.put o.dst v') w') : wpList Try.prog ops Q (o :: rest) a (w.alloc (.cells #[u] 22)) := by
  obtain ⟨i0, hi, hz0, hz1, hz2⟩ := info_parts info22
  have hvl : vs.length ≤ 1000000 := by rw [hels.1]; exact hlen
  have hown1 := hown.alloc (.cells #[u] 22)
  have hone : u.oneCell' = true := (Els.one' hu).one u (by simp)
  refine wpList_append_own _ hgd s x 24 ho base 22 i0 (.slice Option.none 0 0) 1 24 underlying24 hi hz0 hz1 hz2 rfl (by decide) v vs.length _ hs hown1 ⟨w.heap.size, 0, none⟩ 1 1 [u] hx rfl (cell_one_new _ _ _) (by intro q hq; rw [List.mem_singleton.1 hq]; exact hone) (by unfold maxLen; omega) (by omega) (by simp; omega) ?_
  intro v' w' hown' hg _
  have hel : Els w' base (vs ++ [u]) (cl ++ [zs]) := ((hels.append (Els.one' hu)).alloc _).apart hg (off_own hown1 (by decide))
  have hkeep : ∀ (b : Nat) (cs : Array Value) (t : TypeId), t ≠ 22 → w.heap[b]? = some (.cells cs t (0, 0)) → w'.heap[b]? = some (.cells cs t (0, 0)) := fun b cs t ht hb => by
    have hlt := (Array.getElem?_eq_some_iff.1 hb).1
    have h2 : (w.alloc (.cells #[u] 22)).heap[b]? = some (.cells cs t (0, 0)) := (heap_alloc_old w _ hlt).trans hb
    refine (hg.block b (by simp; omega) ?_).trans h2
    intro q
    exact off_own (t := t) hown1 (Ne.symm ht) b q.symm cs h2
  have hlow := ((Below.refl base w).alloc hbase (.cells #[u] 22)).grown hg (by simp; omega) (fun k hk => (hown1.lt k hk).1)
  exact h v' w' (by rw [List.length_append]; exact hown') hel hlow hlow.size hkeep
/-- A row of clauses and a block that is none of theirs. -/
theorem cls_same {w w' : World} {base kb : Nat} {v : Value} {vs : List Value} {cl : List (List Int)} {cs : Array Value} (h1 : w.ownsRow base 22 1 v vs.length vs) (h2 : Els w base vs cl) (hb : w.heap[kb]? = some (.cells cs 3 (0, 0))) (hne : ∀ a ∈ vs, a.ownBlock ≠ some kb)
    (hs : ∀ k, k < w.heap.size → k ≠ kb → w'.heap[k]? = w.heap[k]?) : w'.ownsRow base 22 1 v vs.length vs ∧ Els w' base vs cl := by
  refine ⟨⟨h1.1, ?_⟩, h2.1, fun j hj => ?_⟩
  · rcases h1.2 with q | ⟨g, cap, cur, rfl, hbase, hg, h3⟩
    · exact .inl q
    · refine .inr ⟨g, cap, cur, rfl, hbase, (hs g (Array.getElem?_eq_some_iff.1 hg).1 ?_).trans hg, h3⟩
      rintro rfl
      rw [hb] at hg
      injection hg with hg; injection hg with _ hg
      exact absurd hg (by decide)
  · obtain ⟨u, hu, hr⟩ := h2.2 j hj
    exact ⟨u, hu, hr.same fun k hk => hs k (hr.2.lt k hk).2 fun e => hne u (List.mem_of_getElem? hu) (by rw [← e]; exact hk)⟩
theorem RowI.block {w : World} {base : Nat} {v : Value} {zs : List Int} (h : RowI w base v zs) (h0 : 0 < zs.length) : ∃ k cs, v.ownBlock = some k ∧ base ≤ k ∧ k < w.heap.size ∧ w.heap[k]? = some (.cells cs 3 (0, 0)) := by
  rcases h.2.2 with ⟨_, q⟩ | ⟨g, cap, cur, rfl, hbase, hg, _⟩
  · omega
  · exact ⟨g, cur, rfl, hbase, (Array.getElem?_eq_some_iff.1 hg).1, hg⟩
end Go.Proofs.Ytpiomdnkemoanaa
