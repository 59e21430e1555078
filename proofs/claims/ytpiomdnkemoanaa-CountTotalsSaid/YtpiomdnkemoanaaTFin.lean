/- Appends of clauses in a region that draws its order; what Total answers, read. -/
import Derived.Test.YtpiomdnkemoanaaTTotalB
import Derived.Test.YtpiomdnkemoanaaTExt
import Derived.Test.YtpiomdnkemoanaaCap
namespace Go.Proofs.Ytpiomdnkemoanaa.Ttl
open Go.ChangeShapes Go.WideShapes Go.ChangeAt Go.RowKit

theorem step_append_none {P : Program} {ops : Array Oper} {o : Oper} {a : Act} {w : World} {K : Act → World → Prop} {Q : Exit → Act → World → Prop} {E : Prop}
    (hg : o.guard = Option.none) (s x : Operand) (t : TypeId) (hop : o.op = Op.call { callee := Callee.builtin Builtin.append, args := #[s, x], argTypes := #[t, t] })
    (base : Nat) (e : TypeId) (i : TypeInfo) (size : Nat) (h1 : P.underlying t = some (.slice e)) (h2 : P.info? e = some i)
    (v : Value) (k : Nat) (xs : List Value) (hs : a.eval s = v) (hown : w.ownsRow base e size v k xs) (hx : a.eval x = .slice none 0 0) (hK : K (a.put o.dst v) w) :
    if Region.wanted o (yielded ops a.tmps) = true then Oper.wp P o a w K Q else E := by
  have hw : Region.wanted o (yielded ops a.tmps) = true := by simp [Region.wanted, hg]
  rw [if_pos hw]
  have hrun := run_append_owned_none (P := P) (w := w) base t o.type e i size h1 h2 v k xs hown
  unfold Oper.wp
  simp [execOp, hop, resolve, invoke, builtin, hs, hx, hrun, Result.andThen]
  exact hK
theorem RowC.alloc {w : World} {base B : Nat} {v : Value} {cl : List (List Int)} (h : RowC w base B v cl) (hB : B ≤ w.heap.size) (o : Obj) : RowC (w.alloc o) base B v cl := h.below hB ((Below.refl _ w).alloc (Nat.le_refl _) o)
theorem RowC.base {w : World} {base base' B : Nat} {v : Value} {cl : List (List Int)} (h : RowC w base B v cl) (hb : base' ≤ base) : RowC w base' B v cl := by
  obtain ⟨vs, h1, h2, h3⟩ := h
  exact ⟨vs, own_base h1 hb, h2, h3⟩
/-- The clauses that were there, appended to nothing. -/
theorem step_cls {ops : Array Oper} {o : Oper} {a : Act} {w : World} {K : Act → World → Prop} {Q : Exit → Act → World → Prop} {E : Prop} (hgd : o.guard = none) (s x : Operand)
    (ho : o.op = .call { callee := .builtin .append, args := #[s, x], argTypes := #[24, 24] }) (hs : a.eval s = .slice none 0 0)
    (base B : Nat) (A : Option Addr) (m c : Nat) (dl : List (List Int)) (hx : a.eval x = .slice A m c) (hr : RdR B w A dl) (hm : dl.length = m) (hn : A = none → c = 0)
    (hbound : m ≤ 1000000) (hB2 : B ≤ base) (hbase : base ≤ w.heap.size)
    (h : ∀ v' w', RowC w' base B v' dl → Below base w w' → K (a.put o.dst v') w') : if Region.wanted o (yielded ops a.tmps) = true then Oper.wp Try.prog o a w K Q else E := by
  obtain ⟨i0, hi, hz0, hz1, hz2⟩ := info_parts info22
  have hown := World.ownsRow_nil w base 22 1
  cases A with
  | none =>
    have hc := hn rfl
    subst hc
    have h0 : dl = [] := by
      rcases Nat.eq_zero_or_pos dl.length with e | e
      · exact List.eq_nil_of_length_eq_zero e
      · obtain ⟨b, off, e, _⟩ := hr e; cases e
    subst h0
    have hm0 : m = 0 := by rw [← hm]; rfl
    subst hm0
    exact step_append_none hgd s x 24 ho base 22 i0 1 underlying24 hi _ 0 [] hs hown hx (h _ w (RowC.empty _ _ _) (Below.refl _ _))
  | some ad =>
    obtain ⟨news, hnl, hnews⟩ : ∃ news : List Value, news.length = m ∧ ∀ j, j < m → ∃ E c', news[j]? = some (.slice E (dl[j]?.getD []).length c') ∧ w.cell? (ad.add j) = some (.slice E (dl[j]?.getD []).length c') ∧ RdI B w E (dl[j]?.getD []) := by
      refine ⟨(List.range m).map fun j => (w.cell? (ad.add j)).getD undef, by simp, fun j hj => ?_⟩
      obtain ⟨b, off, e, _, hc⟩ := hr (by omega)
      injection e with e
      subst e
      obtain ⟨E, c', h1, h2⟩ := hc j (by omega)
      refine ⟨E, c', ?_, by rw [add_plain]; exact h1, h2⟩
      rw [List.getElem?_map, List.getElem?_range hj, Option.map_some, add_plain, h1]; rfl
    refine step_append_own hgd s x 24 ho base 22 i0 (.slice Option.none 0 0) 1 24 underlying24 hi hz0 hz1 hz2 rfl (by decide) _ 0 [] hs hown ad m c news hx (by rw [hnl, Nat.mul_one]) ?_ ?_ (by unfold maxLen; omega) (by omega) hbase ?_
    · intro j u hj
      have hjm : j < m := by rw [← hnl]; exact (List.getElem?_eq_some_iff.1 hj).1
      obtain ⟨E, c', h1, h2, _⟩ := hnews j hjm
      rw [h1] at hj; injection hj with hj
      rw [← hj]; exact h2
    · intro u hu
      obtain ⟨j, hj, rfl⟩ := List.mem_iff_getElem.1 hu
      obtain ⟨E, c', h1, _, _⟩ := hnews j (by rw [← hnl]; exact hj)
      rw [List.getElem?_eq_getElem hj] at h1; injection h1 with h1
      rw [h1]; rfl
    · intro v' w' hown' hg
      have hlow : Below base w w' := (Below.refl base w).grown hg hbase (fun k hk => (hown.lt k hk).1)
      rw [List.nil_append, Nat.zero_add] at hown'
      refine h v' w' ⟨news, by rw [hnl]; exact hown', by rw [hnl, hm], fun j hj => ?_⟩ hlow
      obtain ⟨E, c', h1, _, h2⟩ := hnews j (by omega)
      exact ⟨E, c', h1, h2.below hlow hB2⟩
/-- One clause of one's own behind them. -/
theorem step_last {ops : Array Oper} {o : Oper} {a : Act} {w : World} {K : Act → World → Prop} {Q : Exit → Act → World → Prop} {E : Prop} (hgd : o.guard = none) (s x : Operand)
    (ho : o.op = .call { callee := .builtin .append, args := #[s, x], argTypes := #[24, 24] }) (base B : Nat) (v u : Value) (dl : List (List Int)) (zs : List Int) (hs : a.eval s = v) (hrow : RowC w base B v dl) (hu : RowI w base u zs) (g : Nat) (hx : a.eval x = .slice (some ⟨g, 0, none⟩) 1 1) (hgc : w.cell? ⟨g, 0, none⟩ = some u)
    (hbound : dl.length ≤ 1000000) (hB2 : B ≤ base) (hbase : base ≤ w.heap.size) (n : Nat) (hn : n = dl.length + 1)
    (h : ∀ A' c' w', RdR w'.heap.size w' A' (dl ++ [zs]) → Below base w w' → K (a.put o.dst (.slice A' n c')) w') : if Region.wanted o (yielded ops a.tmps) = true then Oper.wp Try.prog o a w K Q else E := by
  subst hn
  obtain ⟨i0, hi, hz0, hz1, hz2⟩ := info_parts info22
  obtain ⟨vs, hown, hvl, hread⟩ := hrow
  obtain ⟨Au, cu, eu, _, _, _⟩ := hu.shape
  refine step_append_own hgd s x 24 ho base 22 i0 (.slice Option.none 0 0) 1 24 underlying24 hi hz0 hz1 hz2 rfl (by decide) v vs.length vs hs hown ⟨g, 0, none⟩ 1 1 [u] hx rfl ?_ ?_ (by unfold maxLen; omega) (by omega) hbase ?_
  · intro j y hj
    have hj0 : j = 0 := by
      have := (List.getElem?_eq_some_iff.1 hj).1
      simp at this; omega
    subst hj0
    have hj : some u = some y := hj
    injection hj with hj
    rw [← hj, add_plain]
    exact hgc
  · intro y hy
    rw [List.mem_singleton.1 hy, eu]; rfl
  · intro v' w' hown' hg
    have hlow : Below base w w' := (Below.refl base w).grown hg hbase (fun k hk => (hown.lt k hk).1)
    have hu' : RowI w' base u zs := hu.apart hg (off_own hown (by decide))
    have hsz := hlow.size
    obtain ⟨A', c', e⟩ := own_shape hown'
    subst e
    rw [hvl]
    have hlen : (vs ++ [u]).length = dl.length + 1 := by rw [List.length_append, hvl]; rfl
    refine h A' c' w' (fun hp => ?_) hlow
    rcases hown'.2 with ⟨e2, h0⟩ | ⟨g', cap, cur, e2, _, hg', hn2, hcm, hcs, ht⟩
    · omega
    · injection e2 with e3 e4 e5
      subst e3; subst e5
      refine ⟨g', 0, rfl, (Array.getElem?_eq_some_iff.1 hg').1, fun j hj => ?_⟩
      rw [List.length_append] at hj
      have hj : j < dl.length + 1 := hj
      have hc := World.ownsRow.cellAt hown' j (by omega)
      rw [Nat.zero_add, hc]
      by_cases hjl : j < dl.length
      · obtain ⟨E, c2, h4, h5⟩ := hread j hjl
        have e6 : (dl ++ [zs])[j]? = dl[j]? := List.getElem?_append_left hjl
        rw [e6]
        exact ⟨E, c2, by rw [List.getElem?_append_left (by omega)]; exact h4, (h5.below hlow hB2).more (by omega)⟩
      · have hj1 : j = dl.length := by omega
        have e6 : (dl ++ [zs])[j]? = some zs := by rw [hj1, List.getElem?_append_right (Nat.le_refl _), Nat.sub_self]; rfl
        rw [e6]
        obtain ⟨Eu, cu', eu', _, _, hrd⟩ := hu'.shape
        refine ⟨Eu, cu', ?_, hrd⟩
        rw [hj1, ← hvl, List.getElem?_append_right (Nat.le_refl _), Nat.sub_self]
        show some u = _
        rw [eu']; rfl
/-- What Total answers, read. -/
theorem TotOk.readx {w w' : World} {outs : List Int} {cl : List (List Int)} {after : Nat} {e : Ending} (h : TotOk w outs cl after e w') : ∃ A1 c1 A2 c2, e = .returned (.tuple #[.slice A1 outs.length c1, .slice A2 cl.length c2, .int .i64 (after : Int), .int .i64 0]) ∧ RdI w'.heap.size w' A1 outs ∧ (A2 = none → c2 = 0) ∧ RdR w'.heap.size w' A2 cl ∧ Below w.heap.size w w' ∧ ∀ j, j < cl.length → (cl[j]?.getD []).length ≤ maxLen := by
  obtain ⟨v, u, us, rfl, h1, h2, h3, h4⟩ := h
  obtain ⟨A1, c1, rfl, _, _, r1⟩ := h1.shape
  obtain ⟨A2, c2, rfl⟩ := own_shape h2
  obtain ⟨hl, hr⟩ := h3.rd h2
  refine ⟨A1, c1, A2, c2, by rw [hl], r1, own_none h2, hr, h4, fun j hj => ?_⟩
  obtain ⟨x, _, hrow⟩ := h3.2 j hj
  obtain ⟨_, _, _, q1, q2, _⟩ := hrow.shape
  omega
end Go.Proofs.Ytpiomdnkemoanaa.Ttl
