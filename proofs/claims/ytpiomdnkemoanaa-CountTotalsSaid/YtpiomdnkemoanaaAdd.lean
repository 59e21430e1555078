/- The list of clauses that grows: add puts the literals other than 0 behind it as one clause. -/
import Derived.Test.YtpiomdnkemoanaaMem
namespace Go.Proofs.Ytpiomdnkemoanaa
open Go.RowKit

theorem RowI.rd {w : World} {base n c : Nat} {A : Option Addr} {zs : List Int} (h : RowI w base (.slice A n c) zs) : RdI w.heap.size w A zs := by
  obtain ⟨A', c', e, _, _, hr⟩ := h.shape
  injection e with e1 _ _
  rw [e1]; exact hr
theorem wpList_push {ops : Array Oper} {rest : List Oper} {o : Oper} {a : Act} {Q : Exit → Act → World → Prop} {w : World} (hgd : o.guard = none) (s x : Operand)
    (ho : o.op = .call { callee := .builtin .append, args := #[s, x], argTypes := #[22, 22] }) (base : Nat) (v : Value) (zs : List Int) (hs : a.eval s = v) (hrow : RowI w base v zs) (z : Int) (hz : Wf z)
    (hx : a.eval x = .slice (some ⟨w.heap.size, 0, none⟩) 1 1) (hlen : zs.length ≤ 1000000) (hbase : base ≤ w.heap.size)
    (h : ∀ v' w', RowI w' base v' (zs ++ [z]) → Below base w w' → wpList Try.prog ops Q rest (a.put o.dst v') w') : wpList Try.prog ops Q (o :: rest) a (w.alloc (.cells #[.int .i64 z] 3)) := by
  obtain ⟨i0, hi, hz0, hz1, hz2⟩ := info_parts info3
  have hown := hrow.2.alloc (.cells #[.int .i64 z] 3)
  refine wpList_append_own _ hgd s x 22 ho base 3 i0 (.int .i64 0) 1 8 underlying22 hi hz0 hz1 hz2 rfl (by decide) v zs.length _ hs hown ⟨w.heap.size, 0, none⟩ 1 1 [.int .i64 z] hx rfl (cell_one_new _ _ _) (by simp [Value.oneCell']) (by unfold maxLen; omega) (by omega) (by simp; omega) ?_
  intro v' w' hown' hg _
  exact h v' w' (RowI.snoc hz hrow.1 hown') (((Below.refl base w).alloc hbase _).grown hg (by simp; omega) (fun k hk => (hown.lt k hk).1))

/-- A row of clauses of the call's own. -/
def Cls (w : World) (base : Nat) (v : Value) (cl : List (List Int)) : Prop := ∃ vs : List Value, w.ownsRow base 22 1 v vs.length vs ∧ Els w base vs cl
theorem Cls.nil (w : World) (base : Nat) : Cls w base (.slice Option.none 0 0) [] := ⟨[], World.ownsRow_nil _ _ _ _, Els.nil _ _⟩
theorem Cls.below {w w' : World} {base : Nat} {v : Value} {cl : List (List Int)} (h : Cls w base v cl) (hb : Below w.heap.size w w') : Cls w' base v cl := by
  obtain ⟨vs, h1, h2⟩ := h
  exact ⟨vs, own_below h1 hb, h2.below hb⟩
theorem Cls.res {w : World} {base : Nat} {v : Value} {cl : List (List Int)} (h : Cls w base v cl) : ∃ A c, v = .slice A cl.length c ∧ RdR w.heap.size w A cl ∧ ∀ j, j < cl.length → (cl[j]?.getD []).length ≤ maxLen := by
  obtain ⟨vs, h1, h2⟩ := h
  obtain ⟨A, c, rfl⟩ := own_shape h1
  obtain ⟨_, hr⟩ := h2.rd h1
  refine ⟨A, c, by rw [h2.1], hr, fun j hj => ?_⟩
  obtain ⟨x, _, hrow⟩ := h2.2 j hj
  obtain ⟨_, _, _, q1, q2, _⟩ := hrow.shape
  omega
theorem Cls.sl {w : World} {base : Nat} {v : Value} {cl : List (List Int)} (h : Cls w base v cl) : ∃ A L c, v = .slice A L c := by
  obtain ⟨A, c, e, _⟩ := h.res
  exact ⟨A, _, c, e⟩
theorem Cls.stored {w : World} {base g j : Nat} {t : TypeId} {cs : Array Value} {v u : Value} {cl : List (List Int)} (h : Cls w base v cl) (hg : w.heap[g]? = some (.cells cs t (0, 0))) (h1 : t ≠ 3) (h2 : t ≠ 22) : Cls (w.setCell ⟨g, j, none⟩ u) base v cl := by
  obtain ⟨vs, q1, q2⟩ := h
  have hgr : w.grownBy (w.setCell ⟨g, j, none⟩ u) (some g) := ⟨rfl, rfl, rfl, by simp [World.setCell], fun k _ hk => heap_setCell_other w ⟨g, j, none⟩ k u (fun e => hk (by simp [e]))⟩
  have ho : ∀ t', t' ≠ t → Off t' w (some g) := fun t' ht r hr cs' h2 => by
    injection hr with hr; subst hr
    rw [hg] at h2; injection h2 with h2; injection h2 with _ h3
    exact ht h3.symm
  refine ⟨vs, q1.kept hgr ?_, q2.apart hgr (ho 3 (Ne.symm h1))⟩
  rcases q1.2 with ⟨rfl, _⟩ | ⟨k, cap, cur, rfl, _, hk, _⟩
  · exact .inl rfl
  · exact .inr fun e => ho 22 (Ne.symm h2) k (by simpa [Value.ownBlock] using e.symm) cur hk
/-- All blocks but one keep what they hold, rows of slices aside; all below s is as it was. -/
structure Kx (g s : Nat) (w w' : World) : Prop where
  low : Below s w w'
  keep : ∀ b cs t, t ≠ 22 → b ≠ g → w.heap[b]? = some (.cells cs t (0, 0)) → w'.heap[b]? = some (.cells cs t (0, 0))
theorem Kx.refl (g s : Nat) (w : World) : Kx g s w w := ⟨Below.refl _ _, fun _ _ _ _ _ h => h⟩
theorem Kx.trans {g s : Nat} {w w' w'' : World} (h : Kx g s w w') (k : Kx g s w' w'') : Kx g s w w'' := ⟨h.low.trans k.low, fun b cs t h1 h2 h3 => k.keep b cs t h1 h2 (h.keep b cs t h1 h2 h3)⟩
theorem Kx.below {g s : Nat} {w w' : World} (h : Below w.heap.size w w') (hs : s ≤ w.heap.size) : Kx g s w w' := ⟨h.mono hs, fun b _ _ _ _ h3 => (h.block b (Array.getElem?_eq_some_iff.1 h3).1).trans h3⟩
theorem Kx.store {g s j : Nat} {w w' : World} (h : Kx g s w w') (hs : s ≤ g) (u : Value) : Kx g s w (w'.setCell ⟨g, j, none⟩ u) :=
  ⟨h.low.setCell (p := ⟨g, j, none⟩) hs _, fun b _ _ h1 h2 h3 => (heap_setCell_other w' ⟨g, j, none⟩ b u h2).trans (h.keep b _ _ h1 h2 h3)⟩
theorem Kx.mono {g s s' : Nat} {w w' : World} (h : Kx g s' w w') (hs : s ≤ s') : Kx g s w w' := ⟨h.low.mono hs, h.keep⟩
theorem Cls.lower {w : World} {base g : Nat} {v u : Value} {cl : List (List Int)} (h : Cls w base v cl) (hg : g < base) : Cls (w.setCell ⟨g, 0, none⟩ u) base v cl := by
  obtain ⟨vs, q1, q2⟩ := h
  exact ⟨vs, q1.kept (grownBy_setCell' w g u) (.inr fun e => by have := (q1.lt _ e).1; omega), q2.stored hg⟩
theorem Kx.drewN {g s : Nat} {w w' : World} (h : Kx g s w w') (n : Nat) : Kx g s w (w'.drewN n) := ⟨below_drewN h.low n, h.keep⟩
theorem push_row {ops : Array Oper} {rest : List Oper} {o : Oper} {a : Act} {Q : Exit → Act → World → Prop} {w : World} (hgd : o.guard = none) (s x : Operand)
    (ho : o.op = .call { callee := .builtin .append, args := #[s, x], argTypes := #[24, 24] }) (g base : Nat) (v : Value) (cl : List (List Int)) (hs : a.eval s = v) (hst : Cls w base v cl) (u : Value) (zs : List Int) (hu : RowI w base u zs)
    (hx : a.eval x = .slice (some ⟨w.heap.size, 0, none⟩) 1 1) (hlen : cl.length ≤ 1000000) (hbase : base ≤ w.heap.size)
    (h : ∀ v' w', Cls w' base v' (cl ++ [zs]) → Kx g base w w' → (∀ (b : Nat) (cs : Array Value) (t : TypeId), t ≠ 22 → w.heap[b]? = some (.cells cs t (0, 0)) → w'.heap[b]? = some (.cells cs t (0, 0))) → wpList Try.prog ops Q rest (a.put o.dst v') w') : wpList Try.prog ops Q (o :: rest) a (w.alloc (.cells #[u] 22)) := by
  obtain ⟨i0, hi, hz0, hz1, hz2⟩ := info_parts info22
  obtain ⟨vs, hown, hels⟩ := hst
  have hvl : vs.length ≤ 1000000 := by rw [hels.1]; exact hlen
  have hown1 := hown.alloc (.cells #[u] 22)
  have hone : u.oneCell' = true := (Els.one' hu).one u (by simp)
  refine wpList_append_own _ hgd s x 24 ho base 22 i0 (.slice Option.none 0 0) 1 24 underlying24 hi hz0 hz1 hz2 rfl (by decide) v vs.length _ hs hown1 ⟨w.heap.size, 0, none⟩ 1 1 [u] hx rfl (cell_one_new _ _ _) (by intro q hq; rw [List.mem_singleton.1 hq]; exact hone) (by unfold maxLen; omega) (by omega) (by simp; omega) ?_
  intro v' w' hown' hg _
  have hel : Els w' base (vs ++ [u]) (cl ++ [zs]) := ((hels.append (Els.one' hu)).alloc _).apart hg (off_own hown1 (by decide))
  have hkeep : ∀ (b : Nat) (cs : Array Value) (t : TypeId), t ≠ 22 → w.heap[b]? = some (.cells cs t (0, 0)) → w'.heap[b]? = some (.cells cs t (0, 0)) := fun b cs t ht hb => by
    have hlt := (Array.getElem?_eq_some_iff.1 hb).1
    have h2 : (w.alloc (.cells #[u] 22)).heap[b]? = some (.cells cs t (0, 0)) := (heap_alloc_old w _ hlt).trans hb
    refine (hg.block b (by simp; omega) ?_).trans h2
    intro q
    exact off_own (t := t) hown1 (Ne.symm ht) b q.symm cs h2
  exact h v' w' ⟨vs ++ [u], by rw [List.length_append]; exact hown', hel⟩ ⟨((Below.refl base w).alloc hbase _).grown hg (by simp; omega) (fun k hk => (hown1.lt k hk).1), fun b cs t h1 _ h3 => hkeep b cs t h1 h3⟩ hkeep

def nz (l : List Int) : List Int := l.filter (· ≠ 0)
theorem nz_take (l : List Int) (j : Nat) (h : j < l.length) : nz (l.take (j + 1)) = nz (l.take j) ++ (if l[j]?.getD 0 = 0 then [] else [l[j]?.getD 0]) := by
  unfold nz
  rw [List.take_add_one, List.getElem?_eq_getElem h, Option.toList_some, List.filter_append, Option.getD_some]
  congr 1
  by_cases q : l[j] = 0
  · rw [if_pos q, List.filter_cons_of_neg (by simp [q])]; rfl
  · rw [if_neg q, List.filter_cons_of_pos (by simp [q])]; rfl
/-- The state of a counter: a cell with its clauses. -/
def CS (w : World) (g base : Nat) (cl : List (List Int)) : Prop := ∃ v, Boxed w g 61 v ∧ Cls w base v cl

set_option maxRecDepth 30000 in
set_option maxHeartbeats 4000000 in
theorem add_any (w : World) (g base s : Nat) (cl : List (List Int)) (A : Option Addr) (n c : Nat) (lits : List Int) (hc : CS w g base cl) (hbase : base ≤ w.heap.size) (hsb : s ≤ base) (hg : s ≤ g) (hr : RdI w.heap.size w A lits) (hl : lits.length = n) (hn : n ≤ 100) (hcl : cl.length ≤ 900000) :
    Calls Try.prog 41 #[.pointer (some ⟨g, 0, none⟩), .slice A n c] w fun e w' => e = .returned (.tuple #[]) ∧ CS w' g base (cl ++ [nz lits]) ∧ Kx g s w w' := by
  obtain ⟨v, hb, hst⟩ := hc
  obtain ⟨A0, L0, c0, rfl⟩ := hst.sl
  have Hl := Lib.hid hl
  have hglt := Boxed.lt hb
  clear hl
  go_enter Try.func41, Try.ntmps41
  go_wp2_with fail
  go_loopw [4, 9] (fun u i wr => ∃ j : Nat, j ≤ n ∧ i = .int .i64 j ∧ RowI wr w.heap.size u (nz (lits.take j)) ∧ Below w.heap.size w wr) (fun _ i _ => n - (intOf i).toNat)
  case atStart => exact ⟨0, by omega, rfl, RowI.empty _ _, Below.refl _ _⟩
  case round =>
    obtain ⟨j, hj, rfl, hrow, hlow⟩ := hrel
    by_cases hlt : j < n
    · have hjo : j < lits.length := by rw [Hl.out]; exact hlt
      have hwf := hr.wf hjo
      obtain ⟨b, off, rfl, _, hcc⟩ := (hr.below hlow (Nat.le_refl _)).2 (by omega)
      have hc1 := hcc j hjo
      have htk := nz_take lits j hjo
      have hfl : (nz (lits.take j)).length ≤ 1000000 := by
        have := List.length_filter_le (fun x : Int => decide (x ≠ 0)) (lits.take j)
        rw [List.length_take] at this
        unfold nz
        omega
      have hszr := hlow.size
      have HR := Lib.hid hr
      clear hcc hjo hr
      generalize lits[j]?.getD 0 = x at *
      by_cases h0 : x = 0
      · rw [if_pos h0, List.append_nil] at htk
        have Htk := Lib.hid htk
        subst h0
        clear htk
        go_wp2_with fail
        go_roundw
        case rel => exact ⟨j + 1, by omega, by go_num, by rw [Htk.out]; exact hrow, hlow⟩
        case measure => simp [intOf]; omega
      · rw [if_neg h0] at htk
        have Htk := Lib.hid htk
        have d0 : (x != 0) = true := by simpa using h0
        clear htk
        generalize nz (lits.take j) = ys at *
        go_wp2_with (at_builtin; refine wpList_push rfl _ _ rfl w.heap.size _ _ rfl hrow x hwf rfl hfl hszr ?_)
        intro v' w' hrow' hb'
        have hbn := hlow.trans hb'
        go_wp2_with fail
        go_roundw
        case rel => exact ⟨j + 1, by omega, by go_num, by rw [Htk.out]; exact hrow', hbn⟩
        case measure => simp [intOf]; omega
    · obtain rfl : j = n := by omega
      have hend : nz (lits.take j) = nz lits := by rw [← Hl.out, List.take_length]
      rw [hend] at hrow
      obtain ⟨ys, hys⟩ : ∃ y, nz lits = y := ⟨_, rfl⟩
      rw [hys] at hrow
      have Hys := Lib.hid hys
      have hbr := Boxed.lower hb hlow hglt
      have hcell := hbr.cell
      have hst2 := hst.below hlow
      have hszr := hlow.size
      obtain ⟨Au, cu, hAu, _, _, _⟩ := hrow.shape
      obtain ⟨Ln, hLn⟩ : ∃ L, ys.length = L := ⟨_, rfl⟩
      rw [hLn] at hAu
      subst hAu
      have hu := hrow.base hbase
      clear hrow hend hLn hys
      go_wp2_with (at_builtin; refine push_row rfl _ _ rfl g base _ cl rfl hst2 _ _ hu rfl (by omega) (by omega) ?_)
      intro v' w' S5 K5 hkeep
      obtain ⟨B5, L5, k5, rfl⟩ := S5.sl
      have hb5 : Boxed w' g 61 (.slice A0 L0 c0) := hkeep g _ 61 (by decide) hbr
      have hc5 := hb5.cell
      have hf5 := hb5.frozen
      have Hfin := Lib.hid (And.intro (And.intro (hb5.set (.slice B5 L5 k5)) (S5.stored (j := 0) (u := .slice B5 L5 k5) hb5 (by decide) (by decide))) ((((Kx.below hlow hbase).trans K5).mono hsb).store (j := 0) hg (.slice B5 L5 k5)))
      go_wp2_with fail
      refine bodyPost_end (results_none rfl _ _ _) rfl ⟨rfl, ?_, Hfin.out.2⟩
      rw [Hys.out]
      exact ⟨_, Hfin.out.1⟩
end Go.Proofs.Ytpiomdnkemoanaa
