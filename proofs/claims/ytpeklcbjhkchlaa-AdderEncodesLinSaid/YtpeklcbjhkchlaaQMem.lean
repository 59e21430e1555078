/- The queues of the summer: a map from positions to slices of the call's own that may begin behind their block's first cell. -/
import Derived.Test.YtpeklcbjhkchlaaRowb
import Derived.Maps.Own
import Derived.Maps.OwnOps
import Derived.Maps.Views
import Derived.Maps.Ext
import Derived.Carry
import Derived.Deep.RegionLawGrows
import Derived.Laws.IdiomCopy
namespace Go.Proofs.Ytpeklcbjhkchlaa
open Go.RowKit Go.Maps
set_option maxRecDepth 20000

theorem underlying56 : Try.prog.underlying 56 = some (.map 3 22) := by kernel_rfl
theorem law3 : Keyed Try.prog 3 := int_keyed underlying3'
theorem zero22 (w : World) : (zeroValue 22).run Try.prog w = .ok (.slice Option.none 0 0) w := by kernel_rfl
theorem wf_lit {x : Int} (h : Wf x) : (Lit.int .i64 x).wf = true := by
  have := h.1; have := h.2
  simp [Lit.wf, IntKind.min, IntKind.max, IntKind.signed, IntKind.bits]; omega
theorem wf_nat {p : Nat} (h : p ≤ 1000000) : Wf (p : Int) := ⟨by omega, by omega⟩

def RV (v : Value) : Option (DataW Value × List MemPlace) := some (.held v, [])
/-- The map at b answers these values. -/
def QM (w : World) (b n : Nat) (val : Nat → Value) : Prop :=
  ∃ D : DataW Value, w.ownsMap Try.prog 3 RV b n D ∧ IsMap D ∧ ∀ p : Nat, p ≤ 1000000 → D.atKey (.int .i64 (p : Int)) (.held (.slice Option.none 0 0)) = .held (val p)
theorem QM.look {w : World} {b n : Nat} {val : Nat → Value} (h : QM w b n val) {p : Nat} (hp : p ≤ 1000000) : (Instr.lookup 56 (.map (some b)) (.int .i64 (p : Int)) false).run Try.prog w = .ok (val p) w := by
  obtain ⟨D, hown, _, hat⟩ := h
  obtain ⟨v, ps, hrun, hv⟩ := hown.lookup law3 underlying56 (zero22 _) (zd := .held (.slice Option.none 0 0)) (zp := []) rfl (keyOf_int_mk underlying3' (wf_lit (wf_nat hp)))
  rw [hat p hp] at hv
  unfold RV at hv
  injection hv with hv
  injection hv with hv _
  injection hv with hv
  rw [hrun, hv]
theorem QM.made (w : World) : QM (w.alloc (.map #[] 0)) w.heap.size 0 (fun _ => .slice Option.none 0 0) :=
  ⟨.map [], World.ownsMap_made _ _ _ _, ⟨[], rfl⟩, fun p _ => by simp [DataW.atKey]⟩
def updV (val : Nat → Value) (p : Nat) (v : Value) : Nat → Value := fun q => if q = p then v else val q
theorem QM.put {w : World} {b n : Nat} {val : Nat → Value} (h : QM w b n val) (hn : n ≤ 1000000) {p : Nat} (hp : p ≤ 1000000) (v : Value) : ∃ w', (Instr.mapUpdate 56 (.map (some b)) (.int .i64 (p : Int)) v).run Try.prog w = .ok () w' ∧ QM w' b (n + 1) (updV val p v) ∧ w.grownBy w' (some b) := by
  obtain ⟨D, hown, hm, hat⟩ := h
  obtain ⟨w', h1, h2, h3⟩ := hown.update law3 underlying56 (by unfold maxLen; omega) (keyOf_int_mk underlying3' (wf_lit (wf_nat hp))) (val := v) (d := .held v) (ps := []) rfl
  refine ⟨w', h1, ⟨_, h2, hm.put _ _, fun q hq => ?_⟩, h3⟩
  unfold updV
  by_cases e : q = p
  · subst e
    rw [if_pos rfl]
    exact atKey_put_same hm (by unfold WideAt.IsKeyLit; exact trivial) _ _
  · rw [if_neg e, atKey_put_other (by intro q2; injection q2 with _ q2; omega)]
    exact hat q hq
theorem QM.kept {w w' : World} {b n : Nat} {val : Nat → Value} {row : Option Nat} (h : QM w b n val) (hg : w.grownBy w' row) (hne : some b ≠ row) : QM w' b n val := by
  obtain ⟨D, h1, h2, h3⟩ := h
  exact ⟨D, h1.kept hg hne, h2, h3⟩
theorem QM.same {w w' : World} {b n : Nat} {val : Nat → Value} (h : QM w b n val) (hb : w'.heap[b]? = w.heap[b]?) : QM w' b n val := by
  obtain ⟨D, ⟨es, clock, h1, h4⟩, h2, h3⟩ := h
  exact ⟨D, ⟨es, clock, hb.trans h1, h4⟩, h2, h3⟩
theorem QM.lt {w : World} {b n : Nat} {val : Nat → Value} (h : QM w b n val) : b < w.heap.size := by
  obtain ⟨D, h1, _⟩ := h
  exact h1.lt

/-- A slice of integers in a block of the call's own. -/
def QI (w : World) (base : Nat) (v : Value) (zs : List Int) : Prop :=
  (∀ z ∈ zs, Wf z) ∧ ((v = .slice Option.none 0 0 ∧ zs = []) ∨ ∃ (g o c : Nat) (cs : Array Value), v = .slice (some ⟨g, o, none⟩) zs.length c ∧ base ≤ g ∧ w.heap[g]? = some (.cells cs 3 (0, 0)) ∧ zs.length ≤ c ∧ c ≤ maxLen ∧ o + c ≤ cs.size ∧ ∀ j, j < zs.length → cs[o + j]? = some (.int .i64 (zs[j]?.getD 0)))
theorem QI.nil (w : World) (base : Nat) : QI w base (.slice Option.none 0 0) [] := ⟨by simp, .inl ⟨rfl, rfl⟩⟩
theorem QI.same {w w' : World} {base : Nat} {v : Value} {zs : List Int} (h : QI w base v zs) (hb : ∀ k, v.ownBlock = some k → w'.heap[k]? = w.heap[k]?) : QI w' base v zs := by
  refine ⟨h.1, ?_⟩
  rcases h.2 with h2 | ⟨g, o, c, cs, rfl, hbase, hg, h3⟩
  · exact .inl h2
  · exact .inr ⟨g, o, c, cs, rfl, hbase, (hb g rfl).trans hg, h3⟩
theorem QI.lt {w : World} {base : Nat} {v : Value} {zs : List Int} (h : QI w base v zs) {k : Nat} (hk : v.ownBlock = some k) : base ≤ k ∧ k < w.heap.size := by
  rcases h.2 with ⟨rfl, _⟩ | ⟨g, o, c, cs, rfl, hbase, hg, _⟩
  · cases hk
  · injection hk with hk
    subst hk
    exact ⟨hbase, (Array.getElem?_eq_some_iff.1 hg).1⟩
theorem QI.block {w : World} {base : Nat} {v : Value} {zs : List Int} (h : QI w base v zs) {k : Nat} (hk : v.ownBlock = some k) : ∃ cs, w.heap[k]? = some (.cells cs 3 (0, 0)) := by
  rcases h.2 with ⟨rfl, _⟩ | ⟨g, o, c, cs, rfl, hbase, hg, _⟩
  · cases hk
  · injection hk with hk
    subst hk
    exact ⟨cs, hg⟩
theorem QI.shape {w : World} {base : Nat} {v : Value} {zs : List Int} (h : QI w base v zs) : ∃ A c, v = .slice A zs.length c ∧ zs.length ≤ c ∧ RdI w.heap.size w A zs := by
  obtain ⟨h1, ⟨rfl, rfl⟩ | ⟨g, o, c, cs, rfl, hbase, hg, h3, _, _, h4⟩⟩ := h
  · exact ⟨none, 0, rfl, by simp, RdI.nil _ _ _⟩
  · refine ⟨_, c, rfl, h3, h1, fun _ => ⟨g, o, rfl, (Array.getElem?_eq_some_iff.1 hg).1, fun j hj => ?_⟩⟩
    rw [cell_of_row w g (o + j) cs 3 (0, 0) hg]
    exact h4 j hj
/-- The rest of a slice that is cut. -/
theorem QI.cut {w : World} {base : Nat} {A : Option Addr} {n c : Nat} {zs : List Int} (h : QI w base (.slice A n c) zs) (k : Nat) (hk : k ≤ zs.length) : QI w base (.slice (cutA c k A) (n - k) (c - k)) (zs.drop k) ∧ n = zs.length := by
  obtain ⟨h1, ⟨e, rfl⟩ | ⟨g, o, c', cs, e, hbase, hg, h3, h3', h3'', h4⟩⟩ := h
  · injection e with e1 e2 e3
    subst e1; subst e2; subst e3
    refine ⟨⟨by simp, .inl ⟨?_, by simp⟩⟩, rfl⟩
    unfold cutA
    split <;> simp
  · injection e with e1 e2 e3
    subst e1; subst e2; subst e3
    refine ⟨⟨fun z hz => h1 z (List.mem_of_mem_drop hz), .inr ?_⟩, rfl⟩
    unfold cutA
    by_cases q : c = k
    · rw [if_pos q]
      refine ⟨g, o, c - k, cs, by rw [List.length_drop], hbase, hg, by rw [List.length_drop]; omega, by omega, by omega, fun j hj => ?_⟩
      rw [List.length_drop] at hj; omega
    · rw [if_neg q]
      refine ⟨g, o + k, c - k, cs, by rw [List.length_drop, Option.map_some, add_plain], hbase, hg, by rw [List.length_drop]; omega, by omega, by omega, fun j hj => ?_⟩
      rw [List.length_drop] at hj
      rw [Nat.add_assoc, h4 (k + j) (by omega), List.getElem?_drop]
theorem ownBlock_cut (A : Option Addr) (n c k m d : Nat) : (Value.slice (cutA c k A) m d).ownBlock = (Value.slice A n c).ownBlock := by
  unfold cutA
  split
  · cases A <;> rfl
  · cases A with
    | none => rfl
    | some a => obtain ⟨b, o, s⟩ := a; show some (Addr.add _ _).block = some b; unfold Addr.add; split <;> rfl
/-- An append of one integer to such a slice. -/
theorem step_push {ops : Array Oper} {o : Oper} {a : Act} {w : World} {K : Act → World → Prop} {Q : Exit → Act → World → Prop} {E : Prop} (hgd : o.guard = none) (s x : Operand)
    (ho : o.op = .call { callee := .builtin .append, args := #[s, x], argTypes := #[22, 22] }) (base : Nat) (v : Value) (zs : List Int) (hs : a.eval s = v) (hq : QI w base v zs) (z : Int) (hz : Wf z) (gx : Nat)
    (hx : a.eval x = .slice (some ⟨gx, 0, none⟩) 1 1) (hcell : w.cell? ⟨gx, 0, none⟩ = some (.int .i64 z)) (hlen : zs.length ≤ 1000000) (hbase : base ≤ w.heap.size)
    (h : ∀ v' w', QI w' base v' (zs ++ [z]) → w.grownBy w' v.ownBlock → (v'.ownBlock = v.ownBlock ∨ ∀ k, v'.ownBlock = some k → w.heap.size ≤ k) → K (a.put o.dst v') w') : if Region.wanted o (yielded ops a.tmps) = true then Oper.wp Try.prog o a w K Q else E := by
  obtain ⟨i0, hi, hz0, hz1, hz2⟩ := info_parts info3
  have hnew : ∀ j u, ([.int .i64 z] : List Value)[j]? = some u → w.cell? ((⟨gx, 0, none⟩ : Addr).add j) = some u := by
    intro j u hj
    have hj0 : j = 0 := by
      have := (List.getElem?_eq_some_iff.1 hj).1
      simp at this; omega
    subst hj0
    have hj : some (Value.int .i64 z) = some u := hj
    rw [add_plain, ← hj]; exact hcell
  have hone : ∀ u ∈ ([.int .i64 z] : List Value), u.oneCell' = true := by intro u hu; rw [List.mem_singleton.1 hu]; rfl
  have hsnoc : ∀ y ∈ zs ++ [z], Wf y := by
    intro y hy
    rcases List.mem_append.1 hy with hy | hy
    · exact hq.1 y hy
    · rw [List.mem_singleton.1 hy]; exact hz
  have hgrow : ∀ v' w', w'.ownsRow w.heap.size 3 1 v' (zs.length + 1) (zs.map (Value.int .i64) ++ [.int .i64 z]) → QI w' base v' (zs ++ [z]) ∧ ∀ k, v'.ownBlock = some k → w.heap.size ≤ k := by
    intro v' w' hown
    have hrow : RowI w' w.heap.size v' (zs ++ [z]) := RowI.snoc hz hq.1 hown
    refine ⟨⟨hsnoc, ?_⟩, fun k hk => (hown.lt k hk).1⟩
    rcases hrow.2.2 with ⟨_, e⟩ | ⟨g, cap, cur, rfl, hb, hg, hn, hcm, hcs, ht⟩
    · simp at e
    · refine .inr ⟨g, 0, cap, cur, rfl, by omega, hg, hn, hcm, by omega, fun j hj => ?_⟩
      have hc := World.ownsRow.cellAt (w := w') (base := w.heap.size) (e := 3) (size := 1) (g := g) (n := (zs ++ [z]).length) (cap := cap) (xs := (zs ++ [z]).map (Value.int .i64)) hrow.2 j (by omega)
      rw [cell_of_row w' g j cur 3 (0, 0) hg] at hc
      rw [Nat.zero_add, hc, intsAt _ j hj]
  obtain ⟨hwf, ⟨rfl, rfl⟩ | ⟨g, of, c, cs, rfl, hbg, hg, hnc, hcm, hoc, hcell4⟩⟩ := hq
  · refine step_append_grows hgd s x 22 ho 3 i0 (.int .i64 0) 1 8 underlying22 hi hz0 hz1 hz2 rfl (by decide) none 0 0 [] hs (fun _ => ⟨rfl, rfl⟩) rfl (fun b e => by cases e) ⟨gx, 0, none⟩ 1 1 [.int .i64 z] hx rfl hnew hone (by omega) (by unfold maxLen; omega) (by omega) ?_
    intro v' w' hown hgr
    obtain ⟨h1, h2⟩ := hgrow v' w' (by simpa using hown)
    exact h v' w' h1 hgr (.inr h2)
  · by_cases hfit : zs.length + 1 ≤ c
    · refine step_append_room hgd s x 22 ho 3 i0 1 underlying22 hi hz1 g of zs.length c hs ⟨gx, 0, none⟩ 1 1 [.int .i64 z] hx rfl hnew hone hfit ?_ ?_
      · intro j hj
        have hj0 : j = 0 := by simp at hj; omega
        subst hj0
        refine ⟨?_, frozen_of_row w g _ cs 3 hg⟩
        rw [cell_of_row w g _ cs 3 (0, 0) hg]
        simp only [Nat.mul_one, Nat.add_zero]
        rw [Array.getElem?_eq_getElem (by omega)]; rfl
      · have hst : (w.setCells g (of + zs.length * 1) [.int .i64 z]) = w.setCell ⟨g, of + zs.length, none⟩ (.int .i64 z) := by rw [Nat.mul_one]; rfl
        rw [hst]
        have hsame := heap_setCell_same w g (of + zs.length) cs 3 (.int .i64 z) hg
        refine h _ _ ⟨hsnoc, .inr ⟨g, of, c, _, by rw [List.length_append]; rfl, hbg, hsame, by rw [List.length_append]; exact hfit, hcm, by simpa using hoc, fun j hj => ?_⟩⟩ ⟨rfl, rfl, rfl, by simp [World.setCell], fun k _ hk => heap_setCell_other w ⟨g, of + zs.length, none⟩ k _ (fun e => hk (by simp [Value.ownBlock, e]))⟩ (.inl rfl)
        rw [List.length_append] at hj
        have hj : j < zs.length + 1 := hj
        by_cases e : j = zs.length
        · subst e
          rw [List.getElem?_append_right (Nat.le_refl _), Nat.sub_self]
          simp only [Array.getElem?_setIfInBounds]
          rw [if_pos trivial, if_pos (by omega)]; rfl
        · rw [List.getElem?_append_left (by omega)]
          simp only [Array.getElem?_setIfInBounds]
          rw [if_neg (by omega)]
          exact hcell4 j (by omega)
    · refine step_append_grows hgd s x 22 ho 3 i0 (.int .i64 0) 1 8 underlying22 hi hz0 hz1 hz2 rfl (by decide) (some ⟨g, of, none⟩) zs.length c (zs.map (Value.int .i64)) hs (fun e => by cases e) (by rw [List.length_map, Nat.mul_one]) (fun b e j u hj => ?_) ⟨gx, 0, none⟩ 1 1 [.int .i64 z] hx rfl hnew hone (by omega) (by unfold maxLen; omega) (by omega) ?_
      · injection e with e
        subst e
        have hjl : j < zs.length := by
          have := (List.getElem?_eq_some_iff.1 hj).1
          simpa using this
        rw [intsAt zs j hjl] at hj
        injection hj with hj
        rw [add_plain, cell_of_row w g (of + j) cs 3 (0, 0) hg, ← hj]
        exact hcell4 j hjl
      · intro v' w' hown hgr
        obtain ⟨h1, h2⟩ := hgrow v' w' hown
        exact h v' w' h1 ⟨hgr.os, hgr.tape, hgr.output, hgr.size, fun k hk hne => hgr.block k hk (by intro e; cases e)⟩ (.inr h2)

def updQ (Q : Nat → List Int) (p : Nat) (l : List Int) : Nat → List Int := fun q => if q = p then l else Q q
theorem updQ_same (Q : Nat → List Int) (p : Nat) (l : List Int) : updQ Q p l p = l := if_pos rfl
theorem updQ_other (Q : Nat → List Int) {p q : Nat} (l : List Int) (h : q ≠ p) : updQ Q p l q = Q q := if_neg h
/-- The summer at s: its map at gm, its queues, the highest position, the clauses, the next variable. -/
structure Sm (w : World) (s gm base n : Nat) (val : Nat → Value) (Q : Nat → List Int) (top : Int) (cv : Value) (vs : List Value) (cl : List (List Int)) (next : Nat) : Prop where
  cells : w.heap[s]? = some (.cells #[.map (some gm), .int .i64 top, cv, .int .i64 (next : Int)] 58 (0, 0))
  qm : QM w gm n val
  q : ∀ p : Nat, QI w base (val p) (Q p)
  apart : ∀ p r : Nat, p ≠ r → (val p).ownBlock = none ∨ (val p).ownBlock ≠ (val r).ownBlock
  own : w.ownsRow base 22 1 cv vs.length vs
  els : Els w base vs cl
  away : ∀ u ∈ vs, ∀ p : Nat, (val p).ownBlock = none ∨ (val p).ownBlock ≠ u.ownBlock
  sb : s < base
  gb : gm < base
  ne : s ≠ gm
theorem Sm.lt {w : World} {s gm base n : Nat} {val : Nat → Value} {Q : Nat → List Int} {top : Int} {cv : Value} {vs : List Value} {cl : List (List Int)} {next : Nat} (h : Sm w s gm base n val Q top cv vs cl next) : s < w.heap.size := (Array.getElem?_eq_some_iff.1 h.cells).1
theorem Sm.cell {w : World} {s gm base n : Nat} {val : Nat → Value} {Q : Nat → List Int} {top : Int} {cv : Value} {vs : List Value} {cl : List (List Int)} {next : Nat} (h : Sm w s gm base n val Q top cv vs cl next) :
    w.cell? ⟨s, 0, none⟩ = some (.map (some gm)) ∧ w.cell? ⟨s, 1, none⟩ = some (.int .i64 top) ∧ w.cell? ⟨s, 2, none⟩ = some cv ∧ w.cell? ⟨s, 3, none⟩ = some (.int .i64 (next : Int)) := by
  refine ⟨?_, ?_, ?_, ?_⟩ <;> (rw [cell_of_row w s _ _ 58 (0, 0) h.cells]; rfl)
theorem Sm.frozen {w : World} {s gm base n : Nat} {val : Nat → Value} {Q : Nat → List Int} {top : Int} {cv : Value} {vs : List Value} {cl : List (List Int)} {next : Nat} (h : Sm w s gm base n val Q top cv vs cl next) (j : Nat) : w.frozen? ⟨s, j, none⟩ = false := frozen_of_row w s j _ 58 h.cells
/-- Nothing that was there has turned. -/
theorem Sm.below {w w' : World} {s gm base n : Nat} {val : Nat → Value} {Q : Nat → List Int} {top : Int} {cv : Value} {vs : List Value} {cl : List (List Int)} {next : Nat} (h : Sm w s gm base n val Q top cv vs cl next) (hb : Below w.heap.size w w') : Sm w' s gm base n val Q top cv vs cl next where
  cells := (hb.block s h.lt).trans h.cells
  qm := h.qm.same (hb.block gm h.qm.lt)
  q := fun p => (h.q p).same fun k hk => hb.block k ((h.q p).lt hk).2
  apart := h.apart
  own := own_below h.own hb
  els := h.els.below hb
  away := h.away
  sb := h.sb
  gb := h.gb
  ne := h.ne
/-- The words that hold nothing of the summer's cells turn with one queue's block and the map. -/
structure Kp (s gm : Nat) (blk : Option Nat) (w w' : World) : Prop where
  size : w.heap.size ≤ w'.heap.size
  tape : w'.tape = w.tape
  os : w'.os = w.os
  output : w'.output = w.output
  block : ∀ k, k < w.heap.size → k ≠ s → k ≠ gm → some k ≠ blk → w'.heap[k]? = w.heap[k]?
theorem Kp.low {s gm lo : Nat} {blk : Option Nat} {w w' : World} (h : Kp s gm blk w w') (h1 : lo ≤ s) (h2 : lo ≤ gm) (h3 : ∀ k, blk = some k → lo ≤ k) (h4 : lo ≤ w.heap.size) : Below lo w w' :=
  ⟨h.os, h.tape, h.output, h.size, fun k hk => h.block k (by omega) (by omega) (by omega) (fun e => by have := h3 k e.symm; omega)⟩

theorem step_put {ops : Array Oper} {o : Oper} {a : Act} {w : World} {K : Act → World → Prop} {Q : Exit → Act → World → Prop} {E : Prop} (hgd : o.guard = none) (m x y : Operand) (ho : o.op = Op.mapUpdate 56 m x y) (gm n : Nat) (val : Nat → Value) (p : Nat) (v : Value)
    (hm : a.eval m = .map (some gm)) (hx : a.eval x = .int .i64 (p : Int)) (hy : a.eval y = v) (hq : QM w gm n val) (hn : n ≤ 1000000) (hp : p ≤ 1000000)
    (h : ∀ w', QM w' gm (n + 1) (updV val p v) → w.grownBy w' (some gm) → K (a.put o.dst undef) w') : if Region.wanted o (yielded ops a.tmps) = true then Oper.wp Try.prog o a w K Q else E := by
  have hw : Region.wanted o (yielded ops a.tmps) = true := by simp [Region.wanted, hgd]
  rw [if_pos hw]
  obtain ⟨w', hrun, h1, h2⟩ := hq.put hn hp v
  unfold Oper.wp
  simp [execOp, ho, hm, hx, hy, hrun, Result.andThen]
  exact h w' h1 h2
theorem grown_same {w w' : World} {row : Option Nat} (hg : w.grownBy w' row) {k : Nat} (hk : k < w.heap.size) (hne : some k ≠ row) : w'.heap[k]? = w.heap[k]? := hg.block k hk hne
theorem Els.kept3 {w w' : World} {base : Nat} {vs : List Value} {xss : List (List Int)} {row : Option Nat} (h : Els w base vs xss) (hg : w.grownBy w' row) (hne : ∀ u ∈ vs, u.ownBlock = none ∨ u.ownBlock ≠ row) : Els w' base vs xss :=
  ⟨h.1, fun j hj => by
    obtain ⟨u, hu, hr⟩ := h.2 j hj
    exact ⟨u, hu, hr.kept hg (hne u (List.mem_of_getElem? hu))⟩⟩
theorem Els.ltB {w : World} {base : Nat} {vs : List Value} {xss : List (List Int)} (h : Els w base vs xss) {u : Value} (hu : u ∈ vs) {k : Nat} (hk : u.ownBlock = some k) : base ≤ k ∧ k < w.heap.size := by
  obtain ⟨j, hj, rfl⟩ := List.mem_iff_getElem.1 hu
  obtain ⟨v, hv, hr⟩ := h.2 j (by rw [← h.1]; exact hj)
  rw [List.getElem?_eq_getElem hj] at hv; injection hv with hv
  rw [hv] at hk
  exact hr.2.lt k hk
/-- Behind an append to a queue and the store of what it answers. -/
theorem Sm.pushed {w w' w'' : World} {s gm base n : Nat} {val : Nat → Value} {Q : Nat → List Int} {top : Int} {cv : Value} {vs : List Value} {cl : List (List Int)} {next : Nat} (S : Sm w s gm base n val Q top cv vs cl next) {p : Nat} {v' : Value} {l : List Int}
    (hq : QI w' base v' l) (hg : w.grownBy w' (val p).ownBlock) (hb : v'.ownBlock = (val p).ownBlock ∨ ∀ k, v'.ownBlock = some k → w.heap.size ≤ k) {n' : Nat} (hm : QM w'' gm n' (updV val p v')) (hg2 : w'.grownBy w'' (some gm)) :
    Sm w'' s gm base n' (updV val p v') (updQ Q p l) top cv vs cl next ∧ Kp s gm (val p).ownBlock w w'' := by
  have hsz := hg.size
  have hsame : ∀ k, k < w.heap.size → k ≠ gm → some k ≠ (val p).ownBlock → w''.heap[k]? = w.heap[k]? := fun k h1 h2 h3 => (hg2.block k (by omega) (fun e => h2 (by injection e))).trans (hg.block k h1 h3)
  have hsp : some s ≠ (val p).ownBlock := fun e => by have := ((S.q p).lt e.symm).1; have := S.sb; omega
  have hrow : cv.ownBlock = none ∨ cv.ownBlock ≠ (val p).ownBlock := by
    rcases hc : cv.ownBlock with _ | k
    · exact .inl rfl
    · right
      intro e
      obtain ⟨cs, h1⟩ := (S.q p).block e.symm
      exact off_own (t := 3) S.own (by decide) k hc cs h1
  have hrow2 : cv.ownBlock = none ∨ cv.ownBlock ≠ some gm := by
    rcases hc : cv.ownBlock with _ | k
    · exact .inl rfl
    · right; intro e; injection e with e
      have := (S.own.lt k hc).1; have := S.gb; omega
  have hels1 : ∀ u ∈ vs, u.ownBlock = none ∨ u.ownBlock ≠ (val p).ownBlock := by
    intro u hu
    rcases hc : u.ownBlock with _ | k
    · exact .inl rfl
    · right; intro e
      rcases S.away u hu p with h | h
      · rw [h] at e; cases e
      · exact h (by rw [hc]; exact e.symm)
  have hels2 : ∀ u ∈ vs, u.ownBlock = none ∨ u.ownBlock ≠ some gm := by
    intro u hu
    rcases hc : u.ownBlock with _ | k
    · exact .inl rfl
    · right; intro e; injection e with e
      have := (S.els.ltB hu hc).1; have := S.gb; omega
  refine ⟨⟨(hsame s S.lt S.ne hsp).trans S.cells, hm, fun r => ?_, fun r t hrt => ?_, (S.own.kept hg hrow).kept hg2 hrow2, (S.els.kept3 hg hels1).kept3 hg2 hels2, fun u hu r => ?_, S.sb, S.gb, S.ne⟩, ⟨by have := hg2.size; omega, hg2.tape.trans hg.tape, hg2.os.trans hg.os, hg2.output.trans hg.output, fun k h1 h2 h3 h4 => hsame k h1 h3 h4⟩⟩
  · unfold updV updQ
    by_cases e : r = p
    · rw [if_pos e, if_pos e]
      refine hq.same fun k hk => hg2.block k (hq.lt hk).2 (fun e2 => ?_)
      injection e2 with e2
      have := (hq.lt hk).1; have := S.gb; omega
    · rw [if_neg e, if_neg e]
      refine (S.q r).same fun k hk => hsame k ((S.q r).lt hk).2 (fun e2 => by have := ((S.q r).lt hk).1; have := S.gb; omega) (fun e2 => ?_)
      rcases S.apart r p e with h | h
      · rw [h] at hk; cases hk
      · exact h (by rw [hk]; exact e2)
  · unfold updV
    by_cases e : r = p
    · rw [if_pos e, if_neg (by omega)]
      rcases hb with hb | hb
      · rw [hb]; rw [e] at hrt; exact S.apart p t hrt
      · rcases hc : v'.ownBlock with _ | k
        · exact .inl rfl
        · right; intro e2
          have := hb k hc
          have := ((S.q t).lt e2.symm).2
          omega
    · rw [if_neg e]
      by_cases e3 : t = p
      · rw [if_pos e3]
        rcases hb with hb | hb
        · rw [hb, ← e3]; exact S.apart r t hrt
        · rcases hc : (val r).ownBlock with _ | k
          · exact .inl rfl
          · right; intro e2
            have := hb k e2.symm
            have := ((S.q r).lt hc).2
            omega
      · rw [if_neg e3]; exact S.apart r t hrt
  · unfold updV
    by_cases e : r = p
    · rw [if_pos e]
      rcases hb with hb | hb
      · rw [hb]; exact S.away u hu p
      · rcases hc : v'.ownBlock with _ | k
        · exact .inl rfl
        · right; intro e2
          have := hb k hc
          have := (S.els.ltB hu e2.symm).2
          omega
    · rw [if_neg e]; exact S.away u hu r
/-- A store to one of the summer's own cells. -/
theorem Sm.own_cell {w : World} {s gm base n : Nat} {val : Nat → Value} {Q : Nat → List Int} {top top' : Int} {cv : Value} {vs : List Value} {cl : List (List Int)} {next next' : Nat} (S : Sm w s gm base n val Q top cv vs cl next) {w' : World} (hg : w.grownBy w' (some s))
    (hc : w'.heap[s]? = some (.cells #[.map (some gm), .int .i64 top', cv, .int .i64 (next' : Int)] 58 (0, 0))) : Sm w' s gm base n val Q top' cv vs cl next' ∧ Kp s gm none w w' := by
  have hsb := S.sb
  refine ⟨⟨hc, S.qm.kept hg (fun e => S.ne (by injection e with e; exact e.symm)), fun p => (S.q p).same fun k hk => hg.block k ((S.q p).lt hk).2 (fun e => by injection e with e; have := ((S.q p).lt hk).1; omega), S.apart, S.own.kept hg ?_, S.els.kept3 hg fun u hu => ?_, S.away, S.sb, S.gb, S.ne⟩, ⟨hg.size, hg.tape, hg.os, hg.output, fun k h1 h2 _ _ => hg.block k h1 (fun e => h2 (by injection e))⟩⟩
  · rcases hk : cv.ownBlock with _ | k
    · exact .inl rfl
    · right; intro e; injection e with e
      have := (S.own.lt k hk).1; omega
  · rcases hk : u.ownBlock with _ | k
    · exact .inl rfl
    · right; intro e; injection e with e
      have := (S.els.ltB hu hk).1; omega
theorem Sm.set_top {w : World} {s gm base n : Nat} {val : Nat → Value} {Q : Nat → List Int} {top : Int} {cv : Value} {vs : List Value} {cl : List (List Int)} {next : Nat} (S : Sm w s gm base n val Q top cv vs cl next) (top' : Int) :
    Sm (w.setCell ⟨s, 1, none⟩ (.int .i64 top')) s gm base n val Q top' cv vs cl next ∧ Kp s gm none w (w.setCell ⟨s, 1, none⟩ (.int .i64 top')) :=
  S.own_cell ⟨rfl, rfl, rfl, by simp [World.setCell], fun k _ hk => heap_setCell_other w ⟨s, 1, none⟩ k _ (fun e => hk (by rw [e]))⟩ (by rw [heap_setCell_same w s 1 _ 58 _ S.cells]; rfl)
theorem Sm.set_next {w : World} {s gm base n : Nat} {val : Nat → Value} {Q : Nat → List Int} {top : Int} {cv : Value} {vs : List Value} {cl : List (List Int)} {next : Nat} (S : Sm w s gm base n val Q top cv vs cl next) (next' : Nat) :
    Sm (w.setCell ⟨s, 3, none⟩ (.int .i64 (next' : Int))) s gm base n val Q top cv vs cl next' ∧ Kp s gm none w (w.setCell ⟨s, 3, none⟩ (.int .i64 (next' : Int))) :=
  S.own_cell ⟨rfl, rfl, rfl, by simp [World.setCell], fun k _ hk => heap_setCell_other w ⟨s, 3, none⟩ k _ (fun e => hk (by rw [e]))⟩ (by rw [heap_setCell_same w s 3 _ 58 _ S.cells]; rfl)
end Go.Proofs.Ytpeklcbjhkchlaa
