/- Memory words of this seat: slices and rows of integers and of bools, appends, from a walk to a statement. -/
import Derived.Test.YtoacfjmefoiflaaRows
import Derived.WalkKit
import Derived.OwnWalk
import Derived.Lib.Hide
import Derived.Laws.Rows
import Derived.Outline
import Derived.Deep.Draws
import Derived.BigQuiet
import Derived.Deep.QuietTactic
import Derived.Deep.RegionWith
import Derived.WalkSpells
import Derived.Laws.AppendOwnNone
import Derived.RangeFuncBox
import Derived.RangeFuncNested
import Derived.Maps.AppendAt
import Derived.OpenShut
import Derived.ArgAppend
import Derived.ProofKit
import Derived.Carry
import Derived.Deep.Grids
import Derived.Maps.Own
import Derived.Maps.OwnOps
import Derived.Maps.Views
import Derived.Maps.Ext
import Derived.Deep.RegionLawGrows
import Derived.Laws.IdiomCopy
namespace Go.Proofs.Ytoacfjmefoiflaa
open Go.RowKit
section
open Go.RowKit

def Wf (z : Int) : Prop := -9223372036854775808 ≤ z ∧ z ≤ 9223372036854775807
/-- A slice at A reads as these integers, in a block below B. -/
def RdI (B : Nat) (w : World) (A : Option Addr) (zs : List Int) : Prop :=
  (∀ z ∈ zs, Wf z) ∧ (0 < zs.length → ∃ b off, A = some ⟨b, off, none⟩ ∧ b < B ∧ ∀ j, j < zs.length → w.cell? ⟨b, off + j, none⟩ = some (.int .i64 (zs[j]?.getD 0)))
theorem RdI.below {B B' : Nat} {w w' : World} {A : Option Addr} {zs : List Int} (h : RdI B w A zs) (hb : Below B' w w') (hB : B ≤ B') : RdI B w' A zs := by
  refine ⟨h.1, fun hn => ?_⟩
  obtain ⟨b, off, rfl, hbl, hcell⟩ := h.2 hn
  exact ⟨b, off, rfl, hbl, fun j hj => (hb.cell (p := ⟨b, off + j, none⟩) (by show b < B'; omega)).trans (hcell j hj)⟩
theorem RdI.more {B B' : Nat} {w : World} {A : Option Addr} {zs : List Int} (h : RdI B w A zs) (hB : B ≤ B') : RdI B' w A zs := by
  refine ⟨h.1, fun hn => ?_⟩
  obtain ⟨b, off, rfl, hbl, hcell⟩ := h.2 hn
  exact ⟨b, off, rfl, by omega, hcell⟩
theorem RdI.drewN {B : Nat} {w : World} {A : Option Addr} {zs : List Int} (h : RdI B w A zs) (n : Nat) : RdI B (w.drewN n) A zs := h
theorem RdI.nil (B : Nat) (w : World) (A : Option Addr) : RdI B w A [] := ⟨by simp, fun h => absurd h (by simp)⟩
theorem RdI.wf {B : Nat} {w : World} {A : Option Addr} {zs : List Int} (h : RdI B w A zs) {j : Nat} (hj : j < zs.length) : Wf (zs[j]?.getD 0) := by
  rw [List.getElem?_eq_getElem hj]; exact h.1 _ (List.getElem_mem hj)
theorem add_plain (b off k : Nat) : (⟨b, off, none⟩ : Addr).add k = ⟨b, off + k, none⟩ := by unfold Addr.add; split <;> simp_all
/-- Where a slice begins that is cut at k. -/
def cutA (cap k : Nat) (A : Option Addr) : Option Addr := if cap = k then A else A.map (·.add k)
theorem RdI.cut {B : Nat} {w : World} {A : Option Addr} {zs : List Int} (h : RdI B w A zs) {k cap : Nat} (hc : zs.length ≤ cap) : RdI B w (cutA cap k A) (zs.drop k) := by
  refine ⟨fun c hx => h.1 c (List.mem_of_mem_drop hx), fun hn => ?_⟩
  rw [List.length_drop] at hn
  obtain ⟨b, off, rfl, hb, hcell⟩ := h.2 (by omega)
  refine ⟨b, off + k, ?_, hb, fun j hj => ?_⟩
  · unfold cutA; rw [if_neg (by omega)]; simp [add_plain]
  · rw [List.length_drop] at hj
    have := hcell (k + j) (by omega)
    rw [Nat.add_assoc, this, List.getElem?_drop]
theorem RdI.take {B : Nat} {w : World} {A : Option Addr} {zs : List Int} (h : RdI B w A zs) (n : Nat) : RdI B w A (zs.take n) := by
  refine ⟨fun c hx => h.1 c (List.mem_of_mem_take hx), fun hn => ?_⟩
  rw [List.length_take] at hn
  obtain ⟨b, off, rfl, hb, hcell⟩ := h.2 (by omega)
  refine ⟨b, off, rfl, hb, fun j hj => ?_⟩
  rw [List.length_take] at hj
  rw [hcell j (by omega), List.getElem?_take_of_lt (by omega)]
theorem elem22 : Try.prog.underlying 22 = some (.slice (Try.prog.elem 22)) := by kernel_rfl
theorem size22 (w : World) : (sizeOf (Try.prog.elem 22)).run Try.prog w = .ok 1 w := by kernel_rfl
theorem run_cut (w : World) (A : Option Addr) (len cap k : Nat) (hk : k ≤ len) :
    (Instr.slice 22 (.slice A len cap) (some (.int .i64 (k : Int))) none none).run Try.prog w = .ok (.slice (cutA cap k A) (len - k) (cap - k)) w := by
  rw [run_slice_l (P := Try.prog) w 22 A len cap elem22 .i64 (k : Int) (by omega) (by omega), size22]
  simp [Result.andThen, sliced, cutA]
theorem run_head (w : World) (A : Option Addr) (len cap k : Nat) (hk : k ≤ cap) :
    (Instr.slice 22 (.slice A len cap) none (some (.int .i64 (k : Int))) none).run Try.prog w = .ok (.slice A k cap) w := by
  rw [run_slice_h (P := Try.prog) w 22 A len cap elem22 .i64 (k : Int) (by omega) (by omega), size22]
  have e : (A.map fun x => x.add 0) = A := by cases A <;> simp [Addr.add]
  simp [Result.andThen, sliced, e]

theorem below_drewN {B : Nat} {a w : World} (h : Below B a w) (n : Nat) : Below B a (w.drewN n) := ⟨h.os, h.tape, h.output, h.size, h.block⟩
theorem own_below {w w' : World} {base e size n : Nat} {v : Value} {xs : List Value} (h : w.ownsRow base e size v n xs) (hb : Below w.heap.size w w') : w'.ownsRow base e size v n xs := by
  refine ⟨h.1, ?_⟩
  rcases h.2 with h2 | ⟨g, cap, cur, rfl, hbase, hg, h3⟩
  · exact .inl h2
  · exact .inr ⟨g, cap, cur, rfl, hbase, (hb.block g (Array.getElem?_eq_some_iff.1 hg).1).trans hg, h3⟩
theorem own_shape {w : World} {base e size n : Nat} {v : Value} {xs : List Value} (h : w.ownsRow base e size v n xs) : ∃ A c, v = .slice A n c := by
  rcases h.2 with ⟨e, h0⟩ | ⟨g', cap', cur, e, _⟩
  · subst h0; exact ⟨_, _, e⟩
  · exact ⟨_, _, e⟩
theorem own_base {w : World} {base base' e size n : Nat} {v : Value} {xs : List Value} (h : w.ownsRow base e size v n xs) (hb : base' ≤ base) : w.ownsRow base' e size v n xs := by
  refine ⟨h.1, ?_⟩
  rcases h.2 with h2 | ⟨g', cap', cur, h1, h2, h3⟩
  · exact .inl h2
  · exact .inr ⟨g', cap', cur, h1, by omega, h3⟩
/-- No block of cells of this type lies there. -/
def Off (t : TypeId) (w : World) (row : Option Nat) : Prop := ∀ r, row = some r → ∀ cs, w.heap[r]? ≠ some (.cells cs t (0, 0))
theorem off_none (t : TypeId) (w : World) : Off t w Option.none := fun r h => by cases h
theorem off_boxed {t u : TypeId} {w : World} {g : Nat} {v : Value} (h : Boxed w g u v) (hne : u ≠ t) : Off t w (some g) := by
  intro r hr cs h2
  injection hr with hr; subst hr
  unfold Boxed at h
  rw [h] at h2; injection h2 with h2; injection h2 with _ h3
  exact hne h3
theorem off_own {t e : TypeId} {w : World} {base size n : Nat} {v : Value} {xs : List Value} (h : w.ownsRow base e size v n xs) (hne : e ≠ t) : Off t w v.ownBlock := by
  intro r hr cs h2
  rcases h.2 with ⟨rfl, _⟩ | ⟨g, cap, cur, rfl, _, hg, _⟩
  · simp [Value.ownBlock] at hr
  · have : g = r := by simpa [Value.ownBlock] using hr
    subst this
    rw [hg] at h2; injection h2 with h2; injection h2 with _ h3
    exact hne h3
theorem Boxed.lower {B : Nat} {w w' : World} {g : Nat} {t : TypeId} {v : Value} (h : Boxed w g t v) (hb : Below B w w') (hg : g < B) : Boxed w' g t v := (hb.block g hg).trans h

/-- A row of integers of the call's own. -/
def RowI (w : World) (base : Nat) (v : Value) (zs : List Int) : Prop := (∀ z ∈ zs, Wf z) ∧ w.ownsRow base 3 1 v zs.length (zs.map (Value.int .i64))
theorem intsAt (zs : List Int) (j : Nat) (hj : j < zs.length) : (zs.map (Value.int .i64))[j]? = some (.int .i64 (zs[j]?.getD 0)) := by simp [hj]
theorem RowI.shape {w : World} {base : Nat} {v : Value} {zs : List Int} (h : RowI w base v zs) : ∃ A cap, v = .slice A zs.length cap ∧ zs.length ≤ cap ∧ cap ≤ maxLen ∧ RdI w.heap.size w A zs := by
  obtain ⟨hb, h1, ⟨rfl, h2⟩ | ⟨g, cap, cur, rfl, hbase, hg, hn, hcm, hcs, ht⟩⟩ := h
  · exact ⟨none, 0, by rw [h2], by omega, Nat.zero_le _, hb, fun hp => by omega⟩
  · refine ⟨_, cap, rfl, hn, hcm, hb, fun _ => ⟨g, 0, rfl, (Array.getElem?_eq_some_iff.1 hg).1, fun j hj => ?_⟩⟩
    have hc := World.ownsRow.cellAt (w := w) (base := base) (e := 3) (size := 1) (g := g) (n := zs.length) (cap := cap) (xs := zs.map (Value.int .i64)) ⟨h1, .inr ⟨g, cap, cur, rfl, hbase, hg, hn, hcm, hcs, ht⟩⟩ j (by omega)
    rw [Nat.zero_add, hc, intsAt zs j hj]
theorem RowI.kept {w w' : World} {base : Nat} {v : Value} {zs : List Int} {row : Option Nat} (h : RowI w base v zs) (hg : w.grownBy w' row) (hne : v.ownBlock = none ∨ v.ownBlock ≠ row) : RowI w' base v zs := ⟨h.1, h.2.kept hg hne⟩
theorem RowI.alloc {w : World} {base : Nat} {v : Value} {zs : List Int} (h : RowI w base v zs) (o : Obj) : RowI (w.alloc o) base v zs := ⟨h.1, h.2.alloc o⟩
theorem RowI.below {w w' : World} {base : Nat} {v : Value} {zs : List Int} (h : RowI w base v zs) (hb : Below w.heap.size w w') : RowI w' base v zs := ⟨h.1, own_below h.2 hb⟩
theorem RowI.base {w : World} {base base' : Nat} {v : Value} {zs : List Int} (h : RowI w base v zs) (hb : base' ≤ base) : RowI w base' v zs := ⟨h.1, own_base h.2 hb⟩
theorem RowI.empty (w : World) (base : Nat) : RowI w base (.slice Option.none 0 0) [] := ⟨by simp, by simpa using World.ownsRow_nil _ _ _ _⟩
theorem RowI.apart {w w' : World} {base : Nat} {v : Value} {zs : List Int} {row : Option Nat} (h : RowI w base v zs) (hg : w.grownBy w' row) (ho : Off 3 w row) : RowI w' base v zs := by
  refine h.kept hg ?_
  rcases h.2.2 with ⟨rfl, _⟩ | ⟨g, cap, cur, rfl, _, hgg, _⟩
  · exact .inl rfl
  · exact .inr fun e => ho g (by simpa [Value.ownBlock] using e.symm) cur hgg
/-- A store below the row's own block leaves the row. -/
theorem RowI.stored {w : World} {base : Nat} {v u : Value} {zs : List Int} {g : Nat} (h : RowI w base v zs) (hg : g < base) : RowI (w.setCell ⟨g, 0, none⟩ u) base v zs :=
  h.kept (grownBy_setCell' w g u) (.inr fun e => by have := (h.2.lt _ e).1; omega)
theorem RowI.snoc {w : World} {base : Nat} {v : Value} {zs : List Int} {z : Int} (hz : Wf z) (h1 : ∀ z ∈ zs, Wf z) (h : w.ownsRow base 3 1 v (zs.length + 1) (zs.map (Value.int .i64) ++ [.int .i64 z])) : RowI w base v (zs ++ [z]) := by
  refine ⟨fun x hx => ?_, by simpa using h⟩
  rcases List.mem_append.1 hx with hx | hx
  · exact h1 x hx
  · rw [List.mem_singleton.1 hx]; exact hz
theorem info3 : (Try.prog.info? 3).map (fun i => (i.zero, i.size, i.bytes)) = some (some (.int .i64 0), 1, 8) := by kernel_rfl
theorem info22 : (Try.prog.info? 22).map (fun i => (i.zero, i.size, i.bytes)) = some (some (.slice Option.none 0 0), 1, 24) := by kernel_rfl
theorem underlying22 : Try.prog.underlying 22 = some (.slice 3) := by kernel_rfl
end
section
open Go.RowKit
theorem RowI.rd {w : World} {base n c : Nat} {A : Option Addr} {zs : List Int} (h : RowI w base (.slice A n c) zs) : RdI w.heap.size w A zs := by
  obtain ⟨A', c', e, _, _, hr⟩ := h.shape
  injection e with e1 _ _
  rw [e1]; exact hr
theorem wpList_push {ops : Array Oper} {rest : List Oper} {o : Oper} {a : Act} {Q : Exit → Act → World → Prop} {w : World} (hgd : o.guard = none) (s x : Operand)
    (ho : o.op = .call { callee := .builtin .append, args := #[s, x], argTypes := #[22, 22] }) (base : Nat) (v : Value) (zs : List Int) (hs : a.eval s = v) (hrow : RowI w base v zs) (z : Int) (hz : Wf z)
    (hx : a.eval x = .slice (some ⟨w.heap.size, 0, none⟩) 1 1) (hlen : zs.length ≤ 1000000) (hbase : base ≤ w.heap.size)
    (h : ∀ v' w', RowI w' base v' (zs ++ [z]) → Below base w w' → wpList Try.prog ops Q rest (a.put o.dst v') w') : wpList Try.prog ops Q (o :: rest) a (w.alloc (.cells #[.int .i64 z] 3)) := by
  obtain ⟨i0, hi, hz0, hz1, hz2⟩ := info_parts info3
  have hown := hrow.2.alloc (.cells #[.int .i64 z] 3)
  refine wpList_append_own _ hgd s x 22 ho base 3 i0 (.int .i64 0) 1 8 underlying22 hi hz0 hz1 hz2 rfl (by decide) v zs.length _ hs hown ⟨w.heap.size, 0, none⟩ 1 1 [.int .i64 z] hx rfl (cell_one_new _ _ _) (by simp [Value.oneCell']) (by unfold maxLen; omega) (by omega) (by simp; omega) ?_
  intro v' w' hown' hg _
  exact h v' w' (RowI.snoc hz hrow.1 hown') (((Below.refl base w).alloc hbase _).grown hg (by simp; omega) (fun k hk => (hown.lt k hk).1))

/-- A row of one integer, as a literal makes it. -/
theorem RowI.one (X : World) (base : Nat) (z : Int) (hz : Wf z) (hb : base ≤ X.heap.size) : RowI (X.alloc (.cells #[.int .i64 z] 3)) base (.slice (some ⟨X.heap.size, 0, none⟩) 1 1) [z] := by
  refine ⟨fun x hx => by rw [List.mem_singleton.1 hx]; exact hz, ?_⟩
  have := World.ownsRow_lit (base := base) (e := 3) (size := 1) X #[Value.int .i64 z] 1 hb (by unfold maxLen; omega) (by simp)
  simpa using this
/-- An append to a full row: a new row, all that was there is as it was. -/
theorem push_new {ops : Array Oper} {rest : List Oper} {o : Oper} {a : Act} {Q : Exit → Act → World → Prop} {w : World} (hgd : o.guard = none) (s x : Operand)
    (ho : o.op = .call { callee := .builtin .append, args := #[s, x], argTypes := #[22, 22] }) (base : Nat) (A : Option Addr) (n : Nat) (zs : List Int) (hs : a.eval s = .slice A n n) (hrow : RowI w base (.slice A n n) zs) (hn : zs.length = n) (h0 : 0 < n) (z : Int) (hz : Wf z)
    (hx : a.eval x = .slice (some ⟨w.heap.size, 0, none⟩) 1 1) (hlen : n ≤ 1000000)
    (h : ∀ v' w', RowI w' w.heap.size v' (zs ++ [z]) → Below w.heap.size w w' → wpList Try.prog ops Q rest (a.put o.dst v') w') : wpList Try.prog ops Q (o :: rest) a (w.alloc (.cells #[.int .i64 z] 3)) := by
  obtain ⟨i0, hi, hz0, hz1, hz2⟩ := info_parts info3
  have hrow2 := hrow.alloc (.cells #[.int .i64 z] 3)
  have hrd := hrow2.rd
  obtain ⟨b, off, rfl, _, hcell⟩ := hrd.2 (by omega)
  refine wpList_append_grows _ hgd s x 22 ho 3 i0 (.int .i64 0) 1 8 underlying22 hi hz0 hz1 hz2 rfl (by decide) (some ⟨b, off, none⟩) n n (zs.map (Value.int .i64)) hs (fun e => by cases e) (by rw [List.length_map, hn, Nat.mul_one]) ?_ ⟨w.heap.size, 0, none⟩ 1 1 [.int .i64 z] hx rfl (cell_one_new _ _ _) (by simp [Value.oneCell']) (by omega) (by unfold maxLen; omega) (by omega) ?_
  · intro q hq j u hj
    injection hq with hq
    subst hq
    rw [add_plain]
    have hjl : j < zs.length := by
      have := (List.getElem?_eq_some_iff.1 hj).1
      simpa using this
    rw [intsAt zs j hjl] at hj
    injection hj with hj
    rw [← hj]
    exact hcell j hjl
  · intro v' w' hown' hg
    have hlow : Below w.heap.size w w' := ((Below.refl w.heap.size w).alloc (Nat.le_refl _) _).grown hg (by simp) (fun k hk => by cases hk)
    refine h v' w' (RowI.snoc hz hrow.1 ?_) hlow
    rw [hn]
    exact own_base hown' (by simp)
/-- An append to a row: no block but the row's own is turned. -/
theorem push_own {ops : Array Oper} {rest : List Oper} {o : Oper} {a : Act} {Q : Exit → Act → World → Prop} {w : World} (hgd : o.guard = none) (s x : Operand)
    (ho : o.op = .call { callee := .builtin .append, args := #[s, x], argTypes := #[22, 22] }) (base : Nat) (v : Value) (zs : List Int) (hs : a.eval s = v) (hrow : RowI w base v zs) (z : Int) (hz : Wf z)
    (hx : a.eval x = .slice (some ⟨w.heap.size, 0, none⟩) 1 1) (hlen : zs.length ≤ 1000000) (hbase : base ≤ w.heap.size)
    (h : ∀ v' w', RowI w' base v' (zs ++ [z]) → Below base w w' → (∀ k, k < w.heap.size → some k ≠ v.ownBlock → w'.heap[k]? = w.heap[k]?) → wpList Try.prog ops Q rest (a.put o.dst v') w') : wpList Try.prog ops Q (o :: rest) a (w.alloc (.cells #[.int .i64 z] 3)) := by
  obtain ⟨i0, hi, hz0, hz1, hz2⟩ := info_parts info3
  have hown := hrow.2.alloc (.cells #[.int .i64 z] 3)
  refine wpList_append_own _ hgd s x 22 ho base 3 i0 (.int .i64 0) 1 8 underlying22 hi hz0 hz1 hz2 rfl (by decide) v zs.length _ hs hown ⟨w.heap.size, 0, none⟩ 1 1 [.int .i64 z] hx rfl (cell_one_new _ _ _) (by simp [Value.oneCell']) (by unfold maxLen; omega) (by omega) (by simp; omega) ?_
  intro v' w' hown' hg _
  exact h v' w' (RowI.snoc hz hrow.1 hown') (((Below.refl base w).alloc hbase _).grown hg (by simp; omega) (fun k hk => (hown.lt k hk).1))
    (fun k hk hne => (hg.block k (by simp; omega) hne).trans (heap_alloc_old w _ hk))
/-- A row whose block is as it was. -/
theorem RowI.same {w w' : World} {base : Nat} {v : Value} {zs : List Int} (h : RowI w base v zs) (hb : ∀ k, v.ownBlock = some k → w'.heap[k]? = w.heap[k]?) : RowI w' base v zs := by
  refine ⟨h.1, h.2.1, ?_⟩
  rcases h.2.2 with h2 | ⟨g, cap, cur, rfl, hbase, hg, h3⟩
  · exact .inl h2
  · exact .inr ⟨g, cap, cur, rfl, hbase, (hb g rfl).trans hg, h3⟩
end
section
open Go.ChangeShapes Go.WideShapes Go.ChangeAt Go.RowKit
set_option maxRecDepth 20000

theorem Try_own : ownKnob Try.prog.godebug = Option.none := by kernel_rfl
theorem Try_laidOut : laidOutB Try.prog = true := by kernel_rfl
theorem underlying4 : Try.prog.underlying 4 = some .bool := by kernel_rfl
theorem underlying3' : Try.prog.underlying 3 = some (.int .i64) := by kernel_rfl
theorem Try_cells3 : Try.prog.cellsOf 3 = 1 := by kernel_rfl

section
variable {H : Type} {enc : TypeId × Value → H} {P : Program}

theorem trodAll_stays (hl : laidOutB P = true) {W W' : World} (hb : Below W.heap.size W W') : ∀ (ts : List TypeId) (vs : List Value) (ds : List (DataW H)) (ps : List MemPlace),
    (∀ t ∈ ts, P.readableRec t = true ∧ t < P.types.size) → DataW.TrodAll enc P W 0 (fun _ => true) true ts vs ds ps → (∀ x ∈ ps, x.block < W.heap.size) →
    DataW.TrodAll enc P W' 0 (fun b => decide (b < W.heap.size)) true ts vs ds ps
  | [], vs, ds, ps, _, h, _ => by
    obtain ⟨rfl, rfl, rfl⟩ := trodAll_nil h
    exact trodAll_mk0
  | t :: ts, vs, ds, ps, hr, h, hlt => by
    obtain ⟨v, vs', d, ds', p, q, rfl, rfl, rfl, h1, h2⟩ := trodAll_cons h
    exact trodAll_cons_mk (Below.trod hl (hr t (by simp)).1 (hr t (by simp)).2 h1 hb (fun x hx => hlt x (List.mem_append_left _ hx)))
      (trodAll_stays hl hb ts vs' ds' q (fun t ht => hr t (List.mem_cons_of_mem _ ht)) h2 (fun x hx => hlt x (List.mem_append_right _ hx)))

/-- A law has answered true and has turned nothing that was there. -/
theorem law_post (hl : laidOutB P = true) {f : Func} {s : ChangeSpec} {W W' : World} {args : Array Value} {ds gs : List (DataW H)} {before : List MemPlace}
    (hW : DataW.Whole enc P f.params.toList s.vars false W args.toList ds gs before) (hv : s.vars = []) (hr : ∀ t ∈ f.params.toList, P.readableRec t = true ∧ t < P.types.size)
    (t4 : TypeId) (hrt : f.resultTypes = #[t4]) (ht4 : P.underlying t4 = some .bool)
    (hfn : s.fn H (ds ++ gs) = { results := [.lit (.bool true)], args := ds }) (hb : Below W.heap.size W W') :
    s.post enc P f false true false false W args (.bool true) W' := by
  have hlt : ∀ p ∈ before, p.block < W.heap.size := fun p hp => hW.lt p hp
  have hW' := hW
  obtain ⟨p, q, hA, hV, rfl, _, _⟩ := hW
  rw [hv] at hV
  obtain ⟨rfl, rfl⟩ := trodVars_none hV
  refine ⟨ds, [], p ++ [], [], p, [], hW', ?_, ?_, ?_, hb.frame _, fun h => by cases h⟩
  · rw [hfn, hrt]; exact trodAll_mk1 (shut_bool ht4 true)
  · rw [hfn]; exact trodAll_stays hl hb _ _ _ _ hr hA (fun x hx => hlt x (List.mem_append_left _ hx))
  · rw [hfn, hv]; exact rfl
end


/-- A slice of integers that comes in. -/
theorem open_intlist {H : Type} {enc : TypeId × Value → H} {W : World} {base : Nat} {v : Value} {d : DataW H} {p : List MemPlace} (hval : Value.okWide Try.prog W .any base 22 v) (h : DataW.Trod enc Try.prog W 0 (fun _ => true) true 22 v d p)
    (hlt : ∀ x ∈ p, x.block < W.heap.size) :
    ∃ A len cap zs, v = .slice A len cap ∧ RdI W.heap.size W A zs ∧ zs.length = len ∧ len ≤ cap ∧ cap ≤ maxLen ∧ (A = Option.none → cap = 0) := by
  obtain ⟨a0, len, cap, rfl⟩ := okWide_slice underlying22 hval
  obtain ⟨fuel, hf⟩ := h
  rcases open_ints underlying22 underlying3' Try_cells3 hf with ⟨hcs, hx⟩ | ⟨a, len', cap', zs, hcs, _, hl, hm, hz, hx, hcell, hwz⟩
  · simp [Value.cells] at hcs
    obtain ⟨rfl, rfl, rfl⟩ := hcs
    exact ⟨_, _, _, [], rfl, RdI.nil _ _ _, rfl, Nat.le_refl _, Nat.zero_le _, fun _ => rfl⟩
  · simp [Value.cells] at hcs
    obtain ⟨rfl, rfl, rfl⟩ := hcs
    simp only [Prod.mk.injEq] at hx
    obtain ⟨rfl, rfl⟩ := hx
    simp only [if_true] at hz
    have hlen : (zs.take len).length = len := by simp; omega
    refine ⟨some a, len, cap, zs.take len, rfl, ⟨fun z hz1 => ?_, fun hn => ?_⟩, hlen, hl, hm, by intro e; cases e⟩
    · have := bounds_i64 (hwz z (List.mem_of_mem_take hz1))
      exact this
    · rw [hlen] at hn
      obtain ⟨b, off, spot⟩ := a
      have hspot : spot = Option.none := by simpa [Addr.add] using World.cell?_spot (hcell 0 (by omega))
      subst hspot
      refine ⟨b, off, rfl, hlt (.cell b off) (MemPlace.mem_row.2 ⟨0, by omega, by simp⟩), fun j hjl => ?_⟩
      rw [hlen] at hjl
      rw [← add_plain, hcell j (by omega), List.getElem?_take_of_lt hjl]
      simp [List.getD]


/-- A literal of a variable below v. -/
def Lit (v : Nat) (x : Int) : Prop := x ≠ 0 ∧ -(v : Int) < x ∧ x < v
theorem Lit.neg {v : Nat} {x : Int} (h : Lit v x) : Lit v (-x) := by obtain ⟨a, b, c⟩ := h; exact ⟨by omega, by omega, by omega⟩
theorem Lit.mono {v v' : Nat} {x : Int} (h : Lit v x) (hv : v ≤ v') : Lit v' x := by obtain ⟨a, b, c⟩ := h; exact ⟨a, by omega, by omega⟩
end
section
open Go.ChangeShapes Go.WideShapes Go.ChangeAt Go.RowKit
set_option maxRecDepth 20000

/-- A slice at A reads as these bools, in a block below B. -/
def RdB (B : Nat) (w : World) (A : Option Addr) (bs : List Bool) : Prop :=
  0 < bs.length → ∃ b off, A = some ⟨b, off, none⟩ ∧ b < B ∧ ∀ j, j < bs.length → w.cell? ⟨b, off + j, none⟩ = some (.bool (bs[j]?.getD false))
theorem RdB.below {B B' : Nat} {w w' : World} {A : Option Addr} {bs : List Bool} (h : RdB B w A bs) (hb : Below B' w w') (hB : B ≤ B') : RdB B w' A bs := by
  intro hn
  obtain ⟨b, off, rfl, hbl, hcell⟩ := h hn
  exact ⟨b, off, rfl, hbl, fun j hj => (hb.cell (p := ⟨b, off + j, none⟩) (by show b < B'; omega)).trans (hcell j hj)⟩
theorem RdB.more {B B' : Nat} {w : World} {A : Option Addr} {bs : List Bool} (h : RdB B w A bs) (hB : B ≤ B') : RdB B' w A bs := by
  intro hn
  obtain ⟨b, off, rfl, hbl, hcell⟩ := h hn
  exact ⟨b, off, rfl, by omega, hcell⟩
theorem RdB.drewN {B : Nat} {w : World} {A : Option Addr} {bs : List Bool} (h : RdB B w A bs) (n : Nat) : RdB B (w.drewN n) A bs := h
/-- Whether a literal is true. -/
def tv (bs : List Bool) (x : Int) : Bool := if x < 0 then !(bs[(-x).toNat]?.getD false) else bs[x.toNat]?.getD false
theorem tv_pos (bs : List Bool) (k : Nat) : tv bs (k : Int) = bs[k]?.getD false := by unfold tv; rw [if_neg (by omega), Int.toNat_natCast]
theorem tv_neg (bs : List Bool) (k : Nat) (h : 1 ≤ k) : tv bs (-(k : Int)) = !(bs[k]?.getD false) := by unfold tv; rw [if_pos (by omega), Int.neg_neg, Int.toNat_natCast]
theorem tv_not (bs : List Bool) (x : Int) (h : x ≠ 0) : tv bs (-x) = !tv bs x := by
  rcases (show x < 0 ∨ 0 < x by omega) with h1 | h1
  · unfold tv; rw [if_neg (by omega), if_pos h1, Bool.not_not]
  · unfold tv; rw [if_pos (by omega), if_neg (by omega), Int.neg_neg]
theorem Lit.two {v : Nat} {x : Int} (h : Lit v x) : ∃ k : Nat, 1 ≤ k ∧ k < v ∧ (x = (k : Int) ∨ x = -(k : Int)) := by
  obtain ⟨a, b, c⟩ := h
  rcases (show x < 0 ∨ 0 < x by omega) with h1 | h1
  · obtain ⟨k, hk⟩ := Int.eq_ofNat_of_zero_le (show 0 ≤ -x by omega)
    exact ⟨k, by omega, by omega, .inr (by omega)⟩
  · obtain ⟨k, hk⟩ := Int.eq_ofNat_of_zero_le (show 0 ≤ x by omega)
    exact ⟨k, by omega, by omega, .inl (by omega)⟩

/-- How many of these literals are true. -/
def ct (bs : List Bool) (l : List Int) : Nat := (l.filter (tv bs)).length
theorem ct_le (bs : List Bool) (l : List Int) : ct bs l ≤ l.length := List.length_filter_le _ _
theorem ct_take (bs : List Bool) (l : List Int) (j : Nat) (h : j < l.length) : ct bs (l.take (j + 1)) = ct bs (l.take j) + if tv bs (l[j]?.getD 0) then 1 else 0 := by
  unfold ct
  rw [List.take_add_one, List.getElem?_eq_getElem h]
  simp only [Option.toList_some, List.filter_append, List.length_append, Option.getD_some]
  congr 1
  by_cases h2 : tv bs l[j] = true
  · rw [List.filter_cons_of_pos h2, if_pos h2]; rfl
  · rw [List.filter_cons_of_neg h2, if_neg h2]; rfl

theorem any_take {α : Type} (f : α → Bool) (l : List α) (j : Nat) (h : j < l.length) : (l.take (j + 1)).any f = ((l.take j).any f || f l[j]) := by
  rw [List.take_add_one, List.getElem?_eq_getElem h, List.any_append]; simp
theorem any_get {α : Type} (f : α → Bool) (l : List α) (j : Nat) (h : j < l.length) (hf : f l[j] = true) : l.any f = true := List.any_eq_true.2 ⟨_, List.getElem_mem h, hf⟩

theorem bools_ext {a b : List Bool} (hl : a.length = b.length) (h : ∀ i, i < a.length → a[i]?.getD false = b[i]?.getD false) : a = b := by
  apply List.ext_getElem hl
  intro i h1 h2
  have := h i h1
  rw [List.getElem?_eq_getElem h1, List.getElem?_eq_getElem h2] at this
  exact this

/-- A row of bools of the call's own. -/
def RowB (w : World) (base g : Nat) (bs : List Bool) : Prop := w.ownsRow base 4 1 (.slice (some ⟨g, 0, none⟩) bs.length bs.length) bs.length (bs.map Value.bool)
theorem boolsAt (bs : List Bool) (j : Nat) (hj : j < bs.length) : (bs.map Value.bool)[j]? = some (.bool (bs[j]?.getD false)) := by simp [hj]
theorem RowB.cell {w : World} {base g : Nat} {bs : List Bool} (h : RowB w base g bs) {j : Nat} (hj : j < bs.length) : w.cell? ⟨g, j, none⟩ = some (.bool (bs[j]?.getD false)) := by
  rw [World.ownsRow.cellAt h j (by omega), boolsAt bs j hj]
theorem RowB.frozen {w : World} {base g : Nat} {bs : List Bool} (h : RowB w base g bs) (j : Nat) : w.frozen? ⟨g, j, none⟩ = false := World.ownsRow.frozenAt h j
theorem RowB.rd {w : World} {base g : Nat} {bs : List Bool} (h : RowB w base g bs) : RdB w.heap.size w (some ⟨g, 0, none⟩) bs := fun _ =>
  ⟨g, 0, rfl, (h.lt g rfl).2, fun j hj => by rw [Nat.zero_add]; exact h.cell hj⟩
theorem RowB.set {w : World} {base g : Nat} {bs : List Bool} (h : RowB w base g bs) (j : Nat) (z : Bool) : RowB (w.setCell ⟨g, j, none⟩ (.bool z)) base g (bs.set j z) := by
  unfold RowB
  rw [List.length_set, List.map_set]
  exact (World.ownsRow.stored h j (.bool z)).1
theorem RowB.drewN {w : World} {base g : Nat} {bs : List Bool} (h : RowB w base g bs) (n : Nat) : RowB (w.drewN n) base g bs := h
theorem RowB.below {w w' : World} {base g : Nat} {bs : List Bool} (h : RowB w base g bs) (hb : Below w.heap.size w w') : RowB w' base g bs := own_below h hb
theorem info4 : (Try.prog.info? 4).map (fun i => (i.zero, i.size, i.bytes)) = some (some (.bool false), 1, 1) := by kernel_rfl
theorem underlying32' : Try.prog.underlying 32 = some (.slice 4) := by kernel_rfl
end
section
open Go.ChangeShapes Go.WideShapes Go.ChangeAt Go.RowKit Go.Deep
set_option maxRecDepth 20000

/-- A row of bools of the call's own that may have room behind it. -/
def RowV (w : World) (base : Nat) (v : Value) (bs : List Bool) : Prop := w.ownsRow base 4 1 v bs.length (bs.map Value.bool)
theorem RowV.kept {w w' : World} {base : Nat} {v : Value} {bs : List Bool} {row : Option Nat} (h : RowV w base v bs) (hg : w.grownBy w' row) (hne : v.ownBlock = none ∨ v.ownBlock ≠ row) : RowV w' base v bs := World.ownsRow.kept h hg hne
theorem RowV.alloc {w : World} {base : Nat} {v : Value} {bs : List Bool} (h : RowV w base v bs) (o : Obj) : RowV (w.alloc o) base v bs := World.ownsRow.alloc h o
theorem RowV.below {w w' : World} {base : Nat} {v : Value} {bs : List Bool} (h : RowV w base v bs) (hb : Below w.heap.size w w') : RowV w' base v bs := own_below h hb
theorem RowV.base {w : World} {base base' : Nat} {v : Value} {bs : List Bool} (h : RowV w base v bs) (hb : base' ≤ base) : RowV w base' v bs := own_base h hb
theorem RowV.empty (w : World) (base : Nat) : RowV w base (.slice Option.none 0 0) [] := by unfold RowV; simpa using World.ownsRow_nil w base 4 1
theorem RowV.drewN {w : World} {base : Nat} {v : Value} {bs : List Bool} (h : RowV w base v bs) (n : Nat) : RowV (w.drewN n) base v bs := h
theorem RowV.shape {w : World} {base : Nat} {v : Value} {bs : List Bool} (h : RowV w base v bs) : ∃ A cap, v = .slice A bs.length cap ∧ bs.length ≤ cap ∧ cap ≤ maxLen ∧ RdB w.heap.size w A bs := by
  have h' := h
  unfold RowV at h
  obtain ⟨h1, ⟨rfl, h2⟩ | ⟨g, cap, cur, rfl, hbase, hg, hn, hcm, hcs, ht⟩⟩ := h
  · exact ⟨none, 0, by rw [h2], by omega, Nat.zero_le _, fun hp => by omega⟩
  · refine ⟨_, cap, rfl, hn, hcm, fun _ => ⟨g, 0, rfl, (Array.getElem?_eq_some_iff.1 hg).1, fun j hj => ?_⟩⟩
    have hc := World.ownsRow.cellAt (w := w) (base := base) (e := 4) (size := 1) (g := g) (n := bs.length) (cap := cap) (xs := bs.map Value.bool) h' j (by omega)
    rw [Nat.zero_add, hc, boolsAt bs j hj]
theorem RowV.rd {w : World} {base n c : Nat} {A : Option Addr} {bs : List Bool} (h : RowV w base (.slice A n c) bs) : n = bs.length ∧ RdB w.heap.size w A bs := by
  obtain ⟨A', c', e, _, _, h2⟩ := h.shape
  injection e with e1 e2 e3
  subst e1
  exact ⟨e2, h2⟩
theorem RdB.cellAdd {B : Nat} {w : World} {a : Addr} {bs : List Bool} (h : RdB B w (some a) bs) : ∀ j u, (bs.map Value.bool)[j]? = some u → w.cell? (a.add j) = some u := by
  intro j u hj
  have hjl : j < bs.length := by
    have := (List.getElem?_eq_some_iff.1 hj).1
    simpa using this
  obtain ⟨b, off, e, _, hc⟩ := h (by omega)
  injection e with e
  subst e
  rw [boolsAt bs j hjl] at hj
  injection hj with hj
  rw [add_plain, ← hj]
  exact hc j hjl
theorem RowV.one (X : World) (base : Nat) (z : Bool) (hb : base ≤ X.heap.size) : RowV (X.alloc (.cells #[.bool z] 4)) base (.slice (some ⟨X.heap.size, 0, none⟩) 1 1) [z] := by
  have := World.ownsRow_lit (base := base) (e := 4) (size := 1) X #[Value.bool z] 1 hb (by unfold maxLen; omega) (by simp)
  unfold RowV
  simpa using this
/-- An append of a slice of bools to a row of the call's own. -/
theorem push_bools {ops : Array Oper} {rest : List Oper} {o : Oper} {a : Act} {Q : Exit → Act → World → Prop} {w : World} (hgd : o.guard = none) (s x : Operand)
    (ho : o.op = .call { callee := .builtin .append, args := #[s, x], argTypes := #[32, 32] }) (base : Nat) (v : Value) (bs : List Bool) (hs : a.eval s = v) (hrow : RowV w base v bs)
    (B : Nat) (A : Option Addr) (m c : Nat) (cs : List Bool) (hx : a.eval x = .slice A m c) (hr : RdB B w A cs) (hm : cs.length = m) (hn : A = none → c = 0)
    (hbound : bs.length + m ≤ 1000000) (hbase : base ≤ w.heap.size)
    (h : ∀ v' w', RowV w' base v' (bs ++ cs) → Below base w w' → wpList Try.prog ops Q rest (a.put o.dst v') w') : wpList Try.prog ops Q (o :: rest) a w := by
  obtain ⟨i0, hi, hz0, hz1, hz2⟩ := info_parts info4
  cases A with
  | none =>
    have hc := hn rfl
    subst hc
    have h0 : cs = [] := by
      rcases Nat.eq_zero_or_pos cs.length with e | e
      · exact List.eq_nil_of_length_eq_zero e
      · obtain ⟨b, off, e, _⟩ := hr e; cases e
    subst h0
    have hm0 : m = 0 := by rw [← hm]; rfl
    subst hm0
    exact wpList_append_own_none hgd s x 32 ho base 4 i0 1 underlying32' hi v bs.length (bs.map Value.bool) hs hrow hx (h v w (by simpa using hrow) (Below.refl _ _))
  | some ad =>
    refine wpList_append_own w hgd s x 32 ho base 4 i0 (.bool false) 1 1 underlying32' hi hz0 hz1 hz2 rfl (by decide) v bs.length (bs.map Value.bool) hs hrow ad m c (cs.map Value.bool) hx (by rw [List.length_map, hm, Nat.mul_one]) hr.cellAdd (by intro u hu; obtain ⟨z, _, rfl⟩ := List.mem_map.1 hu; rfl) (by unfold maxLen; omega) (by omega) hbase ?_
    intro v' w' hown hg _
    refine h v' w' ?_ ((Below.refl base w).grown hg hbase (fun k hk => (hrow.lt k hk).1))
    unfold RowV
    rw [List.length_append, hm, List.map_append]
    exact hown
/-- An append of one bool. -/
theorem push_bool {ops : Array Oper} {rest : List Oper} {o : Oper} {a : Act} {Q : Exit → Act → World → Prop} {w : World} (hgd : o.guard = none) (s x : Operand)
    (ho : o.op = .call { callee := .builtin .append, args := #[s, x], argTypes := #[32, 32] }) (base : Nat) (v : Value) (bs : List Bool) (hs : a.eval s = v) (hrow : RowV w base v bs) (z : Bool)
    (hx : a.eval x = .slice (some ⟨w.heap.size, 0, none⟩) 1 1) (hbound : bs.length ≤ 1000000) (hbase : base ≤ w.heap.size)
    (h : ∀ v' w', RowV w' base v' (bs ++ [z]) → Below base w w' → wpList Try.prog ops Q rest (a.put o.dst v') w') : wpList Try.prog ops Q (o :: rest) a (w.alloc (.cells #[.bool z] 4)) := by
  obtain ⟨i0, hi, hz0, hz1, hz2⟩ := info_parts info4
  have hrow2 := hrow.alloc (.cells #[.bool z] 4)
  refine wpList_append_own _ hgd s x 32 ho base 4 i0 (.bool false) 1 1 underlying32' hi hz0 hz1 hz2 rfl (by decide) v bs.length _ hs hrow2 ⟨w.heap.size, 0, none⟩ 1 1 [.bool z] hx rfl (cell_one_new _ _ _) (by simp [Value.oneCell']) (by unfold maxLen; omega) (by omega) (by simp; omega) ?_
  intro v' w' hown hg _
  refine h v' w' ?_ (((Below.refl base w).alloc hbase _).grown hg (by simp; omega) (fun k hk => (hrow.lt k hk).1))
  unfold RowV
  rw [List.length_append, List.map_append]
  exact hown

theorem Try_cells4 : Try.prog.cellsOf 4 = 1 := by kernel_rfl
theorem open_boollist {H : Type} {enc : TypeId × Value → H} {W : World} {base : Nat} {v : Value} {d : DataW H} {p : List MemPlace} (hval : Value.okWide Try.prog W .any base 32 v) (h : DataW.Trod enc Try.prog W 0 (fun _ => true) true 32 v d p)
    (hlt : ∀ x ∈ p, x.block < W.heap.size) :
    ∃ A len cap bs, v = .slice A len cap ∧ RdB W.heap.size W A bs ∧ bs.length = len ∧ len ≤ cap ∧ cap ≤ maxLen ∧ (A = Option.none → cap = 0) := by
  obtain ⟨a0, len, cap, rfl⟩ := okWide_slice underlying32' hval
  obtain ⟨fuel, hf⟩ := h
  rcases open_bools underlying32' underlying4 Try_cells4 hf with ⟨hcs, hx⟩ | ⟨a, len', cap', B, hcs, _, hl, hm, hx, hcell⟩
  · simp [Value.cells] at hcs
    obtain ⟨rfl, rfl, rfl⟩ := hcs
    exact ⟨_, _, _, [], rfl, fun h => absurd h (by simp), rfl, Nat.le_refl _, Nat.zero_le _, fun _ => rfl⟩
  · simp [Value.cells] at hcs
    obtain ⟨rfl, rfl, rfl⟩ := hcs
    simp only [Prod.mk.injEq] at hx
    obtain ⟨rfl, rfl⟩ := hx
    refine ⟨some a, len, cap, (List.range len).map B, rfl, fun hn => ?_, by simp, hl, hm, by intro e; cases e⟩
    rw [List.length_map, List.length_range] at hn
    obtain ⟨b, off, spot⟩ := a
    have hspot : spot = Option.none := by simpa [Addr.add] using World.cell?_spot (hcell 0 (by omega))
    subst hspot
    refine ⟨b, off, rfl, hlt (.cell b off) (MemPlace.mem_row.2 ⟨0, by omega, by simp⟩), fun j hj => ?_⟩
    rw [List.length_map, List.length_range] at hj
    rw [← add_plain, hcell j (by omega), List.getElem?_map, List.getElem?_range hj]; rfl
end
section
open Go.RowKit Go.Maps
set_option maxRecDepth 20000

theorem wf_lit {x : Int} (h : Wf x) : (Lit.int .i64 x).wf = true := by
  have := h.1; have := h.2
  simp [Lit.wf, IntKind.min, IntKind.max, IntKind.signed, IntKind.bits]; omega
theorem wf_nat {p : Nat} (h : p ≤ 1000000) : Wf (p : Int) := ⟨by omega, by omega⟩

/-- A slice of integers in a block of the call's own. -/
def QI (w : World) (base : Nat) (v : Value) (zs : List Int) : Prop :=
  (∀ z ∈ zs, Wf z) ∧ ((v = .slice Option.none 0 0 ∧ zs = []) ∨ ∃ (g o c : Nat) (cs : Array Value), v = .slice (some ⟨g, o, none⟩) zs.length c ∧ base ≤ g ∧ w.heap[g]? = some (.cells cs 3 (0, 0)) ∧ zs.length ≤ c ∧ c ≤ maxLen ∧ o + c ≤ cs.size ∧ ∀ j, j < zs.length → cs[o + j]? = some (.int .i64 (zs[j]?.getD 0)))
theorem QI.nil (w : World) (base : Nat) : QI w base (.slice Option.none 0 0) [] := ⟨by simp, .inl ⟨rfl, rfl⟩⟩
theorem QI.same {w w' : World} {base : Nat} {v : Value} {zs : List Int} (h : QI w base v zs) (hb : ∀ k, v.ownBlock = some k → w'.heap[k]? = w.heap[k]?) : QI w' base v zs := by
  refine ⟨h.1, ?_⟩
  rcases h.2 with h2 | ⟨g, o, c, cs, rfl, hbase, hg, h3⟩
  · exact .inl h2
  · exact .inr ⟨g, o, c, cs, rfl, hbase, (hb g rfl).trans hg, h3⟩
theorem QI.lt {w : World} {base : Nat} {v : Value} {zs : List Int} (h : QI w base v zs) {k : Nat} (hk : v.ownBlock = some k) : base ≤ k ∧ k < w.heap.size := by
  rcases h.2 with ⟨rfl, _⟩ | ⟨g, o, c, cs, rfl, hbase, hg, _⟩
  · cases hk
  · injection hk with hk
    subst hk
    exact ⟨hbase, (Array.getElem?_eq_some_iff.1 hg).1⟩
theorem QI.block {w : World} {base : Nat} {v : Value} {zs : List Int} (h : QI w base v zs) {k : Nat} (hk : v.ownBlock = some k) : ∃ cs, w.heap[k]? = some (.cells cs 3 (0, 0)) := by
  rcases h.2 with ⟨rfl, _⟩ | ⟨g, o, c, cs, rfl, hbase, hg, _⟩
  · cases hk
  · injection hk with hk
    subst hk
    exact ⟨cs, hg⟩
theorem QI.shape {w : World} {base : Nat} {v : Value} {zs : List Int} (h : QI w base v zs) : ∃ A c, v = .slice A zs.length c ∧ zs.length ≤ c ∧ RdI w.heap.size w A zs := by
  obtain ⟨h1, ⟨rfl, rfl⟩ | ⟨g, o, c, cs, rfl, hbase, hg, h3, _, _, h4⟩⟩ := h
  · exact ⟨none, 0, rfl, by simp, RdI.nil _ _ _⟩
  · refine ⟨_, c, rfl, h3, h1, fun _ => ⟨g, o, rfl, (Array.getElem?_eq_some_iff.1 hg).1, fun j hj => ?_⟩⟩
    rw [cell_of_row w g (o + j) cs 3 (0, 0) hg]
    exact h4 j hj
/-- The rest of a slice that is cut. -/
theorem QI.cut {w : World} {base : Nat} {A : Option Addr} {n c : Nat} {zs : List Int} (h : QI w base (.slice A n c) zs) (k : Nat) (hk : k ≤ zs.length) : QI w base (.slice (cutA c k A) (n - k) (c - k)) (zs.drop k) ∧ n = zs.length := by
  obtain ⟨h1, ⟨e, rfl⟩ | ⟨g, o, c', cs, e, hbase, hg, h3, h3', h3'', h4⟩⟩ := h
  · injection e with e1 e2 e3
    subst e1; subst e2; subst e3
    refine ⟨⟨by simp, .inl ⟨?_, by simp⟩⟩, rfl⟩
    unfold cutA
    split <;> simp
  · injection e with e1 e2 e3
    subst e1; subst e2; subst e3
    refine ⟨⟨fun z hz => h1 z (List.mem_of_mem_drop hz), .inr ?_⟩, rfl⟩
    unfold cutA
    by_cases q : c = k
    · rw [if_pos q]
      refine ⟨g, o, c - k, cs, by rw [List.length_drop], hbase, hg, by rw [List.length_drop]; omega, by omega, by omega, fun j hj => ?_⟩
      rw [List.length_drop] at hj; omega
    · rw [if_neg q]
      refine ⟨g, o + k, c - k, cs, by rw [List.length_drop, Option.map_some, add_plain], hbase, hg, by rw [List.length_drop]; omega, by omega, by omega, fun j hj => ?_⟩
      rw [List.length_drop] at hj
      rw [Nat.add_assoc, h4 (k + j) (by omega), List.getElem?_drop]
theorem ownBlock_cut (A : Option Addr) (n c k m d : Nat) : (Value.slice (cutA c k A) m d).ownBlock = (Value.slice A n c).ownBlock := by
  unfold cutA
  split
  · cases A <;> rfl
  · cases A with
    | none => rfl
    | some a => obtain ⟨b, o, s⟩ := a; show some (Addr.add _ _).block = some b; unfold Addr.add; split <;> rfl
/-- An append of one integer to such a slice. -/
theorem step_push {ops : Array Oper} {o : Oper} {a : Act} {w : World} {K : Act → World → Prop} {Q : Exit → Act → World → Prop} {E : Prop} (hgd : o.guard = none) (s x : Operand)
    (ho : o.op = .call { callee := .builtin .append, args := #[s, x], argTypes := #[22, 22] }) (base : Nat) (v : Value) (zs : List Int) (hs : a.eval s = v) (hq : QI w base v zs) (z : Int) (hz : Wf z) (gx : Nat)
    (hx : a.eval x = .slice (some ⟨gx, 0, none⟩) 1 1) (hcell : w.cell? ⟨gx, 0, none⟩ = some (.int .i64 z)) (hlen : zs.length ≤ 1000000) (hbase : base ≤ w.heap.size)
    (h : ∀ v' w', QI w' base v' (zs ++ [z]) → w.grownBy w' v.ownBlock → (v'.ownBlock = v.ownBlock ∨ ∀ k, v'.ownBlock = some k → w.heap.size ≤ k) → K (a.put o.dst v') w') : if Region.wanted o (yielded ops a.tmps) = true then Oper.wp Try.prog o a w K Q else E := by
  obtain ⟨i0, hi, hz0, hz1, hz2⟩ := info_parts info3
  have hnew : ∀ j u, ([.int .i64 z] : List Value)[j]? = some u → w.cell? ((⟨gx, 0, none⟩ : Addr).add j) = some u := by
    intro j u hj
    have hj0 : j = 0 := by
      have := (List.getElem?_eq_some_iff.1 hj).1
      simp at this; omega
    subst hj0
    have hj : some (Value.int .i64 z) = some u := hj
    rw [add_plain, ← hj]; exact hcell
  have hone : ∀ u ∈ ([.int .i64 z] : List Value), u.oneCell' = true := by intro u hu; rw [List.mem_singleton.1 hu]; rfl
  have hsnoc : ∀ y ∈ zs ++ [z], Wf y := by
    intro y hy
    rcases List.mem_append.1 hy with hy | hy
    · exact hq.1 y hy
    · rw [List.mem_singleton.1 hy]; exact hz
  have hgrow : ∀ v' w', w'.ownsRow w.heap.size 3 1 v' (zs.length + 1) (zs.map (Value.int .i64) ++ [.int .i64 z]) → QI w' base v' (zs ++ [z]) ∧ ∀ k, v'.ownBlock = some k → w.heap.size ≤ k := by
    intro v' w' hown
    have hrow : RowI w' w.heap.size v' (zs ++ [z]) := RowI.snoc hz hq.1 hown
    refine ⟨⟨hsnoc, ?_⟩, fun k hk => (hown.lt k hk).1⟩
    rcases hrow.2.2 with ⟨_, e⟩ | ⟨g, cap, cur, rfl, hb, hg, hn, hcm, hcs, ht⟩
    · simp at e
    · refine .inr ⟨g, 0, cap, cur, rfl, by omega, hg, hn, hcm, by omega, fun j hj => ?_⟩
      have hc := World.ownsRow.cellAt (w := w') (base := w.heap.size) (e := 3) (size := 1) (g := g) (n := (zs ++ [z]).length) (cap := cap) (xs := (zs ++ [z]).map (Value.int .i64)) hrow.2 j (by omega)
      rw [cell_of_row w' g j cur 3 (0, 0) hg] at hc
      rw [Nat.zero_add, hc, intsAt _ j hj]
  obtain ⟨hwf, ⟨rfl, rfl⟩ | ⟨g, of, c, cs, rfl, hbg, hg, hnc, hcm, hoc, hcell4⟩⟩ := hq
  · refine step_append_grows hgd s x 22 ho 3 i0 (.int .i64 0) 1 8 underlying22 hi hz0 hz1 hz2 rfl (by decide) none 0 0 [] hs (fun _ => ⟨rfl, rfl⟩) rfl (fun b e => by cases e) ⟨gx, 0, none⟩ 1 1 [.int .i64 z] hx rfl hnew hone (by omega) (by unfold maxLen; omega) (by omega) ?_
    intro v' w' hown hgr
    obtain ⟨h1, h2⟩ := hgrow v' w' (by simpa using hown)
    exact h v' w' h1 hgr (.inr h2)
  · by_cases hfit : zs.length + 1 ≤ c
    · refine step_append_room hgd s x 22 ho 3 i0 1 underlying22 hi hz1 g of zs.length c hs ⟨gx, 0, none⟩ 1 1 [.int .i64 z] hx rfl hnew hone hfit ?_ ?_
      · intro j hj
        have hj0 : j = 0 := by simp at hj; omega
        subst hj0
        refine ⟨?_, frozen_of_row w g _ cs 3 hg⟩
        rw [cell_of_row w g _ cs 3 (0, 0) hg]
        simp only [Nat.mul_one, Nat.add_zero]
        rw [Array.getElem?_eq_getElem (by omega)]; rfl
      · have hst : (w.setCells g (of + zs.length * 1) [.int .i64 z]) = w.setCell ⟨g, of + zs.length, none⟩ (.int .i64 z) := by rw [Nat.mul_one]; rfl
        rw [hst]
        have hsame := heap_setCell_same w g (of + zs.length) cs 3 (.int .i64 z) hg
        refine h _ _ ⟨hsnoc, .inr ⟨g, of, c, _, by rw [List.length_append]; rfl, hbg, hsame, by rw [List.length_append]; exact hfit, hcm, by simpa using hoc, fun j hj => ?_⟩⟩ ⟨rfl, rfl, rfl, by simp [World.setCell], fun k _ hk => heap_setCell_other w ⟨g, of + zs.length, none⟩ k _ (fun e => hk (by simp [Value.ownBlock, e]))⟩ (.inl rfl)
        rw [List.length_append] at hj
        have hj : j < zs.length + 1 := hj
        by_cases e : j = zs.length
        · subst e
          rw [List.getElem?_append_right (Nat.le_refl _), Nat.sub_self]
          simp only [Array.getElem?_setIfInBounds]
          rw [if_pos trivial, if_pos (by omega)]; rfl
        · rw [List.getElem?_append_left (by omega)]
          simp only [Array.getElem?_setIfInBounds]
          rw [if_neg (by omega)]
          exact hcell4 j (by omega)
    · refine step_append_grows hgd s x 22 ho 3 i0 (.int .i64 0) 1 8 underlying22 hi hz0 hz1 hz2 rfl (by decide) (some ⟨g, of, none⟩) zs.length c (zs.map (Value.int .i64)) hs (fun e => by cases e) (by rw [List.length_map, Nat.mul_one]) (fun b e j u hj => ?_) ⟨gx, 0, none⟩ 1 1 [.int .i64 z] hx rfl hnew hone (by omega) (by unfold maxLen; omega) (by omega) ?_
      · injection e with e
        subst e
        have hjl : j < zs.length := by
          have := (List.getElem?_eq_some_iff.1 hj).1
          simpa using this
        rw [intsAt zs j hjl] at hj
        injection hj with hj
        rw [add_plain, cell_of_row w g (of + j) cs 3 (0, 0) hg, ← hj]
        exact hcell4 j hjl
      · intro v' w' hown hgr
        obtain ⟨h1, h2⟩ := hgrow v' w' hown
        exact h v' w' h1 ⟨hgr.os, hgr.tape, hgr.output, hgr.size, fun k hk hne => hgr.block k hk (by intro e; cases e)⟩ (.inr h2)
end
section
open Go.RowKit Go.Maps
set_option maxRecDepth 30000

theorem take_now {P : Program} {md : Region.Mode} {ops : Array Oper} {Q : Exit → Act → World → Prop} {i : Nat} (d : Option Tmp) {oi : Oper} {v : Value} {fuel : Nat} {listed : Array Bool} {a : Act} {w : World} (hi : ops[i]? = some oi)
    (hs : Region.noSelect ops = true) (hf : Region.free md ops listed i = true) (hr : (Region.ready md ops listed).contains i = true)
    (hQ : ∀ c a w, Q (.panic c) (a.put oi.dst v) w → Q (.panic c) a w) (hy : Yields P ops oi v a) (hd : oi.dst = d)
    (h : wpAny P md ops Q fuel (listed.setIfInBounds i true) (a.put d v) w) : wpAny P md ops Q (fuel + 1) listed a w := by
  subst hd
  exact wpAny_take hi hs hf hr hQ hy h
end
section
open Go.RowKit Go.Maps
set_option maxRecDepth 100000
theorem push_q {ops : Array Oper} {rest : List Oper} {o : Oper} {a : Act} {Q : Exit → Act → World → Prop} {w : World} (hgd : o.guard = none) (s x : Operand)
    (ho : o.op = .call { callee := .builtin .append, args := #[s, x], argTypes := #[22, 22] }) (base : Nat) (v : Value) (zs : List Int) (hs : a.eval s = v) (hq : QI w base v zs) (z : Int) (hz : Wf z) (gx : Nat)
    (hx : a.eval x = .slice (some ⟨gx, 0, none⟩) 1 1) (hcell : w.cell? ⟨gx, 0, none⟩ = some (.int .i64 z)) (hlen : zs.length ≤ 1000000) (hbase : base ≤ w.heap.size)
    (h : ∀ v' w', QI w' base v' (zs ++ [z]) → w.grownBy w' v.ownBlock → (v'.ownBlock = v.ownBlock ∨ ∀ k, v'.ownBlock = some k → w.heap.size ≤ k) → wpList Try.prog ops Q rest (a.put o.dst v') w') : wpList Try.prog ops Q (o :: rest) a w := by
  have hk := step_push (ops := ops) (K := wpList Try.prog ops Q rest) (Q := Q) (E := False) hgd s x ho base v zs hs hq z hz gx hx hcell hlen hbase h
  unfold wpList
  split at hk
  · rename_i hw
    rw [if_pos hw]
    exact .inl hk
  · exact hk.elim
end
section
open Go.ChangeShapes Go.WideShapes Go.ChangeAt Go.RowKit
set_option maxRecDepth 100000
/-- Two rows in blocks of their own. -/
def Dis (v u : Value) : Prop := ∀ k, ¬ (v.ownBlock = some k ∧ u.ownBlock = some k)
theorem Dis.symm {v u : Value} (h : Dis v u) : Dis u v := fun k ⟨a, b⟩ => h k ⟨b, a⟩
theorem Dis.nil (u : Value) : Dis (.slice Option.none 0 0) u := fun k ⟨a, _⟩ => by simp [Value.ownBlock] at a
/-- An append to one of two rows. -/
theorem push_q2 {ops : Array Oper} {rest : List Oper} {o : Oper} {a : Act} {Q : Exit → Act → World → Prop} {w : World} (hgd : o.guard = none) (s x : Operand)
    (ho : o.op = .call { callee := .builtin .append, args := #[s, x], argTypes := #[22, 22] }) (base : Nat) (v u : Value) (zs ys : List Int) (hs : a.eval s = v) (hv : QI w base v zs) (hu : QI w base u ys) (hd : Dis v u) (z : Int) (hz : Wf z)
    (hx : a.eval x = .slice (some ⟨w.heap.size, 0, none⟩) 1 1) (hlen : zs.length ≤ 1000000) (hbase : base ≤ w.heap.size)
    (h : ∀ v' w', QI w' base v' (zs ++ [z]) → QI w' base u ys → Dis v' u → Below base w w' → w.heap.size ≤ w'.heap.size → wpList Try.prog ops Q rest (a.put o.dst v') w') : wpList Try.prog ops Q (o :: rest) a (w.alloc (.cells #[.int .i64 z] 3)) := by
  have hv1 : QI (w.alloc (.cells #[.int .i64 z] 3)) base v zs := hv.same fun k hk => heap_alloc_old w _ (hv.lt hk).2
  refine push_q hgd s x ho base v zs hs hv1 z hz w.heap.size hx ?_ hlen (by simp; omega) ?_
  · have := cell_of_row (w.alloc (.cells #[.int .i64 z] 3)) w.heap.size 0 _ 3 (0, 0) (heap_alloc_new w _)
    rw [this]; rfl
  · intro v' w' hq hg hb
    have low := ((Below.refl base w).alloc hbase (.cells #[.int .i64 z] 3)).grown hg (by simp; omega) (fun k hk => (hv.lt hk).1)
    refine h v' w' hq (hu.same fun k hk => ?_) ?_ low low.size
    · have hk2 := (hu.lt hk).2
      refine (hg.block k (by simp; omega) ?_).trans (heap_alloc_old w _ hk2)
      intro e
      exact hd k ⟨e.symm, hk⟩
    · intro k ⟨k1, k2⟩
      rcases hb with e | e
      · exact hd k ⟨by rw [← e]; exact k1, k2⟩
      · have h3 := e k k1
        have h4 := (hu.lt k2).2
        rw [World.size_alloc] at h3
        omega
end
end Go.Proofs.Ytoacfjmefoiflaa
