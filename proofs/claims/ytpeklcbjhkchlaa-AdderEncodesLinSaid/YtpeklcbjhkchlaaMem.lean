/- Memory words of this seat: slices of integers that read as lists, rows of the call's own, rows of such rows, single cells, what a call keeps. -/
import Derived.Test.YtpeklcbjhkchlaaRows
import Derived.WalkKit
import Derived.OwnWalk
import Derived.Lib.Hide
import Derived.Laws.Rows
import Derived.Outline
import Derived.Deep.Draws
import Derived.BigQuiet
import Derived.Deep.QuietTactic
import Derived.Deep.RegionWith
import Derived.WalkSpells
import Derived.Laws.AppendOwnNone
import Derived.RangeFuncBox
import Derived.RangeFuncNested
import Derived.Maps.AppendAt
import Derived.OpenShut
namespace Go.Proofs.Ytpeklcbjhkchlaa
open Go.RowKit

def Wf (z : Int) : Prop := -9223372036854775808 ≤ z ∧ z ≤ 9223372036854775807
/-- A slice at A reads as these integers, in a block below B. -/
def RdI (B : Nat) (w : World) (A : Option Addr) (zs : List Int) : Prop :=
  (∀ z ∈ zs, Wf z) ∧ (0 < zs.length → ∃ b off, A = some ⟨b, off, none⟩ ∧ b < B ∧ ∀ j, j < zs.length → w.cell? ⟨b, off + j, none⟩ = some (.int .i64 (zs[j]?.getD 0)))
theorem RdI.below {B B' : Nat} {w w' : World} {A : Option Addr} {zs : List Int} (h : RdI B w A zs) (hb : Below B' w w') (hB : B ≤ B') : RdI B w' A zs := by
  refine ⟨h.1, fun hn => ?_⟩
  obtain ⟨b, off, rfl, hbl, hcell⟩ := h.2 hn
  exact ⟨b, off, rfl, hbl, fun j hj => (hb.cell (p := ⟨b, off + j, none⟩) (by show b < B'; omega)).trans (hcell j hj)⟩
theorem RdI.more {B B' : Nat} {w : World} {A : Option Addr} {zs : List Int} (h : RdI B w A zs) (hB : B ≤ B') : RdI B' w A zs := by
  refine ⟨h.1, fun hn => ?_⟩
  obtain ⟨b, off, rfl, hbl, hcell⟩ := h.2 hn
  exact ⟨b, off, rfl, by omega, hcell⟩
theorem RdI.drewN {B : Nat} {w : World} {A : Option Addr} {zs : List Int} (h : RdI B w A zs) (n : Nat) : RdI B (w.drewN n) A zs := h
theorem RdI.nil (B : Nat) (w : World) (A : Option Addr) : RdI B w A [] := ⟨by simp, fun h => absurd h (by simp)⟩
theorem RdI.wf {B : Nat} {w : World} {A : Option Addr} {zs : List Int} (h : RdI B w A zs) {j : Nat} (hj : j < zs.length) : Wf (zs[j]?.getD 0) := by
  rw [List.getElem?_eq_getElem hj]; exact h.1 _ (List.getElem_mem hj)
theorem add_plain (b off k : Nat) : (⟨b, off, none⟩ : Addr).add k = ⟨b, off + k, none⟩ := by unfold Addr.add; split <;> simp_all
/-- Where a slice begins that is cut at k. -/
def cutA (cap k : Nat) (A : Option Addr) : Option Addr := if cap = k then A else A.map (·.add k)
theorem RdI.cut {B : Nat} {w : World} {A : Option Addr} {zs : List Int} (h : RdI B w A zs) {k cap : Nat} (hc : zs.length ≤ cap) : RdI B w (cutA cap k A) (zs.drop k) := by
  refine ⟨fun c hx => h.1 c (List.mem_of_mem_drop hx), fun hn => ?_⟩
  rw [List.length_drop] at hn
  obtain ⟨b, off, rfl, hb, hcell⟩ := h.2 (by omega)
  refine ⟨b, off + k, ?_, hb, fun j hj => ?_⟩
  · unfold cutA; rw [if_neg (by omega)]; simp [add_plain]
  · rw [List.length_drop] at hj
    have := hcell (k + j) (by omega)
    rw [Nat.add_assoc, this, List.getElem?_drop]
theorem RdI.take {B : Nat} {w : World} {A : Option Addr} {zs : List Int} (h : RdI B w A zs) (n : Nat) : RdI B w A (zs.take n) := by
  refine ⟨fun c hx => h.1 c (List.mem_of_mem_take hx), fun hn => ?_⟩
  rw [List.length_take] at hn
  obtain ⟨b, off, rfl, hb, hcell⟩ := h.2 (by omega)
  refine ⟨b, off, rfl, hb, fun j hj => ?_⟩
  rw [List.length_take] at hj
  rw [hcell j (by omega), List.getElem?_take_of_lt (by omega)]
theorem elem22 : Try.prog.underlying 22 = some (.slice (Try.prog.elem 22)) := by kernel_rfl
theorem size22 (w : World) : (sizeOf (Try.prog.elem 22)).run Try.prog w = .ok 1 w := by kernel_rfl
theorem run_cut (w : World) (A : Option Addr) (len cap k : Nat) (hk : k ≤ len) :
    (Instr.slice 22 (.slice A len cap) (some (.int .i64 (k : Int))) none none).run Try.prog w = .ok (.slice (cutA cap k A) (len - k) (cap - k)) w := by
  rw [run_slice_l (P := Try.prog) w 22 A len cap elem22 .i64 (k : Int) (by omega) (by omega), size22]
  simp [Result.andThen, sliced, cutA]
theorem run_head (w : World) (A : Option Addr) (len cap k : Nat) (hk : k ≤ cap) :
    (Instr.slice 22 (.slice A len cap) none (some (.int .i64 (k : Int))) none).run Try.prog w = .ok (.slice A k cap) w := by
  rw [run_slice_h (P := Try.prog) w 22 A len cap elem22 .i64 (k : Int) (by omega) (by omega), size22]
  have e : (A.map fun x => x.add 0) = A := by cases A <;> simp [Addr.add]
  simp [Result.andThen, sliced, e]

theorem below_drewN {B : Nat} {a w : World} (h : Below B a w) (n : Nat) : Below B a (w.drewN n) := ⟨h.os, h.tape, h.output, h.size, h.block⟩
theorem own_below {w w' : World} {base e size n : Nat} {v : Value} {xs : List Value} (h : w.ownsRow base e size v n xs) (hb : Below w.heap.size w w') : w'.ownsRow base e size v n xs := by
  refine ⟨h.1, ?_⟩
  rcases h.2 with h2 | ⟨g, cap, cur, rfl, hbase, hg, h3⟩
  · exact .inl h2
  · exact .inr ⟨g, cap, cur, rfl, hbase, (hb.block g (Array.getElem?_eq_some_iff.1 hg).1).trans hg, h3⟩
theorem own_shape {w : World} {base e size n : Nat} {v : Value} {xs : List Value} (h : w.ownsRow base e size v n xs) : ∃ A c, v = .slice A n c := by
  rcases h.2 with ⟨e, h0⟩ | ⟨g', cap', cur, e, _⟩
  · subst h0; exact ⟨_, _, e⟩
  · exact ⟨_, _, e⟩
theorem own_base {w : World} {base base' e size n : Nat} {v : Value} {xs : List Value} (h : w.ownsRow base e size v n xs) (hb : base' ≤ base) : w.ownsRow base' e size v n xs := by
  refine ⟨h.1, ?_⟩
  rcases h.2 with h2 | ⟨g', cap', cur, h1, h2, h3⟩
  · exact .inl h2
  · exact .inr ⟨g', cap', cur, h1, by omega, h3⟩
/-- No block of cells of this type lies there. -/
def Off (t : TypeId) (w : World) (row : Option Nat) : Prop := ∀ r, row = some r → ∀ cs, w.heap[r]? ≠ some (.cells cs t (0, 0))
theorem off_none (t : TypeId) (w : World) : Off t w Option.none := fun r h => by cases h
theorem off_boxed {t u : TypeId} {w : World} {g : Nat} {v : Value} (h : Boxed w g u v) (hne : u ≠ t) : Off t w (some g) := by
  intro r hr cs h2
  injection hr with hr; subst hr
  unfold Boxed at h
  rw [h] at h2; injection h2 with h2; injection h2 with _ h3
  exact hne h3
theorem off_own {t e : TypeId} {w : World} {base size n : Nat} {v : Value} {xs : List Value} (h : w.ownsRow base e size v n xs) (hne : e ≠ t) : Off t w v.ownBlock := by
  intro r hr cs h2
  rcases h.2 with ⟨rfl, _⟩ | ⟨g, cap, cur, rfl, _, hg, _⟩
  · simp [Value.ownBlock] at hr
  · have : g = r := by simpa [Value.ownBlock] using hr
    subst this
    rw [hg] at h2; injection h2 with h2; injection h2 with _ h3
    exact hne h3
theorem Boxed.lower {B : Nat} {w w' : World} {g : Nat} {t : TypeId} {v : Value} (h : Boxed w g t v) (hb : Below B w w') (hg : g < B) : Boxed w' g t v := (hb.block g hg).trans h

/-- A row of integers of the call's own. -/
def RowI (w : World) (base : Nat) (v : Value) (zs : List Int) : Prop := (∀ z ∈ zs, Wf z) ∧ w.ownsRow base 3 1 v zs.length (zs.map (Value.int .i64))
theorem intsAt (zs : List Int) (j : Nat) (hj : j < zs.length) : (zs.map (Value.int .i64))[j]? = some (.int .i64 (zs[j]?.getD 0)) := by simp [hj]
theorem RowI.shape {w : World} {base : Nat} {v : Value} {zs : List Int} (h : RowI w base v zs) : ∃ A cap, v = .slice A zs.length cap ∧ zs.length ≤ cap ∧ cap ≤ maxLen ∧ RdI w.heap.size w A zs := by
  obtain ⟨hb, h1, ⟨rfl, h2⟩ | ⟨g, cap, cur, rfl, hbase, hg, hn, hcm, hcs, ht⟩⟩ := h
  · exact ⟨none, 0, by rw [h2], by omega, Nat.zero_le _, hb, fun hp => by omega⟩
  · refine ⟨_, cap, rfl, hn, hcm, hb, fun _ => ⟨g, 0, rfl, (Array.getElem?_eq_some_iff.1 hg).1, fun j hj => ?_⟩⟩
    have hc := World.ownsRow.cellAt (w := w) (base := base) (e := 3) (size := 1) (g := g) (n := zs.length) (cap := cap) (xs := zs.map (Value.int .i64)) ⟨h1, .inr ⟨g, cap, cur, rfl, hbase, hg, hn, hcm, hcs, ht⟩⟩ j (by omega)
    rw [Nat.zero_add, hc, intsAt zs j hj]
theorem RowI.kept {w w' : World} {base : Nat} {v : Value} {zs : List Int} {row : Option Nat} (h : RowI w base v zs) (hg : w.grownBy w' row) (hne : v.ownBlock = none ∨ v.ownBlock ≠ row) : RowI w' base v zs := ⟨h.1, h.2.kept hg hne⟩
theorem RowI.alloc {w : World} {base : Nat} {v : Value} {zs : List Int} (h : RowI w base v zs) (o : Obj) : RowI (w.alloc o) base v zs := ⟨h.1, h.2.alloc o⟩
theorem RowI.below {w w' : World} {base : Nat} {v : Value} {zs : List Int} (h : RowI w base v zs) (hb : Below w.heap.size w w') : RowI w' base v zs := ⟨h.1, own_below h.2 hb⟩
theorem RowI.base {w : World} {base base' : Nat} {v : Value} {zs : List Int} (h : RowI w base v zs) (hb : base' ≤ base) : RowI w base' v zs := ⟨h.1, own_base h.2 hb⟩
theorem RowI.empty (w : World) (base : Nat) : RowI w base (.slice Option.none 0 0) [] := ⟨by simp, by simpa using World.ownsRow_nil _ _ _ _⟩
theorem RowI.apart {w w' : World} {base : Nat} {v : Value} {zs : List Int} {row : Option Nat} (h : RowI w base v zs) (hg : w.grownBy w' row) (ho : Off 3 w row) : RowI w' base v zs := by
  refine h.kept hg ?_
  rcases h.2.2 with ⟨rfl, _⟩ | ⟨g, cap, cur, rfl, _, hgg, _⟩
  · exact .inl rfl
  · exact .inr fun e => ho g (by simpa [Value.ownBlock] using e.symm) cur hgg
/-- A store below the row's own block leaves the row. -/
theorem RowI.stored {w : World} {base : Nat} {v u : Value} {zs : List Int} {g : Nat} (h : RowI w base v zs) (hg : g < base) : RowI (w.setCell ⟨g, 0, none⟩ u) base v zs :=
  h.kept (grownBy_setCell' w g u) (.inr fun e => by have := (h.2.lt _ e).1; omega)
theorem RowI.snoc {w : World} {base : Nat} {v : Value} {zs : List Int} {z : Int} (hz : Wf z) (h1 : ∀ z ∈ zs, Wf z) (h : w.ownsRow base 3 1 v (zs.length + 1) (zs.map (Value.int .i64) ++ [.int .i64 z])) : RowI w base v (zs ++ [z]) := by
  refine ⟨fun x hx => ?_, by simpa using h⟩
  rcases List.mem_append.1 hx with hx | hx
  · exact h1 x hx
  · rw [List.mem_singleton.1 hx]; exact hz
theorem info3 : (Try.prog.info? 3).map (fun i => (i.zero, i.size, i.bytes)) = some (some (.int .i64 0), 1, 8) := by kernel_rfl
theorem info22 : (Try.prog.info? 22).map (fun i => (i.zero, i.size, i.bytes)) = some (some (.slice Option.none 0 0), 1, 24) := by kernel_rfl
theorem underlying22 : Try.prog.underlying 22 = some (.slice 3) := by kernel_rfl
theorem underlying24 : Try.prog.underlying 24 = some (.slice 22) := by kernel_rfl

/-- These values are rows of the call's own, with these integers. -/
def Els (w : World) (base : Nat) (vs : List Value) (xss : List (List Int)) : Prop :=
  vs.length = xss.length ∧ ∀ j, j < xss.length → ∃ u, vs[j]? = some u ∧ RowI w base u (xss[j]?.getD [])
theorem Els.nil (w : World) (base : Nat) : Els w base [] [] := ⟨rfl, fun j h => absurd h (by simp)⟩
theorem Els.apart {w w' : World} {base : Nat} {vs : List Value} {xss : List (List Int)} {row : Option Nat} (h : Els w base vs xss) (hg : w.grownBy w' row) (ho : Off 3 w row) : Els w' base vs xss :=
  ⟨h.1, fun j hj => (h.2 j hj).imp fun _ ⟨h1, h2⟩ => ⟨h1, h2.apart hg ho⟩⟩
theorem Els.stored {w : World} {base : Nat} {vs : List Value} {u : Value} {xss : List (List Int)} {g : Nat} (h : Els w base vs xss) (hg : g < base) : Els (w.setCell ⟨g, 0, none⟩ u) base vs xss :=
  ⟨h.1, fun j hj => (h.2 j hj).imp fun _ ⟨h1, h2⟩ => ⟨h1, h2.stored hg⟩⟩
theorem Els.below {w w' : World} {base : Nat} {vs : List Value} {xss : List (List Int)} (h : Els w base vs xss) (hb : Below w.heap.size w w') : Els w' base vs xss :=
  ⟨h.1, fun j hj => (h.2 j hj).imp fun _ ⟨h1, h2⟩ => ⟨h1, h2.below hb⟩⟩
theorem Els.alloc {w : World} {base : Nat} {vs : List Value} {xss : List (List Int)} (h : Els w base vs xss) (o : Obj) : Els (w.alloc o) base vs xss :=
  ⟨h.1, fun j hj => (h.2 j hj).imp fun _ ⟨h1, h2⟩ => ⟨h1, h2.alloc o⟩⟩
theorem Els.base {w : World} {base base' : Nat} {vs : List Value} {xss : List (List Int)} (h : Els w base vs xss) (hb : base' ≤ base) : Els w base' vs xss :=
  ⟨h.1, fun j hj => (h.2 j hj).imp fun _ ⟨h1, h2⟩ => ⟨h1, h2.base hb⟩⟩
theorem Els.append {w : World} {base : Nat} {vs us : List Value} {xss yss : List (List Int)} (h : Els w base vs xss) (g : Els w base us yss) : Els w base (vs ++ us) (xss ++ yss) := by
  refine ⟨by simp [h.1, g.1], fun j hj => ?_⟩
  rw [List.length_append] at hj
  rcases Nat.lt_or_ge j xss.length with h1 | h1
  · obtain ⟨v, hv, hr⟩ := h.2 j h1
    exact ⟨v, by rw [List.getElem?_append_left (by have := h.1; omega)]; exact hv, by rw [List.getElem?_append_left h1]; exact hr⟩
  · obtain ⟨v, hv, hr⟩ := g.2 (j - xss.length) (by omega)
    exact ⟨v, by rw [List.getElem?_append_right (by have := h.1; omega), h.1]; exact hv, by rw [List.getElem?_append_right h1]; exact hr⟩
theorem Els.one' {w : World} {base : Nat} {u : Value} {x : List Int} (h : RowI w base u x) : Els w base [u] [x] :=
  ⟨rfl, fun j hj => by
    have : j = 0 := by simp at hj; omega
    subst this
    exact ⟨u, rfl, h⟩⟩
theorem Els.one {w : World} {base : Nat} {vs : List Value} {xss : List (List Int)} (h : Els w base vs xss) : ∀ u ∈ vs, u.oneCell' = true := by
  intro u hu
  obtain ⟨j, hj, rfl⟩ := List.mem_iff_getElem.1 hu
  obtain ⟨v, hv, hr⟩ := h.2 j (by rw [← h.1]; exact hj)
  rw [List.getElem?_eq_getElem hj] at hv; injection hv with hv
  rw [hv]
  obtain ⟨A, c, e, _⟩ := hr.shape
  rw [e]; rfl
/-- A slice of slices of integers reads as these lists, all in blocks below B. -/
def RdR (B : Nat) (w : World) (A : Option Addr) (xss : List (List Int)) : Prop :=
  0 < xss.length → ∃ b off, A = some ⟨b, off, Option.none⟩ ∧ b < B ∧ ∀ j, j < xss.length → ∃ E c, w.cell? ⟨b, off + j, Option.none⟩ = some (.slice E (xss[j]?.getD []).length c) ∧ RdI B w E (xss[j]?.getD [])
theorem RdR.below {B B' : Nat} {w w' : World} {A : Option Addr} {xss : List (List Int)} (h : RdR B w A xss) (hb : Below B' w w') (hB : B ≤ B') : RdR B w' A xss := by
  intro hn
  obtain ⟨b, off, rfl, hlt, hc⟩ := h hn
  refine ⟨b, off, rfl, hlt, fun j hj => ?_⟩
  obtain ⟨E, c, h1, h2⟩ := hc j hj
  exact ⟨E, c, (hb.cell (p := ⟨b, off + j, Option.none⟩) (by show b < B'; omega)).trans h1, h2.below hb hB⟩
theorem Els.rd {w : World} {base lo n c : Nat} {A : Option Addr} {vs : List Value} {xss : List (List Int)} (h : Els w base vs xss) (ho : w.ownsRow lo 22 1 (.slice A n c) vs.length vs) : n = xss.length ∧ RdR w.heap.size w A xss := by
  have hl := h.1
  rcases ho.2 with ⟨e, h0⟩ | ⟨g, cap, cur, e, _, hg, hn, hcm, hcs, ht⟩
  · injection e with _ e2 _
    exact ⟨by omega, fun hp => by omega⟩
  · injection e with e1 e2 e3
    subst e1; subst e2; subst e3
    refine ⟨hl, fun hp => ⟨g, 0, rfl, (Array.getElem?_eq_some_iff.1 hg).1, fun j hj => ?_⟩⟩
    obtain ⟨u, hu, hrow⟩ := h.2 j hj
    obtain ⟨E, cc, hv, _, _, hrd⟩ := hrow.shape
    subst hv
    refine ⟨E, cc, ?_, hrd⟩
    have hc := World.ownsRow.cellAt (w := w) (base := lo) (e := 22) (size := 1) (g := g) (n := vs.length) (cap := c) (xs := vs) ho j (by omega)
    rw [Nat.zero_add, hc, hu]

/-- A cell that holds a slice of rows of the call's own. -/
def CellR (w : World) (base g : Nat) (xss : List (List Int)) : Prop :=
  ∃ v vs, Boxed w g 24 v ∧ w.ownsRow base 22 1 v vs.length vs ∧ Els w base vs xss
theorem CellR.below {w w' : World} {base g : Nat} {xss : List (List Int)} (h : CellR w base g xss) (hb : Below w.heap.size w w') : CellR w' base g xss := by
  obtain ⟨v, vs, h1, h2, h3⟩ := h
  exact ⟨v, vs, Boxed.lower h1 hb (Boxed.lt h1), own_below h2 hb, h3.below hb⟩
theorem CellR.alloc {w : World} {base g : Nat} {xss : List (List Int)} (h : CellR w base g xss) (o : Obj) : CellR (w.alloc o) base g xss := by
  obtain ⟨v, vs, h1, h2, h3⟩ := h
  exact ⟨v, vs, h1.alloc o, h2.alloc o, h3.alloc o⟩
theorem CellR.stored {w : World} {base g g' : Nat} {u : Value} {xss : List (List Int)} (h : CellR w base g xss) (hne : g ≠ g') (hg : g' < base) : CellR (w.setCell ⟨g', 0, none⟩ u) base g xss := by
  obtain ⟨v, vs, h1, h2, h3⟩ := h
  exact ⟨v, vs, h1.other hne u, h2.kept (grownBy_setCell' w g' u) (.inr fun e => by have := (h2.lt _ e).1; omega), h3.stored hg⟩
end Go.Proofs.Ytpeklcbjhkchlaa
