/- Memory words of this seat: slices of bytes and of integers that read as lists, rows of the call's own, appends, cuts. -/
import Derived.Test.YtnebjihjfghlfaaRows
import Derived.Test.YtnebjihjfghlfaaMath
import Derived.Test.YtnebjihjfghlfaaRange
import Derived.WalkKit
import Derived.OwnWalk
import Derived.Lib.Hide
import Derived.Laws.BitsAllLaws
import Derived.Laws.Rows
import Derived.Outline
import Derived.Deep.Draws
import Derived.BigQuiet
import Derived.Deep.QuietTactic
import Derived.WalkSpells
import Derived.Laws.AppendOwnNone
import Derived.Laws.BytesArg
import Derived.Lib.AppendStr
namespace Go.Proofs.Ytnebjihjfghlfaa
open Go.RowKit

/-- A slice at A reads as these bytes, in a block below B. -/
def Rd (B : Nat) (w : World) (A : Option Addr) (bs : List Nat) : Prop :=
  (∀ c ∈ bs, c < 256) ∧ (0 < bs.length → ∃ b off, A = some ⟨b, off, none⟩ ∧ b < B ∧ ∀ j, j < bs.length → w.cell? ⟨b, off + j, none⟩ = some (.int .u8 (bs[j]?.getD 0 : Nat)))

theorem Rd.byte {B : Nat} {w : World} {A : Option Addr} {bs : List Nat} (h : Rd B w A bs) (j : Nat) : bs[j]?.getD 0 < 256 := by
  rcases Nat.lt_or_ge j bs.length with hj | hj
  · rw [List.getElem?_eq_getElem hj]; exact h.1 _ (List.getElem_mem hj)
  · rw [List.getElem?_eq_none hj]; simp

theorem add_plain (b off k : Nat) : (⟨b, off, none⟩ : Addr).add k = ⟨b, off + k, none⟩ := by unfold Addr.add; split <;> simp_all

/-- Where a slice begins that is cut at k. -/
def cutA (cap k : Nat) (A : Option Addr) : Option Addr := if cap = k then A else A.map (·.add k)

theorem Rd.cut {B : Nat} {w : World} {A : Option Addr} {bs : List Nat} (h : Rd B w A bs) {k cap : Nat} (hc : bs.length ≤ cap) : Rd B w (cutA cap k A) (bs.drop k) := by
  refine ⟨fun c hx => h.1 c (List.mem_of_mem_drop hx), fun hn => ?_⟩
  rw [List.length_drop] at hn
  obtain ⟨b, off, rfl, hb, hcell⟩ := h.2 (by omega)
  refine ⟨b, off + k, ?_, hb, fun j hj => ?_⟩
  · unfold cutA; rw [if_neg (by omega)]; simp [add_plain]
  · rw [List.length_drop] at hj
    have := hcell (k + j) (by omega)
    rw [Nat.add_assoc, this, List.getElem?_drop]
theorem Rd.take {B : Nat} {w : World} {A : Option Addr} {bs : List Nat} (h : Rd B w A bs) (n : Nat) : Rd B w A (bs.take n) := by
  refine ⟨fun c hx => h.1 c (List.mem_of_mem_take hx), fun hn => ?_⟩
  rw [List.length_take] at hn
  obtain ⟨b, off, rfl, hb, hcell⟩ := h.2 (by omega)
  refine ⟨b, off, rfl, hb, fun j hj => ?_⟩
  rw [List.length_take] at hj
  rw [hcell j (by omega), List.getElem?_take_of_lt (by omega)]
theorem Rd.drewN {B : Nat} {w : World} {A : Option Addr} {bs : List Nat} (h : Rd B w A bs) (n : Nat) : Rd B (w.drewN n) A bs := h
theorem Rd.below {B B' : Nat} {w w' : World} {A : Option Addr} {bs : List Nat} (h : Rd B w A bs) (hb : Below B' w w') (hB : B ≤ B') : Rd B w' A bs := by
  refine ⟨h.1, fun hn => ?_⟩
  obtain ⟨b, off, rfl, hbl, hcell⟩ := h.2 hn
  exact ⟨b, off, rfl, hbl, fun j hj => (hb.cell (p := ⟨b, off + j, none⟩) (by show b < B'; omega)).trans (hcell j hj)⟩
theorem Rd.more {B B' : Nat} {w : World} {A : Option Addr} {bs : List Nat} (h : Rd B w A bs) (hB : B ≤ B') : Rd B' w A bs := by
  refine ⟨h.1, fun hn => ?_⟩
  obtain ⟨b, off, rfl, hbl, hcell⟩ := h.2 hn
  exact ⟨b, off, rfl, by omega, hcell⟩
theorem Rd.nil (B : Nat) (w : World) (A : Option Addr) : Rd B w A [] := ⟨by simp, fun h => absurd h (by simp)⟩

theorem elem22 : Try.prog.underlying 22 = some (.slice (Try.prog.elem 22)) := by kernel_rfl
theorem size22 (w : World) : (sizeOf (Try.prog.elem 22)).run Try.prog w = .ok 1 w := by kernel_rfl
theorem run_cut (w : World) (A : Option Addr) (len cap k : Nat) (hk : k ≤ len) :
    (Instr.slice 22 (.slice A len cap) (some (.int .i64 (k : Int))) none none).run Try.prog w = .ok (.slice (cutA cap k A) (len - k) (cap - k)) w := by
  rw [run_slice_l (P := Try.prog) w 22 A len cap elem22 .i64 (k : Int) (by omega) (by omega), size22]
  simp [Result.andThen, sliced, cutA]
theorem run_head (w : World) (A : Option Addr) (len cap k : Nat) (q : IntKind) (hk : k ≤ cap) :
    (Instr.slice 22 (.slice A len cap) none (some (.int q (k : Int))) none).run Try.prog w = .ok (.slice A k cap) w := by
  rw [run_slice_h (P := Try.prog) w 22 A len cap elem22 q (k : Int) (by omega) (by omega), size22]
  have e : (A.map fun x => x.add 0) = A := by cases A <;> simp [Addr.add]
  simp [Result.andThen, sliced, e]
theorem quiet_more {P : Program} {f : FuncId} {args : Array Value} {w : World} {a n : Nat} {v : Value} (h : Calls P f args (w.drewN (a + n)) fun e w' => e = .returned v ∧ ∃ m, w' = (w.drewN (a + n)).drewN m) :
    Calls P f args (w.drewN (a + n)) fun e w'' => e = .returned v ∧ ∃ m, w'' = w.drewN (a + m) :=
  h.mono fun _ _ ⟨he, m, hm⟩ => ⟨he, n + m, by rw [hm, World.drewN_drewN, Nat.add_assoc]⟩
theorem quiet_still {P : Program} {f : FuncId} {args : Array Value} {w : World} {a n : Nat} {v : Value} (h : Calls P f args (w.drewN (a + n)) fun e w' => e = .returned v ∧ w.drewN (a + n) = w') :
    Calls P f args (w.drewN (a + n)) fun e w'' => e = .returned v ∧ ∃ m, w'' = w.drewN (a + m) :=
  h.mono fun _ _ ⟨he, hm⟩ => ⟨he, n, hm.symm⟩

/-! ### Rows of the call's own -/
def cellsOf (bs : List Nat) : List Value := bs.map fun c : Nat => Value.int .u8 (c : Int)
def Row (w : World) (base : Nat) (v : Value) (bs : List Nat) : Prop := (∀ c ∈ bs, c < 256) ∧ w.ownsRow base 5 1 v bs.length (cellsOf bs)
theorem cellsOf_at (bs : List Nat) (j : Nat) (hj : j < bs.length) : (cellsOf bs)[j]? = some (.int .u8 (bs[j]?.getD 0 : Nat)) := by
  simp [cellsOf, hj]
theorem cellsOf_length (bs : List Nat) : (cellsOf bs).length = bs.length := by simp [cellsOf]
theorem cellsOf_one (bs : List Nat) : ∀ u ∈ cellsOf bs, u.oneCell' = true := by
  intro u hu; obtain ⟨x, _, rfl⟩ := List.mem_map.1 hu; rfl
theorem Row.shape {w : World} {base : Nat} {v : Value} {bs : List Nat} (h : Row w base v bs) : ∃ A cap, v = .slice A bs.length cap ∧ bs.length ≤ cap ∧ cap ≤ maxLen ∧ Rd w.heap.size w A bs := by
  obtain ⟨hb, h1, ⟨rfl, h2⟩ | ⟨g, cap, cur, rfl, hbase, hg, hn, hcm, hcs, ht⟩⟩ := h
  · exact ⟨none, 0, by rw [h2], by omega, Nat.zero_le _, hb, fun hp => by omega⟩
  · refine ⟨_, cap, rfl, hn, hcm, hb, fun _ => ⟨g, 0, rfl, (Array.getElem?_eq_some_iff.1 hg).1, fun j hj => ?_⟩⟩
    have hc := World.ownsRow.cellAt (w := w) (base := base) (e := 5) (size := 1) (g := g) (n := bs.length) (cap := cap) (xs := cellsOf bs) ⟨h1, .inr ⟨g, cap, cur, rfl, hbase, hg, hn, hcm, hcs, ht⟩⟩ j (by omega)
    rw [Nat.zero_add, hc, cellsOf_at bs j hj]
theorem Rd.cellAdd {B : Nat} {w : World} {a : Addr} {bs : List Nat} (h : Rd B w (some a) bs) : ∀ j u, (cellsOf bs)[j]? = some u → w.cell? (a.add j) = some u := by
  intro j u hj
  have hlt : j < bs.length := by have := (List.getElem?_eq_some_iff.1 hj).1; rwa [cellsOf_length] at this
  obtain ⟨b, off, e, _, hc⟩ := h.2 (by omega)
  injection e with e; subst e
  rw [add_plain, hc j hlt, ← cellsOf_at bs j hlt, hj]

theorem Try.info5 : (Try.prog.info? 5).map (fun i => (i.zero, i.size, i.bytes)) = some (some (.int .u8 0), 1, 1) := by kernel_rfl

theorem Row.kept {w w' : World} {base : Nat} {v : Value} {bs : List Nat} {row : Option Nat} (h : Row w base v bs) (hg : w.grownBy w' row) (hne : v.ownBlock = none ∨ v.ownBlock ≠ row) : Row w' base v bs := ⟨h.1, h.2.kept hg hne⟩
theorem Row.alloc {w : World} {base : Nat} {v : Value} {bs : List Nat} (h : Row w base v bs) (o : Obj) : Row (w.alloc o) base v bs := ⟨h.1, h.2.alloc o⟩
theorem Row.base {w : World} {base base' : Nat} {v : Value} {bs : List Nat} (h : Row w base v bs) (hb : base' ≤ base) : Row w base' v bs := by
  refine ⟨h.1, h.2.1, ?_⟩
  rcases h.2.2 with h2 | ⟨g, cap, cur, rfl, hbase, h3⟩
  · exact .inl h2
  · exact .inr ⟨g, cap, cur, rfl, by omega, h3⟩
theorem Row.below {w w' : World} {base : Nat} {v : Value} {bs : List Nat} (h : Row w base v bs) (hb : Below w.heap.size w w') : Row w' base v bs := by
  refine ⟨h.1, h.2.1, ?_⟩
  rcases h.2.2 with h2 | ⟨g, cap, cur, rfl, hbase, hg, h3⟩
  · exact .inl h2
  · exact .inr ⟨g, cap, cur, rfl, hbase, (hb.block g (Array.getElem?_eq_some_iff.1 hg).1).trans hg, h3⟩

theorem wpList_append_row {ops : Array Oper} {rest : List Oper} {o : Oper} {a : Act} {Q : Exit → Act → World → Prop} {w : World} (hgd : o.guard = none) (s x : Operand)
    (ho : o.op = .call { callee := .builtin .append, args := #[s, x], argTypes := #[22, 22] })
    (base : Nat) (v : Value) (bs : List Nat) (hs : a.eval s = v) (hrow : Row w base v bs)
    (B : Nat) (A : Option Addr) (m c : Nat) (cs : List Nat) (hx : a.eval x = .slice A m c) (hr : Rd B w A cs) (hm : cs.length = m) (hn : A = none → c = 0)
    (hbound : bs.length + m ≤ 140737488355328) (hbase : base ≤ w.heap.size)
    (h : ∀ v' w', Row w' base v' (bs ++ cs) → w.grownBy w' v.ownBlock → wpList Try.prog ops Q rest (a.put o.dst v') w') : wpList Try.prog ops Q (o :: rest) a w := by
  obtain ⟨i0, hi, hz0, hz1, hz2⟩ := info_parts Try.info5
  cases A with
  | none =>
    have hc := hn rfl
    subst hc
    have h0 : cs = [] := by
      rcases Nat.eq_zero_or_pos cs.length with e | e
      · exact List.eq_nil_of_length_eq_zero e
      · obtain ⟨b, off, e, _⟩ := hr.2 e; cases e
    subst h0
    have hm0 : m = 0 := by rw [← hm]; rfl
    subst hm0
    exact wpList_append_own_none hgd s x 22 ho base 5 i0 1 Try.underlying22 hi v bs.length (cellsOf bs) hs hrow.2 hx (h v w (by simpa using hrow) (World.grownBy.refl w _))
  | some ad =>
    refine wpList_append_own w hgd s x 22 ho base 5 i0 (.int .u8 0) 1 1 Try.underlying22 hi hz0 hz1 hz2 rfl (by decide) v bs.length (cellsOf bs) hs hrow.2 ad m c (cellsOf cs) hx (by rw [cellsOf_length, hm, Nat.mul_one]) hr.cellAdd (cellsOf_one cs) (by unfold maxLen; omega) (by omega) hbase ?_
    intro v' w' hown hg _
    refine h v' w' ⟨?_, ?_⟩ hg
    · intro c' hc'
      rcases List.mem_append.1 hc' with h1 | h1
      · exact hrow.1 _ h1
      · exact hr.1 _ h1
    · rw [List.length_append, hm]
      simpa [cellsOf] using hown

theorem Rd.fresh (w : World) (cs : Array Value) (bs : List Nat) (hb : ∀ c ∈ bs, c < 256) (h : cs = (cellsOf bs).toArray) : Rd (w.heap.size + 1) (w.alloc (.cells cs 5)) (some ⟨w.heap.size, 0, none⟩) bs := by
  refine ⟨hb, fun _ => ⟨w.heap.size, 0, rfl, by omega, fun j hj => ?_⟩⟩
  rw [Nat.zero_add, cell_of_row _ w.heap.size j cs 5 (0, 0) (heap_alloc_new w _), h, List.getElem?_toArray, cellsOf_at bs j hj]

theorem below_drewN {B : Nat} {a w : World} (h : Below B a w) (n : Nat) : Below B a (w.drewN n) := ⟨h.os, h.tape, h.output, h.size, h.block⟩
/-! ### Same: two byte slices as strings -/
def str (bs : List Nat) : ByteArray := ⟨(bs.map fun c => UInt8.ofNat c).toArray⟩
theorem conv_str (B : Nat) (A : Option Addr) (n c : Nat) (bs : List Nat) (w : World) (hr : Rd B w A bs) (hl : bs.length = n) :
    (convert 22 9 (.slice A n c)).run Try.prog w = .ok (.string (str bs)) w := by
  cases A with
  | none =>
    have h0 : bs = [] := by
      rcases Nat.eq_zero_or_pos bs.length with e | e
      · exact List.eq_nil_of_length_eq_zero e
      · obtain ⟨b, off, e, _⟩ := hr.2 e; cases e
    subst h0
    exact run_convert_bytes_nil w 22 5 Try.underlying22 Try.underlying5 n c 9 Try.underlying9
  | some a =>
    rcases Nat.eq_zero_or_pos bs.length with e | e
    · have h0 : bs = [] := List.eq_nil_of_length_eq_zero e
      subst h0
      have hn : n = 0 := by simpa using hl.symm
      subst hn
      rw [run_convert_bytes_string w 22 9 5 (some a) 0 c Try.underlying22 Try.underlying5 Try.underlying9, run_bytesToString w a 0 c [] (by simp [loadCells, loadCellsFrom])]
      rfl
    · obtain ⟨b, off, ea, _, hc⟩ := hr.2 e
      injection ea with ea
      subst ea
      have h := run_convert_bytes_arg (P := Try.prog) w 22 5 Try.underlying22 Try.underlying5 b off n c (bs.map fun x : Nat => (x : Int)) (by simpa using hl) (fun i hi => by
        rw [hc i (by omega)]
        simp [List.getD, show i < bs.length by omega]) 9 Try.underlying9
      rw [h]
      simp [strOfNums, str]
theorem str_list (bs : List Nat) : (str bs).toList = bs.map fun c => UInt8.ofNat c := by
  rw [ByteArray.toList_eq]; rfl
theorem str_eq {bs cs : List Nat} (hb : ∀ c ∈ bs, c < 256) (hc : ∀ c ∈ cs, c < 256) : ((str bs).toList == (str cs).toList) = decide (bs = cs) := by
  rw [str_list, str_list]
  by_cases h : bs = cs
  · subst h; simp
  · rw [decide_eq_false h, beq_eq_false_iff_ne]
    intro e1
    apply h
    have e2 := congrArg (List.map UInt8.toNat) e1
    rw [List.map_map, List.map_map] at e2
    rw [List.map_congr_left (g := id) (fun x hx => by have := hb x hx; simp; omega), List.map_congr_left (l := cs) (g := id) (fun x hx => by have := hc x hx; simp; omega), List.map_id, List.map_id] at e2
    exact e2

theorem run_window (w : World) (A : Option Addr) (len cap k h : Nat) (hk : k ≤ h) (hh : h ≤ cap) :
    (Instr.slice 22 (.slice A len cap) (some (.int .i64 (k : Int))) (some (.int .i64 (h : Int))) Option.none).run Try.prog w = .ok (.slice (cutA cap k A) (h - k) (cap - k)) w := by
  rw [run_slice_lh (P := Try.prog) w 22 A len cap elem22 .i64 .i64 (k : Int) (h : Int) (by omega) (by omega) (by omega), size22]
  simp [Result.andThen, sliced, cutA]
theorem Rd.window {B : Nat} {w : World} {A : Option Addr} {bs : List Nat} (hr : Rd B w A bs) {k cap : Nat} (m : Nat) (hc : bs.length ≤ cap) : Rd B w (cutA cap k A) ((bs.drop k).take m) := (hr.cut hc).take m

theorem Row.nil_cap {w : World} {base n c : Nat} {A : Option Addr} {v : Value} {bs : List Nat} (h : Row w base v bs) (hv : v = .slice A n c) : A = Option.none → c = 0 := by
  intro hA
  subst hA
  rcases h.2.2 with ⟨h2, _⟩ | ⟨g, cap, cur, h2, _⟩
  · rw [hv] at h2; injection h2
  · rw [hv] at h2; injection h2 with h3; cases h3

theorem run_win (w : World) (A : Option Addr) (len cap : Nat) (lo hi : Int) (l n : Nat) (hlo : lo = (l : Int)) (hhi : hi = ((l + n : Nat) : Int)) (hh : l + n ≤ cap) :
    (Instr.slice 22 (.slice A len cap) (some (.int .i64 lo)) (some (.int .i64 hi)) Option.none).run Try.prog w = .ok (.slice (cutA cap l A) n (cap - l)) w := by
  subst hlo; subst hhi
  rw [run_window w A len cap l (l + n) (by omega) hh, Nat.add_sub_cancel_left]

theorem Row.head {w : World} {base : Nat} {v : Value} {bs : List Nat} (h : Row w base v bs) (hp : 0 < bs.length) : ∃ g cap, v = .slice (some ⟨g, 0, Option.none⟩) bs.length cap ∧ base ≤ g := by
  rcases h.2.2 with ⟨_, h2⟩ | ⟨g, cap, cur, rfl, hb, _⟩
  · omega
  · exact ⟨g, cap, rfl, hb⟩
theorem Row.at_ {w : World} {base g cap n : Nat} {bs : List Nat} (h : Row w base (.slice (some ⟨g, 0, Option.none⟩) n cap) bs) (hn : bs.length = n) {j : Nat} (hj : j < n) : w.cell? ⟨g, j, Option.none⟩ = some (.int .u8 (bs[j]?.getD 0 : Nat)) ∧ w.frozen? ⟨g, j, Option.none⟩ = false := by
  subst hn
  exact ⟨by rw [h.2.cellAt j (by omega), cellsOf_at bs j hj], h.2.frozenAt j⟩
theorem Row.store {w : World} {base g cap n : Nat} {bs : List Nat} (h : Row w base (.slice (some ⟨g, 0, Option.none⟩) n cap) bs) (hn : bs.length = n) (j : Nat) (x : Nat) (hx : x < 256) : Row (w.setCell ⟨g, j, Option.none⟩ (.int .u8 (x : Int))) base (.slice (some ⟨g, 0, Option.none⟩) n cap) (bs.set j x) := by
  subst hn
  refine ⟨fun c hc => ?_, ?_⟩
  · rcases List.mem_or_eq_of_mem_set hc with h1 | h1
    · exact h.1 c h1
    · omega
  · have := (h.2.stored j (.int .u8 (x : Int))).1
    rw [List.length_set]
    simpa [cellsOf, List.map_set] using this

theorem Row.nothing (w : World) (base : Nat) : Row w base (.slice Option.none 0 0) [] := ⟨by simp, by simpa [cellsOf] using World.ownsRow_nil _ _ _ _⟩


/-! ### The same for slices of integers -/
def Wf (z : Int) : Prop := -9223372036854775808 ≤ z ∧ z ≤ 9223372036854775807
def RdI (B : Nat) (w : World) (A : Option Addr) (zs : List Int) : Prop :=
  (∀ z ∈ zs, Wf z) ∧ (0 < zs.length → ∃ b off, A = some ⟨b, off, none⟩ ∧ b < B ∧ ∀ j, j < zs.length → w.cell? ⟨b, off + j, none⟩ = some (.int .i64 (zs[j]?.getD 0)))
theorem RdI.wf {B : Nat} {w : World} {A : Option Addr} {zs : List Int} (h : RdI B w A zs) (j : Nat) : Wf (zs[j]?.getD 0) := by
  rcases Nat.lt_or_ge j zs.length with hj | hj
  · rw [List.getElem?_eq_getElem hj]; exact h.1 _ (List.getElem_mem hj)
  · rw [List.getElem?_eq_none hj]; exact ⟨by decide, by decide⟩
theorem RdI.below {B B' : Nat} {w w' : World} {A : Option Addr} {zs : List Int} (h : RdI B w A zs) (hb : Below B' w w') (hB : B ≤ B') : RdI B w' A zs := by
  refine ⟨h.1, fun hn => ?_⟩
  obtain ⟨b, off, rfl, hbl, hcell⟩ := h.2 hn
  exact ⟨b, off, rfl, hbl, fun j hj => (hb.cell (p := ⟨b, off + j, none⟩) (by show b < B'; omega)).trans (hcell j hj)⟩
theorem RdI.more {B B' : Nat} {w : World} {A : Option Addr} {zs : List Int} (h : RdI B w A zs) (hB : B ≤ B') : RdI B' w A zs := by
  refine ⟨h.1, fun hn => ?_⟩
  obtain ⟨b, off, rfl, hbl, hcell⟩ := h.2 hn
  exact ⟨b, off, rfl, by omega, hcell⟩
theorem RdI.drewN {B : Nat} {w : World} {A : Option Addr} {zs : List Int} (h : RdI B w A zs) (n : Nat) : RdI B (w.drewN n) A zs := h
theorem RdI.nil (B : Nat) (w : World) (A : Option Addr) : RdI B w A [] := ⟨by simp, fun h => absurd h (by simp)⟩
def RowI (w : World) (base : Nat) (v : Value) (zs : List Int) : Prop := (∀ z ∈ zs, Wf z) ∧ w.ownsRow base 3 1 v zs.length (zs.map (Value.int .i64))
theorem intsAt (zs : List Int) (j : Nat) (hj : j < zs.length) : (zs.map (Value.int .i64))[j]? = some (.int .i64 (zs[j]?.getD 0)) := by simp [hj]
theorem RowI.shape {w : World} {base : Nat} {v : Value} {zs : List Int} (h : RowI w base v zs) : ∃ A cap, v = .slice A zs.length cap ∧ zs.length ≤ cap ∧ cap ≤ maxLen ∧ RdI w.heap.size w A zs := by
  obtain ⟨hb, h1, ⟨rfl, h2⟩ | ⟨g, cap, cur, rfl, hbase, hg, hn, hcm, hcs, ht⟩⟩ := h
  · exact ⟨none, 0, by rw [h2], by omega, Nat.zero_le _, hb, fun hp => by omega⟩
  · refine ⟨_, cap, rfl, hn, hcm, hb, fun _ => ⟨g, 0, rfl, (Array.getElem?_eq_some_iff.1 hg).1, fun j hj => ?_⟩⟩
    have hc := World.ownsRow.cellAt (w := w) (base := base) (e := 3) (size := 1) (g := g) (n := zs.length) (cap := cap) (xs := zs.map (Value.int .i64)) ⟨h1, .inr ⟨g, cap, cur, rfl, hbase, hg, hn, hcm, hcs, ht⟩⟩ j (by omega)
    rw [Nat.zero_add, hc, intsAt zs j hj]
theorem RowI.below {w w' : World} {base : Nat} {v : Value} {zs : List Int} (h : RowI w base v zs) (hb : Below w.heap.size w w') : RowI w' base v zs := by
  refine ⟨h.1, h.2.1, ?_⟩
  rcases h.2.2 with h2 | ⟨g, cap, cur, rfl, hbase, hg, h3⟩
  · exact .inl h2
  · exact .inr ⟨g, cap, cur, rfl, hbase, (hb.block g (Array.getElem?_eq_some_iff.1 hg).1).trans hg, h3⟩
theorem RowI.base {w : World} {base base' : Nat} {v : Value} {zs : List Int} (h : RowI w base v zs) (hb : base' ≤ base) : RowI w base' v zs := by
  refine ⟨h.1, h.2.1, ?_⟩
  rcases h.2.2 with h2 | ⟨g, cap, cur, rfl, hbase, h3⟩
  · exact .inl h2
  · exact .inr ⟨g, cap, cur, rfl, by omega, h3⟩
theorem RowI.alloc {w : World} {base : Nat} {v : Value} {zs : List Int} (h : RowI w base v zs) (o : Obj) : RowI (w.alloc o) base v zs := ⟨h.1, h.2.alloc o⟩
theorem RowI.nothing (w : World) (base : Nat) : RowI w base (.slice Option.none 0 0) [] := ⟨by simp, by simpa using World.ownsRow_nil _ _ _ _⟩
theorem Try.info3 : (Try.prog.info? 3).map (fun i => (i.zero, i.size, i.bytes)) = some (some (.int .i64 0), 1, 8) := by kernel_rfl

/-- 'append(l, x)', x one integer that the walk has just laid in a block of its own. -/
theorem wpList_append_int {ops : Array Oper} {rest : List Oper} {o : Oper} {a : Act} {Q : Exit → Act → World → Prop} {w : World} (hgd : o.guard = none) (s x : Operand)
    (ho : o.op = .call { callee := .builtin .append, args := #[s, x], argTypes := #[34, 34] })
    (base : Nat) (v : Value) (zs : List Int) (hs : a.eval s = v) (z : Int) (w0 : World) (hw : w = w0.alloc (.cells #[.int .i64 z] 3)) (hrow : RowI w0 base v zs)
    (hx : a.eval x = .slice (some ⟨w0.heap.size, 0, Option.none⟩) 1 1) (hz : Wf z)
    (hbound : zs.length < 17592186044416) (hbase : base ≤ w0.heap.size)
    (h : ∀ v' w', RowI w' base v' (zs ++ [z]) → w.grownBy w' v.ownBlock → wpList Try.prog ops Q rest (a.put o.dst v') w') : wpList Try.prog ops Q (o :: rest) a w := by
  obtain ⟨i0, hi, hz0, hz1, hz2⟩ := info_parts Try.info3
  subst hw
  refine wpList_append_own _ hgd s x 34 ho base 3 i0 (.int .i64 0) 1 8 Try.underlying34 hi hz0 hz1 hz2 rfl (by decide) v zs.length (zs.map (Value.int .i64)) hs (hrow.2.alloc _) ⟨w0.heap.size, 0, Option.none⟩ 1 1 [.int .i64 z] hx rfl
    (fun j u hu => ?_) (by simp [Value.oneCell']) (by unfold maxLen; omega) (by omega) (by simp; omega) ?_
  · have hj : j = 0 := by have := (List.getElem?_eq_some_iff.1 hu).1; simp at this; omega
    subst hj
    simp at hu
    subst hu
    rw [add_plain, cell_of_row _ w0.heap.size _ #[.int .i64 z] 3 (0, 0) (heap_alloc_new w0 _)]
    rfl
  · intro v' w' hown hg _
    refine h v' w' ⟨?_, ?_⟩ hg
    · intro c hc
      rcases List.mem_append.1 hc with h1 | h1
      · exact hrow.1 _ h1
      · simp at h1; subst h1; exact hz
    · rw [List.length_append]
      simpa using hown
theorem RowI.nil_cap {w : World} {base n c : Nat} {A : Option Addr} {v : Value} {zs : List Int} (h : RowI w base v zs) (hv : v = .slice A n c) : A = Option.none → c = 0 := by
  intro hA
  subst hA
  rcases h.2.2 with ⟨h2, _⟩ | ⟨g, cap, cur, h2, _⟩
  · rw [hv] at h2; injection h2
  · rw [hv] at h2; injection h2 with h3; cases h3

/-- A string's bytes. -/
def sb (t : ByteArray) : List Nat := t.data.toList.map UInt8.toNat
theorem sb_length (t : ByteArray) : (sb t).length = t.size := by simp [sb]
theorem sb_lt (t : ByteArray) : ∀ c ∈ sb t, c < 256 := by
  intro c hc; obtain ⟨x, _, rfl⟩ := List.mem_map.1 hc; exact x.toNat_lt
/-- 'append(b, s...)', s a string. -/
theorem wpList_append_text {ops : Array Oper} {rest : List Oper} {o : Oper} {a : Act} {Q : Exit → Act → World → Prop} {w : World} (hgd : o.guard = none) (s x : Operand)
    (ho : o.op = .call { callee := .builtin .append, args := #[s, x], argTypes := #[22, 9] })
    (base : Nat) (v : Value) (bs : List Nat) (hs : a.eval s = v) (hrow : Row w base v bs) (t : ByteArray) (hx : a.eval x = .string t)
    (hbound : bs.length + t.size ≤ 70368744177664) (hbase : base ≤ w.heap.size)
    (h : ∀ v' w', Row w' base v' (bs ++ sb t) → w.grownBy w' v.ownBlock → wpList Try.prog ops Q rest (a.put o.dst v') w') : wpList Try.prog ops Q (o :: rest) a w := by
  obtain ⟨i0, hi, hz0, hz1, hz2⟩ := info_parts Try.info5
  have hcells : cellsOf (sb t) = Lib.strCells t := by
    unfold cellsOf sb Lib.strCells
    rw [List.map_map]; rfl
  obtain ⟨v', w', hrun, h2, h3, _⟩ := Lib.run_append_own_string (P := Try.prog) w base 22 9 o.type 5 i0 Try.underlying22 Try.underlying9 hi hz0 hz1 hz2 v bs.length (cellsOf bs) hrow.2 t (by unfold maxLen; omega) (by omega) hbase
  refine wpList_plain hgd fun K hK => ?_
  unfold Oper.wp execOp
  simp only [ho, resolve, invoke, builtin, Sem.run_bind, Sem.run_pure, Result.andThen_ok, List.map_toArray, List.map_cons, List.map_nil, hs, hx, hrun]
  refine hK _ _ (h v' w' ⟨?_, ?_⟩ h3)
  · intro c hc
    rcases List.mem_append.1 hc with h1 | h1
    · exact hrow.1 _ h1
    · obtain ⟨x, _, rfl⟩ := List.mem_map.1 h1
      exact x.toNat_lt
  · rw [List.length_append, sb_length]
    have e : cellsOf (bs ++ sb t) = cellsOf bs ++ Lib.strCells t := by rw [← hcells]; simp [cellsOf]
    show w'.ownsRow base 5 1 v' (bs.length + t.size) (cellsOf (bs ++ sb t))
    rw [e]; exact h2
end Go.Proofs.Ytnebjihjfghlfaa
