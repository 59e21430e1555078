/- Towards the walk of adder: its clauses. -/
import Derived.Test.YtpeklcbjhkchlaaEmit
import Derived.Laws.Bits64b
namespace Go.Proofs.Ytpeklcbjhkchlaa
open Go.RowKit Go.Maps
set_option maxRecDepth 30000

theorem and_one_i64 (a : Nat) (ha : a < 4503599627370497) : bits .and .i64 (a : Int) 1 = ((a % 2 : Nat) : Int) := by
  have h1 : (BitVec.ofInt 64 (a : Int)).toNat = a := by
    rw [BitVec.ofInt_natCast, BitVec.toNat_ofNat]; exact Nat.mod_eq_of_lt (by omega)
  have h2 : (BitVec.ofInt 64 (1 : Int)).toNat = 1 := by decide
  show IntKind.i64.wrap ((BitVec.ofInt 64 (a : Int) &&& BitVec.ofInt 64 (1 : Int)).toNat : Int) = _
  rw [BitVec.toNat_and, h1, h2, Nat.and_one_is_mod]
  exact IntWalk.i64_in _ (by omega)
theorem bit_of (t j : Nat) (ht : t < 4503599627370497) : (bits BinOp.and IntKind.i64 ((t : Int) / 2 ^ j) 1 == 1) = t.testBit j := by
  have e : (t : Int) / 2 ^ j = ((t / 2 ^ j : Nat) : Int) := by
    rw [Int.natCast_ediv, Int.natCast_pow]; rfl
  have hlt : t / 2 ^ j ≤ t := Nat.div_le_self _ _
  rw [e, and_one_i64 _ (by omega), Nat.testBit_eq_decide_div_mod_eq]
  by_cases h : t / 2 ^ j % 2 = 1
  · rw [h, decide_eq_true rfl]; rfl
  · rw [decide_eq_false h, show t / 2 ^ j % 2 = 0 by omega]; rfl
theorem set_any (t j : Nat) (w : World) (ht : t < 4503599627370497) (hj : j ≤ 63) : Calls Try.prog 36 #[.int .i64 (t : Int), .int .i64 (j : Int)] w fun e w' => e = .returned (.bool (t.testBit j)) ∧ w = w' := by
  have hb := bit_of t j ht
  have hmin : min j 64 = j := by omega
  generalize t.testBit j = z at *
  go_enter Try.func36, Try.ntmps36
  go_wp2
  go_ret
  exact ⟨rfl, rfl⟩

/-- The literals with the first i turned where the bits of k say so, and the sign. -/
def fl (ins : List Int) (k : Nat) : Nat → List Int
  | 0 => ins
  | i + 1 => if k.testBit i then (fl ins k i).set i (-(ins[i]?.getD 0)) else fl ins k i
def od (k : Nat) : Nat → Int
  | 0 => -1
  | i + 1 => if k.testBit i then -(od k i) else od k i
theorem fl_len (ins : List Int) (k : Nat) : ∀ i, (fl ins k i).length = ins.length
  | 0 => rfl
  | i + 1 => by rw [fl]; split <;> simp [fl_len ins k i]
theorem od_sign (k : Nat) : ∀ i, od k i = 1 ∨ od k i = -1
  | 0 => .inr rfl
  | i + 1 => by
    rw [od]
    rcases od_sign k i with h | h <;> split <;> rw [h] <;> simp
/-- The clauses of the sum bit, those of the first k ways. -/
def adRows (ins : List Int) (s : Nat) : Nat → List (List Int)
  | 0 => []
  | k + 1 => adRows ins s k ++ [fl ins k ins.length ++ [od k ins.length * (s : Int)]]
theorem adRows_len (ins : List Int) (s : Nat) : ∀ k, (adRows ins s k).length = k
  | 0 => rfl
  | k + 1 => by rw [adRows, List.length_append, adRows_len ins s k]; rfl
/-- The clauses of the carry. -/
def adMaj (ins : List Int) (c : Nat) : List (List Int) :=
  match ins with
  | [x, y] => [[-x, -y, (c : Int)], [x, -(c : Int)], [y, -(c : Int)]]
  | [x, y, z] => [[-x, -y, (c : Int)], [-x, -z, (c : Int)], [-y, -z, (c : Int)], [x, y, -(c : Int)], [x, z, -(c : Int)], [y, z, -(c : Int)]]
  | _ => []
def adC (ins : List Int) (s : Nat) : List (List Int) := adRows ins s (2 ^ ins.length) ++ adMaj ins (s + 1)
theorem RdI.lit (w : World) (cs : Array Value) (zs : List Int) (hb : ∀ z ∈ zs, Wf z) (h : cs = (zs.map (Value.int .i64)).toArray) : RdI (w.heap.size + 1) (w.alloc (.cells cs 3)) (some ⟨w.heap.size, 0, none⟩) zs := by
  refine ⟨hb, fun _ => ⟨w.heap.size, 0, rfl, by omega, fun j hj => ?_⟩⟩
  rw [Nat.zero_add, cell_of_row _ w.heap.size j cs 3 (0, 0) (heap_alloc_new w _), h, List.getElem?_toArray, intsAt zs j hj]
/-- A row's cells can be stored to. -/
theorem RowI.set {w : World} {base g n c : Nat} {zs : List Int} (h : RowI w base (.slice (some ⟨g, 0, none⟩) n c) zs) (j : Nat) {z : Int} (hz : Wf z) : RowI (w.setCell ⟨g, j, none⟩ (.int .i64 z)) base (.slice (some ⟨g, 0, none⟩) n c) (zs.set j z) := by
  refine ⟨fun x hx => ?_, ?_⟩
  · rcases List.mem_or_eq_of_mem_set hx with q | q
    · exact h.1 x q
    · rw [q]; exact hz
  · obtain ⟨A', c', e, _⟩ := h.shape
    injection e with _ e2 _
    subst e2
    rw [List.length_set, List.map_set]
    exact (World.ownsRow.stored h.2 j (.int .i64 z)).1
theorem RowI.addr {w : World} {base : Nat} {v : Value} {zs : List Int} (h : RowI w base v zs) (h0 : 0 < zs.length) : ∃ g c, v = .slice (some ⟨g, 0, none⟩) zs.length c ∧ base ≤ g ∧ g < w.heap.size ∧ zs.length ≤ c ∧ (∀ j, j < zs.length → w.cell? ⟨g, j, none⟩ = some (.int .i64 (zs[j]?.getD 0))) ∧ ∀ j, w.frozen? ⟨g, j, none⟩ = false := by
  rcases h.2.2 with ⟨_, e⟩ | ⟨g, cap, cur, rfl, hb, hg, hn, hcm, hcs, ht⟩
  · omega
  · refine ⟨g, cap, rfl, hb, (Array.getElem?_eq_some_iff.1 hg).1, hn, fun j hj => ?_, fun j => World.ownsRow.frozenAt h.2 j⟩
    have hc := World.ownsRow.cellAt (w := w) (base := base) (e := 3) (size := 1) (g := g) (n := zs.length) (cap := cap) (xs := zs.map (Value.int .i64)) h.2 j (by omega)
    rw [hc, intsAt zs j hj]
theorem Boxed.keep {s base : Nat} {w w' : World} (h : Ke s base w w') {g : Nat} {t : TypeId} {v : Value} (hb : Boxed w g t v) (ht : t ≠ 22) (hg : g ≠ s) : Boxed w' g t v := h.keep g #[v] t ht hg hb
/-- The closure called with literals. -/
theorem emit_lit (s gm base n bx : Nat) (val : Nat → Value) (Q : Nat → List Int) (top out : Int) (cl : List (List Int)) (next m : Nat) (cs : Array Value) (zs : List Int) (X : World) (S : SmC X s gm base n val Q top cl next) (hbx : Boxed X bx 54 (.pointer (some ⟨s, 0, none⟩))) (hw : ∀ z ∈ zs, Wf z) (hcs : cs = (zs.map (Value.int .i64)).toArray) (hl : zs.length = m) (h0 : 0 < m) (hm : m ≤ 1000) (ho : Wf out) (hcl : cl.length ≤ 1000000) (hbase : base ≤ X.heap.size) :
    Calls Try.prog 66 #[.int .i64 out, .slice (some ⟨X.heap.size, 0, none⟩) m m, .pointer (some ⟨bx, 0, none⟩)] (X.alloc (.cells cs 3)) (Emitted X s gm base n val Q top cl next (zs ++ [out])) := by
  have hal := (Below.refl X.heap.size X).alloc (Nat.le_refl _) (.cells cs 3)
  obtain ⟨cv, vs, S⟩ := S
  refine (emit_any s gm base n bx (X.heap.size + 1) val Q top out cl next _ m m zs (X.alloc (.cells cs 3)) ⟨cv, vs, S.below hal⟩ (hbx.alloc _) (RdI.lit X cs zs hw hcs) (by simp) hl h0 hm ho hcl (by simp; omega)).mono ?_
  rintro e w' ⟨h1, h2, h3⟩
  exact ⟨h1, h2, (Ke.below hal hbase).trans h3⟩
end Go.Proofs.Ytpeklcbjhkchlaa
