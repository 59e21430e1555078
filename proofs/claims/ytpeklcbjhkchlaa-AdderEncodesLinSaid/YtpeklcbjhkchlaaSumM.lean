/- A weighted sum in plain mathematics: the queues are reduced one after another, each hands its carries on. -/
import Derived.Test.YtpeklcbjhkchlaaRedM
import Derived.Test.YtpeklcbjhkchlaaNew
namespace Go.Proofs.Ytpeklcbjhkchlaa
open Go.RowKit Go.Maps
set_option maxRecDepth 30000

theorem red_few : ∀ (k : Nat) (q : List Int) (next : Nat) (r : List Int × List Int × List (List Int) × Nat), q.length ≤ k → red q next = some r → r.1.length + r.2.1.length ≤ q.length ∧ (q ≠ [] → r.1 ≠ []) ∧ r.2.2.2 = next + 2 * r.2.1.length
  | k, q, next, r, hk, h => by
    by_cases h1 : q.length ≤ 1
    · rw [red_done next h1] at h
      injection h with h
      subst h
      exact ⟨by simp, fun h => h, by simp⟩
    · by_cases h2 : 65535 < next
      · rw [red_none h1 h2] at h; cases h
      · rw [red_more h1 h2] at h
        match k, hk with
        | 0, hk => omega
        | k + 1, hk =>
          rcases hq : red (q.drop (min 3 q.length) ++ [(next : Int)]) (next + 2) with _ | t
          · rw [hq] at h; cases h
          · rw [hq] at h
            injection h with h
            subst h
            have := red_few k _ _ t (by simp only [List.length_append, List.length_drop, List.length_singleton]; omega) hq
            obtain ⟨a, b, c⟩ := this
            simp only [List.length_append, List.length_drop, List.length_singleton] at a
            refine ⟨by simp only [List.length_cons]; omega, fun _ => b (by simp), by simp only [List.length_cons]; omega⟩
/-- All queues from one position on: the bits, the clauses, the next variable; nothing where variables are lacking. -/
def addUp (rows : List (List Int)) (carry : List Int) (next : Nat) : Option (List Int × List (List Int) × Nat) :=
  if _h : rows = [] ∧ carry = [] then some ([], [], next)
  else match _hr : red (rows.headD [] ++ carry) next with
    | none => none
    | some r => (addUp rows.tail r.2.1 r.2.2.2).map fun t => (r.1.headD 0 :: t.1, r.2.2.1 ++ t.2.1, t.2.2)
termination_by (rows.length, carry.length)
decreasing_by
  cases rows with
  | cons q rows => exact Prod.Lex.left _ _ (by simp)
  | nil =>
    have hc : carry ≠ [] := fun e => _h ⟨rfl, e⟩
    have h3 := red_few _ _ _ _ (Nat.le_refl _) _hr
    simp only [List.headD_nil, List.nil_append] at h3
    have := h3.2.1 hc
    have : 0 < r.1.length := List.length_pos_iff.2 this
    exact Prod.Lex.right _ (by omega)
theorem addUp_done (next : Nat) : addUp [] [] next = some ([], [], next) := by rw [addUp, dif_pos ⟨rfl, rfl⟩]
theorem addUp_none {rows : List (List Int)} {carry : List Int} {next : Nat} (h : ¬ (rows = [] ∧ carry = [])) (hr : red (rows.headD [] ++ carry) next = none) : addUp rows carry next = none := by
  rw [addUp, dif_neg h]
  split
  · rfl
  · rename_i r h2; rw [hr] at h2; cases h2
theorem addUp_some {rows : List (List Int)} {carry : List Int} {next : Nat} {r : List Int × List Int × List (List Int) × Nat} (h : ¬ (rows = [] ∧ carry = [])) (hr : red (rows.headD [] ++ carry) next = some r) :
    addUp rows carry next = (addUp rows.tail r.2.1 r.2.2.2).map fun t => (r.1.headD 0 :: t.1, r.2.2.1 ++ t.2.1, t.2.2) := by
  rw [addUp, dif_neg h]
  split
  · rename_i h2; rw [hr] at h2; cases h2
  · rename_i r2 h2; rw [hr] at h2; injection h2 with h2; subst h2; rfl

/-- The rows that the queues of a sum begin with. -/
def rowsOf (xs : List Nat) (ls : List Int) : List (List Int) := (List.range (hgt xs)).map (qs xs ls)
theorem rowsOf_len (xs : List Nat) (ls : List Int) : (rowsOf xs ls).length = hgt xs := by unfold rowsOf; simp
theorem hgt_ge : ∀ {l : List Nat} {x : Nat}, x ∈ l → Lib.bitLen x ≤ hgt l
  | y :: l, x, h => by
    show _ ≤ max _ _
    rcases List.mem_cons.1 h with rfl | h
    · omega
    · have := hgt_ge h; omega
theorem qs_over {xs : List Nat} {ls : List Int} {p : Nat} (h : ∀ x ∈ xs, x < 2 ^ 64) (hp : hgt xs ≤ p) : qs xs ls p = [] := by
  unfold qs
  rw [List.map_eq_nil_iff, List.filter_eq_nil_iff]
  intro z hz
  have hz1 := (List.of_mem_zip (a := z.1) (b := z.2) hz).1
  have := hgt_ge hz1
  rw [testBit_over (h _ hz1) (by omega)]
  simp
theorem rowsOf_at {xs : List Nat} {ls : List Int} (h : ∀ x ∈ xs, x < 2 ^ 64) (p : Nat) : (rowsOf xs ls)[p]?.getD [] = qs xs ls p := by
  unfold rowsOf
  by_cases hp : p < hgt xs
  · rw [List.getElem?_map, List.getElem?_range hp]; rfl
  · rw [qs_over h (by omega), List.getElem?_eq_none (by simp; omega)]; rfl
theorem headD_drop (rows : List (List Int)) (k : Nat) : (rows.drop k).headD [] = rows[k]?.getD [] := by
  rw [List.headD_eq_head?_getD, List.head?_drop]

/-- What Sum has done before position k. -/
structure SumSt (w : World) (xs : List Nat) (ls : List Int) (next k : Nat) (gv : Value) (bits : List Int) (w' : World) (val : Nat → Value) (Q : Nat → List Int) (n : Nat) (top : Int) (c : List (List Int)) (nx : Nat) (carry : List Int) : Prop where
  low : Below w.heap.size w w'
  sm : SmC w' (w.heap.size + 1) w.heap.size (w.heap.size + 2) n val Q top c nx
  gval : val 1000001 = gv
  gq : Q 1000001 = bits
  here : Q k = qs xs ls k ++ carry
  later : ∀ r, k < r → r ≠ 1000001 → Q r = qs xs ls r
  t1 : (hgt xs : Int) ≤ top + 1
  t2 : carry = [] → top + 1 = (hgt xs : Int) ∨ top < (k : Int)
  t3 : carry ≠ [] → top = max ((hgt xs : Int) - 1) (k : Int)
  far : carry ≠ [] → 2 * k ≤ 2 * hgt xs + (nx - next)
  more : addUp (rowsOf xs ls) [] next = (addUp ((rowsOf xs ls).drop k) carry nx).map fun t => (bits ++ t.1, c ++ t.2.1, t.2.2)
  nxs : next ≤ nx ∧ nx ≤ 65537
  few : c.length ≤ 7 * (nx - next) ∧ 2 * carry.length ≤ nx - next
  cn : 2 * n + 3 * next ≤ 128 * ls.length + 3 * nx
  wf : ∀ x ∈ carry, -65537 ≤ x ∧ x ≤ 65537
  bw : bits.length = k
theorem SumSt.less {w w' : World} {xs : List Nat} {ls : List Int} {next k n nx : Nat} {gv : Value} {bits carry : List Int} {val : Nat → Value} {Q : Nat → List Int} {top : Int} {c : List (List Int)} (S : SumSt w xs ls next k gv bits w' val Q n top c nx carry) :
    ((k : Int) ≤ top ↔ ¬ ((rowsOf xs ls).drop k = [] ∧ carry = [])) := by
  have h1 := S.t1
  have hd : (rowsOf xs ls).drop k = [] ↔ hgt xs ≤ k := by rw [List.drop_eq_nil_iff, rowsOf_len]
  by_cases hc : carry = []
  · have h2 := S.t2 hc
    rw [hd]
    constructor
    · intro h3 h4; have := h4.1; omega
    · intro h3
      have : ¬ hgt xs ≤ k := fun h => h3 ⟨h, hc⟩
      omega
  · have h3 := S.t3 hc
    constructor
    · intro _ h4; exact hc h4.2
    · intro _; omega
theorem SumSt.bounds {w w' : World} {xs : List Nat} {ls : List Int} {next k n nx : Nat} {gv : Value} {bits carry : List Int} {val : Nat → Value} {Q : Nat → List Int} {top : Int} {c : List (List Int)} (S : SumSt w xs ls next k gv bits w' val Q n top c nx carry) (hh : hgt xs ≤ 64) (hl : ls.length ≤ 4096) (hk : (k : Int) ≤ top) :
    k ≤ 40000 ∧ -1 ≤ top ∧ top ≤ 40000 ∧ n ≤ 500000 ∧ (Q k).length ≤ 200000 ∧ (Q (k + 1)).length ≤ 400000 := by
  have h1 := S.t1
  have hn := S.nxs
  have hf := S.few
  have hq := qs_len xs ls k
  have hq1 := qs_len xs ls (k + 1)
  have hc := S.cn
  have hk2 : k ≤ 40000 ∧ top ≤ 40000 := by
    by_cases hc : carry = []
    · have h2 := S.t2 hc; omega
    · have h3 := S.t3 hc; have := S.far hc; omega
  refine ⟨hk2.1, by omega, hk2.2, by omega, ?_, ?_⟩
  · rw [S.here, List.length_append]; omega
  · rw [S.later (k + 1) (by omega) (by omega)]; omega
end Go.Proofs.Ytpeklcbjhkchlaa
