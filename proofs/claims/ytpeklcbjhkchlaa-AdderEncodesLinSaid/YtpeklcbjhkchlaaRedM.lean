/- A queue reduced, in plain mathematics and as a state of the summer. -/
import Derived.Test.YtpeklcbjhkchlaaAdder
namespace Go.Proofs.Ytpeklcbjhkchlaa
open Go.RowKit Go.Maps
set_option maxRecDepth 30000

/-- A queue reduced to one literal: what is left, the carries, the clauses, the next variable; nothing where variables are lacking. -/
def red (q : List Int) (next : Nat) : Option (List Int × List Int × List (List Int) × Nat) :=
  if _h : q.length ≤ 1 then some (q, [], [], next)
  else if 65535 < next then none
  else (red (q.drop (min 3 q.length) ++ [(next : Int)]) (next + 2)).map fun r => (r.1, ((next + 1 : Nat) : Int) :: r.2.1, adC (q.take (min 3 q.length)) next ++ r.2.2.1, r.2.2.2)
termination_by q.length
decreasing_by simp only [List.length_append, List.length_drop, List.length_singleton]; omega
theorem red_done {q : List Int} (next : Nat) (h : q.length ≤ 1) : red q next = some (q, [], [], next) := by rw [red, dif_pos h]
theorem red_none {q : List Int} {next : Nat} (h : ¬ q.length ≤ 1) (h2 : 65535 < next) : red q next = none := by rw [red, dif_neg h, if_pos h2]
theorem red_more {q : List Int} {next : Nat} (h : ¬ q.length ≤ 1) (h2 : ¬ 65535 < next) : red q next = (red (q.drop (min 3 q.length) ++ [(next : Int)]) (next + 2)).map fun r => (r.1, ((next + 1 : Nat) : Int) :: r.2.1, adC (q.take (min 3 q.length)) next ++ r.2.2.1, r.2.2.2) := by rw [red, dif_neg h, if_neg h2]
theorem adC_len (ins : List Int) (s : Nat) (h : ins.length = 2 ∨ ins.length = 3) : (adC ins s).length ≤ 14 := by
  unfold adC
  rw [List.length_append, adRows_len]
  rcases h with h | h
  · match ins, h with
    | [x, y], _ => simp [adMaj]
  · match ins, h with
    | [x, y, z], _ => simp [adMaj]
/-- What has been done so far of a reduction. -/
structure RedSt (gv : Value) (w0 w : World) (s gm base n0 : Nat) (Q : Nat → List Int) (top0 : Int) (cl : List (List Int)) (next0 p : Nat) (q1 cs1 : List Int) (c1 : List (List Int)) (nx1 : Nat) : Prop where
  sm : ∃ val Q1 n1 top1, val 1000001 = gv ∧ SmC w s gm base n1 val Q1 top1 (cl ++ c1) nx1 ∧ Q1 p = q1 ∧ Q1 (p + 1) = Q (p + 1) ++ cs1 ∧ (∀ r, r ≠ p → r ≠ p + 1 → Q1 r = Q r) ∧ (cs1 = [] → top1 = top0 ∧ Q1 = Q) ∧ (cs1 ≠ [] → top1 = max (max top0 (p : Int)) ((p + 1 : Nat) : Int)) ∧ 2 * n1 + 3 * next0 ≤ 2 * n0 + 3 * nx1
  low : ∀ lo, lo ≤ s → lo ≤ gm → lo ≤ base → Below lo w0 w
  size : w0.heap.size ≤ w.heap.size
  more : red (Q p) next0 = (red q1 nx1).map fun r => (r.1, cs1 ++ r.2.1, c1 ++ r.2.2.1, r.2.2.2)
  nx : next0 ≤ nx1 ∧ nx1 ≤ 65537
  few : 2 * c1.length ≤ 14 * (nx1 - next0) ∧ 2 * cs1.length ≤ nx1 - next0 ∧ q1.length + (nx1 - next0) / 2 ≤ (Q p).length
  lits : ∀ x ∈ q1, -65537 ≤ x ∧ x ≤ 65537
/-- What reduce leaves. -/
def Reduced (gv : Value) (w : World) (s gm base n0 : Nat) (Q : Nat → List Int) (top : Int) (cl : List (List Int)) (next p : Nat) (e : Ending) (w' : World) : Prop :=
  (∀ lo, lo ≤ s → lo ≤ gm → lo ≤ base → Below lo w w') ∧ w.heap.size ≤ w'.heap.size ∧
  match red (Q p) next with
  | none => e = .returned (.bool false)
  | some r => e = .returned (.bool true) ∧ r.1.length ≤ 1 ∧ RedSt gv w w' s gm base n0 Q top cl next p r.1 r.2.1 r.2.2.1 r.2.2.2
/-- One round: a queue cut, an adder. -/
theorem RedSt.next {gv : Value} {w0 w w' w2 : World} {s gm base n0 n1 : Nat} {Q Q1 : Nat → List Int} {top0 top1 : Int} {cl : List (List Int)} {next0 p : Nat} {q1 cs1 : List Int} {c1 : List (List Int)} {nx1 : Nat} (R : RedSt gv w0 w s gm base n0 Q top0 cl next0 p q1 cs1 c1 nx1) (hq1 : ¬ q1.length ≤ 1) (hnx : ¬ 65535 < nx1)
    (h1 : Q1 (p + 1) = Q (p + 1) ++ cs1) (h2 : ∀ r, r ≠ p → r ≠ p + 1 → Q1 r = Q r) (h3 : cs1 = [] → top1 = top0 ∧ Q1 = Q) (h4 : cs1 ≠ [] → top1 = max (max top0 (p : Int)) ((p + 1 : Nat) : Int)) (h5 : 2 * n1 + 3 * next0 ≤ 2 * n0 + 3 * nx1)
    (hlow : ∀ lo, lo ≤ s → lo ≤ gm → lo ≤ base → Below lo w w') (hsz : w.heap.size ≤ w'.heap.size)
    (A : Addered gv w' s gm base (n1 + 1) (updQ Q1 p (q1.drop (min 3 q1.length))) top1 (cl ++ c1) nx1 p (q1.take (min 3 q1.length)) w2) :
    RedSt gv w0 w2 s gm base n0 Q top0 cl next0 p (q1.drop (min 3 q1.length) ++ [(nx1 : Int)]) (cs1 ++ [((nx1 + 1 : Nat) : Int)]) (c1 ++ adC (q1.take (min 3 q1.length)) nx1) (nx1 + 2) := by
  obtain ⟨val', g2, S, l2, z2⟩ := A
  have hn := R.nx
  have hf := R.few
  rw [List.append_assoc] at S
  refine ⟨⟨val', _, _, _, g2, S, ?_, ?_, fun r hr1 hr2 => ?_, fun e => ?_, fun _ => ?_, ?_⟩, fun lo a b c => ((R.low lo a b c).trans (hlow lo a b c)).trans (l2 lo a b c), by have := R.size; omega, ?_, ⟨by omega, by omega⟩, ⟨?_, ?_, ?_⟩, fun x hx => ?_⟩
  · rw [updQ_other _ _ (by omega), updQ_same, updQ_same]
  · rw [updQ_same, updQ_other _ _ (by omega), h1, List.append_assoc]
  · rw [updQ_other _ _ hr2, updQ_other _ _ hr1, updQ_other _ _ hr1]; exact h2 r hr1 hr2
  · simp at e
  · by_cases hc : cs1 = []
    · rw [(h3 hc).1]
    · rw [h4 hc]; omega
  · omega
  · rw [R.more, red_more hq1 hnx]
    cases red (q1.drop (min 3 q1.length) ++ [(nx1 : Int)]) (nx1 + 2) with
    | none => rfl
    | some r => simp
  · have := adC_len (q1.take (min 3 q1.length)) nx1 (by rw [List.length_take]; omega)
    rw [List.length_append]; omega
  · rw [List.length_append]; simp only [List.length_singleton]; omega
  · rw [List.length_append, List.length_drop]; simp only [List.length_singleton]; omega
  · rcases List.mem_append.1 hx with hx | hx
    · exact R.lits x (List.mem_of_mem_drop hx)
    · rw [List.mem_singleton.1 hx]; omega
end Go.Proofs.Ytpeklcbjhkchlaa
