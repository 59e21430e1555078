/- Sums in plain mathematics: sizes, literals, limits of what is made. -/
import Derived.Test.YtpeklcbjhkchlaaSumM
namespace Go.Proofs.Ytpeklcbjhkchlaa
open Go.RowKit
set_option maxRecDepth 30000

theorem red_ind {P : List Int → Nat → (List Int × List Int × List (List Int) × Nat) → Prop}
    (h0 : ∀ (q : List Int) (next : Nat), q.length ≤ 1 → P q next (q, [], [], next))
    (h1 : ∀ (q : List Int) (next : Nat) (t : List Int × List Int × List (List Int) × Nat), 2 ≤ q.length → next ≤ 65535 → red (q.drop (min 3 q.length) ++ [(next : Int)]) (next + 2) = some t → P (q.drop (min 3 q.length) ++ [(next : Int)]) (next + 2) t →
      P q next (t.1, ((next + 1 : Nat) : Int) :: t.2.1, adC (q.take (min 3 q.length)) next ++ t.2.2.1, t.2.2.2)) :
    ∀ (k : Nat) (q : List Int) (next : Nat) (r : List Int × List Int × List (List Int) × Nat), q.length ≤ k → red q next = some r → P q next r
  | k, q, next, r, hk, h => by
    by_cases g1 : q.length ≤ 1
    · rw [red_done next g1] at h
      injection h with h
      subst h
      exact h0 q next g1
    · by_cases g2 : 65535 < next
      · rw [red_none g1 g2] at h; cases h
      · rw [red_more g1 g2] at h
        match k, hk with
        | 0, hk => omega
        | k + 1, hk =>
          rcases hq : red (q.drop (min 3 q.length) ++ [(next : Int)]) (next + 2) with _ | t
          · rw [hq] at h; cases h
          · rw [hq] at h
            injection h with h
            subst h
            exact h1 q next t (by omega) (by omega) hq (red_ind h0 h1 k _ _ t (by simp only [List.length_append, List.length_drop, List.length_singleton]; omega) hq)
theorem addUp_ind {P : List (List Int) → List Int → Nat → (List Int × List (List Int) × Nat) → Prop}
    (h0 : ∀ next : Nat, P [] [] next ([], [], next))
    (h1 : ∀ (rows : List (List Int)) (carry : List Int) (next : Nat) (r : List Int × List Int × List (List Int) × Nat) (t : List Int × List (List Int) × Nat), ¬ (rows = [] ∧ carry = []) → red (rows.headD [] ++ carry) next = some r → addUp rows.tail r.2.1 r.2.2.2 = some t → P rows.tail r.2.1 r.2.2.2 t →
      P rows carry next (r.1.headD 0 :: t.1, r.2.2.1 ++ t.2.1, t.2.2))
    (rows : List (List Int)) (carry : List Int) (next : Nat) (t : List Int × List (List Int) × Nat) (h : addUp rows carry next = some t) : P rows carry next t := by
  by_cases hn : rows = [] ∧ carry = []
  · obtain ⟨rfl, rfl⟩ := hn
    rw [addUp_done] at h
    injection h with h
    subst h
    exact h0 next
  · rcases hr : red (rows.headD [] ++ carry) next with _ | r
    · rw [addUp_none hn hr] at h; cases h
    · rw [addUp_some hn hr] at h
      rcases ht : addUp rows.tail r.2.1 r.2.2.2 with _ | t2
      · rw [ht] at h; cases h
      · rw [ht] at h
        injection h with h
        subst h
        exact h1 rows carry next r t2 hn hr ht (addUp_ind h0 h1 rows.tail r.2.1 r.2.2.2 t2 ht)
termination_by (rows.length, carry.length)
decreasing_by
  rcases Nat.eq_zero_or_pos rows.length with h0 | h0
  · have hrn : rows = [] := List.eq_nil_of_length_eq_zero h0
    have hc : carry ≠ [] := fun e => hn ⟨hrn, e⟩
    have h3 := red_few _ _ _ _ (Nat.le_refl _) hr
    rw [hrn] at h3
    simp only [List.headD_nil, List.nil_append] at h3
    have h4 := h3.2.1 hc
    have h5 : 0 < r.1.length := List.length_pos_iff.2 h4
    rw [List.length_tail, h0]
    exact Prod.Lex.right _ (by omega)
  · exact Prod.Lex.left _ _ (by rw [List.length_tail]; omega)

theorem take_two_three {q : List Int} (h : 2 ≤ q.length) : (∃ x y, q = [x, y]) ∨ ∃ x y z r, q = x :: y :: z :: r := by
  match q, h with
  | [x, y], _ => exact .inl ⟨x, y, rfl⟩
  | x :: y :: z :: r, _ => exact .inr ⟨x, y, z, r, rfl⟩
/-- How many clauses, carries, variables a queue's reduction makes. -/
theorem red_sizes : ∀ (k : Nat) (q : List Int) (next : Nat) (r : List Int × List Int × List (List Int) × Nat), q.length ≤ k → red q next = some r →
    r.2.2.2 = next + 2 * r.2.1.length ∧ 2 * r.2.1.length ≤ q.length ∧ 7 * r.2.1.length ≤ r.2.2.1.length ∧ r.2.2.1.length ≤ 14 * r.2.1.length ∧ r.1.length ≤ 1 ∧ (next ≤ 65537 → r.2.2.2 ≤ 65537) ∧ (q ≠ [] → r.1 ≠ []) ∧ (r.2.1 = [] → q.length ≤ 1) := by
  refine red_ind (fun q next h => ⟨by simp, by simp, by simp, by simp, h, fun h => h, fun h => h, fun _ => h⟩) (fun q (next : Nat) t h1 h2 _ ih => ?_)
  obtain ⟨a, b, c, d, e, f, g, _⟩ := ih
  simp only [List.length_append, List.length_drop, List.length_cons, List.length_nil] at *
  refine ⟨by omega, ?_, ?_, ?_, e, fun _ => f (by omega), fun _ => g (by simp), fun h => by simp at h⟩
  · omega
  · rcases take_two_three h1 with ⟨x, y, rfl⟩ | ⟨x, y, z, r, rfl⟩
    · rw [show (adC (([x, y] : List Int).take (min 3 ([x, y] : List Int).length)) next).length = 7 from rfl]; omega
    · rw [show (adC ((x :: y :: z :: r : List Int).take (min 3 (x :: y :: z :: r : List Int).length)) next).length = 14 by rw [show min 3 (x :: y :: z :: r : List Int).length = 3 by simp]; rfl]; omega
  · rcases take_two_three h1 with ⟨x, y, rfl⟩ | ⟨x, y, z, r, rfl⟩
    · rw [show (adC (([x, y] : List Int).take (min 3 ([x, y] : List Int).length)) next).length = 7 from rfl]; omega
    · rw [show (adC ((x :: y :: z :: r : List Int).take (min 3 (x :: y :: z :: r : List Int).length)) next).length = 14 by rw [show min 3 (x :: y :: z :: r : List Int).length = 3 by simp]; rfl]; omega
/-- The clauses of an adder have literals of its inputs and outputs. -/
theorem adC_lits {ins : List Int} {s : Nat} (h : ins.length = 2 ∨ ins.length = 3) (hs : 1 ≤ s) (hl : ∀ x ∈ ins, Lit s x) : ∀ x ∈ adC ins s, ∀ y ∈ x, Lit (s + 2) y := by
  have key : ∀ y, (∃ x ∈ ins, y = x ∨ y = -x) ∨ y = (s : Int) ∨ y = -(s : Int) ∨ y = ((s + 1 : Nat) : Int) ∨ y = -((s + 1 : Nat) : Int) → Lit (s + 2) y := by
    rintro y (⟨x, hx, rfl | rfl⟩ | rfl | rfl | rfl | rfl)
    · exact (hl _ hx).mono (by omega)
    · exact (hl _ hx).neg.mono (by omega)
    all_goals exact ⟨by omega, by omega, by omega⟩
  rcases h with h | h
  · match ins, h with
    | [x, y], _ =>
      intro c hc z hz
      refine key z ?_
      simp [adC, adRows, fl, od, adMaj, Nat.testBit, Nat.shiftRight_eq_div_pow] at hc
      rcases hc with rfl | rfl | rfl | rfl | rfl | rfl | rfl <;> simp at hz <;> simp <;> omega
  · match ins, h with
    | [x, y, z], _ =>
      intro c hc z hz
      refine key z ?_
      simp [adC, adRows, fl, od, adMaj, Nat.testBit, Nat.shiftRight_eq_div_pow] at hc
      rcases hc with rfl | rfl | rfl | rfl | rfl | rfl | rfl | rfl | rfl | rfl | rfl | rfl | rfl | rfl <;> simp at hz <;> simp <;> omega
end Go.Proofs.Ytpeklcbjhkchlaa
