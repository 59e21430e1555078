/- What the clauses of Least mean, in plain mathematics. -/
import Derived.Test.YtpeklcbjhkchlaaFacts
namespace Go.Proofs.Ytpeklcbjhkchlaa
open Go.RowKit
set_option maxRecDepth 30000

/-- Every bit of k is made up for by V. -/
def Up (k V : Nat) : Prop := ∀ i, k.testBit i = true → ∃ j, i ≤ j ∧ (j = i ∨ k.testBit j = false) ∧ V.testBit j = true
theorem le_of_bits {V k : Nat} (h : ∀ j, V.testBit j = true → k.testBit j = true) : V ≤ k := by
  have e : V &&& k = V := by
    apply Nat.eq_of_testBit_eq
    intro i
    rw [Nat.testBit_and]
    cases hv : V.testBit i with
    | true => rw [h i hv]; rfl
    | false => rfl
  rw [← e]; exact Nat.and_le_right
theorem up_of_le : ∀ (k V : Nat), k ≤ V → Up k V := by
  intro k V h i hi
  by_cases h1 : ∃ j, i ≤ j ∧ (j = i ∨ k.testBit j = false) ∧ V.testBit j = true
  · exact h1
  · exfalso
    have h2 : V.testBit i = false := by
      cases e : V.testBit i with
      | true => exact absurd ⟨i, Nat.le_refl _, .inl rfl, e⟩ h1
      | false => rfl
    have h3 : V / 2 ^ (i + 1) ≤ k / 2 ^ (i + 1) := le_of_bits fun j hj => by
      rw [Nat.testBit_div_two_pow, Nat.add_comm j] at hj ⊢
      cases e : k.testBit (i + 1 + j) with
      | true => rfl
      | false => exact absurd ⟨i + 1 + j, by omega, .inr e, hj⟩ h1
    have h4 : k / 2 ^ i ≤ V / 2 ^ i := Nat.div_le_div_right h
    have h5 : V / 2 ^ i / 2 ≤ k / 2 ^ i / 2 := by rwa [Nat.div_div_eq_div_mul, Nat.div_div_eq_div_mul, ← Nat.pow_succ]
    rw [Nat.testBit_eq_decide_div_mod_eq] at hi h2
    simp at hi h2
    omega
theorem le_of_up : ∀ (n k V : Nat), k ≤ n → Up k V → k ≤ V
  | 0, k, V, hk, _ => by omega
  | n + 1, k, V, hk, h => by
    by_cases h0 : k = 0
    · omega
    have h1 : k / 2 ≤ V / 2 := le_of_up n (k / 2) (V / 2) (by omega) fun i hi => by
      rw [← Nat.testBit_succ] at hi
      obtain ⟨j, j1, j2, j3⟩ := h (i + 1) hi
      obtain ⟨m, rfl⟩ : ∃ m, j = m + 1 := ⟨j - 1, by omega⟩
      exact ⟨m, by omega, by rw [← Nat.testBit_succ]; rcases j2 with q | q; exact .inl (by omega); exact .inr q, by rw [← Nat.testBit_succ]; exact j3⟩
    by_cases h2 : k / 2 = V / 2
    · by_cases h3 : k % 2 = 1
      · obtain ⟨j, _, j2, j3⟩ := h 0 (by rw [Nat.testBit_zero]; simp [h3])
        cases j with
        | zero =>
          rw [Nat.testBit_zero] at j3
          simp at j3
          omega
        | succ j =>
          rw [Nat.testBit_succ, h2, ← Nat.testBit_succ, j3] at j2
          rcases j2 with q | q
          · omega
          · cases q
      · omega
    · omega
theorem up_iff (k V : Nat) : Up k V ↔ k ≤ V := ⟨le_of_up k k V (Nat.le_refl _), up_of_le k V⟩

theorem nb_bit (a : List Bool) : ∀ (l : List Int) (j : Nat), (nb a l).testBit j = (decide (l[j]?.getD 0 ≠ 0) && tv a (l[j]?.getD 0))
  | [], j => by simp [nb]
  | x :: l, 0 => by
    rw [nb, Nat.testBit_zero]
    by_cases h : x ≠ 0 ∧ tv a x = true
    · rw [if_pos h]; simp [h]
    · rw [if_neg h]
      have e : (decide (x ≠ 0) && tv a x) = false := by
        rw [Bool.and_eq_false_iff]
        by_cases h1 : x = 0
        · exact .inl (by simp [h1])
        · exact .inr (by cases q : tv a x with
            | true => exact absurd ⟨h1, q⟩ h
            | false => rfl)
      simp only [List.getElem?_cons_zero, Option.getD_some]
      rw [e]; simp
  | x :: l, j + 1 => by
    rw [nb, Nat.testBit_succ, List.getElem?_cons_succ, ← nb_bit a l j]
    congr 1
    split <;> omega
theorem lc_any (a : List Bool) (bits : List Int) (k i : Nat) : ∀ d, (lc bits k i d).any (tv a) = true ↔ ∃ e, e < d ∧ bits[i + e]?.getD 0 ≠ 0 ∧ (e = 0 ∨ k.testBit (i + e) = false) ∧ tv a (bits[i + e]?.getD 0) = true
  | 0 => by simp [lc]
  | d + 1 => by
    rw [lc]
    split
    · rename_i h
      rw [List.any_append, Bool.or_eq_true, lc_any a bits k i d]
      constructor
      · rintro (⟨e, h1, h2⟩ | h1)
        · exact ⟨e, by omega, h2⟩
        · exact ⟨d, by omega, h.1, h.2, by simpa using h1⟩
      · rintro ⟨e, h1, h2, h3, h4⟩
        rcases Nat.lt_or_ge e d with q | q
        · exact .inl ⟨e, q, h2, h3, h4⟩
        · obtain rfl : e = d := by omega
          exact .inr (by simpa using h4)
    · rename_i h
      rw [lc_any a bits k i d]
      constructor
      · rintro ⟨e, h1, h2⟩
        exact ⟨e, by omega, h2⟩
      · rintro ⟨e, h1, h2, h3, h4⟩
        rcases Nat.lt_or_ge e d with q | q
        · exact ⟨e, q, h2, h3, h4⟩
        · obtain rfl : e = d := by omega
          exact absurd ⟨h2, h3⟩ h
theorem ls_all (a : List Bool) (bits : List Int) (k : Nat) : ∀ m, (ls bits k m).all (fun l => l.any (tv a)) = true ↔ ∀ i, i < m → k.testBit i = true → (lc bits k i (bits.length - i)).any (tv a) = true
  | 0 => by simp [ls]
  | m + 1 => by
    rw [ls]
    split
    · rename_i h
      rw [List.all_append, Bool.and_eq_true, ls_all a bits k m]
      simp only [List.all_cons, List.all_nil, Bool.and_true]
      constructor
      · rintro ⟨h1, h2⟩ i hi hk
        rcases Nat.lt_or_ge i m with q | q
        · exact h1 i q hk
        · obtain rfl : i = m := by omega
          exact h2
      · intro h1
        exact ⟨fun i hi hk => h1 i (by omega) hk, h1 m (by omega) h⟩
    · rename_i h
      rw [ls_all a bits k m]
      constructor
      · intro h1 i hi hk
        rcases Nat.lt_or_ge i m with q | q
        · exact h1 i q hk
        · obtain rfl : i = m := by omega
          exact absurd hk h
      · intro h1 i hi hk
        exact h1 i (by omega) hk
/-- The clauses of Least hold just where the number is at least k. -/
theorem least_holds (a : List Bool) (bits : List Int) (k : Nat) (hk : k ≤ 4503599627370496) : ((ls bits k 60).all fun l => l.any (tv a)) = decide (k ≤ nb a bits) := by
  rw [Bool.eq_iff_iff, ls_all, decide_eq_true_eq, ← up_iff]
  constructor
  · intro h i hi
    have hi60 : i < 60 := by
      rcases Nat.lt_or_ge i 60 with q | q
      · exact q
      · rw [Nat.testBit_lt_two_pow (Nat.lt_of_lt_of_le (show k < 2 ^ 60 by omega) (Nat.pow_le_pow_right (by omega) q))] at hi; cases hi
    obtain ⟨e, h1, h2, h3, h4⟩ := (lc_any a bits k i _).1 (h i hi60 hi)
    refine ⟨i + e, by omega, ?_, ?_⟩
    · rcases h3 with q | q
      · exact .inl (by omega)
      · exact .inr q
    · rw [nb_bit, h4]; simp [h2]
  · intro h i _ hi
    obtain ⟨j, h1, h2, h3⟩ := h i hi
    rw [nb_bit, Bool.and_eq_true, decide_eq_true_eq] at h3
    have hj : j < bits.length := by
      rcases Nat.lt_or_ge j bits.length with q | q
      · exact q
      · exact absurd (by rw [List.getElem?_eq_none q]; rfl) h3.1
    obtain ⟨e, rfl⟩ : ∃ e, j = i + e := ⟨j - i, by omega⟩
    exact (lc_any a bits k i _).2 ⟨e, by omega, h3.1, by rcases h2 with q | q; exact .inl (by omega); exact .inr q, h3.2⟩
theorem lc_mem (bits : List Int) (k i : Nat) : ∀ d, ∀ x ∈ lc bits k i d, x ≠ 0 ∧ (x ∈ bits ∨ x = 0)
  | 0, x, h => by simp [lc] at h
  | d + 1, x, h => by
    rw [lc] at h
    split at h
    · rename_i g
      rcases List.mem_append.1 h with q | q
      · exact lc_mem bits k i d x q
      · rw [List.mem_singleton.1 q]
        refine ⟨g.1, ?_⟩
        rcases Nat.lt_or_ge (i + d) bits.length with r | r
        · left; rw [List.getElem?_eq_getElem r]; exact List.getElem_mem r
        · right; rw [List.getElem?_eq_none r]; rfl
    · exact lc_mem bits k i d x h
theorem ls_mem (bits : List Int) (k : Nat) : ∀ m, ∀ l ∈ ls bits k m, ∀ x ∈ l, x ≠ 0 ∧ x ∈ bits
  | 0, l, h, _, _ => by simp [ls] at h
  | m + 1, l, h, x, hx => by
    rw [ls] at h
    split at h
    · rcases List.mem_append.1 h with q | q
      · exact ls_mem bits k m l q x hx
      · rw [List.mem_singleton.1 q] at hx
        obtain ⟨h1, h2⟩ := lc_mem bits k m _ x hx
        exact ⟨h1, h2.resolve_right h1⟩
    · exact ls_mem bits k m l h x hx
theorem ls_lits {bits : List Int} (k : Nat) (v : Nat) (h : ∀ x ∈ bits, x = 0 ∨ Lit v x) : ∀ l ∈ ls bits k 60, ∀ x ∈ l, Lit v x := fun l hl x hx => by
  obtain ⟨h1, h2⟩ := ls_mem bits k 60 l hl x hx
  exact (h x h2).resolve_left h1
theorem ls_few (bits : List Int) (k : Nat) (hk : k ≤ 4503599627370496) : ∀ d, (ls bits k (53 + d)).length ≤ 53
  | 0 => ls_len bits k 53
  | d + 1 => by
    rw [← Nat.add_assoc, ls, Nat.testBit_lt_two_pow (Nat.lt_of_lt_of_le (show k < 2 ^ 53 by omega) (Nat.pow_le_pow_right (by omega) (by omega : 53 ≤ 53 + d)))]
    exact ls_few bits k hk d
theorem ls_zero (bits : List Int) : ∀ m, ls bits 0 m = []
  | 0 => rfl
  | m + 1 => by rw [ls, Nat.zero_testBit]; exact ls_zero bits m
theorem ls_inner (bits : List Int) (k m : Nat) (hl : bits.length ≤ 60) : ∀ l ∈ ls bits k m, l.length ≤ 60 := by
  induction m with
  | zero => intro l h; simp [ls] at h
  | succ m ih =>
    intro l h
    rw [ls] at h
    split at h
    · rcases List.mem_append.1 h with q | q
      · exact ih l q
      · rw [List.mem_singleton.1 q]
        have := lc_len bits k m (bits.length - m)
        omega
    · exact ih l h
end Go.Proofs.Ytpeklcbjhkchlaa
