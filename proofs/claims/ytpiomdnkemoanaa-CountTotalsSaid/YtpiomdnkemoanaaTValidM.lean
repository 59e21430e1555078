/- Plain mathematics: the clauses of a totalizer have two or three literals, all within the variables used. -/
import Derived.Test.YtpiomdnkemoanaaTCntM
import Derived.Test.YtpiomdnkemoanaaTShiftM
import Derived.Test.YtpiomdnkemoanaaLaw
namespace Go.Proofs.Ytpiomdnkemoanaa.Ttl
open Tot

def Good (v : Nat) (c : List Int) : Prop := 2 ≤ c.length ∧ c.length ≤ 3 ∧ ∀ x ∈ c, Lit v x
theorem Good.mono {v v' : Nat} {c : List Int} (h : Good v c) (hv : v ≤ v') : Good v' c := ⟨h.1, h.2.1, fun x hx => (h.2.2 x hx).mono hv⟩
theorem opt_mem {l : List Int} {i x : Int} (h : x ∈ opt l i) : x ∈ l ∧ 0 ≤ i ∧ i < l.length := by
  unfold opt at h
  split at h
  · rename_i q
    rw [List.mem_singleton.1 h, List.getElem?_eq_getElem (by omega)]
    exact ⟨List.getElem_mem _, q⟩
  · simp at h
theorem opt_len1 {l : List Int} {i : Int} (h : 0 ≤ i ∧ i < l.length) : (opt l i).length = 1 := by rw [opt, if_pos h]; rfl
theorem opt_le (l : List Int) (i : Int) : (opt l i).length ≤ 1 := by unfold opt; split <;> simp
theorem clause_len (a b : List Int) (s i k o : Int) : (clause a b s i k o).length = (opt a i).length + (opt b k).length + 1 := by simp [clause]; omega
theorem clause_lits {v : Nat} {a b : List Int} {s i k o : Int} (hs : s = 1 ∨ s = -1) (ha : ∀ x ∈ a, Lit v x) (hb : ∀ x ∈ b, Lit v x) (ho : Lit v o) : ∀ x ∈ clause a b s i k o, Lit v x := by
  have h : ∀ x, Lit v x → Lit v (s * x) := fun x hx => by
    rcases hs with rfl | rfl
    · rw [Int.one_mul]; exact hx
    · rw [Int.neg_one_mul]; exact hx.neg
  intro x hx
  rcases List.mem_append.1 hx with hx | hx
  · rcases List.mem_append.1 hx with hx | hx
    · obtain ⟨y, hy, rfl⟩ := List.mem_map.1 hx
      exact h y (ha y (opt_mem hy).1)
    · obtain ⟨y, hy, rfl⟩ := List.mem_map.1 hx
      exact h y (hb y (opt_mem hy).1)
  · rw [List.mem_singleton.1 hx]; exact ho
theorem step_good {v : Nat} {a b outs : List Int} (i k : Nat) (hi : i ≤ a.length) (hk : k ≤ b.length) (hl : outs.length ≤ a.length + b.length)
    (ha : ∀ x ∈ a, Lit v x) (hb : ∀ x ∈ b, Lit v x) (ho : ∀ x ∈ outs, Lit v x) : ∀ c ∈ Tot.step a b outs (i : Int) (k : Int), Good v c := by
  intro c hc
  rcases List.mem_append.1 hc with hc | hc
  · obtain ⟨x, hx, rfl⟩ := List.mem_map.1 hc
    obtain ⟨hx1, hx2, hx3⟩ := opt_mem hx
    have l1 := opt_le a ((i : Int) - 1)
    have l2 := opt_le b ((k : Int) - 1)
    refine ⟨?_, by rw [clause_len]; omega, clause_lits (.inr rfl) ha hb (ho x hx1)⟩
    rw [clause_len]
    by_cases h1 : 1 ≤ i
    · rw [opt_len1 (l := a) (i := (i : Int) - 1) (by omega)]; omega
    · rw [opt_len1 (l := b) (i := (k : Int) - 1) (by omega)]; omega
  · obtain ⟨x, hx, rfl⟩ := List.mem_map.1 hc
    obtain ⟨hx1, hx2, hx3⟩ := opt_mem hx
    have l1 := opt_le a (i : Int)
    have l2 := opt_le b (k : Int)
    refine ⟨?_, by rw [clause_len]; omega, clause_lits (.inl rfl) ha hb (ho x hx1).neg⟩
    rw [clause_len]
    by_cases h1 : i < a.length
    · rw [opt_len1 (l := a) (i := (i : Int)) (by omega)]; omega
    · rw [opt_len1 (l := b) (i := (k : Int)) (by omega)]; omega
theorem merge_good {v : Nat} {a b outs : List Int} (hl : outs.length ≤ a.length + b.length)
    (ha : ∀ x ∈ a, Lit v x) (hb : ∀ x ∈ b, Lit v x) (ho : ∀ x ∈ outs, Lit v x) : ∀ c ∈ merge a b outs, Good v c := by
  have hin : ∀ (i : Nat), i ≤ a.length → ∀ m, m ≤ b.length + 1 → ∀ c ∈ inner a b outs (i : Int) m, Good v c := by
    intro i hi m
    induction m with
    | zero => intro _ c hc; simp [inner] at hc
    | succ m ih =>
      intro hm c hc
      rcases List.mem_append.1 hc with hc | hc
      · exact ih (by omega) c hc
      · exact step_good i m hi (by omega) hl ha hb ho c hc
  have hout : ∀ m, m ≤ a.length + 1 → ∀ c ∈ outer a b outs m, Good v c := by
    intro m
    induction m with
    | zero => intro _ c hc; simp [outer] at hc
    | succ m ih =>
      intro hm c hc
      rcases List.mem_append.1 hc with hc | hc
      · exact ih (by omega) c hc
      · exact hin m (by omega) _ (Nat.le_refl _) c hc
  exact hout _ (Nat.le_refl _)
theorem cnt_length {most : Nat} (l : List Int) (m : Nat) : (Tot.cnt most l m).1.length = min l.length most := by
  by_cases h : min l.length most = 0
  · rw [Tot.cnt_none h, h]; rfl
  · by_cases h1 : l.length = 1
    · rw [Tot.cnt_one h h1]; simp; omega
    · rw [Tot.cnt_more h h1]; simp only [Tot.from_length]
theorem cnt_good {most m0 : Nat} (h0 : 1 ≤ m0) : ∀ (k : Nat) (l : List Int) (m : Nat), l.length ≤ k → m0 ≤ m → (∀ x ∈ l, Lit m0 x) →
    (∀ x ∈ (cnt most l m).1, Lit (m + size most l.length) x) ∧ (∀ c ∈ (cnt most l m).2, Good (m + size most l.length) c)
  | k, l, m, hk, hm, hl => by
    by_cases h : min l.length most = 0
    · rw [Tot.cnt_none h]; exact ⟨by simp, by simp⟩
    · by_cases h1 : l.length = 1
      · rw [Tot.cnt_one h h1]
        refine ⟨fun x hx => ?_, by simp⟩
        rw [List.mem_singleton.1 hx, List.getElem?_eq_getElem (by omega)]
        exact (hl _ (List.getElem_mem _)).mono (by omega)
      · cases k with
        | zero => omega
        | succ k =>
          have e1 : (l.take (l.length / 2)).length = l.length / 2 := by rw [List.length_take]; omega
          have e2 : (l.drop (l.length / 2)).length = l.length - l.length / 2 := List.length_drop ..
          obtain ⟨i1, j1⟩ := cnt_good (most := most) h0 k (l.take (l.length / 2)) m (by omega) hm (fun x hx => hl x (List.mem_of_mem_take hx))
          obtain ⟨i2, j2⟩ := cnt_good (most := most) h0 k (l.drop (l.length / 2)) (m + size most (l.length / 2)) (by omega) (by omega) (fun x hx => hl x (List.mem_of_mem_drop hx))
          have s1 := cnt_length (most := most) (l.take (l.length / 2)) m
          have s2 := cnt_length (most := most) (l.drop (l.length / 2)) (m + size most (l.length / 2))
          rw [e1] at i1 j1 s1
          rw [e2] at i2 j2 s2
          rw [Tot.cnt_more h h1, Tot.size_big (by omega : ¬ l.length < 2)]
          have ho : ∀ x ∈ from_ (m + size most (l.length / 2) + size most (l.length - l.length / 2)) (min l.length most), Lit (m + (size most (l.length / 2) + size most (l.length - l.length / 2) + min l.length most)) x := fun x hx => by
            have := from_mem _ _ x hx
            exact ⟨by omega, by omega, by omega⟩
          refine ⟨ho, fun c hc => ?_⟩
          rcases List.mem_append.1 hc with hc | hc
          · rcases List.mem_append.1 hc with hc | hc
            · exact (j1 c hc).mono (by omega)
            · exact (j2 c hc).mono (by omega)
          · exact merge_good (by rw [s1, s2, from_length]; omega) (fun x hx => (i1 x hx).mono (by omega)) (fun x hx => (i2 x hx).mono (by omega)) ho c hc
theorem merge_length40 (a b outs : List Int) (ha : a.length ≤ 20) (hb : b.length ≤ 20) : (Tot.merge a b outs).length ≤ 882 := by
  have h1 := outer_length a b outs (a.length + 1)
  have h2 := Nat.mul_le_mul (show a.length + 1 ≤ 21 by omega) (show b.length + 1 ≤ 21 by omega)
  unfold Tot.merge
  omega
theorem cnt_clauses40 {most : Nat} : ∀ (k : Nat) (l : List Int) (m : Nat), l.length ≤ k → l.length ≤ 40 → (Tot.cnt most l m).2.length ≤ 882 * (l.length - 1)
  | k, l, m, hk, hl => by
    by_cases h : min l.length most = 0
    · rw [Tot.cnt_none h]; simp
    · by_cases h1 : l.length = 1
      · rw [Tot.cnt_one h h1]; simp
      · cases k with
        | zero => omega
        | succ k =>
          rw [Tot.cnt_more h h1]
          have e1 : (l.take (l.length / 2)).length = l.length / 2 := by rw [List.length_take]; omega
          have e2 : (l.drop (l.length / 2)).length = l.length - l.length / 2 := List.length_drop ..
          have i1 := cnt_clauses40 (most := most) k (l.take (l.length / 2)) m (by omega) (by omega)
          have i2 := cnt_clauses40 (most := most) k (l.drop (l.length / 2)) (m + Tot.size most (l.length / 2)) (by omega) (by omega)
          have s1 := cnt_small (most := most) (l.take (l.length / 2)) m
          have s2 := cnt_small (most := most) (l.drop (l.length / 2)) (m + Tot.size most (l.length / 2))
          have i3 := merge_length40 (Tot.cnt most (l.take (l.length / 2)) m).1 (Tot.cnt most (l.drop (l.length / 2)) (m + Tot.size most (l.length / 2))).1 (Tot.from_ (m + Tot.size most (l.length / 2) + Tot.size most (l.length - l.length / 2)) (min l.length most)) (by omega) (by omega)
          rw [e1] at i1
          rw [e2] at i2
          simp only [List.length_append]
          omega
theorem dist_lit {m : Nat} : ∀ (l seen : List Int), dist (m : Int) seen l = true → ∀ x ∈ l, Lit m x
  | [], _, _ => by simp
  | y :: l, seen, hd => by
    have hb := dist_bound (y :: l) seen hd
    rw [dist] at hd
    split at hd
    · exact absurd hd (by simp)
    · rename_i hc
      intro x hx
      have hbx := hb x hx
      rcases List.mem_cons.1 hx with rfl | hx
      · exact ⟨fun q => hc (.inl q), hbx.1, hbx.2⟩
      · exact dist_lit l (y :: seen) hd x hx
/-- The outputs: those of one literal, or new variables. -/
theorem cnt_outs {most : Nat} (l : List Int) (m : Nat) (h : 1 < l.length) : ∀ x ∈ (cnt most l m).1, (m : Int) ≤ x ∧ x < ((m + size most l.length : Nat) : Int) := by
  by_cases h0 : min l.length most = 0
  · rw [Tot.cnt_none h0]; simp
  · rw [Tot.cnt_more h0 (by omega), Tot.size_big (by omega : ¬ l.length < 2)]
    intro x hx
    have := from_mem _ _ x hx
    omega
theorem cnt_outs1 {most : Nat} (l : List Int) (m : Nat) (h : l.length = 1) : ∀ x ∈ (cnt most l m).1, x = l[0]?.getD 0 := by
  by_cases h0 : min l.length most = 0
  · rw [Tot.cnt_none h0]; simp
  · rw [Tot.cnt_one h0 h]
    intro x hx
    exact List.mem_singleton.1 hx
theorem cnt_outs0 {most : Nat} (l : List Int) (m : Nat) (h : l.length = 0) : (cnt most l m).1 = [] := by rw [Tot.cnt_none (by omega)]
end Go.Proofs.Ytpiomdnkemoanaa.Ttl
