/- Plain mathematics: a totalizer whose first new variable is raised is the same totalizer, its new variables raised. -/
import Derived.Test.YtpiomdnkemoanaaTCntM
namespace Go.Proofs.Ytpiomdnkemoanaa.Ttl
open Tot

/-- A literal whose variable is new is moved. -/
def mv (next by_ x : Int) : Int := if next ≤ x then x + by_ else if next ≤ -x then x - by_ else x
theorem mv_neg {next by_ x : Int} (h : 1 ≤ next) : mv next by_ (-x) = - mv next by_ x := by
  unfold mv; split <;> split <;> (try split) <;> omega
theorem mv_old {next by_ x : Int} (h : -next < x) (h2 : x < next) : mv next by_ x = x := by
  rw [mv, if_neg (by omega), if_neg (by omega)]
theorem mv_new {next by_ x : Int} (h : next ≤ x) : mv next by_ x = x + by_ := by rw [mv, if_pos h]
theorem map_at (f : Int → Int) (l : List Int) (k : Nat) (h : k < l.length) : (l.map f)[k]?.getD 0 = f (l[k]?.getD 0) := by simp [h]
theorem opt_map (f : Int → Int) (l : List Int) (i : Int) : opt (l.map f) i = (opt l i).map f := by
  unfold opt
  rw [List.length_map]
  by_cases h : 0 ≤ i ∧ i < l.length
  · rw [if_pos h, if_pos h, map_at f l i.toNat (by omega)]; rfl
  · rw [if_neg h, if_neg h]; rfl
section
variable {f : Int → Int} (hf : ∀ x, f (-x) = - f x)
include hf
theorem clause_map (a b : List Int) (sign i k out : Int) (hs : sign = 1 ∨ sign = -1) : clause (a.map f) (b.map f) sign i k (f out) = (clause a b sign i k out).map f := by
  have h : ∀ x, sign * f x = f (sign * x) := fun x => by
    rcases hs with rfl | rfl
    · rw [Int.one_mul, Int.one_mul]
    · rw [Int.neg_one_mul, Int.neg_one_mul, hf]
  unfold clause
  rw [opt_map, opt_map]
  simp [List.map_map, Function.comp_def, h]
theorem step_map (a b outs : List Int) (i k : Int) : Tot.step (a.map f) (b.map f) (outs.map f) i k = (Tot.step a b outs i k).map (List.map f) := by
  have h1 : ∀ x, clause (a.map f) (b.map f) (-1) (i - 1) (k - 1) (f x) = (clause a b (-1) (i - 1) (k - 1) x).map f := fun x => clause_map hf a b _ _ _ _ (.inr rfl)
  have h2 : ∀ x, clause (a.map f) (b.map f) 1 i k (-(f x)) = (clause a b 1 i k (-x)).map f := fun x => by rw [← hf]; exact clause_map hf a b _ _ _ _ (.inl rfl)
  unfold Tot.step
  rw [opt_map, opt_map]
  simp only [List.map_append, List.map_map, Function.comp_def, h1, h2]
theorem inner_map (a b outs : List Int) (i : Int) : ∀ m, inner (a.map f) (b.map f) (outs.map f) i m = (inner a b outs i m).map (List.map f)
  | 0 => rfl
  | m + 1 => by rw [inner, inner, inner_map a b outs i m, step_map hf, List.map_append]
theorem outer_map (a b outs : List Int) : ∀ m, outer (a.map f) (b.map f) (outs.map f) m = (outer a b outs m).map (List.map f)
  | 0 => rfl
  | m + 1 => by rw [outer, outer, outer_map a b outs m, List.length_map, inner_map hf, List.map_append]
theorem merge_map (a b outs : List Int) : merge (a.map f) (b.map f) (outs.map f) = (merge a b outs).map (List.map f) := by
  unfold merge; rw [List.length_map, outer_map hf]
end
theorem from_mv (next by_ : Nat) (m : Nat) (h : next ≤ m) : ∀ n, from_ (m + by_) n = (from_ m n).map (mv (next : Int) (by_ : Int))
  | 0 => rfl
  | n + 1 => by
    rw [from_, from_, from_mv next by_ m h n, List.map_append, List.map_cons, List.map_nil, mv_new (by omega)]
    congr 2
    omega
theorem cnt_mv {most : Nat} (next by_ : Nat) (h1 : 1 ≤ next) : ∀ (k : Nat) (l : List Int) (m : Nat), l.length ≤ k → next ≤ m → (∀ x ∈ l, -(next : Int) < x ∧ x < next) →
    cnt most l (m + by_) = ((cnt most l m).1.map (mv (next : Int) (by_ : Int)), (cnt most l m).2.map (List.map (mv (next : Int) (by_ : Int))))
  | k, l, m, hk, hm, hl => by
    by_cases h : min l.length most = 0
    · rw [cnt_none h, cnt_none h]; rfl
    · by_cases hone : l.length = 1
      · have hx := hl (l[0]?.getD 0) (by rw [List.getElem?_eq_getElem (by omega)]; exact List.getElem_mem _)
        rw [cnt_one h hone, cnt_one h hone]
        simp only [List.map_cons, List.map_nil, mv_old hx.1 hx.2]
      · cases k with
        | zero => omega
        | succ k =>
          have e1 : (l.take (l.length / 2)).length = l.length / 2 := by rw [List.length_take]; omega
          have e2 : (l.drop (l.length / 2)).length = l.length - l.length / 2 := List.length_drop ..
          have i1 := cnt_mv (most := most) next by_ h1 k (l.take (l.length / 2)) m (by omega) hm (fun x hx => hl x (List.mem_of_mem_take hx))
          have i2 := cnt_mv (most := most) next by_ h1 k (l.drop (l.length / 2)) (m + size most (l.length / 2)) (by omega) (by omega) (fun x hx => hl x (List.mem_of_mem_drop hx))
          rw [cnt_more h hone, cnt_more h hone, show m + by_ + size most (l.length / 2) = m + size most (l.length / 2) + by_ by omega, i1, i2,
            show m + size most (l.length / 2) + by_ + size most (l.length - l.length / 2) = m + size most (l.length / 2) + size most (l.length - l.length / 2) + by_ by omega, from_mv next by_ _ (by omega)]
          simp only [List.map_append, merge_map (fun x => mv_neg (show (1 : Int) ≤ (next : Int) by omega))]
theorem dist_mono {next next' : Int} (h : next ≤ next') : ∀ (l seen : List Int), dist next seen l = true → dist next' seen l = true
  | [], _, _ => rfl
  | x :: l, seen, hd => by
    rw [dist] at hd ⊢
    split at hd
    · exact absurd hd (by simp)
    · rename_i hc
      have hc2 : ¬ (x = 0 ∨ x ≤ -next' ∨ next' ≤ x ∨ x ∈ seen ∨ -x ∈ seen) := by
        rintro (q | q | q | q | q)
        · exact hc (.inl q)
        · exact hc (.inr (.inl (by omega)))
        · exact hc (.inr (.inr (.inl (by omega))))
        · exact hc (.inr (.inr (.inr (.inl q))))
        · exact hc (.inr (.inr (.inr (.inr q))))
      rw [if_neg hc2]
      exact dist_mono h l (x :: seen) hd
theorem dist_bound {next : Int} : ∀ (l seen : List Int), dist next seen l = true → ∀ x ∈ l, -next < x ∧ x < next
  | [], _, _ => by simp
  | y :: l, seen, hd => by
    rw [dist] at hd
    split at hd
    · exact absurd hd (by simp)
    · rename_i hc
      intro x hx
      rcases List.mem_cons.1 hx with rfl | hx
      · refine ⟨?_, ?_⟩
        · exact Int.not_le.1 fun q => hc (.inr (.inl q))
        · exact Int.not_le.1 fun q => hc (.inr (.inr (.inl q)))
      · exact dist_bound l (y :: seen) hd x hx
end Go.Proofs.Ytpiomdnkemoanaa.Ttl
