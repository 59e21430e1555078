/- Plain mathematics: negating all literals complements the count. -/
import Derived.Test.YtppgpafnifmmfaaOpenB
namespace Go.Proofs.Ytppgpafnifmmfaa
open Tot

/-- Go's -x. -/
def ng (x : Int) : Int := if x = -9223372036854775808 then -9223372036854775808 else -x
theorem ng_lit {v : Nat} {x : Int} (h : Lit v x) (hv : v ≤ 65537) : ng x = -x := by
  unfold ng; rw [if_neg (by have := h.2.1; omega)]
theorem ng_wf {x : Int} (h : Wf x) : Wf (ng x) := by
  unfold ng
  split
  · exact ⟨by omega, by omega⟩
  · exact ⟨by have := h.2; omega, by have := h.1; omega⟩
theorem ng_map {v : Nat} {l : List Int} (h : ∀ x ∈ l, Lit v x) (hv : v ≤ 65537) : l.map ng = l.map (- ·) := List.map_congr_left fun x hx => ng_lit (h x hx) hv
theorem dist_neg {m : Int} : ∀ (l seen : List Int), dist m seen l = true → dist m (seen.map (- ·)) (l.map (- ·)) = true
  | [], _, _ => rfl
  | x :: l, seen, h => by
    rw [dist] at h
    split at h
    · exact absurd h (by simp)
    · rename_i hc
      have h1 : ¬ (-x ∈ seen.map (- ·)) := fun q => by
        obtain ⟨y, hy, e⟩ := List.mem_map.1 q
        obtain rfl : y = x := by omega
        exact hc (.inr (.inr (.inr (.inl hy))))
      have h2 : ¬ (- -x ∈ seen.map (- ·)) := fun q => by
        obtain ⟨y, hy, e⟩ := List.mem_map.1 q
        obtain rfl : y = -x := by omega
        exact hc (.inr (.inr (.inr (.inr hy))))
      rw [List.map_cons, dist, if_neg]
      · exact dist_neg l (x :: seen) h
      · rintro (q | q | q | q | q)
        · exact hc (.inl (by omega))
        · exact hc (.inr (.inr (.inl (by omega))))
        · exact hc (.inr (.inl (by omega)))
        · exact h1 q
        · exact h2 q
theorem ctf_neg {f : Int → Bool} (hf : NegOk f) : ∀ (l : List Int), Nz l → ctf f (l.map (- ·)) + ctf f l = l.length
  | [], _ => rfl
  | x :: l, h => by
    have ih := ctf_neg hf l (fun y hy => h y (List.mem_cons_of_mem _ hy))
    have hx := hf x (h x (List.mem_cons_self ..))
    unfold ctf at *
    rw [List.map_cons, List.length_cons]
    by_cases q : f x = true
    · rw [List.filter_cons_of_pos q, List.filter_cons_of_neg (by rw [hx, q]; simp), List.length_cons]; omega
    · rw [List.filter_cons_of_neg q, List.filter_cons_of_pos (by rw [hx]; simpa using q), List.length_cons]; omega
theorem ng_take (zs : List Int) (j : Nat) (h : j < zs.length) : (zs.map ng).take (j + 1) = (zs.map ng).take j ++ [ng (zs[j]?.getD 0)] := by
  rw [List.take_add_one, List.getElem?_map, List.getElem?_eq_getElem h]; rfl
theorem wrap_min : RowKit.wrap64 9223372036854775808 = -9223372036854775808 := by unfold RowKit.wrap64; omega
end Go.Proofs.Ytppgpafnifmmfaa
