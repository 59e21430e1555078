/- What the normal form means. -/
import Derived.Test.YtoacfjmefoiflaaLinV
namespace Go.Proofs.Ytoacfjmefoiflaa

theorem tv_ext {a : List Bool} {x : Int} (b : List Bool) (h : Lit a.length x) : tv (a ++ b) x = tv a x := by
  obtain ⟨k, h1, h2, rfl | rfl⟩ := h.two
  · rw [tv_pos, tv_pos, List.getElem?_append_left h2]
  · rw [tv_neg _ _ h1, tv_neg _ _ h1, List.getElem?_append_left h2]
theorem wsum_append (a : List Bool) : ∀ c1 l1 c2 l2 : List Int, c1.length = l1.length → wsum a (c1 ++ c2) (l1 ++ l2) = wsum a c1 l1 + wsum a c2 l2
  | [], [], c2, l2, _ => by simp [wsum]
  | x :: c1, y :: l1, c2, l2, h => by
    have ih := wsum_append a c1 l1 c2 l2 (by simpa using h)
    show _ + wsum a (c1 ++ c2) (l1 ++ l2) = _ + wsum a c1 l1 + _
    rw [ih]; omega
  | [], y :: l1, _, _, h => by simp at h
  | x :: c1, [], _, _, h => by simp at h
/-- What the terms of one variable give. -/
def gv (a : List Bool) (cs ls : List Int) (v : Int) : Int := if tv a v = true then tot cs ls v else tot cs ls (-v)
def gs (a : List Bool) (cs ls : List Int) : List Int → Int
  | [] => 0
  | v :: r => gv a cs ls v + gs a cs ls r
theorem gv_other (a : List Bool) (c l v : Int) (cs ls : List Int) (h1 : l ≠ v) (h2 : l ≠ -v) : gv a (c :: cs) (l :: ls) v = gv a cs ls v := by
  unfold gv
  simp only [tot, h1, h2, if_false]
  split <;> omega
theorem gv_same (a : List Bool) (c l v : Int) (cs ls : List Int) (h : l = v ∨ l = -v) (hv : 0 < v) : gv a (c :: cs) (l :: ls) v = gv a cs ls v + (if tv a l = true then c else 0) := by
  unfold gv
  rcases h with rfl | rfl
  · have : ¬ l = -l := by omega
    simp only [tot, this, if_false, if_true]
    cases tv a l <;> simp <;> omega
  · have h1 : ¬ -v = v := by omega
    rw [tv_not a v (by omega)]
    simp only [tot, h1, if_false, if_true]
    cases tv a v <;> simp <;> omega
theorem gs_other (a : List Bool) (c l : Int) (cs ls : List Int) : ∀ ys : List Int, (∀ v ∈ ys, l ≠ v ∧ l ≠ -v) → gs a (c :: cs) (l :: ls) ys = gs a cs ls ys
  | [], _ => rfl
  | v :: r, h => by
    have h1 := h v (by simp)
    show gv _ _ _ _ + gs _ _ _ _ = gv _ _ _ _ + gs _ _ _ _
    rw [gv_other a c l v cs ls h1.1 h1.2, gs_other a c l cs ls r fun x hx => h x (List.mem_cons_of_mem _ hx)]
theorem gs_step (a : List Bool) (c l : Int) (cs ls : List Int) : ∀ ys : List Int, ys.Pairwise (· < ·) → (∀ v ∈ ys, 0 < v) → max l (-l) ∈ ys → gs a (c :: cs) (l :: ls) ys = gs a cs ls ys + (if tv a l = true then c else 0)
  | [], _, _, h => by cases h
  | v :: r, hp, hpos, h => by
    have hp1 := List.pairwise_cons.1 hp
    have hv := hpos v (by simp)
    show gv _ _ _ _ + gs _ _ _ _ = gv _ _ _ _ + gs _ _ _ _ + _
    by_cases e : max l (-l) = v
    · rw [gv_same a c l v cs ls (by omega) hv, gs_other a c l cs ls r fun x hx => by have := hp1.1 x hx; omega]
      omega
    · have hm : max l (-l) ∈ r := by
        rcases List.mem_cons.1 h with q | q
        · exact absurd q e
        · exact q
      rw [gv_other a c l v cs ls (by omega) (by omega), gs_step a c l cs ls r hp1.2 (fun x hx => hpos x (List.mem_cons_of_mem _ hx)) hm]
      omega
theorem gs_nil (a : List Bool) (ls : List Int) : ∀ ys, gs a [] ls ys = 0
  | [] => rfl
  | v :: r => by
    show gv _ _ _ _ + gs _ _ _ _ = 0
    rw [gs_nil a ls r]
    unfold gv
    simp [tot]
theorem gs_all (a : List Bool) (ys : List Int) (hp : ys.Pairwise (· < ·)) (hpos : ∀ v ∈ ys, 0 < v) : ∀ cs ls : List Int, cs.length = ls.length → (∀ z ∈ ls, max z (-z) ∈ ys) → gs a cs ls ys = wsum a cs ls
  | [], ls, _, _ => by rw [gs_nil]; cases ls <;> rfl
  | c :: cs, [], h, _ => by simp at h
  | c :: cs, l :: ls, h, hz => by
    rw [gs_step a c l cs ls ys hp hpos (hz l (by simp)), gs_all a ys hp hpos cs ls (by simpa using h) fun z q => hz z (List.mem_cons_of_mem _ q)]
    simp only [wsum]; omega
theorem gv_split (a : List Bool) (cs ls : List Int) (v : Int) (hv : 0 < v) : gv a cs ls v = min (tot cs ls v) (tot cs ls (-v)) + wsum a (vC (tot cs ls v) (tot cs ls (-v))) (vL v (tot cs ls v) (tot cs ls (-v))) := by
  unfold gv vC vL
  have hn := tv_not a v (by omega)
  generalize tot cs ls v = p
  generalize tot cs ls (-v) = q
  rcases Int.lt_trichotomy q p with h | h | h
  · rw [if_pos h, if_pos h]
    simp only [wsum]
    cases tv a v <;> simp <;> omega
  · subst h
    simp only [Int.lt_irrefl, if_false, wsum]
    cases tv a v <;> simp
  · have h2 : ¬ q < p := by omega
    rw [if_neg h2, if_pos h, if_neg h2, if_pos h]
    simp only [wsum, hn]
    cases tv a v <;> simp <;> omega
theorem gs_split (a : List Bool) (cs ls : List Int) : ∀ ys : List Int, (∀ v ∈ ys, 0 < v) → gs a cs ls ys = nk cs ls ys + wsum a (ncs cs ls ys) (nls cs ls ys)
  | [], _ => by simp [gs, nk, ncs, nls, wsum]
  | v :: r, h => by
    have ih := gs_split a cs ls r fun x hx => h x (List.mem_cons_of_mem _ hx)
    show gv _ _ _ _ + gs _ _ _ _ = _
    rw [ih, gv_split a cs ls v (h v (by simp))]
    simp only [nk, ncs, nls]
    rw [wsum_append _ _ _ _ _ (v_len _ _ v).1]
    omega
theorem wsum_pos (a : List Bool) : ∀ cs ls : List Int, (∀ c ∈ cs, 0 < c) → 0 ≤ wsum a cs ls ∧ wsum a cs ls ≤ su cs
  | [], ls, _ => by cases ls <;> simp [wsum, su]
  | c :: cs, [], h => by
    have h1 := wsum_pos a cs [] fun x hx => h x (List.mem_cons_of_mem _ hx)
    have h2 := h c (by simp)
    simp only [wsum, su]
    have : wsum a cs [] = 0 := by cases cs <;> rfl
    omega
  | c :: cs, l :: ls, h => by
    have h1 := wsum_pos a cs ls fun x hx => h x (List.mem_cons_of_mem _ hx)
    have h2 := h c (by simp)
    simp only [wsum, su]
    split <;> omega
theorem wsum_min (a : List Bool) (k : Int) (hk : 0 < k) : ∀ cs ls : List Int, (∀ c ∈ cs, 0 < c) → 0 ≤ wsum a (mn cs k) ls ∧ (wsum a (mn cs k) ls = wsum a cs ls ∨ (k ≤ wsum a (mn cs k) ls ∧ k ≤ wsum a cs ls))
  | [], ls, _ => by cases ls <;> simp [wsum, mn]
  | c :: cs, [], h => by simp [wsum, mn]
  | c :: cs, l :: ls, h => by
    have h1 := wsum_min a k hk cs ls fun x hx => h x (List.mem_cons_of_mem _ hx)
    have h2 := h c (by simp)
    have h3 := wsum_pos a cs ls fun x hx => h x (List.mem_cons_of_mem _ hx)
    show 0 ≤ (if tv a l = true then min c k else 0) + wsum a (mn cs k) ls ∧ ((if tv a l = true then min c k else 0) + wsum a (mn cs k) ls = (if tv a l = true then c else 0) + wsum a cs ls ∨ (k ≤ (if tv a l = true then min c k else 0) + wsum a (mn cs k) ls ∧ k ≤ (if tv a l = true then c else 0) + wsum a cs ls))
    split <;> omega
theorem sat_means (a : List Bool) (cs ls : List Int) (k : Int) (h : ∀ c ∈ cs, 0 < c) : (satK cs k ≤ wsum a (satC cs k) (satL cs ls k)) ↔ k ≤ wsum a cs ls := by
  have hp := wsum_pos a cs ls h
  unfold satK satC satL
  by_cases h1 : k ≤ 0
  · rw [if_pos h1, if_pos h1, if_pos h1]
    simp only [wsum]; omega
  · rw [if_neg h1, if_neg h1, if_neg h1]
    by_cases h2 : su cs < k
    · rw [if_pos h2, if_pos h2, if_pos h2]
      simp only [wsum]; omega
    · rw [if_neg h2, if_neg h2, if_neg h2]
      have := wsum_min a k (by omega) cs ls h
      omega
/-- The normal form holds just where the constraint does. -/
theorem norm_means (a : List Bool) (cs ls ys : List Int) (k M : Int) (hl : cs.length = ls.length) (hp : ys.Pairwise (· < ·)) (hm : ∀ x, x ∈ ys ↔ ∃ z ∈ ls, x = max z (-z)) (hz : ∀ z ∈ ls, z ≠ 0) (hM : ∀ z, -M ≤ tot cs ls z ∧ tot cs ls z ≤ M) :
    (satK (ncs cs ls ys) (k - nk cs ls ys) ≤ wsum a (satC (ncs cs ls ys) (k - nk cs ls ys)) (satL (ncs cs ls ys) (nls cs ls ys) (k - nk cs ls ys))) ↔ k ≤ wsum a cs ls := by
  have hpos : ∀ v ∈ ys, 0 < v := fun v hv => by
    obtain ⟨z, h1, h2⟩ := (hm v).1 hv
    have := hz z h1
    omega
  rw [sat_means a _ _ _ fun c hc => (ncs_bound cs ls M hM ys c hc).1]
  have h1 := gs_split a cs ls ys hpos
  rw [gs_all a ys hp hpos cs ls hl fun z q => (hm _).2 ⟨z, q, rfl⟩] at h1
  omega
theorem wsum_ext {a : List Bool} (d : List Bool) : ∀ cs ls : List Int, (∀ x ∈ ls, Lit a.length x) → wsum (a ++ d) cs ls = wsum a cs ls
  | [], ls, _ => by cases ls <;> rfl
  | c :: cs, [], _ => rfl
  | c :: cs, l :: ls, h => by
    simp only [wsum]
    rw [wsum_ext d cs ls fun x hx => h x (List.mem_cons_of_mem _ hx), tv_ext d (h l (by simp))]
end Go.Proofs.Ytoacfjmefoiflaa
