/- What the law of the negation wants of plain mathematics. -/
import Derived.Test.YtoacfjmefoiflaaOpen
namespace Go.Proofs.Ytoacfjmefoiflaa
set_option maxRecDepth 30000

def ng (cs : List Int) : List Int := cs.map fun c => -c
theorem ng_len (cs : List Int) : (ng cs).length = cs.length := List.length_map ..
theorem ng_at (cs : List Int) (j : Nat) : (ng cs)[j]?.getD 0 = -(cs[j]?.getD 0) := by
  unfold ng
  rw [List.getElem?_map]
  cases cs[j]? <;> simp
theorem ng_take (cs : List Int) (j : Nat) (h : j < cs.length) : ng (cs.take (j + 1)) = ng (cs.take j) ++ [-(cs[j]?.getD 0)] := by
  unfold ng
  rw [List.take_add_one, List.getElem?_eq_getElem h, List.map_append]
  rfl
theorem wsum_ng (a : List Bool) : ∀ cs ls : List Int, wsum a (ng cs) ls = -wsum a cs ls
  | [], ls => by cases ls <;> rfl
  | c :: cs, [] => rfl
  | c :: cs, l :: ls => by
    have ih := wsum_ng a cs ls
    show (if tv a l = true then -c else 0) + wsum a (ng cs) ls = -((if tv a l = true then c else 0) + wsum a cs ls)
    rw [ih]
    split <;> omega
theorem OkL.ng {cs ls : List Int} {k : Int} (h : OkL cs ls k 65536) (hk : k ≠ -1099511627776) : OkL (ng cs) ls (1 - k) 65536 := by
  have hb := h.kb
  obtain ⟨h1, h2, h3, h4, h5⟩ := h
  refine ⟨h1, h2, by rw [ng_len]; exact h3, ?_, fun j hj => ⟨?_, (h5 j hj).2⟩⟩
  · unfold numB
    rw [decide_eq_true (by omega), decide_eq_true (by omega)]; rfl
  · rw [ng_at]
    have := (h5 j hj).1
    unfold numB at this ⊢
    simp at this ⊢
    omega
theorem can_nil : ∀ cs ls : List Int, cs.length = ls.length → can [] cs ls = su cs
  | [], ls, _ => by cases ls <;> rfl
  | c :: cs, [], h => by simp at h
  | c :: cs, l :: ls, h => by
    have ih := can_nil cs ls (by simpa using h)
    simp [can, su, ih]
theorem fOk_nil (cs ls : List Int) (k : Int) (hl : (nC cs ls k).length = (nL cs ls k).length) : fOk [] cs ls k = decide (nK cs ls k ≤ su (nC cs ls k)) := by
  unfold fOk
  rw [can_nil _ _ hl]
theorem mean (cs ls : List Int) (k : Int) (h : OkL cs ls k 65536) (hn : ls.length ≤ 64) (a : List Bool) : (nK cs ls k ≤ wsum a (nC cs ls k) (nL cs ls k)) ↔ k ≤ wsum a cs ls :=
  norm_means a cs ls (vsOf ls) k 70368744177664 h.2.2.1 (vsOf_pw ls) (fun x => vsOf_mem x ls) (fun z hz => (h.ls z hz).1) (fun z => by
    have h1 := tot_bound 1099511627776 (by omega) cs ls z h.cs
    have h2 := h.2.2.1
    omega)
/-- Where a constraint holds, it can be forced. -/
theorem fOk_holds (cs ls : List Int) (k : Int) (h : OkL cs ls k 65536) (hn : ls.length ≤ 64) (a : List Bool) (ha : k ≤ wsum a cs ls) : fOk [] cs ls k = true := by
  have hc := canon cs ls k 65536 h.2.2.1 hn h.cs h.ls
  rw [fOk_nil _ _ _ hc.len]
  have h1 := (mean cs ls k h hn a).2 ha
  have h2 := (wsum_pos a (nC cs ls k) (nL cs ls k) fun c hc' => by have := hc.pos c hc'; omega).2
  exact decide_eq_true (by omega)
/-- An assignment under which no literal of a canonical constraint is true. -/
def allF (L : List Int) : List Bool := (List.range 65537).map fun v : Nat => decide (-(v : Int) ∈ L)
theorem pw_apart : ∀ L : List Int, (L.map fun z => max z (-z)).Pairwise (· < ·) → (∀ z ∈ L, z ≠ 0) → ∀ z ∈ L, -z ∉ L
  | [], _, _, z, hz, _ => by simp at hz
  | x :: L, hp, h0, z, hz, hn => by
    have hc := List.pairwise_cons.1 hp
    have hx := h0 x (by simp)
    have key : ∀ y ∈ L, max x (-x) < max y (-y) := fun y hy => hc.1 _ (List.mem_map.2 ⟨y, hy, rfl⟩)
    rcases List.mem_cons.1 hz with q | q <;> rcases List.mem_cons.1 hn with r | r
    · omega
    · have := key _ r; omega
    · have := key _ q; omega
    · exact pw_apart L hc.2 (fun y hy => h0 y (List.mem_cons_of_mem _ hy)) z q r
theorem allF_tv (L : List Int) (hp : (L.map fun z => max z (-z)).Pairwise (· < ·)) (h0 : ∀ z ∈ L, z ≠ 0 ∧ -65536 ≤ z ∧ z ≤ 65536) : ∀ z ∈ L, tv (allF L) z = false := fun z hz => by
  obtain ⟨z0, z1, z2⟩ := h0 z hz
  have hap := pw_apart L hp (fun y hy => (h0 y hy).1) z hz
  have hget : ∀ v : Nat, v < 65537 → (allF L)[v]?.getD false = decide (-(v : Int) ∈ L) := fun v hv => by
    unfold allF
    rw [List.getElem?_map, List.getElem?_range hv]; rfl
  rcases (show 0 < z ∨ z < 0 by omega) with q | q
  · obtain ⟨v, rfl⟩ := Int.eq_ofNat_of_zero_le (show 0 ≤ z by omega)
    rw [tv_pos, hget v (by omega)]
    exact decide_eq_false hap
  · obtain ⟨v, hv⟩ := Int.eq_ofNat_of_zero_le (show 0 ≤ -z by omega)
    obtain rfl : z = -(v : Int) := by omega
    rw [tv_neg _ _ (by omega), hget v (by omega), decide_eq_true hz]; rfl
theorem wsum_false (a : List Bool) : ∀ cs ls : List Int, (∀ z ∈ ls, tv a z = false) → wsum a cs ls = 0
  | [], ls, _ => by cases ls <;> rfl
  | c :: cs, [], _ => rfl
  | c :: cs, l :: ls, h => by
    have ih := wsum_false a cs ls fun z hz => h z (List.mem_cons_of_mem _ hz)
    simp only [wsum, h l (by simp), ih]
    simp
/-- A constraint whose negation can't hold is valid: its normal form has no terms and the bound 0. -/
theorem neg_valid (cs ls : List Int) (k : Int) (h : OkL cs ls k 65536) (hk : k ≠ -1099511627776) (hn : ls.length ≤ 64) (hno : fOk [] (ng cs) ls (1 - k) = false) : nC cs ls k = [] ∧ nL cs ls k = [] ∧ nK cs ls k = 0 := by
  have hc := canon cs ls k 65536 h.2.2.1 hn h.cs h.ls
  have hbad : ∀ a : List Bool, k ≤ wsum a cs ls := fun a => by
    by_cases q : k ≤ wsum a cs ls
    · exact q
    · have := fOk_holds (ng cs) ls (1 - k) (h.ng hk) hn a (by rw [wsum_ng]; omega)
      rw [this] at hno; cases hno
  have h1 := (mean cs ls k h hn (allF (nL cs ls k))).2 (hbad _)
  rw [wsum_false _ _ _ (allF_tv _ hc.vs hc.lit)] at h1
  by_cases q : nC cs ls k = []
  · have hL : nL cs ls k = [] := List.eq_nil_of_length_eq_zero (by rw [← hc.len, q]; rfl)
    have := hc.none q
    exact ⟨q, hL, by omega⟩
  · have := hc.some q
    omega
theorem pos_none (cs ls : List Int) (k : Int) (h : OkL cs ls k 65536) (hn : ls.length ≤ 64) (hno : fOk [] cs ls k = false) : nC cs ls k = [] ∧ nL cs ls k = [] ∧ nK cs ls k = 1 := by
  have hc := canon cs ls k 65536 h.2.2.1 hn h.cs h.ls
  rw [fOk_nil _ _ _ hc.len] at hno
  have h1 := of_decide_eq_false hno
  by_cases q : nC cs ls k = []
  · have hL : nL cs ls k = [] := List.eq_nil_of_length_eq_zero (by rw [← hc.len, q]; rfl)
    have := hc.none q
    rw [q] at h1
    simp only [su] at h1
    exact ⟨q, hL, by omega⟩
  · have := hc.some q
    omega
theorem fRes_no (lits cs ls : List Int) (k : Int) (h : fOk lits cs ls k = false) : fRes lits cs ls k = [] := by unfold fRes; rw [h]; rfl
end Go.Proofs.Ytoacfjmefoiflaa
