/- Unit propagation on the clauses of the counter, in plain mathematics. -/
import Derived.Test.YtpiomdnkemoanaaForce
namespace Go.Proofs.Ytpiomdnkemoanaa
open Go.RowKit

/-- 1 for true, -1 for false. -/
def sg (b : Bool) : Int := if b then 1 else -1
/-- What is known agrees with an assignment. -/
def Comp (a : Nat) (b : List Bool) (tr : List Int) : Prop := ∀ k, 1 ≤ k → k < a → tr[k]?.getD 0 = 0 ∨ tr[k]?.getD 0 = sg (b[k]?.getD false)
theorem comp_lv {a : Nat} {b : List Bool} {tr : List Int} (h : Comp a b tr) {y : Int} (hy : Lit a y) (ht : tv b y = true) : lv tr y = 0 ∨ lv tr y = 1 := by
  obtain ⟨k, h1, h2, rfl | rfl⟩ := hy.two
  · rw [tv_pos] at ht
    rw [lv_pos]
    rcases h k h1 h2 with q | q
    · exact .inl q
    · right; rw [q, ht]; rfl
  · rw [tv_neg _ _ h1, Bool.not_eq_true'] at ht
    rw [lv_neg _ _ h1]
    rcases h k h1 h2 with q | q
    · left; rw [q]; rfl
    · right; rw [q, ht]; rfl
theorem get_set (tr : List Int) (k j : Nat) (z : Int) (hk : k < tr.length) : (tr.set k z)[j]?.getD 0 = if k = j then z else tr[j]?.getD 0 := by
  rw [List.getElem?_set]
  by_cases h : k = j
  · rw [if_pos h, if_pos h, if_pos (by omega)]; rfl
  · rw [if_neg h, if_neg h]
theorem comp_set {a : Nat} {b : List Bool} {tr : List Int} (h : Comp a b tr) (hl : tr.length = a) {y : Int} (hy : Lit a y) (ht : tv b y = true) : Comp a b (setL tr y) := by
  obtain ⟨k, h1, h2, rfl | rfl⟩ := hy.two
  · rw [tv_pos] at ht
    unfold setL
    rw [if_pos (by omega), Int.toNat_natCast]
    intro j h3 h4
    rw [get_set tr k j 1 (by omega)]
    by_cases q : k = j
    · subst q; rw [if_pos rfl, ht]; exact .inr rfl
    · rw [if_neg q]; exact h j h3 h4
  · rw [tv_neg _ _ h1, Bool.not_eq_true'] at ht
    unfold setL
    rw [if_neg (by omega), Int.neg_neg, Int.toNat_natCast]
    intro j h3 h4
    rw [get_set tr k j (-1) (by omega)]
    by_cases q : k = j
    · subst q; rw [if_pos rfl, ht]; exact .inr rfl
    · rw [if_neg q]; exact h j h3 h4
/-- A clause that holds under an assignment, met by what agrees with it. -/
theorem comp_step {a : Nat} {b : List Bool} {tr x : List Int} (h : Comp a b tr) (hl : tr.length = a) (hx : ∀ y ∈ x, Lit a y) (hs : x.any (tv b) = true) : step tr x ≠ none ∧ ∀ tr', step tr x = some tr' → Comp a b tr' := by
  obtain ⟨y, hy, ht⟩ := List.any_eq_true.1 hs
  unfold step
  cases hT : isT tr x with
  | true => rw [if_pos rfl]; exact ⟨by simp, fun tr' e => by injection e with e; rw [← e]; exact h⟩
  | false =>
    rw [if_neg (by simp)]
    have h0 : lv tr y = 0 := by
      rcases comp_lv h (hx y hy) ht with q | q
      · exact q
      · unfold isT at hT
        rw [List.any_eq_false] at hT
        exact absurd (by rw [q]; rfl) (hT y hy)
    have hmem : y ∈ opn tr x := List.mem_filter.2 ⟨hy, by rw [h0]; rfl⟩
    rcases ho : opn tr x with _ | ⟨z, _ | ⟨z2, zs⟩⟩
    · rw [ho] at hmem; cases hmem
    · rw [ho, List.mem_singleton] at hmem
      subst hmem
      exact ⟨by simp, fun tr' e => by injection e with e; rw [← e]; exact comp_set h hl (hx y hy) ht⟩
    · exact ⟨by simp, fun tr' e => by injection e with e; rw [← e]; exact h⟩

/-- All clauses once. -/
def pass (tr : List Int) (l : List (List Int)) : Option (List Int) := l.foldlM step tr
theorem pass_append (tr : List Int) (l1 l2 : List (List Int)) : pass tr (l1 ++ l2) = (pass tr l1).bind fun tr' => pass tr' l2 := by unfold pass; rw [List.foldlM_append]; rfl
theorem pass_cons (tr x : List Int) (l : List (List Int)) : pass tr (x :: l) = (step tr x).bind fun tr' => pass tr' l := by unfold pass; rw [List.foldlM_cons]; rfl
theorem pass_one (tr x : List Int) : pass tr [x] = step tr x := by rw [pass_cons]; cases step tr x <;> rfl
theorem step_true {tr x : List Int} {y : Int} (hy : y ∈ x) (h : lv tr y = 1) : step tr x = some tr := by
  unfold step
  rw [if_pos]
  exact List.any_eq_true.2 ⟨y, hy, by rw [h]; rfl⟩
theorem step_two {tr x : List Int} {y z : Int} (hy : y ∈ x) (hz : z ∈ x) (hne : y ≠ z) (h1 : lv tr y = 0) (h2 : lv tr z = 0) : step tr x = some tr := by
  unfold step
  split
  · rfl
  · have m1 : y ∈ opn tr x := List.mem_filter.2 ⟨hy, by rw [h1]; rfl⟩
    have m2 : z ∈ opn tr x := List.mem_filter.2 ⟨hz, by rw [h2]; rfl⟩
    rcases ho : opn tr x with _ | ⟨u, _ | ⟨u2, us⟩⟩
    · rw [ho] at m1; cases m1
    · rw [ho, List.mem_singleton] at m1 m2
      exact absurd (m1.trans m2.symm) hne
    · rfl
theorem step_unit {tr : List Int} {y p q : Int} (hy0 : y ≠ 0) (hy : lv tr y = 0) (hp : p = 0 ∨ lv tr p = -1) (hq : q = 0 ∨ lv tr q = -1) : step tr (nz [y, p, q]) = some (setL tr y) := by
  have hT : isT tr (nz [y, p, q]) = false := by
    unfold isT
    rw [List.any_eq_false]
    intro v hv
    unfold nz at hv
    obtain ⟨h1, h2⟩ := List.mem_filter.1 hv
    have h2 : v ≠ 0 := by simpa using h2
    simp only [List.mem_cons, List.not_mem_nil, or_false] at h1
    rcases h1 with rfl | rfl | rfl
    · rw [hy]; simp
    · rcases hp with e | e
      · exact absurd e h2
      · rw [e]; simp
    · rcases hq with e | e
      · exact absurd e h2
      · rw [e]; simp
  have ho : opn tr (nz [y, p, q]) = [y] := by
    unfold opn nz
    rw [List.filter_filter]
    have g : ((lv tr y == 0) && decide (y ≠ 0)) = true := by simp [hy, hy0]
    have f : ∀ v : Int, (v = 0 ∨ lv tr v = -1) → ((lv tr v == 0) && decide (v ≠ 0)) = false := by
      intro v h
      rcases h with e | e
      · simp [e]
      · simp [e]
    simp only [List.filter_cons, g, f p hp, f q hq, if_true, Bool.false_eq_true, if_false, List.filter_nil]
  unfold step
  rw [hT, if_neg (by simp), ho]
theorem lv_set_neg (tr : List Int) (k : Nat) (hk : 1 ≤ k) (hl : k < tr.length) : lv (setL tr (-(k : Int))) (-(k : Int)) = 1 := by
  unfold setL
  rw [if_neg (by omega), Int.neg_neg, Int.toNat_natCast, lv_neg _ _ hk, get_set tr k k (-1) hl, if_pos rfl]; rfl
/-- Whether a register is left open. -/
def rg (i t : Nat) : Int := if i + 1 ≤ t then 0 else -1
theorem rg_in {i t : Nat} (h : i + 1 ≤ t) : rg i t = 0 := by unfold rg; rw [if_pos h]
theorem rg_out {i t : Nat} (h : ¬ i + 1 ≤ t) : rg i t = -1 := by unfold rg; rw [if_neg h]
theorem nz_mem {y : Int} {l : List Int} (h : y ∈ l) (h0 : y ≠ 0) : y ∈ nz l := List.mem_filter.2 ⟨h, by simpa using h0⟩

/-- One row: the registers above the count become false, the others stay open. -/
theorem crow_pass {x : Int} {s b ls W t t' N : Nat} {X : Bool} {tr : List Int} (hN : 1 ≤ N) (hb : N ≤ b) (hx : Lit N x) (hlx : lv tr x = sg X) (ht : t' = t + if X then 1 else 0) (hab : ∀ j, j < ls → tr[b + j]?.getD 0 = rg j t) (hbs : b + ls ≤ s) (hW : W ≤ ls + 1) (hls : ∀ i, i < W → i + 1 ≤ t → i < ls) (hl : s + W ≤ tr.length) (h0 : ∀ i, i < W → tr[s + i]?.getD 0 = 0) :
    ∀ i, i ≤ W → ∃ tr', pass tr (crow x s b ls i) = some tr' ∧ tr'.length = tr.length ∧ (∀ j, j < i → tr'[s + j]?.getD 0 = rg j t') ∧ ∀ v, v < s ∨ s + i ≤ v → tr'[v]?.getD 0 = tr[v]?.getD 0
  | 0, _ => ⟨tr, rfl, rfl, fun j h => by omega, fun _ _ => rfl⟩
  | i + 1, hi => by
    obtain ⟨tr1, p1, p2, p3, p4⟩ := crow_pass hN hb hx hlx ht hab hbs hW hls hl h0 i (by omega)
    have hs1 : 1 ≤ s + i := by omega
    have hreg : tr1[s + i]?.getD 0 = 0 := by rw [p4 _ (.inr (Nat.le_refl _))]; exact h0 i (by omega)
    have hlr : lv tr1 (-((s + i : Nat) : Int)) = 0 := by rw [lv_neg _ _ hs1, hreg]; rfl
    have hlx1 : lv tr1 x = sg X := by
      obtain ⟨k, k1, k2, rfl | rfl⟩ := hx.two
      · rw [lv_pos] at hlx ⊢; rw [p4 k (.inl (by omega))]; exact hlx
      · rw [lv_neg _ _ k1] at hlx ⊢; rw [p4 k (.inl (by omega))]; exact hlx
    have hab1 : ∀ j, j < ls → lv tr1 (ab b ls j) = rg j t := fun j hj => by
      rw [ab_one b ls j hj, lv_pos, p4 _ (.inl (by omega))]; exact hab j hj
    have hab0 : ∀ j, ¬ j + 1 ≤ t → ab b ls j = 0 ∨ lv tr1 (ab b ls j) = -1 := fun j hj => by
      by_cases q : j < ls
      · right; rw [hab1 j q, rg_out hj]
      · exact .inl (ab_zero b ls j q)
    have hr0 : -((s + i : Nat) : Int) ≠ 0 := by omega
    rw [crow, pass_append, p1]
    show ∃ tr', pass tr1 _ = some tr' ∧ _
    rw [pass_append, pass_one]
    -- the row behind register i
    have fin : ∀ tr2 : List Int, tr2.length = tr1.length → tr2[s + i]?.getD 0 = rg i t' → (∀ v, v ≠ s + i → tr2[v]?.getD 0 = tr1[v]?.getD 0) → tr2.length = tr.length ∧ (∀ j, j < i + 1 → tr2[s + j]?.getD 0 = rg j t') ∧ ∀ v, v < s ∨ s + (i + 1) ≤ v → tr2[v]?.getD 0 = tr[v]?.getD 0 := by
      intro tr2 q1 q2 q3
      refine ⟨q1.trans p2, fun j hj => ?_, fun v hv => ?_⟩
      · by_cases e : j = i
        · rw [e]; exact q2
        · rw [q3 _ (by omega)]; exact p3 j (by omega)
      · rw [q3 _ (by omega)]; exact p4 v (by omega)
    have hset : (setL tr1 (-((s + i : Nat) : Int))).length = tr1.length ∧ (setL tr1 (-((s + i : Nat) : Int)))[s + i]?.getD 0 = -1 ∧ ∀ v, v ≠ s + i → (setL tr1 (-((s + i : Nat) : Int)))[v]?.getD 0 = tr1[v]?.getD 0 := by
      unfold setL
      rw [if_neg (by omega), Int.neg_neg, Int.toNat_natCast]
      refine ⟨by simp, by rw [get_set tr1 _ _ _ (by omega), if_pos rfl], fun v hv => by rw [get_set tr1 _ _ _ (by omega), if_neg (by omega)]⟩
    by_cases hc : i + 1 ≤ t'
    · -- it stays open
      have e1 : step tr1 (nz [-((s + i : Nat) : Int), ab b ls i, x]) = some tr1 := by
        cases X with
        | true => exact step_true (nz_mem (y := x) (by simp) hx.1) hlx1
        | false =>
          have h3 : i + 1 ≤ t := by simpa using (show i + 1 ≤ t + 0 by rw [ht] at hc; simpa using hc)
          have h4 := hls i (by omega) h3
          have h5 : ab b ls i ≠ 0 := by rw [ab_one b ls i h4]; omega
          refine step_two (nz_mem (by simp) hr0) (nz_mem (y := ab b ls i) (by simp) h5) ?_ hlr (by rw [hab1 i h4, rg_in h3])
          rw [ab_one b ls i h4]; omega
      have e2 : pass tr1 (if 0 < i then [nz [-((s + i : Nat) : Int), ab b ls i, ab b ls (i - 1)]] else []) = some tr1 := by
        split
        · rename_i hi0
          rw [pass_one]
          have h3 : i - 1 + 1 ≤ t := by split at ht <;> omega
          have h4 : i - 1 < ls := by omega
          have h5 : ab b ls (i - 1) ≠ 0 := by rw [ab_one b ls _ h4]; omega
          refine step_two (nz_mem (by simp) hr0) (nz_mem (y := ab b ls (i - 1)) (by simp) h5) ?_ hlr (by rw [hab1 _ h4, rg_in h3])
          rw [ab_one b ls _ h4]; omega
        · rfl
      rw [e1]
      exact ⟨tr1, e2, fin tr1 rfl (by rw [hreg, rg_in hc]) (fun _ _ => rfl)⟩
    · cases X with
      | true =>
        have ht : t' = t + 1 := by simpa using ht
        have e1 : step tr1 (nz [-((s + i : Nat) : Int), ab b ls i, x]) = some tr1 := step_true (nz_mem (y := x) (by simp) hx.1) hlx1
        rw [e1]
        show ∃ tr', pass tr1 _ = some tr' ∧ _
        rw [if_pos (show 0 < i by omega), pass_one, step_unit hr0 hlr (hab0 i (by omega)) (hab0 (i - 1) (by omega))]
        exact ⟨_, rfl, fin _ hset.1 (by rw [hset.2.1, rg_out hc]) hset.2.2⟩
      | false =>
        have ht : t' = t := by simpa using ht
        rw [step_unit hr0 hlr (hab0 i (by omega)) (.inr (by rw [hlx1]; rfl))]
        have e2 : pass (setL tr1 (-((s + i : Nat) : Int))) (if 0 < i then [nz [-((s + i : Nat) : Int), ab b ls i, ab b ls (i - 1)]] else []) = some (setL tr1 (-((s + i : Nat) : Int))) := by
          split
          · rw [pass_one]
            exact step_true (nz_mem (by simp) hr0) (lv_set_neg tr1 (s + i) hs1 (by omega))
          · rfl
        exact ⟨_, e2, fin _ hset.1 (by rw [hset.2.1, rg_out hc]) hset.2.2⟩
/-- All rows. -/
theorem crows_pass {bs : List Bool} {zs : List Int} {K N a : Nat} {tr : List Int} (hN : 1 ≤ N) (hz : ∀ x ∈ zs, Lit N x) (hl : tr.length = a) (hlow : ∀ v, v < N → tr[v]?.getD 0 = sg (bs[v]?.getD false)) (hhigh : ∀ v, N ≤ v → tr[v]?.getD 0 = 0) :
    ∀ r, r ≤ zs.length → (cst K N r).1 ≤ a → ∃ tr', pass tr (crows zs K N r) = some tr' ∧ tr'.length = a ∧ (∀ v, v < N → tr'[v]?.getD 0 = sg (bs[v]?.getD false)) ∧ (∀ v, (cst K N r).1 ≤ v → tr'[v]?.getD 0 = 0) ∧ ∀ i, i < min r K → tr'[(cst K N r).2 + i]?.getD 0 = rg i (ct bs (zs.take r))
  | 0, _, _ => ⟨tr, rfl, hl, hlow, hhigh, fun i h => by omega⟩
  | r + 1, hr, ha => by
    have e1 : (cst K N (r + 1)).1 = (cst K N r).1 + min (r + 1) K := rfl
    have e2 : (cst K N (r + 1)).2 = (cst K N r).1 := rfl
    obtain ⟨tr1, p1, p2, p3, p4, p5⟩ := crows_pass (K := K) (a := a) hN hz hl hlow hhigh r (by omega) (by omega)
    have hlt : r < zs.length := by omega
    have hx : Lit N (zs[r]?.getD 0) := by rw [List.getElem?_eq_getElem hlt]; exact hz _ (List.getElem_mem _)
    have hct := ct_next bs zs r hlt
    have hle := ct_take_le bs zs r
    have hb := cst_lo2 K N r
    have hbs : (cst K N r).2 + min r K ≤ (cst K N r).1 := by
      cases r with
      | zero => show N + min 0 K ≤ N; omega
      | succ r => show (cst K N r).1 + min (r + 1) K ≤ (cst K N r).1 + min (r + 1) K; omega
    have hlx : lv tr1 (zs[r]?.getD 0) = sg (tv bs (zs[r]?.getD 0)) := by
      obtain ⟨k, k1, k2, hk⟩ := hx.two
      rcases hk with hk | hk
      · rw [hk, lv_pos, tv_pos, p3 k k2]
      · rw [hk, lv_neg _ _ k1, tv_neg _ _ k1, p3 k k2]; cases bs[k]?.getD false <;> rfl
    obtain ⟨tr2, q1, q2, q3, q4⟩ := crow_pass (W := min (r + 1) K) hN hb hx hlx hct p5 hbs (by omega) (fun i h1 h2 => by omega) (by omega) (fun i hi => p4 _ (by omega)) _ (Nat.le_refl _)
    refine ⟨tr2, by rw [crows, pass_append, p1]; exact q1, q2.trans p2, fun v hv => ?_, fun v hv => ?_, fun i hi => ?_⟩
    · have := cst_lo K N r
      rw [q4 v (.inl (by omega))]; exact p3 v hv
    · rw [e1] at hv
      rw [q4 v (.inr hv)]; exact p4 v (by omega)
    · rw [e2]; exact q3 i hi
/-- With fewer true literals than asked for, one pass meets a false clause. -/
theorem ctr_pass {bs : List Bool} {zs : List Int} {K N a n : Nat} {tr : List Int} (hn : zs.length = n) (hN : 1 ≤ N) (hK1 : 1 ≤ K) (hK2 : K ≤ n) (hz : ∀ x ∈ zs, Lit N x) (hl : tr.length = a) (ha : (cst K N n).1 ≤ a) (hlow : ∀ v, v < N → tr[v]?.getD 0 = sg (bs[v]?.getD false)) (hhigh : ∀ v, N ≤ v → tr[v]?.getD 0 = 0) (hc : ct bs zs < K) :
    pass tr (ctr zs K N) = none := by
  obtain ⟨tr1, p1, p2, p3, p4, p5⟩ := crows_pass (K := K) (a := a) (bs := bs) hN hz hl hlow hhigh n (by omega) ha
  unfold ctr
  rw [hn, pass_append, p1]
  show pass tr1 _ = none
  rw [pass_one]
  have e : ((cst K N n).1 : Int) - 1 = (((cst K N n).2 + (K - 1) : Nat) : Int) := by
    cases n with
    | zero => omega
    | succ r =>
      have e1 : (cst K N (r + 1)).1 = (cst K N r).1 + min (r + 1) K := rfl
      have e2 : (cst K N (r + 1)).2 = (cst K N r).1 := rfl
      rw [e1, e2]; omega
  have hlo := cst_lo2 K N n
  have h5 := p5 (K - 1) (by omega)
  rw [← hn, List.take_length, hn, rg_out (by omega)] at h5
  have hv : lv tr1 (((cst K N n).1 : Int) - 1) = -1 := by rw [e, lv_pos]; exact h5
  have e0 : nz [((cst K N n).1 : Int) - 1] = [((cst K N n).1 : Int) - 1] := by
    unfold nz
    rw [List.filter_cons_of_pos (by rw [e]; simp; omega)]; rfl
  rw [e0]
  unfold step isT opn
  simp [hv]
/-- What a propagation knows where it stands: for the walk of forced. -/
theorem force_rel {n : Nat} {zs : List Int} {k : Int} {N : Nat} {cl : List (List Int)} {a : Nat} {bs : List Bool} {tr0 : List Int} {Z : Bool} {F : Nat} {P : List Bool → Prop} (hn : zs.length = n) (hn60 : n ≤ 60) (h1 : 1 ≤ N) (h2 : N ≤ 30000) (h : lsOf n zs k N = (cl, a, 0)) (hcan : CanOf N cl a F P) (hb : bs.length = N) (hl : tr0.length = a)
    (hlow : ∀ v, v < N → tr0[v]?.getD 0 = sg (bs[v]?.getD false)) (hhigh : ∀ v, N ≤ v → tr0[v]?.getD 0 = 0) (hZ : decide ((ct bs zs : Int) < k) = Z) :
    ∃ R : Nat → Nat → List Int → Prop, R 0 0 tr0 ∧ (∀ r q tr, q < cl.length → tr.length = a → R r q tr → (step tr (cl[q]?.getD []) = none → Z = true) ∧ ∀ tr', step tr (cl[q]?.getD []) = some tr' → R r (q + 1) tr') ∧ ∀ r tr, R r cl.length tr → Z = false ∧ R (r + 1) 0 tr := by
  have hle := ct_le bs zs
  have hdrop : ∀ q, q < cl.length → cl.drop q = (cl[q]?.getD []) :: cl.drop (q + 1) := fun q hq => by rw [List.drop_eq_getElem_cons hq, List.getElem?_eq_getElem hq]; rfl
  have yes : pass tr0 cl = none → Z = true → ∃ R : Nat → Nat → List Int → Prop, R 0 0 tr0 ∧ (∀ r q tr, q < cl.length → tr.length = a → R r q tr → (step tr (cl[q]?.getD []) = none → Z = true) ∧ ∀ tr', step tr (cl[q]?.getD []) = some tr' → R r (q + 1) tr') ∧ ∀ r tr, R r cl.length tr → Z = false ∧ R (r + 1) 0 tr := by
    intro hp hz
    refine ⟨fun _ q tr => pass tr (cl.drop q) = none, hp, fun r q tr hq _ hR => ⟨fun _ => hz, fun tr' hs => ?_⟩, fun r tr hR => ?_⟩
    · have hR : pass tr (cl.drop q) = none := hR
      rw [hdrop q hq, pass_cons, hs] at hR; exact hR
    · have hR : pass tr (cl.drop cl.length) = none := hR
      rw [List.drop_length] at hR; cases hR
  have no : ∀ b : List Bool, (∀ c ∈ cl, c.any (tv b) = true) → Comp a b tr0 → Z = false → ∃ R : Nat → Nat → List Int → Prop, R 0 0 tr0 ∧ (∀ r q tr, q < cl.length → tr.length = a → R r q tr → (step tr (cl[q]?.getD []) = none → Z = true) ∧ ∀ tr', step tr (cl[q]?.getD []) = some tr' → R r (q + 1) tr') ∧ ∀ r tr, R r cl.length tr → Z = false ∧ R (r + 1) 0 tr := by
    intro b hs hc hz
    refine ⟨fun _ _ tr => Comp a b tr, hc, fun r q tr hq hlen hR => ?_, fun r tr hR => ⟨hz, hR⟩⟩
    have hm : cl[q]?.getD [] ∈ cl := by rw [List.getElem?_eq_getElem hq]; exact List.getElem_mem _
    have := comp_step hR hlen (hcan.lits _ hm) (hs _ hm)
    exact ⟨fun e => absurd e this.1, this.2⟩
  have hcomp : ∀ b : List Bool, Agr N b bs → Comp a b tr0 := by
    intro b hag v v1 v2
    by_cases q : v < N
    · right; rw [hlow v q, hag v q]
    · left; exact hhigh v (by omega)
  rcases ls_cases (n := n) (zs := zs) k N hn60 h1 h2 with ⟨E, hE, _, e⟩ | ⟨hd, hz, ⟨hk, e⟩ | ⟨hk, e⟩ | ⟨K, rfl, hK1, hK2, e⟩⟩
  · rw [e] at h; injection h with _ h; injection h with _ h; exact absurd h hE
  · rw [e] at h; injection h with h3 h; injection h with h4 _; subst h3; subst h4
    exact no bs (by simp) (hcomp bs fun _ _ => rfl) (by rw [← hZ]; exact decide_eq_false (by omega))
  · rw [e] at h; injection h with h3 h; injection h with h4 _; subst h3; subst h4
    exact yes rfl (by rw [← hZ]; exact decide_eq_true (by omega))
  · rw [e] at h; injection h with h3 h; injection h with h4 _; subst h3; subst h4
    by_cases q : ct bs zs < K
    · exact yes (ctr_pass hn h1 hK1 hK2 hz hl (by rw [cst_regs]; exact Nat.le_refl _) hlow hhigh q) (by rw [← hZ]; exact decide_eq_true (by omega))
    · have hs := run_sat (bs := bs) hn (by omega) hK1 hK2 (by rw [hb]; exact hz) (by omega)
      rw [hb] at hs
      exact no (runR bs zs K n) (sat_iff.1 hs) (hcomp _ (by rw [← hb]; exact run_agr bs zs K n)) (by rw [← hZ]; exact decide_eq_false (by omega))
theorem bd_of {tr : List Int} {bs : List Bool} {N : Nat} (hlow : ∀ v, v < N → tr[v]?.getD 0 = sg (bs[v]?.getD false)) (hhigh : ∀ v, N ≤ v → tr[v]?.getD 0 = 0) : Bd tr := by
  intro x hx
  obtain ⟨j, hj, rfl⟩ := List.mem_iff_getElem.1 hx
  by_cases q : j < N
  · have := hlow j q
    rw [List.getElem?_eq_getElem hj, Option.getD_some] at this
    rw [this]; unfold sg; split <;> omega
  · have := hhigh j (by omega)
    rw [List.getElem?_eq_getElem hj, Option.getD_some] at this
    rw [this]; omega
end Go.Proofs.Ytpiomdnkemoanaa
