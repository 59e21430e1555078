/- The registers of the counter as counts, in plain mathematics: which assignments satisfy the clauses. -/
import Derived.Test.YtpiomdnkemoanaaRowb
namespace Go.Proofs.Ytpiomdnkemoanaa
open Go.RowKit

/-- All of these clauses hold. -/
def sat (a : List Bool) (cl : List (List Int)) : Bool := cl.all fun c => c.any (tv a)
theorem sat_iff {a : List Bool} {cl : List (List Int)} : sat a cl = true ↔ ∀ c ∈ cl, c.any (tv a) = true := List.all_eq_true
theorem nz_any {A : Int → Bool} {l : List Int} : (nz l).any A = true ↔ ∃ y ∈ l, y ≠ 0 ∧ A y = true := by
  unfold nz
  rw [List.any_eq_true]
  constructor
  · rintro ⟨y, hy, h⟩
    obtain ⟨h1, h2⟩ := List.mem_filter.1 hy
    exact ⟨y, h1, by simpa using h2, h⟩
  · rintro ⟨y, hy, h1, h⟩
    exact ⟨y, List.mem_filter.2 ⟨hy, by simpa using h1⟩, h⟩
theorem tv_negn (a : List Bool) (k : Nat) (h : 1 ≤ k) : tv a (-(k : Int)) = !tv a (k : Int) := by rw [tv_neg a k h, tv_pos]
theorem ab_one (b ls i : Nat) (h : i < ls) : ab b ls i = ((b + i : Nat) : Int) := by unfold ab; rw [if_pos h]
theorem ab_zero (b ls i : Nat) (h : ¬ i < ls) : ab b ls i = 0 := by unfold ab; rw [if_neg h]

/-- A row of registers that say the counts satisfies its clauses. -/
theorem crow_sat {a : List Bool} {x : Int} {s b ls W t t' : Nat} (hs : 1 ≤ s) (hb : 1 ≤ b) (hx : x ≠ 0) (hreg : ∀ i, i < W → tv a ((s + i : Nat) : Int) = decide (i + 1 ≤ t')) (hab : ∀ i, i < ls → tv a ((b + i : Nat) : Int) = decide (i + 1 ≤ t))
    (ht : t' = t + if tv a x then 1 else 0) (hW : W ≤ ls + 1) (hls : ∀ i, i < W → i + 1 ≤ t → i < ls) : ∀ i, i ≤ W → ∀ c ∈ crow x s b ls i, c.any (tv a) = true
  | 0, _ => by simp [crow]
  | i + 1, hi => by
    intro c hc
    rw [crow] at hc
    have hr := hreg i (by omega)
    have hrn := tv_negn a (s + i) (by omega)
    rw [hr] at hrn
    have hne : -((s + i : Nat) : Int) ≠ 0 := by omega
    rcases List.mem_append.1 hc with hc | hc
    · exact crow_sat hs hb hx hreg hab ht hW hls i (by omega) c hc
    · rcases List.mem_append.1 hc with hc | hc
      · rw [List.mem_singleton.1 hc, nz_any]
        by_cases h1 : i + 1 ≤ t'
        · cases hxx : tv a x with
          | true => exact ⟨x, by simp, hx, hxx⟩
          | false =>
            rw [hxx, if_neg (by simp)] at ht
            have h2 := hls i (by omega) (by omega)
            refine ⟨ab b ls i, by simp, ?_, ?_⟩
            · rw [ab_one b ls i h2]; omega
            · rw [ab_one b ls i h2, hab i h2]; exact decide_eq_true (by omega)
        · exact ⟨_, by simp, hne, by rw [hrn, decide_eq_false h1]; rfl⟩
      · split at hc
        · next h0 =>
          rw [List.mem_singleton.1 hc, nz_any]
          by_cases h1 : i + 1 ≤ t'
          · have h2 : i - 1 < ls := by omega
            have h3 : i ≤ t := by split at ht <;> omega
            refine ⟨ab b ls (i - 1), by simp, ?_, ?_⟩
            · rw [ab_one b ls _ h2]; omega
            · rw [ab_one b ls _ h2, hab _ h2]; exact decide_eq_true (by omega)
          · exact ⟨_, by simp, hne, by rw [hrn, decide_eq_false h1]; rfl⟩
        · simp at hc
/-- Where a row's clauses hold, a register implies its count. -/
theorem crow_imp {a : List Bool} {x : Int} {s b ls t t' : Nat} (hs : 1 ≤ s) (hab : ∀ i, i < ls → tv a ((b + i : Nat) : Int) = true → i + 1 ≤ t) (ht : t' = t + if tv a x then 1 else 0) : ∀ i W, i < W → (∀ c ∈ crow x s b ls W, c.any (tv a) = true) → tv a ((s + i : Nat) : Int) = true → i + 1 ≤ t'
  | i, 0, h, _, _ => by omega
  | i, W + 1, h, hc, hr => by
    rw [crow] at hc
    by_cases hlt : i < W
    · exact crow_imp hs hab ht i W hlt (fun c h1 => hc c (List.mem_append_left _ h1)) hr
    · obtain rfl : i = W := by omega
      have hrn := tv_negn a (s + i) (by omega)
      rw [hr] at hrn
      have key : ∀ j, ab b ls j ≠ 0 → tv a (ab b ls j) = true → j + 1 ≤ t := by
        intro j h1 h2
        by_cases h3 : j < ls
        · rw [ab_one b ls j h3] at h2; exact hab j h3 h2
        · exact absurd (ab_zero b ls j h3) h1
      have h1 := hc (nz [-((s + i : Nat) : Int), ab b ls i, x]) (List.mem_append_right _ (List.mem_append_left _ (by simp)))
      rw [nz_any] at h1
      obtain ⟨y, hy, hy0, hy1⟩ := h1
      simp only [List.mem_cons, List.not_mem_nil, or_false] at hy
      rcases hy with rfl | rfl | rfl
      · rw [hrn] at hy1; cases hy1
      · have := key i hy0 hy1; split at ht <;> omega
      · rw [hy1, if_pos rfl] at ht
        by_cases h0 : 0 < i
        · have h1 := hc (nz [-((s + i : Nat) : Int), ab b ls i, ab b ls (i - 1)]) (List.mem_append_right _ (List.mem_append_right _ (by rw [if_pos h0]; simp)))
          rw [nz_any] at h1
          obtain ⟨z, hz, hz0, hz1⟩ := h1
          simp only [List.mem_cons, List.not_mem_nil, or_false] at hz
          rcases hz with rfl | rfl | rfl
          · rw [hrn] at hz1; cases hz1
          · have := key i hz0 hz1; omega
          · have := key _ hz0 hz1; omega
        · omega
theorem cst_lo (K m r : Nat) : m ≤ (cst K m r).1 := by
  have := cst_mono K m 0 r
  rw [Nat.zero_add] at this
  exact this
theorem cst_lo2 (K m : Nat) : ∀ r, m ≤ (cst K m r).2
  | 0 => Nat.le_refl _
  | r + 1 => cst_lo K m r
theorem ct_take_le (a : List Bool) (zs : List Int) (r : Nat) : ct a (zs.take r) ≤ r := by
  have := ct_le a (zs.take r)
  rw [List.length_take] at this
  omega
theorem ct_next (a : List Bool) (zs : List Int) (r : Nat) (h : r < zs.length) : ct a (zs.take (r + 1)) = ct a (zs.take r) + if tv a (zs[r]?.getD 0) then 1 else 0 := ct_take a zs r h
/-- Where the rows' clauses hold, each register of the last row implies its count. -/
theorem crows_imp {a : List Bool} {zs : List Int} {K m : Nat} (hm : 1 ≤ m) : ∀ r, r ≤ zs.length → (∀ c ∈ crows zs K m r, c.any (tv a) = true) → ∀ i, i < min r K → tv a (((cst K m r).2 + i : Nat) : Int) = true → i + 1 ≤ ct a (zs.take r)
  | 0, _, _, i, hi, _ => by omega
  | r + 1, hr, hc, i, hi, ht => by
    have h1 := cst_lo K m r
    rw [crows] at hc
    have ih := crows_imp (a := a) (zs := zs) (K := K) hm r (by omega) (fun c h => hc c (List.mem_append_left _ h))
    exact crow_imp (by omega) ih (ct_next a zs r (by omega)) i _ hi (fun c h => hc c (List.mem_append_right _ h)) ht
theorem ctr_imp {a : List Bool} {zs : List Int} {K m n : Nat} (hl : zs.length = n) (hm : 1 ≤ m) (hK1 : 1 ≤ K) (hK2 : K ≤ n) (h : sat a (ctr zs K m) = true) : K ≤ ct a zs := by
  rw [sat_iff] at h
  unfold ctr at h
  rw [hl] at h
  have hlast := h _ (List.mem_append_right _ (List.mem_singleton.2 rfl))
  rw [nz_any] at hlast
  obtain ⟨y, hy, _, h1⟩ := hlast
  rw [List.mem_singleton.1 hy] at h1
  have h2 := crows_imp (a := a) (zs := zs) (K := K) hm n (by omega) (fun c hc => h c (List.mem_append_left _ hc)) (K - 1) (by omega)
  have e : (((cst K m n).2 + (K - 1) : Nat) : Int) = ((cst K m n).1 : Int) - 1 := by
    cases n with
    | zero => omega
    | succ r =>
      have e1 : (cst K m (r + 1)).1 = (cst K m r).1 + min (r + 1) K := rfl
      have e2 : (cst K m (r + 1)).2 = (cst K m r).1 := rfl
      rw [e1, e2]; omega
  rw [e] at h2
  have := h2 h1
  rw [← hl, List.take_length] at this
  omega

/-- The registers of row r say the counts of its literals. -/
def runRow (bs : List Bool) (zs : List Int) (r W : Nat) : List Bool := (List.range W).map fun j => decide (j + 1 ≤ ct bs (zs.take (r + 1)))
def runR (bs : List Bool) (zs : List Int) (K : Nat) : Nat → List Bool
  | 0 => bs
  | r + 1 => runR bs zs K r ++ runRow bs zs r (min (r + 1) K)
theorem runRow_len (bs : List Bool) (zs : List Int) (r W : Nat) : (runRow bs zs r W).length = W := by simp [runRow]
theorem runR_len (bs : List Bool) (zs : List Int) (K : Nat) : ∀ r, (runR bs zs K r).length = (cst K bs.length r).1
  | 0 => rfl
  | r + 1 => by
    rw [runR, List.length_append, runRow_len, runR_len bs zs K r]; rfl
theorem runR_pre (bs : List Bool) (zs : List Int) (K r : Nat) : ∀ d j, j < (runR bs zs K r).length → (runR bs zs K (r + d))[j]? = (runR bs zs K r)[j]?
  | 0, _, _ => rfl
  | d + 1, j, h => by
    have hlen : (runR bs zs K r).length ≤ (runR bs zs K (r + d)).length := by
      rw [runR_len, runR_len]; exact cst_mono K bs.length r d
    rw [show r + (d + 1) = (r + d) + 1 by omega, runR, List.getElem?_append_left (by omega)]
    exact runR_pre bs zs K r d j h
theorem run_base (bs : List Bool) (zs : List Int) (K R j : Nat) (h : j < bs.length) : (runR bs zs K R)[j]? = bs[j]? := by
  have := runR_pre bs zs K 0 R j h
  rw [Nat.zero_add] at this
  exact this
theorem run_reg (bs : List Bool) (zs : List Int) (K R r i : Nat) (hr : r < R) (hi : i < min (r + 1) K) : tv (runR bs zs K R) (((cst K bs.length r).1 + i : Nat) : Int) = decide (i + 1 ≤ ct bs (zs.take (r + 1))) := by
  have h := runR_pre bs zs K (r + 1) (R - (r + 1)) ((cst K bs.length r).1 + i) (by rw [runR_len]; show _ < (cst K bs.length r).1 + min (r + 1) K; omega)
  rw [show r + 1 + (R - (r + 1)) = R by omega] at h
  rw [tv_pos, h, runR, List.getElem?_append_right (by rw [runR_len]; omega), runR_len, Nat.add_sub_cancel_left]
  unfold runRow
  rw [List.getElem?_map, List.getElem?_range hi]
  rfl
/-- These assignments agree below m. -/
def Agr (m : Nat) (a b : List Bool) : Prop := ∀ j, j < m → a[j]?.getD false = b[j]?.getD false
theorem tv_agr {m : Nat} {a b : List Bool} (h : Agr m a b) {x : Int} (hx : Lit m x) : tv a x = tv b x := by
  obtain ⟨k, h1, h2, rfl | rfl⟩ := hx.two
  · rw [tv_pos, tv_pos, h k h2]
  · rw [tv_neg _ _ h1, tv_neg _ _ h1, h k h2]
theorem ct_agr {m : Nat} {a b : List Bool} (h : Agr m a b) : ∀ {zs : List Int}, (∀ x ∈ zs, Lit m x) → ct a zs = ct b zs := by
  intro zs hz
  unfold ct
  congr 1
  exact List.filter_congr fun x hx => tv_agr h (hz x hx)
theorem any_agr {m : Nat} {a b : List Bool} (h : Agr m a b) {c : List Int} (hc : ∀ x ∈ c, Lit m x) : c.any (tv a) = c.any (tv b) := by
  rw [Bool.eq_iff_iff, List.any_eq_true, List.any_eq_true]
  constructor <;> rintro ⟨x, hx, h1⟩ <;> refine ⟨x, hx, ?_⟩
  · rw [← tv_agr h (hc x hx)]; exact h1
  · rw [tv_agr h (hc x hx)]; exact h1
theorem sat_agr {m : Nat} {a b : List Bool} (h : Agr m a b) {cl : List (List Int)} (hc : ∀ c ∈ cl, ∀ x ∈ c, Lit m x) : sat a cl = sat b cl := by
  rw [Bool.eq_iff_iff, sat_iff, sat_iff]
  constructor <;> intro h1 c hcl
  · rw [← any_agr h (hc c hcl)]; exact h1 c hcl
  · rw [any_agr h (hc c hcl)]; exact h1 c hcl
theorem run_agr (bs : List Bool) (zs : List Int) (K R : Nat) : Agr bs.length (runR bs zs K R) bs := fun j h => by rw [run_base bs zs K R j h]
theorem lits_take {m : Nat} {zs : List Int} (hz : ∀ x ∈ zs, Lit m x) (r : Nat) : ∀ x ∈ zs.take r, Lit m x := fun x hx => hz x (List.mem_of_mem_take hx)
/-- The registers that say the counts satisfy all clauses but the last. -/
theorem run_crows {bs : List Bool} {zs : List Int} {K R : Nat} (hm : 1 ≤ bs.length) (hz : ∀ x ∈ zs, Lit bs.length x) (hR : R ≤ zs.length) : ∀ r, r ≤ R → ∀ c ∈ crows zs K bs.length r, c.any (tv (runR bs zs K R)) = true
  | 0, _ => by simp [crows]
  | r + 1, hr => by
    intro c hc
    rw [crows] at hc
    rcases List.mem_append.1 hc with hc | hc
    · exact run_crows hm hz hR r (by omega) c hc
    · have h1 := cst_lo K bs.length r
      have h2 := cst_lo2 K bs.length r
      have hlt : r < zs.length := by omega
      have hx : Lit bs.length (zs[r]?.getD 0) := by rw [List.getElem?_eq_getElem hlt]; exact hz _ (List.getElem_mem _)
      have hct := ct_next bs zs r hlt
      rw [← tv_agr (run_agr bs zs K R) hx] at hct
      have hle := ct_take_le bs zs r
      refine crow_sat (t := ct bs (zs.take r)) (t' := ct bs (zs.take (r + 1))) (by omega) (by omega) hx.1 (W := min (r + 1) K) (fun i hi => run_reg bs zs K R r i (by omega) hi) ?_ hct (by omega) (fun i h3 h4 => by omega) _ (Nat.le_refl _) c hc
      intro i hi
      cases r with
      | zero => omega
      | succ r => exact run_reg bs zs K R r i (by omega) hi
/-- The last clause holds just where at least K literals are true. -/
theorem run_last {bs : List Bool} {zs : List Int} {K n : Nat} (hl : zs.length = n) (hm : 1 ≤ bs.length) (hK1 : 1 ≤ K) (hK2 : K ≤ n) : (nz [((cst K bs.length n).1 : Int) - 1]).any (tv (runR bs zs K n)) = decide (K ≤ ct bs zs) := by
  cases n with
  | zero => omega
  | succ r =>
    have e1 : (cst K bs.length (r + 1)).1 = (cst K bs.length r).1 + min (r + 1) K := rfl
    have h1 := cst_lo K bs.length r
    have e : (((cst K bs.length r).1 + (K - 1) : Nat) : Int) = ((cst K bs.length (r + 1)).1 : Int) - 1 := by rw [e1]; omega
    have h2 := run_reg bs zs K (r + 1) r (K - 1) (by omega) (by omega)
    rw [e, ← hl, List.take_length, show K - 1 + 1 = K by omega] at h2
    rw [← hl] at e ⊢
    have e0 : nz [((cst K bs.length zs.length).1 : Int) - 1] = [((cst K bs.length zs.length).1 : Int) - 1] := by
      unfold nz
      rw [List.filter_cons_of_pos (by simp; omega)]; rfl
    rw [e0, List.any_cons, List.any_nil, Bool.or_false, h2]
theorem run_sat {bs : List Bool} {zs : List Int} {K n : Nat} (hl : zs.length = n) (hm : 1 ≤ bs.length) (hK1 : 1 ≤ K) (hK2 : K ≤ n) (hz : ∀ x ∈ zs, Lit bs.length x) (h : K ≤ ct bs zs) : sat (runR bs zs K n) (ctr zs K bs.length) = true := by
  rw [sat_iff]
  intro c hc
  unfold ctr at hc
  rw [hl] at hc
  rcases List.mem_append.1 hc with hc | hc
  · exact run_crows hm hz (by omega) n (Nat.le_refl _) c hc
  · rw [List.mem_singleton.1 hc, run_last hl hm hK1 hK2]
    exact decide_eq_true h
end Go.Proofs.Ytpiomdnkemoanaa
