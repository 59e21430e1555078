/- Plain mathematics: where the clauses of a totalizer hold, its outputs are the unary count; and the other way round. -/
import Derived.Test.YtpiomdnkemoanaaTValidM
namespace Go.Proofs.Ytpiomdnkemoanaa.Ttl
open Tot

section
variable (f : Int → Bool)
/-- These literals say in unary that k are counted. -/
def Unary (outs : List Int) (k : Nat) : Prop := ∀ i, i < outs.length → f (outs[i]?.getD 0) = decide (i < k)
def NegOk : Prop := ∀ x, x ≠ 0 → f (-x) = !f x
def Nz (l : List Int) : Prop := ∀ x ∈ l, x ≠ 0
def satf (cl : List (List Int)) : Prop := ∀ c ∈ cl, c.any f = true
end

theorem opt_any {f : Int → Bool} {l : List Int} {i : Int} {g : Int → Int} : ((opt l i).map g).any f = if 0 ≤ i ∧ i < l.length then f (g (l[i.toNat]?.getD 0)) else false := by
  unfold opt
  split <;> simp
theorem nz_get {l : List Int} (h : Nz l) {i : Nat} (hi : i < l.length) : l[i]?.getD 0 ≠ 0 := by
  rw [List.getElem?_eq_getElem hi]; exact h _ (List.getElem_mem _)

section
variable {f : Int → Bool} {a : List Int} {ka : Nat}
theorem neg_false (hf : NegOk f) (ha : Unary f a ka) (hz : Nz a) {p : Nat} (h1 : p ≤ ka) (h2 : p ≤ a.length) : ((opt a ((p : Int) - 1)).map ((-1) * ·)).any f = false := by
  rw [opt_any]
  split
  · rw [Int.neg_one_mul, hf _ (nz_get hz (by omega)), ha _ (by omega)]
    simp; omega
  · rfl
theorem neg_true (hf : NegOk f) (ha : Unary f a ka) (hz : Nz a) {p : Nat} (h1 : ka < p) (h2 : p ≤ a.length) : ((opt a ((p : Int) - 1)).map ((-1) * ·)).any f = true := by
  rw [opt_any, if_pos (by omega), Int.neg_one_mul, hf _ (nz_get hz (by omega)), ha _ (by omega)]
  simp; omega
theorem pos_false (ha : Unary f a ka) {p : Nat} (h1 : ka ≤ p) : ((opt a (p : Int)).map (1 * ·)).any f = false := by
  rw [opt_any]
  split
  · rw [Int.one_mul, ha _ (by omega)]
    simp; omega
  · rfl
theorem pos_true (ha : Unary f a ka) {p : Nat} (h1 : p < ka) (h2 : p < a.length) : ((opt a (p : Int)).map (1 * ·)).any f = true := by
  rw [opt_any, if_pos (by omega), Int.one_mul, ha _ (by omega)]
  simp; omega
end

theorem mem_inner {a b outs : List Int} {i : Int} {c : List Int} : ∀ m : Nat, c ∈ inner a b outs i m ↔ ∃ q : Nat, q < m ∧ c ∈ Tot.step a b outs i (q : Int)
  | 0 => by simp [inner]
  | m + 1 => by
    rw [inner, List.mem_append, mem_inner m]
    constructor
    · rintro (⟨q, h1, h2⟩ | h)
      · exact ⟨q, by omega, h2⟩
      · exact ⟨m, by omega, h⟩
    · rintro ⟨q, h1, h2⟩
      by_cases h : q < m
      · exact .inl ⟨q, h, h2⟩
      · obtain rfl : q = m := by omega
        exact .inr h2
theorem mem_outer {a b outs : List Int} {c : List Int} : ∀ m : Nat, c ∈ outer a b outs m ↔ ∃ p : Nat, p < m ∧ c ∈ inner a b outs (p : Int) (b.length + 1)
  | 0 => by simp [outer]
  | m + 1 => by
    rw [outer, List.mem_append, mem_outer m]
    constructor
    · rintro (⟨q, h1, h2⟩ | h)
      · exact ⟨q, by omega, h2⟩
      · exact ⟨m, by omega, h⟩
    · rintro ⟨q, h1, h2⟩
      by_cases h : q < m
      · exact .inl ⟨q, h, h2⟩
      · obtain rfl : q = m := by omega
        exact .inr h2
theorem mem_merge {a b outs : List Int} {c : List Int} : c ∈ merge a b outs ↔ ∃ p q : Nat, p ≤ a.length ∧ q ≤ b.length ∧ c ∈ Tot.step a b outs (p : Int) (q : Int) := by
  unfold merge
  rw [mem_outer]
  constructor
  · rintro ⟨p, hp, h⟩
    obtain ⟨q, hq, h⟩ := (mem_inner _).1 h
    exact ⟨p, q, by omega, by omega, h⟩
  · rintro ⟨p, q, hp, hq, h⟩
    exact ⟨p, by omega, (mem_inner _).2 ⟨q, by omega, h⟩⟩
theorem clause_any {f : Int → Bool} (a b : List Int) (s i k o : Int) : (clause a b s i k o).any f = (((opt a i).map (s * ·)).any f || ((opt b k).map (s * ·)).any f || f o) := by
  unfold clause
  rw [List.any_append, List.any_append]; simp

/-- One merge: its clauses hold where, and only where, its outputs are the count of both halves together. -/
theorem merge_sat {f : Int → Bool} (hf : NegOk f) {a b outs : List Int} {ka kb na nb M : Nat} (ha : Unary f a ka) (hb : Unary f b kb) (hza : Nz a) (hzb : Nz b) (hzo : Nz outs)
    (hla : a.length = min na M) (hlb : b.length = min nb M) (hlo : outs.length = min (na + nb) M) (hka : ka ≤ na) (hkb : kb ≤ nb) :
    satf f (merge a b outs) ↔ Unary f outs (ka + kb) := by
  constructor
  · intro h i hi
    by_cases hlt : i < ka + kb
    · rw [decide_eq_true hlt]
      obtain ⟨p, q, hp1, hp2, hq1, hq2, hpq⟩ : ∃ p q : Nat, p ≤ ka ∧ p ≤ a.length ∧ q ≤ kb ∧ q ≤ b.length ∧ p + q = i + 1 :=
        ⟨min (min ka a.length) (i + 1), i + 1 - min (min ka a.length) (i + 1), by omega, by omega, by omega, by omega, by omega⟩
      have hc := h (clause a b (-1) ((p : Int) - 1) ((q : Int) - 1) (outs[i]?.getD 0)) (mem_merge.2 ⟨p, q, hp2, hq2, List.mem_append_left _ (by
        rw [show (p : Int) + q - 1 = (i : Int) by omega, opt_in _ _ hi]; simp)⟩)
      rw [clause_any, neg_false hf ha hza hp1 hp2, neg_false hf hb hzb hq1 hq2] at hc
      simpa using hc
    · rw [decide_eq_false hlt]
      obtain ⟨p, q, hp1, hp2, hq1, hq2, hpq⟩ : ∃ p q : Nat, ka ≤ p ∧ p ≤ a.length ∧ kb ≤ q ∧ q ≤ b.length ∧ p + q = i :=
        ⟨min (i - kb) a.length, i - min (i - kb) a.length, by omega, by omega, by omega, by omega, by omega⟩
      have hc := h (clause a b 1 (p : Int) (q : Int) (-(outs[i]?.getD 0))) (mem_merge.2 ⟨p, q, hp2, hq2, List.mem_append_right _ (by
        rw [show (p : Int) + q = (i : Int) by omega, opt_in _ _ hi]; simp)⟩)
      rw [clause_any, pos_false ha hp1, pos_false hb hq1, hf _ (nz_get hzo hi)] at hc
      simpa using hc
  · intro h c hc
    obtain ⟨p, q, hp, hq, hc⟩ := mem_merge.1 hc
    rcases List.mem_append.1 hc with hc | hc
    · obtain ⟨x, hx, rfl⟩ := List.mem_map.1 hc
      unfold opt at hx
      split at hx
      · rename_i hr
        rw [List.mem_singleton.1 hx, clause_any]
        by_cases h1 : ka < p
        · rw [neg_true hf ha hza h1 hp]; rfl
        · by_cases h2 : kb < q
          · rw [neg_true hf hb hzb h2 hq, Bool.or_true]; rfl
          · rw [h _ (by omega), decide_eq_true (by omega), Bool.or_true]
      · simp at hx
    · obtain ⟨x, hx, rfl⟩ := List.mem_map.1 hc
      unfold opt at hx
      split at hx
      · rename_i hr
        have hn := nz_get hzo (i := ((p : Int) + q).toNat) (by omega)
        rw [List.mem_singleton.1 hx, clause_any]
        by_cases h1 : p < ka
        · rw [pos_true ha h1 (by omega)]; rfl
        · by_cases h2 : q < kb
          · rw [pos_true hb h2 (by omega), Bool.or_true]; rfl
          · rw [hf _ hn, h _ (by omega), decide_eq_false (by omega)]; simp
      · simp at hx

/-- How many are true. -/
def ctf (f : Int → Bool) (l : List Int) : Nat := (l.filter f).length
theorem ctf_le (f : Int → Bool) (l : List Int) : ctf f l ≤ l.length := List.length_filter_le _ _
theorem ctf_halves (f : Int → Bool) (l : List Int) (k : Nat) : ctf f l = ctf f (l.take k) + ctf f (l.drop k) := by
  unfold ctf
  rw [← List.length_append, ← List.filter_append, List.take_append_drop]
theorem ctf_one (f : Int → Bool) (l : List Int) (h : l.length = 1) : Unary f [l[0]?.getD 0] (ctf f l) := by
  match l, h with
  | [x], _ =>
    intro i hi
    have : i = 0 := by simp at hi; omega
    subst this
    unfold ctf
    by_cases hx : f x = true
    · rw [List.filter_cons_of_pos hx]; simp [hx]
    · rw [List.filter_cons_of_neg hx]; simp at hx; simp [hx]
theorem satf_append {f : Int → Bool} {a b : List (List Int)} : satf f (a ++ b) ↔ satf f a ∧ satf f b := by
  unfold satf
  constructor
  · intro h
    exact ⟨fun c hc => h c (List.mem_append_left _ hc), fun c hc => h c (List.mem_append_right _ hc)⟩
  · rintro ⟨h1, h2⟩ c hc
    rcases List.mem_append.1 hc with h | h
    · exact h1 c h
    · exact h2 c h
theorem from_nz (m n : Nat) (h : 1 ≤ m) : Nz (from_ m n) := fun x hx => by have := from_mem m n x hx; omega
theorem cnt_nz {M : Nat} (l : List Int) (m : Nat) (hm : 1 ≤ m) (hz : Nz l) : Nz (cnt M l m).1 := by
  by_cases h : min l.length M = 0
  · rw [cnt_none h]; intro x hx; simp at hx
  · by_cases h1 : l.length = 1
    · rw [cnt_one h h1]
      intro x hx
      rw [List.mem_singleton.1 hx]; exact nz_get hz (by omega)
    · rw [cnt_more h h1]; exact from_nz _ _ (by omega)
theorem nz_take {l : List Int} (h : Nz l) (k : Nat) : Nz (l.take k) := fun x hx => h x (List.mem_of_mem_take hx)
theorem nz_drop {l : List Int} (h : Nz l) (k : Nat) : Nz (l.drop k) := fun x hx => h x (List.mem_of_mem_drop hx)

/-- Main theorem: where all clauses hold the outputs are the unary count. -/
theorem cnt_unary {f : Int → Bool} (hf : NegOk f) {M : Nat} : ∀ (k : Nat) (l : List Int) (m : Nat), l.length ≤ k → 1 ≤ m → Nz l → satf f (cnt M l m).2 → Unary f (cnt M l m).1 (ctf f l)
  | k, l, m, hk, hm, hz, hs => by
    by_cases h : min l.length M = 0
    · rw [cnt_none h]; intro i hi; simp at hi
    · by_cases h1 : l.length = 1
      · rw [cnt_one h h1]; exact ctf_one f l h1
      · cases k with
        | zero => omega
        | succ k =>
          have e1 : (l.take (l.length / 2)).length = l.length / 2 := by rw [List.length_take]; omega
          have e2 : (l.drop (l.length / 2)).length = l.length - l.length / 2 := List.length_drop ..
          rw [cnt_more h h1] at hs ⊢
          rw [satf_append, satf_append] at hs
          obtain ⟨⟨hs1, hs2⟩, hs3⟩ := hs
          have i1 := cnt_unary hf k (l.take (l.length / 2)) m (by omega) hm (nz_take hz _) hs1
          have i2 := cnt_unary hf k (l.drop (l.length / 2)) (m + size M (l.length / 2)) (by omega) (by omega) (nz_drop hz _) hs2
          have q := (merge_sat hf (na := l.length / 2) (nb := l.length - l.length / 2) (M := M) i1 i2 (cnt_nz _ _ hm (nz_take hz _)) (cnt_nz _ _ (by omega) (nz_drop hz _)) (from_nz _ _ (by omega))
            (by rw [cnt_length, e1]) (by rw [cnt_length, e2]) (by rw [from_length, show l.length / 2 + (l.length - l.length / 2) = l.length by omega])
            (by have := ctf_le f (l.take (l.length / 2)); omega) (by have := ctf_le f (l.drop (l.length / 2)); omega)).1 hs3
          rw [ctf_halves f l (l.length / 2)]
          exact q
end Go.Proofs.Ytpiomdnkemoanaa.Ttl
