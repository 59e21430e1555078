/- The clauses of a sum determine its bits, which are the weighted sum; how many there are; the order doesn't matter. -/
import Derived.Test.YtpeklcbjhkchlaaToldM
namespace Go.Proofs.Ytpeklcbjhkchlaa
open Go.RowKit
set_option maxRecDepth 30000

def Old (N : Nat) (c : List (List Int)) : Prop := ∀ l ∈ c, ∀ y ∈ l, Lit N y
def New (N : Nat) (c : List (List Int)) : Prop := ∀ l ∈ c, ∃ y ∈ l, (N : Int) ≤ y ∨ y ≤ -(N : Int)
theorem Old.mono {N M : Nat} {c : List (List Int)} (h : Old N c) (hm : N ≤ M) : Old M c := fun l hl y hy => (h l hl y hy).mono hm
theorem New.mono {N M : Nat} {c : List (List Int)} (h : New N c) (hm : M ≤ N) : New M c := fun l hl => by
  obtain ⟨y, h1, h2⟩ := h l hl
  exact ⟨y, h1, by omega⟩
theorem Old.append {N : Nat} {c d : List (List Int)} (h : Old N c) (g : Old N d) : Old N (c ++ d) := fun l hl => by
  rcases List.mem_append.1 hl with q | q
  · exact h l q
  · exact g l q
theorem New.append {N : Nat} {c d : List (List Int)} (h : New N c) (g : New N d) : New N (c ++ d) := fun l hl => by
  rcases List.mem_append.1 hl with q | q
  · exact h l q
  · exact g l q
def Sat (a : List Bool) (c : List (List Int)) : Prop := ∀ l ∈ c, l.any (tv a) = true
theorem Sat.ext {a : List Bool} {c : List (List Int)} (b : List Bool) (h : Sat a c) (ho : Old a.length c) : Sat (a ++ b) c := fun l hl => by
  have := h l hl
  rw [List.any_eq_true] at this ⊢
  obtain ⟨y, h1, h2⟩ := this
  exact ⟨y, h1, by rw [tv_ext b (ho l hl y h1)]; exact h2⟩
theorem Sat.append {a : List Bool} {c d : List (List Int)} (h : Sat a c) (g : Sat a d) : Sat a (c ++ d) := fun l hl => by
  rcases List.mem_append.1 hl with q | q
  · exact h l q
  · exact g l q
theorem adC_new {ins : List Int} {s : Nat} (h : ins.length = 2 ∨ ins.length = 3) : New s (adC ins s) := by
  rcases h with h | h
  · obtain ⟨x, y, rfl⟩ : ∃ x y, ins = [x, y] := by
      match ins, h with
      | [x, y], _ => exact ⟨x, y, rfl⟩
    rw [adC2]
    intro l hl
    obtain ⟨q, hq, rfl⟩ := List.mem_map.1 hl
    refine ⟨q.2, by simp, ?_⟩
    simp only [pairs2, List.mem_cons, List.not_mem_nil, or_false] at hq
    rcases hq with rfl | rfl | rfl | rfl | rfl | rfl | rfl <;> simp only [] <;> omega
  · obtain ⟨x, y, z, rfl⟩ : ∃ x y z, ins = [x, y, z] := by
      match ins, h with
      | [x, y, z], _ => exact ⟨x, y, z, rfl⟩
    rw [adC3]
    intro l hl
    obtain ⟨q, hq, rfl⟩ := List.mem_map.1 hl
    refine ⟨q.2, by simp, ?_⟩
    simp only [pairs3, List.mem_cons, List.not_mem_nil, or_false] at hq
    rcases hq with rfl | rfl | rfl | rfl | rfl | rfl | rfl | rfl | rfl | rfl | rfl | rfl | rfl | rfl <;> simp only [] <;> omega

/-- What the reduction of a queue means. -/
structure RedT (q : List Int) (next : Nat) (r : List Int × List Int × List (List Int) × Nat) (a b : List Bool) (c0 c1 : List (List Int)) : Prop where
  len : next + b.length = r.2.2.2
  run : ∀ n, tld (c0 ++ (r.2.2.1 ++ c1)) (b.length + n) a = tld (c0 ++ (r.2.2.1 ++ c1)) n (a ++ b)
  sat : Sat (a ++ b) r.2.2.1
  val : ct (a ++ b) q = ct (a ++ b) r.1 + 2 * ct (a ++ b) r.2.1
theorem red_lits : ∀ (k : Nat) (q : List Int) (next : Nat) (r : List Int × List Int × List (List Int) × Nat), q.length ≤ k → red q next = some r → 1 ≤ next → (∀ x ∈ q, Lit next x) →
    next ≤ r.2.2.2 ∧ Old r.2.2.2 r.2.2.1 ∧ New next r.2.2.1 ∧ (∀ x ∈ r.1, Lit r.2.2.2 x) ∧ ∀ x ∈ r.2.1, Lit r.2.2.2 x := by
  refine red_ind (fun q (next : Nat) h h1 hq => ⟨Nat.le_refl _, fun l hl => absurd hl (by simp), fun l hl => absurd hl (by simp), hq, fun x hx => absurd hx (by simp)⟩) (fun q (next : Nat) t h1 h2 _ ih h3 hq => ?_)
  have hin : (q.take (min 3 q.length)).length = 2 ∨ (q.take (min 3 q.length)).length = 3 := by rw [List.length_take]; omega
  obtain ⟨i1, i2, i3, i4, i5⟩ := ih (by omega) (fun x hx => by
    rcases List.mem_append.1 hx with h | h
    · exact (hq x (List.mem_of_mem_drop h)).mono (by omega)
    · rw [List.mem_singleton.1 h]; exact ⟨by omega, by omega, by omega⟩)
  have hA := adC_lits hin h3 (fun x hx => hq x (List.mem_of_mem_take hx))
  refine ⟨by show next ≤ t.2.2.2; omega, Old.append (Old.mono (N := next + 2) hA i1) i2, New.append (adC_new hin) (i3.mono (by omega)), i4, fun x hx => ?_⟩
  rcases List.mem_cons.1 hx with h | h
  · subst h; exact ⟨by omega, by omega, by show ((next + 1 : Nat) : Int) < (t.2.2.2 : Int); omega⟩
  · exact i5 x h
theorem red_told : ∀ (k : Nat) (q : List Int) (next : Nat) (r : List Int × List Int × List (List Int) × Nat), q.length ≤ k → red q next = some r → 1 ≤ next → (∀ x ∈ q, Lit next x) →
    ∀ (a : List Bool) (c0 c1 : List (List Int)), a.length = next → Old next c0 → New r.2.2.2 c1 → ∃ b, RedT q next r a b c0 c1 := by
  refine red_ind (fun q (next : Nat) h h1 hq a c0 c1 ha h0 hn => ⟨[], rfl, fun n => by rw [List.append_nil, List.length_nil, Nat.zero_add], fun l hl => absurd hl (by simp), by rw [ct_nil]; rfl⟩) (fun q (next : Nat) t h1 h2 ht ih h3 hq a c0 c1 ha h0 hn => ?_)
  have hin : (q.take (min 3 q.length)).length = 2 ∨ (q.take (min 3 q.length)).length = 3 := by rw [List.length_take]; omega
  have hq2 : ∀ x ∈ q.drop (min 3 q.length) ++ [(next : Int)], Lit (next + 2) x := fun x hx => by
    rcases List.mem_append.1 hx with h | h
    · exact (hq x (List.mem_of_mem_drop h)).mono (by omega)
    · rw [List.mem_singleton.1 h]; exact ⟨by omega, by omega, by omega⟩
  obtain ⟨i1, i2, i3, i4, i5⟩ := red_lits _ _ _ t (Nat.le_refl _) ht (by omega) hq2
  have hA := adC_lits hin h3 (fun x hx => hq x (List.mem_of_mem_take hx))
  subst ha
  have hn1 : New (a.length + 2) (t.2.2.1 ++ c1) := New.append i3 (hn.mono i1)
  obtain ⟨p, m, g1, g2, g3⟩ := told_adder (c0 := c0) (c1 := t.2.2.1 ++ c1) hin (fun x hx => hq x (List.mem_of_mem_take hx)) h3 h0 hn1
  have hl2 : (a ++ [p, m]).length = a.length + 2 := by simp
  obtain ⟨b, j1, j2, j3, j4⟩ := ih (by omega) hq2 (a ++ [p, m]) (c0 ++ adC (q.take (min 3 q.length)) a.length) c1 hl2 ((h0.mono (by omega)).append hA) hn
  refine ⟨[p, m] ++ b, by simp only [List.length_append, List.length_cons, List.length_nil]; omega, fun n => ?_, ?_, ?_⟩
  · have e : c0 ++ ((adC (q.take (min 3 q.length)) a.length ++ t.2.2.1) ++ c1) = c0 ++ (adC (q.take (min 3 q.length)) a.length ++ (t.2.2.1 ++ c1)) := by simp
    have e2 : (c0 ++ adC (q.take (min 3 q.length)) a.length) ++ (t.2.2.1 ++ c1) = c0 ++ (adC (q.take (min 3 q.length)) a.length ++ (t.2.2.1 ++ c1)) := by simp
    have k1 := g1 (b.length + n)
    have k2 := j2 n
    rw [e2] at k2
    show tld (c0 ++ ((adC (q.take (min 3 q.length)) a.length ++ t.2.2.1) ++ c1)) _ a = tld (c0 ++ ((adC (q.take (min 3 q.length)) a.length ++ t.2.2.1) ++ c1)) n _
    rw [e, show ([p, m] ++ b).length + n = (b.length + n) + 2 by simp only [List.length_append, List.length_cons, List.length_nil]; omega, k1, k2, List.append_assoc]
  · rw [← List.append_assoc]
    refine Sat.append (Sat.ext b g2 ?_) j3
    rw [hl2]; exact hA
  · show ct _ q = ct _ t.1 + 2 * ct _ (((a.length + 1 : Nat) : Int) :: t.2.1)
    have hs : q = q.take (min 3 q.length) ++ q.drop (min 3 q.length) := (List.take_append_drop _ _).symm
    have k0 : ct (a ++ ([p, m] ++ b)) q = ct (a ++ ([p, m] ++ b)) (q.take (min 3 q.length)) + ct (a ++ ([p, m] ++ b)) (q.drop (min 3 q.length)) := by rw [← ct_append, ← hs]
    have k1 : ct (a ++ ([p, m] ++ b)) (q.take (min 3 q.length)) = p.toNat + 2 * m.toNat := by rw [ct_ext _ (fun x hx => hq x (List.mem_of_mem_take hx)), g3]
    rw [k0, k1]
    rw [← List.append_assoc]
    rw [ct_append, ct_cons, ct_nil] at j4
    have ts : tv ((a ++ [p, m]) ++ b) (a.length : Int) = p := by
      rw [tv_ext b ⟨by omega, by omega, by rw [hl2]; omega⟩, tv_pos, List.getElem?_append_right (Nat.le_refl _)]; simp
    have tc : tv ((a ++ [p, m]) ++ b) ((a.length + 1 : Nat) : Int) = m := by
      rw [tv_ext b ⟨by omega, by omega, by rw [hl2]; omega⟩, tv_pos, List.getElem?_append_right (by omega)]; simp
    rw [ts] at j4
    rw [ct_cons, tc]
    omega

/-- The number of a bit vector. -/
def nb (a : List Bool) : List Int → Nat
  | [] => 0
  | x :: r => (if x ≠ 0 ∧ tv a x = true then 1 else 0) + 2 * nb a r
def rv (a : List Bool) : List (List Int) → Nat
  | [] => 0
  | q :: r => ct a q + 2 * rv a r
structure AddT (rows : List (List Int)) (carry : List Int) (next : Nat) (t : List Int × List (List Int) × Nat) (a b : List Bool) (c0 : List (List Int)) : Prop where
  len : next + b.length = t.2.2
  run : tld (c0 ++ t.2.1) b.length a = some (a ++ b)
  sat : Sat (a ++ b) t.2.1
  val : nb (a ++ b) t.1 = rv (a ++ b) rows + ct (a ++ b) carry
theorem addUp_lits (rows : List (List Int)) (carry : List Int) (next : Nat) (t : List Int × List (List Int) × Nat) (h : addUp rows carry next = some t) : 1 ≤ next → (∀ q ∈ rows, ∀ x ∈ q, Lit next x) → (∀ x ∈ carry, Lit next x) →
    next ≤ t.2.2 ∧ Old t.2.2 t.2.1 ∧ New next t.2.1 ∧ ∀ x ∈ t.1, x = 0 ∨ Lit t.2.2 x := by
  revert rows carry next t
  intro rows carry next t h
  refine addUp_ind (P := fun rows carry next t => 1 ≤ next → (∀ q ∈ rows, ∀ x ∈ q, Lit next x) → (∀ x ∈ carry, Lit next x) → next ≤ t.2.2 ∧ Old t.2.2 t.2.1 ∧ New next t.2.1 ∧ ∀ x ∈ t.1, x = 0 ∨ Lit t.2.2 x)
    (fun (next : Nat) h1 _ _ => ⟨Nat.le_refl _, fun l hl => absurd hl (by simp), fun l hl => absurd hl (by simp), fun x hx => absurd hx (by simp)⟩) (fun rows carry (next : Nat) r t hne hr ht ih h1 hrows hc => ?_) rows carry next t h
  have hq : ∀ x ∈ rows.headD [] ++ carry, Lit next x := fun x hx => by
    rcases List.mem_append.1 hx with h | h
    · cases rows with
      | nil => exact absurd h (by simp)
      | cons q rows => exact hrows q (by simp) x h
    · exact hc x h
  obtain ⟨i1, i2, i3, i4, i5⟩ := red_lits _ _ _ r (Nat.le_refl _) hr h1 hq
  obtain ⟨j1, j2, j3, j4⟩ := ih (by omega) (fun q hq x hx => (hrows q (List.mem_of_mem_tail hq) x hx).mono i1) i5
  refine ⟨by show next ≤ t.2.2; omega, (i2.mono j1).append j2, i3.append (j3.mono i1), fun x hx => ?_⟩
  rcases List.mem_cons.1 hx with h | h
  · subst h
    rcases hr1 : r.1 with _ | ⟨y, ys⟩
    · exact .inl rfl
    · exact .inr ((i4 y (by rw [hr1]; simp)).mono j1)
  · exact j4 x h
theorem addUp_told (rows : List (List Int)) (carry : List Int) (next : Nat) (t : List Int × List (List Int) × Nat) (h : addUp rows carry next = some t) : 1 ≤ next → (∀ q ∈ rows, ∀ x ∈ q, Lit next x) → (∀ x ∈ carry, Lit next x) →
    ∀ (a : List Bool) (c0 : List (List Int)), a.length = next → Old next c0 → ∃ b, AddT rows carry next t a b c0 := by
  refine addUp_ind (P := fun rows carry next t => 1 ≤ next → (∀ q ∈ rows, ∀ x ∈ q, Lit next x) → (∀ x ∈ carry, Lit next x) → ∀ (a : List Bool) (c0 : List (List Int)), a.length = next → Old next c0 → ∃ b, AddT rows carry next t a b c0)
    (fun (next : Nat) h1 _ _ a c0 ha h0 => ⟨[], rfl, by simp [tld], fun l hl => absurd hl (by simp), rfl⟩) (fun rows carry (next : Nat) r t hne hr ht ih h1 hrows hc a c0 ha h0 => ?_) rows carry next t h
  have hq : ∀ x ∈ rows.headD [] ++ carry, Lit next x := fun x hx => by
    rcases List.mem_append.1 hx with h | h
    · cases rows with
      | nil => exact absurd h (by simp)
      | cons q rows => exact hrows q (by simp) x h
    · exact hc x h
  obtain ⟨i1, i2, i3, i4, i5⟩ := red_lits _ _ _ r (Nat.le_refl _) hr h1 hq
  have hrows2 : ∀ q ∈ rows.tail, ∀ x ∈ q, Lit r.2.2.2 x := fun q hq x hx => (hrows q (List.mem_of_mem_tail hq) x hx).mono i1
  obtain ⟨j1, j2, j3, j4⟩ := addUp_lits _ _ _ t ht (by omega) hrows2 i5
  obtain ⟨b1, k1, k2, k3, k4⟩ := red_told _ _ _ r (Nat.le_refl _) hr h1 hq a c0 t.2.1 ha h0 j3
  have hl1 : (a ++ b1).length = r.2.2.2 := by rw [List.length_append]; omega
  obtain ⟨b2, m1, m2, m3, m4⟩ := ih (by omega) hrows2 i5 (a ++ b1) (c0 ++ r.2.2.1) hl1 ((h0.mono i1).append i2)
  refine ⟨b1 ++ b2, by rw [List.length_append]; show next + _ = t.2.2; omega, ?_, ?_, ?_⟩
  · show tld (c0 ++ (r.2.2.1 ++ t.2.1)) _ a = _
    rw [List.length_append, k2, ← List.append_assoc, m2, List.append_assoc]
  · rw [← List.append_assoc]
    exact Sat.append (Sat.ext b2 k3 (by rw [hl1]; exact i2)) m3
  · have hsz := red_sizes _ _ _ r (Nat.le_refl _) hr
    have hr1 := hsz.2.2.2.2.1
    rw [← List.append_assoc]
    show (if r.1.headD 0 ≠ 0 ∧ tv ((a ++ b1) ++ b2) (r.1.headD 0) = true then 1 else 0) + 2 * nb ((a ++ b1) ++ b2) t.1 = _
    rw [m4]
    have e1 : (if r.1.headD 0 ≠ 0 ∧ tv ((a ++ b1) ++ b2) (r.1.headD 0) = true then 1 else 0) = ct ((a ++ b1) ++ b2) r.1 := by
      rcases hr2 : r.1 with _ | ⟨y, ys⟩
      · simp [ct_nil]
      · have hys : ys = [] := by rw [hr2] at hr1; simp at hr1; exact hr1
        subst hys
        have hy := (i4 y (by rw [hr2]; simp)).1
        rw [ct_cons, ct_nil]
        show (if y ≠ 0 ∧ tv ((a ++ b1) ++ b2) y = true then 1 else 0) = _
        cases tv ((a ++ b1) ++ b2) y <;> simp [hy]
    have hqe : ∀ x ∈ rows.headD [] ++ carry, Lit (a ++ b1).length x := fun x hx => (hq x hx).mono (by omega)
    have e2 : ct ((a ++ b1) ++ b2) (rows.headD [] ++ carry) = ct ((a ++ b1) ++ b2) r.1 + 2 * ct ((a ++ b1) ++ b2) r.2.1 := by
      rw [ct_ext b2 hqe, k4, ct_ext b2 (fun x hx => by rw [hl1]; exact i4 x hx), ct_ext b2 (fun x hx => by rw [hl1]; exact i5 x hx)]
    have e3 : rv ((a ++ b1) ++ b2) rows = ct ((a ++ b1) ++ b2) (rows.headD []) + 2 * rv ((a ++ b1) ++ b2) rows.tail := by
      cases rows with
      | nil => rfl
      | cons q rows => rfl
    rw [ct_append] at e2
    rw [e1, e3]
    omega

/-- The sum of the coefficients of the true literals. -/
def sm (a : List Bool) : List Nat → List Int → Nat
  | x :: xs, l :: ls => (if tv a l = true then x else 0) + sm a xs ls
  | _, _ => 0
def sq (a : List Bool) (f : Nat → List Int) : Nat → Nat
  | 0 => 0
  | h + 1 => sq a f h + 2 ^ h * ct a (f h)
theorem rv_snoc (a : List Bool) (q : List Int) : ∀ l : List (List Int), rv a (l ++ [q]) = rv a l + 2 ^ l.length * ct a q
  | [] => by simp [rv]
  | p :: l => by
    show ct a p + 2 * rv a (l ++ [q]) = ct a p + 2 * rv a l + 2 ^ (l.length + 1) * ct a q
    rw [rv_snoc a q l, Nat.pow_succ, Nat.mul_add, Nat.mul_comm (2 ^ l.length) 2, Nat.mul_assoc]; omega
theorem rv_range (a : List Bool) (f : Nat → List Int) : ∀ h, rv a ((List.range h).map f) = sq a f h
  | 0 => rfl
  | h + 1 => by rw [List.range_succ, List.map_append, List.map_singleton, rv_snoc, rv_range a f h, List.length_map, List.length_range]; rfl
theorem qs_cons (x : Nat) (xs : List Nat) (l : Int) (ls : List Int) (p : Nat) : qs (x :: xs) (l :: ls) p = (if x.testBit p then [l] else []) ++ qs xs ls p := by
  unfold qs
  rw [List.zip_cons_cons, List.filter_cons]
  split <;> simp
theorem mod_succ (x h : Nat) : x % 2 ^ (h + 1) = x % 2 ^ h + (if x.testBit h then 2 ^ h else 0) := by
  rw [Nat.pow_succ, Nat.mod_mul, Nat.testBit_eq_decide_div_mod_eq]
  have : x / 2 ^ h % 2 < 2 := Nat.mod_lt _ (by omega)
  by_cases e : x / 2 ^ h % 2 = 1
  · rw [e]; simp
  · rw [show x / 2 ^ h % 2 = 0 by omega]; simp
theorem sq_cons (a : List Bool) (x : Nat) (xs : List Nat) (l : Int) (ls : List Int) : ∀ h, sq a (qs (x :: xs) (l :: ls)) h = (if tv a l = true then x % 2 ^ h else 0) + sq a (qs xs ls) h
  | 0 => by simp [sq, Nat.mod_one]
  | h + 1 => by
    rw [sq, sq_cons a x xs l ls h, sq, qs_cons, ct_append, mod_succ x h, Nat.mul_add]
    generalize 2 ^ h * ct a (qs xs ls h) = u
    cases x.testBit h <;> cases htv : tv a l <;> simp [ct_cons, ct_nil, htv] <;> omega
theorem sq_nil (a : List Bool) (ls : List Int) : ∀ h, sq a (qs [] ls) h = 0
  | 0 => rfl
  | h + 1 => by rw [sq, sq_nil a ls h]; simp [qs, ct_nil]
theorem sq_nil2 (a : List Bool) (xs : List Nat) : ∀ h, sq a (qs xs []) h = 0
  | 0 => rfl
  | h + 1 => by rw [sq, sq_nil2 a xs h]; simp [qs, ct_nil]
theorem sq_sm (a : List Bool) (h : Nat) : ∀ (xs : List Nat) (ls : List Int), (∀ x ∈ xs, x < 2 ^ h) → sq a (qs xs ls) h = sm a xs ls
  | [], ls, _ => by rw [sq_nil]; cases ls <;> rfl
  | x :: xs, [], _ => by rw [sq_nil2]; rfl
  | x :: xs, l :: ls, hx => by
    rw [sq_cons, sq_sm a h xs ls (fun y hy => hx y (List.mem_cons_of_mem _ hy)), Nat.mod_eq_of_lt (hx x (by simp))]; rfl
theorem rows_sm (a : List Bool) (xs : List Nat) (ls : List Int) (h : ∀ x ∈ xs, x < 2 ^ 64) : rv a (rowsOf xs ls) = sm a xs ls := by
  unfold rowsOf
  rw [rv_range, sq_sm]
  intro x hx
  have h1 := bitLen_lt x (h x hx)
  exact Nat.lt_of_lt_of_le h1 (Nat.pow_le_pow_right (by omega) (hgt_ge hx))
theorem nb_lt (a : List Bool) : ∀ l : List Int, nb a l < 2 ^ l.length
  | [] => by simp [nb]
  | x :: l => by
    have := nb_lt a l
    show (if x ≠ 0 ∧ tv a x = true then 1 else 0) + 2 * nb a l < 2 ^ (l.length + 1)
    rw [Nat.pow_succ]
    split <;> omega
theorem nb_snoc (a : List Bool) (x : Int) : ∀ l : List Int, nb a (l ++ [x]) = nb a l + (if x ≠ 0 ∧ tv a x = true then 2 ^ l.length else 0)
  | [] => by simp [nb]
  | y :: l => by
    show _ + 2 * nb a (l ++ [x]) = (_ + 2 * nb a l) + (if x ≠ 0 ∧ tv a x = true then 2 ^ (l.length + 1) else 0)
    rw [nb_snoc a x l, Nat.pow_succ]
    by_cases h : x ≠ 0 ∧ tv a x = true
    · rw [if_pos h, if_pos h]; omega
    · rw [if_neg h, if_neg h]; omega
end Go.Proofs.Ytpeklcbjhkchlaa
