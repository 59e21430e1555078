/- What told answers and what the clauses of a sum mean, in plain mathematics. -/
import Derived.Test.YtpeklcbjhkchlaaUpM
namespace Go.Proofs.Ytpeklcbjhkchlaa
open Go.RowKit
set_option maxRecDepth 30000

/-- Whether all but lit are false literals of variables that have a value. -/
def oth (l : List Int) (lit : Int) (a : List Bool) : Bool := l.all fun x => decide (x = lit) || (decide (x ≠ 0 ∧ -(a.length : Int) < x ∧ x < (a.length : Int)) && !tv a x)
/-- Whether some clause forces this literal. -/
def frc (c : List (List Int)) (lit : Int) (a : List Bool) : Bool := c.any fun l => decide (lit ∈ l) && oth l lit a
def tld (c : List (List Int)) : Nat → List Bool → Option (List Bool)
  | 0, a => some a
  | n + 1, a => if frc c (a.length : Int) a = frc c (-(a.length : Int)) a then none else tld c n (a ++ [frc c (a.length : Int) a])

theorem tv_ext {a : List Bool} {x : Int} (b : List Bool) (h : Lit a.length x) : tv (a ++ b) x = tv a x := by
  obtain ⟨k, h1, h2, rfl | rfl⟩ := h.two
  · rw [tv_pos, tv_pos, List.getElem?_append_left h2]
  · rw [tv_neg _ _ h1, tv_neg _ _ h1, List.getElem?_append_left h2]
theorem ct_ext {a : List Bool} (b : List Bool) : ∀ {l : List Int}, (∀ x ∈ l, Lit a.length x) → ct (a ++ b) l = ct a l
  | [], _ => rfl
  | x :: l, h => by
    have ih := ct_ext b (l := l) fun y hy => h y (List.mem_cons_of_mem _ hy)
    unfold ct at *
    rw [List.filter_cons, List.filter_cons, tv_ext b (h x (by simp))]
    split <;> simp [ih]
theorem ct_append (a : List Bool) (l m : List Int) : ct a (l ++ m) = ct a l + ct a m := by unfold ct; rw [List.filter_append, List.length_append]
theorem ct_cons (a : List Bool) (x : Int) (l : List Int) : ct a (x :: l) = (tv a x).toNat + ct a l := by
  unfold ct; rw [List.filter_cons]; cases tv a x <;> simp; omega
theorem ct_nil (a : List Bool) : ct a [] = 0 := rfl
theorem frc_append (c d : List (List Int)) (lit : Int) (a : List Bool) : frc (c ++ d) lit a = (frc c lit a || frc d lit a) := List.any_append
theorem frc_old {c : List (List Int)} {a : List Bool} {lit : Int} (h : ∀ l ∈ c, ∀ y ∈ l, Lit a.length y) (hl : lit = (a.length : Int) ∨ lit = -(a.length : Int)) : frc c lit a = false := by
  unfold frc
  rw [List.any_eq_false]
  intro l hm
  rw [Bool.and_eq_true, decide_eq_true_eq]
  rintro ⟨h1, _⟩
  obtain ⟨h2, h3, h4⟩ := h l hm lit h1
  omega
theorem frc_new {c : List (List Int)} {a : List Bool} {lit : Int} (h : ∀ l ∈ c, ∃ y ∈ l, y ≠ lit ∧ ¬ Lit a.length y) : frc c lit a = false := by
  unfold frc
  rw [List.any_eq_false]
  intro l hm
  obtain ⟨y, h1, h2, h3⟩ := h l hm
  rw [Bool.and_eq_true]
  rintro ⟨_, h4⟩
  unfold oth at h4
  have h5 := List.all_eq_true.1 h4 y h1
  rw [Bool.or_eq_true, Bool.and_eq_true, decide_eq_true_eq, decide_eq_true_eq] at h5
  rcases h5 with h5 | ⟨h5, _⟩
  · exact h2 h5
  · exact h3 h5
theorem oth_made {ps : List Int} {a : List Bool} {lit : Int} (h : ∀ y ∈ ps, Lit a.length y) (hl : lit = (a.length : Int) ∨ lit = -(a.length : Int)) : oth (ps ++ [lit]) lit a = ps.all fun y => !tv a y := by
  unfold oth
  rw [List.all_append]
  simp only [List.all_cons, List.all_nil, decide_true, Bool.true_or, Bool.and_true]
  rw [Bool.eq_iff_iff, List.all_eq_true, List.all_eq_true]
  refine forall_congr' fun y => forall_congr' fun hy => ?_
  obtain ⟨h2, h3, h4⟩ := h y hy
  rw [decide_eq_false (show ¬ y = lit by omega), decide_eq_true (show y ≠ 0 ∧ -(a.length : Int) < y ∧ y < (a.length : Int) from ⟨h2, h3, h4⟩)]
  simp
theorem frc_made {a : List Bool} {lit : Int} (hl : lit = (a.length : Int) ∨ lit = -(a.length : Int)) : ∀ {L : List (List Int × Int)}, (∀ p ∈ L, ∀ y ∈ p.1, Lit a.length y) → frc (L.map fun p => p.1 ++ [p.2]) lit a = L.any fun p => decide (p.2 = lit) && p.1.all fun y => !tv a y
  | [], _ => rfl
  | p :: L, h => by
    have ih := frc_made hl (L := L) fun q hq => h q (List.mem_cons_of_mem _ hq)
    unfold frc at *
    rw [List.map_cons, List.any_cons, ih, List.any_cons]
    congr 1
    have hp := h p (by simp)
    by_cases e : p.2 = lit
    · rw [e, oth_made hp hl, decide_eq_true (show lit ∈ p.1 ++ [lit] by simp), decide_eq_true (rfl : lit = lit)]
    · rw [decide_eq_false e, decide_eq_false]
      · rfl
      · intro hm
        rcases List.mem_append.1 hm with hm | hm
        · obtain ⟨h2, h3, h4⟩ := hp lit hm
          omega
        · exact e (List.mem_singleton.1 hm).symm

def pairs2 (x y s c : Int) : List (List Int × Int) := [([x, y], -s), ([-x, y], s), ([x, -y], s), ([-x, -y], -s), ([-x, -y], c), ([x], -c), ([y], -c)]
def pairs3 (x y z s c : Int) : List (List Int × Int) := [([x, y, z], -s), ([-x, y, z], s), ([x, -y, z], s), ([-x, -y, z], -s), ([x, y, -z], s), ([-x, y, -z], -s), ([x, -y, -z], -s), ([-x, -y, -z], s), ([-x, -y], c), ([-x, -z], c), ([-y, -z], c), ([x, y], -c), ([x, z], -c), ([y, z], -c)]
theorem adC2 (x y : Int) (s : Nat) : adC [x, y] s = (pairs2 x y s ((s + 1 : Nat) : Int)).map fun p => p.1 ++ [p.2] := by
  simp [adC, adRows, fl, od, adMaj, Nat.testBit, Nat.shiftRight_eq_div_pow, pairs2]
theorem adC3 (x y z : Int) (s : Nat) : adC [x, y, z] s = (pairs3 x y z s ((s + 1 : Nat) : Int)).map fun p => p.1 ++ [p.2] := by
  simp [adC, adRows, fl, od, adMaj, Nat.testBit, Nat.shiftRight_eq_div_pow, pairs3]

/-- One adder: its two variables are forced, its clauses hold, and its outputs count its inputs. -/
theorem told_adder {ins : List Int} {a : List Bool} {c0 c1 : List (List Int)} (hi : ins.length = 2 ∨ ins.length = 3) (hl : ∀ x ∈ ins, Lit a.length x) (h1 : 1 ≤ a.length)
    (h0 : ∀ l ∈ c0, ∀ y ∈ l, Lit a.length y) (hn : ∀ l ∈ c1, ∃ y ∈ l, ((a.length + 2 : Nat) : Int) ≤ y ∨ y ≤ -((a.length + 2 : Nat) : Int)) :
    ∃ p m : Bool, (∀ n, tld (c0 ++ (adC ins a.length ++ c1)) (n + 2) a = tld (c0 ++ (adC ins a.length ++ c1)) n (a ++ [p, m])) ∧ (∀ l ∈ adC ins a.length, l.any (tv (a ++ [p, m])) = true) ∧ ct a ins = p.toNat + 2 * m.toNat := by
  obtain ⟨N, hN⟩ : ∃ N, a.length = N := ⟨_, rfl⟩
  -- the new variables under the extension
  have key : ∀ (L : List (List Int × Int)) (p m : Bool), adC ins a.length = (L.map fun q => q.1 ++ [q.2]) → (∀ q ∈ L, ∀ y ∈ q.1, Lit a.length y) →
      (L.any fun q => decide (q.2 = (a.length : Int)) && q.1.all fun y => !tv a y) = p → (L.any fun q => decide (q.2 = -(a.length : Int)) && q.1.all fun y => !tv a y) = !p →
      (L.any fun q => decide (q.2 = ((a.length + 1 : Nat) : Int)) && q.1.all fun y => !tv a y) = m → (L.any fun q => decide (q.2 = -((a.length + 1 : Nat) : Int)) && q.1.all fun y => !tv a y) = !m →
      ∀ n, tld (c0 ++ (adC ins a.length ++ c1)) (n + 2) a = tld (c0 ++ (adC ins a.length ++ c1)) n (a ++ [p, m]) := by
    intro L p m hC hL k1 k2 k3 k4 n
    have n1 : ∀ lit : Int, lit = (a.length : Int) ∨ lit = -(a.length : Int) → ∀ l ∈ c1, ∃ y ∈ l, y ≠ lit ∧ ¬ Lit a.length y := fun lit hlit l hm => by
      obtain ⟨y, hy, hy2⟩ := hn l hm
      refine ⟨y, hy, by omega, fun hlt => ?_⟩
      obtain ⟨_, q2, q3⟩ := hlt
      omega
    have f1 : ∀ lit : Int, lit = (a.length : Int) ∨ lit = -(a.length : Int) → frc (c0 ++ (adC ins a.length ++ c1)) lit a = L.any fun q => decide (q.2 = lit) && q.1.all fun y => !tv a y := fun lit hlit => by
      rw [frc_append, frc_append, frc_old h0 hlit, frc_new (n1 lit hlit), hC, frc_made hlit hL, Bool.false_or, Bool.or_false]
    have hlen : (a ++ [p]).length = a.length + 1 := by simp
    have h0' : ∀ l ∈ c0, ∀ y ∈ l, Lit (a ++ [p]).length y := fun l hm y hy => (h0 l hm y hy).mono (by omega)
    have hL' : ∀ q ∈ L, ∀ y ∈ q.1, Lit (a ++ [p]).length y := fun q hq y hy => (hL q hq y hy).mono (by omega)
    have n2 : ∀ lit : Int, lit = ((a ++ [p]).length : Int) ∨ lit = -((a ++ [p]).length : Int) → ∀ l ∈ c1, ∃ y ∈ l, y ≠ lit ∧ ¬ Lit (a ++ [p]).length y := fun lit hlit l hm => by
      obtain ⟨y, hy, hy2⟩ := hn l hm
      rw [hlen] at hlit ⊢
      refine ⟨y, hy, by omega, fun hlt => ?_⟩
      obtain ⟨_, q2, q3⟩ := hlt
      omega
    have same : ∀ lit : Int, (L.any fun q => decide (q.2 = lit) && q.1.all fun y => !tv (a ++ [p]) y) = L.any fun q => decide (q.2 = lit) && q.1.all fun y => !tv a y := fun lit => by
      rw [Bool.eq_iff_iff, List.any_eq_true, List.any_eq_true]
      refine exists_congr fun q => and_congr_right fun hq => ?_
      rw [Bool.and_eq_true, Bool.and_eq_true, List.all_eq_true, List.all_eq_true]
      refine and_congr_right fun _ => forall_congr' fun y => forall_congr' fun hy => ?_
      rw [tv_ext _ (hL q hq y hy)]
    have f2 : ∀ lit : Int, lit = ((a ++ [p]).length : Int) ∨ lit = -((a ++ [p]).length : Int) → frc (c0 ++ (adC ins a.length ++ c1)) lit (a ++ [p]) = L.any fun q => decide (q.2 = lit) && q.1.all fun y => !tv a y := fun lit hlit => by
      rw [frc_append, frc_append, frc_old h0' hlit, frc_new (n2 lit hlit), hC, frc_made hlit hL', Bool.false_or, Bool.or_false, same]
    rw [show n + 2 = (n + 1) + 1 from rfl, tld, f1 _ (.inl rfl), f1 _ (.inr rfl), k1, k2, if_neg (by cases p <;> simp), tld, f2 _ (.inl rfl), f2 _ (.inr rfl), hlen, k3, k4, if_neg (by cases m <;> simp), List.append_assoc]
    rfl
  have e1 : decide (-(a.length : Int) = (a.length : Int)) = false := decide_eq_false (by omega)
  have e2 : decide (((a.length + 1 : Nat) : Int) = (a.length : Int)) = false := decide_eq_false (by omega)
  have e3 : decide (-((a.length + 1 : Nat) : Int) = (a.length : Int)) = false := decide_eq_false (by omega)
  have e4 : decide ((a.length : Int) = -(a.length : Int)) = false := decide_eq_false (by omega)
  have e5 : decide (((a.length + 1 : Nat) : Int) = -(a.length : Int)) = false := decide_eq_false (by omega)
  have e6 : decide (-((a.length + 1 : Nat) : Int) = -(a.length : Int)) = false := decide_eq_false (by omega)
  have e7 : decide ((a.length : Int) = ((a.length + 1 : Nat) : Int)) = false := decide_eq_false (by omega)
  have e8 : decide (-(a.length : Int) = ((a.length + 1 : Nat) : Int)) = false := decide_eq_false (by omega)
  have e9 : decide (-((a.length + 1 : Nat) : Int) = ((a.length + 1 : Nat) : Int)) = false := decide_eq_false (by omega)
  have e10 : decide ((a.length : Int) = -((a.length + 1 : Nat) : Int)) = false := decide_eq_false (by omega)
  have e11 : decide (-(a.length : Int) = -((a.length + 1 : Nat) : Int)) = false := decide_eq_false (by omega)
  have e12 : decide (((a.length + 1 : Nat) : Int) = -((a.length + 1 : Nat) : Int)) = false := decide_eq_false (by omega)
  have ts : ∀ p m : Bool, tv (a ++ [p, m]) (a.length : Int) = p := fun p m => by rw [tv_pos, List.getElem?_append_right (Nat.le_refl _)]; simp
  have tc : ∀ p m : Bool, tv (a ++ [p, m]) ((a.length + 1 : Nat) : Int) = m := fun p m => by rw [tv_pos, List.getElem?_append_right (by omega)]; simp
  have tns : ∀ p m : Bool, tv (a ++ [p, m]) (-(a.length : Int)) = !p := fun p m => by rw [tv_not _ _ (by omega), ts]
  have tnc : ∀ p m : Bool, tv (a ++ [p, m]) (-((a.length + 1 : Nat) : Int)) = !m := fun p m => by rw [tv_not _ _ (by omega), tc]
  rcases hi with hi | hi
  · obtain ⟨x, y, rfl⟩ : ∃ x y, ins = [x, y] := by
      match ins, hi with
      | [x, y], _ => exact ⟨x, y, rfl⟩
    · have hx := hl x (by simp)
      have hy := hl y (by simp)
      have hL : ∀ q ∈ pairs2 x y a.length ((a.length + 1 : Nat) : Int), ∀ z ∈ q.1, Lit a.length z := by
        intro q hq z hz
        simp only [pairs2, List.mem_cons, List.not_mem_nil, or_false] at hq
        rcases hq with rfl | rfl | rfl | rfl | rfl | rfl | rfl <;> simp only [List.mem_cons, List.not_mem_nil, or_false] at hz <;>
          (first | (rcases hz with rfl | rfl) | (obtain rfl := hz)) <;> first | exact hx | exact hy | exact hx.neg | exact hy.neg
      refine ⟨xor (tv a x) (tv a y), tv a x && tv a y, key (pairs2 x y a.length ((a.length + 1 : Nat) : Int)) _ _ (adC2 x y a.length) hL ?_ ?_ ?_ ?_, ?_, ?_⟩
      · simp only [pairs2, List.any_cons, List.any_nil, List.all_cons, List.all_nil, tv_not _ _ hx.1, tv_not _ _ hy.1, e1, e2, e3, decide_true]
        cases tv a x <;> cases tv a y <;> rfl
      · simp only [pairs2, List.any_cons, List.any_nil, List.all_cons, List.all_nil, tv_not _ _ hx.1, tv_not _ _ hy.1, e4, e5, e6, decide_true]
        cases tv a x <;> cases tv a y <;> rfl
      · simp only [pairs2, List.any_cons, List.any_nil, List.all_cons, List.all_nil, tv_not _ _ hx.1, tv_not _ _ hy.1, e7, e8, e9, decide_true]
        cases tv a x <;> cases tv a y <;> rfl
      · simp only [pairs2, List.any_cons, List.any_nil, List.all_cons, List.all_nil, tv_not _ _ hx.1, tv_not _ _ hy.1, e10, e11, e12, decide_true]
        cases tv a x <;> cases tv a y <;> rfl
      · rw [adC2]
        intro l hm
        simp only [pairs2, List.map_cons, List.map_nil, List.mem_cons, List.not_mem_nil, or_false] at hm
        rcases hm with rfl | rfl | rfl | rfl | rfl | rfl | rfl <;>
          simp only [List.cons_append, List.nil_append, List.any_cons, List.any_nil, tv_ext _ hx, tv_ext _ hy, tv_ext _ hx.neg, tv_ext _ hy.neg, tv_not _ _ hx.1, tv_not _ _ hy.1, ts, tc, tns, tnc] <;>
          cases tv a x <;> cases tv a y <;> rfl
      · rw [ct_cons, ct_cons, ct_nil]; cases tv a x <;> cases tv a y <;> rfl
  · obtain ⟨x, y, z, rfl⟩ : ∃ x y z, ins = [x, y, z] := by
      match ins, hi with
      | [x, y, z], _ => exact ⟨x, y, z, rfl⟩
    · have hx := hl x (by simp)
      have hy := hl y (by simp)
      have hz := hl z (by simp)
      have hL : ∀ q ∈ pairs3 x y z a.length ((a.length + 1 : Nat) : Int), ∀ u ∈ q.1, Lit a.length u := by
        intro q hq u hu
        simp only [pairs3, List.mem_cons, List.not_mem_nil, or_false] at hq
        rcases hq with rfl | rfl | rfl | rfl | rfl | rfl | rfl | rfl | rfl | rfl | rfl | rfl | rfl | rfl <;> simp only [List.mem_cons, List.not_mem_nil, or_false] at hu <;>
          (first | (rcases hu with rfl | rfl | rfl) | (rcases hu with rfl | rfl)) <;> first | exact hx | exact hy | exact hz | exact hx.neg | exact hy.neg | exact hz.neg
      refine ⟨xor (xor (tv a x) (tv a y)) (tv a z), (tv a x && tv a y) || (tv a x && tv a z) || (tv a y && tv a z), key (pairs3 x y z a.length ((a.length + 1 : Nat) : Int)) _ _ (adC3 x y z a.length) hL ?_ ?_ ?_ ?_, ?_, ?_⟩
      · simp only [pairs3, List.any_cons, List.any_nil, List.all_cons, List.all_nil, tv_not _ _ hx.1, tv_not _ _ hy.1, tv_not _ _ hz.1, e1, e2, e3, decide_true]
        cases tv a x <;> cases tv a y <;> cases tv a z <;> rfl
      · simp only [pairs3, List.any_cons, List.any_nil, List.all_cons, List.all_nil, tv_not _ _ hx.1, tv_not _ _ hy.1, tv_not _ _ hz.1, e4, e5, e6, decide_true]
        cases tv a x <;> cases tv a y <;> cases tv a z <;> rfl
      · simp only [pairs3, List.any_cons, List.any_nil, List.all_cons, List.all_nil, tv_not _ _ hx.1, tv_not _ _ hy.1, tv_not _ _ hz.1, e7, e8, e9, decide_true]
        cases tv a x <;> cases tv a y <;> cases tv a z <;> rfl
      · simp only [pairs3, List.any_cons, List.any_nil, List.all_cons, List.all_nil, tv_not _ _ hx.1, tv_not _ _ hy.1, tv_not _ _ hz.1, e10, e11, e12, decide_true]
        cases tv a x <;> cases tv a y <;> cases tv a z <;> rfl
      · rw [adC3]
        intro l hm
        simp only [pairs3, List.map_cons, List.map_nil, List.mem_cons, List.not_mem_nil, or_false] at hm
        rcases hm with rfl | rfl | rfl | rfl | rfl | rfl | rfl | rfl | rfl | rfl | rfl | rfl | rfl | rfl <;>
          simp only [List.cons_append, List.nil_append, List.any_cons, List.any_nil, tv_ext _ hx, tv_ext _ hy, tv_ext _ hz, tv_ext _ hx.neg, tv_ext _ hy.neg, tv_ext _ hz.neg, tv_not _ _ hx.1, tv_not _ _ hy.1, tv_not _ _ hz.1, ts, tc, tns, tnc] <;>
          cases tv a x <;> cases tv a y <;> cases tv a z <;> rfl
      · rw [ct_cons, ct_cons, ct_cons, ct_nil]; cases tv a x <;> cases tv a y <;> cases tv a z <;> rfl
end Go.Proofs.Ytpeklcbjhkchlaa
