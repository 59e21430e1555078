/- The queues that a summer begins with. -/
import Derived.Test.YtpeklcbjhkchlaaPush
import Derived.Test.YtpeklcbjhkchlaaLen
namespace Go.Proofs.Ytpeklcbjhkchlaa
open Go.RowKit Go.Maps
set_option maxRecDepth 30000

/-- The literals whose coefficients have bit p. -/
def qs (xs : List Nat) (ls : List Int) (p : Nat) : List Int := ((xs.zip ls).filter (fun z => z.1.testBit p)).map (·.2)
theorem qs_nil (p : Nat) : qs [] [] p = [] := rfl
theorem qs_append {xs ys : List Nat} {ls ms : List Int} (h : xs.length = ls.length) (p : Nat) : qs (xs ++ ys) (ls ++ ms) p = qs xs ls p ++ qs ys ms p := by
  unfold qs
  rw [List.zip_append h, List.filter_append, List.map_append]
theorem qs_len (xs : List Nat) (ls : List Int) (p : Nat) : (qs xs ls p).length ≤ ls.length := by
  unfold qs
  rw [List.length_map]
  exact Nat.le_trans (List.length_filter_le _ _) (by rw [List.length_zip]; omega)
theorem qs_mem {xs : List Nat} {ls : List Int} {p : Nat} {y : Int} (h : y ∈ qs xs ls p) : y ∈ ls := by
  unfold qs at h
  obtain ⟨z, hz, rfl⟩ := List.mem_map.1 h
  have := (List.mem_filter.1 hz).1
  exact (List.of_mem_zip (a := z.1) (b := z.2) this).2
/-- How many bits the greatest coefficient has. -/
def hgt : List Nat → Nat
  | [] => 0
  | x :: r => max (Lib.bitLen x) (hgt r)
theorem hgt_snoc (x : Nat) : ∀ l : List Nat, hgt (l ++ [x]) = max (hgt l) (Lib.bitLen x)
  | [] => by simp [hgt]
  | y :: l => by show max _ (hgt (l ++ [x])) = max (max _ _) _; rw [hgt_snoc x l]; omega
theorem bitLen_lt (x : Nat) (h : x < 2 ^ 64) : x < 2 ^ Lib.bitLen x := by
  by_cases h0 : x = 0
  · subst h0; exact Nat.two_pow_pos _
  · exact (Lib.bitLenAux_bounds 64 x h h0).2.2
theorem bitLen_top (x b : Nat) (h : x < 2 ^ 64) (hb : Lib.bitLen x = b + 1) : x.testBit b = true := by
  have h0 : x ≠ 0 := by
    intro e; subst e
    rw [show Lib.bitLen 0 = 0 from rfl] at hb
    omega
  obtain ⟨_, h1, h2⟩ := Lib.bitLenAux_bounds 64 x h h0
  rw [show Lib.bitLenAux 64 x = b + 1 from hb] at h1 h2
  rw [Nat.add_sub_cancel] at h1
  rw [Nat.testBit_eq_decide_div_mod_eq]
  have h3 : x / 2 ^ b = 1 := by
    rw [Nat.pow_succ] at h2
    have a : 1 ≤ x / 2 ^ b := (Nat.le_div_iff_mul_le (Nat.two_pow_pos b)).2 (by omega)
    have c : x / 2 ^ b < 2 := (Nat.div_lt_iff_lt_mul (Nat.two_pow_pos b)).2 (by omega)
    omega
  rw [h3]; rfl
theorem testBit_over {x p : Nat} (h : x < 2 ^ 64) (hp : Lib.bitLen x ≤ p) : x.testBit p = false :=
  Nat.testBit_lt_two_pow (Nat.lt_of_lt_of_le (bitLen_lt x h) (Nat.pow_le_pow_right (by omega) hp))
theorem hgt_le : ∀ {l : List Nat}, (∀ y ∈ l, y < 2 ^ 64) → hgt l ≤ 64
  | [], _ => Nat.zero_le _
  | x :: l, h => by
    have := hgt_le (l := l) fun y hy => h y (List.mem_cons_of_mem _ hy)
    have := Lib.bitLen_le x 64 (Nat.le_refl _) (h x (by simp))
    show max _ _ ≤ _
    omega
/-- The bits below b reach so far. -/
def lb (x : Nat) : Nat → Nat
  | 0 => 0
  | b + 1 => if x.testBit b then b + 1 else lb x b
theorem lb_le (x : Nat) : ∀ b, lb x b ≤ b
  | 0 => Nat.le_refl _
  | b + 1 => by rw [lb]; have := lb_le x b; split <;> omega
theorem lb_all (x : Nat) (h : x < 2 ^ 64) : lb x (Lib.bitLen x) = Lib.bitLen x := by
  obtain ⟨b, hb⟩ : ∃ b, Lib.bitLen x = b := ⟨_, rfl⟩
  rw [hb]
  cases b with
  | zero => rfl
  | succ b => rw [lb, if_pos (bitLen_top x b h hb)]
/-- The queues with the bits below b of one more coefficient. -/
def qb (Q : Nat → List Int) (x : Nat) (l : Int) (b : Nat) : Nat → List Int := fun p => if decide (p < b) && x.testBit p then Q p ++ [l] else Q p
theorem qb_zero (Q : Nat → List Int) (x : Nat) (l : Int) : qb Q x l 0 = Q := by
  funext p; unfold qb; rw [if_neg (by simp)]
theorem qb_skip {Q : Nat → List Int} {x : Nat} {l : Int} {b : Nat} (h : x.testBit b = false) : qb Q x l (b + 1) = qb Q x l b := by
  funext p; unfold qb
  by_cases e : p = b
  · subst e; simp [h]
  · simp [show (p < b + 1) = (p < b) by apply propext; omega]
theorem qb_push {Q : Nat → List Int} {x : Nat} {l : Int} {b : Nat} (h : x.testBit b = true) : qb Q x l (b + 1) = updQ (qb Q x l b) b (qb Q x l b b ++ [l]) := by
  funext p; unfold qb updQ
  by_cases e : p = b
  · subst e; simp [h]
  · simp [show (p < b + 1) = (p < b) by apply propext; omega, e]
theorem qb_all {xs : List Nat} {ls : List Int} {x : Nat} {l : Int} (hl : xs.length = ls.length) (h : x < 2 ^ 64) : qb (qs xs ls) x l (Lib.bitLen x) = qs (xs ++ [x]) (ls ++ [l]) := by
  funext p
  rw [qs_append hl]
  unfold qb
  by_cases hp : p < Lib.bitLen x
  · by_cases ht : x.testBit p = true
    · rw [if_pos (by simp [hp, ht])]; simp [qs, ht]
    · rw [if_neg (by simp [hp, ht])]; simp [qs, ht]
  · rw [if_neg (by simp [hp])]; simp [qs, testBit_over h (by omega : Lib.bitLen x ≤ p)]
theorem qb_len (xs : List Nat) (ls : List Int) (x : Nat) (l : Int) (b p : Nat) : (qb (qs xs ls) x l b p).length ≤ ls.length + 1 := by
  have := qs_len xs ls p
  unfold qb
  split
  · rw [List.length_append]; simp only [List.length_singleton]; omega
  · omega

/-- The summer with the first i terms and the bits below b of another. -/
def NewSt (w : World) (xs : List Nat) (ls : List Int) (next i x : Nat) (l : Int) (b : Nat) (w' : World) : Prop :=
  Below w.heap.size w w' ∧ ∃ val n, n ≤ 64 * i + b ∧ val 1000001 = .slice Option.none 0 0 ∧
    Sm w' (w.heap.size + 1) w.heap.size (w.heap.size + 2) n val (qb (qs (xs.take i) (ls.take i)) x l b) (((max (hgt (xs.take i)) (lb x b) : Nat) : Int) - 1) (.slice Option.none 0 0) [] [] next
theorem NewSt.start {w w' : World} {xs : List Nat} {ls : List Int} {next i x y : Nat} {l k : Int} (h : NewSt w xs ls next i x l 0 w') : NewSt w xs ls next i y k 0 w' := by
  obtain ⟨h1, val, n, h2, h3, h4⟩ := h
  rw [qb_zero] at h4
  refine ⟨h1, val, n, h2, h3, ?_⟩
  rw [qb_zero]
  exact h4
theorem NewSt.skip {w w' : World} {xs : List Nat} {ls : List Int} {next i x b : Nat} {l : Int} (h : NewSt w xs ls next i x l b w') (ht : x.testBit b = false) : NewSt w xs ls next i x l (b + 1) w' := by
  obtain ⟨h1, val, n, h2, h3, h4⟩ := h
  refine ⟨h1, val, n, by omega, h3, ?_⟩
  rw [qb_skip ht, lb, ht]
  exact h4
theorem NewSt.push {w w' w'' : World} {xs : List Nat} {ls : List Int} {next i x b n : Nat} {l : Int} {val : Nat → Value} (hb : Below w.heap.size w w') (hn : n ≤ 64 * i + b) (hg : val 1000001 = .slice Option.none 0 0) (hbb : b ≤ 1000) (ht : x.testBit b = true) (hs : w.heap.size + 2 ≤ w'.heap.size)
    (hq : ∀ p, QI w' (w.heap.size + 2) (val p) (qb (qs (xs.take i) (ls.take i)) x l b p))
    (h : Pushed w' (w.heap.size + 1) w.heap.size (w.heap.size + 2) n val (qb (qs (xs.take i) (ls.take i)) x l b) (((max (hgt (xs.take i)) (lb x b) : Nat) : Int) - 1) (.slice Option.none 0 0) [] [] next b l w'') : NewSt w xs ls next i x l (b + 1) w'' := by
  obtain ⟨val', h1, h2, h3⟩ := h
  refine ⟨hb.trans (h2.low (by omega) (by omega) (fun k hk => by have := ((hq b).lt hk).1; omega) (by omega)), val', n + 1, by omega, (h3 _ (by omega)).trans hg, ?_⟩
  rw [qb_push ht, lb, if_pos ht]
  have := lb_le x b
  have e : ((max (hgt (xs.take i)) (b + 1) : Nat) : Int) - 1 = max (((max (hgt (xs.take i)) (lb x b) : Nat) : Int) - 1) (b : Int) := by omega
  rw [e]
  exact h1
theorem NewSt.term {w w' : World} {xs : List Nat} {ls : List Int} {next i x b : Nat} {l : Int} (h : NewSt w xs ls next i x l b w') (hx : x < 2 ^ 64) (hb : b = Lib.bitLen x) (hb2 : b ≤ 64) (h1 : xs[i]? = some x) (h2 : ls[i]? = some l) : NewSt w xs ls next (i + 1) 0 0 0 w' := by
  obtain ⟨h3, val, n, h4, h5, h6⟩ := h
  have l1 := (List.getElem?_eq_some_iff.1 h1).1
  have l2 := (List.getElem?_eq_some_iff.1 h2).1
  subst hb
  rw [qb_all (by rw [List.length_take, List.length_take]; omega) hx, lb_all x hx] at h6
  refine ⟨h3, val, n, by omega, h5, ?_⟩
  have t1 : xs.take (i + 1) = xs.take i ++ [x] := by rw [List.take_add_one, h1]; rfl
  have t2 : ls.take (i + 1) = ls.take i ++ [l] := by rw [List.take_add_one, h2]; rfl
  rw [qb_zero, t1, t2, hgt_snoc, lb, Nat.max_zero]
  exact h6
end Go.Proofs.Ytpeklcbjhkchlaa
