/- Sums: sizes, the order of the terms, what Sum answers for any input. -/
import Derived.Test.YtpeklcbjhkchlaaSumsM
import Derived.Test.YtpeklcbjhkchlaaSumW
namespace Go.Proofs.Ytpeklcbjhkchlaa
open Go.RowKit
set_option maxRecDepth 30000

def rl : List (List Int) → Nat
  | [] => 0
  | q :: r => q.length + rl r
theorem addUp_sizes (rows : List (List Int)) (carry : List Int) (next : Nat) (t : List Int × List (List Int) × Nat) (h : addUp rows carry next = some t) :
    ∃ A, t.2.2 = next + 2 * A ∧ 7 * A ≤ t.2.1.length ∧ t.2.1.length ≤ 14 * A ∧ (next ≤ 65537 → t.2.2 ≤ 65537) ∧ (A = 0 → rl rows + carry.length ≤ t.1.length) := by
  refine addUp_ind (P := fun rows carry next t => ∃ A, t.2.2 = next + 2 * A ∧ 7 * A ≤ t.2.1.length ∧ t.2.1.length ≤ 14 * A ∧ (next ≤ 65537 → t.2.2 ≤ 65537) ∧ (A = 0 → rl rows + carry.length ≤ t.1.length))
    (fun (next : Nat) => ⟨0, rfl, Nat.zero_le _, Nat.le_refl _, fun h => h, fun _ => Nat.le_refl _⟩) (fun rows carry (next : Nat) r t hne hr ht ih => ?_) rows carry next t h
  obtain ⟨A, i1, i2, i3, i4, i5⟩ := ih
  obtain ⟨s1, _, s3, s4, _, s6, _, s8⟩ := red_sizes _ _ _ r (Nat.le_refl _) hr
  refine ⟨r.2.1.length + A, by show t.2.2 = _; omega, ?_, ?_, fun h => i4 (s6 h), fun h => ?_⟩
  · show _ ≤ (r.2.2.1 ++ t.2.1).length
    rw [List.length_append]; omega
  · show (r.2.2.1 ++ t.2.1).length ≤ _
    rw [List.length_append]; omega
  · have hc : r.2.1 = [] := List.eq_nil_of_length_eq_zero (by omega)
    have h1 := s8 hc
    have h2 := i5 (by omega)
    rw [hc] at h2
    show _ ≤ (r.1.headD 0 :: t.1).length
    rw [List.length_append] at h1
    have h3 : rl rows = (rows.headD []).length + rl rows.tail := by cases rows <;> rfl
    rw [List.length_cons]
    rw [List.length_nil] at h2
    omega
theorem addUp_short (rows : List (List Int)) (carry : List Int) (next : Nat) (t : List Int × List (List Int) × Nat) (h : addUp rows carry next = some t) :
    ∀ k, (∀ q ∈ rows, q.length ≤ 8) → carry.length ≤ 8 → (rows ≠ [] → 4 ≤ k) → (rows = [] → carry.length < 2 ^ k) → t.1.length ≤ rows.length + k ∧ t.2.2 ≤ next + 16 * t.1.length := by
  refine addUp_ind (P := fun rows carry next t => ∀ k, (∀ q ∈ rows, q.length ≤ 8) → carry.length ≤ 8 → (rows ≠ [] → 4 ≤ k) → (rows = [] → carry.length < 2 ^ k) → t.1.length ≤ rows.length + k ∧ t.2.2 ≤ next + 16 * t.1.length)
    (fun (next : Nat) k _ _ _ _ => ⟨Nat.zero_le _, Nat.le_refl _⟩) (fun rows carry (next : Nat) r t hne hr ht ih k h1 h2 h3 h4 => ?_) rows carry next t h
  obtain ⟨s1, s2, _⟩ := red_sizes _ _ _ r (Nat.le_refl _) hr
  rw [List.length_append] at s2
  cases rows with
  | nil =>
    have hc : carry ≠ [] := fun e => hne ⟨rfl, e⟩
    have hc2 : 0 < carry.length := List.length_pos_iff.2 hc
    have h5 := h4 rfl
    have hk : k ≠ 0 := fun e => by subst e; simp at h5; exact hc h5
    obtain ⟨m, rfl⟩ : ∃ m, k = m + 1 := ⟨k - 1, by omega⟩
    rw [Nat.pow_succ] at h5
    simp only [List.headD_nil, List.length_nil] at s2
    obtain ⟨g1, g2⟩ := ih m (fun q hq => absurd hq (by simp)) (by omega) (fun h => absurd rfl h) (fun _ => by omega)
    simp only [List.tail_nil, List.length_nil, List.length_cons] at *
    exact ⟨by omega, by omega⟩
  | cons q rs =>
    have hq := h1 q (by simp)
    simp only [List.headD_cons] at s2
    have hk := h3 (by simp)
    have hp : 2 ^ 4 ≤ 2 ^ k := Nat.pow_le_pow_right (by omega) hk
    obtain ⟨g1, g2⟩ := ih k (fun p hp => h1 p (List.mem_of_mem_tail hp)) (by omega) (fun _ => hk) (fun _ => by omega)
    simp only [List.tail_cons, List.length_cons] at *
    exact ⟨by omega, by omega⟩

theorem red_same : ∀ (k : Nat) (q q' : List Int) (next : Nat), q.length ≤ k → q.length = q'.length → (red q next).map (fun r => (r.2.1.length, r.2.2.2)) = (red q' next).map (fun r => (r.2.1.length, r.2.2.2))
  | k, q, q', next, hk, he => by
    by_cases h1 : q.length ≤ 1
    · rw [red_done next h1, red_done next (by omega)]; rfl
    · by_cases h2 : 65535 < next
      · rw [red_none h1 h2, red_none (by omega) h2]
      · rw [red_more h1 h2, red_more (by omega) h2]
        match k, hk with
        | 0, hk => omega
        | k + 1, hk =>
          have ih := red_same k (q.drop (min 3 q.length) ++ [(next : Int)]) (q'.drop (min 3 q'.length) ++ [(next : Int)]) (next + 2) (by simp only [List.length_append, List.length_drop, List.length_singleton]; omega) (by simp only [List.length_append, List.length_drop, List.length_singleton]; omega)
          rcases g1 : red (q.drop (min 3 q.length) ++ [(next : Int)]) (next + 2) with _ | r <;> rcases g2 : red (q'.drop (min 3 q'.length) ++ [(next : Int)]) (next + 2) with _ | r'
          · rfl
          · rw [g1, g2] at ih; cases ih
          · rw [g1, g2] at ih; cases ih
          · rw [g1, g2] at ih
            injection ih with ih
            injection ih with i1 i2
            simp [i1, i2]
theorem addUp_same (rows rows' : List (List Int)) (carry carry' : List Int) (next : Nat) (h1 : rows.map List.length = rows'.map List.length) (h2 : carry.length = carry'.length) :
    (addUp rows carry next).map (·.2.2) = (addUp rows' carry' next).map (·.2.2) := by
  by_cases hn : rows = [] ∧ carry = []
  · obtain ⟨rfl, rfl⟩ := hn
    have e1 : rows' = [] := by simpa using h1.symm
    have e2 : carry' = [] := List.eq_nil_of_length_eq_zero h2.symm
    rw [e1, e2]
  · have hn' : ¬ (rows' = [] ∧ carry' = []) := fun ⟨e1, e2⟩ => hn ⟨by rw [e1] at h1; simpa using h1, List.eq_nil_of_length_eq_zero (by rw [h2, e2]; rfl)⟩
    have hhd : (rows.headD [] ++ carry).length = (rows'.headD [] ++ carry').length := by
      rw [List.length_append, List.length_append, h2]
      congr 1
      cases rows <;> cases rows' <;> simp at h1 ⊢
      exact h1.1
    have htl : rows.tail.map List.length = rows'.tail.map List.length := by
      cases rows <;> cases rows' <;> simp at h1 ⊢
      exact h1.2
    have hs := red_same _ _ _ next (Nat.le_refl _) hhd
    rcases g1 : red (rows.headD [] ++ carry) next with _ | r <;> rcases g2 : red (rows'.headD [] ++ carry') next with _ | r'
    · rw [addUp_none hn g1, addUp_none hn' g2]
    · rw [g1, g2] at hs; cases hs
    · rw [g1, g2] at hs; cases hs
    · rw [g1, g2] at hs
      injection hs with hs
      injection hs with i1 i2
      have ih := addUp_same rows.tail rows'.tail r.2.1 r'.2.1 r.2.2.2 htl i1
      rw [addUp_some hn g1, addUp_some hn' g2, Option.map_map, Option.map_map, ← i2]
      exact ih
termination_by (rows.length, carry.length)
decreasing_by
  rcases Nat.eq_zero_or_pos rows.length with h0 | h0
  · have hrn : rows = [] := List.eq_nil_of_length_eq_zero h0
    have hc : carry ≠ [] := fun e => hn ⟨hrn, e⟩
    have h3 := red_few _ _ _ _ (Nat.le_refl _) g1
    rw [hrn] at h3
    simp only [List.headD_nil, List.nil_append] at h3
    have h4 := h3.2.1 hc
    have h5 : 0 < r.1.length := List.length_pos_iff.2 h4
    rw [List.length_tail, h0]
    exact Prod.Lex.right _ (by omega)
  · exact Prod.Lex.left _ _ (by rw [List.length_tail]; omega)

theorem hgt_append (xs : List Nat) (x : Nat) : hgt (xs ++ [x]) = max (hgt xs) (Lib.bitLen x) := hgt_snoc x xs
theorem hgt_rev : ∀ xs : List Nat, hgt xs.reverse = hgt xs
  | [] => rfl
  | x :: xs => by rw [List.reverse_cons, hgt_snoc, hgt_rev xs]; show max _ _ = max _ _; omega
theorem qs_rev : ∀ (xs : List Nat) (ls : List Int) (p : Nat), xs.length = ls.length → (qs xs.reverse ls.reverse p).length = (qs xs ls p).length
  | [], [], p, _ => rfl
  | x :: xs, l :: ls, p, h => by
    rw [List.length_cons, List.length_cons] at h
    rw [List.reverse_cons, List.reverse_cons, qs_append (by simp; omega), qs_cons, List.length_append, List.length_append, qs_rev xs ls p (by omega), qs_cons, qs_nil]
    simp; omega
  | [], l :: ls, p, h => by simp at h
  | x :: xs, [], p, h => by simp at h
theorem rowsOf_rev (xs : List Nat) (ls : List Int) (h : xs.length = ls.length) : (rowsOf xs.reverse ls.reverse).map List.length = (rowsOf xs ls).map List.length := by
  unfold rowsOf
  rw [hgt_rev, List.map_map, List.map_map]
  congr 1
  funext p
  exact qs_rev xs ls p h
theorem sm_append (a : List Bool) : ∀ (xs ys : List Nat) (ls ms : List Int), xs.length = ls.length → sm a (xs ++ ys) (ls ++ ms) = sm a xs ls + sm a ys ms
  | [], ys, [], ms, _ => by simp [sm]
  | x :: xs, ys, l :: ls, ms, h => by
    show _ + sm a (xs ++ ys) (ls ++ ms) = _ + sm a xs ls + sm a ys ms
    rw [sm_append a xs ys ls ms (by simpa using h)]; omega
  | [], _, l :: ls, _, h => by simp at h
  | x :: xs, _, [], _, h => by simp at h
theorem sm_rev (a : List Bool) : ∀ (xs : List Nat) (ls : List Int), xs.length = ls.length → sm a xs.reverse ls.reverse = sm a xs ls
  | [], [], _ => rfl
  | x :: xs, l :: ls, h => by
    rw [List.reverse_cons, List.reverse_cons, sm_append a _ _ _ _ (by simpa using h), sm_rev a xs ls (by simpa using h)]
    simp only [sm]; omega
  | [], l :: ls, h => by simp at h
  | x :: xs, [], h => by simp at h

/-- Terms that Sum takes. -/
def OkS (xs ls : List Int) (next : Int) : Prop := 1 ≤ next ∧ next ≤ 65537 ∧ xs.length = ls.length ∧ ∀ j, j < ls.length → Ok1 next.toNat (xs[j]?.getD 0) (ls[j]?.getD 0)
theorem first_bad (next : Nat) (xs ls : List Int) : ∀ n : Nat, (∀ j, j < n → Ok1 next (xs[j]?.getD 0) (ls[j]?.getD 0)) ∨ ∃ i, i < n ∧ (∀ j, j < i → Ok1 next (xs[j]?.getD 0) (ls[j]?.getD 0)) ∧ ¬ Ok1 next (xs[i]?.getD 0) (ls[i]?.getD 0)
  | 0 => .inl fun j hj => absurd hj (Nat.not_lt_zero j)
  | n + 1 => by
    rcases first_bad next xs ls n with h | ⟨i, h1, h2⟩
    · by_cases e : Ok1 next (xs[n]?.getD 0) (ls[n]?.getD 0)
      · left; intro j hj
        rcases Nat.lt_or_ge j n with q | q
        · exact h j q
        · rw [show j = n by omega]; exact e
      · exact .inr ⟨n, by omega, h, e⟩
    · exact .inr ⟨i, by omega, h2⟩
theorem Sum_arg (B n1 n2 c1 c2 : Nat) (next : Int) (A1 A2 : Option Addr) (xs ls : List Int) (w : World) (r1 : RdI B w A1 xs) (r2 : RdI B w A2 ls) (hl1 : xs.length = n1) (hl2 : ls.length = n2) (hn : n2 ≤ 9223372036854775807) (h : ¬ OkS xs ls next) :
    Calls Try.prog 13 #[.slice A1 n1 c1, .slice A2 n2 c2, .int .i64 next] w (SumRes w [] [] 0 1) := by
  by_cases h1 : next < 1 ∨ 65537 < next ∨ n1 ≠ n2
  · exact sum_arg h1 c1 c2 A1 A2 w
  · obtain rfl : n1 = n2 := by omega
    obtain ⟨N, rfl⟩ := Int.eq_ofNat_of_zero_le (show 0 ≤ next by omega)
    rcases first_bad N xs ls n1 with g | ⟨i, g1, g2, g3⟩
    · exact absurd ⟨by omega, by omega, by omega, by rw [Int.toNat_natCast, hl2]; exact g⟩ h
    · exact sum_bad B n1 c1 c2 N i A1 A2 xs ls w r1 r2 hl1 hl2 (by omega) (by omega) g1 hn g2 g3
theorem nats_toNat {xs : List Int} (h : ∀ j, j < xs.length → 0 ≤ xs[j]?.getD 0) : nats (xs.map Int.toNat) = xs := by
  unfold nats
  rw [List.map_map]
  apply List.ext_getElem
  · simp
  · intro i h1 h2
    have := h i h2
    rw [List.getElem?_eq_getElem h2, Option.getD_some] at this
    rw [List.getElem_map]
    show ((xs[i].toNat : Nat) : Int) = _
    omega
theorem OkS.nats {xs ls : List Int} {next : Int} (h : OkS xs ls next) : nats (xs.map Int.toNat) = xs := nats_toNat fun j hj => (h.2.2.2 j (by have := h.2.2.1; omega)).1.1
theorem Sum_ok (B n c1 c2 : Nat) (next : Int) (A1 A2 : Option Addr) (xs ls : List Int) (w : World) (r1 : RdI B w A1 xs) (r2 : RdI B w A2 ls) (hB : B ≤ w.heap.size) (hl1 : xs.length = n) (hl2 : ls.length = n) (hn : n ≤ 4096) (h : OkS xs ls next) :
    Calls Try.prog 13 #[.slice A1 n c1, .slice A2 n c2, .int .i64 next] w (Summed w (xs.map Int.toNat) ls next.toNat) := by
  obtain ⟨N, rfl⟩ := Int.eq_ofNat_of_zero_le (show 0 ≤ next by have := h.1; omega)
  have hnat := h.nats
  obtain ⟨h1, h2, h3, h4⟩ := h
  rw [Int.toNat_natCast] at *
  exact Sum_any B n c1 c2 N A1 A2 _ ls w (by rw [hnat]; exact r1) r2 hB (by simpa using hl1) hl2 (by omega) (by omega) hn (by rw [hnat, ← hl2]; exact h4)
end Go.Proofs.Ytpeklcbjhkchlaa
