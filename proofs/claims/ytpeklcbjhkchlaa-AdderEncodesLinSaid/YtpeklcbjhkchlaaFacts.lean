/- What a small sum is known to do, in one place; the walk of small. -/
import Derived.Test.YtpeklcbjhkchlaaTold
import Derived.Test.YtpeklcbjhkchlaaSmall2
import Derived.Test.YtpeklcbjhkchlaaValue
namespace Go.Proofs.Ytpeklcbjhkchlaa
open Go.ChangeShapes Go.WideShapes Go.ChangeAt Go.RowKit
set_option maxRecDepth 100000

theorem hgt_bound (k : Nat) : ∀ {l : List Nat}, (∀ y ∈ l, Lib.bitLen y ≤ k) → hgt l ≤ k
  | [], _ => Nat.zero_le _
  | x :: l, h => by
    have h1 := hgt_bound k (l := l) fun y hy => h y (List.mem_cons_of_mem _ hy)
    have h2 := h x (by simp)
    show max _ _ ≤ _
    omega
theorem small_any (n1 n2 c1 c2 : Nat) (A1 A2 : Option Addr) (next : Int) (w : World) :
    Calls Try.prog 19 #[.slice A1 n1 c1, .slice A2 n2 c2, .int .i64 next] w fun e w' => e = .returned (.bool (decide (n1 ≤ 8 ∧ n2 ≤ 8 ∧ next ≤ 40))) ∧ w = w' := by
  obtain ⟨r, hr⟩ : ∃ r, decide (n1 ≤ 8 ∧ n2 ≤ 8 ∧ next ≤ 40) = r := ⟨_, rfl⟩
  rw [hr]
  by_cases h1 : n1 ≤ 8
  · by_cases h2 : n2 ≤ 8
    · by_cases h3 : next ≤ 40
      · obtain rfl : r = true := by rw [← hr]; exact decide_eq_true ⟨h1, h2, h3⟩
        clear hr
        go_enter Try.func19, Try.ntmps19
        go_wp2_with fail
        go_ret
        exact ⟨rfl, rfl⟩
      · obtain rfl : r = false := by rw [← hr]; exact decide_eq_false (by omega)
        have f3 : decide (next ≤ 40) = false := decide_eq_false h3
        clear hr
        go_enter Try.func19, Try.ntmps19
        go_wp2_with fail
        go_ret
        exact ⟨rfl, rfl⟩
    · obtain rfl : r = false := by rw [← hr]; exact decide_eq_false (by omega)
      have f3 : decide ((n2 : Int) ≤ 8) = false := decide_eq_false (by omega)
      clear hr
      go_enter Try.func19, Try.ntmps19
      go_wp2_with fail
      go_ret
      exact ⟨rfl, rfl⟩
  · obtain rfl : r = false := by rw [← hr]; exact decide_eq_false (by omega)
    have f3 : decide ((n1 : Int) ≤ 8) = false := decide_eq_false (by omega)
    clear hr
    go_enter Try.func19, Try.ntmps19
    go_wp2_with fail
    go_ret
    exact ⟨rfl, rfl⟩

/-- What is known of the sum of a few terms. -/
structure FewT (N M : Nat) (xs : List Nat) (ls bits : List Int) (cl : List (List Int)) : Prop where
  le : N ≤ M
  up : M ≤ N + 2000
  top : M ≤ 65537
  nbits : bits.length ≤ 60
  ncl : cl.length ≤ 65536
  old : Old M cl
  lits : ∀ x ∈ bits, x = 0 ∨ Lit M x
  told : ∀ a : List Bool, a.length = N → ∃ b : List Bool, b.length = M ∧ tld cl (M - N) a = some b ∧ Sat b cl ∧ nb b bits = sm b xs ls ∧ ∃ d, b = a ++ d
theorem few_terms {N : Nat} {xs : List Nat} {ls : List Int} {t : List Int × List (List Int) × Nat} (ht : addUp (rowsOf xs ls) [] N = some t) (hN : 1 ≤ N) (hN2 : N ≤ 40) (hl : xs.length = ls.length) (h8 : ls.length ≤ 8) (hx : ∀ x ∈ xs, x ≤ 1099511627776) (hlit : ∀ y ∈ ls, Lit N y) :
    FewT N t.2.2 xs ls t.1 t.2.1 := by
  have hx64 : ∀ x ∈ xs, x < 2 ^ 64 := fun x h => by have := hx x h; omega
  have hr : ∀ q ∈ rowsOf xs ls, ∀ x ∈ q, Lit N x := fun q hq x hx => by
    unfold rowsOf at hq
    obtain ⟨p, _, rfl⟩ := List.mem_map.1 hq
    exact hlit x (qs_mem hx)
  have hr8 : ∀ q ∈ rowsOf xs ls, q.length ≤ 8 := fun q hq => by
    unfold rowsOf at hq
    obtain ⟨p, _, rfl⟩ := List.mem_map.1 hq
    have := qs_len xs ls p
    omega
  have hg : hgt xs ≤ 41 := hgt_bound 41 fun y hy => Lib.bitLen_le y 41 (by omega) (by have := hx y hy; omega)
  obtain ⟨A, i1, i2, i3, i4, i5⟩ := addUp_sizes _ _ _ t ht
  obtain ⟨j1, j2, j3, j4⟩ := addUp_lits _ _ _ t ht hN hr (fun x hx => absurd hx (by simp))
  obtain ⟨k1, k2⟩ := addUp_short _ _ _ t ht 4 hr8 (by simp) (fun _ => Nat.le_refl _) (fun _ => by simp)
  rw [rowsOf_len] at k1
  refine ⟨j1, by omega, i4 (by omega), by omega, by omega, j2, j4, fun a ha => ?_⟩
  obtain ⟨b, m1, m2, m3, m4⟩ := addUp_told _ _ _ t ht hN hr (fun x hx => absurd hx (by simp)) a [] ha (fun l hl => absurd hl (by simp))
  rw [List.nil_append] at m2
  refine ⟨a ++ b, by rw [List.length_append]; omega, by rw [show t.2.2 - N = b.length by omega]; exact m2, m3, ?_, b, rfl⟩
  rw [m4, rows_sm _ _ _ hx64, ct_nil, Nat.add_zero]
theorem Sat.all {b : List Bool} {cl : List (List Int)} (h : Sat b cl) : (cl.all fun l => l.any (tv b)) = true := List.all_eq_true.2 fun l hl => h l hl
theorem OkS.few {xs ls : List Int} {next : Int} (h : OkS xs ls next) : (∀ x ∈ xs.map Int.toNat, x ≤ 1099511627776) ∧ ∀ y ∈ ls, Lit next.toNat y := by
  obtain ⟨h1, h2, h3, h4⟩ := h
  refine ⟨fun x hx => ?_, fun y hy => ?_⟩
  · obtain ⟨z, hz, rfl⟩ := List.mem_map.1 hx
    obtain ⟨j, hj, rfl⟩ := List.mem_iff_getElem.1 hz
    have := (h4 j (by omega)).1.2
    rw [List.getElem?_eq_getElem hj, Option.getD_some] at this
    omega
  · obtain ⟨j, hj, rfl⟩ := List.mem_iff_getElem.1 hy
    have := (h4 j hj).2
    rw [List.getElem?_eq_getElem hj, Option.getD_some] at this
    exact this
/-- Sum's answer where it answers. -/
theorem Sum_some {n c1 c2 N : Nat} {A1 A2 : Option Addr} {xs ls : List Int} {t : List Int × List (List Int) × Nat} (ho : OkS xs ls (N : Int)) (ht : addUp (rowsOf (xs.map Int.toNat) ls) [] N = some t) (hl1 : xs.length = n) (hl2 : ls.length = n) (hn : n ≤ 4096)
    (W : World) (q1 : RdI W.heap.size W A1 xs) (q2 : RdI W.heap.size W A2 ls) : Calls Try.prog 13 #[.slice A1 n c1, .slice A2 n c2, .int .i64 (N : Int)] W (SumRes W t.1 t.2.1 t.2.2 0) :=
  (Sum_ok _ n c1 c2 N A1 A2 xs ls W q1 q2 (Nat.le_refl _) hl1 hl2 hn ho).mono fun e w' hs => by
    unfold Summed at hs
    rwa [Int.toNat_natCast, ht] at hs
theorem Sum_none {n c1 c2 N : Nat} {A1 A2 : Option Addr} {xs ls : List Int} (ho : OkS xs ls (N : Int)) (ht : addUp (rowsOf (xs.map Int.toNat) ls) [] N = none) (hl1 : xs.length = n) (hl2 : ls.length = n) (hn : n ≤ 4096)
    (W : World) (q1 : RdI W.heap.size W A1 xs) (q2 : RdI W.heap.size W A2 ls) : Calls Try.prog 13 #[.slice A1 n c1, .slice A2 n c2, .int .i64 (N : Int)] W (SumRes W [] [] 0 2) :=
  (Sum_ok _ n c1 c2 N A1 A2 xs ls W q1 q2 (Nat.le_refl _) hl1 hl2 hn ho).mono fun e w' hs => by
    unfold Summed at hs
    rwa [Int.toNat_natCast, ht] at hs
end Go.Proofs.Ytpeklcbjhkchlaa
