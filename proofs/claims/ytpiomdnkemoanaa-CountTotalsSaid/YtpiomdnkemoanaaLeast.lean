/- The walk of Least. -/
import Derived.Test.YtpiomdnkemoanaaCtr
import Derived.Test.YtpiomdnkemoanaaCheck
namespace Go.Proofs.Ytpiomdnkemoanaa
open Go.RowKit

/-- How many registers the first r rows have. -/
def regs (k : Nat) : Nat → Nat
  | 0 => 0
  | r + 1 => regs k r + min (r + 1) k
theorem cst_regs (k next : Nat) : ∀ r, (cst k next r).1 = next + regs k r
  | 0 => rfl
  | r + 1 => by
    show (cst k next r).1 + min (r + 1) k = next + (regs k r + min (r + 1) k)
    rw [cst_regs k next r]; omega
theorem crow_length (x : Int) (s b ls : Nat) : ∀ i, (crow x s b ls (i + 1)).length = 2 * i + 1
  | 0 => by rw [crow, crow, if_neg (by omega)]; rfl
  | i + 1 => by
    rw [crow, List.length_append, crow_length x s b ls i, if_pos (by omega)]
    simp; omega
theorem crows_length (l : List Int) (k next : Nat) (hk : 1 ≤ k) : ∀ r, (crows l k next r).length + r = 2 * regs k r
  | 0 => rfl
  | r + 1 => by
    have h := crows_length l k next hk r
    obtain ⟨i, hi⟩ : ∃ i, min (r + 1) k = i + 1 := ⟨min (r + 1) k - 1, by omega⟩
    rw [crows, regs, List.length_append, hi, crow_length]
    omega
theorem regs_lo (k : Nat) : ∀ r, r ≤ k → 2 * regs k r = r * (r + 1)
  | 0, _ => rfl
  | r + 1, h => by
    have ih := regs_lo k r (by omega)
    rw [regs, show min (r + 1) k = r + 1 by omega, Nat.mul_add, ih]
    rw [show (r + 1) * (r + 1 + 1) = r * (r + 1) + 2 * (r + 1) by rw [Nat.add_mul, Nat.mul_add r (r + 1) 1, Nat.one_mul, Nat.mul_one]; omega]
theorem regs_hi (k : Nat) : ∀ d, regs k (k + d) = regs k k + d * k
  | 0 => by simp
  | d + 1 => by
    rw [show k + (d + 1) = (k + d) + 1 by omega, regs, regs_hi k d, show min (k + d + 1) k = k by omega, Nat.add_mul]; omega
theorem regs_eq (k n : Nat) (h : k ≤ n) : regs k n = k * (k + 1) / 2 + (n - k) * k := by
  have h1 := regs_hi k (n - k)
  rw [show k + (n - k) = n by omega] at h1
  have h2 := regs_lo k k (Nat.le_refl _)
  rw [h1]
  generalize k * (k + 1) = P at *
  omega

/-- Clauses, the next variable, the error. -/
def LsRes (w : World) (cl : List (List Int)) (a : Nat) (E : Int) (e : Ending) (w' : World) : Prop :=
  ∃ A c, e = .returned (.tuple #[.slice A cl.length c, .int .i64 (a : Int), .int .i64 E]) ∧ RdR w'.heap.size w' A cl ∧ Below w.heap.size w w' ∧ ∀ j, j < cl.length → (cl[j]?.getD []).length ≤ maxLen
theorem results13 (tm : Array Value) (w : World) : (results Try.f13 tm).run Try.prog w = .ok (.tuple #[tm[6]?.getD undef, tm[7]?.getD undef, tm[8]?.getD undef]) w := by
  have hr : Try.f13.results = #[.tmp 6, .tmp 7, .tmp 8] := rfl
  simp only [results, hr]
  simp [go_sem]
theorem ls_post {w W : World} {cl : List (List Int)} {a : Nat} {E : Int} {tm : Array Value} (h : LsRes w cl a E (.returned (.tuple #[tm[6]?.getD undef, tm[7]?.getD undef, tm[8]?.getD undef])) W) :
    bodyPost Try.prog Try.f13 (LsRes w cl a E) .ret { tmps := tm, defers := [] } W := bodyPost_ret (results13 tm W) rfl h
theorem ls_nil {w W : World} {a : Nat} {E : Int} {tm : Array Value} (hb : Below w.heap.size w W) (h6 : tm[6]?.getD undef = .slice Option.none 0 0) (h7 : tm[7]?.getD undef = .int .i64 (a : Int)) (h8 : tm[8]?.getD undef = .int .i64 E) :
    bodyPost Try.prog Try.f13 (LsRes w [] a E) .ret { tmps := tm, defers := [] } W := by
  refine ls_post ?_
  rw [h6, h7, h8]
  exact ⟨Option.none, 0, rfl, fun q => absurd q (by simp), hb, fun j q => absurd q (by simp)⟩

theorem check_bad (A : Option Addr) (n c : Nat) (next : Int) (w : World) (h : next < 1 ∨ 65537 < next ∨ 4096 < n) :
    Calls Try.prog 27 #[.slice A n c, .int .i64 next] w fun e w' => e = .returned (.int .i64 1) ∧ Below w.heap.size w w' := by
  by_cases h1 : next < 1
  · clear h
    go_enter Try.func27, Try.ntmps27
    go_wp2
    go_ret
    exact ⟨rfl, Below.refl _ _⟩
  · by_cases h2 : 65537 < next
    · clear h h1
      go_enter Try.func27, Try.ntmps27
      go_wp2
      go_ret
      exact ⟨rfl, Below.refl _ _⟩
    · have h3 : 4096 < n := by omega
      have h1' : 1 ≤ next := by omega
      have h2' : next ≤ 65537 := by omega
      clear h h1 h2
      go_enter Try.func27, Try.ntmps27
      go_wp2
      go_ret
      exact ⟨rfl, Below.refl _ _⟩

theorem Least_err (A : Option Addr) (n c : Nat) (k next E : Int) (w : World) (hE : E ≠ 0) (hC : Calls Try.prog 27 #[.slice A n c, .int .i64 next] w fun e w' => e = .returned (.int .i64 E) ∧ Below w.heap.size w w') :
    Calls Try.prog 13 #[.slice A n c, .int .i64 k, .int .i64 next] w (LsRes w [] 0 E) := by
  have hp := fun tm W hb => ls_nil (a := 0) (E := E) (tm := tm) (w := w) (W := W) hb
  have Hp := Lib.hid hp
  have hC := Lib.hid hC
  have d0 : (E != 0) = true := by simpa using hE
  clear hp
  go_enter Try.func13, Try.ntmps13
  go_wp2_with fail
  refine hC.out.mono ?_
  rintro e w1 ⟨rfl, hb⟩
  go_wp2_with fail
  refine Hp.out _ _ hb ?_ ?_ ?_ <;> rfl
section
variable (A : Option Addr) (n c m : Nat) (w : World) (hC : Calls Try.prog 27 #[.slice A n c, .int .i64 (m : Int)] w fun e w' => e = .returned (.int .i64 0) ∧ Below w.heap.size w w')
include hC
theorem Least_low (k : Int) (hk : k ≤ 0) : Calls Try.prog 13 #[.slice A n c, .int .i64 k, .int .i64 (m : Int)] w (LsRes w [] m 0) := by
  have hp := fun tm W hb => ls_nil (a := m) (E := 0) (tm := tm) (w := w) (W := W) hb
  have Hp := Lib.hid hp
  have hC := Lib.hid hC
  clear hp
  go_enter Try.func13, Try.ntmps13
  go_wp2_with fail
  refine hC.out.mono ?_
  rintro e w1 ⟨rfl, hb⟩
  go_wp2_with fail
  refine Hp.out _ _ hb ?_ ?_ ?_ <;> rfl
theorem Least_high (k : Int) (hk : (n : Int) < k) (hk0 : 1 ≤ k) : Calls Try.prog 13 #[.slice A n c, .int .i64 k, .int .i64 (m : Int)] w (LsRes w [[]] m 0) := by
  have hC := Lib.hid hC
  go_enter Try.func13, Try.ntmps13
  go_wp2_with fail
  refine hC.out.mono ?_
  rintro e w1 ⟨rfl, hb⟩
  go_wp2_with fail
  have hb2 := (hb.alloc hb.size (.cells #[] 3)).alloc (by have := hb.size; simp; omega) (.cells #[.slice (some ⟨w1.heap.size, 0, none⟩) 0 0] 22)
  have hcell : ((w1.alloc (.cells #[] 3)).alloc (.cells #[.slice (some ⟨w1.heap.size, 0, none⟩) 0 0] 22)).cell? ⟨w1.heap.size + 1, 0, none⟩ = some (.slice (some ⟨w1.heap.size, 0, none⟩) 0 0) := by
    have := cell_of_row ((w1.alloc (.cells #[] 3)).alloc (.cells #[.slice (some ⟨w1.heap.size, 0, none⟩) 0 0] 22)) (w1.alloc (.cells #[] 3)).heap.size 0 #[.slice (some ⟨w1.heap.size, 0, none⟩) 0 0] 22 (0, 0) (heap_alloc_new _ _)
    rw [World.size_alloc] at this
    rw [this]; rfl
  refine ls_post ⟨some ⟨w1.heap.size + 1, 0, none⟩, 1, rfl, fun _ => ⟨w1.heap.size + 1, 0, rfl, by simp, fun j hj => ?_⟩, hb2, fun j hj => ?_⟩
  · obtain rfl : j = 0 := by simp at hj; omega
    exact ⟨_, 0, hcell, RdI.nil _ _ _⟩
  · obtain rfl : j = 0 := by simp at hj; omega
    exact Nat.zero_le _
end

theorem Least_facts (n K : Nat) (hn : n ≤ 4096) (hK2 : K ≤ n) : ∃ P U H R : Nat, regs K n = R ∧ (K : Int) * ((K : Int) + 1) = (P : Int) ∧ ((n : Int) - (K : Int)) * (K : Int) = (U : Int) ∧ (P : Int) / 2 = (H : Int) ∧ R = H + U ∧ P ≤ 16781312 ∧ U ≤ 16777216 := by
  have e := regs_eq K n hK2
  have p1 := Nat.mul_le_mul (show K ≤ 4096 by omega) (show K + 1 ≤ 4097 by omega)
  have p2 := Nat.mul_le_mul (show n - K ≤ 4096 by omega) (show K ≤ 4096 by omega)
  refine ⟨K * (K + 1), (n - K) * K, K * (K + 1) / 2, regs K n, rfl, by rw [Int.natCast_mul]; rfl, ?_, by omega, e, p1, p2⟩
  rw [Int.natCast_mul, Int.natCast_sub hK2]
set_option maxHeartbeats 2000000 in
theorem Least_bound (A : Option Addr) (n c m K : Nat) (w : World) (hn : n ≤ 4096) (h1 : 1 ≤ m) (h2 : m ≤ 65537) (hK1 : 1 ≤ K) (hK2 : K ≤ n)
    (hC : Calls Try.prog 27 #[.slice A n c, .int .i64 (m : Int)] w fun e w' => e = .returned (.int .i64 0) ∧ Below w.heap.size w w') (hb : 65537 < m + regs K n ∨ 65536 + n < 2 * regs K n + 1) : Calls Try.prog 13 #[.slice A n c, .int .i64 (K : Int), .int .i64 (m : Int)] w (LsRes w [] 0 2) := by
  obtain ⟨P, U, H, R, e1, e2, e3, e4, e5, e6, e7⟩ := Least_facts n K hn hK2
  have hp := fun tm W hb => ls_nil (a := 0) (E := 2) (tm := tm) (w := w) (W := W) hb
  have Hp := Lib.hid hp
  have hC := Lib.hid hC
  rw [e1] at hb
  have e8 : (H : Int) + (U : Int) = (R : Int) := by omega
  have d0 : decide ((K : Int) ≤ 0) = false := decide_eq_false (by omega)
  have d0' : decide ((n : Int) < (K : Int)) = false := decide_eq_false (by omega)
  have d0'' : decide (n < K) = false := decide_eq_false (by omega)
  have hRb : R ≤ 33558528 := by omega
  clear hp e1 e5
  by_cases q : 65537 < m + R
  · have d1 : decide ((65537 : Int) < (m : Int) + (R : Int)) = true := decide_eq_true (by omega)
    clear hb
    go_enter Try.func13, Try.ntmps13
    go_wp2_with fail
    refine hC.out.mono ?_
    rintro e w1 ⟨rfl, hb⟩
    go_wp2_with fail
    refine Hp.out _ _ hb ?_ ?_ ?_ <;> rfl
  · have d1 : decide ((65537 : Int) < (m : Int) + (R : Int)) = false := decide_eq_false (by omega)
    have d2 : decide ((65536 : Int) < 2 * (R : Int) - (n : Int) + 1) = true := decide_eq_true (by omega)
    clear hb
    go_enter Try.func13, Try.ntmps13
    go_wp2_with fail
    refine hC.out.mono ?_
    rintro e w1 ⟨rfl, hb⟩
    go_wp2_with fail
    refine Hp.out _ _ hb ?_ ?_ ?_ <;> rfl
section
variable (A : Option Addr) (n c m K : Nat) (zs : List Int) (w : World) (hr : RdI w.heap.size w A zs) (hl : zs.length = n) (hn : n ≤ 4096) (h1 : 1 ≤ m) (h2 : m ≤ 65537) (hK1 : 1 ≤ K) (hK2 : K ≤ n)
  (hC : Calls Try.prog 27 #[.slice A n c, .int .i64 (m : Int)] w fun e w' => e = .returned (.int .i64 0) ∧ Below w.heap.size w w')
include hr hl hn h1 h2 hK1 hK2 hC

set_option maxHeartbeats 2000000 in
theorem Least_ok (hz : ∀ x ∈ zs, -65537 ≤ x ∧ x ≤ 65537) (hb1 : m + regs K n ≤ 65537) (hb2 : 2 * regs K n + 1 ≤ 65536 + n) : Calls Try.prog 13 #[.slice A n c, .int .i64 (K : Int), .int .i64 (m : Int)] w (LsRes w (ctr zs K m) (m + regs K n) 0) := by
  obtain ⟨P, U, H, R, e1, e2, e3, e4, e5, e6, e7⟩ := Least_facts n K hn hK2
  have hlen := crows_length zs K m hK1 n
  have hcst := cst_regs K m n
  rw [e1] at hb1 hb2 hlen hcst ⊢
  have hX := fun W (hb : Below w.heap.size w W) => Lib.hid (counter_any w.heap.size A n c K m zs W (hr.below hb (Nat.le_refl _)) hb.size hl hn hz h1 (by omega) (by omega) (by omega))
  have hC := Lib.hid hC
  have e8 : (H : Int) + (U : Int) = (R : Int) := by omega
  have d0 : decide ((K : Int) ≤ 0) = false := decide_eq_false (by omega)
  have d0' : decide ((n : Int) < (K : Int)) = false := decide_eq_false (by omega)
  have d0'' : decide (n < K) = false := decide_eq_false (by omega)
  have d1 : decide ((65537 : Int) < (m : Int) + (R : Int)) = false := decide_eq_false (by omega)
  have d2 : decide ((65536 : Int) < 2 * (R : Int) - (n : Int) + 1) = false := decide_eq_false (by omega)
  have hRb : R ≤ 33558528 := by omega
  clear hr hl e1 e5 hlen hcst hz
  go_enter Try.func13, Try.ntmps13
  go_wp2_with fail
  refine hC.out.mono ?_
  rintro e w1 ⟨rfl, hb⟩
  have hX := hX w1 hb
  go_wp2_with fail
  refine hX.out.mono ?_
  rintro e w2 ⟨v, rfl, hcls, hlow⟩
  obtain ⟨A2, c2, rfl, hrr, hlens⟩ := hcls.res
  have Hfin := Lib.hid (And.intro hrr (And.intro (hb.trans (hlow.mono hb.size)) hlens))
  clear hrr hlow hlens hcls hX
  go_wp2_with fail
  refine ls_post ⟨A2, c2, ?_, Hfin.out⟩
  first | rfl | (simp; done)
end
end Go.Proofs.Ytpiomdnkemoanaa
