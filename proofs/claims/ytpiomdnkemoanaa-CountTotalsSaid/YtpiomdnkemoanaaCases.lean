/- What Least answers for few literals, by cases; the head of a slice of clauses. -/
import Derived.Test.YtpiomdnkemoanaaRan
import Derived.Test.YtpiomdnkemoanaaRefAll
namespace Go.Proofs.Ytpiomdnkemoanaa
open Go.RowKit

/-- What LsRes says, and that the length is at most the capacity. -/
def LsCap (w : World) (cl : List (List Int)) (a : Nat) (E : Int) (e : Ending) (w' : World) : Prop :=
  ∃ A c, e = .returned (.tuple #[.slice A cl.length c, .int .i64 (a : Int), .int .i64 E]) ∧ cl.length ≤ c ∧ RdR w'.heap.size w' A cl ∧ Below w.heap.size w w' ∧ ∀ j, j < cl.length → (cl[j]?.getD []).length ≤ maxLen
theorem lsc_post {w W : World} {cl : List (List Int)} {a : Nat} {E : Int} {tm : Array Value} (h : LsCap w cl a E (.returned (.tuple #[tm[6]?.getD undef, tm[7]?.getD undef, tm[8]?.getD undef])) W) :
    bodyPost Try.prog Try.f13 (LsCap w cl a E) .ret { tmps := tm, defers := [] } W := bodyPost_ret (results13 tm W) rfl h
theorem own_cap {w : World} {base e size n : Nat} {A : Option Addr} {m c : Nat} {xs : List Value} (h : w.ownsRow base e size (.slice A m c) n xs) : m ≤ c := by
  rcases h.2 with ⟨h1, h2⟩ | ⟨g, cap, cur, h1, _, _, h2, _⟩
  · injection h1 with _ h3 _; omega
  · injection h1 with _ h3 h4; omega
theorem Cls.resc {w : World} {base : Nat} {v : Value} {cl : List (List Int)} (h : Cls w base v cl) : ∃ A c, v = .slice A cl.length c ∧ cl.length ≤ c ∧ RdR w.heap.size w A cl ∧ ∀ j, j < cl.length → (cl[j]?.getD []).length ≤ maxLen := by
  obtain ⟨A, c, e, h1, h2⟩ := h.res
  subst e
  obtain ⟨vs, ho, _⟩ := h
  exact ⟨A, c, rfl, own_cap ho, h1, h2⟩
section
variable (A : Option Addr) (n c m K : Nat) (zs : List Int) (w : World) (hr : RdI w.heap.size w A zs) (hl : zs.length = n) (hn : n ≤ 4096) (h1 : 1 ≤ m) (h2 : m ≤ 65537) (hK1 : 1 ≤ K) (hK2 : K ≤ n)
  (hC : Calls Try.prog 27 #[.slice A n c, .int .i64 (m : Int)] w fun e w' => e = .returned (.int .i64 0) ∧ Below w.heap.size w w')
include hr hl hn h1 h2 hK1 hK2 hC

set_option maxHeartbeats 2000000 in
theorem Least_okc (hz : ∀ x ∈ zs, -65537 ≤ x ∧ x ≤ 65537) (hb1 : m + regs K n ≤ 65537) (hb2 : 2 * regs K n + 1 ≤ 65536 + n) : Calls Try.prog 13 #[.slice A n c, .int .i64 (K : Int), .int .i64 (m : Int)] w (LsCap w (ctr zs K m) (m + regs K n) 0) := by
  obtain ⟨P, U, H, R, e1, e2, e3, e4, e5, e6, e7⟩ := Least_facts n K hn hK2
  have hlen := crows_length zs K m hK1 n
  have hcst := cst_regs K m n
  rw [e1] at hb1 hb2 hlen hcst ⊢
  have hX := fun W (hb : Below w.heap.size w W) => Lib.hid (counter_any w.heap.size A n c K m zs W (hr.below hb (Nat.le_refl _)) hb.size hl hn hz h1 (by omega) (by omega) (by omega))
  have hC := Lib.hid hC
  have e8 : (H : Int) + (U : Int) = (R : Int) := by omega
  have d0 : decide ((K : Int) ≤ 0) = false := decide_eq_false (by omega)
  have d0' : decide ((n : Int) < (K : Int)) = false := decide_eq_false (by omega)
  have d0'' : decide (n < K) = false := decide_eq_false (by omega)
  have d1 : decide ((65537 : Int) < (m : Int) + (R : Int)) = false := decide_eq_false (by omega)
  have d2 : decide ((65536 : Int) < 2 * (R : Int) - (n : Int) + 1) = false := decide_eq_false (by omega)
  have hRb : R ≤ 33558528 := by omega
  clear hr hl e1 e5 hlen hcst hz
  go_enter Try.func13, Try.ntmps13
  go_wp2_with fail
  refine hC.out.mono ?_
  rintro e w1 ⟨rfl, hb⟩
  have hX := hX w1 hb
  go_wp2_with fail
  refine hX.out.mono ?_
  rintro e w2 ⟨v, rfl, hcls, hlow⟩
  obtain ⟨A2, c2, rfl, hcap, hrr, hlens⟩ := hcls.resc
  have Hfin := Lib.hid (And.intro hcap <| And.intro hrr (And.intro (hb.trans (hlow.mono hb.size)) hlens))
  clear hcap hrr hlow hlens hcls hX
  go_wp2_with fail
  refine lsc_post ⟨A2, c2, ?_, Hfin.out⟩
  first | rfl | (simp; done)
end
theorem elem24 : Try.prog.underlying 24 = some (.slice (Try.prog.elem 24)) := by kernel_rfl
theorem size24 (w : World) : (sizeOf (Try.prog.elem 24)).run Try.prog w = .ok 1 w := by kernel_rfl
theorem run_head24 (w : World) (A : Option Addr) (len cap k : Nat) (hk : k ≤ cap) :
    (Instr.slice 24 (.slice A len cap) none (some (.int .i64 (k : Int))) none).run Try.prog w = .ok (.slice A k cap) w := by
  rw [run_slice_h (P := Try.prog) w 24 A len cap elem24 .i64 (k : Int) (by omega) (by omega), size24]
  have e : (A.map fun x => x.add 0) = A := by cases A <;> simp [Addr.add]
  simp [Result.andThen, sliced, e]
theorem regs_le (k : Nat) : ∀ n, regs k n ≤ n * n
  | 0 => Nat.zero_le _
  | n + 1 => by
    have := regs_le k n
    have e : (n + 1) * (n + 1) = n * n + (2 * n + 1) := by rw [Nat.add_mul, Nat.mul_add n n 1, Nat.one_mul, Nat.mul_one]; omega
    rw [regs, e]; omega
/-- The cases of Least, for few literals. -/
theorem ls_cases {n : Nat} {zs : List Int} (k : Int) (N : Nat) (hn : n ≤ 60) (hN1 : 1 ≤ N) (hN2 : N ≤ 30000) :
    (∃ E : Int, E ≠ 0 ∧ Tot.dist (N : Int) [] zs = false ∧ lsOf n zs k N = ([], 0, E)) ∨
    (Tot.dist (N : Int) [] zs = true ∧ (∀ x ∈ zs, Lit N x) ∧ ((k ≤ 0 ∧ lsOf n zs k N = ([], N, 0)) ∨ ((n : Int) < k ∧ lsOf n zs k N = ([[]], N, 0)) ∨
      ∃ K : Nat, k = (K : Int) ∧ 1 ≤ K ∧ K ≤ n ∧ lsOf n zs k N = (ctr zs K N, N + regs K n, 0))) := by
  have ha : ¬ ((N : Int) < 1 ∨ 65537 < (N : Int) ∨ 4096 < n) := by omega
  cases hd : Tot.dist (N : Int) [] zs with
  | false => exact .inl ⟨140, by omega, rfl, by unfold lsOf; rw [if_neg ha, if_pos hd]⟩
  | true =>
    have hd' : ¬ Tot.dist (N : Int) [] zs = false := by rw [hd]; simp
    refine .inr ⟨rfl, dist_bound zs [] hd, ?_⟩
    by_cases hk0 : k ≤ 0
    · exact .inl ⟨hk0, by unfold lsOf; rw [if_neg ha, if_neg hd', if_pos hk0]; rfl⟩
    · by_cases hkn : (n : Int) < k
      · exact .inr (.inl ⟨hkn, by unfold lsOf; rw [if_neg ha, if_neg hd', if_neg hk0, if_pos hkn]; rfl⟩)
      · obtain ⟨K, rfl⟩ := Int.eq_ofNat_of_zero_le (show 0 ≤ k by omega)
        have hb := regs_le K n
        have hb2 : n * n ≤ 3600 := Nat.mul_le_mul hn hn
        have hb3 : ¬ (65537 < N + regs K n ∨ 65536 + n < 2 * regs K n + 1) := by omega
        exact .inr (.inr ⟨K, rfl, by omega, by omega, by unfold lsOf; rw [if_neg ha, if_neg hd', if_neg hk0, if_neg hkn, Int.toNat_natCast, Int.toNat_natCast, if_neg hb3]⟩)
end Go.Proofs.Ytpiomdnkemoanaa
