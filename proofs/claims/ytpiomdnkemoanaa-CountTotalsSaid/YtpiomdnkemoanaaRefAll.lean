/- What Least answers for all arguments, and the reference with it. -/
import Derived.Test.YtpiomdnkemoanaaRefLeast
namespace Go.Proofs.Ytpiomdnkemoanaa
open Go.RowKit

/-- Clauses, next variable and error of Least. -/
def lsOf (n : Nat) (zs : List Int) (k next : Int) : List (List Int) × Nat × Int :=
  if next < 1 ∨ 65537 < next ∨ 4096 < n then ([], 0, 1)
  else if Tot.dist next [] zs = false then ([], 0, 140)
  else if k ≤ 0 then ([], next.toNat, 0)
  else if (n : Int) < k then ([[]], next.toNat, 0)
  else if 65537 < next.toNat + regs k.toNat n ∨ 65536 + n < 2 * regs k.toNat n + 1 then ([], 0, 2)
  else (ctr zs k.toNat next.toNat, next.toNat + regs k.toNat n, 0)
/-- The clauses are at most so many. -/
theorem lsOf_len {n : Nat} {zs : List Int} (hl : zs.length = n) (k next : Int) : (lsOf n zs k next).1.length ≤ 65536 := by
  unfold lsOf
  split
  · simp
  · split
    · simp
    · split
      · simp
      · split
        · simp
        · split
          · simp
          · rename_i h1 h2 h3 h4 h5
            have hlen := crows_length zs k.toNat next.toNat (by omega) n
            unfold ctr
            rw [hl, List.length_append]
            simp only [List.length_singleton]
            omega
theorem results14' {w : World} {cl : List (List Int)} {a : Nat} {E : Int} {tm : Array Value} {W : World} (h : LsRes w cl a E (.returned (.tuple #[tm[6]?.getD undef, tm[7]?.getD undef, tm[8]?.getD undef])) W) :
    bodyPost Try.prog Try.f14 (LsRes w cl a E) .ret { tmps := tm, defers := [] } W := bodyPost_ret (results14 tm W) rfl h
theorem ls_nil14 {w W : World} {a : Nat} {E : Int} {tm : Array Value} (hb : Below w.heap.size w W) (h6 : tm[6]?.getD undef = .slice Option.none 0 0) (h7 : tm[7]?.getD undef = .int .i64 (a : Int)) (h8 : tm[8]?.getD undef = .int .i64 E) :
    bodyPost Try.prog Try.f14 (LsRes w [] a E) .ret { tmps := tm, defers := [] } W := by
  refine results14' ?_
  rw [h6, h7, h8]
  exact ⟨Option.none, 0, rfl, fun q => absurd q (by simp), hb, fun j q => absurd q (by simp)⟩

theorem lits_bad (A : Option Addr) (n c : Nat) (next : Int) (w : World) (h : next < 1 ∨ 65537 < next ∨ 4096 < n) :
    Calls Try.prog 29 #[.slice A n c, .int .i64 next] w fun e w' => e = .returned (.int .i64 1) ∧ Below w.heap.size w w' := by
  by_cases h1 : next < 1
  · clear h
    go_enter Try.func29, Try.ntmps29
    go_wp2_with fail
    go_ret
    exact ⟨rfl, Below.refl _ _⟩
  · by_cases h2 : 65537 < next
    · clear h h1
      go_enter Try.func29, Try.ntmps29
      go_wp2_with fail
      go_ret
      exact ⟨rfl, Below.refl _ _⟩
    · have h3 : 4096 < n := by omega
      have h1' : 1 ≤ next := by omega
      have h2' : next ≤ 65537 := by omega
      clear h h1 h2
      go_enter Try.func29, Try.ntmps29
      go_wp2_with fail
      go_ret
      exact ⟨rfl, Below.refl _ _⟩

theorem Ref_err (A : Option Addr) (n c : Nat) (k next E : Int) (w : World) (hE : E ≠ 0) (hC : Calls Try.prog 29 #[.slice A n c, .int .i64 next] w fun e w' => e = .returned (.int .i64 E) ∧ Below w.heap.size w w') :
    Calls Try.prog 14 #[.slice A n c, .int .i64 k, .int .i64 next] w (LsRes w [] 0 E) := by
  have hp := fun tm W hb => ls_nil14 (a := 0) (E := E) (tm := tm) (w := w) (W := W) hb
  have Hp := Lib.hid hp
  have hC := Lib.hid hC
  have d0 : (E != 0) = true := by simpa using hE
  clear hp
  go_enter Try.func14, Try.ntmps14
  go_wp2_with fail
  refine hC.out.mono ?_
  rintro e w1 ⟨rfl, hb⟩
  go_wp2_with fail
  refine Hp.out _ _ hb ?_ ?_ ?_ <;> rfl
section
variable (A : Option Addr) (n c m : Nat) (w : World) (hC : Calls Try.prog 29 #[.slice A n c, .int .i64 (m : Int)] w fun e w' => e = .returned (.int .i64 0) ∧ Below w.heap.size w w')
include hC
theorem Ref_low (k : Int) (hk : k ≤ 0) : Calls Try.prog 14 #[.slice A n c, .int .i64 k, .int .i64 (m : Int)] w (LsRes w [] m 0) := by
  have hp := fun tm W hb => ls_nil14 (a := m) (E := 0) (tm := tm) (w := w) (W := W) hb
  have Hp := Lib.hid hp
  have hC := Lib.hid hC
  clear hp
  go_enter Try.func14, Try.ntmps14
  go_wp2_with fail
  refine hC.out.mono ?_
  rintro e w1 ⟨rfl, hb⟩
  go_wp2_with fail
  refine Hp.out _ _ hb ?_ ?_ ?_ <;> rfl
theorem Ref_high (k : Int) (hk : (n : Int) < k) (hk0 : 1 ≤ k) : Calls Try.prog 14 #[.slice A n c, .int .i64 k, .int .i64 (m : Int)] w (LsRes w [[]] m 0) := by
  have hC := Lib.hid hC
  go_enter Try.func14, Try.ntmps14
  go_wp2_with fail
  refine hC.out.mono ?_
  rintro e w1 ⟨rfl, hb⟩
  go_wp2_with fail
  have hb2 := (hb.alloc hb.size (.cells #[] 3)).alloc (by have := hb.size; simp; omega) (.cells #[.slice (some ⟨w1.heap.size, 0, none⟩) 0 0] 22)
  have hcell : ((w1.alloc (.cells #[] 3)).alloc (.cells #[.slice (some ⟨w1.heap.size, 0, none⟩) 0 0] 22)).cell? ⟨w1.heap.size + 1, 0, none⟩ = some (.slice (some ⟨w1.heap.size, 0, none⟩) 0 0) := by
    have := cell_of_row ((w1.alloc (.cells #[] 3)).alloc (.cells #[.slice (some ⟨w1.heap.size, 0, none⟩) 0 0] 22)) (w1.alloc (.cells #[] 3)).heap.size 0 #[.slice (some ⟨w1.heap.size, 0, none⟩) 0 0] 22 (0, 0) (heap_alloc_new _ _)
    rw [World.size_alloc] at this
    rw [this]; rfl
  refine results14' ⟨some ⟨w1.heap.size + 1, 0, none⟩, 1, rfl, fun _ => ⟨w1.heap.size + 1, 0, rfl, by simp, fun j hj => ?_⟩, hb2, fun j hj => ?_⟩
  · obtain rfl : j = 0 := by simp at hj; omega
    exact ⟨_, 0, hcell, RdI.nil _ _ _⟩
  · obtain rfl : j = 0 := by simp at hj; omega
    exact Nat.zero_le _
end
set_option maxRecDepth 30000 in
set_option maxHeartbeats 4000000 in
theorem Ref_bound (A : Option Addr) (n c m K : Nat) (w : World) (hn : n ≤ 4096) (h1 : 1 ≤ m) (h2 : m ≤ 65537) (hK1 : 1 ≤ K) (hK2 : K ≤ n)
    (hC : Calls Try.prog 29 #[.slice A n c, .int .i64 (m : Int)] w fun e w' => e = .returned (.int .i64 0) ∧ Below w.heap.size w w') (hb : 65537 < m + regs K n) : Calls Try.prog 14 #[.slice A n c, .int .i64 (K : Int), .int .i64 (m : Int)] w (LsRes w [] 0 2) := by
  have hp := fun tm W hb => ls_nil14 (a := 0) (E := 2) (tm := tm) (w := w) (W := W) hb
  have Hp := Lib.hid hp
  have hC := Lib.hid hC
  have d0 : decide ((K : Int) ≤ 0) = false := decide_eq_false (by omega)
  have dK : decide (K = 0) = false := decide_eq_false (by omega)
  have d0' : decide ((n : Int) < (K : Int)) = false := decide_eq_false (by omega)
  have d0'' : decide (n < K) = false := decide_eq_false (by omega)
  have Hb := Lib.hid hb
  clear hb hp
  go_enter Try.func14, Try.ntmps14
  go_wp2_with fail
  refine hC.out.mono ?_
  rintro e w1 ⟨rfl, hb⟩
  go_wp2_with fail
  go_loopw [11, 12] (fun v i wr => ∃ r : Nat, r ≤ n ∧ v = .int .i64 (((m + regs K r : Nat) : Int) - 1) ∧ i = .int .i64 ((r + 1 : Nat) : Int) ∧ w1 = wr) (fun _ i _ => n + 1 - (intOf i).toNat)
  case atStart => exact ⟨0, by omega, rfl, rfl, rfl⟩
  case round =>
    obtain ⟨r, hrn, rfl, rfl, rfl⟩ := hrel
    have hb0 := regs_bound K r (by omega)
    have hb2 : m + regs K r ≤ 16842753 := by omega
    by_cases hlt : r < n
    · obtain ⟨q, hq⟩ : ∃ q, r + 1 = q := ⟨_, rfl⟩
      rw [hq]
      have d1 : decide ((q : Int) ≤ (n : Int)) = true := decide_eq_true (by omega)
      have d1' : decide (q ≤ n) = true := decide_eq_true (by omega)
      obtain ⟨u, hu⟩ : ∃ u, min q K = u := ⟨_, rfl⟩
      have m1 : (if K < q then (K : Int) else (q : Int)) = (u : Int) := by split <;> omega
      obtain ⟨t, ht⟩ : ∃ t, m + regs K r = t := ⟨_, rfl⟩
      have hnext : m + regs K q = t + u := by rw [← hq, regs, hq, hu]; omega
      have hu2 : u ≤ 4096 := by omega
      have v1 : (t : Int) - 1 + (u : Int) = ((t + u : Nat) : Int) - 1 := by omega
      rw [ht] at hb2 ⊢
      have Hn := Lib.hid hnext
      have hqn : q ≤ n := by omega
      have ht1 : 1 ≤ t := by omega
      clear hnext hu hq ht hb0
      go_wp2_with fail
      go_roundw
      case rel => exact ⟨q, hqn, by rw [Hn.out]; first | rfl | (congr 1; omega) | go_num, by go_num, trivial⟩
      case measure => simp [intOf]; omega
    · obtain rfl : r = n := by omega
      obtain ⟨la, hla⟩ : ∃ t, m + regs K r = t := ⟨_, rfl⟩
      obtain ⟨rp, hrp⟩ : ∃ t, r + 1 = t := ⟨_, rfl⟩
      have hlb := Hb.out
      rw [hla] at hb2 hlb ⊢
      rw [hrp]
      have d1 : decide ((rp : Int) ≤ (r : Int)) = false := decide_eq_false (by omega)
      have d1' : decide (rp ≤ r) = false := decide_eq_false (by omega)
      have d2 : decide ((65536 : Int) < (la : Int) - 1) = true := decide_eq_true (by omega)
      have hla1 : 1 ≤ la := by omega
      clear hla hrp hb0 Hb
      go_wp2_with fail
      refine Hp.out _ _ hb ?_ ?_ ?_ <;> rfl
section
variable (A : Option Addr) (n c : Nat) (k next : Int) (zs : List Int) (w : World) (hr : RdI w.heap.size w A zs) (hl : zs.length = n)
include hr hl
theorem Least_all : Calls Try.prog 13 #[.slice A n c, .int .i64 k, .int .i64 next] w (LsRes w (lsOf n zs k next).1 (lsOf n zs k next).2.1 (lsOf n zs k next).2.2) := by
  by_cases ha : next < 1 ∨ 65537 < next ∨ 4096 < n
  · rw [show lsOf n zs k next = ([], 0, 1) by unfold lsOf; rw [if_pos ha]]
    exact Least_err A n c k next 1 w (by omega) (check_bad A n c next w ha)
  · obtain ⟨m, rfl⟩ := Int.eq_ofNat_of_zero_le (show 0 ≤ next by omega)
    cases hd : Tot.dist (m : Int) [] zs with
    | false =>
      rw [show lsOf n zs k m = ([], 0, 140) by unfold lsOf; rw [if_neg ha, if_pos hd]]
      exact Least_err A n c k _ 140 w (by omega) (check_any w.heap.size A n c zs _ w hr (Nat.le_refl _) hl (by omega) (by omega) (by omega) 140 (by rw [hd]; rfl))
    | true =>
      have hCk := check_any w.heap.size A n c zs (m : Int) w hr (Nat.le_refl _) hl (by omega) (by omega) (by omega) 0 (by rw [hd]; rfl)
      have hlit := dist_bound zs [] hd
      have hd' : ¬ Tot.dist (m : Int) [] zs = false := by rw [hd]; simp
      by_cases hk0 : k ≤ 0
      · rw [show lsOf n zs k m = ([], m, 0) by unfold lsOf; rw [if_neg ha, if_neg hd', if_pos hk0]; rfl]
        exact Least_low A n c m w hCk k hk0
      · by_cases hkn : (n : Int) < k
        · rw [show lsOf n zs k m = ([[]], m, 0) by unfold lsOf; rw [if_neg ha, if_neg hd', if_neg hk0, if_pos hkn]; rfl]
          exact Least_high A n c m w hCk k hkn (by omega)
        · obtain ⟨K, rfl⟩ := Int.eq_ofNat_of_zero_le (show 0 ≤ k by omega)
          by_cases hb : 65537 < m + regs K n ∨ 65536 + n < 2 * regs K n + 1
          · rw [show lsOf n zs K m = ([], 0, 2) by unfold lsOf; rw [if_neg ha, if_neg hd', if_neg hk0, if_neg hkn, Int.toNat_natCast, Int.toNat_natCast, if_pos hb]]
            exact Least_bound A n c m K w (by omega) (by omega) (by omega) (by omega) (by omega) hCk hb
          · rw [show lsOf n zs K m = (ctr zs K m, m + regs K n, 0) by unfold lsOf; rw [if_neg ha, if_neg hd', if_neg hk0, if_neg hkn, Int.toNat_natCast, Int.toNat_natCast, if_neg hb]]
            exact Least_ok A n c m K zs w hr hl (by omega) (by omega) (by omega) (by omega) (by omega) hCk (fun x hx => by have := hlit x hx; exact ⟨by have := this.2.1; omega, by have := this.2.2; omega⟩) (by omega) (by omega)
theorem Ref_all (hn : n ≤ 300 ∨ 4096 < n) : Calls Try.prog 14 #[.slice A n c, .int .i64 k, .int .i64 next] w (LsRes w (lsOf n zs k next).1 (lsOf n zs k next).2.1 (lsOf n zs k next).2.2) := by
  by_cases ha : next < 1 ∨ 65537 < next ∨ 4096 < n
  · rw [show lsOf n zs k next = ([], 0, 1) by unfold lsOf; rw [if_pos ha]]
    exact Ref_err A n c k next 1 w (by omega) (lits_bad A n c next w ha)
  · obtain ⟨m, rfl⟩ := Int.eq_ofNat_of_zero_le (show 0 ≤ next by omega)
    cases hd : Tot.dist (m : Int) [] zs with
    | false =>
      rw [show lsOf n zs k m = ([], 0, 140) by unfold lsOf; rw [if_neg ha, if_pos hd]]
      exact Ref_err A n c k _ 140 w (by omega) (Lits_any w.heap.size A n c m zs w hr (Nat.le_refl _) hl (by omega) (by omega) (by omega) 140 (by rw [hd]; rfl))
    | true =>
      have hCk := Lits_any w.heap.size A n c m zs w hr (Nat.le_refl _) hl (by omega) (by omega) (by omega) 0 (by rw [hd]; rfl)
      have hlit := dist_bound zs [] hd
      have hd' : ¬ Tot.dist (m : Int) [] zs = false := by rw [hd]; simp
      by_cases hk0 : k ≤ 0
      · rw [show lsOf n zs k m = ([], m, 0) by unfold lsOf; rw [if_neg ha, if_neg hd', if_pos hk0]; rfl]
        exact Ref_low A n c m w hCk k hk0
      · by_cases hkn : (n : Int) < k
        · rw [show lsOf n zs k m = ([[]], m, 0) by unfold lsOf; rw [if_neg ha, if_neg hd', if_neg hk0, if_pos hkn]; rfl]
          exact Ref_high A n c m w hCk k hkn (by omega)
        · obtain ⟨K, rfl⟩ := Int.eq_ofNat_of_zero_le (show 0 ≤ k by omega)
          have hlen := crows_length zs K m (by omega) n
          have hcl : (ctr zs K m).length = (crows zs K m n).length + 1 := by unfold ctr; rw [hl, List.length_append]; rfl
          by_cases hb : 65537 < m + regs K n ∨ 65536 + n < 2 * regs K n + 1
          · rw [show lsOf n zs K m = ([], 0, 2) by unfold lsOf; rw [if_neg ha, if_neg hd', if_neg hk0, if_neg hkn, Int.toNat_natCast, Int.toNat_natCast, if_pos hb]]
            by_cases hb1 : 65537 < m + regs K n
            · exact Ref_bound A n c m K w (by omega) (by omega) (by omega) (by omega) (by omega) hCk hb1
            · exact ref_ok w.heap.size A n c m K zs w hr (Nat.le_refl _) hl (by omega) hlit (by omega) (by omega) (by omega) (by omega) (by omega) hCk _ (fun _ e w' q => q) (fun q => absurd q (by omega))
          · rw [show lsOf n zs K m = (ctr zs K m, m + regs K n, 0) by unfold lsOf; rw [if_neg ha, if_neg hd', if_neg hk0, if_neg hkn, Int.toNat_natCast, Int.toNat_natCast, if_neg hb]]
            exact ref_ok w.heap.size A n c m K zs w hr (Nat.le_refl _) hl (by omega) hlit (by omega) (by omega) (by omega) (by omega) (by omega) hCk _ (fun q => absurd q (by omega)) (fun _ e w' q => q)
end
end Go.Proofs.Ytpiomdnkemoanaa
