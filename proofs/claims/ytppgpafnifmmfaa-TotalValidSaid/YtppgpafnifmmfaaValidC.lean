/- TotalValid where two literals or more are counted. -/
import Derived.Test.YtppgpafnifmmfaaShift
import Derived.Test.YtppgpafnifmmfaaCheck
namespace Go.Proofs.Ytppgpafnifmmfaa
open Go.ChangeShapes Go.WideShapes Go.ChangeAt Go.RowKit

set_option maxRecDepth 30000 in
set_option maxHeartbeats 8000000 in
theorem valid_ok2 (A : Option Addr) (m c N C a : Nat) (most next : Int) (zs outs : List Int) (cl : List (List Int)) (w : World) (hr : RdI w.heap.size w A zs) (hl : zs.length = (m + 2)) (hn : (m + 2) ≤ 40)
    (hT : ∀ W : World, RdI W.heap.size W A zs → Calls Try.prog 11 #[.slice A (m + 2) c, .int .i64 most, .int .i64 next] W (TotOk W outs cl a))
    (h1 : 1 ≤ a) (h2 : a ≤ 65537) (hN : outs.length = N) (hC : cl.length = C) (hN2 : N ≤ (m + 2)) (hC2 : C ≤ 65536)
    (hone : (m + 2) = 1 → ∀ x ∈ outs, x = zs[0]?.getD 0) (hmore : 1 < (m + 2) → ∀ x ∈ outs, next ≤ x ∧ x < (a : Int)) (hgood : ∀ x ∈ cl, Good a x) :
    Calls Try.prog 6 #[.slice A (m + 2) c, .int .i64 most, .int .i64 next] w fun e w' => e = .returned (.bool true) ∧ Below w.heap.size w w' := by
  have Hl := Lib.hid (And.intro hl (And.intro hN hC))
  have Hone := Lib.hid hone
  have Hmore := Lib.hid hmore
  have Hgood := Lib.hid hgood
  clear hl hN hC hone hmore hgood
  go_enter Try.func6, Try.ntmps6
  go_wp2_with fail
  refine (live_any w).mono ?_
  rintro e w1 ⟨rfl, hb1⟩
  go_wp2_with fail
  refine (hT w1 (hr.below hb1 (Nat.le_refl _) |>.more hb1.size)).mono ?_
  intro e w2 q
  obtain ⟨A1, c1, A2, c2, rfl, r1, r2, hb2, hlen⟩ := q.read2
  clear q
  rw [Hl.out.2.1, Hl.out.2.2]
  have hb12 := hb1.trans (hb2.mono hb1.size)
  have hr := hr.below hb12 (Nat.le_refl _)
  have Hlen := Lib.hid hlen
  clear hb1 hb2 hlen hT
  go_wp2_with fail
  go_loopw [11] (fun i wr => ∃ j k : Nat, j ≤ N ∧ i = .int .i64 j ∧ wr = w2.drewN k) (fun i _ => N - (intOf i).toNat)
  case atStart => exact ⟨0, 0, by omega, rfl, rfl⟩
  case round =>
    obtain ⟨j, k, hj, rfl, rfl⟩ := hrel
    by_cases hlt : j < N
    · have hjo : j < outs.length := by rw [Hl.out.2.1]; exact hlt
      have hmem : outs[j]?.getD 0 ∈ outs := by rw [List.getElem?_eq_getElem hjo]; exact List.getElem_mem _
      obtain ⟨b, off, rfl, _, hc⟩ := r1.2 (by omega)
      have hc1 := hc j hjo
      obtain ⟨e1, e2⟩ := Hmore.out (by omega) _ hmem
      clear hc r1 hr r2 hmem hjo
      generalize outs[j]?.getD 0 = x at *
      have d1 : ((m : Int) + 2 == 1) = false := beq_eq_false_iff_ne.mpr (by omega)
      have d2 : decide ((1 : Int) < (m : Int) + 2) = true := decide_eq_true (by omega)
      have d3 : decide (x < next) = false := decide_eq_false (by omega)
      have d4 : decide ((a : Int) ≤ x) = false := decide_eq_false (by omega)
      go_wp2
      go_quiet (fail)
      go_wp2
      go_roundw
      case rel => exact ⟨j + 1, _, by omega, by go_num, rfl⟩
      case measure => simp [intOf]; omega
    · obtain rfl : j = N := by omega
      clear r1 hr
      go_wp2_with fail
      go_loopw [12] (fun i wr => ∃ j k : Nat, j ≤ C ∧ i = .int .i64 j ∧ wr = w2.drewN k) (fun i _ => C - (intOf i).toNat)
      case atStart => exact ⟨0, k, by omega, rfl, rfl⟩
      case round =>
        obtain ⟨i, k2, hi, rfl, rfl⟩ := hrel
        by_cases hit : i < C
        · have hio : i < cl.length := by rw [Hl.out.2.2]; exact hit
          obtain ⟨b, off, rfl, _, hc⟩ := r2 (by omega)
          obtain ⟨E, ec, hc1, hr1⟩ := hc i hio
          obtain ⟨g1, g2, _⟩ := Hgood.out (cl[i]?.getD []) (by rw [List.getElem?_eq_getElem hio]; exact List.getElem_mem _)
          clear hc r2 hio hr1
          generalize (cl[i]?.getD []).length = L at *
          go_wp2
          go_roundw
          case rel => exact ⟨i + 1, _, by omega, by go_num, rfl⟩
          case measure => simp [intOf]; omega
        · obtain rfl : i = C := by omega
          go_wp2_with fail
          refine (Check_ok w2.heap.size A2 a i c2 _ cl _ (r2.below (below_drewN (Below.refl _ w2) k2) (Nat.le_refl _)) (Nat.le_refl _) Hl.out.2.2 hC2 rfl h1 h2 Hlen.out (fun x hx => (Hgood.out x hx).2.2)).mono ?_
          rintro e w5 ⟨rfl, hb5⟩
          have hb15 := (below_drewN hb12 k2).trans (hb5.mono hb12.size)
          go_wp2_with fail
          go_ret
          exact ⟨rfl, hb15⟩
end Go.Proofs.Ytppgpafnifmmfaa
