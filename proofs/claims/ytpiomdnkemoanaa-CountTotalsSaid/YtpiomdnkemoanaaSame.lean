/- The walk of the reference's Same. -/
import Derived.Test.YtpiomdnkemoanaaMost
namespace Go.Proofs.Ytpiomdnkemoanaa
open Go.RowKit

set_option maxRecDepth 30000 in
set_option maxHeartbeats 4000000 in
theorem Same_any (B C : Nat) (A D : Option Addr) (n c d : Nat) (xss : List (List Int)) (w : World) (hr : RdR B w A xss) (hs : RdR C w D xss) (hl : xss.length = n) (hn : n ≤ maxLen) (hin : ∀ j, j < xss.length → (xss[j]?.getD []).length ≤ maxLen) :
    Calls Try.prog 15 #[.slice A n c, .slice D n d] w fun e w' => e = .returned (.bool true) ∧ ∃ k, w' = w.drewN k := by
  unfold maxLen at hn
  have Hl := Lib.hid hl
  have Hin := Lib.hid hin
  clear hl hin
  go_enter Try.func15, Try.ntmps15
  go_wp2_with fail
  go_loopw [14] (fun i wr => ∃ j k : Nat, j ≤ n ∧ i = .int .i64 j ∧ wr = w.drewN k) (fun i _ => n - (intOf i).toNat)
  case atStart => exact ⟨0, 0, by omega, rfl, rfl⟩
  case round =>
    obtain ⟨j, k, hj, rfl, rfl⟩ := hrel
    by_cases hlt : j < n
    · have hjo : j < xss.length := by rw [Hl.out]; exact hlt
      obtain ⟨b, off, rfl, _, hc⟩ := hr (by omega)
      obtain ⟨E, ec, hc1, hr1⟩ := hc j hjo
      obtain ⟨b2, off2, rfl, _, hc2⟩ := hs (by omega)
      obtain ⟨E2, ec2, hd1, hs1⟩ := hc2 j hjo
      have hxl := Hin.out j hjo
      clear hc hc2 hr hs hjo
      generalize xss[j]?.getD [] = x at *
      obtain ⟨L, hL⟩ : ∃ L, x.length = L := ⟨_, rfl⟩
      rw [hL] at hc1 hd1 hxl
      have HL := Lib.hid hL
      clear hL
      have hxl : L ≤ 9223372036854775807 := by unfold maxLen at hxl; omega
      go_wp2
      go_quiet (fail)
      go_wp2_with fail
      go_loopw [33] (fun i' wr => ∃ q k3 : Nat, q ≤ L ∧ i' = .int .i64 q ∧ wr = w.drewN k3) (fun i' _ => L - (intOf i').toNat)
      case atStart => exact ⟨0, _, by omega, rfl, rfl⟩
      case round =>
        obtain ⟨q, k3, hq, rfl, rfl⟩ := hrel
        by_cases hqt : q < L
        · have hqo : q < x.length := by rw [HL.out]; exact hqt
          obtain ⟨b3, off3, rfl, _, hc3⟩ := hr1.2 (by omega)
          have hc4 := hc3 q hqo
          obtain ⟨b5, off5, rfl, _, hc5⟩ := hs1.2 (by omega)
          have hd4 := hc5 q hqo
          clear hc3 hc5 hqo hr1 hs1
          generalize x[q]?.getD 0 = z at *
          go_wp2
          go_quiet (fail)
          go_wp2
          go_roundw
          case rel => exact ⟨q + 1, _, by omega, by go_num, rfl⟩
          case measure => simp [intOf]; omega
        · obtain rfl : q = L := by omega
          clear hr1 hs1
          go_wp2
          go_roundw
          case rel => exact ⟨j + 1, _, by omega, by go_num, rfl⟩
          case measure => simp [intOf]; omega
    · obtain rfl : j = n := by omega
      go_wp2
      go_ret
      exact ⟨rfl, k, rfl⟩
end Go.Proofs.Ytpiomdnkemoanaa
