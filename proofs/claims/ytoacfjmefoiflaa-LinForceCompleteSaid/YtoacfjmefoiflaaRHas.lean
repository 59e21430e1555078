/- What the reference's Has answers. -/
import Derived.Test.YtoacfjmefoiflaaForce
namespace Go.Proofs.Ytoacfjmefoiflaa
open Go.RowKit
set_option maxRecDepth 100000

set_option maxHeartbeats 4000000 in
theorem Has_any (B n c : Nat) (A : Option Addr) (z : Int) (ls : List Int) (w : World) (hz : RdI B w A ls) (hl : ls.length = n) (hn : n ≤ 9223372036854775807) :
    Calls Try.prog 33 #[.slice A n c, .int .i64 z] w fun e w' => e = .returned (.bool (decide (z ∈ ls))) ∧ w = w' := by
  have HL := Lib.hid hl
  have R := Lib.hid hz
  obtain ⟨r, hr⟩ : ∃ r, decide (z ∈ ls) = r := ⟨_, rfl⟩
  rw [hr]
  have HR := Lib.hid hr
  clear hl hz hr
  go_enter Try.func33, Try.ntmps33
  go_wp2_with fail
  go_loopw [5] (fun i wr => ∃ j : Nat, j ≤ n ∧ z ∉ ls.take j ∧ i = .int .i64 j ∧ w = wr) (fun i _ => n - (intOf i).toNat)
  case atStart => exact ⟨0, by omega, by simp, rfl, rfl⟩
  case round =>
    obtain ⟨j, hj, hnot, rfl, rfl⟩ := hrel
    by_cases hlt : j < n
    · have hjz : j < ls.length := by rw [HL.out]; exact hlt
      obtain ⟨b2, o2, hA2, _, q2⟩ := R.out.2 (by omega)
      have hz1 := q2 j hjz
      have htk : ls.take (j + 1) = ls.take j ++ [ls[j]?.getD 0] := by
        rw [List.take_add_one, List.getElem?_eq_getElem hjz]; rfl
      have hmem : ls[j]?.getD 0 ∈ ls := by rw [List.getElem?_eq_getElem hjz]; exact List.getElem_mem _
      clear q2 hjz R
      generalize ls[j]?.getD 0 = x at *
      cases hA2
      by_cases e1 : x = z
      · subst e1
        have g1 : (x == x) = true := by simp
        obtain rfl : r = true := by rw [← HR.out]; exact decide_eq_true hmem
        clear htk hmem hnot
        go_wp2_with fail
        go_ret
        exact ⟨rfl, rfl⟩
      · have g1 : (x == z) = false := by simpa using e1
        have HS := Lib.hid (show z ∉ ls.take (j + 1) by rw [htk]; simp [hnot]; exact fun h => e1 h.symm)
        clear htk hmem hnot e1
        go_wp2_with fail
        clear g1
        go_roundw
        case rel => exact ⟨j + 1, by omega, HS.out, by go_num, trivial⟩
        case measure => simp [intOf]; omega
    · obtain rfl : j = n := by omega
      rw [List.take_of_length_le (by have := HL.out; omega)] at hnot
      obtain rfl : r = false := by rw [← HR.out]; exact decide_eq_false hnot
      clear R hnot
      go_wp2_with fail
      go_ret
      exact ⟨rfl, rfl⟩
end Go.Proofs.Ytoacfjmefoiflaa
