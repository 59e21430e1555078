/- What the reference's both answers. -/
import Derived.Test.YtoacfjmefoiflaaOpen
namespace Go.Proofs.Ytoacfjmefoiflaa
open Go.RowKit
set_option maxRecDepth 100000

set_option maxHeartbeats 8000000 in
theorem RBoth_any (B n c d : Nat) (A D : Option Addr) (k v : Int) (cs ls : List Int) (w : World) (hc : RdI B w A cs) (hz : RdI B w D ls) (hB : B ≤ w.heap.size) (hcl : cs.length = n) (hl : ls.length = n) (hn : n ≤ 64) (hcs : ∀ c ∈ cs, -1099511627776 ≤ c ∧ c ≤ 1099511627776) (hv : -65536 ≤ v ∧ v ≤ 65536) :
    Calls Try.prog 41 #[.agg #[.slice A n c, .slice D n d, .int .i64 k], .int .i64 v] w fun e w' => e = .returned (.tuple #[.int .i64 (tot cs ls v), .int .i64 (tot cs ls (-v))]) ∧ Below w.heap.size w w' := by
  obtain ⟨W1, hW1⟩ : ∃ W, W = w.alloc (.cells #[.slice A n c, .slice D n d, .int .i64 k] 24) := ⟨_, rfl⟩
  have hb1 : Below w.heap.size w W1 := by rw [hW1]; exact (Below.refl _ _).alloc (Nat.le_refl _) _
  have hat : LinAt W1 w.heap.size (.slice A n c) (.slice D n d) k 24 := by rw [hW1]; exact heap_alloc_new _ _
  obtain ⟨cC, cL, cK⟩ := hat.cells
  have HW := Lib.hid hW1
  have HL := Lib.hid (And.intro hcl (And.intro hl hcs))
  have R := Lib.hid (And.intro (hc.below hb1 hB) (hz.below hb1 hB))
  obtain ⟨hv1, hv2⟩ := hv
  have hneg : wrap64 (-v) = -v := IntWalk.wrap64_in _ (by omega)
  have hneg' : wrap64 (0 - v) = -v := by rw [IntWalk.wrap64_in _ (by omega)]; omega
  rw [hW1] at cC cL cK
  clear hW1 hat hcl hl hcs hc hz
  go_enter Try.func41, Try.ntmps41
  go_wp2_with fail
  rw [← HW.out]
  rw [← HW.out] at cC cL cK
  clear HW
  go_loopw [6, 7, 8] (fun a b i wr => ∃ j : Nat, j ≤ n ∧ a = .int .i64 (tot (cs.take j) (ls.take j) v) ∧ b = .int .i64 (tot (cs.take j) (ls.take j) (-v)) ∧ i = .int .i64 j ∧ W1 = wr) (fun _ _ i _ => n - (intOf i).toNat)
  case atStart => exact ⟨0, by omega, rfl, rfl, rfl, rfl⟩
  case round =>
    obtain ⟨j, hj, rfl, rfl, rfl, rfl⟩ := hrel
    by_cases hlt : j < n
    · have hjc : j < cs.length := by rw [HL.out.1]; exact hlt
      have hjz : j < ls.length := by rw [HL.out.2.1]; exact hlt
      obtain ⟨b1, o1, hA1, _, q1⟩ := R.out.1.2 (by omega)
      obtain ⟨b2, o2, hA2, _, q2⟩ := R.out.2.2 (by omega)
      have hc1 := q1 j hjc
      have hz1 := q2 j hjz
      have hcb := HL.out.2.2 (cs[j]?.getD 0) (by rw [List.getElem?_eq_getElem hjc]; exact List.getElem_mem _)
      have hst1 := tot_take cs ls j v hjc hjz
      have hst2 := tot_take cs ls j (-v) hjc hjz
      have hb1' := tot_bound 1099511627776 (by omega) (cs.take j) (ls.take j) v (fun c hc => HL.out.2.2 c (List.mem_of_mem_take hc))
      have hb2' := tot_bound 1099511627776 (by omega) (cs.take j) (ls.take j) (-v) (fun c hc => HL.out.2.2 c (List.mem_of_mem_take hc))
      rw [List.length_take, Nat.min_eq_left (by omega)] at hb1' hb2'
      clear q1 q2 hjc hjz R
      generalize cs[j]?.getD 0 = x at *
      generalize ls[j]?.getD 0 = z at *
      generalize tot (cs.take j) (ls.take j) v = S at *
      generalize tot (cs.take j) (ls.take j) (-v) = T at *
      obtain ⟨hx1, hx2⟩ := hcb
      cases hA1
      cases hA2
      by_cases e1 : z = v
      · by_cases e2 : z = -v
        · have g1 : (z == v) = true := by simpa using e1
          have g2 : (z == -v) = true := by simpa using e2
          have g2' : (z == 0 - v) = true := by simp; omega
          rw [if_pos e1] at hst1
          rw [if_pos e2] at hst2
          have HS := Lib.hid (And.intro hst1 hst2)
          clear hst1 hst2 e1 e2
          go_wp2_with fail
          clear g1 g2 g2'
          go_roundw
          case rel => exact ⟨j + 1, by omega, by rw [HS.out.1], by rw [HS.out.2], by go_num, trivial⟩
          case measure => simp [intOf]; omega
        · have g1 : (z == v) = true := by simpa using e1
          have g2 : (z == -v) = false := by simpa using e2
          have g2' : (z == 0 - v) = false := by simp; omega
          rw [if_pos e1] at hst1
          rw [if_neg e2] at hst2
          have HS := Lib.hid (And.intro hst1 hst2)
          clear hst1 hst2 e1 e2
          go_wp2_with fail
          clear g1 g2 g2'
          go_roundw
          case rel => exact ⟨j + 1, by omega, by rw [HS.out.1], by rw [HS.out.2]; simp, by go_num, trivial⟩
          case measure => simp [intOf]; omega
      · by_cases e2 : z = -v
        · have g1 : (z == v) = false := by simpa using e1
          have g2 : (z == -v) = true := by simpa using e2
          have g2' : (z == 0 - v) = true := by simp; omega
          rw [if_neg e1] at hst1
          rw [if_pos e2] at hst2
          have HS := Lib.hid (And.intro hst1 hst2)
          clear hst1 hst2 e1 e2
          go_wp2_with fail
          clear g1 g2 g2'
          go_roundw
          case rel => exact ⟨j + 1, by omega, by rw [HS.out.1]; simp, by rw [HS.out.2], by go_num, trivial⟩
          case measure => simp [intOf]; omega
        · have g1 : (z == v) = false := by simpa using e1
          have g2 : (z == -v) = false := by simpa using e2
          have g2' : (z == 0 - v) = false := by simp; omega
          rw [if_neg e1] at hst1
          rw [if_neg e2] at hst2
          have HS := Lib.hid (And.intro hst1 hst2)
          clear hst1 hst2 e1 e2
          go_wp2_with fail
          clear g1 g2 g2'
          go_roundw
          case rel => exact ⟨j + 1, by omega, by rw [HS.out.1]; simp, by rw [HS.out.2]; simp, by go_num, trivial⟩
          case measure => simp [intOf]; omega
    · obtain rfl : j = n := by omega
      rw [List.take_of_length_le (by have := HL.out.1; omega), List.take_of_length_le (by have := HL.out.2.1; omega)]
      clear R
      go_wp2_with fail
      go_ret2
      exact ⟨rfl, hb1⟩
end Go.Proofs.Ytoacfjmefoiflaa
