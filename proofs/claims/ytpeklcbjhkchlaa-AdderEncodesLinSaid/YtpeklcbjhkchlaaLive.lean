/- live answers true, whatever the world, and turns nothing that was there. -/
import Derived.Test.YtpeklcbjhkchlaaLiveM
namespace Go.Proofs.Ytpeklcbjhkchlaa
open Go.RowKit
set_option maxRecDepth 60000

set_option maxHeartbeats 8000000 in
theorem live_any (w : World) : Calls Try.prog 12 #[] w fun e w' => e = .returned (.bool true) ∧ Below w.heap.size w w' := by
  obtain ⟨W1, hW1, p1, p2, hbw⟩ := two_lit w #[.int .i64 1, .int .i64 1] #[.int .i64 1, .int .i64 2] [1, 1] [1, 2] (by decide) (by decide) rfl rfl
  have HW := Lib.hid hW1
  clear hW1
  go_enter Try.func12, Try.ntmps12
  go_wp2_with fail
  rw [← HW.out]
  clear HW
  have hT := T1 W1 _ _ p1 p2
  clear p1 p2
  refine hT.mono ?_
  rintro e w1 ⟨A1, c1, B1, d1, rfl, r1, hb⟩
  replace hbw := hbw.trans (hb.mono hbw.size)
  clear hb hT
  have hT := TL w1 A1 c1 2 1 _ r1 (by omega) ls_2 rfl
  go_wp2_with fail
  refine hT.mono ?_
  rintro e w2 ⟨Aq2, cq2, rfl, q2, hb⟩
  replace r1 := RdI.more (r1.below hb (Nat.le_refl _)) hb.size
  replace hbw := hbw.trans (hb.mono hbw.size)
  clear hb hT
  have hT := TL w2 A1 c1 1 1 _ r1 (by omega) ls_1 rfl
  go_wp2_with fail
  refine hT.mono ?_
  rintro e w3 ⟨Aq1, cq1, rfl, q1, hb⟩
  replace r1 := RdI.more (r1.below hb (Nat.le_refl _)) hb.size
  replace q2 := RdR.more (q2.below hb (Nat.le_refl _)) hb.size
  replace hbw := hbw.trans (hb.mono hbw.size)
  clear hb hT
  have hT := TL w3 A1 c1 3 2 _ r1 (by omega) ls_3 rfl
  go_wp2_with fail
  refine hT.mono ?_
  rintro e w4 ⟨Aq3, cq3, rfl, q3, hb⟩
  replace r1 := RdI.more (r1.below hb (Nat.le_refl _)) hb.size
  replace q2 := RdR.more (q2.below hb (Nat.le_refl _)) hb.size
  replace q1 := RdR.more (q1.below hb (Nat.le_refl _)) hb.size
  replace hbw := hbw.trans (hb.mono hbw.size)
  clear hb hT
  have hT := TL w4 A1 c1 4 1 _ r1 (by omega) ls_4 rfl
  go_wp2_with fail
  refine hT.mono ?_
  rintro e w5 ⟨Aq4, cq4, rfl, q4, hb⟩
  replace r1 := RdI.more (r1.below hb (Nat.le_refl _)) hb.size
  replace q2 := RdR.more (q2.below hb (Nat.le_refl _)) hb.size
  replace q1 := RdR.more (q1.below hb (Nat.le_refl _)) hb.size
  replace q3 := RdR.more (q3.below hb (Nat.le_refl _)) hb.size
  replace hbw := hbw.trans (hb.mono hbw.size)
  clear hb hT
  obtain ⟨W6, hW6, p1, p2, hb⟩ := two_lit w5 #[.int .i64 1] #[.int .i64 3] [1] [3] (by decide) (by decide) rfl rfl
  have HW := Lib.hid hW6
  replace r1 := RdI.more (r1.below hb (Nat.le_refl _)) hb.size
  replace q2 := RdR.more (q2.below hb (Nat.le_refl _)) hb.size
  replace q1 := RdR.more (q1.below hb (Nat.le_refl _)) hb.size
  replace q3 := RdR.more (q3.below hb (Nat.le_refl _)) hb.size
  replace q4 := RdR.more (q4.below hb (Nat.le_refl _)) hb.size
  replace hbw := hbw.trans (hb.mono hbw.size)
  clear hb hW6
  go_wp2_with fail
  rw [← HW.out]
  clear HW
  have hT := T6 W6 _ _ p1 p2
  clear p1 p2
  refine hT.mono ?_
  rintro e w7 ⟨A6, c6, B6, d6, rfl, hb⟩
  replace r1 := RdI.more (r1.below hb (Nat.le_refl _)) hb.size
  replace q2 := RdR.more (q2.below hb (Nat.le_refl _)) hb.size
  replace q1 := RdR.more (q1.below hb (Nat.le_refl _)) hb.size
  replace q3 := RdR.more (q3.below hb (Nat.le_refl _)) hb.size
  replace q4 := RdR.more (q4.below hb (Nat.le_refl _)) hb.size
  replace hbw := hbw.trans (hb.mono hbw.size)
  clear hb hT
  have hT := T7 w7
  go_wp2_with fail
  refine hT.mono ?_
  rintro e w8 ⟨A7, c7, B7, d7, rfl, hb⟩
  replace r1 := RdI.more (r1.below hb (Nat.le_refl _)) hb.size
  replace q2 := RdR.more (q2.below hb (Nat.le_refl _)) hb.size
  replace q1 := RdR.more (q1.below hb (Nat.le_refl _)) hb.size
  replace q3 := RdR.more (q3.below hb (Nat.le_refl _)) hb.size
  replace q4 := RdR.more (q4.below hb (Nat.le_refl _)) hb.size
  replace hbw := hbw.trans (hb.mono hbw.size)
  clear hb hT
  obtain ⟨V0, hV, p1, hb⟩ := row_lit w8 #[.int .i64 4] [4] 1 rfl (by decide) rfl
  obtain ⟨D, hD⟩ : ∃ D, D = some (⟨w8.heap.size + 1, 0, none⟩ : Addr) := ⟨_, rfl⟩
  rw [← hD] at p1
  have HW := Lib.hid hV
  have HD := Lib.hid hD
  replace r1 := RdI.more (r1.below hb (Nat.le_refl _)) hb.size
  replace q2 := RdR.more (q2.below hb (Nat.le_refl _)) hb.size
  replace q1 := RdR.more (q1.below hb (Nat.le_refl _)) hb.size
  replace q3 := RdR.more (q3.below hb (Nat.le_refl _)) hb.size
  replace q4 := RdR.more (q4.below hb (Nat.le_refl _)) hb.size
  replace hbw := hbw.trans (hb.mono hbw.size)
  clear hb hV hD
  have hT := Lists_any _ _ Aq2 D 1 cq2 1 _ V0 q2 p1 rfl (by unfold maxLen; omega) (by intro j hj; have hj2 : j = 0 ∨ j = 1 := (by simp at hj; omega); rcases hj2 with rfl | rfl <;> (unfold maxLen; decide))
  go_wp2_with fail
  rw [← HW.out, ← HD.out]
  clear HW HD
  refine hT.mono ?_
  rintro e w9 ⟨rfl, kk, hkk⟩
  have hb : Below V0.heap.size V0 w9 := by rw [hkk]; exact below_drewN (Below.refl _ _) kk
  replace r1 := RdI.more (r1.below hb (Nat.le_refl _)) hb.size
  replace q2 := RdR.more (q2.below hb (Nat.le_refl _)) hb.size
  replace q1 := RdR.more (q1.below hb (Nat.le_refl _)) hb.size
  replace q3 := RdR.more (q3.below hb (Nat.le_refl _)) hb.size
  replace q4 := RdR.more (q4.below hb (Nat.le_refl _)) hb.size
  replace hbw := hbw.trans (hb.mono hbw.size)
  clear hb hT hkk p1
  obtain ⟨V1, hV, p1, hb⟩ := row_lit w9 #[.int .i64 3, .int .i64 4] [3, 4] 2 rfl (by decide) rfl
  obtain ⟨D, hD⟩ : ∃ D, D = some (⟨w9.heap.size + 1, 0, none⟩ : Addr) := ⟨_, rfl⟩
  rw [← hD] at p1
  have HW := Lib.hid hV
  have HD := Lib.hid hD
  replace r1 := RdI.more (r1.below hb (Nat.le_refl _)) hb.size
  replace q2 := RdR.more (q2.below hb (Nat.le_refl _)) hb.size
  replace q1 := RdR.more (q1.below hb (Nat.le_refl _)) hb.size
  replace q3 := RdR.more (q3.below hb (Nat.le_refl _)) hb.size
  replace q4 := RdR.more (q4.below hb (Nat.le_refl _)) hb.size
  replace hbw := hbw.trans (hb.mono hbw.size)
  clear hb hV hD
  have hT := Lists_any _ _ Aq1 D 1 cq1 1 _ V1 q1 p1 rfl (by unfold maxLen; omega) (by intro j hj; have hj2 : j = 0 ∨ j = 1 := (by simp at hj; omega); rcases hj2 with rfl | rfl <;> (unfold maxLen; decide))
  go_wp2_with fail
  rw [← HW.out, ← HD.out]
  clear HW HD
  refine hT.mono ?_
  rintro e w10 ⟨rfl, kk, hkk⟩
  have hb : Below V1.heap.size V1 w10 := by rw [hkk]; exact below_drewN (Below.refl _ _) kk
  replace r1 := RdI.more (r1.below hb (Nat.le_refl _)) hb.size
  replace q2 := RdR.more (q2.below hb (Nat.le_refl _)) hb.size
  replace q1 := RdR.more (q1.below hb (Nat.le_refl _)) hb.size
  replace q3 := RdR.more (q3.below hb (Nat.le_refl _)) hb.size
  replace q4 := RdR.more (q4.below hb (Nat.le_refl _)) hb.size
  replace hbw := hbw.trans (hb.mono hbw.size)
  clear hb hT hkk p1
  obtain ⟨V2, hV, p1, hb⟩ := rows_lit w10 #[.int .i64 3] #[.int .i64 4] [3] [4] 1 1 rfl rfl (by decide) (by decide) rfl rfl
  obtain ⟨D, hD⟩ : ∃ D, D = some (⟨w10.heap.size + 1 + 1, 0, none⟩ : Addr) := ⟨_, rfl⟩
  rw [← hD] at p1
  have HW := Lib.hid hV
  have HD := Lib.hid hD
  replace r1 := RdI.more (r1.below hb (Nat.le_refl _)) hb.size
  replace q2 := RdR.more (q2.below hb (Nat.le_refl _)) hb.size
  replace q1 := RdR.more (q1.below hb (Nat.le_refl _)) hb.size
  replace q3 := RdR.more (q3.below hb (Nat.le_refl _)) hb.size
  replace q4 := RdR.more (q4.below hb (Nat.le_refl _)) hb.size
  replace hbw := hbw.trans (hb.mono hbw.size)
  clear hb hV hD
  have hT := Lists_any _ _ Aq3 D 2 cq3 2 _ V2 q3 p1 rfl (by unfold maxLen; omega) (by intro j hj; have hj2 : j = 0 ∨ j = 1 := (by simp at hj; omega); rcases hj2 with rfl | rfl <;> (unfold maxLen; decide))
  go_wp2_with fail
  rw [← HW.out, ← HD.out]
  clear HW HD
  refine hT.mono ?_
  rintro e w11 ⟨rfl, kk, hkk⟩
  have hb : Below V2.heap.size V2 w11 := by rw [hkk]; exact below_drewN (Below.refl _ _) kk
  replace r1 := RdI.more (r1.below hb (Nat.le_refl _)) hb.size
  replace q2 := RdR.more (q2.below hb (Nat.le_refl _)) hb.size
  replace q1 := RdR.more (q1.below hb (Nat.le_refl _)) hb.size
  replace q3 := RdR.more (q3.below hb (Nat.le_refl _)) hb.size
  replace q4 := RdR.more (q4.below hb (Nat.le_refl _)) hb.size
  replace hbw := hbw.trans (hb.mono hbw.size)
  clear hb hT hkk p1
  obtain ⟨V3, hV, p1, hb⟩ := row_lit w11 #[] [] 0 rfl (by decide) rfl
  obtain ⟨D, hD⟩ : ∃ D, D = some (⟨w11.heap.size + 1, 0, none⟩ : Addr) := ⟨_, rfl⟩
  rw [← hD] at p1
  have HW := Lib.hid hV
  have HD := Lib.hid hD
  replace r1 := RdI.more (r1.below hb (Nat.le_refl _)) hb.size
  replace q2 := RdR.more (q2.below hb (Nat.le_refl _)) hb.size
  replace q1 := RdR.more (q1.below hb (Nat.le_refl _)) hb.size
  replace q3 := RdR.more (q3.below hb (Nat.le_refl _)) hb.size
  replace q4 := RdR.more (q4.below hb (Nat.le_refl _)) hb.size
  replace hbw := hbw.trans (hb.mono hbw.size)
  clear hb hV hD
  have hT := Lists_any _ _ Aq4 D 1 cq4 1 _ V3 q4 p1 rfl (by unfold maxLen; omega) (by intro j hj; have hj2 : j = 0 ∨ j = 1 := (by simp at hj; omega); rcases hj2 with rfl | rfl <;> (unfold maxLen; decide))
  go_wp2_with fail
  rw [← HW.out, ← HD.out]
  clear HW HD
  refine hT.mono ?_
  rintro e w12 ⟨rfl, kk, hkk⟩
  have hb : Below V3.heap.size V3 w12 := by rw [hkk]; exact below_drewN (Below.refl _ _) kk
  replace r1 := RdI.more (r1.below hb (Nat.le_refl _)) hb.size
  replace q2 := RdR.more (q2.below hb (Nat.le_refl _)) hb.size
  replace q1 := RdR.more (q1.below hb (Nat.le_refl _)) hb.size
  replace q3 := RdR.more (q3.below hb (Nat.le_refl _)) hb.size
  replace q4 := RdR.more (q4.below hb (Nat.le_refl _)) hb.size
  replace hbw := hbw.trans (hb.mono hbw.size)
  clear hb hT hkk p1
  obtain ⟨V9, hV, p1, hb⟩ := one_lit w12 #[.int .i64 3, .int .i64 4] [3, 4] (by decide) rfl
  have HW := Lib.hid hV
  replace r1 := RdI.more (r1.below hb (Nat.le_refl _)) hb.size
  replace q2 := RdR.more (q2.below hb (Nat.le_refl _)) hb.size
  replace q1 := RdR.more (q1.below hb (Nat.le_refl _)) hb.size
  replace q3 := RdR.more (q3.below hb (Nat.le_refl _)) hb.size
  replace q4 := RdR.more (q4.below hb (Nat.le_refl _)) hb.size
  replace hbw := hbw.trans (hb.mono hbw.size)
  clear hb hV
  have hT := Ints_any _ _ A1 _ 2 c1 2 _ V9 r1 p1 rfl (by unfold maxLen; omega)
  go_wp2_with fail
  rw [← HW.out]
  clear HW
  refine hT.mono ?_
  rintro e w15 ⟨rfl, kk, hkk⟩
  have hb : Below V9.heap.size V9 w15 := by rw [hkk]; exact below_drewN (Below.refl _ _) kk
  replace r1 := RdI.more (r1.below hb (Nat.le_refl _)) hb.size
  replace q2 := RdR.more (q2.below hb (Nat.le_refl _)) hb.size
  replace q1 := RdR.more (q1.below hb (Nat.le_refl _)) hb.size
  replace q3 := RdR.more (q3.below hb (Nat.le_refl _)) hb.size
  replace q4 := RdR.more (q4.below hb (Nat.le_refl _)) hb.size
  replace hbw := hbw.trans (hb.mono hbw.size)
  clear hb hT hkk p1
  go_wp2_with fail
  go_ret
  exact ⟨rfl, hbw⟩
end Go.Proofs.Ytpeklcbjhkchlaa
