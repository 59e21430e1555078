/- live answers true, whatever the world, and turns nothing that was there. -/
import Derived.Test.YtoacfjmefoiflaaLiveM
namespace Go.Proofs.Ytoacfjmefoiflaa
open Go.RowKit
set_option maxRecDepth 60000

set_option maxHeartbeats 8000000 in
theorem live_any (w : World) : Calls Try.prog 12 #[] w fun e w' => e = .returned (.bool true) ∧ Below w.heap.size w w' := by
  obtain ⟨W1, hW1, p1, p2, hbw⟩ := two_lit w #[.int .i64 2, .int .i64 3, .int .i64 1] #[.int .i64 1, .int .i64 (-2), .int .i64 2] [2, 3, 1] [1, -2, 2] (by decide) (by decide) rfl rfl
  have HW := Lib.hid hW1
  clear hW1
  go_enter Try.func12, Try.ntmps12
  go_wp2_with fail
  rw [← HW.out]
  clear HW
  have hT := LN W1 _ _ 3 3 p1 p2
  clear p1 p2
  refine hT.mono ?_
  rintro e w1 ⟨A1, c1, B1, d1, rfl, r1, r2, hb⟩
  replace hbw := hbw.trans (hb.mono hbw.size)
  clear hb hT
  obtain ⟨W2, hW2, kx, hb⟩ := KL.new (n := 2) (c := c1) (m := 2) (d := d1) (k := 2) r1 r2
  have hsW2 : W2.heap.size = w1.heap.size + 1 := by rw [hW2]; simp
  replace hbw := hbw.trans (hb.mono hbw.size)
  obtain ⟨W3, hW3, p1, p2, hb3⟩ := two_lit W2 #[.int .i64 3, .int .i64 2, .int .i64 2] #[.int .i64 1, .int .i64 2, .int .i64 3] [3, 2, 2] [1, 2, 3] (by decide) (by decide) rfl rfl
  have hsW3 : W3.heap.size = w1.heap.size + 3 := by rw [hW3]; simp [hsW2]
  obtain ⟨L1, hL1⟩ : ∃ L1, L1 = some (⟨W2.heap.size, 0, none⟩ : Addr) := ⟨_, rfl⟩
  obtain ⟨L2, hL2⟩ : ∃ L2, L2 = some (⟨W2.heap.size + 1, 0, none⟩ : Addr) := ⟨_, rfl⟩
  have hL1n : L1 ≠ Option.none := by rw [hL1]; simp
  have hL2n : L2 ≠ Option.none := by rw [hL2]; simp
  rw [← hL1] at p1
  rw [← hL2] at p2
  replace kx := kx.step hb3
  replace hbw := hbw.trans (hb3.mono hbw.size)
  obtain ⟨W4, hW4, kl, hb4⟩ := KL.new (n := 3) (c := 3) (m := 3) (d := 3) (k := 5) p1 p2
  replace kx := kx.step hb4
  replace hbw := hbw.trans (hb4.mono hbw.size)
  have hch : W4 = (((w1.alloc (.cells #[.slice A1 2 c1, .slice B1 2 d1, .int .i64 2] 24)).alloc (.cells #[.int .i64 3, .int .i64 2, .int .i64 2] 3)).alloc (.cells #[.int .i64 1, .int .i64 2, .int .i64 3] 3)).alloc (.cells #[.slice (some ⟨w1.heap.size + 1, 0, none⟩) 3 3, .slice (some ⟨w1.heap.size + 2, 0, none⟩) 3 3, .int .i64 5] 24) := by
    rw [hW4, hW3, hW2, hL1, hL2, hsW2]
  have HW := Lib.hid hch
  have hL1' : L1 = some (⟨w1.heap.size + 1, 0, none⟩ : Addr) := by rw [hL1, hsW2]
  have hL2' : L2 = some (⟨w1.heap.size + 2, 0, none⟩ : Addr) := by rw [hL2, hsW2]
  rw [hsW3] at kl
  have hT := LF W4 _ _ Option.none 3 3 0 0 1 [] [1] true kl.2.1 kl.2.2 (RdI.nil _ _ _) rfl (by omega) (fun j hj => by omega) (by decide +kernel) (by decide +kernel) rfl
  rw [hL1', hL2'] at kl hT
  rw [hL1'] at hL1n
  rw [hL2'] at hL2n
  clear p1 p2 r1 r2 hb hb3 hb4 hW2 hW3 hW4 hch hL1 hL2 hsW3 hsW2 hL1' hL2' L1 L2
  obtain ⟨klc, kll, klk⟩ := kl.1.cells
  rw [HW.out] at klc kll klk
  go_wp2_with fail
  rw [← HW.out]
  clear HW klc kll klk
  refine hT.mono ?_
  rintro e w5 ⟨A5, c5, rfl, ra, hb⟩
  clear hT
  replace kx := kx.step hb
  replace kl := kl.step hb
  replace hbw := hbw.trans (hb.mono hbw.size)
  clear hb
  obtain ⟨V, hV, p1, hb⟩ := one_lit w5 #[.int .i64 (-2)] [-2] (by decide) rfl
  have HW := Lib.hid hV
  obtain ⟨klc, kll, klk⟩ := kl.1.cells
  replace kx := kx.step hb
  replace kl := kl.step hb
  replace ra := ra.step hb
  replace hbw := hbw.trans (hb.mono hbw.size)
  clear hb
  have hT := LF V _ _ _ 3 3 1 1 2 [-2] [1, 3] true kl.2.1 kl.2.2 p1 rfl (by omega) (fun j hj => by have hj0 : j = 0 := (by omega); subst hj0; exact ⟨by decide, by decide, by decide⟩) (by decide +kernel) (by decide +kernel) rfl
  clear p1 hV
  go_wp2_with fail
  rw [← HW.out]
  clear HW klc kll klk
  refine hT.mono ?_
  rintro e w6 ⟨A6, c6, rfl, rb, hb⟩
  clear hT
  replace kx := kx.step hb
  replace kl := kl.step hb
  replace ra := ra.step hb
  replace hbw := hbw.trans (hb.mono hbw.size)
  clear hb
  obtain ⟨V, hV, p1, hb⟩ := one_lit w6 #[.int .i64 (-1)] [-1] (by decide) rfl
  have HW := Lib.hid hV
  obtain ⟨klc, kll, klk⟩ := kl.1.cells
  replace kx := kx.step hb
  replace kl := kl.step hb
  replace ra := ra.step hb
  replace rb := rb.step hb
  replace hbw := hbw.trans (hb.mono hbw.size)
  clear hb
  have hT := LF V _ _ _ 3 3 1 1 0 [-1] [] false kl.2.1 kl.2.2 p1 rfl (by omega) (fun j hj => by have hj0 : j = 0 := (by omega); subst hj0; exact ⟨by decide, by decide, by decide⟩) (by decide +kernel) (by decide +kernel) rfl
  clear p1 hV
  go_wp2_with fail
  rw [← HW.out]
  clear HW klc kll klk
  refine hT.mono ?_
  rintro e w7 ⟨A7, c7, rfl, rz, hb⟩
  clear hT
  replace kx := kx.step hb
  replace kl := kl.step hb
  replace ra := ra.step hb
  replace rb := rb.step hb
  replace hbw := hbw.trans (hb.mono hbw.size)
  clear hb
  clear rz
  obtain ⟨klc, kll, klk⟩ := kl.1.cells
  have hT := LC w7 _ _ 3 3 kl.2.1 kl.2.2
  go_wp2_with fail
  clear klc kll klk
  refine hT.mono ?_
  rintro e w8 ⟨A8, c8, B8, d8, rfl, r1, r2, hb⟩
  clear hT
  replace kx := kx.step hb
  replace kl := kl.step hb
  replace ra := ra.step hb
  replace rb := rb.step hb
  replace hbw := hbw.trans (hb.mono hbw.size)
  clear hb
  obtain ⟨W8, hW8, kc, hb⟩ := KL.new (n := 3) (c := c8) (m := 3) (d := d8) (k := 3) r1 r2
  have HW := Lib.hid hW8
  clear r1 r2
  replace kx := kx.step hb
  replace kl := kl.step hb
  replace ra := ra.step hb
  replace rb := rb.step hb
  replace hbw := hbw.trans (hb.mono hbw.size)
  clear hb
  obtain ⟨klc, kll, klk⟩ := kl.1.cells
  rw [hW8] at klc kll klk
  have hT := LA W8 _ _ 3 3 kl.2.1 kl.2.2 hL1n hL2n
  clear hW8
  go_wp2_with fail
  rw [← HW.out]
  clear HW klc kll klk
  refine hT.mono ?_
  rintro e w9 ⟨A9, c9, B9, d9, rfl, r1, r2, hb⟩
  clear hT
  replace kx := kx.step hb
  replace kl := kl.step hb
  replace ra := ra.step hb
  replace rb := rb.step hb
  replace kc := kc.step hb
  replace hbw := hbw.trans (hb.mono hbw.size)
  clear hb
  obtain ⟨W9, hW9, ks, hb⟩ := KL.new (n := 6) (c := c9) (m := 6) (d := d9) (k := 10) r1 r2
  clear r1 r2
  replace kx := kx.step hb
  replace kl := kl.step hb
  replace ra := ra.step hb
  replace rb := rb.step hb
  replace kc := kc.step hb
  replace hbw := hbw.trans (hb.mono hbw.size)
  clear hb
  obtain ⟨kxc, kxl, kxk⟩ := kx.1.cells
  rw [hW9] at kxc kxl kxk
  obtain ⟨V0, hV, p1, p2, hb⟩ := two_lit W9 #[.int .i64 2, .int .i64 2] #[.int .i64 1, .int .i64 (-2)] [2, 2] [1, -2] (by decide) (by decide) rfl rfl
  have HW := Lib.hid (show V0 = ((w9.alloc (.cells #[.slice A9 6 c9, .slice B9 6 d9, .int .i64 10] 24)).alloc (.cells #[.int .i64 2, .int .i64 2] 3)).alloc (.cells #[.int .i64 1, .int .i64 (-2)] 3) by rw [hV, hW9])
  have hsV : W9.heap.size = w9.heap.size + 1 := by rw [hW9]; simp
  replace kx := kx.step hb
  replace kl := kl.step hb
  replace ra := ra.step hb
  replace rb := rb.step hb
  replace kc := kc.step hb
  replace ks := ks.step hb
  replace hbw := hbw.trans (hb.mono hbw.size)
  clear hb
  have hT := Same_any V0.heap.size A1 B1 _ _ 2 2 2 2 c1 d1 2 2 2 2 _ _ _ _ V0 kx.2.1 kx.2.2 p1 p2 (Nat.le_refl _) rfl rfl rfl rfl (by unfold maxLen; omega) (by unfold maxLen; omega)
  rw [show sameB [2, 2] [1, -2] 2 [2, 2] [1, -2] 2 = true from by decide +kernel, hsV] at hT
  clear p1 p2 hV hW9 hsV
  go_wp2_with fail
  rw [← HW.out]
  clear HW kxc kxl kxk
  refine hT.mono ?_
  rintro e w10 ⟨rfl, hb⟩
  clear hT
  replace kx := kx.step hb
  replace kl := kl.step hb
  replace ra := ra.step hb
  replace rb := rb.step hb
  replace kc := kc.step hb
  replace ks := ks.step hb
  replace hbw := hbw.trans (hb.mono hbw.size)
  clear hb
  obtain ⟨kcc, kcl, kck⟩ := kc.1.cells
  obtain ⟨V0, hV, p1, p2, hb⟩ := two_lit w10 #[.int .i64 2, .int .i64 1, .int .i64 1] #[.int .i64 1, .int .i64 2, .int .i64 3] [2, 1, 1] [1, 2, 3] (by decide) (by decide) rfl rfl
  have HW := Lib.hid hV
  replace kx := kx.step hb
  replace kl := kl.step hb
  replace ra := ra.step hb
  replace rb := rb.step hb
  replace kc := kc.step hb
  replace ks := ks.step hb
  replace hbw := hbw.trans (hb.mono hbw.size)
  clear hb
  have hT := Same_any V0.heap.size A8 B8 _ _ 3 3 3 3 c8 d8 3 3 3 3 _ _ _ _ V0 kc.2.1 kc.2.2 p1 p2 (Nat.le_refl _) rfl rfl rfl rfl (by unfold maxLen; omega) (by unfold maxLen; omega)
  rw [show sameB [2, 1, 1] [1, 2, 3] 3 [2, 1, 1] [1, 2, 3] 3 = true from by decide +kernel] at hT
  clear p1 p2 hV
  go_wp2_with fail
  rw [← HW.out]
  clear HW kcc kcl kck
  refine hT.mono ?_
  rintro e w11 ⟨rfl, hb⟩
  clear hT
  replace kx := kx.step hb
  replace kl := kl.step hb
  replace ra := ra.step hb
  replace rb := rb.step hb
  replace kc := kc.step hb
  replace ks := ks.step hb
  replace hbw := hbw.trans (hb.mono hbw.size)
  clear hb
  obtain ⟨V0, hV, p1, hb⟩ := one_lit w11 #[.int .i64 1] [1] (by decide) rfl
  have HW := Lib.hid hV
  clear hV
  replace kx := kx.step hb
  replace kl := kl.step hb
  replace ra := ra.step hb
  replace rb := rb.step hb
  replace kc := kc.step hb
  replace ks := ks.step hb
  replace hbw := hbw.trans (hb.mono hbw.size)
  clear hb
  have hT := Ints_low V0.heap.size V0.heap.size A5 _ 1 1 c5 1 _ _ V0 ra p1 rfl rfl (by unfold maxLen; omega)
  rw [show decide (([1] : List Int) = [1]) = true from by decide +kernel] at hT
  clear p1
  go_wp2_with fail
  rw [← HW.out]
  clear HW
  refine hT.mono ?_
  rintro e w12 ⟨rfl, hb⟩
  clear hT
  replace kx := kx.step hb
  replace kl := kl.step hb
  replace ra := ra.step hb
  replace rb := rb.step hb
  replace kc := kc.step hb
  replace ks := ks.step hb
  replace hbw := hbw.trans (hb.mono hbw.size)
  clear hb
  obtain ⟨V0, hV, p1, hb⟩ := one_lit w12 #[.int .i64 1, .int .i64 3] [1, 3] (by decide) rfl
  have HW := Lib.hid hV
  clear hV
  replace kx := kx.step hb
  replace kl := kl.step hb
  replace ra := ra.step hb
  replace rb := rb.step hb
  replace kc := kc.step hb
  replace ks := ks.step hb
  replace hbw := hbw.trans (hb.mono hbw.size)
  clear hb
  have hT := Ints_low V0.heap.size V0.heap.size A6 _ 2 2 c6 2 _ _ V0 rb p1 rfl rfl (by unfold maxLen; omega)
  rw [show decide (([1, 3] : List Int) = [1, 3]) = true from by decide +kernel] at hT
  clear p1
  go_wp2_with fail
  rw [← HW.out]
  clear HW
  refine hT.mono ?_
  rintro e w13 ⟨rfl, hb⟩
  clear hT
  replace kx := kx.step hb
  replace kl := kl.step hb
  replace ra := ra.step hb
  replace rb := rb.step hb
  replace kc := kc.step hb
  replace ks := ks.step hb
  replace hbw := hbw.trans (hb.mono hbw.size)
  clear hb
  obtain ⟨V0, hV, p1, hb⟩ := bool_lit w13 #[.bool false, .bool true, .bool true] [false, true, true] rfl
  have HW := Lib.hid hV
  obtain ⟨ksc, ksl, ksk⟩ := ks.1.cells
  obtain ⟨klc, kll, klk⟩ := kl.1.cells
  replace kx := kx.step hb
  replace kl := kl.step hb
  replace ra := ra.step hb
  replace rb := rb.step hb
  replace kc := kc.step hb
  replace ks := ks.step hb
  replace hbw := hbw.trans (hb.mono hbw.size)
  clear hb
  have hT := LV V0 _ _ _ 3 3 3 3 [false, true, true] true kl.2.1 kl.2.2 p1 rfl (by omega) (by decide +kernel)
  clear p1 hV
  go_wp2_with fail
  rw [← HW.out]
  clear HW klc kll klk ksc ksl ksk
  refine hT.mono ?_
  rintro e w14 ⟨rfl, hb⟩
  clear hT
  replace kx := kx.step hb
  replace kl := kl.step hb
  replace ra := ra.step hb
  replace rb := rb.step hb
  replace kc := kc.step hb
  replace ks := ks.step hb
  replace hbw := hbw.trans (hb.mono hbw.size)
  clear hb
  obtain ⟨V0, hV, p1, hb⟩ := bool_lit w14 #[.bool false, .bool true] [false, true] rfl
  have HW := Lib.hid hV
  obtain ⟨klc, kll, klk⟩ := kl.1.cells
  replace kx := kx.step hb
  replace kl := kl.step hb
  replace ra := ra.step hb
  replace rb := rb.step hb
  replace kc := kc.step hb
  replace ks := ks.step hb
  replace hbw := hbw.trans (hb.mono hbw.size)
  clear hb
  have hT := LV V0 _ _ _ 3 3 2 2 [false, true] false kl.2.1 kl.2.2 p1 rfl (by omega) (by decide +kernel)
  clear p1 hV
  go_wp2_with fail
  rw [← HW.out]
  clear HW klc kll klk 
  refine hT.mono ?_
  rintro e w15 ⟨rfl, hb⟩
  clear hT
  replace kx := kx.step hb
  replace kl := kl.step hb
  replace ra := ra.step hb
  replace rb := rb.step hb
  replace kc := kc.step hb
  replace ks := ks.step hb
  replace hbw := hbw.trans (hb.mono hbw.size)
  clear hb
  obtain ⟨klc, kll, klk⟩ := kl.1.cells
  have hT := (LK w15 _ _ 3 3 kl.2.1 kl.2.2).1
  go_wp2_with fail
  clear klc kll klk
  refine hT.mono ?_
  rintro e w16 ⟨rfl, hb⟩
  clear hT
  replace kx := kx.step hb
  replace kl := kl.step hb
  replace ra := ra.step hb
  replace rb := rb.step hb
  replace kc := kc.step hb
  replace ks := ks.step hb
  replace hbw := hbw.trans (hb.mono hbw.size)
  clear hb
  obtain ⟨klc, kll, klk⟩ := kl.1.cells
  have hT := (LK w16 _ _ 3 3 kl.2.1 kl.2.2).2
  go_wp2_with fail
  clear klc kll klk
  refine hT.mono ?_
  rintro e w17 ⟨rfl, hb⟩
  clear hT
  replace kx := kx.step hb
  replace kl := kl.step hb
  replace ra := ra.step hb
  replace rb := rb.step hb
  replace kc := kc.step hb
  replace ks := ks.step hb
  replace hbw := hbw.trans (hb.mono hbw.size)
  clear hb
  obtain ⟨klc, kll, klk⟩ := kl.1.cells
  obtain ⟨kcc, kcl, kck⟩ := kc.1.cells
  have hT := Same_any w17.heap.size _ _ A8 B8 3 3 3 3 3 3 c8 d8 5 3 _ _ _ _ w17 kl.2.1 kl.2.2 kc.2.1 kc.2.2 (Nat.le_refl _) rfl rfl rfl rfl (by unfold maxLen; omega) (by unfold maxLen; omega)
  rw [show sameB [3, 2, 2] [1, 2, 3] 5 [2, 1, 1] [1, 2, 3] 3 = false from by decide +kernel] at hT
  go_wp2_with fail
  clear klc kll klk kcc kcl kck
  refine hT.mono ?_
  rintro e w18 ⟨rfl, hb⟩
  clear hT
  replace kx := kx.step hb
  replace kl := kl.step hb
  replace ra := ra.step hb
  replace rb := rb.step hb
  replace kc := kc.step hb
  replace ks := ks.step hb
  replace hbw := hbw.trans (hb.mono hbw.size)
  clear hb
  have fin := Lib.hid hbw
  clear hbw kx kl ra rb kc ks
  go_wp2_with fail
  go_ret
  exact ⟨rfl, fin.out⟩
end Go.Proofs.Ytoacfjmefoiflaa
