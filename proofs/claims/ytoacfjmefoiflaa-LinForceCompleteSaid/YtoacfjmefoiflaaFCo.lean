/- The walk of the law LinForceComplete where there is nothing to check. -/
import Derived.Test.YtoacfjmefoiflaaFCM
import Derived.Test.YtoacfjmefoiflaaAgr
import Derived.Test.YtoacfjmefoiflaaRChk
import Derived.Test.YtoacfjmefoiflaaLive
namespace Go.Proofs.Ytoacfjmefoiflaa
open Go.ChangeShapes Go.WideShapes Go.ChangeAt Go.RowKit
set_option maxRecDepth 100000

set_option maxHeartbeats 4000000 in
theorem fcw_out0 (A1 L1 A2 : Option Addr) (n1 m1 n2 c1 d1 c2 : Nat) (k : Int) (w : World) (r : Bool) (hU : ∀ W, Below w.heap.size w W → Calls Try.prog 31 #[.slice A2 n2 c2, .int .i64 8] W fun e w' => e = .returned (.bool r) ∧ Below W.heap.size W w') (hyp : ¬ (n1 ≤ 60 ∧ m1 ≤ 60)) :
    Calls Try.prog 8 #[.agg #[.slice A1 n1 c1, .slice L1 m1 d1, .int .i64 k], .slice A2 n2 c2] w fun e w' => e = .returned (.bool true) ∧ Below w.heap.size w w' := by
  obtain ⟨W1, hW1⟩ : ∃ W, W = w.alloc (.cells #[.slice A1 n1 c1, .slice L1 m1 d1, .int .i64 k] 24) := ⟨_, rfl⟩
  have low : Below w.heap.size w W1 := by rw [hW1]; exact (Below.refl _ _).alloc (Nat.le_refl _) _
  have hat1 : LinAt W1 w.heap.size (.slice A1 n1 c1) (.slice L1 m1 d1) k 24 := by rw [hW1]; exact heap_alloc_new _ _
  have hF1 := fun W => few_any A1 L1 n1 m1 c1 d1 k W
  have HU := Lib.hid hU
  have HW := Lib.hid hW1
  have HA := Lib.hid hat1
  clear hW1 hat1 hU
  rw [decide_eq_false hyp] at hF1
  clear hyp
  have HF1 := Lib.hid hF1
  clear hF1
  go_enter Try.func8, Try.ntmps8
  go_wp2_with fail
  rw [← HW.out]
  clear HW
  refine (live_any W1).mono ?_
  rintro e y1 ⟨rfl, hb⟩
  have low := low.trans (hb.mono low.size)
  have HA := Lib.hid (HA.out.below hb)
  clear hb 
  obtain ⟨aC, aL, aK⟩ := (HA.out).cells
  have hUx := Lib.hid (HU.out _ low)
  go_wp2_with fail
  refine (hUx.out).mono ?_
  rintro e y2 ⟨rfl, hb⟩
  clear aC aL aK
  have low := low.trans (hb.mono low.size)
  have HA := Lib.hid (HA.out.below hb)
  clear hb 
  obtain ⟨aC, aL, aK⟩ := (HA.out).cells
  clear hUx HU
  go_wp2_with fail
  refine (HF1.out _).mono ?_
  rintro e y3 ⟨rfl, hb⟩
  clear aC aL aK
  have low := low.trans (hb.mono low.size)
  have HA := Lib.hid (HA.out.below hb)
  clear hb 
  obtain ⟨aC, aL, aK⟩ := (HA.out).cells
  clear HF1
  have fin := Lib.hid low
  clear aC aL aK
  clear low HA
  go_wp2_with fail
  go_ret
  exact ⟨rfl, fin.out⟩
set_option maxHeartbeats 4000000 in
theorem fcw_out1 (A1 L1 A2 : Option Addr) (n1 m1 n2 c1 d1 c2 : Nat) (k : Int) (w : World) (r : Bool) (hU : ∀ W, Below w.heap.size w W → Calls Try.prog 31 #[.slice A2 n2 c2, .int .i64 8] W fun e w' => e = .returned (.bool r) ∧ Below W.heap.size W w') (hyp : (n1 ≤ 60 ∧ m1 ≤ 60) ∧ 8 < n2) :
    Calls Try.prog 8 #[.agg #[.slice A1 n1 c1, .slice L1 m1 d1, .int .i64 k], .slice A2 n2 c2] w fun e w' => e = .returned (.bool true) ∧ Below w.heap.size w w' := by
  obtain ⟨W1, hW1⟩ : ∃ W, W = w.alloc (.cells #[.slice A1 n1 c1, .slice L1 m1 d1, .int .i64 k] 24) := ⟨_, rfl⟩
  have low : Below w.heap.size w W1 := by rw [hW1]; exact (Below.refl _ _).alloc (Nat.le_refl _) _
  have hat1 : LinAt W1 w.heap.size (.slice A1 n1 c1) (.slice L1 m1 d1) k 24 := by rw [hW1]; exact heap_alloc_new _ _
  have hF1 := fun W => few_any A1 L1 n1 m1 c1 d1 k W
  have HU := Lib.hid hU
  have HW := Lib.hid hW1
  have HA := Lib.hid hat1
  clear hW1 hat1 hU
  rw [decide_eq_true hyp.1] at hF1
  obtain ⟨_, hq⟩ := hyp
  have fn21 : decide ((n2 : Int) > 8) = true := decide_eq_true (by omega)
  have fn22 : decide ((8 : Int) < (n2 : Int)) = true := decide_eq_true (by omega)
  have fn23 : decide (8 < n2) = true := decide_eq_true (by omega)
  clear hq
  have HF1 := Lib.hid hF1
  clear hF1
  go_enter Try.func8, Try.ntmps8
  go_wp2_with fail
  rw [← HW.out]
  clear HW
  refine (live_any W1).mono ?_
  rintro e y1 ⟨rfl, hb⟩
  have low := low.trans (hb.mono low.size)
  have HA := Lib.hid (HA.out.below hb)
  clear hb 
  obtain ⟨aC, aL, aK⟩ := (HA.out).cells
  have hUx := Lib.hid (HU.out _ low)
  go_wp2_with fail
  refine (hUx.out).mono ?_
  rintro e y2 ⟨rfl, hb⟩
  clear aC aL aK
  have low := low.trans (hb.mono low.size)
  have HA := Lib.hid (HA.out.below hb)
  clear hb 
  obtain ⟨aC, aL, aK⟩ := (HA.out).cells
  clear hUx HU
  go_wp2_with fail
  refine (HF1.out _).mono ?_
  rintro e y3 ⟨rfl, hb⟩
  clear aC aL aK
  have low := low.trans (hb.mono low.size)
  have HA := Lib.hid (HA.out.below hb)
  clear hb 
  obtain ⟨aC, aL, aK⟩ := (HA.out).cells
  clear HF1
  have fin := Lib.hid low
  clear aC aL aK
  clear low HA
  go_wp2_with fail
  go_ret
  exact ⟨rfl, fin.out⟩
set_option maxHeartbeats 4000000 in
theorem fcw_out2 (A1 L1 A2 : Option Addr) (n1 m1 n2 c1 d1 c2 : Nat) (k : Int) (w : World) (hU : ∀ W, Below w.heap.size w W → Calls Try.prog 31 #[.slice A2 n2 c2, .int .i64 8] W fun e w' => e = .returned (.bool false) ∧ Below W.heap.size W w') (hyp : (n1 ≤ 60 ∧ m1 ≤ 60) ∧ n2 ≤ 8) :
    Calls Try.prog 8 #[.agg #[.slice A1 n1 c1, .slice L1 m1 d1, .int .i64 k], .slice A2 n2 c2] w fun e w' => e = .returned (.bool true) ∧ Below w.heap.size w w' := by
  obtain ⟨W1, hW1⟩ : ∃ W, W = w.alloc (.cells #[.slice A1 n1 c1, .slice L1 m1 d1, .int .i64 k] 24) := ⟨_, rfl⟩
  have low : Below w.heap.size w W1 := by rw [hW1]; exact (Below.refl _ _).alloc (Nat.le_refl _) _
  have hat1 : LinAt W1 w.heap.size (.slice A1 n1 c1) (.slice L1 m1 d1) k 24 := by rw [hW1]; exact heap_alloc_new _ _
  have hF1 := fun W => few_any A1 L1 n1 m1 c1 d1 k W
  have HU := Lib.hid hU
  have HW := Lib.hid hW1
  have HA := Lib.hid hat1
  clear hW1 hat1 hU
  rw [decide_eq_true hyp.1] at hF1
  obtain ⟨_, hq⟩ := hyp
  have fn21 : decide ((n2 : Int) > 8) = false := decide_eq_false (by omega)
  have fn22 : decide ((8 : Int) < (n2 : Int)) = false := decide_eq_false (by omega)
  have fn23 : decide (8 < n2) = false := decide_eq_false (by omega)
  clear hq
  have HF1 := Lib.hid hF1
  clear hF1
  go_enter Try.func8, Try.ntmps8
  go_wp2_with fail
  rw [← HW.out]
  clear HW
  refine (live_any W1).mono ?_
  rintro e y1 ⟨rfl, hb⟩
  have low := low.trans (hb.mono low.size)
  have HA := Lib.hid (HA.out.below hb)
  clear hb 
  obtain ⟨aC, aL, aK⟩ := (HA.out).cells
  have hUx := Lib.hid (HU.out _ low)
  go_wp2_with fail
  refine (hUx.out).mono ?_
  rintro e y2 ⟨rfl, hb⟩
  clear aC aL aK
  have low := low.trans (hb.mono low.size)
  have HA := Lib.hid (HA.out.below hb)
  clear hb 
  obtain ⟨aC, aL, aK⟩ := (HA.out).cells
  clear hUx HU
  go_wp2_with fail
  refine (HF1.out _).mono ?_
  rintro e y3 ⟨rfl, hb⟩
  clear aC aL aK
  have low := low.trans (hb.mono low.size)
  have HA := Lib.hid (HA.out.below hb)
  clear hb 
  obtain ⟨aC, aL, aK⟩ := (HA.out).cells
  clear HF1
  have fin := Lib.hid low
  clear aC aL aK
  clear low HA
  go_wp2_with fail
  go_ret
  exact ⟨rfl, fin.out⟩
set_option maxHeartbeats 4000000 in
theorem fcw_out3 (A1 L1 A2 : Option Addr) (n1 m1 n2 c1 d1 c2 : Nat) (k : Int) (w : World) (hU : ∀ W, Below w.heap.size w W → Calls Try.prog 31 #[.slice A2 n2 c2, .int .i64 8] W fun e w' => e = .returned (.bool true) ∧ Below W.heap.size W w') (hyp : (n1 ≤ 60 ∧ m1 ≤ 60) ∧ n2 ≤ 8) (hCk : ∀ W, Below w.heap.size w W → Calls Try.prog 17 #[.agg #[.slice A1 n1 c1, .slice L1 m1 d1, .int .i64 k], .int .i64 8] W fun e w' => e = .returned (.int .i64 1) ∧ Below W.heap.size W w') :
    Calls Try.prog 8 #[.agg #[.slice A1 n1 c1, .slice L1 m1 d1, .int .i64 k], .slice A2 n2 c2] w fun e w' => e = .returned (.bool true) ∧ Below w.heap.size w w' := by
  obtain ⟨W1, hW1⟩ : ∃ W, W = w.alloc (.cells #[.slice A1 n1 c1, .slice L1 m1 d1, .int .i64 k] 24) := ⟨_, rfl⟩
  have low : Below w.heap.size w W1 := by rw [hW1]; exact (Below.refl _ _).alloc (Nat.le_refl _) _
  have hat1 : LinAt W1 w.heap.size (.slice A1 n1 c1) (.slice L1 m1 d1) k 24 := by rw [hW1]; exact heap_alloc_new _ _
  have hF1 := fun W => few_any A1 L1 n1 m1 c1 d1 k W
  have HU := Lib.hid hU
  have HW := Lib.hid hW1
  have HA := Lib.hid hat1
  clear hW1 hat1 hU
  rw [decide_eq_true hyp.1] at hF1
  obtain ⟨_, hq⟩ := hyp
  have fn21 : decide ((n2 : Int) > 8) = false := decide_eq_false (by omega)
  have fn22 : decide ((8 : Int) < (n2 : Int)) = false := decide_eq_false (by omega)
  have fn23 : decide (8 < n2) = false := decide_eq_false (by omega)
  clear hq
  have HCk := Lib.hid hCk
  clear hCk
  have HF1 := Lib.hid hF1
  clear hF1
  go_enter Try.func8, Try.ntmps8
  go_wp2_with fail
  rw [← HW.out]
  clear HW
  refine (live_any W1).mono ?_
  rintro e y1 ⟨rfl, hb⟩
  have low := low.trans (hb.mono low.size)
  have HA := Lib.hid (HA.out.below hb)
  clear hb 
  obtain ⟨aC, aL, aK⟩ := (HA.out).cells
  have hUx := Lib.hid (HU.out _ low)
  go_wp2_with fail
  refine (hUx.out).mono ?_
  rintro e y2 ⟨rfl, hb⟩
  clear aC aL aK
  have low := low.trans (hb.mono low.size)
  have HA := Lib.hid (HA.out.below hb)
  clear hb 
  obtain ⟨aC, aL, aK⟩ := (HA.out).cells
  clear hUx HU
  go_wp2_with fail
  refine (HF1.out _).mono ?_
  rintro e y3 ⟨rfl, hb⟩
  clear aC aL aK
  have low := low.trans (hb.mono low.size)
  have HA := Lib.hid (HA.out.below hb)
  clear hb 
  obtain ⟨aC, aL, aK⟩ := (HA.out).cells
  clear HF1
  have hC := Lib.hid (HCk.out _ low)
  go_wp2_with fail
  refine (hC.out).mono ?_
  rintro e y4 ⟨rfl, hb⟩
  clear aC aL aK
  have low := low.trans (hb.mono low.size)
  have HA := Lib.hid (HA.out.below hb)
  clear hb 
  obtain ⟨aC, aL, aK⟩ := (HA.out).cells
  clear hC HCk
  have fin := Lib.hid low
  clear aC aL aK
  clear low HA
  go_wp2_with fail
  go_ret
  exact ⟨rfl, fin.out⟩
end Go.Proofs.Ytoacfjmefoiflaa
