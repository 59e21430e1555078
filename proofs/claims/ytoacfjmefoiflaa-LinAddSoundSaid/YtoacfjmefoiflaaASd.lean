/- The walk of the law LinAddSound. -/
import Derived.Test.YtoacfjmefoiflaaTruths
import Derived.Test.YtoacfjmefoiflaaNEq
namespace Go.Proofs.Ytoacfjmefoiflaa
open Go.ChangeShapes Go.WideShapes Go.ChangeAt Go.RowKit
set_option maxRecDepth 100000

set_option maxHeartbeats 4000000 in
theorem asd_out0 (A1 L1 A2 L2 : Option Addr) (n1 m1 n2 m2 c1 d1 c2 d2 : Nat) (k k2 : Int) (cs ls cs2 ls2 : List Int) (w : World) (r1 : RdI w.heap.size w A1 cs) (r2 : RdI w.heap.size w L1 ls) (r3 : RdI w.heap.size w A2 cs2) (r4 : RdI w.heap.size w L2 ls2) (h1 : cs.length = n1) (h2 : ls.length = m1) (h3 : cs2.length = n2) (h4 : ls2.length = m2) (hyp : ¬ (n1 ≤ 60 ∧ m1 ≤ 60)) :
    Calls Try.prog 9 #[.agg #[.slice A1 n1 c1, .slice L1 m1 d1, .int .i64 k], .agg #[.slice A2 n2 c2, .slice L2 m2 d2, .int .i64 k2]] w fun e w' => e = .returned (.bool true) ∧ Below w.heap.size w w' := by
  obtain ⟨W1, hW1⟩ : ∃ W, W = (w.alloc (.cells #[.slice A1 n1 c1, .slice L1 m1 d1, .int .i64 k] 24)).alloc (.cells #[.slice A2 n2 c2, .slice L2 m2 d2, .int .i64 k2] 24) := ⟨_, rfl⟩
  have low : Below w.heap.size w W1 := by rw [hW1]; exact ((Below.refl _ _).alloc (Nat.le_refl _) _).alloc (by simp) _
  have hat1 : LinAt W1 w.heap.size (.slice A1 n1 c1) (.slice L1 m1 d1) k 24 := by rw [hW1]; exact (heap_alloc_old _ _ (by simp)).trans (heap_alloc_new _ _)
  have hat2 : LinAt W1 (w.heap.size + 1) (.slice A2 n2 c2) (.slice L2 m2 d2) k2 24 := by
    have := heap_alloc_new (w.alloc (.cells #[.slice A1 n1 c1, .slice L1 m1 d1, .int .i64 k] 24)) (.cells #[.slice A2 n2 c2, .slice L2 m2 d2, .int .i64 k2] 24)
    rw [World.size_alloc] at this
    rw [hW1]; exact this
  have hF1 := fun W => few_any A1 L1 n1 m1 c1 d1 k W
  have hF2 := fun W => few_any A2 L2 n2 m2 c2 d2 k2 W
  have hK1 := fun W (h : Below w.heap.size w W) => fun (hm : m1 ≤ 60) => LinCheck_any w.heap.size A1 L1 n1 m1 c1 d1 k 8 cs ls W (r1.below h (Nat.le_refl _)) (r2.below h (Nat.le_refl _)) h.size h1 h2 (by omega) (by omega) (by omega)
  have hK2 := fun W (h : Below w.heap.size w W) => fun (hm : m2 ≤ 60) => LinCheck_any w.heap.size A2 L2 n2 m2 c2 d2 k2 8 cs2 ls2 W (r3.below h (Nat.le_refl _)) (r4.below h (Nat.le_refl _)) h.size h3 h4 (by omega) (by omega) (by omega)
  have HW := Lib.hid hW1
  have HA := Lib.hid (And.intro hat1 hat2)
  clear hW1 hat1 hat2
  rw [decide_eq_false hyp] at hF1
  have HF1 := Lib.hid hF1
  have HF2 := Lib.hid hF2
  clear hF1 hF2 hK1 hK2 r1 r2 r3 r4 h1 h2 h3 h4 hyp
  go_enter Try.func9, Try.ntmps9
  go_wp2_with fail
  rw [← HW.out]
  clear HW
  refine (live_any W1).mono ?_
  rintro e y1 ⟨rfl, hb⟩
  have low := low.trans (hb.mono low.size)
  have HA := Lib.hid (And.intro (HA.out.1.below hb) (HA.out.2.below hb))
  clear hb 
  obtain ⟨aC, aL, aK⟩ := (HA.out.1).cells
  obtain ⟨bC, bL, bK⟩ := (HA.out.2).cells
  go_wp2_with fail
  refine (HF1.out _).mono ?_
  rintro e y2 ⟨rfl, hb⟩
  clear aC aL aK
  clear bC bL bK
  have low := low.trans (hb.mono low.size)
  have HA := Lib.hid (And.intro (HA.out.1.below hb) (HA.out.2.below hb))
  clear hb 
  obtain ⟨aC, aL, aK⟩ := (HA.out.1).cells
  obtain ⟨bC, bL, bK⟩ := (HA.out.2).cells
  have fin := Lib.hid low
  clear aC aL aK
  clear bC bL bK
  clear low HA
  go_wp2_with fail
  go_ret
  exact ⟨rfl, fin.out⟩
set_option maxHeartbeats 4000000 in
theorem asd_out1 (A1 L1 A2 L2 : Option Addr) (n1 m1 n2 m2 c1 d1 c2 d2 : Nat) (k k2 : Int) (cs ls cs2 ls2 : List Int) (w : World) (r1 : RdI w.heap.size w A1 cs) (r2 : RdI w.heap.size w L1 ls) (r3 : RdI w.heap.size w A2 cs2) (r4 : RdI w.heap.size w L2 ls2) (h1 : cs.length = n1) (h2 : ls.length = m1) (h3 : cs2.length = n2) (h4 : ls2.length = m2) (hyp : (n1 ≤ 60 ∧ m1 ≤ 60) ∧ ¬ (n2 ≤ 60 ∧ m2 ≤ 60)) :
    Calls Try.prog 9 #[.agg #[.slice A1 n1 c1, .slice L1 m1 d1, .int .i64 k], .agg #[.slice A2 n2 c2, .slice L2 m2 d2, .int .i64 k2]] w fun e w' => e = .returned (.bool true) ∧ Below w.heap.size w w' := by
  obtain ⟨W1, hW1⟩ : ∃ W, W = (w.alloc (.cells #[.slice A1 n1 c1, .slice L1 m1 d1, .int .i64 k] 24)).alloc (.cells #[.slice A2 n2 c2, .slice L2 m2 d2, .int .i64 k2] 24) := ⟨_, rfl⟩
  have low : Below w.heap.size w W1 := by rw [hW1]; exact ((Below.refl _ _).alloc (Nat.le_refl _) _).alloc (by simp) _
  have hat1 : LinAt W1 w.heap.size (.slice A1 n1 c1) (.slice L1 m1 d1) k 24 := by rw [hW1]; exact (heap_alloc_old _ _ (by simp)).trans (heap_alloc_new _ _)
  have hat2 : LinAt W1 (w.heap.size + 1) (.slice A2 n2 c2) (.slice L2 m2 d2) k2 24 := by
    have := heap_alloc_new (w.alloc (.cells #[.slice A1 n1 c1, .slice L1 m1 d1, .int .i64 k] 24)) (.cells #[.slice A2 n2 c2, .slice L2 m2 d2, .int .i64 k2] 24)
    rw [World.size_alloc] at this
    rw [hW1]; exact this
  have hF1 := fun W => few_any A1 L1 n1 m1 c1 d1 k W
  have hF2 := fun W => few_any A2 L2 n2 m2 c2 d2 k2 W
  have hK1 := fun W (h : Below w.heap.size w W) => fun (hm : m1 ≤ 60) => LinCheck_any w.heap.size A1 L1 n1 m1 c1 d1 k 8 cs ls W (r1.below h (Nat.le_refl _)) (r2.below h (Nat.le_refl _)) h.size h1 h2 (by omega) (by omega) (by omega)
  have hK2 := fun W (h : Below w.heap.size w W) => fun (hm : m2 ≤ 60) => LinCheck_any w.heap.size A2 L2 n2 m2 c2 d2 k2 8 cs2 ls2 W (r3.below h (Nat.le_refl _)) (r4.below h (Nat.le_refl _)) h.size h3 h4 (by omega) (by omega) (by omega)
  have HW := Lib.hid hW1
  have HA := Lib.hid (And.intro hat1 hat2)
  clear hW1 hat1 hat2
  rw [decide_eq_true hyp.1] at hF1
  rw [decide_eq_false hyp.2] at hF2
  have HF1 := Lib.hid hF1
  have HF2 := Lib.hid hF2
  clear hF1 hF2 hK1 hK2 r1 r2 r3 r4 h1 h2 h3 h4 hyp
  go_enter Try.func9, Try.ntmps9
  go_wp2_with fail
  rw [← HW.out]
  clear HW
  refine (live_any W1).mono ?_
  rintro e y1 ⟨rfl, hb⟩
  have low := low.trans (hb.mono low.size)
  have HA := Lib.hid (And.intro (HA.out.1.below hb) (HA.out.2.below hb))
  clear hb 
  obtain ⟨aC, aL, aK⟩ := (HA.out.1).cells
  obtain ⟨bC, bL, bK⟩ := (HA.out.2).cells
  go_wp2_with fail
  refine (HF1.out _).mono ?_
  rintro e y2 ⟨rfl, hb⟩
  clear aC aL aK
  clear bC bL bK
  have low := low.trans (hb.mono low.size)
  have HA := Lib.hid (And.intro (HA.out.1.below hb) (HA.out.2.below hb))
  clear hb 
  obtain ⟨aC, aL, aK⟩ := (HA.out.1).cells
  obtain ⟨bC, bL, bK⟩ := (HA.out.2).cells
  go_wp2_with fail
  refine (HF2.out _).mono ?_
  rintro e y3 ⟨rfl, hb⟩
  clear aC aL aK
  clear bC bL bK
  have low := low.trans (hb.mono low.size)
  have HA := Lib.hid (And.intro (HA.out.1.below hb) (HA.out.2.below hb))
  clear hb 
  obtain ⟨aC, aL, aK⟩ := (HA.out.1).cells
  obtain ⟨bC, bL, bK⟩ := (HA.out.2).cells
  have fin := Lib.hid low
  clear aC aL aK
  clear bC bL bK
  clear low HA
  go_wp2_with fail
  go_ret
  exact ⟨rfl, fin.out⟩
set_option maxHeartbeats 4000000 in
theorem asd_out2 (A1 L1 A2 L2 : Option Addr) (n1 m1 n2 m2 c1 d1 c2 d2 : Nat) (k k2 : Int) (cs ls cs2 ls2 : List Int) (w : World) (r1 : RdI w.heap.size w A1 cs) (r2 : RdI w.heap.size w L1 ls) (r3 : RdI w.heap.size w A2 cs2) (r4 : RdI w.heap.size w L2 ls2) (h1 : cs.length = n1) (h2 : ls.length = m1) (h3 : cs2.length = n2) (h4 : ls2.length = m2) (hyp : (n1 ≤ 60 ∧ m1 ≤ 60) ∧ (n2 ≤ 60 ∧ m2 ≤ 60) ∧ ¬ OkL cs ls k 8) :
    Calls Try.prog 9 #[.agg #[.slice A1 n1 c1, .slice L1 m1 d1, .int .i64 k], .agg #[.slice A2 n2 c2, .slice L2 m2 d2, .int .i64 k2]] w fun e w' => e = .returned (.bool true) ∧ Below w.heap.size w w' := by
  obtain ⟨W1, hW1⟩ : ∃ W, W = (w.alloc (.cells #[.slice A1 n1 c1, .slice L1 m1 d1, .int .i64 k] 24)).alloc (.cells #[.slice A2 n2 c2, .slice L2 m2 d2, .int .i64 k2] 24) := ⟨_, rfl⟩
  have low : Below w.heap.size w W1 := by rw [hW1]; exact ((Below.refl _ _).alloc (Nat.le_refl _) _).alloc (by simp) _
  have hat1 : LinAt W1 w.heap.size (.slice A1 n1 c1) (.slice L1 m1 d1) k 24 := by rw [hW1]; exact (heap_alloc_old _ _ (by simp)).trans (heap_alloc_new _ _)
  have hat2 : LinAt W1 (w.heap.size + 1) (.slice A2 n2 c2) (.slice L2 m2 d2) k2 24 := by
    have := heap_alloc_new (w.alloc (.cells #[.slice A1 n1 c1, .slice L1 m1 d1, .int .i64 k] 24)) (.cells #[.slice A2 n2 c2, .slice L2 m2 d2, .int .i64 k2] 24)
    rw [World.size_alloc] at this
    rw [hW1]; exact this
  have hF1 := fun W => few_any A1 L1 n1 m1 c1 d1 k W
  have hF2 := fun W => few_any A2 L2 n2 m2 c2 d2 k2 W
  have hK1 := fun W (h : Below w.heap.size w W) => fun (hm : m1 ≤ 60) => LinCheck_any w.heap.size A1 L1 n1 m1 c1 d1 k 8 cs ls W (r1.below h (Nat.le_refl _)) (r2.below h (Nat.le_refl _)) h.size h1 h2 (by omega) (by omega) (by omega)
  have hK2 := fun W (h : Below w.heap.size w W) => fun (hm : m2 ≤ 60) => LinCheck_any w.heap.size A2 L2 n2 m2 c2 d2 k2 8 cs2 ls2 W (r3.below h (Nat.le_refl _)) (r4.below h (Nat.le_refl _)) h.size h3 h4 (by omega) (by omega) (by omega)
  have HW := Lib.hid hW1
  have HA := Lib.hid (And.intro hat1 hat2)
  clear hW1 hat1 hat2
  rw [decide_eq_true hyp.1] at hF1
  rw [decide_eq_true hyp.2.1] at hF2
  have HK1 := Lib.hid (fun W h => (hK1 W h hyp.1.2).2 hyp.2.2)
  have HF1 := Lib.hid hF1
  have HF2 := Lib.hid hF2
  clear hF1 hF2 hK1 hK2 r1 r2 r3 r4 h1 h2 h3 h4 hyp
  go_enter Try.func9, Try.ntmps9
  go_wp2_with fail
  rw [← HW.out]
  clear HW
  refine (live_any W1).mono ?_
  rintro e y1 ⟨rfl, hb⟩
  have low := low.trans (hb.mono low.size)
  have HA := Lib.hid (And.intro (HA.out.1.below hb) (HA.out.2.below hb))
  clear hb 
  obtain ⟨aC, aL, aK⟩ := (HA.out.1).cells
  obtain ⟨bC, bL, bK⟩ := (HA.out.2).cells
  go_wp2_with fail
  refine (HF1.out _).mono ?_
  rintro e y2 ⟨rfl, hb⟩
  clear aC aL aK
  clear bC bL bK
  have low := low.trans (hb.mono low.size)
  have HA := Lib.hid (And.intro (HA.out.1.below hb) (HA.out.2.below hb))
  clear hb 
  obtain ⟨aC, aL, aK⟩ := (HA.out.1).cells
  obtain ⟨bC, bL, bK⟩ := (HA.out.2).cells
  go_wp2_with fail
  refine (HF2.out _).mono ?_
  rintro e y3 ⟨rfl, hb⟩
  clear aC aL aK
  clear bC bL bK
  have low := low.trans (hb.mono low.size)
  have HA := Lib.hid (And.intro (HA.out.1.below hb) (HA.out.2.below hb))
  clear hb 
  obtain ⟨aC, aL, aK⟩ := (HA.out.1).cells
  obtain ⟨bC, bL, bK⟩ := (HA.out.2).cells
  go_wp2_with fail
  refine (HK1.out _ low).mono ?_
  rintro e y4 ⟨rfl, hb⟩
  clear aC aL aK
  clear bC bL bK
  have low := low.trans (hb.mono low.size)
  have HA := Lib.hid (And.intro (HA.out.1.below hb) (HA.out.2.below hb))
  clear hb 
  obtain ⟨aC, aL, aK⟩ := (HA.out.1).cells
  obtain ⟨bC, bL, bK⟩ := (HA.out.2).cells
  have fin := Lib.hid low
  clear aC aL aK
  clear bC bL bK
  clear low HA
  go_wp2_with fail
  go_ret
  exact ⟨rfl, fin.out⟩
set_option maxHeartbeats 4000000 in
theorem asd_out3 (A1 L1 A2 L2 : Option Addr) (n1 m1 n2 m2 c1 d1 c2 d2 : Nat) (k k2 : Int) (cs ls cs2 ls2 : List Int) (w : World) (r1 : RdI w.heap.size w A1 cs) (r2 : RdI w.heap.size w L1 ls) (r3 : RdI w.heap.size w A2 cs2) (r4 : RdI w.heap.size w L2 ls2) (h1 : cs.length = n1) (h2 : ls.length = m1) (h3 : cs2.length = n2) (h4 : ls2.length = m2) (hyp : (n1 ≤ 60 ∧ m1 ≤ 60) ∧ (n2 ≤ 60 ∧ m2 ≤ 60) ∧ OkL cs ls k 8 ∧ ¬ OkL cs2 ls2 k2 8) :
    Calls Try.prog 9 #[.agg #[.slice A1 n1 c1, .slice L1 m1 d1, .int .i64 k], .agg #[.slice A2 n2 c2, .slice L2 m2 d2, .int .i64 k2]] w fun e w' => e = .returned (.bool true) ∧ Below w.heap.size w w' := by
  obtain ⟨W1, hW1⟩ : ∃ W, W = (w.alloc (.cells #[.slice A1 n1 c1, .slice L1 m1 d1, .int .i64 k] 24)).alloc (.cells #[.slice A2 n2 c2, .slice L2 m2 d2, .int .i64 k2] 24) := ⟨_, rfl⟩
  have low : Below w.heap.size w W1 := by rw [hW1]; exact ((Below.refl _ _).alloc (Nat.le_refl _) _).alloc (by simp) _
  have hat1 : LinAt W1 w.heap.size (.slice A1 n1 c1) (.slice L1 m1 d1) k 24 := by rw [hW1]; exact (heap_alloc_old _ _ (by simp)).trans (heap_alloc_new _ _)
  have hat2 : LinAt W1 (w.heap.size + 1) (.slice A2 n2 c2) (.slice L2 m2 d2) k2 24 := by
    have := heap_alloc_new (w.alloc (.cells #[.slice A1 n1 c1, .slice L1 m1 d1, .int .i64 k] 24)) (.cells #[.slice A2 n2 c2, .slice L2 m2 d2, .int .i64 k2] 24)
    rw [World.size_alloc] at this
    rw [hW1]; exact this
  have hF1 := fun W => few_any A1 L1 n1 m1 c1 d1 k W
  have hF2 := fun W => few_any A2 L2 n2 m2 c2 d2 k2 W
  have hK1 := fun W (h : Below w.heap.size w W) => fun (hm : m1 ≤ 60) => LinCheck_any w.heap.size A1 L1 n1 m1 c1 d1 k 8 cs ls W (r1.below h (Nat.le_refl _)) (r2.below h (Nat.le_refl _)) h.size h1 h2 (by omega) (by omega) (by omega)
  have hK2 := fun W (h : Below w.heap.size w W) => fun (hm : m2 ≤ 60) => LinCheck_any w.heap.size A2 L2 n2 m2 c2 d2 k2 8 cs2 ls2 W (r3.below h (Nat.le_refl _)) (r4.below h (Nat.le_refl _)) h.size h3 h4 (by omega) (by omega) (by omega)
  have HW := Lib.hid hW1
  have HA := Lib.hid (And.intro hat1 hat2)
  clear hW1 hat1 hat2
  rw [decide_eq_true hyp.1] at hF1
  rw [decide_eq_true hyp.2.1] at hF2
  have HK1 := Lib.hid (fun W h => (hK1 W h hyp.1.2).1 hyp.2.2.1)
  have HK2 := Lib.hid (fun W h => (hK2 W h hyp.2.1.2).2 hyp.2.2.2)
  have HF1 := Lib.hid hF1
  have HF2 := Lib.hid hF2
  clear hF1 hF2 hK1 hK2 r1 r2 r3 r4 h1 h2 h3 h4 hyp
  go_enter Try.func9, Try.ntmps9
  go_wp2_with fail
  rw [← HW.out]
  clear HW
  refine (live_any W1).mono ?_
  rintro e y1 ⟨rfl, hb⟩
  have low := low.trans (hb.mono low.size)
  have HA := Lib.hid (And.intro (HA.out.1.below hb) (HA.out.2.below hb))
  clear hb 
  obtain ⟨aC, aL, aK⟩ := (HA.out.1).cells
  obtain ⟨bC, bL, bK⟩ := (HA.out.2).cells
  go_wp2_with fail
  refine (HF1.out _).mono ?_
  rintro e y2 ⟨rfl, hb⟩
  clear aC aL aK
  clear bC bL bK
  have low := low.trans (hb.mono low.size)
  have HA := Lib.hid (And.intro (HA.out.1.below hb) (HA.out.2.below hb))
  clear hb 
  obtain ⟨aC, aL, aK⟩ := (HA.out.1).cells
  obtain ⟨bC, bL, bK⟩ := (HA.out.2).cells
  go_wp2_with fail
  refine (HF2.out _).mono ?_
  rintro e y3 ⟨rfl, hb⟩
  clear aC aL aK
  clear bC bL bK
  have low := low.trans (hb.mono low.size)
  have HA := Lib.hid (And.intro (HA.out.1.below hb) (HA.out.2.below hb))
  clear hb 
  obtain ⟨aC, aL, aK⟩ := (HA.out.1).cells
  obtain ⟨bC, bL, bK⟩ := (HA.out.2).cells
  go_wp2_with fail
  refine (HK1.out _ low).mono ?_
  rintro e y4 ⟨rfl, hb⟩
  clear aC aL aK
  clear bC bL bK
  have low := low.trans (hb.mono low.size)
  have HA := Lib.hid (And.intro (HA.out.1.below hb) (HA.out.2.below hb))
  clear hb 
  obtain ⟨aC, aL, aK⟩ := (HA.out.1).cells
  obtain ⟨bC, bL, bK⟩ := (HA.out.2).cells
  go_wp2_with fail
  refine (HK2.out _ low).mono ?_
  rintro e y5 ⟨rfl, hb⟩
  clear aC aL aK
  clear bC bL bK
  have low := low.trans (hb.mono low.size)
  have HA := Lib.hid (And.intro (HA.out.1.below hb) (HA.out.2.below hb))
  clear hb 
  obtain ⟨aC, aL, aK⟩ := (HA.out.1).cells
  obtain ⟨bC, bL, bK⟩ := (HA.out.2).cells
  have fin := Lib.hid low
  clear aC aL aK
  clear bC bL bK
  clear low HA
  go_wp2_with fail
  go_ret
  exact ⟨rfl, fin.out⟩
set_option maxHeartbeats 4000000 in
theorem asd_no (A1 L1 A2 L2 : Option Addr) (n1 n2 c1 d1 c2 d2 : Nat) (k k2 : Int) (cs ls cs2 ls2 : List Int) (w : World) (r1 : RdI w.heap.size w A1 cs) (r2 : RdI w.heap.size w L1 ls) (r3 : RdI w.heap.size w A2 cs2) (r4 : RdI w.heap.size w L2 ls2) (h1 : cs.length = n1) (h2 : ls.length = n1) (h3 : cs2.length = n2) (h4 : ls2.length = n2) (hn1 : n1 ≤ 60) (hn2 : n2 ≤ 60) (ok1 : OkL cs ls k 8) (ok2 : OkL cs2 ls2 k2 8) (hT : numB (k + k2) = false) :
    Calls Try.prog 9 #[.agg #[.slice A1 n1 c1, .slice L1 n1 d1, .int .i64 k], .agg #[.slice A2 n2 c2, .slice L2 n2 d2, .int .i64 k2]] w fun e w' => e = .returned (.bool true) ∧ Below w.heap.size w w' := by
  obtain ⟨W1, hW1⟩ : ∃ W, W = (w.alloc (.cells #[.slice A1 n1 c1, .slice L1 n1 d1, .int .i64 k] 24)).alloc (.cells #[.slice A2 n2 c2, .slice L2 n2 d2, .int .i64 k2] 24) := ⟨_, rfl⟩
  have low : Below w.heap.size w W1 := by rw [hW1]; exact ((Below.refl _ _).alloc (Nat.le_refl _) _).alloc (by simp) _
  have hat1 : LinAt W1 w.heap.size (.slice A1 n1 c1) (.slice L1 n1 d1) k 24 := by rw [hW1]; exact (heap_alloc_old _ _ (by simp)).trans (heap_alloc_new _ _)
  have hat2 : LinAt W1 (w.heap.size + 1) (.slice A2 n2 c2) (.slice L2 n2 d2) k2 24 := by
    have := heap_alloc_new (w.alloc (.cells #[.slice A1 n1 c1, .slice L1 n1 d1, .int .i64 k] 24)) (.cells #[.slice A2 n2 c2, .slice L2 n2 d2, .int .i64 k2] 24)
    rw [World.size_alloc] at this
    rw [hW1]; exact this
  have hF1 := fun W => few_any A1 L1 n1 n1 c1 d1 k W
  have hF2 := fun W => few_any A2 L2 n2 n2 c2 d2 k2 W
  have hK1 := fun W (h : Below w.heap.size w W) => fun (hm : n1 ≤ 60) => LinCheck_any w.heap.size A1 L1 n1 n1 c1 d1 k 8 cs ls W (r1.below h (Nat.le_refl _)) (r2.below h (Nat.le_refl _)) h.size h1 h2 (by omega) (by omega) (by omega)
  have hK2 := fun W (h : Below w.heap.size w W) => fun (hm : n2 ≤ 60) => LinCheck_any w.heap.size A2 L2 n2 n2 c2 d2 k2 8 cs2 ls2 W (r3.below h (Nat.le_refl _)) (r4.below h (Nat.le_refl _)) h.size h3 h4 (by omega) (by omega) (by omega)
  have HW := Lib.hid hW1
  have HA := Lib.hid (And.intro hat1 hat2)
  clear hW1 hat1 hat2
  rw [decide_eq_true (And.intro hn1 hn1)] at hF1
  rw [decide_eq_true (And.intro hn2 hn2)] at hF2
  have HK1 := Lib.hid (fun W h => (hK1 W h hn1).1 ok1)
  have HK2 := Lib.hid (fun W h => (hK2 W h hn2).1 ok2)
  have HF1 := Lib.hid hF1
  have HF2 := Lib.hid hF2
  have HAd := Lib.hid (fun W (h : Below w.heap.size w W) => Add_no3 w.heap.size A1 L1 A2 L2 n1 n2 c1 d1 c2 d2 k k2 (k + k2) cs ls cs2 ls2 W (r1.below h (Nat.le_refl _)) (r2.below h (Nat.le_refl _)) (r3.below h (Nat.le_refl _)) (r4.below h (Nat.le_refl _)) h.size h1 h2 h3 h4 (by omega) (by omega) ok1.up ok2.up rfl hT)
  clear hF1 hF2 hK1 hK2 r1 r2 r3 r4 h1 h2 h3 h4 ok1 ok2 hT
  go_enter Try.func9, Try.ntmps9
  go_wp2_with fail
  rw [← HW.out]
  clear HW
  refine (live_any W1).mono ?_
  rintro e y1 ⟨rfl, hb⟩
  have low := low.trans (hb.mono low.size)
  have HA := Lib.hid (And.intro (HA.out.1.below hb) (HA.out.2.below hb))
  clear hb 
  obtain ⟨aC, aL, aK⟩ := (HA.out.1).cells
  obtain ⟨bC, bL, bK⟩ := (HA.out.2).cells
  go_wp2_with fail
  refine (HF1.out _).mono ?_
  rintro e y2 ⟨rfl, hb⟩
  clear aC aL aK
  clear bC bL bK
  have low := low.trans (hb.mono low.size)
  have HA := Lib.hid (And.intro (HA.out.1.below hb) (HA.out.2.below hb))
  clear hb 
  obtain ⟨aC, aL, aK⟩ := (HA.out.1).cells
  obtain ⟨bC, bL, bK⟩ := (HA.out.2).cells
  go_wp2_with fail
  refine (HF2.out _).mono ?_
  rintro e y3 ⟨rfl, hb⟩
  clear aC aL aK
  clear bC bL bK
  have low := low.trans (hb.mono low.size)
  have HA := Lib.hid (And.intro (HA.out.1.below hb) (HA.out.2.below hb))
  clear hb 
  obtain ⟨aC, aL, aK⟩ := (HA.out.1).cells
  obtain ⟨bC, bL, bK⟩ := (HA.out.2).cells
  go_wp2_with fail
  refine (HK1.out _ low).mono ?_
  rintro e y4 ⟨rfl, hb⟩
  clear aC aL aK
  clear bC bL bK
  have low := low.trans (hb.mono low.size)
  have HA := Lib.hid (And.intro (HA.out.1.below hb) (HA.out.2.below hb))
  clear hb 
  obtain ⟨aC, aL, aK⟩ := (HA.out.1).cells
  obtain ⟨bC, bL, bK⟩ := (HA.out.2).cells
  go_wp2_with fail
  refine (HK2.out _ low).mono ?_
  rintro e y5 ⟨rfl, hb⟩
  clear aC aL aK
  clear bC bL bK
  have low := low.trans (hb.mono low.size)
  have HA := Lib.hid (And.intro (HA.out.1.below hb) (HA.out.2.below hb))
  clear hb 
  obtain ⟨aC, aL, aK⟩ := (HA.out.1).cells
  obtain ⟨bC, bL, bK⟩ := (HA.out.2).cells
  go_wp2_with fail
  refine (HAd.out _ low).mono ?_
  rintro e y6 ⟨rfl, hb⟩
  clear aC aL aK
  clear bC bL bK
  have low := low.trans (hb.mono low.size)
  have HA := Lib.hid (And.intro (HA.out.1.below hb) (HA.out.2.below hb))
  clear hb 
  obtain ⟨aC, aL, aK⟩ := (HA.out.1).cells
  obtain ⟨bC, bL, bK⟩ := (HA.out.2).cells
  obtain ⟨W9, hW9⟩ : ∃ W, W = y6.alloc (.cells #[.slice Option.none 0 0, .slice Option.none 0 0, .int .i64 0] 24) := ⟨_, rfl⟩
  have hx : LinAt W9 y6.heap.size (.slice Option.none 0 0) (.slice Option.none 0 0) 0 24 := by rw [hW9]; exact heap_alloc_new _ _
  have low9 : Below w.heap.size w W9 := by rw [hW9]; exact low.alloc low.size _
  obtain ⟨xC, xL, xK⟩ := hx.cells
  rw [hW9] at xC xL xK low9
  have fin := Lib.hid low9
  clear hx hW9 low low9 HA HAd aC aL aK bC bL bK
  go_wp2_with fail
  go_ret
  exact ⟨rfl, fin.out⟩
set_option maxHeartbeats 16000000 in
theorem asd_main (A1 L1 A2 L2 : Option Addr) (n1 n2 c1 d1 c2 d2 : Nat) (k k2 : Int) (cs ls cs2 ls2 : List Int) (w : World) (r1 : RdI w.heap.size w A1 cs) (r2 : RdI w.heap.size w L1 ls) (r3 : RdI w.heap.size w A2 cs2) (r4 : RdI w.heap.size w L2 ls2) (h1 : cs.length = n1) (h2 : ls.length = n1) (h3 : cs2.length = n2) (h4 : ls2.length = n2) (hn1 : n1 ≤ 60) (hn2 : n2 ≤ 60) (ok1 : OkL cs ls k 8) (ok2 : OkL cs2 ls2 k2 8) (hT : numB (k + k2) = true) (z1 : A1 = Option.none → c1 = 0) (z2 : L1 = Option.none → d1 = 0) (z3 : A2 = Option.none → c2 = 0) (z4 : L2 = Option.none → d2 = 0) :
    Calls Try.prog 9 #[.agg #[.slice A1 n1 c1, .slice L1 n1 d1, .int .i64 k], .agg #[.slice A2 n2 c2, .slice L2 n2 d2, .int .i64 k2]] w fun e w' => e = .returned (.bool true) ∧ Below w.heap.size w w' := by
  obtain ⟨W1, hW1⟩ : ∃ W, W = (w.alloc (.cells #[.slice A1 n1 c1, .slice L1 n1 d1, .int .i64 k] 24)).alloc (.cells #[.slice A2 n2 c2, .slice L2 n2 d2, .int .i64 k2] 24) := ⟨_, rfl⟩
  have low : Below w.heap.size w W1 := by rw [hW1]; exact ((Below.refl _ _).alloc (Nat.le_refl _) _).alloc (by simp) _
  have hat1 : LinAt W1 w.heap.size (.slice A1 n1 c1) (.slice L1 n1 d1) k 24 := by rw [hW1]; exact (heap_alloc_old _ _ (by simp)).trans (heap_alloc_new _ _)
  have hat2 : LinAt W1 (w.heap.size + 1) (.slice A2 n2 c2) (.slice L2 n2 d2) k2 24 := by
    have := heap_alloc_new (w.alloc (.cells #[.slice A1 n1 c1, .slice L1 n1 d1, .int .i64 k] 24)) (.cells #[.slice A2 n2 c2, .slice L2 n2 d2, .int .i64 k2] 24)
    rw [World.size_alloc] at this
    rw [hW1]; exact this
  have hF1 := fun W => few_any A1 L1 n1 n1 c1 d1 k W
  have hF2 := fun W => few_any A2 L2 n2 n2 c2 d2 k2 W
  have hK1 := fun W (h : Below w.heap.size w W) => fun (hm : n1 ≤ 60) => LinCheck_any w.heap.size A1 L1 n1 n1 c1 d1 k 8 cs ls W (r1.below h (Nat.le_refl _)) (r2.below h (Nat.le_refl _)) h.size h1 h2 (by omega) (by omega) (by omega)
  have hK2 := fun W (h : Below w.heap.size w W) => fun (hm : n2 ≤ 60) => LinCheck_any w.heap.size A2 L2 n2 n2 c2 d2 k2 8 cs2 ls2 W (r3.below h (Nat.le_refl _)) (r4.below h (Nat.le_refl _)) h.size h3 h4 (by omega) (by omega) (by omega)
  have HW := Lib.hid hW1
  have HA := Lib.hid (And.intro hat1 hat2)
  clear hW1 hat1 hat2
  rw [decide_eq_true (And.intro hn1 hn1)] at hF1
  rw [decide_eq_true (And.intro hn2 hn2)] at hF2
  have HK1 := Lib.hid (fun W h => (hK1 W h hn1).1 ok1)
  have HK2 := Lib.hid (fun W h => (hK2 W h hn2).1 ok2)
  have HF1 := Lib.hid hF1
  have HF2 := Lib.hid hF2
  have HAd := Lib.hid (fun W (h : Below w.heap.size w W) => Add_ok w.heap.size A1 L1 A2 L2 n1 n2 c1 d1 c2 d2 k k2 (k + k2) cs ls cs2 ls2 W (r1.below h (Nat.le_refl _)) (r2.below h (Nat.le_refl _)) (r3.below h (Nat.le_refl _)) (r4.below h (Nat.le_refl _)) h.size h1 h2 h3 h4 (by omega) (by omega) ok1.up ok2.up rfl hT z1 z2 z3 z4)
  have HR := Lib.hid (And.intro (And.intro r1 (And.intro r2 (And.intro r3 r4))) (And.intro (And.intro h1 (And.intro h2 (And.intro h3 h4))) (And.intro ok1 (And.intro ok2 hT))))
  clear hF1 hF2 hK1 hK2 r1 r2 r3 r4 h1 h2 h3 h4 ok1 ok2 hT z1 z2 z3 z4
  go_enter Try.func9, Try.ntmps9
  go_wp2_with fail
  rw [← HW.out]
  clear HW
  refine (live_any W1).mono ?_
  rintro e y1 ⟨rfl, hb⟩
  have low := low.trans (hb.mono low.size)
  have HA := Lib.hid (And.intro (HA.out.1.below hb) (HA.out.2.below hb))
  clear hb 
  obtain ⟨aC, aL, aK⟩ := (HA.out.1).cells
  obtain ⟨bC, bL, bK⟩ := (HA.out.2).cells
  go_wp2_with fail
  refine (HF1.out _).mono ?_
  rintro e y2 ⟨rfl, hb⟩
  clear aC aL aK
  clear bC bL bK
  have low := low.trans (hb.mono low.size)
  have HA := Lib.hid (And.intro (HA.out.1.below hb) (HA.out.2.below hb))
  clear hb 
  obtain ⟨aC, aL, aK⟩ := (HA.out.1).cells
  obtain ⟨bC, bL, bK⟩ := (HA.out.2).cells
  go_wp2_with fail
  refine (HF2.out _).mono ?_
  rintro e y3 ⟨rfl, hb⟩
  clear aC aL aK
  clear bC bL bK
  have low := low.trans (hb.mono low.size)
  have HA := Lib.hid (And.intro (HA.out.1.below hb) (HA.out.2.below hb))
  clear hb 
  obtain ⟨aC, aL, aK⟩ := (HA.out.1).cells
  obtain ⟨bC, bL, bK⟩ := (HA.out.2).cells
  go_wp2_with fail
  refine (HK1.out _ low).mono ?_
  rintro e y4 ⟨rfl, hb⟩
  clear aC aL aK
  clear bC bL bK
  have low := low.trans (hb.mono low.size)
  have HA := Lib.hid (And.intro (HA.out.1.below hb) (HA.out.2.below hb))
  clear hb 
  obtain ⟨aC, aL, aK⟩ := (HA.out.1).cells
  obtain ⟨bC, bL, bK⟩ := (HA.out.2).cells
  go_wp2_with fail
  refine (HK2.out _ low).mono ?_
  rintro e y5 ⟨rfl, hb⟩
  clear aC aL aK
  clear bC bL bK
  have low := low.trans (hb.mono low.size)
  have HA := Lib.hid (And.intro (HA.out.1.below hb) (HA.out.2.below hb))
  clear hb 
  obtain ⟨aC, aL, aK⟩ := (HA.out.1).cells
  obtain ⟨bC, bL, bK⟩ := (HA.out.2).cells
  go_wp2_with fail
  refine (HAd.out _ low).mono ?_
  rintro e y6 ⟨A3, c3, L3, d3, rfl, rd1, rd2, _, _, hb⟩
  clear aC aL aK bC bL bK
  have low := low.trans (hb.mono low.size)
  have HA := Lib.hid (And.intro (HA.out.1.below hb) (HA.out.2.below hb))
  clear hb HAd
  obtain ⟨aC, aL, aK⟩ := (HA.out.1).cells
  obtain ⟨bC, bL, bK⟩ := (HA.out.2).cells
  clear aC aL aK
  clear bC bL bK
  obtain ⟨T, hT⟩ : ∃ T, k + k2 = T := ⟨_, rfl⟩
  have hl1 : (cs ++ cs2).length = n1 + n2 := by rw [List.length_append, HR.out.2.1.1, HR.out.2.1.2.2.1]
  have hl2 : (ls ++ ls2).length = n1 + n2 := by rw [List.length_append, HR.out.2.1.2.1, HR.out.2.1.2.2.2]
  obtain ⟨M, hM⟩ : ∃ M, n1 + n2 = M := ⟨_, rfl⟩
  have hM60 : M ≤ 120 := by omega
  rw [hM] at hl1 hl2
  have okx : OkL (cs ++ cs2) (ls ++ ls2) T 65536 := by
    refine ⟨by omega, by omega, by rw [hl1, hl2], by rw [← hT]; exact HR.out.2.2.2.2, fun j hj => ?_⟩
    have o1 := HR.out.2.2.1.up
    have o2 := HR.out.2.2.2.1.up
    have e1 := HR.out.2.1.1
    have e2 := HR.out.2.1.2.1
    rw [List.length_append] at hj
    by_cases q : j < ls.length
    · rw [List.getElem?_append_left q, List.getElem?_append_left (by omega)]
      exact o1.2.2.2.2 j q
    · rw [List.getElem?_append_right (by omega), List.getElem?_append_right (by omega), show j - cs.length = j - ls.length by omega]
      exact o2.2.2.2.2 _ (by omega)
  rw [hl1, hl2, hT]
  obtain ⟨W7, hW7, kx, hb⟩ := KL.new (n := M) (c := c3) (m := M) (d := d3) (k := T) rd1 rd2
  have HW := Lib.hid hW7
  have hlt6 : w.heap.size + 1 < y6.heap.size := HA.out.2.lt
  have low := low.trans (hb.mono low.size)
  have HA := Lib.hid (And.intro (HA.out.1.below hb) (And.intro (HA.out.2.below hb) kx.1))
  have HX := Lib.hid (And.intro kx (And.intro low (And.intro hl1 (And.intro hl2 (And.intro okx hT)))))
  clear hb rd1 rd2 kx hl1 hl2 okx hM hT
  obtain ⟨aC, aL, aK⟩ := HA.out.1.cells
  obtain ⟨bC, bL, bK⟩ := HA.out.2.1.cells
  obtain ⟨xC, xL, xK⟩ := HA.out.2.2.cells
  rw [hW7] at aC aL aK bC bL bK xC xL xK
  clear hW7
  go_wp2_with fail
  rw [← HW.out]
  clear HW aC aL aK bC bL bK xC xL xK
  go_loopw [7] (fun i wr => ∃ p : Nat, p ≤ 256 ∧ i = .int .i64 p ∧ Hid (Below W7.heap.size W7 wr)) (fun i _ => 256 - (intOf i).toNat)
  case atStart => exact ⟨0, by omega, rfl, Lib.hid (Below.refl _ _)⟩
  case round =>
    obtain ⟨p, hp, rfl, lowp⟩ := hrel
    by_cases hpt : p < 256
    · have hTr := Lib.hid (Truths_any 8 (p : Int) wr (by omega) ⟨by omega, by omega⟩)
      go_wp2_with fail
      refine hTr.out.mono ?_
      rintro e w7 ⟨rfl, rowb, hb7⟩
      have hlow7 := lowp.out.trans (hb7.mono lowp.out.size)
      have low7 : Below w.heap.size w w7 := HX.out.2.1.trans (hlow7.mono HX.out.2.1.size)
      obtain ⟨ra, hra⟩ : ∃ rr, decide (k ≤ wsum (tru p 8) cs ls) = rr := ⟨_, rfl⟩
      obtain ⟨rb, hrb⟩ : ∃ rr, decide (k2 ≤ wsum (tru p 8) cs2 ls2) = rr := ⟨_, rfl⟩
      obtain ⟨rx, hrx⟩ : ∃ rr, decide (T ≤ wsum (tru p 8) (cs ++ cs2) (ls ++ ls2)) = rr := ⟨_, rfl⟩
      have hall : (ra = true → rb = true → rx = true) ∧ (rx = true → ra = false → rb = true) := by
        have hs := wsum_append (tru p 8) cs ls cs2 ls2 (by rw [HR.out.2.1.1, HR.out.2.1.2.1])
        rw [hs] at hrx
        have hT := HX.out.2.2.2.2.2
        rw [← hra, ← hrb, ← hrx]
        refine ⟨fun q1 q2 => decide_eq_true (by have := of_decide_eq_true q1; have := of_decide_eq_true q2; omega), fun q1 q2 => decide_eq_true (by have := of_decide_eq_true q1; have := of_decide_eq_false q2; omega)⟩
      have hVa : ∀ W, Below w7.heap.size w7 W → Calls Try.prog 23 #[.agg #[.slice A1 n1 c1, .slice L1 n1 d1, .int .i64 k], .slice (some ⟨wr.heap.size, 0, none⟩) 9 9] W fun e w' => e = .returned (.bool ra) ∧ Below W.heap.size W w' := fun W h => by
        have hbw := low7.trans (h.mono low7.size)
        have := linValue2_any w.heap.size w7.heap.size A1 L1 (some ⟨wr.heap.size, 0, none⟩) n1 c1 d1 9 9 _ k cs ls (tru p 8) W (HR.out.1.1.below hbw (Nat.le_refl _)) (HR.out.1.2.1.below hbw (Nat.le_refl _)) hbw.size h.size HR.out.2.1.1 HR.out.2.1.2.1 (by omega) HR.out.2.2.1.up (rowb.rd.below h (Nat.le_refl _)) (tru_len _ _) (by omega) (fun x hx => (Lit_of8 (HR.out.2.2.1.ls x hx)).mono (by omega)) HR.out.2.2.1.cs rfl
        rwa [hra] at this
      have hVb : ∀ W, Below w7.heap.size w7 W → Calls Try.prog 23 #[.agg #[.slice A2 n2 c2, .slice L2 n2 d2, .int .i64 k2], .slice (some ⟨wr.heap.size, 0, none⟩) 9 9] W fun e w' => e = .returned (.bool rb) ∧ Below W.heap.size W w' := fun W h => by
        have hbw := low7.trans (h.mono low7.size)
        have := linValue2_any w.heap.size w7.heap.size A2 L2 (some ⟨wr.heap.size, 0, none⟩) n2 c2 d2 9 9 _ k2 cs2 ls2 (tru p 8) W (HR.out.1.2.2.1.below hbw (Nat.le_refl _)) (HR.out.1.2.2.2.below hbw (Nat.le_refl _)) hbw.size h.size HR.out.2.1.2.2.1 HR.out.2.1.2.2.2 (by omega) HR.out.2.2.2.1.up (rowb.rd.below h (Nat.le_refl _)) (tru_len _ _) (by omega) (fun x hx => (Lit_of8 (HR.out.2.2.2.1.ls x hx)).mono (by omega)) HR.out.2.2.2.1.cs rfl
        rwa [hrb] at this
      have hVx : ∀ W, Below w7.heap.size w7 W → Calls Try.prog 23 #[.agg #[.slice A3 M c3, .slice L3 M d3, .int .i64 T], .slice (some ⟨wr.heap.size, 0, none⟩) 9 9] W fun e w' => e = .returned (.bool rx) ∧ Below W.heap.size W w' := fun W h => by
        have hbw := hlow7.trans (h.mono hlow7.size)
        have := linValue2_any W7.heap.size w7.heap.size A3 L3 (some ⟨wr.heap.size, 0, none⟩) M c3 d3 9 9 _ T (cs ++ cs2) (ls ++ ls2) (tru p 8) W (HX.out.1.2.1.below hbw (Nat.le_refl _)) (HX.out.1.2.2.below hbw (Nat.le_refl _)) hbw.size h.size HX.out.2.2.1 HX.out.2.2.2.1 (by omega) HX.out.2.2.2.2.1 (rowb.rd.below h (Nat.le_refl _)) (tru_len _ _) (by omega) (fun x hx => ⟨(HX.out.2.2.2.2.1.ls x hx).1, by have := HX.out.2.2.2.2.1.ls x hx; omega, by have := HX.out.2.2.2.2.1.ls x hx; omega⟩) HX.out.2.2.2.2.1.cs rfl
        rwa [hrx] at this
      have HVa := Lib.hid hVa
      have HVb := Lib.hid hVb
      have HVx := Lib.hid hVx
      have HA7 := Lib.hid (And.intro (HA.out.1.below hlow7) (And.intro (HA.out.2.1.below hlow7) (HA.out.2.2.below hlow7)))
      obtain ⟨aC, aL, aK⟩ := HA7.out.1.cells
      obtain ⟨bC, bL, bK⟩ := HA7.out.2.1.cells
      obtain ⟨xC, xL, xK⟩ := HA7.out.2.2.cells
      have LW := Lib.hid hlow7
      clear hVa hVb hVx hra hrb hrx rowb hb7 hlow7 low7 hTr
      have low := Below.refl w7.heap.size w7
      cases ra with
      | true =>
        cases rb with
        | true =>
          obtain rfl : rx = true := hall.1 rfl rfl
          clear hall
          have HA := HA7
          go_wp2_with fail
          refine (HVa.out _ low).mono ?_
          rintro e y21 ⟨rfl, hb⟩
          clear aC aL aK
          clear bC bL bK
          clear xC xL xK
          have low := low.trans (hb.mono low.size)
          have HA := Lib.hid (And.intro (HA.out.1.below hb) (And.intro (HA.out.2.1.below hb) (HA.out.2.2.below hb)))
          clear hb 
          obtain ⟨aC, aL, aK⟩ := (HA.out.1).cells
          obtain ⟨bC, bL, bK⟩ := (HA.out.2.1).cells
          obtain ⟨xC, xL, xK⟩ := (HA.out.2.2).cells
          go_wp2_with fail
          refine (HVb.out _ low).mono ?_
          rintro e y22 ⟨rfl, hb⟩
          clear aC aL aK
          clear bC bL bK
          clear xC xL xK
          have low := low.trans (hb.mono low.size)
          have HA := Lib.hid (And.intro (HA.out.1.below hb) (And.intro (HA.out.2.1.below hb) (HA.out.2.2.below hb)))
          clear hb 
          obtain ⟨aC, aL, aK⟩ := (HA.out.1).cells
          obtain ⟨bC, bL, bK⟩ := (HA.out.2.1).cells
          obtain ⟨xC, xL, xK⟩ := (HA.out.2.2).cells
          go_wp2_with fail
          refine (HVx.out _ low).mono ?_
          rintro e y23 ⟨rfl, hb⟩
          clear aC aL aK
          clear bC bL bK
          clear xC xL xK
          have low := low.trans (hb.mono low.size)
          have HA := Lib.hid (And.intro (HA.out.1.below hb) (And.intro (HA.out.2.1.below hb) (HA.out.2.2.below hb)))
          clear hb 
          obtain ⟨aC, aL, aK⟩ := (HA.out.1).cells
          obtain ⟨bC, bL, bK⟩ := (HA.out.2.1).cells
          obtain ⟨xC, xL, xK⟩ := (HA.out.2.2).cells
          go_wp2_with fail
          refine (HVx.out _ low).mono ?_
          rintro e y24 ⟨rfl, hb⟩
          clear aC aL aK
          clear bC bL bK
          clear xC xL xK
          have low := low.trans (hb.mono low.size)
          have HA := Lib.hid (And.intro (HA.out.1.below hb) (And.intro (HA.out.2.1.below hb) (HA.out.2.2.below hb)))
          clear hb 
          obtain ⟨aC, aL, aK⟩ := (HA.out.1).cells
          obtain ⟨bC, bL, bK⟩ := (HA.out.2.1).cells
          obtain ⟨xC, xL, xK⟩ := (HA.out.2.2).cells
          go_wp2_with fail
          refine (HVa.out _ low).mono ?_
          rintro e y25 ⟨rfl, hb⟩
          clear aC aL aK
          clear bC bL bK
          clear xC xL xK
          have low := low.trans (hb.mono low.size)
          have HA := Lib.hid (And.intro (HA.out.1.below hb) (And.intro (HA.out.2.1.below hb) (HA.out.2.2.below hb)))
          clear hb 
          obtain ⟨aC, aL, aK⟩ := (HA.out.1).cells
          obtain ⟨bC, bL, bK⟩ := (HA.out.2.1).cells
          obtain ⟨xC, xL, xK⟩ := (HA.out.2.2).cells
          have hend := Lib.hid (LW.out.trans (low.mono LW.out.size))
          clear low HVa HVb HVx aC aL aK bC bL bK xC xL xK HA HA7
          go_wp2_with fail
          go_roundw
          case rel => exact ⟨p + 1, by omega, by go_num, hend⟩
          case measure => simp [intOf]; omega
        | false =>
          clear hall
          cases rx with
          | true =>
            have HA := HA7
            go_wp2_with fail
            refine (HVa.out _ low).mono ?_
            rintro e y21 ⟨rfl, hb⟩
            clear aC aL aK
            clear bC bL bK
            clear xC xL xK
            have low := low.trans (hb.mono low.size)
            have HA := Lib.hid (And.intro (HA.out.1.below hb) (And.intro (HA.out.2.1.below hb) (HA.out.2.2.below hb)))
            clear hb 
            obtain ⟨aC, aL, aK⟩ := (HA.out.1).cells
            obtain ⟨bC, bL, bK⟩ := (HA.out.2.1).cells
            obtain ⟨xC, xL, xK⟩ := (HA.out.2.2).cells
            go_wp2_with fail
            refine (HVb.out _ low).mono ?_
            rintro e y22 ⟨rfl, hb⟩
            clear aC aL aK
            clear bC bL bK
            clear xC xL xK
            have low := low.trans (hb.mono low.size)
            have HA := Lib.hid (And.intro (HA.out.1.below hb) (And.intro (HA.out.2.1.below hb) (HA.out.2.2.below hb)))
            clear hb 
            obtain ⟨aC, aL, aK⟩ := (HA.out.1).cells
            obtain ⟨bC, bL, bK⟩ := (HA.out.2.1).cells
            obtain ⟨xC, xL, xK⟩ := (HA.out.2.2).cells
            go_wp2_with fail
            refine (HVx.out _ low).mono ?_
            rintro e y23 ⟨rfl, hb⟩
            clear aC aL aK
            clear bC bL bK
            clear xC xL xK
            have low := low.trans (hb.mono low.size)
            have HA := Lib.hid (And.intro (HA.out.1.below hb) (And.intro (HA.out.2.1.below hb) (HA.out.2.2.below hb)))
            clear hb 
            obtain ⟨aC, aL, aK⟩ := (HA.out.1).cells
            obtain ⟨bC, bL, bK⟩ := (HA.out.2.1).cells
            obtain ⟨xC, xL, xK⟩ := (HA.out.2.2).cells
            go_wp2_with fail
            refine (HVa.out _ low).mono ?_
            rintro e y24 ⟨rfl, hb⟩
            clear aC aL aK
            clear bC bL bK
            clear xC xL xK
            have low := low.trans (hb.mono low.size)
            have HA := Lib.hid (And.intro (HA.out.1.below hb) (And.intro (HA.out.2.1.below hb) (HA.out.2.2.below hb)))
            clear hb 
            obtain ⟨aC, aL, aK⟩ := (HA.out.1).cells
            obtain ⟨bC, bL, bK⟩ := (HA.out.2.1).cells
            obtain ⟨xC, xL, xK⟩ := (HA.out.2.2).cells
            have hend := Lib.hid (LW.out.trans (low.mono LW.out.size))
            clear low HVa HVb HVx aC aL aK bC bL bK xC xL xK HA HA7
            go_wp2_with fail
            go_roundw
            case rel => exact ⟨p + 1, by omega, by go_num, hend⟩
            case measure => simp [intOf]; omega
          | false =>
            have HA := HA7
            go_wp2_with fail
            refine (HVa.out _ low).mono ?_
            rintro e y21 ⟨rfl, hb⟩
            clear aC aL aK
            clear bC bL bK
            clear xC xL xK
            have low := low.trans (hb.mono low.size)
            have HA := Lib.hid (And.intro (HA.out.1.below hb) (And.intro (HA.out.2.1.below hb) (HA.out.2.2.below hb)))
            clear hb 
            obtain ⟨aC, aL, aK⟩ := (HA.out.1).cells
            obtain ⟨bC, bL, bK⟩ := (HA.out.2.1).cells
            obtain ⟨xC, xL, xK⟩ := (HA.out.2.2).cells
            go_wp2_with fail
            refine (HVb.out _ low).mono ?_
            rintro e y22 ⟨rfl, hb⟩
            clear aC aL aK
            clear bC bL bK
            clear xC xL xK
            have low := low.trans (hb.mono low.size)
            have HA := Lib.hid (And.intro (HA.out.1.below hb) (And.intro (HA.out.2.1.below hb) (HA.out.2.2.below hb)))
            clear hb 
            obtain ⟨aC, aL, aK⟩ := (HA.out.1).cells
            obtain ⟨bC, bL, bK⟩ := (HA.out.2.1).cells
            obtain ⟨xC, xL, xK⟩ := (HA.out.2.2).cells
            go_wp2_with fail
            refine (HVx.out _ low).mono ?_
            rintro e y23 ⟨rfl, hb⟩
            clear aC aL aK
            clear bC bL bK
            clear xC xL xK
            have low := low.trans (hb.mono low.size)
            have HA := Lib.hid (And.intro (HA.out.1.below hb) (And.intro (HA.out.2.1.below hb) (HA.out.2.2.below hb)))
            clear hb 
            obtain ⟨aC, aL, aK⟩ := (HA.out.1).cells
            obtain ⟨bC, bL, bK⟩ := (HA.out.2.1).cells
            obtain ⟨xC, xL, xK⟩ := (HA.out.2.2).cells
            have hend := Lib.hid (LW.out.trans (low.mono LW.out.size))
            clear low HVa HVb HVx aC aL aK bC bL bK xC xL xK HA HA7
            go_wp2_with fail
            go_roundw
            case rel => exact ⟨p + 1, by omega, by go_num, hend⟩
            case measure => simp [intOf]; omega
      | false =>
        cases rb with
        | true =>
          clear hall
          cases rx with
          | true =>
            have HA := HA7
            go_wp2_with fail
            refine (HVa.out _ low).mono ?_
            rintro e y21 ⟨rfl, hb⟩
            clear aC aL aK
            clear bC bL bK
            clear xC xL xK
            have low := low.trans (hb.mono low.size)
            have HA := Lib.hid (And.intro (HA.out.1.below hb) (And.intro (HA.out.2.1.below hb) (HA.out.2.2.below hb)))
            clear hb 
            obtain ⟨aC, aL, aK⟩ := (HA.out.1).cells
            obtain ⟨bC, bL, bK⟩ := (HA.out.2.1).cells
            obtain ⟨xC, xL, xK⟩ := (HA.out.2.2).cells
            go_wp2_with fail
            refine (HVx.out _ low).mono ?_
            rintro e y22 ⟨rfl, hb⟩
            clear aC aL aK
            clear bC bL bK
            clear xC xL xK
            have low := low.trans (hb.mono low.size)
            have HA := Lib.hid (And.intro (HA.out.1.below hb) (And.intro (HA.out.2.1.below hb) (HA.out.2.2.below hb)))
            clear hb 
            obtain ⟨aC, aL, aK⟩ := (HA.out.1).cells
            obtain ⟨bC, bL, bK⟩ := (HA.out.2.1).cells
            obtain ⟨xC, xL, xK⟩ := (HA.out.2.2).cells
            go_wp2_with fail
            refine (HVa.out _ low).mono ?_
            rintro e y23 ⟨rfl, hb⟩
            clear aC aL aK
            clear bC bL bK
            clear xC xL xK
            have low := low.trans (hb.mono low.size)
            have HA := Lib.hid (And.intro (HA.out.1.below hb) (And.intro (HA.out.2.1.below hb) (HA.out.2.2.below hb)))
            clear hb 
            obtain ⟨aC, aL, aK⟩ := (HA.out.1).cells
            obtain ⟨bC, bL, bK⟩ := (HA.out.2.1).cells
            obtain ⟨xC, xL, xK⟩ := (HA.out.2.2).cells
            go_wp2_with fail
            refine (HVb.out _ low).mono ?_
            rintro e y24 ⟨rfl, hb⟩
            clear aC aL aK
            clear bC bL bK
            clear xC xL xK
            have low := low.trans (hb.mono low.size)
            have HA := Lib.hid (And.intro (HA.out.1.below hb) (And.intro (HA.out.2.1.below hb) (HA.out.2.2.below hb)))
            clear hb 
            obtain ⟨aC, aL, aK⟩ := (HA.out.1).cells
            obtain ⟨bC, bL, bK⟩ := (HA.out.2.1).cells
            obtain ⟨xC, xL, xK⟩ := (HA.out.2.2).cells
            have hend := Lib.hid (LW.out.trans (low.mono LW.out.size))
            clear low HVa HVb HVx aC aL aK bC bL bK xC xL xK HA HA7
            go_wp2_with fail
            go_roundw
            case rel => exact ⟨p + 1, by omega, by go_num, hend⟩
            case measure => simp [intOf]; omega
          | false =>
            have HA := HA7
            go_wp2_with fail
            refine (HVa.out _ low).mono ?_
            rintro e y21 ⟨rfl, hb⟩
            clear aC aL aK
            clear bC bL bK
            clear xC xL xK
            have low := low.trans (hb.mono low.size)
            have HA := Lib.hid (And.intro (HA.out.1.below hb) (And.intro (HA.out.2.1.below hb) (HA.out.2.2.below hb)))
            clear hb 
            obtain ⟨aC, aL, aK⟩ := (HA.out.1).cells
            obtain ⟨bC, bL, bK⟩ := (HA.out.2.1).cells
            obtain ⟨xC, xL, xK⟩ := (HA.out.2.2).cells
            go_wp2_with fail
            refine (HVx.out _ low).mono ?_
            rintro e y22 ⟨rfl, hb⟩
            clear aC aL aK
            clear bC bL bK
            clear xC xL xK
            have low := low.trans (hb.mono low.size)
            have HA := Lib.hid (And.intro (HA.out.1.below hb) (And.intro (HA.out.2.1.below hb) (HA.out.2.2.below hb)))
            clear hb 
            obtain ⟨aC, aL, aK⟩ := (HA.out.1).cells
            obtain ⟨bC, bL, bK⟩ := (HA.out.2.1).cells
            obtain ⟨xC, xL, xK⟩ := (HA.out.2.2).cells
            have hend := Lib.hid (LW.out.trans (low.mono LW.out.size))
            clear low HVa HVb HVx aC aL aK bC bL bK xC xL xK HA HA7
            go_wp2_with fail
            go_roundw
            case rel => exact ⟨p + 1, by omega, by go_num, hend⟩
            case measure => simp [intOf]; omega
        | false =>
          obtain rfl : rx = false := by
            cases rx with
            | false => rfl
            | true => exact absurd (hall.2 rfl rfl) (by simp)
          clear hall
          have HA := HA7
          go_wp2_with fail
          refine (HVa.out _ low).mono ?_
          rintro e y21 ⟨rfl, hb⟩
          clear aC aL aK
          clear bC bL bK
          clear xC xL xK
          have low := low.trans (hb.mono low.size)
          have HA := Lib.hid (And.intro (HA.out.1.below hb) (And.intro (HA.out.2.1.below hb) (HA.out.2.2.below hb)))
          clear hb 
          obtain ⟨aC, aL, aK⟩ := (HA.out.1).cells
          obtain ⟨bC, bL, bK⟩ := (HA.out.2.1).cells
          obtain ⟨xC, xL, xK⟩ := (HA.out.2.2).cells
          go_wp2_with fail
          refine (HVx.out _ low).mono ?_
          rintro e y22 ⟨rfl, hb⟩
          clear aC aL aK
          clear bC bL bK
          clear xC xL xK
          have low := low.trans (hb.mono low.size)
          have HA := Lib.hid (And.intro (HA.out.1.below hb) (And.intro (HA.out.2.1.below hb) (HA.out.2.2.below hb)))
          clear hb 
          obtain ⟨aC, aL, aK⟩ := (HA.out.1).cells
          obtain ⟨bC, bL, bK⟩ := (HA.out.2.1).cells
          obtain ⟨xC, xL, xK⟩ := (HA.out.2.2).cells
          have hend := Lib.hid (LW.out.trans (low.mono LW.out.size))
          clear low HVa HVb HVx aC aL aK bC bL bK xC xL xK HA HA7
          go_wp2_with fail
          go_roundw
          case rel => exact ⟨p + 1, by omega, by go_num, hend⟩
          case measure => simp [intOf]; omega
    · obtain rfl : p = 256 := by omega
      have fin : Hid (Below w.heap.size w wr) := Lib.hid (HX.out.2.1.trans (lowp.out.mono HX.out.2.1.size))
      clear lowp
      go_wp2_with fail
      go_ret
      exact ⟨rfl, fin.out⟩
theorem asd_any (A1 L1 A2 L2 : Option Addr) (n1 m1 n2 m2 c1 d1 c2 d2 : Nat) (k k2 : Int) (cs ls cs2 ls2 : List Int) (w : World) (r1 : RdI w.heap.size w A1 cs) (r2 : RdI w.heap.size w L1 ls) (r3 : RdI w.heap.size w A2 cs2) (r4 : RdI w.heap.size w L2 ls2) (h1 : cs.length = n1) (h2 : ls.length = m1) (h3 : cs2.length = n2) (h4 : ls2.length = m2) (z1 : A1 = Option.none → c1 = 0) (z2 : L1 = Option.none → d1 = 0) (z3 : A2 = Option.none → c2 = 0) (z4 : L2 = Option.none → d2 = 0) :
    Calls Try.prog 9 #[.agg #[.slice A1 n1 c1, .slice L1 m1 d1, .int .i64 k], .agg #[.slice A2 n2 c2, .slice L2 m2 d2, .int .i64 k2]] w fun e w' => e = .returned (.bool true) ∧ Below w.heap.size w w' := by
  by_cases f1 : n1 ≤ 60 ∧ m1 ≤ 60
  · by_cases f2 : n2 ≤ 60 ∧ m2 ≤ 60
    · by_cases o1 : OkL cs ls k 8
      · by_cases o2 : OkL cs2 ls2 k2 8
        · obtain rfl : n1 = m1 := by have := o1.2.2.1; omega
          obtain rfl : n2 = m2 := by have := o2.2.2.1; omega
          cases hT : numB (k + k2) with
          | true => exact asd_main A1 L1 A2 L2 n1 n2 c1 d1 c2 d2 k k2 cs ls cs2 ls2 w r1 r2 r3 r4 h1 h2 h3 h4 f1.1 f2.1 o1 o2 hT z1 z2 z3 z4
          | false => exact asd_no A1 L1 A2 L2 n1 n2 c1 d1 c2 d2 k k2 cs ls cs2 ls2 w r1 r2 r3 r4 h1 h2 h3 h4 f1.1 f2.1 o1 o2 hT
        · exact asd_out3 A1 L1 A2 L2 n1 m1 n2 m2 c1 d1 c2 d2 k k2 cs ls cs2 ls2 w r1 r2 r3 r4 h1 h2 h3 h4 ⟨f1, f2, o1, o2⟩
      · exact asd_out2 A1 L1 A2 L2 n1 m1 n2 m2 c1 d1 c2 d2 k k2 cs ls cs2 ls2 w r1 r2 r3 r4 h1 h2 h3 h4 ⟨f1, f2, o1⟩
    · exact asd_out1 A1 L1 A2 L2 n1 m1 n2 m2 c1 d1 c2 d2 k k2 cs ls cs2 ls2 w r1 r2 r3 r4 h1 h2 h3 h4 ⟨f1, f2⟩
  · exact asd_out0 A1 L1 A2 L2 n1 m1 n2 m2 c1 d1 c2 d2 k k2 cs ls cs2 ls2 w r1 r2 r3 r4 h1 h2 h3 h4 f1
end Go.Proofs.Ytoacfjmefoiflaa
