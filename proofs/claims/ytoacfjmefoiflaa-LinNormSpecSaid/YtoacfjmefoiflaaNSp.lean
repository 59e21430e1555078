/- The walk of the law LinNormSpec. -/
import Derived.Test.YtoacfjmefoiflaaRNorm
namespace Go.Proofs.Ytoacfjmefoiflaa
open Go.ChangeShapes Go.WideShapes Go.ChangeAt Go.RowKit
set_option maxRecDepth 100000

set_option maxHeartbeats 4000000 in
theorem nsp_out0 (A1 L1 A2 L2 : Option Addr) (n1 m1 n2 m2 c1 d1 c2 d2 : Nat) (k k2 N : Int) (w : World) (hyp : ¬ (n1 ≤ 60 ∧ m1 ≤ 60)) :
    Calls Try.prog 3 #[.agg #[.slice A1 n1 c1, .slice L1 m1 d1, .int .i64 k], .agg #[.slice A2 n2 c2, .slice L2 m2 d2, .int .i64 k2], .int .i64 N] w fun e w' => e = .returned (.bool true) ∧ Below w.heap.size w w' := by
  obtain ⟨W1, hW1⟩ : ∃ W, W = (w.alloc (.cells #[.slice A1 n1 c1, .slice L1 m1 d1, .int .i64 k] 24)).alloc (.cells #[.slice A2 n2 c2, .slice L2 m2 d2, .int .i64 k2] 24) := ⟨_, rfl⟩
  have low : Below w.heap.size w W1 := by rw [hW1]; exact ((Below.refl _ _).alloc (Nat.le_refl _) _).alloc (by simp) _
  have hat1 : LinAt W1 w.heap.size (.slice A1 n1 c1) (.slice L1 m1 d1) k 24 := by rw [hW1]; exact (heap_alloc_old _ _ (by simp)).trans (heap_alloc_new _ _)
  have hat2 : LinAt W1 (w.heap.size + 1) (.slice A2 n2 c2) (.slice L2 m2 d2) k2 24 := by
    have := heap_alloc_new (w.alloc (.cells #[.slice A1 n1 c1, .slice L1 m1 d1, .int .i64 k] 24)) (.cells #[.slice A2 n2 c2, .slice L2 m2 d2, .int .i64 k2] 24)
    rw [World.size_alloc] at this
    rw [hW1]; exact this
  have hF1 := fun W => few_any A1 L1 n1 m1 c1 d1 k W
  have hF2 := fun W => few_any A2 L2 n2 m2 c2 d2 k2 W
  have HW := Lib.hid hW1
  have HA := Lib.hid (And.intro hat1 hat2)
  clear hW1 hat1 hat2
  rw [decide_eq_false hyp] at hF1
  have HF1 := Lib.hid hF1
  clear hF1 hF2 hyp
  go_enter Try.func3, Try.ntmps3
  go_wp2_with fail
  rw [← HW.out]
  clear HW
  refine (live_any W1).mono ?_
  rintro e y1 ⟨rfl, hb⟩
  have low := low.trans (hb.mono low.size)
  have HA := Lib.hid (And.intro (HA.out.1.below hb) (HA.out.2.below hb))
  clear hb 
  obtain ⟨aC, aL, aK⟩ := (HA.out.1).cells
  obtain ⟨bC, bL, bK⟩ := (HA.out.2).cells
  go_wp2_with fail
  refine (HF1.out _).mono ?_
  rintro e y2 ⟨rfl, hb⟩
  clear aC aL aK
  clear bC bL bK
  have low := low.trans (hb.mono low.size)
  have HA := Lib.hid (And.intro (HA.out.1.below hb) (HA.out.2.below hb))
  clear hb 
  obtain ⟨aC, aL, aK⟩ := (HA.out.1).cells
  obtain ⟨bC, bL, bK⟩ := (HA.out.2).cells
  have fin := Lib.hid low
  clear aC aL aK
  clear bC bL bK
  clear low HA
  go_wp2_with fail
  go_ret
  exact ⟨rfl, fin.out⟩
set_option maxHeartbeats 4000000 in
theorem nsp_out1 (A1 L1 A2 L2 : Option Addr) (n1 m1 n2 m2 c1 d1 c2 d2 : Nat) (k k2 N : Int) (w : World) (hyp : (n1 ≤ 60 ∧ m1 ≤ 60) ∧ ¬ (n2 ≤ 60 ∧ m2 ≤ 60)) :
    Calls Try.prog 3 #[.agg #[.slice A1 n1 c1, .slice L1 m1 d1, .int .i64 k], .agg #[.slice A2 n2 c2, .slice L2 m2 d2, .int .i64 k2], .int .i64 N] w fun e w' => e = .returned (.bool true) ∧ Below w.heap.size w w' := by
  obtain ⟨W1, hW1⟩ : ∃ W, W = (w.alloc (.cells #[.slice A1 n1 c1, .slice L1 m1 d1, .int .i64 k] 24)).alloc (.cells #[.slice A2 n2 c2, .slice L2 m2 d2, .int .i64 k2] 24) := ⟨_, rfl⟩
  have low : Below w.heap.size w W1 := by rw [hW1]; exact ((Below.refl _ _).alloc (Nat.le_refl _) _).alloc (by simp) _
  have hat1 : LinAt W1 w.heap.size (.slice A1 n1 c1) (.slice L1 m1 d1) k 24 := by rw [hW1]; exact (heap_alloc_old _ _ (by simp)).trans (heap_alloc_new _ _)
  have hat2 : LinAt W1 (w.heap.size + 1) (.slice A2 n2 c2) (.slice L2 m2 d2) k2 24 := by
    have := heap_alloc_new (w.alloc (.cells #[.slice A1 n1 c1, .slice L1 m1 d1, .int .i64 k] 24)) (.cells #[.slice A2 n2 c2, .slice L2 m2 d2, .int .i64 k2] 24)
    rw [World.size_alloc] at this
    rw [hW1]; exact this
  have hF1 := fun W => few_any A1 L1 n1 m1 c1 d1 k W
  have hF2 := fun W => few_any A2 L2 n2 m2 c2 d2 k2 W
  have HW := Lib.hid hW1
  have HA := Lib.hid (And.intro hat1 hat2)
  clear hW1 hat1 hat2
  rw [decide_eq_true hyp.1] at hF1
  rw [decide_eq_false hyp.2] at hF2
  have HF1 := Lib.hid hF1
  have HF2 := Lib.hid hF2
  clear hF1 hF2 hyp
  go_enter Try.func3, Try.ntmps3
  go_wp2_with fail
  rw [← HW.out]
  clear HW
  refine (live_any W1).mono ?_
  rintro e y1 ⟨rfl, hb⟩
  have low := low.trans (hb.mono low.size)
  have HA := Lib.hid (And.intro (HA.out.1.below hb) (HA.out.2.below hb))
  clear hb 
  obtain ⟨aC, aL, aK⟩ := (HA.out.1).cells
  obtain ⟨bC, bL, bK⟩ := (HA.out.2).cells
  go_wp2_with fail
  refine (HF1.out _).mono ?_
  rintro e y2 ⟨rfl, hb⟩
  clear aC aL aK
  clear bC bL bK
  have low := low.trans (hb.mono low.size)
  have HA := Lib.hid (And.intro (HA.out.1.below hb) (HA.out.2.below hb))
  clear hb 
  obtain ⟨aC, aL, aK⟩ := (HA.out.1).cells
  obtain ⟨bC, bL, bK⟩ := (HA.out.2).cells
  go_wp2_with fail
  refine (HF2.out _).mono ?_
  rintro e y3 ⟨rfl, hb⟩
  clear aC aL aK
  clear bC bL bK
  have low := low.trans (hb.mono low.size)
  have HA := Lib.hid (And.intro (HA.out.1.below hb) (HA.out.2.below hb))
  clear hb 
  obtain ⟨aC, aL, aK⟩ := (HA.out.1).cells
  obtain ⟨bC, bL, bK⟩ := (HA.out.2).cells
  have fin := Lib.hid low
  clear aC aL aK
  clear bC bL bK
  clear low HA
  go_wp2_with fail
  go_ret
  exact ⟨rfl, fin.out⟩
set_option maxHeartbeats 16000000 in
theorem nsp_main (A1 L1 A2 L2 : Option Addr) (n1 m1 n2 m2 c1 d1 c2 d2 : Nat) (k k2 N : Int) (w : World) (cs ls cs2 ls2 : List Int) (r1 : RdI w.heap.size w A1 cs) (r2 : RdI w.heap.size w L1 ls) (r3 : RdI w.heap.size w A2 cs2) (r4 : RdI w.heap.size w L2 ls2) (h1 : cs.length = n1) (h2 : ls.length = m1) (h3 : cs2.length = n2) (h4 : ls2.length = m2) (hyp : (n1 ≤ 60 ∧ m1 ≤ 60) ∧ (n2 ≤ 60 ∧ m2 ≤ 60)) :
    Calls Try.prog 3 #[.agg #[.slice A1 n1 c1, .slice L1 m1 d1, .int .i64 k], .agg #[.slice A2 n2 c2, .slice L2 m2 d2, .int .i64 k2], .int .i64 N] w fun e w' => e = .returned (.bool true) ∧ Below w.heap.size w w' := by
  obtain ⟨W1, hW1⟩ : ∃ W, W = (w.alloc (.cells #[.slice A1 n1 c1, .slice L1 m1 d1, .int .i64 k] 24)).alloc (.cells #[.slice A2 n2 c2, .slice L2 m2 d2, .int .i64 k2] 24) := ⟨_, rfl⟩
  have low : Below w.heap.size w W1 := by rw [hW1]; exact ((Below.refl _ _).alloc (Nat.le_refl _) _).alloc (by simp) _
  have hat1 : LinAt W1 w.heap.size (.slice A1 n1 c1) (.slice L1 m1 d1) k 24 := by rw [hW1]; exact (heap_alloc_old _ _ (by simp)).trans (heap_alloc_new _ _)
  have hat2 : LinAt W1 (w.heap.size + 1) (.slice A2 n2 c2) (.slice L2 m2 d2) k2 24 := by
    have := heap_alloc_new (w.alloc (.cells #[.slice A1 n1 c1, .slice L1 m1 d1, .int .i64 k] 24)) (.cells #[.slice A2 n2 c2, .slice L2 m2 d2, .int .i64 k2] 24)
    rw [World.size_alloc] at this
    rw [hW1]; exact this
  have hF1 := fun W => few_any A1 L1 n1 m1 c1 d1 k W
  have hF2 := fun W => few_any A2 L2 n2 m2 c2 d2 k2 W
  have HW := Lib.hid hW1
  have HA := Lib.hid (And.intro hat1 hat2)
  clear hW1 hat1 hat2
  rw [decide_eq_true hyp.1] at hF1
  rw [decide_eq_true hyp.2] at hF2
  have HF1 := Lib.hid hF1
  have HF2 := Lib.hid hF2
  have HR := Lib.hid (And.intro (And.intro r1 (And.intro r2 (And.intro r3 r4))) (And.intro h1 (And.intro h2 (And.intro h3 h4))))
  obtain ⟨⟨hn1, hm1⟩, ⟨hn2, hm2⟩⟩ := hyp
  clear hF1 hF2 r1 r2 r3 r4 h1 h2 h3 h4
  go_enter Try.func3, Try.ntmps3
  go_wp2_with fail
  rw [← HW.out]
  clear HW
  refine (live_any W1).mono ?_
  rintro e y1 ⟨rfl, hb⟩
  have low := low.trans (hb.mono low.size)
  have HA := Lib.hid (And.intro (HA.out.1.below hb) (HA.out.2.below hb))
  clear hb 
  obtain ⟨aC, aL, aK⟩ := (HA.out.1).cells
  obtain ⟨bC, bL, bK⟩ := (HA.out.2).cells
  go_wp2_with fail
  refine (HF1.out _).mono ?_
  rintro e y2 ⟨rfl, hb⟩
  clear aC aL aK
  clear bC bL bK
  have low := low.trans (hb.mono low.size)
  have HA := Lib.hid (And.intro (HA.out.1.below hb) (HA.out.2.below hb))
  clear hb 
  obtain ⟨aC, aL, aK⟩ := (HA.out.1).cells
  obtain ⟨bC, bL, bK⟩ := (HA.out.2).cells
  go_wp2_with fail
  refine (HF2.out _).mono ?_
  rintro e y3 ⟨rfl, hb⟩
  clear aC aL aK
  clear bC bL bK
  have low := low.trans (hb.mono low.size)
  have HA := Lib.hid (And.intro (HA.out.1.below hb) (HA.out.2.below hb))
  clear hb 
  obtain ⟨aC, aL, aK⟩ := (HA.out.1).cells
  obtain ⟨bC, bL, bK⟩ := (HA.out.2).cells
  clear HF1 HF2
  obtain ⟨W3, hW3⟩ : ∃ W3, y3 = W3 := ⟨_, rfl⟩
  rw [hW3] at HA low aC aL aK bC bL bK ⊢
  clear hW3
  have hcell : ∀ W, Below W3.heap.size W3 W → W.cell? ⟨w.heap.size, 0, none⟩ = some (.slice A1 n1 c1) ∧ W.cell? ⟨w.heap.size, 1, none⟩ = some (.slice L1 m1 d1) ∧ W.cell? ⟨w.heap.size, 2, none⟩ = some (.int .i64 k) ∧ W.cell? ⟨w.heap.size + 1, 0, none⟩ = some (.slice A2 n2 c2) ∧ W.cell? ⟨w.heap.size + 1, 1, none⟩ = some (.slice L2 m2 d2) ∧ W.cell? ⟨w.heap.size + 1, 2, none⟩ = some (.int .i64 k2) := fun W hb => by
    obtain ⟨u1, u2, u3⟩ := (HA.out.1.below hb).cells
    obtain ⟨v1, v2, v3⟩ := (HA.out.2.below hb).cells
    exact ⟨u1, u2, u3, v1, v2, v3⟩
  have hlo : ∀ W, Below W3.heap.size W3 W → Below w.heap.size w W := fun W h => low.trans (h.mono low.size)
  have hNa := fun W (h : Below W3.heap.size W3 W) => norm_all w.heap.size n1 m1 c1 d1 A1 L1 k cs ls W (HR.out.1.1.below (hlo W h) (Nat.le_refl _)) (HR.out.1.2.1.below (hlo W h) (Nat.le_refl _)) (hlo W h).size HR.out.2.1 HR.out.2.2.1 (by omega)
  have hRa := fun W (h : Below W3.heap.size W3 W) => RNorm_all w.heap.size n1 m1 c1 d1 A1 L1 k cs ls W (HR.out.1.1.below (hlo W h) (Nat.le_refl _)) (HR.out.1.2.1.below (hlo W h) (Nat.le_refl _)) (hlo W h).size HR.out.2.1 HR.out.2.2.1 (by omega)
  obtain ⟨C, hC⟩ : ∃ C, mC cs ls k = C := ⟨_, rfl⟩
  obtain ⟨L, hL⟩ : ∃ L, mL cs ls k = L := ⟨_, rfl⟩
  obtain ⟨K, hK⟩ : ∃ K, mK cs ls k = K := ⟨_, rfl⟩
  have hcan := canon_m cs ls k (by have := HR.out.2.2.1; omega)
  have hclen := mC_len cs ls k
  rw [hC, hL, hK] at hcan hNa hRa
  rw [hC] at hclen
  obtain ⟨M, hM⟩ : ∃ M, C.length = M := ⟨_, rfl⟩
  have hM' : L.length = M := by rw [← hcan.len]; exact hM
  rw [hM, hM'] at hNa hRa
  have hMn : M ≤ 60 := by have := HR.out.2.2.1; omega
  have HML := Lib.hid (And.intro hM hM')
  have hSm : ∀ W B1 e1 B2 e2 B3 e3 B4 e4, RdI W.heap.size W B1 C → RdI W.heap.size W B2 L → RdI W.heap.size W B3 C → RdI W.heap.size W B4 L → Calls Try.prog 14 #[.agg #[.slice B1 M e1, .slice B2 M e2, .int .i64 K], .agg #[.slice B3 M e3, .slice B4 M e4, .int .i64 K]] W fun e w' => e = .returned (.bool true) ∧ Below W.heap.size W w' := fun W B1 e1 B2 e2 B3 e3 B4 e4 q1 q2 q3 q4 => by
    have h1 := RSame_any W.heap.size B1 B2 B3 B4 M M M M e1 e2 e3 e4 K K C L C L W q1 q2 q3 q4 (Nat.le_refl _) HML.out.1 HML.out.2 HML.out.1 HML.out.2 (by unfold maxLen; omega) (by unfold maxLen; omega)
    rwa [sameB_iff.2 ⟨rfl, rfl, rfl⟩] at h1
  have hCk : ∃ E : Int, (∀ W, Below W3.heap.size W3 W → Calls Try.prog 17 #[.agg #[.slice A1 n1 c1, .slice L1 m1 d1, .int .i64 k], .int .i64 N] W fun e w' => e = .returned (.int .i64 E) ∧ Below W.heap.size W w') ∧ (∀ W, Below W3.heap.size W3 W → Calls Try.prog 18 #[.agg #[.slice A1 n1 c1, .slice L1 m1 d1, .int .i64 k], .int .i64 N] W fun e w' => e = .returned (.int .i64 E) ∧ Below W.heap.size W w') := by
    have hR := fun W (h : Below W3.heap.size W3 W) => RCheck_any w.heap.size A1 L1 n1 m1 c1 d1 k N cs ls W (HR.out.1.1.below (hlo W h) (Nat.le_refl _)) (HR.out.1.2.1.below (hlo W h) (Nat.le_refl _)) (hlo W h).size HR.out.2.1 HR.out.2.2.1 (by omega)
    by_cases hN : N < 0 ∨ 65536 < N
    · exact ⟨1, fun W h => LinCheck_far A1 L1 n1 m1 c1 d1 k N W hN, fun W h => (hR W h).2 (fun ok => by have := ok.1; have := ok.2.1; omega)⟩
    · have hL := fun W (h : Below W3.heap.size W3 W) => LinCheck_any w.heap.size A1 L1 n1 m1 c1 d1 k N cs ls W (HR.out.1.1.below (hlo W h) (Nat.le_refl _)) (HR.out.1.2.1.below (hlo W h) (Nat.le_refl _)) (hlo W h).size HR.out.2.1 HR.out.2.2.1 (by omega) (by omega) (by omega)
      by_cases ok : OkL cs ls k N
      · exact ⟨0, fun W h => (hL W h).1 ok, fun W h => (hR W h).1 ok⟩
      · exact ⟨1, fun W h => (hL W h).2 ok, fun W h => (hR W h).2 ok⟩
  obtain ⟨E, hCk1, hCk2⟩ := hCk
  obtain ⟨sb, hsb⟩ : ∃ sb, sameB cs ls k cs2 ls2 k2 = sb := ⟨_, rfl⟩
  have hS1 := fun W (h : Below W3.heap.size W3 W) => Same_any w.heap.size A1 L1 A2 L2 n1 m1 n2 m2 c1 d1 c2 d2 k k2 cs ls cs2 ls2 W (HR.out.1.1.below (hlo W h) (Nat.le_refl _)) (HR.out.1.2.1.below (hlo W h) (Nat.le_refl _)) (HR.out.1.2.2.1.below (hlo W h) (Nat.le_refl _)) (HR.out.1.2.2.2.below (hlo W h) (Nat.le_refl _)) (hlo W h).size HR.out.2.1 HR.out.2.2.1 HR.out.2.2.2.1 HR.out.2.2.2.2 (by unfold maxLen; omega) (by unfold maxLen; omega)
  have hS2 := fun W (h : Below W3.heap.size W3 W) => RSame_any w.heap.size A1 L1 A2 L2 n1 m1 n2 m2 c1 d1 c2 d2 k k2 cs ls cs2 ls2 W (HR.out.1.1.below (hlo W h) (Nat.le_refl _)) (HR.out.1.2.1.below (hlo W h) (Nat.le_refl _)) (HR.out.1.2.2.1.below (hlo W h) (Nat.le_refl _)) (HR.out.1.2.2.2.below (hlo W h) (Nat.le_refl _)) (hlo W h).size HR.out.2.1 HR.out.2.2.1 HR.out.2.2.2.1 HR.out.2.2.2.2 (by unfold maxLen; omega) (by unfold maxLen; omega)
  rw [hsb] at hS1 hS2
  have hkeep : ∀ W W', Below W3.heap.size W3 W → Below W.heap.size W W' → Below W3.heap.size W3 W' := fun W W' h hb => h.trans (hb.mono h.size)
  have hstart : Below W3.heap.size W3 W3.drew := (Below.refl _ _).drew
  have HCell := Lib.hid hcell
  have HNa := Lib.hid hNa
  have HRa := Lib.hid hRa
  have HSm := Lib.hid hSm
  have HCk1 := Lib.hid hCk1
  have HCk2 := Lib.hid hCk2
  have HS1 := Lib.hid hS1
  have HS2 := Lib.hid hS2
  have HK := Lib.hid hkeep
  have HFin := Lib.hid hlo
  clear hcell hNa hRa hSm hCk1 hCk2 hS1 hS2 hkeep hlo hC hL hK hM hM' HML hcan hclen hsb HR HA low
  go_wp2_with fail
  clear aC aL aK bC bL bK
  refine wp_region_held_drew (S := fun W => Below W3.heap.size W3 W) (by kernel_rfl) hstart (fun hHeld => ?_)
  clear hstart
  refine takeH_now (i := 0) (some 18) (v := ?_) rfl (by kernel_rfl) (by kernel_rfl) (by kernel_rfl) (fun _ _ _ h => h) (Or.inl ⟨by rfl, ?_⟩) rfl (by assumption) ?_
  rotate_left
  focus (intro w9 hS9; obtain ⟨aC, aL, aK, bC, bL, bK⟩ := HCell.out w9 hS9; clear hS9; go_simp; try with_reducible rfl)
  try simp only [Act.put, List.setIfInBounds_toArray, List.set_cons_zero, List.set_cons_succ]
  refine takeH_now (i := 2) (some 20) (v := ?_) rfl (by kernel_rfl) (by kernel_rfl) (by kernel_rfl) (fun _ _ _ h => h) (Or.inl ⟨by rfl, ?_⟩) rfl (by assumption) ?_
  rotate_left
  focus (intro w9 hS9; obtain ⟨aC, aL, aK, bC, bL, bK⟩ := HCell.out w9 hS9; clear hS9; go_simp; try with_reducible rfl)
  try simp only [Act.put, List.setIfInBounds_toArray, List.set_cons_zero, List.set_cons_succ]
  refine wpAnyH_ready (rs := [1]) (by kernel_rfl) (by simp) ?_
  refine AllReadyH.cons (o := { dst := some 19, op := Op.call { callee := Callee.value (Operand.func 15), args := #[Operand.tmp 18], argTypes := #[24] }, type := 24, pos := "law.go:41", after := #[{ on := 0, ground := Ground.data }], guard := none }) rfl (fun K' hK' => ?_) AllReadyH.nil
  rw [if_pos (by kernel_rfl)]
  go_simp
  refine (HNa.out _ hHeld).mono ?_
  rintro e wa ⟨B1, e1, B2, e2, rfl, q1, q2, _, _, hba⟩
  have HQ1 := Lib.hid (And.intro q1 q2)
  have hHa := HK.out _ _ hHeld hba
  clear hHeld hba q1 q2
  refine hK'.out _ _ hHa (fun hHeld => ?_)
  clear hK' hHa
  try simp only [Act.put, List.setIfInBounds_toArray, List.set_cons_zero, List.set_cons_succ]
  refine wpAnyH_ready (rs := [3]) (by kernel_rfl) (by simp) ?_
  refine AllReadyH.cons (o := { dst := some 21, op := Op.call { callee := Callee.value (Operand.func 16), args := #[Operand.tmp 20], argTypes := #[24] }, type := 24, pos := "law.go:41", after := #[{ on := 2, ground := Ground.data }, { on := 1, ground := Ground.chain }], guard := none }) rfl (fun K' hK' => ?_) AllReadyH.nil
  rw [if_pos (by kernel_rfl)]
  go_simp
  refine (HRa.out _ hHeld).mono ?_
  rintro e wb ⟨B3, e3, B4, e4, rfl, q1, q2, _, _, hba⟩
  have HQ2 := Lib.hid (And.intro (And.intro (HQ1.out.1.step hba) (HQ1.out.2.step hba)) (And.intro q1 q2))
  have hHa := HK.out _ _ hHeld hba
  clear hHeld hba q1 q2 HQ1
  refine hK'.out _ _ hHa (fun hHeld => ?_)
  clear hK' hHa
  try simp only [Act.put, List.setIfInBounds_toArray, List.set_cons_zero, List.set_cons_succ]
  refine wpAnyH_ready (rs := [4]) (by kernel_rfl) (by simp) ?_
  refine AllReadyH.cons (o := { dst := some 22, op := Op.call { callee := Callee.value (Operand.func 14), args := #[Operand.tmp 19, Operand.tmp 21], argTypes := #[24, 24] }, type := 4, pos := "law.go:41", after := #[{ on := 1, ground := Ground.data }, { on := 3, ground := Ground.data }, { on := 3, ground := Ground.chain }], guard := none }) rfl (fun K' hK' => ?_) AllReadyH.nil
  rw [if_pos (by kernel_rfl)]
  go_simp
  refine (HSm.out _ _ _ _ _ _ _ _ _ HQ2.out.1.1 HQ2.out.1.2 HQ2.out.2.1 HQ2.out.2.2).mono ?_
  rintro e wc ⟨rfl, hba⟩
  have hHa := HK.out _ _ hHeld hba
  clear hHeld hba HQ2
  refine hK'.out _ _ hHa (fun hHeld => ?_)
  clear hK' hHa
  try simp only [Act.put, List.setIfInBounds_toArray, List.set_cons_zero, List.set_cons_succ]
  refine takeH_now (i := 5) (some 7) (v := ?_) rfl (by kernel_rfl) (by kernel_rfl) (by kernel_rfl) (fun _ _ _ h => h) (Or.inl ⟨by rfl, ?_⟩) rfl (by assumption) ?_
  rotate_left
  focus (intro w9 hS9; go_simp; try with_reducible rfl)
  try simp only [Act.put, List.setIfInBounds_toArray, List.set_cons_zero, List.set_cons_succ]
  refine wpAnyH_done (by kernel_rfl) ?_ _
  clear HNa HRa HSm
  obtain ⟨W5, hW5⟩ : ∃ W5, wc = W5 := ⟨_, rfl⟩
  rw [hW5] at hHeld ⊢
  clear hW5
  have hstart : Below W3.heap.size W3 W5.drew := hHeld.drew
  obtain ⟨aC, aL, aK, bC, bL, bK⟩ := HCell.out _ hHeld
  clear hHeld
  go_wp2_with fail
  clear aC aL aK bC bL bK
  refine wp_region_held_drew (S := fun W => Below W3.heap.size W3 W) (by kernel_rfl) hstart (fun hHeld => ?_)
  clear hstart
  refine takeH_now (i := 0) (some 23) (v := ?_) rfl (by kernel_rfl) (by kernel_rfl) (by kernel_rfl) (fun _ _ _ h => h) (Or.inl ⟨by rfl, ?_⟩) rfl (by assumption) ?_
  rotate_left
  focus (intro w9 hS9; go_simp; try with_reducible rfl)
  try simp only [Act.put, List.setIfInBounds_toArray, List.set_cons_zero, List.set_cons_succ]
  refine takeH_now (i := 1) (some 24) (v := ?_) rfl (by kernel_rfl) (by kernel_rfl) (by kernel_rfl) (fun _ _ _ h => h) (Or.inl ⟨by rfl, ?_⟩) rfl (by assumption) ?_
  rotate_left
  focus (intro w9 hS9; go_simp; try with_reducible rfl)
  try simp only [Act.put, List.setIfInBounds_toArray, List.set_cons_zero, List.set_cons_succ]
  refine takeH_now (i := 2) (some 25) (v := ?_) rfl (by kernel_rfl) (by kernel_rfl) (by kernel_rfl) (fun _ _ _ h => h) (Or.inl ⟨by rfl, ?_⟩) rfl (by assumption) ?_
  rotate_left
  focus (intro w9 hS9; obtain ⟨aC, aL, aK, bC, bL, bK⟩ := HCell.out w9 hS9; clear hS9; go_simp; try with_reducible rfl)
  try simp only [Act.put, List.setIfInBounds_toArray, List.set_cons_zero, List.set_cons_succ]
  refine takeH_now (i := 3) (some 26) (v := ?_) rfl (by kernel_rfl) (by kernel_rfl) (by kernel_rfl) (fun _ _ _ h => h) (Or.inl ⟨by rfl, ?_⟩) rfl (by assumption) ?_
  rotate_left
  focus (intro w9 hS9; go_simp; try with_reducible rfl)
  try simp only [Act.put, List.setIfInBounds_toArray, List.set_cons_zero, List.set_cons_succ]
  refine takeH_now (i := 5) (some 28) (v := ?_) rfl (by kernel_rfl) (by kernel_rfl) (by kernel_rfl) (fun _ _ _ h => h) (Or.inl ⟨by rfl, ?_⟩) rfl (by assumption) ?_
  rotate_left
  focus (intro w9 hS9; obtain ⟨aC, aL, aK, bC, bL, bK⟩ := HCell.out w9 hS9; clear hS9; go_simp; try with_reducible rfl)
  try simp only [Act.put, List.setIfInBounds_toArray, List.set_cons_zero, List.set_cons_succ]
  refine takeH_now (i := 6) (some 29) (v := ?_) rfl (by kernel_rfl) (by kernel_rfl) (by kernel_rfl) (fun _ _ _ h => h) (Or.inl ⟨by rfl, ?_⟩) rfl (by assumption) ?_
  rotate_left
  focus (intro w9 hS9; go_simp; try with_reducible rfl)
  try simp only [Act.put, List.setIfInBounds_toArray, List.set_cons_zero, List.set_cons_succ]
  refine wpAnyH_ready (rs := [4]) (by kernel_rfl) (by simp) ?_
  refine AllReadyH.cons (o := { dst := some 27, op := Op.call { callee := Callee.value (Operand.func 17), args := #[Operand.tmp 25, Operand.tmp 26], argTypes := #[24, 3] }, type := 29, pos := "law.go:42", after := #[{ on := 2, ground := Ground.data }, { on := 3, ground := Ground.data }, { on := 1, ground := Ground.chain }, { on := 1, ground := Ground.guard }], guard := some (1, true) }) rfl (fun K' hK' => ?_) AllReadyH.nil
  rw [if_pos (by kernel_rfl)]
  go_simp
  refine (HCk1.out _ hHeld).mono ?_
  rintro e wd ⟨rfl, hba⟩
  have hHa := HK.out _ _ hHeld hba
  clear hHeld hba
  refine hK'.out _ _ hHa (fun hHeld => ?_)
  clear hK' hHa
  try simp only [Act.put, List.setIfInBounds_toArray, List.set_cons_zero, List.set_cons_succ]
  refine wpAnyH_ready (rs := [7]) (by kernel_rfl) (by simp) ?_
  refine AllReadyH.cons (o := { dst := some 30, op := Op.call { callee := Callee.value (Operand.func 18), args := #[Operand.tmp 28, Operand.tmp 29], argTypes := #[24, 3] }, type := 29, pos := "law.go:42", after := #[{ on := 5, ground := Ground.data }, { on := 6, ground := Ground.data }, { on := 4, ground := Ground.chain }, { on := 1, ground := Ground.guard }], guard := some (1, true) }) rfl (fun K' hK' => ?_) AllReadyH.nil
  rw [if_pos (by kernel_rfl)]
  go_simp
  refine (HCk2.out _ hHeld).mono ?_
  rintro e wd ⟨rfl, hba⟩
  have hHa := HK.out _ _ hHeld hba
  clear hHeld hba
  refine hK'.out _ _ hHa (fun hHeld => ?_)
  clear hK' hHa
  try simp only [Act.put, List.setIfInBounds_toArray, List.set_cons_zero, List.set_cons_succ]
  refine takeH_now (i := 8) (some 31) (v := ?_) rfl (by kernel_rfl) (by kernel_rfl) (by kernel_rfl) (fun _ _ _ h => h) (Or.inl ⟨by rfl, ?_⟩) rfl (by assumption) ?_
  rotate_left
  focus (intro w9 hS9; go_simp; try with_reducible rfl)
  try simp only [Act.put, List.setIfInBounds_toArray, List.set_cons_zero, List.set_cons_succ]
  refine takeH_now (i := 9) (some 32) (v := ?_) rfl (by kernel_rfl) (by kernel_rfl) (by kernel_rfl) (fun _ _ _ h => h) (Or.inl ⟨by rfl, ?_⟩) rfl (by assumption) ?_
  rotate_left
  focus (intro w9 hS9; go_simp; try with_reducible rfl)
  try simp only [Act.put, List.setIfInBounds_toArray, List.set_cons_zero, List.set_cons_succ]
  refine takeH_now (i := 10) (some 33) (v := ?_) rfl (by kernel_rfl) (by kernel_rfl) (by kernel_rfl) (fun _ _ _ h => h) (Or.inl ⟨by rfl, ?_⟩) rfl (by assumption) ?_
  rotate_left
  focus (intro w9 hS9; go_simp; try with_reducible rfl)
  try simp only [Act.put, List.setIfInBounds_toArray, List.set_cons_zero, List.set_cons_succ]
  refine takeH_now (i := 11) (some 34) (v := ?_) rfl (by kernel_rfl) (by kernel_rfl) (by kernel_rfl) (fun _ _ _ h => h) (Or.inl ⟨by rfl, ?_⟩) rfl (by assumption) ?_
  rotate_left
  focus (intro w9 hS9; obtain ⟨aC, aL, aK, bC, bL, bK⟩ := HCell.out w9 hS9; clear hS9; go_simp; try with_reducible rfl)
  try simp only [Act.put, List.setIfInBounds_toArray, List.set_cons_zero, List.set_cons_succ]
  refine takeH_now (i := 12) (some 35) (v := ?_) rfl (by kernel_rfl) (by kernel_rfl) (by kernel_rfl) (fun _ _ _ h => h) (Or.inl ⟨by rfl, ?_⟩) rfl (by assumption) ?_
  rotate_left
  focus (intro w9 hS9; obtain ⟨aC, aL, aK, bC, bL, bK⟩ := HCell.out w9 hS9; clear hS9; go_simp; try with_reducible rfl)
  try simp only [Act.put, List.setIfInBounds_toArray, List.set_cons_zero, List.set_cons_succ]
  refine takeH_now (i := 14) (some 37) (v := ?_) rfl (by kernel_rfl) (by kernel_rfl) (by kernel_rfl) (fun _ _ _ h => h) (Or.inl ⟨by rfl, ?_⟩) rfl (by assumption) ?_
  rotate_left
  focus (intro w9 hS9; obtain ⟨aC, aL, aK, bC, bL, bK⟩ := HCell.out w9 hS9; clear hS9; go_simp; try with_reducible rfl)
  try simp only [Act.put, List.setIfInBounds_toArray, List.set_cons_zero, List.set_cons_succ]
  refine takeH_now (i := 15) (some 38) (v := ?_) rfl (by kernel_rfl) (by kernel_rfl) (by kernel_rfl) (fun _ _ _ h => h) (Or.inl ⟨by rfl, ?_⟩) rfl (by assumption) ?_
  rotate_left
  focus (intro w9 hS9; obtain ⟨aC, aL, aK, bC, bL, bK⟩ := HCell.out w9 hS9; clear hS9; go_simp; try with_reducible rfl)
  try simp only [Act.put, List.setIfInBounds_toArray, List.set_cons_zero, List.set_cons_succ]
  refine wpAnyH_ready (rs := [13]) (by kernel_rfl) (by simp) ?_
  refine AllReadyH.cons (o := { dst := some 36, op := Op.call { callee := Callee.value (Operand.func 19), args := #[Operand.tmp 34, Operand.tmp 35], argTypes := #[24, 24] }, type := 4, pos := "law.go:42", after := #[{ on := 11, ground := Ground.data }, { on := 12, ground := Ground.data }, { on := 10, ground := Ground.chain }, { on := 10, ground := Ground.guard }], guard := some (10, true) }) rfl (fun K' hK' => ?_) AllReadyH.nil
  rw [if_pos (by kernel_rfl)]
  go_simp
  refine (HS1.out _ hHeld).mono ?_
  rintro e wd ⟨rfl, hba⟩
  have hHa := HK.out _ _ hHeld hba
  clear hHeld hba
  refine hK'.out _ _ hHa (fun hHeld => ?_)
  clear hK' hHa
  try simp only [Act.put, List.setIfInBounds_toArray, List.set_cons_zero, List.set_cons_succ]
  refine wpAnyH_ready (rs := [16]) (by kernel_rfl) (by simp) ?_
  refine AllReadyH.cons (o := { dst := some 39, op := Op.call { callee := Callee.value (Operand.func 14), args := #[Operand.tmp 37, Operand.tmp 38], argTypes := #[24, 24] }, type := 4, pos := "law.go:42", after := #[{ on := 14, ground := Ground.data }, { on := 15, ground := Ground.data }, { on := 13, ground := Ground.chain }, { on := 10, ground := Ground.guard }], guard := some (10, true) }) rfl (fun K' hK' => ?_) AllReadyH.nil
  rw [if_pos (by kernel_rfl)]
  go_simp
  refine (HS2.out _ hHeld).mono ?_
  rintro e wd ⟨rfl, hba⟩
  have hHa := HK.out _ _ hHeld hba
  clear hHeld hba
  refine hK'.out _ _ hHa (fun hHeld => ?_)
  clear hK' hHa
  try simp only [Act.put, List.setIfInBounds_toArray, List.set_cons_zero, List.set_cons_succ]
  refine takeH_now (i := 17) (some 40) (v := ?_) rfl (by kernel_rfl) (by kernel_rfl) (by kernel_rfl) (fun _ _ _ h => h) (Or.inl ⟨by rfl, ?_⟩) rfl (by assumption) ?_
  rotate_left
  focus (intro w9 hS9; go_simp; try with_reducible rfl)
  try simp only [Act.put, List.setIfInBounds_toArray, List.set_cons_zero, List.set_cons_succ]
  refine takeH_now (i := 18) (some 41) (v := ?_) rfl (by kernel_rfl) (by kernel_rfl) (by kernel_rfl) (fun _ _ _ h => h) (Or.inl ⟨by rfl, ?_⟩) rfl (by assumption) ?_
  rotate_left
  focus (intro w9 hS9; go_simp; try with_reducible rfl)
  try simp only [Act.put, List.setIfInBounds_toArray, List.set_cons_zero, List.set_cons_succ]
  refine takeH_now (i := 19) (some 6) (v := ?_) rfl (by kernel_rfl) (by kernel_rfl) (by kernel_rfl) (fun _ _ _ h => h) (Or.inl ⟨by rfl, ?_⟩) rfl (by assumption) ?_
  rotate_left
  focus (intro w9 hS9; go_simp; try with_reducible rfl)
  try simp only [Act.put, List.setIfInBounds_toArray, List.set_cons_zero, List.set_cons_succ]
  refine wpAnyH_done (by kernel_rfl) ?_ _
  have hend := HFin.out _ hHeld
  clear hHeld
  go_wp2_with fail
  go_ret
  exact ⟨by simp, hend⟩
theorem nsp_any (A1 L1 A2 L2 : Option Addr) (n1 m1 n2 m2 c1 d1 c2 d2 : Nat) (k k2 N : Int) (w : World) (cs ls cs2 ls2 : List Int) (r1 : RdI w.heap.size w A1 cs) (r2 : RdI w.heap.size w L1 ls) (r3 : RdI w.heap.size w A2 cs2) (r4 : RdI w.heap.size w L2 ls2) (h1 : cs.length = n1) (h2 : ls.length = m1) (h3 : cs2.length = n2) (h4 : ls2.length = m2) :
    Calls Try.prog 3 #[.agg #[.slice A1 n1 c1, .slice L1 m1 d1, .int .i64 k], .agg #[.slice A2 n2 c2, .slice L2 m2 d2, .int .i64 k2], .int .i64 N] w fun e w' => e = .returned (.bool true) ∧ Below w.heap.size w w' := by
  by_cases f1 : n1 ≤ 60 ∧ m1 ≤ 60
  · by_cases f2 : n2 ≤ 60 ∧ m2 ≤ 60
    · exact nsp_main A1 L1 A2 L2 n1 m1 n2 m2 c1 d1 c2 d2 k k2 N w cs ls cs2 ls2 r1 r2 r3 r4 h1 h2 h3 h4 ⟨f1, f2⟩
    · exact nsp_out1 A1 L1 A2 L2 n1 m1 n2 m2 c1 d1 c2 d2 k k2 N w ⟨f1, f2⟩
  · exact nsp_out0 A1 L1 A2 L2 n1 m1 n2 m2 c1 d1 c2 d2 k k2 N w f1
end Go.Proofs.Ytoacfjmefoiflaa
