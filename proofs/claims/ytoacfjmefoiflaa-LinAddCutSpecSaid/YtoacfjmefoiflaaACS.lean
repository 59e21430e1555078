/- The walk of the law LinAddCutSpec. -/
import Derived.Test.YtoacfjmefoiflaaRCut
import Derived.Test.YtoacfjmefoiflaaRAdd
namespace Go.Proofs.Ytoacfjmefoiflaa
open Go.ChangeShapes Go.WideShapes Go.ChangeAt Go.RowKit
set_option maxRecDepth 100000

set_option maxHeartbeats 4000000 in
theorem acs_out0 (A1 L1 A2 L2 : Option Addr) (n1 m1 n2 m2 c1 d1 c2 d2 : Nat) (k k2 N : Int) (w : World) (hyp : ¬ (n1 ≤ 60 ∧ m1 ≤ 60)) :
    Calls Try.prog 5 #[.agg #[.slice A1 n1 c1, .slice L1 m1 d1, .int .i64 k], .agg #[.slice A2 n2 c2, .slice L2 m2 d2, .int .i64 k2], .int .i64 N] w fun e w' => e = .returned (.bool true) ∧ Below w.heap.size w w' := by
  obtain ⟨W1, hW1⟩ : ∃ W, W = (w.alloc (.cells #[.slice A1 n1 c1, .slice L1 m1 d1, .int .i64 k] 24)).alloc (.cells #[.slice A2 n2 c2, .slice L2 m2 d2, .int .i64 k2] 24) := ⟨_, rfl⟩
  have low : Below w.heap.size w W1 := by rw [hW1]; exact ((Below.refl _ _).alloc (Nat.le_refl _) _).alloc (by simp) _
  have hat1 : LinAt W1 w.heap.size (.slice A1 n1 c1) (.slice L1 m1 d1) k 24 := by rw [hW1]; exact (heap_alloc_old _ _ (by simp)).trans (heap_alloc_new _ _)
  have hat2 : LinAt W1 (w.heap.size + 1) (.slice A2 n2 c2) (.slice L2 m2 d2) k2 24 := by
    have := heap_alloc_new (w.alloc (.cells #[.slice A1 n1 c1, .slice L1 m1 d1, .int .i64 k] 24)) (.cells #[.slice A2 n2 c2, .slice L2 m2 d2, .int .i64 k2] 24)
    rw [World.size_alloc] at this
    rw [hW1]; exact this
  have hF1 := fun W => few_any A1 L1 n1 m1 c1 d1 k W
  have hF2 := fun W => few_any A2 L2 n2 m2 c2 d2 k2 W
  have HW := Lib.hid hW1
  have HA := Lib.hid (And.intro hat1 hat2)
  clear hW1 hat1 hat2
  rw [decide_eq_false hyp] at hF1
  have HF1 := Lib.hid hF1
  clear hF1 hF2 hyp
  go_enter Try.func5, Try.ntmps5
  go_wp2_with fail
  rw [← HW.out]
  clear HW
  refine (live_any W1).mono ?_
  rintro e y1 ⟨rfl, hb⟩
  have low := low.trans (hb.mono low.size)
  have HA := Lib.hid (And.intro (HA.out.1.below hb) (HA.out.2.below hb))
  clear hb 
  obtain ⟨aC, aL, aK⟩ := (HA.out.1).cells
  obtain ⟨bC, bL, bK⟩ := (HA.out.2).cells
  go_wp2_with fail
  refine (HF1.out _).mono ?_
  rintro e y2 ⟨rfl, hb⟩
  clear aC aL aK
  clear bC bL bK
  have low := low.trans (hb.mono low.size)
  have HA := Lib.hid (And.intro (HA.out.1.below hb) (HA.out.2.below hb))
  clear hb 
  obtain ⟨aC, aL, aK⟩ := (HA.out.1).cells
  obtain ⟨bC, bL, bK⟩ := (HA.out.2).cells
  have fin := Lib.hid low
  clear aC aL aK
  clear bC bL bK
  clear low HA
  go_wp2_with fail
  go_ret
  exact ⟨rfl, fin.out⟩
set_option maxHeartbeats 4000000 in
theorem acs_out1 (A1 L1 A2 L2 : Option Addr) (n1 m1 n2 m2 c1 d1 c2 d2 : Nat) (k k2 N : Int) (w : World) (hyp : (n1 ≤ 60 ∧ m1 ≤ 60) ∧ ¬ (n2 ≤ 60 ∧ m2 ≤ 60)) :
    Calls Try.prog 5 #[.agg #[.slice A1 n1 c1, .slice L1 m1 d1, .int .i64 k], .agg #[.slice A2 n2 c2, .slice L2 m2 d2, .int .i64 k2], .int .i64 N] w fun e w' => e = .returned (.bool true) ∧ Below w.heap.size w w' := by
  obtain ⟨W1, hW1⟩ : ∃ W, W = (w.alloc (.cells #[.slice A1 n1 c1, .slice L1 m1 d1, .int .i64 k] 24)).alloc (.cells #[.slice A2 n2 c2, .slice L2 m2 d2, .int .i64 k2] 24) := ⟨_, rfl⟩
  have low : Below w.heap.size w W1 := by rw [hW1]; exact ((Below.refl _ _).alloc (Nat.le_refl _) _).alloc (by simp) _
  have hat1 : LinAt W1 w.heap.size (.slice A1 n1 c1) (.slice L1 m1 d1) k 24 := by rw [hW1]; exact (heap_alloc_old _ _ (by simp)).trans (heap_alloc_new _ _)
  have hat2 : LinAt W1 (w.heap.size + 1) (.slice A2 n2 c2) (.slice L2 m2 d2) k2 24 := by
    have := heap_alloc_new (w.alloc (.cells #[.slice A1 n1 c1, .slice L1 m1 d1, .int .i64 k] 24)) (.cells #[.slice A2 n2 c2, .slice L2 m2 d2, .int .i64 k2] 24)
    rw [World.size_alloc] at this
    rw [hW1]; exact this
  have hF1 := fun W => few_any A1 L1 n1 m1 c1 d1 k W
  have hF2 := fun W => few_any A2 L2 n2 m2 c2 d2 k2 W
  have HW := Lib.hid hW1
  have HA := Lib.hid (And.intro hat1 hat2)
  clear hW1 hat1 hat2
  rw [decide_eq_true hyp.1] at hF1
  rw [decide_eq_false hyp.2] at hF2
  have HF1 := Lib.hid hF1
  have HF2 := Lib.hid hF2
  clear hF1 hF2 hyp
  go_enter Try.func5, Try.ntmps5
  go_wp2_with fail
  rw [← HW.out]
  clear HW
  refine (live_any W1).mono ?_
  rintro e y1 ⟨rfl, hb⟩
  have low := low.trans (hb.mono low.size)
  have HA := Lib.hid (And.intro (HA.out.1.below hb) (HA.out.2.below hb))
  clear hb 
  obtain ⟨aC, aL, aK⟩ := (HA.out.1).cells
  obtain ⟨bC, bL, bK⟩ := (HA.out.2).cells
  go_wp2_with fail
  refine (HF1.out _).mono ?_
  rintro e y2 ⟨rfl, hb⟩
  clear aC aL aK
  clear bC bL bK
  have low := low.trans (hb.mono low.size)
  have HA := Lib.hid (And.intro (HA.out.1.below hb) (HA.out.2.below hb))
  clear hb 
  obtain ⟨aC, aL, aK⟩ := (HA.out.1).cells
  obtain ⟨bC, bL, bK⟩ := (HA.out.2).cells
  go_wp2_with fail
  refine (HF2.out _).mono ?_
  rintro e y3 ⟨rfl, hb⟩
  clear aC aL aK
  clear bC bL bK
  have low := low.trans (hb.mono low.size)
  have HA := Lib.hid (And.intro (HA.out.1.below hb) (HA.out.2.below hb))
  clear hb 
  obtain ⟨aC, aL, aK⟩ := (HA.out.1).cells
  obtain ⟨bC, bL, bK⟩ := (HA.out.2).cells
  have fin := Lib.hid low
  clear aC aL aK
  clear bC bL bK
  clear low HA
  go_wp2_with fail
  go_ret
  exact ⟨rfl, fin.out⟩
/-- What a function that answers a constraint and an error answers. -/
def R4 (C L : List Int) (K E : Int) (w : World) (e : Ending) (w' : World) : Prop :=
  ∃ A1 c1 A2 c2, e = .returned (.tuple #[.agg #[.slice A1 C.length c1, .slice A2 L.length c2, .int .i64 K], .int .i64 E]) ∧ RdI w'.heap.size w' A1 C ∧ RdI w'.heap.size w' A2 L ∧ Below w.heap.size w w'
theorem NoLin.r4 {E : Int} {w w' : World} {e : Ending} (h : NoLin E w e w') : R4 [] [] 0 E w e w' := ⟨Option.none, 0, Option.none, 0, h.1, RdI.nil _ _ _, RdI.nil _ _ _, h.2⟩
theorem GivesL.r4 {C L : List Int} {K : Int} {w w' : World} {e : Ending} (h : GivesL C L K w e w') : R4 C L K 0 w e w' := by
  obtain ⟨A1, c1, A2, c2, h1, h2, h3, _, _, h4⟩ := h
  exact ⟨A1, c1, A2, c2, h1, h2, h3, h4⟩
theorem add_both (A1 L1 A2 L2 : Option Addr) (n1 m1 n2 m2 c1 d1 c2 d2 : Nat) (k k2 : Int) (w : World) (cs ls cs2 ls2 : List Int) (r1 : RdI w.heap.size w A1 cs) (r2 : RdI w.heap.size w L1 ls) (r3 : RdI w.heap.size w A2 cs2) (r4 : RdI w.heap.size w L2 ls2) (h1 : cs.length = n1) (h2 : ls.length = m1) (h3 : cs2.length = n2) (h4 : ls2.length = m2) (z1 : A1 = Option.none → c1 = 0) (z2 : L1 = Option.none → d1 = 0) (z3 : A2 = Option.none → c2 = 0) (z4 : L2 = Option.none → d2 = 0) (hyp : (n1 ≤ 60 ∧ m1 ≤ 60) ∧ (n2 ≤ 60 ∧ m2 ≤ 60)) :
    ∃ C L K E, C.length ≤ 200 ∧ L.length ≤ 200 ∧ (∀ W, Below w.heap.size w W → Calls Try.prog 25 #[.agg #[.slice A1 n1 c1, .slice L1 m1 d1, .int .i64 k], .agg #[.slice A2 n2 c2, .slice L2 m2 d2, .int .i64 k2]] W (R4 C L K E W)) ∧ (∀ W, Below w.heap.size w W → Calls Try.prog 26 #[.agg #[.slice A1 n1 c1, .slice L1 m1 d1, .int .i64 k], .agg #[.slice A2 n2 c2, .slice L2 m2 d2, .int .i64 k2]] W (R4 C L K E W)) := by
  obtain ⟨⟨hn1, hm1⟩, ⟨hn2, hm2⟩⟩ := hyp
  have q1 := fun W (h : Below w.heap.size w W) => r1.below h (Nat.le_refl _)
  have q2 := fun W (h : Below w.heap.size w W) => r2.below h (Nat.le_refl _)
  have q3 := fun W (h : Below w.heap.size w W) => r3.below h (Nat.le_refl _)
  have q4 := fun W (h : Below w.heap.size w W) => r4.below h (Nat.le_refl _)
  by_cases ok1 : OkL cs ls k 65536
  · by_cases ok2 : OkL cs2 ls2 k2 65536
    · obtain rfl : n1 = m1 := by have := ok1.2.2.1; omega
      obtain rfl : n2 = m2 := by have := ok2.2.2.1; omega
      cases hT : numB (k + k2) with
      | true => exact ⟨cs ++ cs2, ls ++ ls2, k + k2, 0, by rw [List.length_append]; omega, by rw [List.length_append]; omega, fun W h => (Add_ok w.heap.size A1 L1 A2 L2 n1 n2 c1 d1 c2 d2 k k2 _ cs ls cs2 ls2 W (q1 W h) (q2 W h) (q3 W h) (q4 W h) h.size h1 h2 h3 h4 (by omega) (by omega) ok1 ok2 rfl hT z1 z2 z3 z4).mono fun _ _ g => g.r4, fun W h => (RAdd_ok w.heap.size A1 L1 A2 L2 n1 n2 c1 d1 c2 d2 k k2 _ cs ls cs2 ls2 W (q1 W h) (q2 W h) (q3 W h) (q4 W h) h.size h1 h2 h3 h4 (by omega) (by omega) ok1 ok2 rfl hT z1 z2 z3 z4).mono fun _ _ g => g.r4⟩
      | false => exact ⟨[], [], 0, 2, by simp, by simp, fun W h => (Add_no3 w.heap.size A1 L1 A2 L2 n1 n2 c1 d1 c2 d2 k k2 _ cs ls cs2 ls2 W (q1 W h) (q2 W h) (q3 W h) (q4 W h) h.size h1 h2 h3 h4 (by omega) (by omega) ok1 ok2 rfl hT).mono fun _ _ g => g.r4, fun W h => (RAdd_no3 w.heap.size A1 L1 A2 L2 n1 n2 c1 d1 c2 d2 k k2 _ cs ls cs2 ls2 W (q1 W h) (q2 W h) (q3 W h) (q4 W h) h.size h1 h2 h3 h4 (by omega) (by omega) ok1 ok2 rfl hT).mono fun _ _ g => g.r4⟩
    · exact ⟨[], [], 0, 1, by simp, by simp, fun W h => (Add_no2 w.heap.size A1 L1 A2 L2 n1 m1 n2 m2 c1 d1 c2 d2 k k2 cs ls cs2 ls2 W (q1 W h) (q2 W h) (q3 W h) (q4 W h) h.size h1 h2 h3 h4 (by omega) (by omega) ok1 ok2).mono fun _ _ g => g.r4, fun W h => (RAdd_no2 w.heap.size A1 L1 A2 L2 n1 m1 n2 m2 c1 d1 c2 d2 k k2 cs ls cs2 ls2 W (q1 W h) (q2 W h) (q3 W h) (q4 W h) h.size h1 h2 h3 h4 (by omega) (by omega) ok1 ok2).mono fun _ _ g => g.r4⟩
  · exact ⟨[], [], 0, 1, by simp, by simp, fun W h => (Add_no1 w.heap.size A1 L1 A2 L2 n1 m1 n2 m2 c1 d1 c2 d2 k k2 cs ls W (q1 W h) (q2 W h) h.size h1 h2 (by omega) ok1).mono fun _ _ g => g.r4, fun W h => (RAdd_no1 w.heap.size A1 L1 A2 L2 n1 m1 n2 m2 c1 d1 c2 d2 k k2 cs ls W (q1 W h) (q2 W h) h.size h1 h2 (by omega) ok1).mono fun _ _ g => g.r4⟩
theorem cut_both (A1 L1 : Option Addr) (n1 m1 c1 d1 : Nat) (k N : Int) (w : World) (cs ls : List Int) (r1 : RdI w.heap.size w A1 cs) (r2 : RdI w.heap.size w L1 ls) (h1 : cs.length = n1) (h2 : ls.length = m1) (hyp : n1 ≤ 60 ∧ m1 ≤ 60) :
    ∃ C L K E, C.length ≤ 200 ∧ L.length ≤ 200 ∧ (∀ W, Below w.heap.size w W → Calls Try.prog 27 #[.agg #[.slice A1 n1 c1, .slice L1 m1 d1, .int .i64 k], .int .i64 N] W (R4 C L K E W)) ∧ (∀ W, Below w.heap.size w W → Calls Try.prog 28 #[.agg #[.slice A1 n1 c1, .slice L1 m1 d1, .int .i64 k], .int .i64 N] W (R4 C L K E W)) := by
  obtain ⟨hn1, hm1⟩ := hyp
  have q1 := fun W (h : Below w.heap.size w W) => r1.below h (Nat.le_refl _)
  have q2 := fun W (h : Below w.heap.size w W) => r2.below h (Nat.le_refl _)
  by_cases ok1 : OkL cs ls k 65536
  · by_cases hy : 1 ≤ N ∧ N ≤ 1099511627776
    · obtain rfl : n1 = m1 := by have := ok1.2.2.1; omega
      have l1 := norm_len cs ls k
      have l2 := (canon cs ls k 65536 ok1.2.2.1 (by omega) ok1.cs ok1.ls).len
      exact ⟨dn N (nC cs ls k), nL cs ls k, dv N (nK cs ls k), 0, by rw [dn_len']; omega, by omega, fun W h => (Cut_ok w.heap.size A1 L1 n1 c1 d1 k N cs ls W (q1 W h) (q2 W h) h.size h1 h2 (by omega) ok1 hy).mono fun _ _ g => g.r4, fun W h => (RCut_ok w.heap.size A1 L1 n1 c1 d1 k N cs ls W (q1 W h) (q2 W h) h.size h1 h2 (by omega) ok1 hy).mono fun _ _ g => g.r4⟩
    · exact ⟨[], [], 0, 1, by simp, by simp, fun W h => (Cut_by w.heap.size A1 L1 n1 m1 c1 d1 k N cs ls W (q1 W h) (q2 W h) h.size h1 h2 (by omega) ok1 hy).mono fun _ _ g => g.r4, fun W h => (RCut_by w.heap.size A1 L1 n1 m1 c1 d1 k N cs ls W (q1 W h) (q2 W h) h.size h1 h2 (by omega) ok1 hy).mono fun _ _ g => g.r4⟩
  · exact ⟨[], [], 0, 1, by simp, by simp, fun W h => (Cut_no w.heap.size A1 L1 n1 m1 c1 d1 k N cs ls W (q1 W h) (q2 W h) h.size h1 h2 (by omega) ok1).mono fun _ _ g => g.r4, fun W h => (RCut_no w.heap.size A1 L1 n1 m1 c1 d1 k N cs ls W (q1 W h) (q2 W h) h.size h1 h2 (by omega) ok1).mono fun _ _ g => g.r4⟩
theorem same_both (W : World) (B1 B2 B3 B4 : Option Addr) (e1 e2 e3 e4 M1 M2 : Nat) (K : Int) (C L : List Int) (q1 : RdI W.heap.size W B1 C) (q2 : RdI W.heap.size W B2 L) (q3 : RdI W.heap.size W B3 C) (q4 : RdI W.heap.size W B4 L) (hC : C.length = M1) (hL : L.length = M2) (l1 : M1 ≤ 200) (l2 : M2 ≤ 200) :
    Calls Try.prog 14 #[.agg #[.slice B1 M1 e1, .slice B2 M2 e2, .int .i64 K], .agg #[.slice B3 M1 e3, .slice B4 M2 e4, .int .i64 K]] W fun e w' => e = .returned (.bool true) ∧ Below W.heap.size W w' := by
  have h1 := RSame_any W.heap.size B1 B2 B3 B4 M1 M2 M1 M2 e1 e2 e3 e4 K K C L C L W q1 q2 q3 q4 (Nat.le_refl _) hC hL hC hL (by unfold maxLen; omega) (by unfold maxLen; omega)
  rwa [sameB_iff.2 ⟨rfl, rfl, rfl⟩] at h1
set_option maxHeartbeats 16000000 in
theorem acs_main (A1 L1 A2 L2 : Option Addr) (n1 m1 n2 m2 c1 d1 c2 d2 : Nat) (k k2 N : Int) (w : World) (cs ls cs2 ls2 : List Int) (r1 : RdI w.heap.size w A1 cs) (r2 : RdI w.heap.size w L1 ls) (r3 : RdI w.heap.size w A2 cs2) (r4 : RdI w.heap.size w L2 ls2) (h1 : cs.length = n1) (h2 : ls.length = m1) (h3 : cs2.length = n2) (h4 : ls2.length = m2) (z1 : A1 = Option.none → c1 = 0) (z2 : L1 = Option.none → d1 = 0) (z3 : A2 = Option.none → c2 = 0) (z4 : L2 = Option.none → d2 = 0) (hyp : (n1 ≤ 60 ∧ m1 ≤ 60) ∧ (n2 ≤ 60 ∧ m2 ≤ 60)) :
    Calls Try.prog 5 #[.agg #[.slice A1 n1 c1, .slice L1 m1 d1, .int .i64 k], .agg #[.slice A2 n2 c2, .slice L2 m2 d2, .int .i64 k2], .int .i64 N] w fun e w' => e = .returned (.bool true) ∧ Below w.heap.size w w' := by
  obtain ⟨W1, hW1⟩ : ∃ W, W = (w.alloc (.cells #[.slice A1 n1 c1, .slice L1 m1 d1, .int .i64 k] 24)).alloc (.cells #[.slice A2 n2 c2, .slice L2 m2 d2, .int .i64 k2] 24) := ⟨_, rfl⟩
  have low : Below w.heap.size w W1 := by rw [hW1]; exact ((Below.refl _ _).alloc (Nat.le_refl _) _).alloc (by simp) _
  have hat1 : LinAt W1 w.heap.size (.slice A1 n1 c1) (.slice L1 m1 d1) k 24 := by rw [hW1]; exact (heap_alloc_old _ _ (by simp)).trans (heap_alloc_new _ _)
  have hat2 : LinAt W1 (w.heap.size + 1) (.slice A2 n2 c2) (.slice L2 m2 d2) k2 24 := by
    have := heap_alloc_new (w.alloc (.cells #[.slice A1 n1 c1, .slice L1 m1 d1, .int .i64 k] 24)) (.cells #[.slice A2 n2 c2, .slice L2 m2 d2, .int .i64 k2] 24)
    rw [World.size_alloc] at this
    rw [hW1]; exact this
  have hF1 := fun W => few_any A1 L1 n1 m1 c1 d1 k W
  have hF2 := fun W => few_any A2 L2 n2 m2 c2 d2 k2 W
  have HW := Lib.hid hW1
  have HA := Lib.hid (And.intro hat1 hat2)
  clear hW1 hat1 hat2
  obtain ⟨C, L, K, E, hC, hL, hAd, hRa⟩ := add_both A1 L1 A2 L2 n1 m1 n2 m2 c1 d1 c2 d2 k k2 w cs ls cs2 ls2 r1 r2 r3 r4 h1 h2 h3 h4 z1 z2 z3 z4 hyp
  obtain ⟨C2, L2', K2, E2, hC2, hL2, hCt, hRc⟩ := cut_both A1 L1 n1 m1 c1 d1 k N w cs ls r1 r2 h1 h2 hyp.1
  rw [decide_eq_true hyp.1] at hF1
  rw [decide_eq_true hyp.2] at hF2
  have HF1 := Lib.hid hF1
  have HF2 := Lib.hid hF2
  obtain ⟨M1, hM1⟩ : ∃ M, C.length = M := ⟨_, rfl⟩
  obtain ⟨M2, hM2⟩ : ∃ M, L.length = M := ⟨_, rfl⟩
  obtain ⟨M3, hM3⟩ : ∃ M, C2.length = M := ⟨_, rfl⟩
  obtain ⟨M4, hM4⟩ : ∃ M, L2'.length = M := ⟨_, rfl⟩
  unfold R4 at hAd hRa hCt hRc
  simp only [hM1, hM2] at hAd hRa
  simp only [hM3, hM4] at hCt hRc
  have HAd := Lib.hid hAd
  have HRa := Lib.hid hRa
  have HCt := Lib.hid hCt
  have HRc := Lib.hid hRc
  have HM := Lib.hid (And.intro (And.intro hM1 hM2) (And.intro hM3 hM4))
  rw [hM1] at hC
  rw [hM2] at hL
  rw [hM3] at hC2
  rw [hM4] at hL2
  clear hF1 hF2 hAd hRa hCt hRc hM1 hM2 hM3 hM4 r1 r2 r3 r4 h1 h2 h3 h4 z1 z2 z3 z4 hyp
  go_enter Try.func5, Try.ntmps5
  go_wp2_with fail
  rw [← HW.out]
  clear HW
  refine (live_any W1).mono ?_
  rintro e y1 ⟨rfl, hb⟩
  have low := low.trans (hb.mono low.size)
  have HA := Lib.hid (And.intro (HA.out.1.below hb) (HA.out.2.below hb))
  clear hb 
  obtain ⟨aC, aL, aK⟩ := (HA.out.1).cells
  obtain ⟨bC, bL, bK⟩ := (HA.out.2).cells
  go_wp2_with fail
  refine (HF1.out _).mono ?_
  rintro e y2 ⟨rfl, hb⟩
  clear aC aL aK
  clear bC bL bK
  have low := low.trans (hb.mono low.size)
  have HA := Lib.hid (And.intro (HA.out.1.below hb) (HA.out.2.below hb))
  clear hb 
  obtain ⟨aC, aL, aK⟩ := (HA.out.1).cells
  obtain ⟨bC, bL, bK⟩ := (HA.out.2).cells
  go_wp2_with fail
  refine (HF2.out _).mono ?_
  rintro e y3 ⟨rfl, hb⟩
  clear aC aL aK
  clear bC bL bK
  have low := low.trans (hb.mono low.size)
  have HA := Lib.hid (And.intro (HA.out.1.below hb) (HA.out.2.below hb))
  clear hb 
  obtain ⟨aC, aL, aK⟩ := (HA.out.1).cells
  obtain ⟨bC, bL, bK⟩ := (HA.out.2).cells
  clear HF1 HF2
  go_wp2_with fail
  refine (HAd.out _ low).mono ?_
  rintro e y4 ⟨P1, p1, Q1, q1, rfl, rd1, rd2, hb⟩
  clear aC aL aK bC bL bK
  have low := low.trans (hb.mono low.size)
  have HA := Lib.hid (And.intro (HA.out.1.below hb) (HA.out.2.below hb))
  clear hb
  obtain ⟨V1, hV, kx, hb⟩ := KL.new (n := M1) (c := p1) (m := M2) (d := q1) (k := K) rd1 rd2
  have HW := Lib.hid hV
  have low := low.trans (hb.mono low.size)
  have HA := Lib.hid (And.intro (HA.out.1.below hb) (HA.out.2.below hb))
  have KK1 := Lib.hid kx
  obtain ⟨aC, aL, aK⟩ := HA.out.1.cells
  obtain ⟨bC, bL, bK⟩ := HA.out.2.cells
  rw [hV] at aC aL aK bC bL bK
  clear kx hb rd1 rd2 hV
  go_wp2_with fail
  rw [← HW.out]
  clear HW
  refine (HRa.out _ low).mono ?_
  rintro e y5 ⟨P2, p2, Q2, q2, rfl, rd1, rd2, hb⟩
  clear aC aL aK bC bL bK
  have low := low.trans (hb.mono low.size)
  have HA := Lib.hid (And.intro (HA.out.1.below hb) (HA.out.2.below hb))
  have KK1 := Lib.hid (KK1.out.step hb)
  clear hb
  obtain ⟨V2, hV, kx, hb⟩ := KL.new (n := M1) (c := p2) (m := M2) (d := q2) (k := K) rd1 rd2
  have HW := Lib.hid hV
  have low := low.trans (hb.mono low.size)
  have HA := Lib.hid (And.intro (HA.out.1.below hb) (HA.out.2.below hb))
  have KK1 := Lib.hid (KK1.out.step hb)
  have KK2 := Lib.hid kx
  obtain ⟨aC, aL, aK⟩ := HA.out.1.cells
  obtain ⟨bC, bL, bK⟩ := HA.out.2.cells
  rw [hV] at aC aL aK bC bL bK
  clear kx hb rd1 rd2 hV
  go_wp2_with fail
  rw [← HW.out]
  clear HW
  refine (HCt.out _ low).mono ?_
  rintro e y6 ⟨P3, p3, Q3, q3, rfl, rd1, rd2, hb⟩
  clear aC aL aK bC bL bK
  have low := low.trans (hb.mono low.size)
  have HA := Lib.hid (And.intro (HA.out.1.below hb) (HA.out.2.below hb))
  have KK1 := Lib.hid (KK1.out.step hb)
  have KK2 := Lib.hid (KK2.out.step hb)
  clear hb
  obtain ⟨V3, hV, kx, hb⟩ := KL.new (n := M3) (c := p3) (m := M4) (d := q3) (k := K2) rd1 rd2
  have HW := Lib.hid hV
  have low := low.trans (hb.mono low.size)
  have HA := Lib.hid (And.intro (HA.out.1.below hb) (HA.out.2.below hb))
  have KK1 := Lib.hid (KK1.out.step hb)
  have KK2 := Lib.hid (KK2.out.step hb)
  have KK3 := Lib.hid kx
  obtain ⟨aC, aL, aK⟩ := HA.out.1.cells
  obtain ⟨bC, bL, bK⟩ := HA.out.2.cells
  rw [hV] at aC aL aK bC bL bK
  clear kx hb rd1 rd2 hV
  go_wp2_with fail
  rw [← HW.out]
  clear HW
  refine (HRc.out _ low).mono ?_
  rintro e y7 ⟨P4, p4, Q4, q4, rfl, rd1, rd2, hb⟩
  clear aC aL aK bC bL bK
  have low := low.trans (hb.mono low.size)
  have HA := Lib.hid (And.intro (HA.out.1.below hb) (HA.out.2.below hb))
  have KK1 := Lib.hid (KK1.out.step hb)
  have KK2 := Lib.hid (KK2.out.step hb)
  have KK3 := Lib.hid (KK3.out.step hb)
  clear hb
  obtain ⟨V4, hV, kx, hb⟩ := KL.new (n := M3) (c := p4) (m := M4) (d := q4) (k := K2) rd1 rd2
  have HW := Lib.hid hV
  have low := low.trans (hb.mono low.size)
  have HA := Lib.hid (And.intro (HA.out.1.below hb) (HA.out.2.below hb))
  have KK1 := Lib.hid (KK1.out.step hb)
  have KK2 := Lib.hid (KK2.out.step hb)
  have KK3 := Lib.hid (KK3.out.step hb)
  have KK4 := Lib.hid kx
  obtain ⟨aC, aL, aK⟩ := HA.out.1.cells
  obtain ⟨bC, bL, bK⟩ := HA.out.2.cells
  rw [hV] at aC aL aK bC bL bK
  clear kx hb rd1 rd2 hV
  clear aC aL aK bC bL bK HAd HRa HCt HRc
  have hS1 := Lib.hid (same_both V4 _ _ _ _ p1 q1 p2 q2 _ _ K C L KK1.out.2.1 KK1.out.2.2 KK2.out.2.1 KK2.out.2.2 HM.out.1.1 HM.out.1.2 hC hL)
  obtain ⟨xC, xL, xK⟩ := KK1.out.1.cells
  obtain ⟨yC, yL, yK⟩ := KK2.out.1.cells
  rw [HW.out] at xC xL xK yC yL yK
  go_wp2_with fail
  rw [← HW.out]
  clear HW
  refine hS1.out.mono ?_
  rintro e z1 ⟨rfl, hb⟩
  clear xC xL xK yC yL yK hS1
  have low := low.trans (hb.mono low.size)
  have KK3 := Lib.hid (KK3.out.step hb)
  have KK4 := Lib.hid (KK4.out.step hb)
  have hS2 := Lib.hid (same_both z1 _ _ _ _ p3 q3 p4 q4 _ _ K2 C2 L2' KK3.out.2.1 KK3.out.2.2 KK4.out.2.1 KK4.out.2.2 HM.out.2.1 HM.out.2.2 hC2 hL2)
  obtain ⟨xC, xL, xK⟩ := KK3.out.1.cells
  obtain ⟨yC, yL, yK⟩ := KK4.out.1.cells
  clear hb KK1 KK2
  go_wp2_with fail
  refine hS2.out.mono ?_
  rintro e z2 ⟨rfl, hb⟩
  clear xC xL xK yC yL yK hS2
  have fin := Lib.hid (low.trans (hb.mono low.size))
  have g1 : (E == E) = true := by simp
  have g2 : (E2 == E2) = true := by simp
  clear hb low KK3 KK4 HA
  go_wp2_with fail
  go_ret
  exact ⟨by simp, fin.out⟩
theorem acs_any (A1 L1 A2 L2 : Option Addr) (n1 m1 n2 m2 c1 d1 c2 d2 : Nat) (k k2 N : Int) (w : World) (cs ls cs2 ls2 : List Int) (r1 : RdI w.heap.size w A1 cs) (r2 : RdI w.heap.size w L1 ls) (r3 : RdI w.heap.size w A2 cs2) (r4 : RdI w.heap.size w L2 ls2) (h1 : cs.length = n1) (h2 : ls.length = m1) (h3 : cs2.length = n2) (h4 : ls2.length = m2) (z1 : A1 = Option.none → c1 = 0) (z2 : L1 = Option.none → d1 = 0) (z3 : A2 = Option.none → c2 = 0) (z4 : L2 = Option.none → d2 = 0) :
    Calls Try.prog 5 #[.agg #[.slice A1 n1 c1, .slice L1 m1 d1, .int .i64 k], .agg #[.slice A2 n2 c2, .slice L2 m2 d2, .int .i64 k2], .int .i64 N] w fun e w' => e = .returned (.bool true) ∧ Below w.heap.size w w' := by
  by_cases f1 : n1 ≤ 60 ∧ m1 ≤ 60
  · by_cases f2 : n2 ≤ 60 ∧ m2 ≤ 60
    · exact acs_main A1 L1 A2 L2 n1 m1 n2 m2 c1 d1 c2 d2 k k2 N w cs ls cs2 ls2 r1 r2 r3 r4 h1 h2 h3 h4 z1 z2 z3 z4 ⟨f1, f2⟩
    · exact acs_out1 A1 L1 A2 L2 n1 m1 n2 m2 c1 d1 c2 d2 k k2 N w ⟨f1, f2⟩
  · exact acs_out0 A1 L1 A2 L2 n1 m1 n2 m2 c1 d1 c2 d2 k k2 N w f1
end Go.Proofs.Ytoacfjmefoiflaa
