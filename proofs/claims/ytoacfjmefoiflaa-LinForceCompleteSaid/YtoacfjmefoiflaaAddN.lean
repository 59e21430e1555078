/- What lin.Add answers where it refuses. -/
import Derived.Test.YtoacfjmefoiflaaAdd
namespace Go.Proofs.Ytoacfjmefoiflaa
open Go.RowKit Go.Maps
set_option maxRecDepth 100000

/-- Three blocks at the start of Add. -/
theorem add_world' (A1 L1 A2 L2 : Option Addr) (n1 m1 n2 m2 c1 d1 c2 d2 : Nat) (k k2 : Int) (w W1 : World) (hW1 : W1 = (((w.alloc (.cells #[.slice A1 n1 c1, .slice L1 m1 d1, .int .i64 k] 24)).alloc (.cells #[.slice A2 n2 c2, .slice L2 m2 d2, .int .i64 k2] 24)).alloc (.cells #[.slice Option.none 0 0, .slice Option.none 0 0, .int .i64 0] 24))) :
    W1.heap.size = w.heap.size + 3 ∧ Below w.heap.size w W1 ∧ LinAt W1 w.heap.size (.slice A1 n1 c1) (.slice L1 m1 d1) k 24 ∧ LinAt W1 (w.heap.size + 1) (.slice A2 n2 c2) (.slice L2 m2 d2) k2 24 ∧ LinAt W1 (w.heap.size + 2) (.slice Option.none 0 0) (.slice Option.none 0 0) 0 24 := by
  refine ⟨by rw [hW1]; simp, by rw [hW1]; exact (((Below.refl _ _).alloc (Nat.le_refl _) _).alloc (by simp) _).alloc (by simp; omega) _, ?_, ?_, ?_⟩
  · rw [hW1]; exact (heap_alloc_old _ _ (by simp; omega)).trans ((heap_alloc_old _ _ (by simp)).trans (heap_alloc_new _ _))
  · have h := heap_alloc_new (w.alloc (.cells #[.slice A1 n1 c1, .slice L1 m1 d1, .int .i64 k] 24)) (.cells #[.slice A2 n2 c2, .slice L2 m2 d2, .int .i64 k2] 24)
    rw [World.size_alloc] at h
    rw [hW1]
    exact (heap_alloc_old _ _ (by simp)).trans h
  · have h := heap_alloc_new ((w.alloc (.cells #[.slice A1 n1 c1, .slice L1 m1 d1, .int .i64 k] 24)).alloc (.cells #[.slice A2 n2 c2, .slice L2 m2 d2, .int .i64 k2] 24)) (.cells #[.slice Option.none 0 0, .slice Option.none 0 0, .int .i64 0] 24)
    rw [World.size_alloc, World.size_alloc] at h
    rw [hW1]
    exact h
set_option maxHeartbeats 8000000 in
theorem Add_no1 (B : Nat) (A1 L1 A2 L2 : Option Addr) (n1 m1 n2 m2 c1 d1 c2 d2 : Nat) (k k2 : Int) (cs ls : List Int) (w : World) (r1 : RdI B w A1 cs) (r2 : RdI B w L1 ls) (hB : B ≤ w.heap.size)
    (h1 : cs.length = n1) (h2 : ls.length = m1) (hm1 : m1 ≤ 64) (ok1 : ¬ OkL cs ls k 65536) :
    Calls Try.prog 25 #[.agg #[.slice A1 n1 c1, .slice L1 m1 d1, .int .i64 k], .agg #[.slice A2 n2 c2, .slice L2 m2 d2, .int .i64 k2]] w (NoLin 1 w) := by
  obtain ⟨W1, hW1⟩ : ∃ W, W = _ := ⟨_, rfl⟩
  obtain ⟨hs1, hb1, hat1, hat2, hres⟩ := add_world' A1 L1 A2 L2 n1 m1 n2 m2 c1 d1 c2 d2 k k2 w W1 hW1
  have hCk1 := (LinCheck_any B A1 L1 n1 m1 c1 d1 k 65536 cs ls W1 (r1.below hb1 hB) (r2.below hb1 hB) (by omega) h1 h2 (by omega) (by omega) (by omega)).2 ok1
  have HCk1 := Lib.hid hCk1
  have HW := Lib.hid hW1
  have H1 := Lib.hid hres
  obtain ⟨cC, cL, cK⟩ := hat1.cells
  rw [hW1] at cC cL cK
  clear hW1 hat1 hat2 hres r1 r2 h1 h2 hCk1 ok1
  go_enter Try.func25, Try.ntmps25
  go_wp2_with fail
  rw [← HW.out]
  clear HW
  refine HCk1.out.mono ?_
  rintro e w2 ⟨rfl, hb2⟩
  have hres2 := H1.out.below hb2
  obtain ⟨s0, s1, s2, f0, f1, f2, hfin⟩ := lin_store hres2 (.slice Option.none 0 0) (.slice Option.none 0 0) 0
  obtain ⟨r0, r1, r2⟩ := hfin.cells
  have lowf := low_store (hb1.trans (hb2.mono hb1.size)) (show w.heap.size ≤ w.heap.size + 2 by omega) (.slice Option.none 0 0) (.slice Option.none 0 0) (.int .i64 0)
  have HFI := Lib.hid hfin
  have HLow := Lib.hid lowf
  clear HCk1 hb2 hres2 hfin lowf H1 cC cL cK
  go_wp2_with fail
  refine bodyPost_ret (results_row_tmp rfl _ _ (w.heap.size + 2) 24 _ (0, 0) _ _ rfl HFI.out rfl rfl rfl rfl) rfl ?_
  exact ⟨rfl, HLow.out⟩
set_option maxHeartbeats 8000000 in
theorem Add_no2 (B : Nat) (A1 L1 A2 L2 : Option Addr) (n1 m1 n2 m2 c1 d1 c2 d2 : Nat) (k k2 : Int) (cs ls cs2 ls2 : List Int) (w : World) (r1 : RdI B w A1 cs) (r2 : RdI B w L1 ls) (r3 : RdI B w A2 cs2) (r4 : RdI B w L2 ls2) (hB : B ≤ w.heap.size)
    (h1 : cs.length = n1) (h2 : ls.length = m1) (h3 : cs2.length = n2) (h4 : ls2.length = m2) (hm1 : m1 ≤ 64) (hm2 : m2 ≤ 64) (ok1 : OkL cs ls k 65536) (ok2 : ¬ OkL cs2 ls2 k2 65536) :
    Calls Try.prog 25 #[.agg #[.slice A1 n1 c1, .slice L1 m1 d1, .int .i64 k], .agg #[.slice A2 n2 c2, .slice L2 m2 d2, .int .i64 k2]] w (NoLin 1 w) := by
  obtain ⟨W1, hW1⟩ : ∃ W, W = _ := ⟨_, rfl⟩
  obtain ⟨hs1, hb1, hat1, hat2, hres⟩ := add_world' A1 L1 A2 L2 n1 m1 n2 m2 c1 d1 c2 d2 k k2 w W1 hW1
  have hCk1 := (LinCheck_any B A1 L1 n1 m1 c1 d1 k 65536 cs ls W1 (r1.below hb1 hB) (r2.below hb1 hB) (by omega) h1 h2 (by omega) (by omega) (by omega)).1 ok1
  have hCk2 := fun W (h : Below w.heap.size w W) => (LinCheck_any B A2 L2 n2 m2 c2 d2 k2 65536 cs2 ls2 W (r3.below h hB) (r4.below h hB) (by have := h.size; omega) h3 h4 (by omega) (by omega) (by omega)).2 ok2
  have HCk1 := Lib.hid hCk1
  have HCk2 := Lib.hid hCk2
  have HW := Lib.hid hW1
  have H1 := Lib.hid (And.intro hat2 hres)
  obtain ⟨cC, cL, cK⟩ := hat1.cells
  rw [hW1] at cC cL cK
  clear hW1 hat1 hat2 hres r1 r2 r3 r4 h1 h2 h3 h4 hCk1 hCk2 ok1 ok2
  go_enter Try.func25, Try.ntmps25
  go_wp2_with fail
  rw [← HW.out]
  clear HW
  refine HCk1.out.mono ?_
  rintro e w2 ⟨rfl, hb2⟩
  have hb12 := hb1.trans (hb2.mono hb1.size)
  have hs2 := hb2.size
  have H2 := Lib.hid (H1.out.2.below hb2)
  obtain ⟨cC, cL, cK⟩ := (H1.out.1.below hb2).cells
  clear HCk1 H1 hb2
  go_wp2_with fail
  refine (HCk2.out _ hb12).mono ?_
  rintro e w3 ⟨rfl, hb3⟩
  have hres3 := H2.out.below hb3
  obtain ⟨s0, s1, s2, f0, f1, f2, hfin⟩ := lin_store hres3 (.slice Option.none 0 0) (.slice Option.none 0 0) 0
  obtain ⟨r0, r1, r2⟩ := hfin.cells
  have lowf := low_store (hb12.trans (hb3.mono hb12.size)) (show w.heap.size ≤ w.heap.size + 2 by omega) (.slice Option.none 0 0) (.slice Option.none 0 0) (.int .i64 0)
  have HFI := Lib.hid hfin
  have HLow := Lib.hid lowf
  clear HCk2 hb3 hres3 hfin lowf H2 cC cL cK
  go_wp2_with fail
  refine bodyPost_ret (results_row_tmp rfl _ _ (w.heap.size + 2) 24 _ (0, 0) _ _ rfl HFI.out rfl rfl rfl rfl) rfl ?_
  exact ⟨rfl, HLow.out⟩
set_option maxHeartbeats 8000000 in
theorem Add_no3 (B : Nat) (A1 L1 A2 L2 : Option Addr) (n1 n2 c1 d1 c2 d2 : Nat) (k k2 T : Int) (cs ls cs2 ls2 : List Int) (w : World) (r1 : RdI B w A1 cs) (r2 : RdI B w L1 ls) (r3 : RdI B w A2 cs2) (r4 : RdI B w L2 ls2) (hB : B ≤ w.heap.size)
    (h1 : cs.length = n1) (h2 : ls.length = n1) (h3 : cs2.length = n2) (h4 : ls2.length = n2) (hn1 : n1 ≤ 64) (hn2 : n2 ≤ 64) (ok1 : OkL cs ls k 65536) (ok2 : OkL cs2 ls2 k2 65536) (hT : T = k + k2) (hT2 : numB T = false) :
    Calls Try.prog 25 #[.agg #[.slice A1 n1 c1, .slice L1 n1 d1, .int .i64 k], .agg #[.slice A2 n2 c2, .slice L2 n2 d2, .int .i64 k2]] w (NoLin 2 w) := by
  obtain ⟨W1, hW1⟩ : ∃ W, W = _ := ⟨_, rfl⟩
  obtain ⟨hs1, hb1, hat1, hat2, hres⟩ := add_world A1 L1 A2 L2 n1 n2 c1 d1 c2 d2 k k2 w W1 hW1
  have hCk1 := (LinCheck_any B A1 L1 n1 n1 c1 d1 k 65536 cs ls W1 (r1.below hb1 hB) (r2.below hb1 hB) (by omega) h1 h2 (by omega) (by omega) (by omega)).1 ok1
  have hCk2 := fun W (h : Below w.heap.size w W) => (LinCheck_any B A2 L2 n2 n2 c2 d2 k2 65536 cs2 ls2 W (r3.below h hB) (r4.below h hB) (by have := h.size; omega) h3 h4 (by omega) (by omega) (by omega)).1 ok2
  have hk1 : -1099511627776 ≤ k ∧ k ≤ 1099511627776 := by have := ok1.2.2.2.1; unfold numB at this; simpa using this
  have hk2 : -1099511627776 ≤ k2 ∧ k2 ≤ 1099511627776 := by have := ok2.2.2.2.1; unfold numB at this; simpa using this
  have hnum := fun W => lnumber_any T W
  rw [hT2] at hnum
  obtain ⟨hk1a, hk1b⟩ := hk1
  obtain ⟨hk2a, hk2b⟩ := hk2
  have g1 : decide ((n1 : Int) + (n2 : Int) > 4096) = false := decide_eq_false (by omega)
  have g2 : decide (4096 < (n1 : Int) + (n2 : Int)) = false := decide_eq_false (by omega)
  have g3 : decide (4096 < n1 + n2) = false := decide_eq_false (by omega)
  have HCk1 := Lib.hid hCk1
  have HCk2 := Lib.hid hCk2
  have HNum := Lib.hid hnum
  have HW := Lib.hid hW1
  have H1 := Lib.hid (And.intro hat1 (And.intro hat2 hres))
  obtain ⟨cC, cL, cK⟩ := hat1.cells
  rw [hW1] at cC cL cK
  have HT := Lib.hid hT
  clear hW1 hat1 hat2 hres r1 r2 r3 r4 h1 h2 h3 h4 hCk1 hCk2 ok1 ok2 hnum hT2 hT
  go_enter Try.func25, Try.ntmps25
  go_wp2_with fail
  rw [← HW.out]
  clear HW
  refine HCk1.out.mono ?_
  rintro e w2 ⟨rfl, hb2⟩
  have hb12 := hb1.trans (hb2.mono hb1.size)
  have H2 := Lib.hid (And.intro (H1.out.1.below hb2) (And.intro (H1.out.2.1.below hb2) (H1.out.2.2.below hb2)))
  obtain ⟨cC, cL, cK⟩ := H2.out.2.1.cells
  have hs2 := hb2.size
  clear HCk1 H1 hb2
  go_wp2_with fail
  refine (HCk2.out _ hb12).mono ?_
  rintro e w3 ⟨rfl, hb3⟩
  have hb13 := hb12.trans (hb3.mono hb12.size)
  have H3 := Lib.hid (And.intro (H2.out.1.below hb3) (And.intro (H2.out.2.1.below hb3) (H2.out.2.2.below hb3)))
  obtain ⟨cC, cL, cK⟩ := H3.out.1.cells
  obtain ⟨cC2, cL2, cK2⟩ := H3.out.2.1.cells
  have hs3 := hb3.size
  clear HCk2 H2 hb3
  have hTw : wrap64 (k + k2) = k + k2 := IntWalk.wrap64_in _ (by omega)
  rw [← HT.out] at hTw
  have hTk : k + k2 = T := HT.out.symm
  go_wp2_with fail
  refine (HNum.out _).mono ?_
  rintro e w4 ⟨rfl, rfl⟩
  obtain ⟨s0, s1, s2, f0, f1, f2, hfin⟩ := lin_store H3.out.2.2 (.slice Option.none 0 0) (.slice Option.none 0 0) 0
  obtain ⟨r0, r1, r2⟩ := hfin.cells
  have lowf := low_store hb13 (show w.heap.size ≤ w.heap.size + 2 by omega) (.slice Option.none 0 0) (.slice Option.none 0 0) (.int .i64 0)
  have HFI := Lib.hid hfin
  have HLow := Lib.hid lowf
  clear hfin lowf H3 cC cL cK cC2 cL2 cK2 hTw hTk HNum
  go_wp2_with fail
  refine bodyPost_ret (results_row_tmp rfl _ _ (w.heap.size + 2) 24 _ (0, 0) _ _ rfl HFI.out rfl rfl rfl rfl) rfl ?_
  exact ⟨rfl, HLow.out⟩
end Go.Proofs.Ytoacfjmefoiflaa
