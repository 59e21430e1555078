/- What the reference's Add answers. -/
import Derived.Test.YtoacfjmefoiflaaRChk
import Derived.Test.YtoacfjmefoiflaaAddN
namespace Go.Proofs.Ytoacfjmefoiflaa
open Go.RowKit Go.Maps
set_option maxRecDepth 100000

set_option maxHeartbeats 8000000 in
theorem RAdd_no1 (B : Nat) (A1 L1 A2 L2 : Option Addr) (n1 m1 n2 m2 c1 d1 c2 d2 : Nat) (k k2 : Int) (cs ls : List Int) (w : World) (r1 : RdI B w A1 cs) (r2 : RdI B w L1 ls) (hB : B ≤ w.heap.size)
    (h1 : cs.length = n1) (h2 : ls.length = m1) (hm1 : m1 ≤ 64) (ok1 : ¬ OkL cs ls k 65536) :
    Calls Try.prog 26 #[.agg #[.slice A1 n1 c1, .slice L1 m1 d1, .int .i64 k], .agg #[.slice A2 n2 c2, .slice L2 m2 d2, .int .i64 k2]] w (NoLin 1 w) := by
  obtain ⟨W1, hW1⟩ : ∃ W, W = _ := ⟨_, rfl⟩
  obtain ⟨hs1, hb1, hat1, hat2, hres⟩ := add_world' A1 L1 A2 L2 n1 m1 n2 m2 c1 d1 c2 d2 k k2 w W1 hW1
  have hCk1 := (RCheck_any B A1 L1 n1 m1 c1 d1 k 65536 cs ls W1 (r1.below hb1 hB) (r2.below hb1 hB) (by omega) h1 h2 (by omega)).2 ok1
  have HCk1 := Lib.hid hCk1
  have HW := Lib.hid hW1
  have H1 := Lib.hid hres
  obtain ⟨cC, cL, cK⟩ := hat1.cells
  rw [hW1] at cC cL cK
  clear hW1 hat1 hat2 hres r1 r2 h1 h2 hCk1 ok1
  go_enter Try.func26, Try.ntmps26
  go_wp2_with fail
  rw [← HW.out]
  clear HW
  refine HCk1.out.mono ?_
  rintro e w2 ⟨rfl, hb2⟩
  have hres2 := H1.out.below hb2
  obtain ⟨s0, s1, s2, f0, f1, f2, hfin⟩ := lin_store hres2 (.slice Option.none 0 0) (.slice Option.none 0 0) 0
  obtain ⟨r0, r1, r2⟩ := hfin.cells
  have lowf := low_store (hb1.trans (hb2.mono hb1.size)) (show w.heap.size ≤ w.heap.size + 2 by omega) (.slice Option.none 0 0) (.slice Option.none 0 0) (.int .i64 0)
  have HFI := Lib.hid hfin
  have HLow := Lib.hid lowf
  clear HCk1 hb2 hres2 hfin lowf H1 cC cL cK
  go_wp2_with fail
  refine bodyPost_ret (results_row_tmp rfl _ _ (w.heap.size + 2) 24 _ (0, 0) _ _ rfl HFI.out rfl rfl rfl rfl) rfl ?_
  exact ⟨rfl, HLow.out⟩
set_option maxHeartbeats 8000000 in
theorem RAdd_no2 (B : Nat) (A1 L1 A2 L2 : Option Addr) (n1 m1 n2 m2 c1 d1 c2 d2 : Nat) (k k2 : Int) (cs ls cs2 ls2 : List Int) (w : World) (r1 : RdI B w A1 cs) (r2 : RdI B w L1 ls) (r3 : RdI B w A2 cs2) (r4 : RdI B w L2 ls2) (hB : B ≤ w.heap.size)
    (h1 : cs.length = n1) (h2 : ls.length = m1) (h3 : cs2.length = n2) (h4 : ls2.length = m2) (hm1 : m1 ≤ 64) (hm2 : m2 ≤ 64) (ok1 : OkL cs ls k 65536) (ok2 : ¬ OkL cs2 ls2 k2 65536) :
    Calls Try.prog 26 #[.agg #[.slice A1 n1 c1, .slice L1 m1 d1, .int .i64 k], .agg #[.slice A2 n2 c2, .slice L2 m2 d2, .int .i64 k2]] w (NoLin 1 w) := by
  obtain ⟨W1, hW1⟩ : ∃ W, W = _ := ⟨_, rfl⟩
  obtain ⟨hs1, hb1, hat1, hat2, hres⟩ := add_world' A1 L1 A2 L2 n1 m1 n2 m2 c1 d1 c2 d2 k k2 w W1 hW1
  have hCk1 := (RCheck_any B A1 L1 n1 m1 c1 d1 k 65536 cs ls W1 (r1.below hb1 hB) (r2.below hb1 hB) (by omega) h1 h2 (by omega)).1 ok1
  have hCk2 := fun W (h : Below w.heap.size w W) => (RCheck_any B A2 L2 n2 m2 c2 d2 k2 65536 cs2 ls2 W (r3.below h hB) (r4.below h hB) (by have := h.size; omega) h3 h4 (by omega)).2 ok2
  have HCk1 := Lib.hid hCk1
  have HCk2 := Lib.hid hCk2
  have HW := Lib.hid hW1
  have H1 := Lib.hid (And.intro hat2 hres)
  obtain ⟨cC, cL, cK⟩ := hat1.cells
  rw [hW1] at cC cL cK
  clear hW1 hat1 hat2 hres r1 r2 r3 r4 h1 h2 h3 h4 hCk1 hCk2 ok1 ok2
  go_enter Try.func26, Try.ntmps26
  go_wp2_with fail
  rw [← HW.out]
  clear HW
  refine HCk1.out.mono ?_
  rintro e w2 ⟨rfl, hb2⟩
  have hb12 := hb1.trans (hb2.mono hb1.size)
  have hs2 := hb2.size
  have H2 := Lib.hid (H1.out.2.below hb2)
  obtain ⟨cC, cL, cK⟩ := (H1.out.1.below hb2).cells
  clear HCk1 H1 hb2
  go_wp2_with fail
  refine (HCk2.out _ hb12).mono ?_
  rintro e w3 ⟨rfl, hb3⟩
  have hres3 := H2.out.below hb3
  obtain ⟨s0, s1, s2, f0, f1, f2, hfin⟩ := lin_store hres3 (.slice Option.none 0 0) (.slice Option.none 0 0) 0
  obtain ⟨r0, r1, r2⟩ := hfin.cells
  have lowf := low_store (hb12.trans (hb3.mono hb12.size)) (show w.heap.size ≤ w.heap.size + 2 by omega) (.slice Option.none 0 0) (.slice Option.none 0 0) (.int .i64 0)
  have HFI := Lib.hid hfin
  have HLow := Lib.hid lowf
  clear HCk2 hb3 hres3 hfin lowf H2 cC cL cK
  go_wp2_with fail
  refine bodyPost_ret (results_row_tmp rfl _ _ (w.heap.size + 2) 24 _ (0, 0) _ _ rfl HFI.out rfl rfl rfl rfl) rfl ?_
  exact ⟨rfl, HLow.out⟩
set_option maxHeartbeats 8000000 in
theorem RAdd_no3 (B : Nat) (A1 L1 A2 L2 : Option Addr) (n1 n2 c1 d1 c2 d2 : Nat) (k k2 T : Int) (cs ls cs2 ls2 : List Int) (w : World) (r1 : RdI B w A1 cs) (r2 : RdI B w L1 ls) (r3 : RdI B w A2 cs2) (r4 : RdI B w L2 ls2) (hB : B ≤ w.heap.size)
    (h1 : cs.length = n1) (h2 : ls.length = n1) (h3 : cs2.length = n2) (h4 : ls2.length = n2) (hn1 : n1 ≤ 64) (hn2 : n2 ≤ 64) (ok1 : OkL cs ls k 65536) (ok2 : OkL cs2 ls2 k2 65536) (hT : T = k + k2) (hT2 : numB T = false) :
    Calls Try.prog 26 #[.agg #[.slice A1 n1 c1, .slice L1 n1 d1, .int .i64 k], .agg #[.slice A2 n2 c2, .slice L2 n2 d2, .int .i64 k2]] w (NoLin 2 w) := by
  obtain ⟨W1, hW1⟩ : ∃ W, W = _ := ⟨_, rfl⟩
  obtain ⟨hs1, hb1, hat1, hat2, hres⟩ := add_world A1 L1 A2 L2 n1 n2 c1 d1 c2 d2 k k2 w W1 hW1
  have hCk1 := (RCheck_any B A1 L1 n1 n1 c1 d1 k 65536 cs ls W1 (r1.below hb1 hB) (r2.below hb1 hB) (by omega) h1 h2 (by omega)).1 ok1
  have hCk2 := fun W (h : Below w.heap.size w W) => (RCheck_any B A2 L2 n2 n2 c2 d2 k2 65536 cs2 ls2 W (r3.below h hB) (r4.below h hB) (by have := h.size; omega) h3 h4 (by omega)).1 ok2
  have hk1 : -1099511627776 ≤ k ∧ k ≤ 1099511627776 := by have := ok1.2.2.2.1; unfold numB at this; simpa using this
  have hk2 : -1099511627776 ≤ k2 ∧ k2 ≤ 1099511627776 := by have := ok2.2.2.2.1; unfold numB at this; simpa using this
  have hT3 : T < -1099511627776 ∨ 1099511627776 < T := by
    rcases Int.lt_or_le T (-1099511627776) with q | q
    · exact .inl q
    · rcases Int.lt_or_le 1099511627776 T with r | r
      · exact .inr r
      · unfold numB at hT2
        rw [decide_eq_true q, decide_eq_true r] at hT2
        cases hT2
  obtain ⟨hk1a, hk1b⟩ := hk1
  obtain ⟨hk2a, hk2b⟩ := hk2
  have g1 : decide ((n1 : Int) + (n2 : Int) > 4096) = false := decide_eq_false (by omega)
  have g2 : decide (4096 < (n1 : Int) + (n2 : Int)) = false := decide_eq_false (by omega)
  have g3 : decide (4096 < n1 + n2) = false := decide_eq_false (by omega)
  have HCk1 := Lib.hid hCk1
  have HCk2 := Lib.hid hCk2
  have HW := Lib.hid hW1
  have H1 := Lib.hid (And.intro hat1 (And.intro hat2 hres))
  obtain ⟨cC, cL, cK⟩ := hat1.cells
  rw [hW1] at cC cL cK
  have HT := Lib.hid hT
  clear hW1 hat1 hat2 hres r1 r2 r3 r4 h1 h2 h3 h4 hCk1 hCk2 ok1 ok2 hT2 hT
  go_enter Try.func26, Try.ntmps26
  go_wp2_with fail
  rw [← HW.out]
  clear HW
  refine HCk1.out.mono ?_
  rintro e w2 ⟨rfl, hb2⟩
  have hb12 := hb1.trans (hb2.mono hb1.size)
  have H2 := Lib.hid (And.intro (H1.out.1.below hb2) (And.intro (H1.out.2.1.below hb2) (H1.out.2.2.below hb2)))
  obtain ⟨cC, cL, cK⟩ := H2.out.2.1.cells
  have hs2 := hb2.size
  clear HCk1 H1 hb2
  go_wp2_with fail
  refine (HCk2.out _ hb12).mono ?_
  rintro e w3 ⟨rfl, hb3⟩
  have hb13 := hb12.trans (hb3.mono hb12.size)
  have H3 := Lib.hid (And.intro (H2.out.1.below hb3) (And.intro (H2.out.2.1.below hb3) (H2.out.2.2.below hb3)))
  obtain ⟨cC, cL, cK⟩ := H3.out.1.cells
  obtain ⟨cC2, cL2, cK2⟩ := H3.out.2.1.cells
  have hs3 := hb3.size
  clear HCk2 H2 hb3
  have hTw : wrap64 (k + k2) = k + k2 := IntWalk.wrap64_in _ (by omega)
  rw [← HT.out] at hTw
  have hTk : k + k2 = T := HT.out.symm
  obtain ⟨s0, s1, s2, f0, f1, f2, hfin⟩ := lin_store H3.out.2.2 (.slice Option.none 0 0) (.slice Option.none 0 0) 0
  obtain ⟨r0, r1, r2⟩ := hfin.cells
  have lowf := low_store hb13 (show w.heap.size ≤ w.heap.size + 2 by omega) (.slice Option.none 0 0) (.slice Option.none 0 0) (.int .i64 0)
  have HFI := Lib.hid hfin
  have HLow := Lib.hid lowf
  clear hfin lowf H3
  rcases hT3 with q | q
  · have u1 : decide (T < -1099511627776) = true := decide_eq_true q
    go_wp2_with fail
    refine bodyPost_ret (results_row_tmp rfl _ _ (w.heap.size + 2) 24 _ (0, 0) _ _ rfl HFI.out rfl rfl rfl rfl) rfl ?_
    exact ⟨rfl, HLow.out⟩
  · have u1 : decide (T < -1099511627776) = false := decide_eq_false (by omega)
    have u2 : decide (T > 1099511627776) = true := decide_eq_true q
    have u3 : decide (1099511627776 < T) = true := decide_eq_true q
    go_wp2_with fail
    refine bodyPost_ret (results_row_tmp rfl _ _ (w.heap.size + 2) 24 _ (0, 0) _ _ rfl HFI.out rfl rfl rfl rfl) rfl ?_
    exact ⟨rfl, HLow.out⟩
set_option maxHeartbeats 16000000 in
theorem RAdd_ok (B : Nat) (A1 L1 A2 L2 : Option Addr) (n1 n2 c1 d1 c2 d2 : Nat) (k k2 T : Int) (cs ls cs2 ls2 : List Int) (w : World) (r1 : RdI B w A1 cs) (r2 : RdI B w L1 ls) (r3 : RdI B w A2 cs2) (r4 : RdI B w L2 ls2) (hB : B ≤ w.heap.size)
    (h1 : cs.length = n1) (h2 : ls.length = n1) (h3 : cs2.length = n2) (h4 : ls2.length = n2) (hn1 : n1 ≤ 64) (hn2 : n2 ≤ 64) (ok1 : OkL cs ls k 65536) (ok2 : OkL cs2 ls2 k2 65536) (hT : T = k + k2) (hT2 : numB T = true)
    (z1 : A1 = Option.none → c1 = 0) (z2 : L1 = Option.none → d1 = 0) (z3 : A2 = Option.none → c2 = 0) (z4 : L2 = Option.none → d2 = 0) :
    Calls Try.prog 26 #[.agg #[.slice A1 n1 c1, .slice L1 n1 d1, .int .i64 k], .agg #[.slice A2 n2 c2, .slice L2 n2 d2, .int .i64 k2]] w (GivesL (cs ++ cs2) (ls ++ ls2) T w) := by
  obtain ⟨W1, hW1⟩ : ∃ W, W = _ := ⟨_, rfl⟩
  obtain ⟨hs1, hb1, hat1, hat2, hres⟩ := add_world A1 L1 A2 L2 n1 n2 c1 d1 c2 d2 k k2 w W1 hW1
  have hCk1 := (RCheck_any B A1 L1 n1 n1 c1 d1 k 65536 cs ls W1 (r1.below hb1 hB) (r2.below hb1 hB) (by omega) h1 h2 (by omega)).1 ok1
  have hCk2 := fun W (h : Below w.heap.size w W) => (RCheck_any B A2 L2 n2 n2 c2 d2 k2 65536 cs2 ls2 W (r3.below h hB) (r4.below h hB) (by have := h.size; omega) h3 h4 (by omega)).1 ok2
  have hk1 : -1099511627776 ≤ k ∧ k ≤ 1099511627776 := by have := ok1.2.2.2.1; unfold numB at this; simpa using this
  have hk2 : -1099511627776 ≤ k2 ∧ k2 ≤ 1099511627776 := by have := ok2.2.2.2.1; unfold numB at this; simpa using this
  have hT3 : -1099511627776 ≤ T ∧ T ≤ 1099511627776 := by unfold numB at hT2; simpa using hT2
  obtain ⟨hT4, hT5⟩ := hT3
  have u1 : decide (T < -1099511627776) = false := decide_eq_false (by omega)
  have u2 : decide (T > 1099511627776) = false := decide_eq_false (by omega)
  have u3 : decide (1099511627776 < T) = false := decide_eq_false (by omega)
  obtain ⟨hk1a, hk1b⟩ := hk1
  obtain ⟨hk2a, hk2b⟩ := hk2
  have g1 : decide ((n1 : Int) + (n2 : Int) > 4096) = false := decide_eq_false (by omega)
  have g2 : decide (4096 < (n1 : Int) + (n2 : Int)) = false := decide_eq_false (by omega)
  have g3 : decide (4096 < n1 + n2) = false := decide_eq_false (by omega)
  have HCk1 := Lib.hid hCk1
  have HCk2 := Lib.hid hCk2
  have HW := Lib.hid hW1
  have H1 := Lib.hid (And.intro hat1 (And.intro hat2 hres))
  have HR := Lib.hid (And.intro (And.intro r1 (And.intro r2 (And.intro r3 r4))) (And.intro (And.intro h1 (And.intro h2 (And.intro h3 h4))) (And.intro z1 (And.intro z2 (And.intro z3 z4)))))
  obtain ⟨cC, cL, cK⟩ := hat1.cells
  rw [hW1] at cC cL cK
  have HT := Lib.hid hT
  clear hW1 hat1 hat2 hres r1 r2 r3 r4 h1 h2 h3 h4 z1 z2 z3 z4 hCk1 hCk2 ok1 ok2 hT2 hT
  go_enter Try.func26, Try.ntmps26
  go_wp2_with fail
  rw [← HW.out]
  clear HW
  refine HCk1.out.mono ?_
  rintro e w2 ⟨rfl, hb2⟩
  have hb12 := hb1.trans (hb2.mono hb1.size)
  have H2 := Lib.hid (And.intro (H1.out.1.below hb2) (And.intro (H1.out.2.1.below hb2) (H1.out.2.2.below hb2)))
  obtain ⟨cC, cL, cK⟩ := H2.out.2.1.cells
  have hs2 := hb2.size
  clear HCk1 H1 hb2
  go_wp2_with fail
  refine (HCk2.out _ hb12).mono ?_
  rintro e w3 ⟨rfl, hb3⟩
  have hb13 := hb12.trans (hb3.mono hb12.size)
  have H3 := Lib.hid (And.intro (H2.out.1.below hb3) (And.intro (H2.out.2.1.below hb3) (H2.out.2.2.below hb3)))
  obtain ⟨cC, cL, cK⟩ := H3.out.1.cells
  obtain ⟨cC2, cL2, cK2⟩ := H3.out.2.1.cells
  have hs3 := hb3.size
  clear HCk2 H2 hb3
  have hsz3 : w.heap.size + 3 ≤ w3.heap.size := by omega
  have hTw : wrap64 (k + k2) = k + k2 := IntWalk.wrap64_in _ (by omega)
  rw [← HT.out] at hTw
  have hTk : k + k2 = T := HT.out.symm
  obtain ⟨g, hg⟩ : ∃ g, w3.heap.size = g := ⟨_, rfl⟩
  obtain ⟨W4, hW4⟩ : ∃ W4, W4 = w3.alloc (.cells #[.slice Option.none 0 0, .slice Option.none 0 0, .int .i64 T] 24) := ⟨_, rfl⟩
  have hs4 : W4.heap.size = g + 1 := by rw [hW4]; simp [hg]
  have hb4 : Below w3.heap.size w3 W4 := by rw [hW4]; exact (Below.refl _ _).alloc (Nat.le_refl _) _
  have hat4 : LinAt W4 g (.slice Option.none 0 0) (.slice Option.none 0 0) T 24 := by rw [hW4, ← hg]; exact heap_alloc_new _ _
  have hb4' : Below g w3 W4 := by rw [← hg]; exact hb4
  have hlow4 : Below w.heap.size w W4 := hb13.trans (hb4.mono (by omega))
  have H4 := Lib.hid (And.intro (H3.out.1.below hb4) (And.intro (H3.out.2.1.below hb4) (And.intro (H3.out.2.2.below hb4) (And.intro hat4 hlow4))))
  have HW := Lib.hid hW4
  obtain ⟨aC, aL, aK⟩ := H4.out.1.cells
  obtain ⟨bC, bL, bK⟩ := H4.out.2.1.cells
  obtain ⟨xC, xL, xK⟩ := hat4.cells
  rw [hW4] at aC aL aK bC bL bK xC xL xK
  have hbase1 : g + 1 ≤ W4.heap.size := by omega
  have hwg : w.heap.size + 3 ≤ g := by omega
  clear hW4 hat4 hb4 hb4' hlow4 H3
  go_wp2_with (at_builtin; rw [← HW.out]; refine push_ints rfl _ _ rfl (g + 1) (.slice Option.none 0 0) [] rfl (RowI.empty _ _) B A1 n1 c1 cs rfl (HR.out.1.1.below H4.out.2.2.2.2 hB) HR.out.2.1.1 HR.out.2.2.1 (by simp; omega) hbase1 ?_)
  intro v1 y1 row1 low1
  try rw [List.nil_append] at row1
  clear aC aL aK bC bL bK xC xL xK HW
  have H5 := Lib.hid (And.intro ((low1.block _ (by omega)).trans H4.out.1) (And.intro ((low1.block _ (by omega)).trans H4.out.2.1) (And.intro ((low1.block _ (by omega)).trans H4.out.2.2.1) (And.intro ((low1.block _ (by omega)).trans H4.out.2.2.2.1) (H4.out.2.2.2.2.trans (low1.mono (by omega)))))))
  have hsy1 := low1.size
  obtain ⟨R1, e1, hv1, _, _⟩ := row1.shape
  obtain ⟨M1, hM1⟩ : ∃ M, (cs).length = M := ⟨_, rfl⟩
  rw [hM1] at hv1
  have HM1 := Lib.hid hM1
  subst hv1
  clear hM1
  have hx1 : LinAt y1 g (.slice Option.none 0 0) (.slice Option.none 0 0) T 24 := H5.out.2.2.2.1
  have xF := hx1.frozen 0
  obtain ⟨xC, xL, xK⟩ := hx1.cells
  have hcl1 := hx1.set0 (.slice R1 M1 e1)
  obtain ⟨z1, hz1⟩ : ∃ Z, y1.setCell ⟨g, 0, none⟩ (.slice R1 M1 e1) = Z := ⟨_, rfl⟩
  have hne : ∀ i, i ≠ g → z1.heap[i]? = y1.heap[i]? := fun i hi => by rw [← hz1]; exact heap_setCell_other y1 ⟨g, 0, none⟩ i _ hi
  have hgz1 : y1.heap.size ≤ z1.heap.size := by rw [← hz1]; simp
  rw [hz1] at hcl1
  have H6 := Lib.hid (And.intro ((hne _ (by omega)).trans H5.out.1) (And.intro ((hne _ (by omega)).trans H5.out.2.1) (And.intro ((hne _ (by omega)).trans H5.out.2.2.1) (And.intro hcl1 (show Below w.heap.size w z1 by rw [← hz1]; exact H5.out.2.2.2.2.setCell (p := ⟨g, 0, none⟩) (by show w.heap.size ≤ g; omega) _)))))
  have Hr1 := Lib.hid (row1.same (w' := z1) fun i hi => hne i (by have := (row1.2.lt i hi).1; omega))
  have HZ := Lib.hid hz1
  clear hne hz1 hx1 hcl1 H5
  clear row1 low1 H4
  obtain ⟨aC, aL, aK⟩ := (show LinAt z1 w.heap.size (.slice A1 n1 c1) (.slice L1 n1 d1) k 24 from H6.out.1).cells
  obtain ⟨bC, bL, bK⟩ := (show LinAt z1 (w.heap.size + 1) (.slice A2 n2 c2) (.slice L2 n2 d2) k2 24 from H6.out.2.1).cells
  obtain ⟨yC, yL, yK⟩ := (show LinAt z1 g (.slice R1 M1 e1) (.slice Option.none 0 0) T 24 from H6.out.2.2.2.1).cells
  rw [← HZ.out] at aC aL aK bC bL bK yC yL yK
  go_wp2_with (at_builtin; rw [HZ.out]; refine push_ints rfl _ _ rfl (g + 1) (.slice R1 M1 e1) cs rfl Hr1.out B A2 n2 c2 cs2 rfl (HR.out.1.2.2.1.below H6.out.2.2.2.2 hB) HR.out.2.1.2.2.1 HR.out.2.2.2.2.1 (by have := HR.out.2.1.1; omega) (by omega) ?_)
  intro v2 y2 row2 low2
  clear aC aL aK bC bL bK xC xL xK xF yC yL yK HZ Hr1
  have H7 := Lib.hid (And.intro ((low2.block _ (by omega)).trans H6.out.1) (And.intro ((low2.block _ (by omega)).trans H6.out.2.1) (And.intro ((low2.block _ (by omega)).trans H6.out.2.2.1) (And.intro ((low2.block _ (by omega)).trans H6.out.2.2.2.1) (H6.out.2.2.2.2.trans (low2.mono (by omega)))))))
  have hsy2 := low2.size
  clear low2 H6
  obtain ⟨R2, e2, hv2, _, _⟩ := row2.shape
  obtain ⟨M2, hM2⟩ : ∃ M, (cs ++ cs2).length = M := ⟨_, rfl⟩
  rw [hM2] at hv2
  have HM2 := Lib.hid hM2
  subst hv2
  clear hM2
  have hx2 : LinAt y2 g (.slice R1 M1 e1) (.slice Option.none 0 0) T 24 := H7.out.2.2.2.1
  have xF := hx2.frozen 0
  obtain ⟨xC, xL, xK⟩ := hx2.cells
  have hcl2 := hx2.set0 (.slice R2 M2 e2)
  obtain ⟨z2, hz2⟩ : ∃ Z, y2.setCell ⟨g, 0, none⟩ (.slice R2 M2 e2) = Z := ⟨_, rfl⟩
  have hne : ∀ i, i ≠ g → z2.heap[i]? = y2.heap[i]? := fun i hi => by rw [← hz2]; exact heap_setCell_other y2 ⟨g, 0, none⟩ i _ hi
  have hgz2 : y2.heap.size ≤ z2.heap.size := by rw [← hz2]; simp
  rw [hz2] at hcl2
  have H8 := Lib.hid (And.intro ((hne _ (by omega)).trans H7.out.1) (And.intro ((hne _ (by omega)).trans H7.out.2.1) (And.intro ((hne _ (by omega)).trans H7.out.2.2.1) (And.intro hcl2 (show Below w.heap.size w z2 by rw [← hz2]; exact H7.out.2.2.2.2.setCell (p := ⟨g, 0, none⟩) (by show w.heap.size ≤ g; omega) _)))))
  have Hr2 := Lib.hid (row2.same (w' := z2) fun i hi => hne i (by have := (row2.2.lt i hi).1; omega))
  have HZ := Lib.hid hz2
  have HB2 := Lib.hid (fun i (hi : (Value.slice R2 M2 e2).ownBlock = some i) => (show i < z2.heap.size from (Hr2.out.2.lt i hi).2))
  have hbase2 : g + 1 ≤ z2.heap.size := by have := HM2.out; omega
  clear hne hz2 hx2 hcl2 H7 row2
  obtain ⟨aC, aL, aK⟩ := (show LinAt z2 w.heap.size (.slice A1 n1 c1) (.slice L1 n1 d1) k 24 from H8.out.1).cells
  obtain ⟨bC, bL, bK⟩ := (show LinAt z2 (w.heap.size + 1) (.slice A2 n2 c2) (.slice L2 n2 d2) k2 24 from H8.out.2.1).cells
  obtain ⟨yC, yL, yK⟩ := (show LinAt z2 g (.slice R2 M2 e2) (.slice Option.none 0 0) T 24 from H8.out.2.2.2.1).cells
  rw [← HZ.out] at aC aL aK bC bL bK yC yL yK
  go_wp2_with (at_builtin; rw [HZ.out]; refine push_ints rfl _ _ rfl z2.heap.size (.slice Option.none 0 0) [] rfl (RowI.empty _ _) B L1 n1 d1 ls rfl (HR.out.1.2.1.below H8.out.2.2.2.2 hB) HR.out.2.1.2.1 HR.out.2.2.2.1 (by simp; omega) (Nat.le_refl _) ?_)
  intro v3 y3 row3 low3
  try rw [List.nil_append] at row3
  clear aC aL aK bC bL bK xC xL xK xF yC yL yK HZ
  have H9 := Lib.hid (And.intro ((low3.block _ (by omega)).trans H8.out.1) (And.intro ((low3.block _ (by omega)).trans H8.out.2.1) (And.intro ((low3.block _ (by omega)).trans H8.out.2.2.1) (And.intro ((low3.block _ (by omega)).trans H8.out.2.2.2.1) (H8.out.2.2.2.2.trans (low3.mono (by omega)))))))
  have Hr2 := Lib.hid (Hr2.out.below low3)
  have hsy3 := low3.size
  clear low3 H8
  obtain ⟨R3, e3, hv3, _, _⟩ := row3.shape
  obtain ⟨M3, hM3⟩ : ∃ M, (ls).length = M := ⟨_, rfl⟩
  rw [hM3] at hv3
  have HM3 := Lib.hid hM3
  subst hv3
  clear hM3
  have hx3 : LinAt y3 g (.slice R2 M2 e2) (.slice Option.none 0 0) T 24 := H9.out.2.2.2.1
  have xF := hx3.frozen 1
  obtain ⟨xC, xL, xK⟩ := hx3.cells
  have hcl3 := hx3.set1 (.slice R3 M3 e3)
  obtain ⟨z3, hz3⟩ : ∃ Z, y3.setCell ⟨g, 1, none⟩ (.slice R3 M3 e3) = Z := ⟨_, rfl⟩
  have hne : ∀ i, i ≠ g → z3.heap[i]? = y3.heap[i]? := fun i hi => by rw [← hz3]; exact heap_setCell_other y3 ⟨g, 1, none⟩ i _ hi
  have hgz3 : y3.heap.size ≤ z3.heap.size := by rw [← hz3]; simp
  rw [hz3] at hcl3
  have H10 := Lib.hid (And.intro ((hne _ (by omega)).trans H9.out.1) (And.intro ((hne _ (by omega)).trans H9.out.2.1) (And.intro ((hne _ (by omega)).trans H9.out.2.2.1) (And.intro hcl3 (show Below w.heap.size w z3 by rw [← hz3]; exact H9.out.2.2.2.2.setCell (p := ⟨g, 1, none⟩) (by show w.heap.size ≤ g; omega) _)))))
  have Hr3 := Lib.hid (row3.same (w' := z3) fun i hi => hne i (by have := (row3.2.lt i hi).1; omega))
  have Hr2 := Lib.hid (Hr2.out.same (w' := z3) fun i hi => hne i (by have := (Hr2.out.2.lt i hi).1; omega))
  have HZ := Lib.hid hz3
  clear hne hz3 hx3 hcl3 H9 row3
  obtain ⟨aC, aL, aK⟩ := (show LinAt z3 w.heap.size (.slice A1 n1 c1) (.slice L1 n1 d1) k 24 from H10.out.1).cells
  obtain ⟨bC, bL, bK⟩ := (show LinAt z3 (w.heap.size + 1) (.slice A2 n2 c2) (.slice L2 n2 d2) k2 24 from H10.out.2.1).cells
  obtain ⟨yC, yL, yK⟩ := (show LinAt z3 g (.slice R2 M2 e2) (.slice R3 M3 e3) T 24 from H10.out.2.2.2.1).cells
  rw [← HZ.out] at aC aL aK bC bL bK yC yL yK
  go_wp2_with (at_builtin; rw [HZ.out]; refine push_ints rfl _ _ rfl z2.heap.size (.slice R3 M3 e3) ls rfl Hr3.out B L2 n2 d2 ls2 rfl (HR.out.1.2.2.2.below H10.out.2.2.2.2 hB) HR.out.2.1.2.2.2 HR.out.2.2.2.2.2 (by have := HR.out.2.1.2.1; omega) (by omega) ?_)
  intro v4 y4 row4 low4
  clear aC aL aK bC bL bK xC xL xK xF yC yL yK HZ Hr3
  have H11 := Lib.hid (And.intro ((low4.block _ (by omega)).trans H10.out.1) (And.intro ((low4.block _ (by omega)).trans H10.out.2.1) (And.intro ((low4.block _ (by omega)).trans H10.out.2.2.1) (And.intro ((low4.block _ (by omega)).trans H10.out.2.2.2.1) (H10.out.2.2.2.2.trans (low4.mono (by omega)))))))
  have Hr2 := Lib.hid (Hr2.out.same (w' := y4) fun i hi => low4.block i (HB2.out i hi))
  have hsy4 := low4.size
  clear low4 H10
  obtain ⟨R4, e4, hv4, _, _⟩ := row4.shape
  obtain ⟨M4, hM4⟩ : ∃ M, (ls ++ ls2).length = M := ⟨_, rfl⟩
  rw [hM4] at hv4
  have HM4 := Lib.hid hM4
  subst hv4
  clear hM4
  have hx4 : LinAt y4 g (.slice R2 M2 e2) (.slice R3 M3 e3) T 24 := H11.out.2.2.2.1
  have xF := hx4.frozen 1
  obtain ⟨xC, xL, xK⟩ := hx4.cells
  have hcl4 := hx4.set1 (.slice R4 M4 e4)
  obtain ⟨z4, hz4⟩ : ∃ Z, y4.setCell ⟨g, 1, none⟩ (.slice R4 M4 e4) = Z := ⟨_, rfl⟩
  have hne : ∀ i, i ≠ g → z4.heap[i]? = y4.heap[i]? := fun i hi => by rw [← hz4]; exact heap_setCell_other y4 ⟨g, 1, none⟩ i _ hi
  have hgz4 : y4.heap.size ≤ z4.heap.size := by rw [← hz4]; simp
  rw [hz4] at hcl4
  have H12 := Lib.hid (And.intro ((hne _ (by omega)).trans H11.out.1) (And.intro ((hne _ (by omega)).trans H11.out.2.1) (And.intro ((hne _ (by omega)).trans H11.out.2.2.1) (And.intro hcl4 (show Below w.heap.size w z4 by rw [← hz4]; exact H11.out.2.2.2.2.setCell (p := ⟨g, 1, none⟩) (by show w.heap.size ≤ g; omega) _)))))
  have Hr4 := Lib.hid (row4.same (w' := z4) fun i hi => hne i (by have := (row4.2.lt i hi).1; omega))
  have Hr2 := Lib.hid (Hr2.out.same (w' := z4) fun i hi => hne i (by have := (Hr2.out.2.lt i hi).1; omega))
  have HZ := Lib.hid hz4
  clear hne hz4 hx4 hcl4 H11 row4
  have hx4 : LinAt z4 g (.slice R2 M2 e2) (.slice R4 M4 e4) T 24 := H12.out.2.2.2.1
  have hres : LinAt z4 (w.heap.size + 2) (.slice Option.none 0 0) (.slice Option.none 0 0) 0 24 := H12.out.2.2.1
  obtain ⟨yC, yL, yK⟩ := hx4.cells
  obtain ⟨s0, s1, s2, f0, f1, f2, hfin⟩ := lin_store hres (.slice R2 M2 e2) (.slice R4 M4 e4) T
  have lowf := low_store H12.out.2.2.2.2 (show w.heap.size ≤ w.heap.size + 2 by omega) (.slice R2 M2 e2) (.slice R4 M4 e4) (.int .i64 T)
  have hq1 := Hr2.out.kept3 (j := w.heap.size + 2) (.slice R2 M2 e2) (.slice R4 M4 e4) (.int .i64 T) (by omega)
  have hq2 := Hr4.out.kept3 (j := w.heap.size + 2) (.slice R2 M2 e2) (.slice R4 M4 e4) (.int .i64 T) (by omega)
  have FIN : Hid (GivesL (cs ++ cs2) (ls ++ ls2) T w (.returned (.tuple #[.agg #[.slice R2 M2 e2, .slice R4 M4 e4, .int .i64 T], .int .i64 0])) (((z4.setCell ⟨w.heap.size + 2, 0, none⟩ (.slice R2 M2 e2)).setCell ⟨w.heap.size + 2, 1, none⟩ (.slice R4 M4 e4)).setCell ⟨w.heap.size + 2, 2, none⟩ (.int .i64 T))) :=
    Lib.hid ⟨R2, e2, R4, e4, by rw [HM2.out, HM4.out], hq1.rd2.2, hq2.rd2.2, hq1.nocap, hq2.nocap, lowf⟩
  have HFI := Lib.hid hfin
  rw [← HZ.out] at yC yL yK s0 s1 s2 f0 f1 f2 FIN HFI
  clear hfin lowf hq1 hq2 hres hx4 H12 Hr2 Hr4 HZ
  go_wp2_with fail
  refine bodyPost_ret (results_row_tmp rfl _ _ (w.heap.size + 2) 24 _ (0, 0) _ _ rfl HFI.out rfl rfl rfl rfl) rfl ?_
  exact FIN.out
end Go.Proofs.Ytoacfjmefoiflaa
