/- The walk of the law LinForceSpec. -/
import Derived.Test.YtoacfjmefoiflaaRForce
import Derived.Test.YtoacfjmefoiflaaRVal
namespace Go.Proofs.Ytoacfjmefoiflaa
open Go.ChangeShapes Go.WideShapes Go.ChangeAt Go.RowKit
set_option maxRecDepth 100000

theorem fRes_len (lits cs ls : List Int) (k : Int) (hok : OkL cs ls k 65536) (hn : ls.length ≤ 64) : (fRes lits cs ls k).length ≤ 64 := by
  have l1 := norm_len cs ls k
  have l2 := (canon cs ls k 65536 hok.2.2.1 (by omega) hok.cs hok.ls).len
  unfold fRes
  split
  · have := frc_len lits (can lits (nC cs ls k) (nL cs ls k) - nK cs ls k) (nC cs ls k) (nL cs ls k)
    omega
  · simp
theorem force_both (A1 L1 A2 A3 : Option Addr) (n1 m1 n2 n3 c1 d1 c2 _c3 : Nat) (k : Int) (w : World) (cs ls lits : List Int) (bs : List Bool) (r1 : RdI w.heap.size w A1 cs) (r2 : RdI w.heap.size w L1 ls) (r3 : RdI w.heap.size w A2 lits) (_r4 : RdB w.heap.size w A3 bs) (h1 : cs.length = n1) (h2 : ls.length = m1) (h3 : lits.length = n2) (_h4 : bs.length = n3) (hcap : n2 ≤ c2) (_hn1 : n1 ≤ 60) (hm1 : m1 ≤ 60) (hn2 : n2 ≤ 60) :
    ∃ rs ok, rs.length ≤ 64 ∧ (∀ W, Below w.heap.size w W → Calls Try.prog 20 #[.agg #[.slice A1 n1 c1, .slice L1 m1 d1, .int .i64 k], .slice A2 n2 c2] W (Forced rs ok W)) ∧ (∀ W, Below w.heap.size w W → Calls Try.prog 21 #[.agg #[.slice A1 n1 c1, .slice L1 m1 d1, .int .i64 k], .slice A2 n2 c2] W (Forced rs ok W)) := by
  have q1 := fun W (h : Below w.heap.size w W) => r1.below h (Nat.le_refl _)
  have q2 := fun W (h : Below w.heap.size w W) => r2.below h (Nat.le_refl _)
  have q3 := fun W (h : Below w.heap.size w W) => r3.below h (Nat.le_refl _)
  have hno := fun (hok : ¬ OkL cs ls k 65536) W (h : Below w.heap.size w W) => RForce_no1 w.heap.size A1 L1 A2 n1 m1 c1 d1 n2 c2 k cs ls lits W (q1 W h) (q2 W h) (q3 W h) h.size h1 h2 (by omega) h3 (by omega) hok
  rcases firstU lits n2 with hg | ⟨i, hi, hg, hb⟩
  · by_cases hok : OkL cs ls k 65536
    · refine ⟨fRes lits cs ls k, fOk lits cs ls k, fRes_len lits cs ls k hok (by omega), fun W h => Force_ok w.heap.size A1 L1 A2 n1 m1 c1 d1 n2 c2 k cs ls lits W (q1 W h) (q2 W h) (q3 W h) h.size h1 h2 (by omega) h3 (by omega) hg hok, fun W h => ?_⟩
      exact RForce_ok w.heap.size A1 L1 A2 n1 m1 c1 d1 n2 c2 k cs ls lits W (q1 W h) (q2 W h) (q3 W h) h.size h1 h2 (by omega) h3 (by omega) hok fun W' h' => Unlike_any w.heap.size n2 c2 n2 A2 65536 true lits W' (q3 W' (h.trans (h'.mono h.size))) (h.trans (h'.mono h.size)).size h3 (by omega) hcap (by omega) (by omega) (Nat.le_refl _) hg (.inl ⟨rfl, rfl⟩)
    · exact ⟨[], false, by simp, fun W h => Force_no w.heap.size A1 L1 A2 n1 m1 c1 d1 n2 c2 k cs ls lits W (q1 W h) (q2 W h) (q3 W h) h.size h1 h2 (by omega) h3 (by omega) hg hok, hno hok⟩
  · refine ⟨[], false, by simp, fun W h => Force_bad w.heap.size A1 L1 A2 n1 m1 c1 d1 n2 c2 i k lits W (q3 W h) h.size h3 (by omega) hi hg hb, ?_⟩
    by_cases hok : OkL cs ls k 65536
    · exact fun W h => RForce_no2 w.heap.size A1 L1 A2 n1 m1 c1 d1 n2 c2 k cs ls lits W (q1 W h) (q2 W h) (q3 W h) h.size h1 h2 (by omega) h3 (by omega) hok fun W' h' => Unlike_any w.heap.size n2 c2 i A2 65536 false lits W' (q3 W' (h.trans (h'.mono h.size))) (h.trans (h'.mono h.size)).size h3 (by omega) hcap (by omega) (by omega) (by omega) hg (.inr ⟨hi, rfl, hb⟩)
    · exact hno hok
theorem value_both (A1 L1 A2 A3 : Option Addr) (n1 m1 n2 n3 c1 d1 c2 c3 : Nat) (k : Int) (w : World) (cs ls lits : List Int) (bs : List Bool) (r1 : RdI w.heap.size w A1 cs) (r2 : RdI w.heap.size w L1 ls) (_r3 : RdI w.heap.size w A2 lits) (r4 : RdB w.heap.size w A3 bs) (h1 : cs.length = n1) (h2 : ls.length = m1) (_h3 : lits.length = n2) (h4 : bs.length = n3) (_hcap : n2 ≤ c2) (hn1 : n1 ≤ 60) (hm1 : m1 ≤ 60) (hn3 : n3 ≤ 100) :
    ∃ r : Bool, (∀ W, Below w.heap.size w W → Calls Try.prog 23 #[.agg #[.slice A1 n1 c1, .slice L1 m1 d1, .int .i64 k], .slice A3 n3 c3] W fun e w' => e = .returned (.bool r) ∧ Below W.heap.size W w') ∧ (∀ W, Below w.heap.size w W → Calls Try.prog 24 #[.agg #[.slice A1 n1 c1, .slice L1 m1 d1, .int .i64 k], .slice A3 n3 c3] W fun e w' => e = .returned (.bool r) ∧ Below W.heap.size W w') := by
  have q1 := fun W (h : Below w.heap.size w W) => r1.below h (Nat.le_refl _)
  have q2 := fun W (h : Below w.heap.size w W) => r2.below h (Nat.le_refl _)
  have q4 := fun W (h : Below w.heap.size w W) => r4.below h (Nat.le_refl _)
  by_cases hok : OkL cs ls k 65536
  · obtain rfl : n1 = m1 := by have := hok.2.2.1; omega
    have hlit : ∀ x ∈ ls, Lit 65537 x := fun x hx => by have := hok.ls x hx; exact ⟨this.1, by omega, by omega⟩
    exact ⟨decide (k ≤ wsum bs cs ls), fun W h => linValue2_any w.heap.size w.heap.size A1 L1 A3 n1 c1 d1 n3 c3 _ k cs ls bs W (q1 W h) (q2 W h) h.size h.size h1 h2 (by omega) hok (q4 W h) h4 (by omega) hlit hok.cs rfl, fun W h => RValue_ok w.heap.size w.heap.size A1 L1 A3 n1 c1 d1 n3 c3 k _ cs ls bs W (q1 W h) (q2 W h) h.size h.size h1 h2 (by omega) hok hlit (q4 W h) h4 (by omega) rfl⟩
  · exact ⟨false, fun W h => linValue_no w.heap.size A1 L1 A3 n1 m1 c1 d1 n3 c3 k cs ls W (q1 W h) (q2 W h) h.size h1 h2 (by omega) hok, fun W h => RValue_no w.heap.size A1 L1 A3 n1 m1 c1 d1 n3 c3 k cs ls W (q1 W h) (q2 W h) h.size h1 h2 (by omega) hok⟩
set_option maxHeartbeats 4000000 in
theorem fsp_out0 (A1 L1 A2 A3 : Option Addr) (n1 m1 n2 n3 c1 d1 c2 c3 : Nat) (k : Int) (w : World) (hyp : ¬ (n1 ≤ 60 ∧ m1 ≤ 60)) :
    Calls Try.prog 4 #[.agg #[.slice A1 n1 c1, .slice L1 m1 d1, .int .i64 k], .slice A2 n2 c2, .slice A3 n3 c3] w fun e w' => e = .returned (.bool true) ∧ Below w.heap.size w w' := by
  obtain ⟨W1, hW1⟩ : ∃ W, W = w.alloc (.cells #[.slice A1 n1 c1, .slice L1 m1 d1, .int .i64 k] 24) := ⟨_, rfl⟩
  have low : Below w.heap.size w W1 := by rw [hW1]; exact (Below.refl _ _).alloc (Nat.le_refl _) _
  have hat1 : LinAt W1 w.heap.size (.slice A1 n1 c1) (.slice L1 m1 d1) k 24 := by rw [hW1]; exact heap_alloc_new _ _
  have hF1 := fun W => few_any A1 L1 n1 m1 c1 d1 k W
  have HW := Lib.hid hW1
  have HA := Lib.hid hat1
  clear hW1 hat1
  rw [decide_eq_false hyp] at hF1
  clear hyp
  have HF1 := Lib.hid hF1
  clear hF1
  go_enter Try.func4, Try.ntmps4
  go_wp2_with fail
  rw [← HW.out]
  clear HW
  refine (live_any W1).mono ?_
  rintro e y1 ⟨rfl, hb⟩
  have low := low.trans (hb.mono low.size)
  have HA := Lib.hid (HA.out.below hb)
  clear hb 
  obtain ⟨aC, aL, aK⟩ := (HA.out).cells
  go_wp2_with fail
  refine (HF1.out _).mono ?_
  rintro e y2 ⟨rfl, hb⟩
  clear aC aL aK
  have low := low.trans (hb.mono low.size)
  have HA := Lib.hid (HA.out.below hb)
  clear hb 
  obtain ⟨aC, aL, aK⟩ := (HA.out).cells
  have fin := Lib.hid low
  clear aC aL aK
  clear low HA HF1
  go_wp2_with fail
  go_ret
  exact ⟨rfl, fin.out⟩
set_option maxHeartbeats 4000000 in
theorem fsp_out1 (A1 L1 A2 A3 : Option Addr) (n1 m1 n2 n3 c1 d1 c2 c3 : Nat) (k : Int) (w : World) (hyp : (n1 ≤ 60 ∧ m1 ≤ 60) ∧ 60 < n2) :
    Calls Try.prog 4 #[.agg #[.slice A1 n1 c1, .slice L1 m1 d1, .int .i64 k], .slice A2 n2 c2, .slice A3 n3 c3] w fun e w' => e = .returned (.bool true) ∧ Below w.heap.size w w' := by
  obtain ⟨W1, hW1⟩ : ∃ W, W = w.alloc (.cells #[.slice A1 n1 c1, .slice L1 m1 d1, .int .i64 k] 24) := ⟨_, rfl⟩
  have low : Below w.heap.size w W1 := by rw [hW1]; exact (Below.refl _ _).alloc (Nat.le_refl _) _
  have hat1 : LinAt W1 w.heap.size (.slice A1 n1 c1) (.slice L1 m1 d1) k 24 := by rw [hW1]; exact heap_alloc_new _ _
  have hF1 := fun W => few_any A1 L1 n1 m1 c1 d1 k W
  have HW := Lib.hid hW1
  have HA := Lib.hid hat1
  clear hW1 hat1
  rw [decide_eq_true hyp.1] at hF1
  obtain ⟨_, hq⟩ := hyp
  have fn21 : decide ((n2 : Int) > 60) = true := decide_eq_true (by omega)
  have fn22 : decide ((60 : Int) < (n2 : Int)) = true := decide_eq_true (by omega)
  have fn23 : decide (60 < n2) = true := decide_eq_true (by omega)
  clear hq
  have HF1 := Lib.hid hF1
  clear hF1
  go_enter Try.func4, Try.ntmps4
  go_wp2_with fail
  rw [← HW.out]
  clear HW
  refine (live_any W1).mono ?_
  rintro e y1 ⟨rfl, hb⟩
  have low := low.trans (hb.mono low.size)
  have HA := Lib.hid (HA.out.below hb)
  clear hb 
  obtain ⟨aC, aL, aK⟩ := (HA.out).cells
  go_wp2_with fail
  refine (HF1.out _).mono ?_
  rintro e y2 ⟨rfl, hb⟩
  clear aC aL aK
  have low := low.trans (hb.mono low.size)
  have HA := Lib.hid (HA.out.below hb)
  clear hb 
  obtain ⟨aC, aL, aK⟩ := (HA.out).cells
  have fin := Lib.hid low
  clear aC aL aK
  clear low HA HF1
  go_wp2_with fail
  go_ret
  exact ⟨rfl, fin.out⟩
set_option maxHeartbeats 4000000 in
theorem fsp_out2 (A1 L1 A2 A3 : Option Addr) (n1 m1 n2 n3 c1 d1 c2 c3 : Nat) (k : Int) (w : World) (hyp : (n1 ≤ 60 ∧ m1 ≤ 60) ∧ n2 ≤ 60 ∧ 100 < n3) :
    Calls Try.prog 4 #[.agg #[.slice A1 n1 c1, .slice L1 m1 d1, .int .i64 k], .slice A2 n2 c2, .slice A3 n3 c3] w fun e w' => e = .returned (.bool true) ∧ Below w.heap.size w w' := by
  obtain ⟨W1, hW1⟩ : ∃ W, W = w.alloc (.cells #[.slice A1 n1 c1, .slice L1 m1 d1, .int .i64 k] 24) := ⟨_, rfl⟩
  have low : Below w.heap.size w W1 := by rw [hW1]; exact (Below.refl _ _).alloc (Nat.le_refl _) _
  have hat1 : LinAt W1 w.heap.size (.slice A1 n1 c1) (.slice L1 m1 d1) k 24 := by rw [hW1]; exact heap_alloc_new _ _
  have hF1 := fun W => few_any A1 L1 n1 m1 c1 d1 k W
  have HW := Lib.hid hW1
  have HA := Lib.hid hat1
  clear hW1 hat1
  rw [decide_eq_true hyp.1] at hF1
  obtain ⟨_, hq, hq2⟩ := hyp
  have fn21 : decide ((n2 : Int) > 60) = false := decide_eq_false (by omega)
  have fn22 : decide ((60 : Int) < (n2 : Int)) = false := decide_eq_false (by omega)
  have fn23 : decide (60 < n2) = false := decide_eq_false (by omega)
  have fn31 : decide ((n3 : Int) > 100) = true := decide_eq_true (by omega)
  have fn32 : decide ((100 : Int) < (n3 : Int)) = true := decide_eq_true (by omega)
  have fn33 : decide (100 < n3) = true := decide_eq_true (by omega)
  clear hq hq2
  have HF1 := Lib.hid hF1
  clear hF1
  go_enter Try.func4, Try.ntmps4
  go_wp2_with fail
  rw [← HW.out]
  clear HW
  refine (live_any W1).mono ?_
  rintro e y1 ⟨rfl, hb⟩
  have low := low.trans (hb.mono low.size)
  have HA := Lib.hid (HA.out.below hb)
  clear hb 
  obtain ⟨aC, aL, aK⟩ := (HA.out).cells
  go_wp2_with fail
  refine (HF1.out _).mono ?_
  rintro e y2 ⟨rfl, hb⟩
  clear aC aL aK
  have low := low.trans (hb.mono low.size)
  have HA := Lib.hid (HA.out.below hb)
  clear hb 
  obtain ⟨aC, aL, aK⟩ := (HA.out).cells
  have fin := Lib.hid low
  clear aC aL aK
  clear low HA HF1
  go_wp2_with fail
  go_ret
  exact ⟨rfl, fin.out⟩
set_option maxHeartbeats 16000000 in
theorem fsp_main (A1 L1 A2 A3 : Option Addr) (n1 m1 n2 n3 c1 d1 c2 c3 : Nat) (k : Int) (w : World) (cs ls lits : List Int) (bs : List Bool) (r1 : RdI w.heap.size w A1 cs) (r2 : RdI w.heap.size w L1 ls) (r3 : RdI w.heap.size w A2 lits) (r4 : RdB w.heap.size w A3 bs) (h1 : cs.length = n1) (h2 : ls.length = m1) (h3 : lits.length = n2) (h4 : bs.length = n3) (hcap : n2 ≤ c2) (hyp : (n1 ≤ 60 ∧ m1 ≤ 60) ∧ n2 ≤ 60 ∧ n3 ≤ 100) :
    Calls Try.prog 4 #[.agg #[.slice A1 n1 c1, .slice L1 m1 d1, .int .i64 k], .slice A2 n2 c2, .slice A3 n3 c3] w fun e w' => e = .returned (.bool true) ∧ Below w.heap.size w w' := by
  obtain ⟨W1, hW1⟩ : ∃ W, W = w.alloc (.cells #[.slice A1 n1 c1, .slice L1 m1 d1, .int .i64 k] 24) := ⟨_, rfl⟩
  have low : Below w.heap.size w W1 := by rw [hW1]; exact (Below.refl _ _).alloc (Nat.le_refl _) _
  have hat1 : LinAt W1 w.heap.size (.slice A1 n1 c1) (.slice L1 m1 d1) k 24 := by rw [hW1]; exact heap_alloc_new _ _
  have hF1 := fun W => few_any A1 L1 n1 m1 c1 d1 k W
  have HW := Lib.hid hW1
  have HA := Lib.hid hat1
  clear hW1 hat1
  obtain ⟨⟨hn1, hm1⟩, hn2, hn3⟩ := hyp
  obtain ⟨rs, ok, hrs, hFo, hRf⟩ := force_both A1 L1 A2 A3 n1 m1 n2 n3 c1 d1 c2 c3 k w cs ls lits bs r1 r2 r3 r4 h1 h2 h3 h4 hcap hn1 hm1 hn2
  obtain ⟨r, hV1, hV2⟩ := value_both A1 L1 A2 A3 n1 m1 n2 n3 c1 d1 c2 c3 k w cs ls lits bs r1 r2 r3 r4 h1 h2 h3 h4 hcap hn1 hm1 hn3
  rw [decide_eq_true ⟨hn1, hm1⟩] at hF1
  have HF1 := Lib.hid hF1
  have HFo := Lib.hid hFo
  have HRf := Lib.hid hRf
  have HV1 := Lib.hid hV1
  have HV2 := Lib.hid hV2
  obtain ⟨M, hM⟩ : ∃ M, rs.length = M := ⟨_, rfl⟩
  rw [hM] at hrs
  have HM := Lib.hid hM
  have fn21 : decide ((n2 : Int) > 60) = false := decide_eq_false (by omega)
  have fn22 : decide ((60 : Int) < (n2 : Int)) = false := decide_eq_false (by omega)
  have fn23 : decide (60 < n2) = false := decide_eq_false (by omega)
  have fn31 : decide ((n3 : Int) > 100) = false := decide_eq_false (by omega)
  have fn32 : decide ((100 : Int) < (n3 : Int)) = false := decide_eq_false (by omega)
  have fn33 : decide (100 < n3) = false := decide_eq_false (by omega)
  clear hF1 hFo hRf hV1 hV2 hM r1 r2 r3 r4 h1 h2 h3 h4 hcap
  go_enter Try.func4, Try.ntmps4
  go_wp2_with fail
  rw [← HW.out]
  clear HW
  refine (live_any W1).mono ?_
  rintro e y1 ⟨rfl, hb⟩
  have low := low.trans (hb.mono low.size)
  have HA := Lib.hid (HA.out.below hb)
  clear hb 
  obtain ⟨aC, aL, aK⟩ := (HA.out).cells
  go_wp2_with fail
  refine (HF1.out _).mono ?_
  rintro e y2 ⟨rfl, hb⟩
  clear aC aL aK
  have low := low.trans (hb.mono low.size)
  have HA := Lib.hid (HA.out.below hb)
  clear hb 
  obtain ⟨aC, aL, aK⟩ := (HA.out).cells
  clear HF1
  have hFx := Lib.hid (HFo.out _ low)
  go_wp2_with fail
  clear fn21 fn22 fn23 fn31 fn32 fn33
  refine (hFx.out).mono ?_
  rintro e y3 ⟨v, rfl, hq, hb⟩
  clear aC aL aK
  have low := low.trans (hb.mono low.size)
  have HA := Lib.hid (HA.out.below hb)
  clear hb 
  obtain ⟨aC, aL, aK⟩ := (HA.out).cells
  obtain ⟨P1, p1, hv, _, _, rd⟩ := hq.shape
  rw [HM.out] at hv
  subst hv
  have KK1 := Lib.hid rd
  clear hq rd hFx HFo
  have hFx := Lib.hid (HRf.out _ low)
  go_wp2_with fail
  refine hFx.out.mono ?_
  rintro e z1 ⟨v, rfl, hq, hb⟩
  clear aC aL aK
  obtain ⟨P2, p2, hv, _, _, rd⟩ := hq.shape
  rw [HM.out] at hv
  subst hv
  have KK1 := Lib.hid (And.intro (KK1.out.step hb) rd)
  clear hq rd hFx HRf
  have low := low.trans (hb.mono low.size)
  have HA := Lib.hid (HA.out.below hb)
  clear hb 
  obtain ⟨aC, aL, aK⟩ := (HA.out).cells
  have hI : Calls Try.prog 22 #[.slice P1 M p1, .slice P2 M p2] z1 fun e w' => e = .returned (.bool true) ∧ Below z1.heap.size z1 w' := by
    have h := Ints_low _ _ P1 P2 M M p1 p2 rs rs z1 KK1.out.1 KK1.out.2 HM.out HM.out (by unfold maxLen; omega)
    rwa [decide_eq_true rfl] at h
  have hI := Lib.hid hI
  clear KK1 HM
  go_wp2_with fail
  refine (hI.out).mono ?_
  rintro e y5 ⟨rfl, hb⟩
  clear aC aL aK
  have low := low.trans (hb.mono low.size)
  have HA := Lib.hid (HA.out.below hb)
  clear hb 
  obtain ⟨aC, aL, aK⟩ := (HA.out).cells
  clear hI
  obtain ⟨W3, hW3⟩ : ∃ W3, y5 = W3 := ⟨_, rfl⟩
  rw [hW3] at HA low aC aL aK ⊢
  clear hW3
  have hcell : ∀ W, Below W3.heap.size W3 W → W.cell? ⟨w.heap.size, 0, none⟩ = some (.slice A1 n1 c1) ∧ W.cell? ⟨w.heap.size, 1, none⟩ = some (.slice L1 m1 d1) ∧ W.cell? ⟨w.heap.size, 2, none⟩ = some (.int .i64 k) := fun W hb => (HA.out.below hb).cells
  have HCell := Lib.hid hcell
  have HLo := Lib.hid (fun W (h : Below W3.heap.size W3 W) => low.trans (h.mono low.size))
  have HK := Lib.hid (fun W W' (h : Below W3.heap.size W3 W) (hb : Below W.heap.size W W') => h.trans (hb.mono h.size))
  have hstart : Below W3.heap.size W3 W3.drew := (Below.refl _ _).drew
  clear hcell HA low
  go_wp2_with fail
  clear aC aL aK
  refine wp_region_held_drew (S := fun W => Below W3.heap.size W3 W) (by kernel_rfl) hstart (fun hHeld => ?_)
  clear hstart
  refine takeH_now (i := 0) (some 42) (v := ?_) rfl (by kernel_rfl) (by kernel_rfl) (by kernel_rfl) (fun _ _ _ h => h) (Or.inl ⟨by rfl, ?_⟩) rfl (by assumption) ?_
  rotate_left
  focus (intro w9 hS9; go_simp; try with_reducible rfl)
  try simp only [Act.put, List.setIfInBounds_toArray, List.set_cons_zero, List.set_cons_succ]
  refine takeH_now (i := 1) (some 43) (v := ?_) rfl (by kernel_rfl) (by kernel_rfl) (by kernel_rfl) (fun _ _ _ h => h) (Or.inl ⟨by rfl, ?_⟩) rfl (by assumption) ?_
  rotate_left
  focus (intro w9 hS9; go_simp; try with_reducible rfl)
  try simp only [Act.put, List.setIfInBounds_toArray, List.set_cons_zero, List.set_cons_succ]
  refine takeH_now (i := 2) (some 44) (v := ?_) rfl (by kernel_rfl) (by kernel_rfl) (by kernel_rfl) (fun _ _ _ h => h) (Or.inl ⟨by rfl, ?_⟩) rfl (by assumption) ?_
  rotate_left
  focus (intro w9 hS9; go_simp; try with_reducible rfl)
  try simp only [Act.put, List.setIfInBounds_toArray, List.set_cons_zero, List.set_cons_succ]
  refine takeH_now (i := 3) (some 45) (v := ?_) rfl (by kernel_rfl) (by kernel_rfl) (by kernel_rfl) (fun _ _ _ h => h) (Or.inl ⟨by rfl, ?_⟩) rfl (by assumption) ?_
  rotate_left
  focus (intro w9 hS9; go_simp; try with_reducible rfl)
  try simp only [Act.put, List.setIfInBounds_toArray, List.set_cons_zero, List.set_cons_succ]
  refine takeH_now (i := 4) (some 46) (v := ?_) rfl (by kernel_rfl) (by kernel_rfl) (by kernel_rfl) (fun _ _ _ h => h) (Or.inl ⟨by rfl, ?_⟩) rfl (by assumption) ?_
  rotate_left
  focus (intro w9 hS9; go_simp; try with_reducible rfl)
  try simp only [Act.put, List.setIfInBounds_toArray, List.set_cons_zero, List.set_cons_succ]
  refine takeH_now (i := 5) (some 47) (v := ?_) rfl (by kernel_rfl) (by kernel_rfl) (by kernel_rfl) (fun _ _ _ h => h) (Or.inl ⟨by rfl, ?_⟩) rfl (by assumption) ?_
  rotate_left
  focus (intro w9 hS9; go_simp; try with_reducible rfl)
  try simp only [Act.put, List.setIfInBounds_toArray, List.set_cons_zero, List.set_cons_succ]
  refine takeH_now (i := 6) (some 48) (v := ?_) rfl (by kernel_rfl) (by kernel_rfl) (by kernel_rfl) (fun _ _ _ h => h) (Or.inl ⟨by rfl, ?_⟩) rfl (by assumption) ?_
  rotate_left
  focus (intro w9 hS9; go_simp; try with_reducible rfl)
  try simp only [Act.put, List.setIfInBounds_toArray, List.set_cons_zero, List.set_cons_succ]
  refine takeH_now (i := 7) (some 49) (v := ?_) rfl (by kernel_rfl) (by kernel_rfl) (by kernel_rfl) (fun _ _ _ h => h) (Or.inl ⟨by rfl, ?_⟩) rfl (by assumption) ?_
  rotate_left
  focus (intro w9 hS9; obtain ⟨aC, aL, aK⟩ := HCell.out w9 hS9; clear hS9; go_simp; try with_reducible rfl)
  try simp only [Act.put, List.setIfInBounds_toArray, List.set_cons_zero, List.set_cons_succ]
  refine takeH_now (i := 8) (some 50) (v := ?_) rfl (by kernel_rfl) (by kernel_rfl) (by kernel_rfl) (fun _ _ _ h => h) (Or.inl ⟨by rfl, ?_⟩) rfl (by assumption) ?_
  rotate_left
  focus (intro w9 hS9; go_simp; try with_reducible rfl)
  try simp only [Act.put, List.setIfInBounds_toArray, List.set_cons_zero, List.set_cons_succ]
  refine takeH_now (i := 10) (some 52) (v := ?_) rfl (by kernel_rfl) (by kernel_rfl) (by kernel_rfl) (fun _ _ _ h => h) (Or.inl ⟨by rfl, ?_⟩) rfl (by assumption) ?_
  rotate_left
  focus (intro w9 hS9; obtain ⟨aC, aL, aK⟩ := HCell.out w9 hS9; clear hS9; go_simp; try with_reducible rfl)
  try simp only [Act.put, List.setIfInBounds_toArray, List.set_cons_zero, List.set_cons_succ]
  refine takeH_now (i := 11) (some 53) (v := ?_) rfl (by kernel_rfl) (by kernel_rfl) (by kernel_rfl) (fun _ _ _ h => h) (Or.inl ⟨by rfl, ?_⟩) rfl (by assumption) ?_
  rotate_left
  focus (intro w9 hS9; go_simp; try with_reducible rfl)
  try simp only [Act.put, List.setIfInBounds_toArray, List.set_cons_zero, List.set_cons_succ]
  refine wpAnyH_ready (rs := [9]) (by kernel_rfl) (by simp) ?_
  refine AllReadyH.cons (o := { dst := some 51, op := Op.call { callee := Callee.value (Operand.func 23), args := #[Operand.tmp 49, Operand.tmp 50], argTypes := #[24, 32] }, type := 4, pos := "law.go:56", after := #[{ on := 7, ground := Ground.data }, { on := 8, ground := Ground.data }, { on := 6, ground := Ground.chain }, { on := 6, ground := Ground.guard }], guard := some (6, true) }) rfl (fun K' hK' => ?_) AllReadyH.nil
  rw [if_pos (by kernel_rfl)]
  go_simp
  refine (HV1.out _ (HLo.out _ hHeld)).mono ?_
  rintro e wd ⟨rfl, hba⟩
  have hHa := HK.out _ _ hHeld hba
  clear hHeld hba
  refine hK'.out _ _ hHa (fun hHeld => ?_)
  clear hK' hHa
  try simp only [Act.put, List.setIfInBounds_toArray, List.set_cons_zero, List.set_cons_succ]
  refine wpAnyH_ready (rs := [12]) (by kernel_rfl) (by simp) ?_
  refine AllReadyH.cons (o := { dst := some 54, op := Op.call { callee := Callee.value (Operand.func 24), args := #[Operand.tmp 52, Operand.tmp 53], argTypes := #[24, 32] }, type := 4, pos := "law.go:56", after := #[{ on := 10, ground := Ground.data }, { on := 11, ground := Ground.data }, { on := 9, ground := Ground.chain }, { on := 6, ground := Ground.guard }], guard := some (6, true) }) rfl (fun K' hK' => ?_) AllReadyH.nil
  rw [if_pos (by kernel_rfl)]
  go_simp
  refine (HV2.out _ (HLo.out _ hHeld)).mono ?_
  rintro e wd ⟨rfl, hba⟩
  have hHa := HK.out _ _ hHeld hba
  clear hHeld hba
  refine hK'.out _ _ hHa (fun hHeld => ?_)
  clear hK' hHa
  try simp only [Act.put, List.setIfInBounds_toArray, List.set_cons_zero, List.set_cons_succ]
  refine takeH_now (i := 13) (some 55) (v := ?_) rfl (by kernel_rfl) (by kernel_rfl) (by kernel_rfl) (fun _ _ _ h => h) (Or.inl ⟨by rfl, ?_⟩) rfl (by assumption) ?_
  rotate_left
  focus (intro w9 hS9; go_simp; try with_reducible rfl)
  try simp only [Act.put, List.setIfInBounds_toArray, List.set_cons_zero, List.set_cons_succ]
  refine takeH_now (i := 14) (some 56) (v := ?_) rfl (by kernel_rfl) (by kernel_rfl) (by kernel_rfl) (fun _ _ _ h => h) (Or.inl ⟨by rfl, ?_⟩) rfl (by assumption) ?_
  rotate_left
  focus (intro w9 hS9; go_simp; try with_reducible rfl)
  try simp only [Act.put, List.setIfInBounds_toArray, List.set_cons_zero, List.set_cons_succ]
  refine takeH_now (i := 15) (some 6) (v := ?_) rfl (by kernel_rfl) (by kernel_rfl) (by kernel_rfl) (fun _ _ _ h => h) (Or.inl ⟨by rfl, ?_⟩) rfl (by assumption) ?_
  rotate_left
  focus (intro w9 hS9; go_simp; try with_reducible rfl)
  try simp only [Act.put, List.setIfInBounds_toArray, List.set_cons_zero, List.set_cons_succ]
  refine wpAnyH_done (by kernel_rfl) ?_ _
  have hend := HLo.out _ hHeld
  clear hHeld
  go_wp2_with fail
  go_ret
  exact ⟨by simp, hend⟩
theorem fsp_any (A1 L1 A2 A3 : Option Addr) (n1 m1 n2 n3 c1 d1 c2 c3 : Nat) (k : Int) (w : World) (cs ls lits : List Int) (bs : List Bool) (r1 : RdI w.heap.size w A1 cs) (r2 : RdI w.heap.size w L1 ls) (r3 : RdI w.heap.size w A2 lits) (r4 : RdB w.heap.size w A3 bs) (h1 : cs.length = n1) (h2 : ls.length = m1) (h3 : lits.length = n2) (h4 : bs.length = n3) (hcap : n2 ≤ c2) :
    Calls Try.prog 4 #[.agg #[.slice A1 n1 c1, .slice L1 m1 d1, .int .i64 k], .slice A2 n2 c2, .slice A3 n3 c3] w fun e w' => e = .returned (.bool true) ∧ Below w.heap.size w w' := by
  by_cases f1 : n1 ≤ 60 ∧ m1 ≤ 60
  · by_cases f2 : n2 ≤ 60
    · by_cases f3 : n3 ≤ 100
      · exact fsp_main A1 L1 A2 A3 n1 m1 n2 n3 c1 d1 c2 c3 k w cs ls lits bs r1 r2 r3 r4 h1 h2 h3 h4 hcap ⟨f1, f2, f3⟩
      · exact fsp_out2 A1 L1 A2 A3 n1 m1 n2 n3 c1 d1 c2 c3 k w ⟨f1, f2, by omega⟩
    · exact fsp_out1 A1 L1 A2 A3 n1 m1 n2 n3 c1 d1 c2 c3 k w ⟨f1, by omega⟩
  · exact fsp_out0 A1 L1 A2 A3 n1 m1 n2 n3 c1 d1 c2 c3 k w f1
end Go.Proofs.Ytoacfjmefoiflaa
