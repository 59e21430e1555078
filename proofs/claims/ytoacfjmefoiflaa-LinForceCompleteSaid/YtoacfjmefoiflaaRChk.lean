/- What the reference's Check answers. -/
import Derived.Test.YtoacfjmefoiflaaOpen
namespace Go.Proofs.Ytoacfjmefoiflaa
open Go.RowKit
set_option maxRecDepth 100000

set_option maxHeartbeats 4000000 in
theorem RCheck_head (AC AL : Option Addr) (n1 n2 cc lc : Nat) (k N : Int) (w : World) (h : N < 0 ∨ 65536 < N ∨ n1 ≠ n2 ∨ k < -1099511627776 ∨ 1099511627776 < k) :
    Calls Try.prog 18 #[.agg #[.slice AC n1 cc, .slice AL n2 lc, .int .i64 k], .int .i64 N] w fun e w' => e = .returned (.int .i64 1) ∧ Below w.heap.size w w' := by
  obtain ⟨W1, hW1⟩ : ∃ W, W = w.alloc (.cells #[.slice AC n1 cc, .slice AL n2 lc, .int .i64 k] 24) := ⟨_, rfl⟩
  have hb1 : Below w.heap.size w W1 := by rw [hW1]; exact (Below.refl w.heap.size w).alloc (Nat.le_refl _) _
  have hat : LinAt W1 w.heap.size (.slice AC n1 cc) (.slice AL n2 lc) k 24 := by rw [hW1]; exact heap_alloc_new _ _
  obtain ⟨cC, cL, cK⟩ := hat.cells
  have HW := Lib.hid hW1
  clear hW1 hat
  by_cases q0 : N < 0
  · have f1 : decide (N < 0) = true := decide_eq_true (by omega)
    rw [HW.out] at cC cL cK
    clear h
    go_enter Try.func18, Try.ntmps18
    go_wp2_with fail
    go_ret
    exact ⟨rfl, by rw [← HW.out]; exact hb1⟩
  · by_cases q1 : 65536 < N
    · have f1 : decide (N < 0) = false := decide_eq_false (by omega)
      have f2 : decide (N > 65536) = true := decide_eq_true (by omega)
      have f2' : decide (65536 < N) = true := decide_eq_true (by omega)
      rw [HW.out] at cC cL cK
      clear h
      go_enter Try.func18, Try.ntmps18
      go_wp2_with fail
      go_ret
      exact ⟨rfl, by rw [← HW.out]; exact hb1⟩
    · by_cases q2 : n1 ≠ n2
      · have f1 : decide (N < 0) = false := decide_eq_false (by omega)
        have f2 : decide (N > 65536) = false := decide_eq_false (by omega)
        have f2' : decide (65536 < N) = false := decide_eq_false (by omega)
        have f3 : ((n1 : Int) != (n2 : Int)) = true := by simp; omega
        have f3' : (n1 != n2) = true := by simp; omega
        rw [HW.out] at cC cL cK
        clear h
        go_enter Try.func18, Try.ntmps18
        go_wp2_with fail
        go_ret
        exact ⟨rfl, by rw [← HW.out]; exact hb1⟩
      · by_cases q3 : k < -1099511627776
        · have f1 : decide (N < 0) = false := decide_eq_false (by omega)
          have f2 : decide (N > 65536) = false := decide_eq_false (by omega)
          have f2' : decide (65536 < N) = false := decide_eq_false (by omega)
          have f3 : ((n1 : Int) != (n2 : Int)) = false := by simp; omega
          have f3' : (n1 != n2) = false := by simp; omega
          have f4 : decide (k < -1099511627776) = true := decide_eq_true (by omega)
          rw [HW.out] at cC cL cK
          clear h
          go_enter Try.func18, Try.ntmps18
          go_wp2_with fail
          go_ret
          exact ⟨rfl, by rw [← HW.out]; exact hb1⟩
        · by_cases q4 : 1099511627776 < k
          · have f1 : decide (N < 0) = false := decide_eq_false (by omega)
            have f2 : decide (N > 65536) = false := decide_eq_false (by omega)
            have f2' : decide (65536 < N) = false := decide_eq_false (by omega)
            have f3 : ((n1 : Int) != (n2 : Int)) = false := by simp; omega
            have f3' : (n1 != n2) = false := by simp; omega
            have f4 : decide (k < -1099511627776) = false := decide_eq_false (by omega)
            have f5 : decide (k > 1099511627776) = true := decide_eq_true (by omega)
            have f5' : decide (1099511627776 < k) = true := decide_eq_true (by omega)
            rw [HW.out] at cC cL cK
            clear h
            go_enter Try.func18, Try.ntmps18
            go_wp2_with fail
            go_ret
            exact ⟨rfl, by rw [← HW.out]; exact hb1⟩
          · exact absurd h (by omega)
set_option maxHeartbeats 8000000 in
theorem RCheck_loop (B : Nat) (AC AL : Option Addr) (n2 cc lc : Nat) (k N : Int) (cs ls : List Int) (w : World) (hc : RdI B w AC cs) (hr : RdI B w AL ls) (hB : B ≤ w.heap.size) (hcl : cs.length = n2) (hl : ls.length = n2) (hn : n2 ≤ 4096)  (i0 : Nat) (E : Int) (hN0 : 0 ≤ N) (hN1 : N ≤ 65536) (hk1 : -1099511627776 ≤ k) (hk2 : k ≤ 1099511627776)
    (hi : i0 ≤ n2) (hok : ∀ j, j < i0 → numB (cs[j]?.getD 0) = true ∧ litB (ls[j]?.getD 0) N = true) (hE : (i0 = n2 ∧ E = 0) ∨ (i0 < n2 ∧ E = 1 ∧ ¬ (numB (cs[i0]?.getD 0) = true ∧ litB (ls[i0]?.getD 0) N = true))) :
    Calls Try.prog 18 #[.agg #[.slice AC n2 cc, .slice AL n2 lc, .int .i64 k], .int .i64 N] w fun e w' => e = .returned (.int .i64 E) ∧ Below w.heap.size w w' := by
  obtain ⟨W1, hW1⟩ : ∃ W, W = w.alloc (.cells #[.slice AC n2 cc, .slice AL n2 lc, .int .i64 k] 24) := ⟨_, rfl⟩
  have hb1 : Below w.heap.size w W1 := by rw [hW1]; exact (Below.refl w.heap.size w).alloc (Nat.le_refl _) _
  have hat : LinAt W1 w.heap.size (.slice AC n2 cc) (.slice AL n2 lc) k 24 := by rw [hW1]; exact heap_alloc_new _ _
  obtain ⟨cC, cL, cK⟩ := hat.cells
  have HW := Lib.hid hW1
  have Hl := Lib.hid (And.intro hcl hl)
  have Hok := Lib.hid hok
  have HE := Lib.hid hE
  have R := Lib.hid (And.intro (hc.below hb1 hB) (hr.below hb1 hB))
  clear hW1 hcl hl hok hE hc hr hat
  have f1 : decide (N < 0) = false := decide_eq_false (by omega)
  have f2 : decide (N > 65536) = false := decide_eq_false (by omega)
  have f2' : decide (65536 < N) = false := decide_eq_false (by omega)
  have f3 : ((n2 : Int) != (n2 : Int)) = false := by simp
  have f3' : (n2 != n2) = false := by simp
  have f4 : decide (k < -1099511627776) = false := decide_eq_false (by omega)
  have f5 : decide (k > 1099511627776) = false := decide_eq_false (by omega)
  have f5' : decide (1099511627776 < k) = false := decide_eq_false (by omega)
  have gN : wrap64 (0 - N) = 0 - N := IntWalk.wrap64_in _ (by omega)
  have gN' : wrap64 (-N) = -N := IntWalk.wrap64_in _ (by omega)
  have f6 : decide ((n2 : Int) > 4096) = false := decide_eq_false (by omega)
  have f6' : decide (4096 < (n2 : Int)) = false := decide_eq_false (by omega)
  have f6'' : decide (4096 < n2) = false := decide_eq_false (by omega)
  rw [HW.out] at cC cL cK
  go_enter Try.func18, Try.ntmps18
  go_wp2_with fail
  rw [← HW.out]
  rw [← HW.out] at cC cL cK
  clear HW f1 f2 f2' f3 f3' f4 f5 f5'
  go_loopw [5] (fun i wr => ∃ j : Nat, j ≤ i0 ∧ i = .int .i64 j ∧ W1 = wr) (fun i _ => n2 - (intOf i).toNat)
  case atStart => exact ⟨0, by omega, rfl, rfl⟩
  case round =>
    obtain ⟨j, hj, rfl, rfl⟩ := hrel
    by_cases hlt : j < n2
    · have hjz : j < ls.length := by rw [Hl.out.2]; exact hlt
      have hjc : j < cs.length := by rw [Hl.out.1]; omega
      obtain ⟨b, off, hAL, _, hcz⟩ := R.out.2.2 (by omega)
      obtain ⟨b2, off2, hAC, _, hcc⟩ := R.out.1.2 (by omega)
      have hz1 := hcz j hjz
      have hc1 := hcc j hjc
      cases hAL
      cases hAC
      by_cases hji : j < i0
      · obtain ⟨g1, g2⟩ := Hok.out j hji
        clear hcz hcc hjz hjc Hok HE R
        generalize ls[j]?.getD 0 = z at *
        generalize cs[j]?.getD 0 = x at *
        have g1' : -1099511627776 ≤ x ∧ x ≤ 1099511627776 := by unfold numB at g1; simpa using g1
        obtain ⟨gz1, gz2, gz3⟩ := litB_bound g2
        clear g1 g2
        have e1 : decide (x < -1099511627776) = false := decide_eq_false (by omega)
        have e2 : decide (x > 1099511627776) = false := decide_eq_false (by omega)
        have e2' : decide (1099511627776 < x) = false := decide_eq_false (by omega)
        have e3 : (z == 0) = false := by simp; omega
        have e4 : decide (z < -N) = false := decide_eq_false (by omega)
        have e4' : decide (z < 0 - N) = false := decide_eq_false (by omega)
        have e5 : decide (z > N) = false := decide_eq_false (by omega)
        have e5' : decide (N < z) = false := decide_eq_false (by omega)
        go_wp2_with fail
        clear e1 e2 e2' e3 e4 e4' e5 e5'
        go_roundw
        case rel => exact ⟨j + 1, by omega, by go_num, trivial⟩
        case measure => simp [intOf]; omega
      · obtain rfl : j = i0 := by omega
        obtain ⟨_, hE1, hbad⟩ := HE.out.resolve_left (by omega)
        subst hE1
        clear hcz hcc hjz hjc Hok HE R
        generalize ls[j]?.getD 0 = z at *
        generalize cs[j]?.getD 0 = x at *
        by_cases p0 : x < -1099511627776
        · have e1 : decide (x < -1099511627776) = true := decide_eq_true (by omega)
          clear hbad
          go_wp2_with fail
          go_ret
          exact ⟨rfl, hb1⟩
        · by_cases p1 : 1099511627776 < x
          · have e1 : decide (x < -1099511627776) = false := decide_eq_false (by omega)
            have e2 : decide (x > 1099511627776) = true := decide_eq_true (by omega)
            have e2' : decide (1099511627776 < x) = true := decide_eq_true (by omega)
            clear hbad
            go_wp2_with fail
            go_ret
            exact ⟨rfl, hb1⟩
          · by_cases p2 : z = 0
            · have e1 : decide (x < -1099511627776) = false := decide_eq_false (by omega)
              have e2 : decide (x > 1099511627776) = false := decide_eq_false (by omega)
              have e2' : decide (1099511627776 < x) = false := decide_eq_false (by omega)
              have e3 : (z == 0) = true := by simp; omega
              clear hbad
              go_wp2_with fail
              go_ret
              exact ⟨rfl, hb1⟩
            · by_cases p3 : z < -N
              · have e1 : decide (x < -1099511627776) = false := decide_eq_false (by omega)
                have e2 : decide (x > 1099511627776) = false := decide_eq_false (by omega)
                have e2' : decide (1099511627776 < x) = false := decide_eq_false (by omega)
                have e3 : (z == 0) = false := by simp; omega
                have e4 : decide (z < -N) = true := decide_eq_true (by omega)
                have e4' : decide (z < 0 - N) = true := decide_eq_true (by omega)
                clear hbad
                go_wp2_with fail
                go_ret
                exact ⟨rfl, hb1⟩
              · by_cases p4 : N < z
                · have e1 : decide (x < -1099511627776) = false := decide_eq_false (by omega)
                  have e2 : decide (x > 1099511627776) = false := decide_eq_false (by omega)
                  have e2' : decide (1099511627776 < x) = false := decide_eq_false (by omega)
                  have e3 : (z == 0) = false := by simp; omega
                  have e4 : decide (z < -N) = false := decide_eq_false (by omega)
                  have e4' : decide (z < 0 - N) = false := decide_eq_false (by omega)
                  have e5 : decide (z > N) = true := decide_eq_true (by omega)
                  have e5' : decide (N < z) = true := decide_eq_true (by omega)
                  clear hbad
                  go_wp2_with fail
                  go_ret
                  exact ⟨rfl, hb1⟩
                · exact absurd ⟨by unfold numB; rw [decide_eq_true (by omega), decide_eq_true (by omega)]; rfl, by unfold litB; rw [decide_eq_true (by omega), decide_eq_true (by omega), decide_eq_true (by omega)]; rfl⟩ hbad
    · obtain rfl : j = n2 := by omega
      obtain ⟨_, hE1⟩ := HE.out.resolve_right (by omega)
      subst hE1
      clear Hok HE R
      go_wp2_with fail
      go_ret
      exact ⟨rfl, hb1⟩
/-- The reference's Check, for any constraint that isn't long. -/
theorem RCheck_any (B : Nat) (AC AL : Option Addr) (n1 n2 cc lc : Nat) (k N : Int) (cs ls : List Int) (w : World) (hc : RdI B w AC cs) (hr : RdI B w AL ls) (hB : B ≤ w.heap.size) (hcl : cs.length = n1) (hl : ls.length = n2) (hn : n2 ≤ 4096)  :
    (OkL cs ls k N → Calls Try.prog 18 #[.agg #[.slice AC n1 cc, .slice AL n2 lc, .int .i64 k], .int .i64 N] w fun e w' => e = .returned (.int .i64 0) ∧ Below w.heap.size w w') ∧
    (¬ OkL cs ls k N → Calls Try.prog 18 #[.agg #[.slice AC n1 cc, .slice AL n2 lc, .int .i64 k], .int .i64 N] w fun e w' => e = .returned (.int .i64 1) ∧ Below w.heap.size w w') := by
  refine ⟨fun h => ?_, fun hno => ?_⟩
  · have hkb := h.kb
    obtain ⟨g1, g2, g3, g4, g5⟩ := h
    obtain rfl : n1 = n2 := by omega
    exact RCheck_loop B AC AL n1 cc lc k N cs ls w hc hr hB hcl hl hn n1 0 g1 g2 hkb.1 hkb.2 (Nat.le_refl _) (by rw [← hl]; exact g5) (.inl ⟨rfl, rfl⟩)
  · by_cases g : N < 0 ∨ 65536 < N ∨ n1 ≠ n2 ∨ k < -1099511627776 ∨ 1099511627776 < k
    · exact RCheck_head AC AL n1 n2 cc lc k N w g
    · rcases firstL cs ls N n2 with q | ⟨i, q1, q2, q3⟩
      · refine absurd ⟨by omega, by omega, by omega, ?_, by rw [hl]; exact q⟩ hno
        unfold numB
        rw [decide_eq_true (by omega), decide_eq_true (by omega)]; rfl
      · obtain rfl : n1 = n2 := by omega
        exact RCheck_loop B AC AL n1 cc lc k N cs ls w hc hr hB hcl hl hn i 1 (by omega) (by omega) (by omega) (by omega) (by omega) q2 (.inr ⟨q1, rfl, q3⟩)
/-- lin.Check where the number of variables is out of range. -/
theorem LinCheck_far (AC AL : Option Addr) (n1 n2 cc lc : Nat) (k N : Int) (w : World) (h : N < 0 ∨ 65536 < N) :
    Calls Try.prog 17 #[.agg #[.slice AC n1 cc, .slice AL n2 lc, .int .i64 k], .int .i64 N] w fun e w' => e = .returned (.int .i64 1) ∧ Below w.heap.size w w' := by
  have hb1 : Below w.heap.size w (w.alloc (.cells #[.slice AC n1 cc, .slice AL n2 lc, .int .i64 k] 24)) := (Below.refl w.heap.size w).alloc (Nat.le_refl _) _
  by_cases q : N < 0
  · have f1 : decide (N < 0) = true := decide_eq_true q
    clear h
    go_enter Try.func17, Try.ntmps17
    go_wp2_with fail
    go_ret
    exact ⟨rfl, hb1⟩
  · have f1 : decide (N < 0) = false := decide_eq_false q
    have f2 : decide (N > 65536) = true := decide_eq_true (by omega)
    have f2' : decide (65536 < N) = true := decide_eq_true (by omega)
    clear h
    go_enter Try.func17, Try.ntmps17
    go_wp2_with fail
    go_ret
    exact ⟨rfl, hb1⟩
end Go.Proofs.Ytoacfjmefoiflaa
