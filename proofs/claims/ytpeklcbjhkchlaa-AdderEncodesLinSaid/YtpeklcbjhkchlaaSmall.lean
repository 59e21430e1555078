/- The walks of the law's small helpers: has, other, truths. -/
import Derived.Test.YtpeklcbjhkchlaaSumsN
import Derived.Test.YtpeklcbjhkchlaaLive
namespace Go.Proofs.Ytpeklcbjhkchlaa
open Go.ChangeShapes Go.WideShapes Go.ChangeAt Go.RowKit
set_option maxRecDepth 100000

set_option maxHeartbeats 2000000 in
theorem has_any (B n c : Nat) (A : Option Addr) (xs : List Int) (y : Int) (w : World) (hr : RdI B w A xs) (hl : xs.length = n) (hn : n ≤ maxLen) :
    Calls Try.prog 38 #[.slice A n c, .int .i64 y] w fun e w' => e = .returned (.bool (decide (y ∈ xs))) ∧ w = w' := by
  have hn : n ≤ 9223372036854775807 := by unfold maxLen at hn; omega
  have Hl := Lib.hid hl
  have R := Lib.hid hr
  obtain ⟨r, hr⟩ : ∃ r, decide (y ∈ xs) = r := ⟨_, rfl⟩
  rw [hr]
  have Hr := Lib.hid hr
  clear hl hr
  go_enter Try.func38, Try.ntmps38
  go_wp2_with fail
  go_loopw [5] (fun i wr => ∃ j : Nat, j ≤ n ∧ i = .int .i64 j ∧ y ∉ xs.take j ∧ w = wr) (fun i _ => n - (intOf i).toNat)
  case atStart => exact ⟨0, by omega, rfl, by simp, rfl⟩
  case round =>
    obtain ⟨j, hj, rfl, hno, rfl⟩ := hrel
    by_cases hlt : j < n
    · have hjl : j < xs.length := by rw [Hl.out]; exact hlt
      obtain ⟨b, off, rfl, _, hc⟩ := R.out.2 (by omega)
      have hc1 := hc j hjl
      have hmem : xs[j]?.getD 0 ∈ xs := by rw [List.getElem?_eq_getElem hjl]; exact List.getElem_mem hjl
      have htk : xs.take (j + 1) = xs.take j ++ [xs[j]?.getD 0] := by rw [List.take_add_one, List.getElem?_eq_getElem hjl]; rfl
      have Ht := Lib.hid htk
      have Hm := Lib.hid hmem
      have Hno := Lib.hid hno
      clear hc hjl htk hmem hno R
      generalize xs[j]?.getD 0 = z at *
      by_cases he : z = y
      · subst he
        obtain rfl : r = true := by rw [← Hr.out]; exact decide_eq_true Hm.out
        clear Hm Hno Ht Hr
        go_wp2_with fail
        go_ret
        exact ⟨rfl, rfl⟩
      · have f0 : (z == y) = false := by simpa using he
        have hno2 : Hid (y ∉ xs.take (j + 1)) := by
          rw [Ht.out]; refine Lib.hid ?_
          intro h
          rcases List.mem_append.1 h with h | h
          · exact Hno.out h
          · exact he (List.mem_singleton.1 h).symm
        clear he Ht Hno Hm
        go_wp2_with fail
        go_roundw
        case rel => exact ⟨j + 1, by omega, by go_num, hno2.out, trivial⟩
        case measure => simp [intOf]; omega
    · obtain rfl : j = n := by omega
      obtain rfl : r = false := by rw [← Hr.out]; exact decide_eq_false (by rwa [← Hl.out, List.take_length] at hno)
      clear hno R Hr
      go_wp2_with fail
      go_ret
      exact ⟨rfl, rfl⟩

set_option maxHeartbeats 4000000 in
theorem other_any (B C n c m d M : Nat) (A D : Option Addr) (xs : List Int) (bs : List Bool) (y known : Int) (w : World) (hr : RdI B w A xs) (hl : xs.length = n) (hn : n ≤ maxLen) (hb : RdB C w D bs) (hm : bs.length = m) (hm2 : m ≤ 70000) (hk : known = (m : Int)) (hx : ∀ x ∈ xs, Lit M x) (hM : M ≤ 70000) :
    Calls Try.prog 39 #[.slice A n c, .int .i64 y, .slice D m d, .int .i64 known] w fun e w' => e = .returned (.bool (oth xs y bs)) ∧ ∃ k, w' = w.drewN k := by
  subst hk
  have hn : n ≤ 9223372036854775807 := by unfold maxLen at hn; omega
  have Hl := Lib.hid hl
  have R := Lib.hid hr
  have RB := Lib.hid hb
  have Hm := Lib.hid hm
  have Hx := Lib.hid hx
  obtain ⟨r, hres⟩ : ∃ r, oth xs y bs = r := ⟨_, rfl⟩
  rw [hres]
  have Hr := Lib.hid hres
  clear hl hr hb hm hx hres
  go_enter Try.func39, Try.ntmps39
  go_wp2_with fail
  go_loopw [9] (fun i wr => ∃ j : Nat, j ≤ n ∧ i = .int .i64 j ∧ oth (xs.take j) y bs = true ∧ ∃ k, wr = w.drewN k) (fun i _ => n - (intOf i).toNat)
  case atStart => exact ⟨0, by omega, rfl, rfl, 0, rfl⟩
  case round =>
    obtain ⟨j, hj, rfl, hyes, k0, rfl⟩ := hrel
    by_cases hlt : j < n
    · have hjl : j < xs.length := by rw [Hl.out]; exact hlt
      obtain ⟨b, off, rfl, _, hc⟩ := R.out.2 (by omega)
      have hc1 := hc j hjl
      have hlit := Hx.out (xs[j]?.getD 0) (by rw [List.getElem?_eq_getElem hjl]; exact List.getElem_mem hjl)
      have htk : oth (xs.take (j + 1)) y bs = (oth (xs.take j) y bs && (decide (xs[j]?.getD 0 = y) || (decide (xs[j]?.getD 0 ≠ 0 ∧ -(bs.length : Int) < xs[j]?.getD 0 ∧ xs[j]?.getD 0 < (bs.length : Int)) && !tv bs (xs[j]?.getD 0)))) := by
        unfold oth
        rw [List.take_add_one, List.getElem?_eq_getElem hjl, Option.toList_some, List.all_append]; simp
      have hno : (decide (xs[j]?.getD 0 = y) || (decide (xs[j]?.getD 0 ≠ 0 ∧ -(bs.length : Int) < xs[j]?.getD 0 ∧ xs[j]?.getD 0 < (bs.length : Int)) && !tv bs (xs[j]?.getD 0))) = false → oth xs y bs = false := fun h => by
        unfold oth
        rw [List.all_eq_false]
        exact ⟨xs[j], List.getElem_mem hjl, by rw [List.getElem?_eq_getElem hjl] at h; simpa using h⟩
      rw [hyes, Bool.true_and, Hm.out] at htk
      rw [Hm.out] at hno
      have Ht := Lib.hid htk
      have Hno := Lib.hid hno
      clear hc hjl htk hno hyes R
      generalize xs[j]?.getD 0 = z at *
      obtain ⟨q, q1, q2, q3⟩ := hlit.two
      have hw : wrap64 (-z) = -z := IntWalk.wrap64_in _ (by rcases q3 with rfl | rfl <;> omega)
      have hmax : max z (wrap64 (-z)) = (q : Int) := by rw [hw]; rcases q3 with rfl | rfl <;> omega
      clear hlit hw
      have Hq3 := Lib.hid q3
      clear q3
      by_cases he : z = y
      · subst he
        have ht2 := Ht.out
        rw [decide_eq_true rfl, Bool.true_or] at ht2
        have HT := Lib.hid ht2
        clear ht2 Ht Hno
        go_wp2_with fail
        go_quiet (fail)
        go_wp2_with fail
        go_roundw
        case rel => exact ⟨j + 1, by omega, by go_num, HT.out, _, rfl⟩
        case measure => simp [intOf]; omega
      · have f0 : (z == y) = false := by simpa using he
        have hd := decide_eq_false he
        have ht2 := Ht.out
        have hno2 := Hno.out
        rw [hd, Bool.false_or] at ht2 hno2
        clear hd Ht Hno he
        have f1 : decide ((q : Int) < 1) = false := decide_eq_false (by omega)
        have f1' : (q < 1) = False := by simp; omega
        by_cases hqm : q < m
        · have hin : decide (z ≠ 0 ∧ -(m : Int) < z ∧ z < (m : Int)) = true := decide_eq_true (by rcases Hq3.out with rfl | rfl <;> omega)
          rw [hin, Bool.true_and] at ht2 hno2
          obtain ⟨b2, off2, rfl, _, hc2⟩ := RB.out (by rw [Hm.out]; omega)
          have hc3 := hc2 q (by rw [Hm.out]; exact hqm)
          have f2 : decide (m ≤ q) = false := decide_eq_false (by omega)
          have htv : tv bs z = (bs[q]?.getD false == decide (0 < z)) := by
            rcases Hq3.out with rfl | rfl
            · rw [tv_pos, decide_eq_true (by omega)]; cases bs[q]?.getD false <;> rfl
            · rw [tv_neg _ _ q1, decide_eq_false (by omega)]; cases bs[q]?.getD false <;> rfl
          rw [htv] at ht2 hno2
          clear hc2 htv hin RB
          generalize bs[q]?.getD false = u at *
          obtain ⟨s, hs⟩ : ∃ s, decide (0 < z) = s := ⟨_, rfl⟩
          rw [hs] at ht2 hno2
          have HT := Lib.hid ht2
          have HN := Lib.hid hno2
          clear ht2 hno2 Hq3
          have fin : ∀ (q : Bool), q = (u == s) → (q = true → r = false) ∧ (q = false → oth (xs.take (j + 1)) y bs = true) := fun q hq => by
            subst hq
            refine ⟨fun h => ?_, fun h => ?_⟩
            · rw [← Hr.out]; exact HN.out (by rw [h]; rfl)
            · rw [HT.out, h]; rfl
          obtain ⟨q, hq⟩ : ∃ q, (u == s) = q := ⟨_, rfl⟩
          obtain ⟨k1, k2⟩ := fin q hq.symm
          clear HT HN fin
          cases q with
          | true =>
            obtain rfl := k1 rfl
            clear k1 k2
            cases u <;> cases s
            all_goals try (exfalso; revert hq; decide)
            all_goals
              clear hq
              go_wp2_with fail
              go_quiet (fail)
              go_wp2_with fail
              go_quiet (fail)
              go_wp2_with fail
              go_ret
              exact ⟨rfl, _, World.drewN_drewN ..⟩
          | false =>
            have K2 := Lib.hid (k2 rfl)
            clear k1 k2
            cases u <;> cases s
            all_goals try (exfalso; revert hq; decide)
            all_goals
              clear hq
              go_wp2_with fail
              go_quiet (fail)
              go_wp2_with fail
              go_quiet (fail)
              go_wp2_with fail
              go_roundw
              case rel => exact ⟨j + 1, by omega, by go_num, K2.out, _, rfl⟩
              case measure => simp [intOf]; omega
        · have hin : decide (z ≠ 0 ∧ -(m : Int) < z ∧ z < (m : Int)) = false := decide_eq_false (by rcases Hq3.out with rfl | rfl <;> omega)
          obtain rfl : r = false := by
            rw [← Hr.out]; exact hno2 (by rw [hin]; rfl)
          have f2 : decide (m ≤ q) = true := decide_eq_true (by omega)
          clear ht2 hno2 hin Hq3 RB Hr
          go_wp2_with fail
          go_quiet (fail)
          go_wp2_with fail
          go_quiet (fail)
          go_wp2_with fail
          go_ret
          exact ⟨rfl, _, World.drewN_drewN ..⟩
    · obtain rfl : j = n := by omega
      obtain rfl : r = true := by rw [← Hr.out]; rwa [← Hl.out, List.take_length] at hyes
      clear hyes R Hr
      go_wp2_with fail
      go_ret
      exact ⟨rfl, _, rfl⟩
end Go.Proofs.Ytpeklcbjhkchlaa
