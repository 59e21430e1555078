/- What the reference's Same answers. -/
import Derived.Test.YtoacfjmefoiflaaOpen
namespace Go.Proofs.Ytoacfjmefoiflaa
open Go.RowKit
set_option maxRecDepth 100000

set_option maxHeartbeats 4000000 in
theorem RSame_head (A L A2 L2 : Option Addr) (n m n2 m2 c d c2 d2 : Nat) (k k2 : Int) (cs ls cs2 ls2 : List Int) (w : World) (h1 : cs.length = n) (h2 : ls.length = m) (h3 : cs2.length = n2) (h4 : ls2.length = m2) (h : n ≠ n2 ∨ m ≠ m2 ∨ k ≠ k2) :
    Calls Try.prog 14 #[.agg #[.slice A n c, .slice L m d, .int .i64 k], .agg #[.slice A2 n2 c2, .slice L2 m2 d2, .int .i64 k2]] w fun e w' => e = .returned (.bool (sameB cs ls k cs2 ls2 k2)) ∧ Below w.heap.size w w' := by
  have hres : sameB cs ls k cs2 ls2 k2 = false := by
    cases q : sameB cs ls k cs2 ls2 k2 with
    | false => rfl
    | true =>
      obtain ⟨e1, e2, e3⟩ := sameB_iff.1 q
      rcases h with h | h | h
      · exact absurd (by rw [← h1, ← h3, e1]) h
      · exact absurd (by rw [← h2, ← h4, e2]) h
      · exact absurd e3 h
  rw [hres]
  obtain ⟨W1, hW1⟩ : ∃ W, W = (w.alloc (.cells #[.slice A n c, .slice L m d, .int .i64 k] 24)).alloc (.cells #[.slice A2 n2 c2, .slice L2 m2 d2, .int .i64 k2] 24) := ⟨_, rfl⟩
  have hb1 : Below w.heap.size w W1 := by rw [hW1]; exact ((Below.refl _ _).alloc (Nat.le_refl _) _).alloc (by simp) _
  have hg1 : LinAt W1 w.heap.size (.slice A n c) (.slice L m d) k 24 := by rw [hW1]; exact (heap_alloc_old _ _ (by simp)).trans (heap_alloc_new _ _)
  have hg2 : LinAt W1 (w.heap.size + 1) (.slice A2 n2 c2) (.slice L2 m2 d2) k2 24 := by
    have := heap_alloc_new (w.alloc (.cells #[.slice A n c, .slice L m d, .int .i64 k] 24)) (.cells #[.slice A2 n2 c2, .slice L2 m2 d2, .int .i64 k2] 24)
    rw [World.size_alloc] at this
    rw [hW1]; exact this
  obtain ⟨x1, x2, x3⟩ := hg1.cells
  obtain ⟨y1, y2, y3⟩ := hg2.cells
  have HW := Lib.hid hW1
  rw [hW1] at x1 x2 x3 y1 y2 y3
  clear hW1 hg1 hg2 h1 h2 h3 h4 hres
  by_cases q1 : n = n2
  · subst q1
    have f1 : ((n : Int) != (n : Int)) = false := by simp
    have f1' : (n != n) = false := by simp
    by_cases q2 : m = m2
    · subst q2
      have f2 : ((m : Int) != (m : Int)) = false := by simp
      have f2' : (m != m) = false := by simp
      have f3 : (k != k2) = true := by
        rcases h with h | h | h
        · exact absurd rfl h
        · exact absurd rfl h
        · simpa using h
      clear h
      go_enter Try.func14, Try.ntmps14
      go_wp2_with fail
      go_ret
      exact ⟨rfl, by rw [← HW.out]; exact hb1⟩
    · have f2 : ((m : Int) != (m2 : Int)) = true := by simp; omega
      have f2' : (m != m2) = true := by simp; omega
      clear h q2
      go_enter Try.func14, Try.ntmps14
      go_wp2_with fail
      go_ret
      exact ⟨rfl, by rw [← HW.out]; exact hb1⟩
  · have f1 : ((n : Int) != (n2 : Int)) = true := by simp; omega
    have f1' : (n != n2) = true := by simp; omega
    clear h q1
    go_enter Try.func14, Try.ntmps14
    go_wp2_with fail
    go_ret
    exact ⟨rfl, by rw [← HW.out]; exact hb1⟩
set_option maxHeartbeats 8000000 in
theorem RSame_main (B : Nat) (A L A2 L2 : Option Addr) (n m c d c2 d2 : Nat) (k : Int) (cs ls cs2 ls2 : List Int) (w : World) (r1 : RdI B w A cs) (r2 : RdI B w L ls) (r3 : RdI B w A2 cs2) (r4 : RdI B w L2 ls2) (hB : B ≤ w.heap.size) (h1 : cs.length = n) (h2 : ls.length = m) (h3 : cs2.length = n) (h4 : ls2.length = m) (hn : n ≤ maxLen) (hm : m ≤ maxLen) :
    Calls Try.prog 14 #[.agg #[.slice A n c, .slice L m d, .int .i64 k], .agg #[.slice A2 n c2, .slice L2 m d2, .int .i64 k]] w fun e w' => e = .returned (.bool (sameB cs ls k cs2 ls2 k)) ∧ Below w.heap.size w w' := by
  obtain ⟨W1, hW1⟩ : ∃ W, W = (w.alloc (.cells #[.slice A n c, .slice L m d, .int .i64 k] 24)).alloc (.cells #[.slice A2 n c2, .slice L2 m d2, .int .i64 k] 24) := ⟨_, rfl⟩
  have hb1 : Below w.heap.size w W1 := by rw [hW1]; exact ((Below.refl _ _).alloc (Nat.le_refl _) _).alloc (by simp) _
  have hg1 : LinAt W1 w.heap.size (.slice A n c) (.slice L m d) k 24 := by rw [hW1]; exact (heap_alloc_old _ _ (by simp)).trans (heap_alloc_new _ _)
  have hg2 : LinAt W1 (w.heap.size + 1) (.slice A2 n c2) (.slice L2 m d2) k 24 := by
    have := heap_alloc_new (w.alloc (.cells #[.slice A n c, .slice L m d, .int .i64 k] 24)) (.cells #[.slice A2 n c2, .slice L2 m d2, .int .i64 k] 24)
    rw [World.size_alloc] at this
    rw [hW1]; exact this
  obtain ⟨x1, x2, x3⟩ := hg1.cells
  obtain ⟨y1, y2, y3⟩ := hg2.cells
  have HW := Lib.hid hW1
  obtain ⟨r, hr⟩ : ∃ r, sameB cs ls k cs2 ls2 k = r := ⟨_, rfl⟩
  rw [hr]
  have HR := Lib.hid hr
  have Hl := Lib.hid (And.intro h1 (And.intro h2 (And.intro h3 h4)))
  have R := Lib.hid (And.intro (r1.below hb1 hB) (And.intro (r2.below hb1 hB) (And.intro (r3.below hb1 hB) (r4.below hb1 hB))))
  have f3 : (k != k) = false := by simp
  have f1 : ((n : Int) != (n : Int)) = false := by simp
  have f1' : (n != n) = false := by simp
  have f2 : ((m : Int) != (m : Int)) = false := by simp
  have f2' : (m != m) = false := by simp
  have hn : n ≤ 9223372036854775807 := by unfold maxLen at hn; omega
  have hm : m ≤ 9223372036854775807 := by unfold maxLen at hm; omega
  rw [hW1] at x1 x2 x3 y1 y2 y3
  clear hW1 hg1 hg2 r1 r2 r3 r4 h1 h2 h3 h4 hr
  go_enter Try.func14, Try.ntmps14
  go_wp2_with fail
  rw [← HW.out]
  rw [← HW.out] at x1 x2 x3 y1 y2 y3
  clear HW f1 f1' f2 f2' f3
  go_loopw [5] (fun i wr => ∃ j q : Nat, j ≤ n ∧ i = .int .i64 j ∧ Hid (cs.take j = cs2.take j) ∧ wr = W1.drewN q) (fun i _ => n - (intOf i).toNat)
  case atStart => exact ⟨0, 0, by omega, rfl, Lib.hid (by simp), rfl⟩
  case round =>
    obtain ⟨j, q, hj, rfl, hpre, rfl⟩ := hrel
    by_cases hlt : j < n
    · have hjx : j < cs.length := by rw [Hl.out.1]; exact hlt
      have hjy : j < cs2.length := by rw [Hl.out.2.2.1]; exact hlt
      obtain ⟨b1, o1, hA1, _, q1⟩ := R.out.1.2 (by omega)
      obtain ⟨b2, o2, hA2, _, q2⟩ := R.out.2.2.1.2 (by omega)
      have hc1 := q1 j hjx
      have hc2 := q2 j hjy
      have hnext : cs[j]?.getD 0 = cs2[j]?.getD 0 → Hid (cs.take (j + 1) = cs2.take (j + 1)) := fun e => Lib.hid (by
        rw [List.take_add_one, List.take_add_one, hpre.out, List.getElem?_eq_getElem hjx, List.getElem?_eq_getElem hjy]
        rw [List.getElem?_eq_getElem hjx, List.getElem?_eq_getElem hjy, Option.getD_some, Option.getD_some] at e
        rw [e])
      have hbad : cs[j]?.getD 0 ≠ cs2[j]?.getD 0 → r = false := fun e => by
        rw [← HR.out]
        cases z : sameB cs ls k cs2 ls2 k with
        | false => rfl
        | true => exact absurd (by rw [(sameB_iff.1 z).1]) e
      cases hA1
      cases hA2
      clear q1 q2 hjx hjy hpre
      generalize cs[j]?.getD 0 = x at *
      generalize cs2[j]?.getD 0 = y at *
      by_cases e : x = y
      · subst e
        have hn2 := hnext rfl
        have f0 : (x != x) = false := by simp
        clear hbad hnext
        go_wp2
        go_quiet (fail)
        go_wp2
        clear f0
        go_roundw
        case rel => exact ⟨j + 1, _, by omega, by go_num, hn2, rfl⟩
        case measure => simp [intOf]; omega
      · have hbad := hbad e
        subst hbad
        have f0 : (x != y) = true := by simpa using e
        clear hnext e
        go_wp2
        go_quiet (fail)
        go_wp2
        go_ret
        exact ⟨rfl, below_drewN (below_drewN hb1 _) _⟩
    · obtain rfl : j = n := by omega
      have E1 : Hid (cs = cs2) := Lib.hid (by
        have := hpre.out
        rwa [List.take_of_length_le (by have := Hl.out.1; omega), List.take_of_length_le (by have := Hl.out.2.2.1; omega)] at this)
      clear hpre
      go_wp2
      go_loopw [6] (fun i wr => ∃ j q : Nat, j ≤ m ∧ i = .int .i64 j ∧ Hid (ls.take j = ls2.take j) ∧ wr = W1.drewN q) (fun i _ => m - (intOf i).toNat)
      case atStart => exact ⟨0, q, by omega, rfl, Lib.hid (by simp), rfl⟩
      case round =>
        obtain ⟨j, q, hj, rfl, hpre, rfl⟩ := hrel
        by_cases hlt : j < m
        · have hjx : j < ls.length := by rw [Hl.out.2.1]; exact hlt
          have hjy : j < ls2.length := by rw [Hl.out.2.2.2]; exact hlt
          obtain ⟨b1, o1, hA1, _, q1⟩ := R.out.2.1.2 (by omega)
          obtain ⟨b2, o2, hA2, _, q2⟩ := R.out.2.2.2.2 (by omega)
          have hc1 := q1 j hjx
          have hc2 := q2 j hjy
          have hnext : ls[j]?.getD 0 = ls2[j]?.getD 0 → Hid (ls.take (j + 1) = ls2.take (j + 1)) := fun e => Lib.hid (by
            rw [List.take_add_one, List.take_add_one, hpre.out, List.getElem?_eq_getElem hjx, List.getElem?_eq_getElem hjy]
            rw [List.getElem?_eq_getElem hjx, List.getElem?_eq_getElem hjy, Option.getD_some, Option.getD_some] at e
            rw [e])
          have hbad : ls[j]?.getD 0 ≠ ls2[j]?.getD 0 → r = false := fun e => by
            rw [← HR.out]
            cases z : sameB cs ls k cs2 ls2 k with
            | false => rfl
            | true => exact absurd (by rw [(sameB_iff.1 z).2.1]) e
          cases hA1
          cases hA2
          clear q1 q2 hjx hjy hpre
          generalize ls[j]?.getD 0 = x at *
          generalize ls2[j]?.getD 0 = y at *
          by_cases e : x = y
          · subst e
            have hn2 := hnext rfl
            have f0 : (x != x) = false := by simp
            clear hbad hnext
            go_wp2
            go_quiet (fail)
            go_wp2
            clear f0
            go_roundw
            case rel => exact ⟨j + 1, _, by omega, by go_num, hn2, rfl⟩
            case measure => simp [intOf]; omega
          · have hbad := hbad e
            subst hbad
            have f0 : (x != y) = true := by simpa using e
            clear hnext e
            go_wp2
            go_quiet (fail)
            go_wp2
            go_ret
            exact ⟨rfl, below_drewN (below_drewN hb1 _) _⟩
        · obtain rfl : j = m := by omega
          have E2 : ls = ls2 := by
            have := hpre.out
            rwa [List.take_of_length_le (by have := Hl.out.2.1; omega), List.take_of_length_le (by have := Hl.out.2.2.2; omega)] at this
          have hT : r = true := by rw [← HR.out]; exact sameB_iff.2 ⟨E1.out, E2, rfl⟩
          subst hT
          clear hpre E2
          go_wp2
          go_ret
          exact ⟨rfl, below_drewN hb1 _⟩
/-- What the reference's Same answers. -/
theorem RSame_any (B : Nat) (A L A2 L2 : Option Addr) (n m n2 m2 c d c2 d2 : Nat) (k k2 : Int) (cs ls cs2 ls2 : List Int) (w : World) (r1 : RdI B w A cs) (r2 : RdI B w L ls) (r3 : RdI B w A2 cs2) (r4 : RdI B w L2 ls2) (hB : B ≤ w.heap.size) (h1 : cs.length = n) (h2 : ls.length = m) (h3 : cs2.length = n2) (h4 : ls2.length = m2) (hn : n ≤ maxLen) (hm : m ≤ maxLen) :
    Calls Try.prog 14 #[.agg #[.slice A n c, .slice L m d, .int .i64 k], .agg #[.slice A2 n2 c2, .slice L2 m2 d2, .int .i64 k2]] w fun e w' => e = .returned (.bool (sameB cs ls k cs2 ls2 k2)) ∧ Below w.heap.size w w' := by
  by_cases h : n ≠ n2 ∨ m ≠ m2 ∨ k ≠ k2
  · exact RSame_head A L A2 L2 n m n2 m2 c d c2 d2 k k2 cs ls cs2 ls2 w h1 h2 h3 h4 h
  · obtain rfl : n = n2 := by omega
    obtain rfl : m = m2 := by omega
    obtain rfl : k = k2 := by omega
    exact RSame_main B A L A2 L2 n m c d c2 d2 k cs ls cs2 ls2 w r1 r2 r3 r4 hB h1 h2 h3 h4 hn hm
end Go.Proofs.Ytoacfjmefoiflaa
