/- Equal lists: what slices.Equal and the reference's Ints answer. -/
import Derived.Test.YtoacfjmefoiflaaBase
import Derived.BigQuiet
namespace Go.Proofs.Ytoacfjmefoiflaa
open Go.RowKit
set_option maxRecDepth 30000

set_option maxHeartbeats 4000000 in
theorem Equal_any (B C : Nat) (A D : Option Addr) (n m c d : Nat) (xs ys : List Int) (w : World) (hr : RdI B w A xs) (hs : RdI C w D ys) (hl : xs.length = n) (hl2 : ys.length = m) (hn : n ≤ maxLen) :
    Calls Try.prog 44 #[.slice A n c, .slice D m d] w fun e w' => e = .returned (.bool (decide (xs = ys))) ∧ ∃ k, w' = w.drewN k := by
  obtain ⟨r, hR⟩ : ∃ r, decide (xs = ys) = r := ⟨_, rfl⟩
  rw [hR]
  have hn : n ≤ 9223372036854775807 := by unfold maxLen at hn; omega
  by_cases hnm : n = m
  · subst hnm
    have HR := Lib.hid hR
    have Hl := Lib.hid (And.intro hl hl2)
    clear hl hl2 hR
    go_enter Try.func44, Try.ntmps44
    go_wp2_with fail
    go_loopw [13] (fun i wr => ∃ j k : Nat, j ≤ n ∧ i = .int .i64 j ∧ Hid (xs.take j = ys.take j) ∧ wr = w.drewN k) (fun i _ => n - (intOf i).toNat)
    case atStart => exact ⟨0, 0, by omega, rfl, Lib.hid (by simp), rfl⟩
    case round =>
      obtain ⟨q, k3, hq, rfl, hpre, rfl⟩ := hrel
      by_cases hqt : q < n
      · have hqo : q < xs.length := by rw [Hl.out.1]; exact hqt
        have hqy : q < ys.length := by rw [Hl.out.2]; exact hqt
        obtain ⟨b3, off3, rfl, _, hc3⟩ := hr.2 (by omega)
        have hc4 := hc3 q hqo
        obtain ⟨b5, off5, rfl, _, hc5⟩ := hs.2 (by omega)
        have hd4 := hc5 q hqy
        have hnext : xs[q]?.getD 0 = ys[q]?.getD 0 → Hid (xs.take (q + 1) = ys.take (q + 1)) := fun e => Lib.hid (by
          rw [List.take_add_one, List.take_add_one, hpre.out, List.getElem?_eq_getElem hqo, List.getElem?_eq_getElem hqy]
          rw [List.getElem?_eq_getElem hqo, List.getElem?_eq_getElem hqy, Option.getD_some, Option.getD_some] at e
          rw [e])
        have hbad : xs[q]?.getD 0 ≠ ys[q]?.getD 0 → r = false := fun e => by
          rw [← HR.out]; exact decide_eq_false fun h => e (by rw [h])
        clear hc3 hc5 hqo hqy hr hs hpre HR Hl
        generalize xs[q]?.getD 0 = x at *
        generalize ys[q]?.getD 0 = y at *
        by_cases e : x = y
        · subst e
          have hn2 := hnext rfl
          clear hbad hnext
          go_wp2
          go_quiet (fail)
          go_wp2
          go_roundw
          case rel => exact ⟨q + 1, _, by omega, by go_num, hn2, rfl⟩
          case measure => simp [intOf]; omega
        · have hbad := hbad e
          subst hbad
          have f1 : (x != y) = true := by simpa using e
          clear hnext e
          go_wp2
          go_quiet (fail)
          go_wp2
          go_ret
          exact ⟨rfl, _, World.drewN_drewN ..⟩
      · obtain rfl : q = n := by omega
        have h1 : xs = ys := by
          have := hpre.out
          rwa [List.take_of_length_le (by have := Hl.out.1; omega), List.take_of_length_le (by have := Hl.out.2; omega)] at this
        have h2 : r = true := by rw [← HR.out]; exact decide_eq_true h1
        subst h2
        clear hr hs HR Hl hpre h1
        go_wp2
        go_ret
        exact ⟨rfl, k3, rfl⟩
  · have h2 : r = false := by rw [← hR]; exact decide_eq_false fun h => hnm (by rw [← hl, ← hl2, h])
    subst h2
    have f1 : ((n : Int) != (m : Int)) = true := by simp; omega
    have f2 : (n != m) = true := by simp; omega
    clear hr hs hR hl hl2 hnm
    go_enter Try.func44, Try.ntmps44
    go_wp2_with fail
    go_ret
    exact ⟨rfl, 0, rfl⟩
set_option maxHeartbeats 4000000 in
theorem Ints_any (B C : Nat) (A D : Option Addr) (n m c d : Nat) (xs ys : List Int) (w : World) (hr : RdI B w A xs) (hs : RdI C w D ys) (hl : xs.length = n) (hl2 : ys.length = m) (hn : n ≤ maxLen) :
    Calls Try.prog 22 #[.slice A n c, .slice D m d] w fun e w' => e = .returned (.bool (decide (xs = ys))) ∧ ∃ k, w' = w.drewN k := by
  obtain ⟨r, hR⟩ : ∃ r, decide (xs = ys) = r := ⟨_, rfl⟩
  rw [hR]
  have hn : n ≤ 9223372036854775807 := by unfold maxLen at hn; omega
  by_cases hnm : n = m
  · subst hnm
    have HR := Lib.hid hR
    have Hl := Lib.hid (And.intro hl hl2)
    clear hl hl2 hR
    go_enter Try.func22, Try.ntmps22
    go_wp2_with fail
    go_loopw [5] (fun i wr => ∃ j k : Nat, j ≤ n ∧ i = .int .i64 j ∧ Hid (xs.take j = ys.take j) ∧ wr = w.drewN k) (fun i _ => n - (intOf i).toNat)
    case atStart => exact ⟨0, 0, by omega, rfl, Lib.hid (by simp), rfl⟩
    case round =>
      obtain ⟨q, k3, hq, rfl, hpre, rfl⟩ := hrel
      by_cases hqt : q < n
      · have hqo : q < xs.length := by rw [Hl.out.1]; exact hqt
        have hqy : q < ys.length := by rw [Hl.out.2]; exact hqt
        obtain ⟨b3, off3, rfl, _, hc3⟩ := hr.2 (by omega)
        have hc4 := hc3 q hqo
        obtain ⟨b5, off5, rfl, _, hc5⟩ := hs.2 (by omega)
        have hd4 := hc5 q hqy
        have hnext : xs[q]?.getD 0 = ys[q]?.getD 0 → Hid (xs.take (q + 1) = ys.take (q + 1)) := fun e => Lib.hid (by
          rw [List.take_add_one, List.take_add_one, hpre.out, List.getElem?_eq_getElem hqo, List.getElem?_eq_getElem hqy]
          rw [List.getElem?_eq_getElem hqo, List.getElem?_eq_getElem hqy, Option.getD_some, Option.getD_some] at e
          rw [e])
        have hbad : xs[q]?.getD 0 ≠ ys[q]?.getD 0 → r = false := fun e => by
          rw [← HR.out]; exact decide_eq_false fun h => e (by rw [h])
        clear hc3 hc5 hqo hqy hr hs hpre HR Hl
        generalize xs[q]?.getD 0 = x at *
        generalize ys[q]?.getD 0 = y at *
        by_cases e : x = y
        · subst e
          have hn2 := hnext rfl
          clear hbad hnext
          go_wp2
          go_quiet (fail)
          go_wp2
          go_roundw
          case rel => exact ⟨q + 1, _, by omega, by go_num, hn2, rfl⟩
          case measure => simp [intOf]; omega
        · have hbad := hbad e
          subst hbad
          have f1 : (x != y) = true := by simpa using e
          clear hnext e
          go_wp2
          go_quiet (fail)
          go_wp2
          go_ret
          exact ⟨rfl, _, World.drewN_drewN ..⟩
      · obtain rfl : q = n := by omega
        have h1 : xs = ys := by
          have := hpre.out
          rwa [List.take_of_length_le (by have := Hl.out.1; omega), List.take_of_length_le (by have := Hl.out.2; omega)] at this
        have h2 : r = true := by rw [← HR.out]; exact decide_eq_true h1
        subst h2
        clear hr hs HR Hl hpre h1
        go_wp2
        go_ret
        exact ⟨rfl, k3, rfl⟩
  · have h2 : r = false := by rw [← hR]; exact decide_eq_false fun h => hnm (by rw [← hl, ← hl2, h])
    subst h2
    have f1 : ((n : Int) != (m : Int)) = true := by simp; omega
    have f2 : (n != m) = true := by simp; omega
    clear hr hs hR hl hl2 hnm
    go_enter Try.func22, Try.ntmps22
    go_wp2_with fail
    go_ret
    exact ⟨rfl, 0, rfl⟩
end Go.Proofs.Ytoacfjmefoiflaa
