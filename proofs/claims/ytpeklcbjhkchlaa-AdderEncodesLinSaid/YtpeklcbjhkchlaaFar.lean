/- Whether a bit lies outside the literals; equal lists. -/
import Derived.Test.YtpeklcbjhkchlaaBools
import Derived.BigQuiet
namespace Go.Proofs.Ytpeklcbjhkchlaa
open Go.RowKit
set_option maxRecDepth 30000

def farB (x : Int) : Bool := decide (x < -65536) || decide (65536 < x)
theorem far_any (x : Int) (w : World) (hx : Wf x) : Calls Try.prog 35 #[.int .i64 x] w fun e w' => e = .returned (.bool (farB x)) ∧ w = w' := by
  obtain ⟨h1, h2⟩ := hx
  by_cases a : x < -65536
  · have hf : farB x = true := by unfold farB; simp [a]
    rw [hf]
    go_enter Try.func35, Try.ntmps35
    go_wp2_with fail
    go_ret
    exact ⟨rfl, rfl⟩
  · by_cases b : 65536 < x
    · have hf : farB x = true := by unfold farB; simp [b]
      have a' : -65536 ≤ x := by omega
      rw [hf]
      go_enter Try.func35, Try.ntmps35
      go_wp2_with fail
      go_ret
      exact ⟨rfl, rfl⟩
    · have hf : farB x = false := by unfold farB; simp [a, b]
      have a' : -65536 ≤ x := by omega
      have b' : x ≤ 65536 := by omega
      rw [hf]
      go_enter Try.func35, Try.ntmps35
      go_wp2_with fail
      go_ret
      exact ⟨rfl, rfl⟩
set_option maxHeartbeats 2000000 in
theorem Index35 (C : Nat) (D : Option Addr) (m d : Nat) (zs : List Int) (w : World) (hz : RdI C w D zs) (hm : zs.length = m) (hm2 : m ≤ maxLen) :
    Calls Try.prog 57 #[.slice D m d, .func (.func 35) #[] #[]] w fun e w' => ∃ r : Int, e = .returned (.int .i64 r) ∧ decide (0 ≤ r) = zs.any farB ∧ w = w' := by
  have Hl := Lib.hid hm
  have hct : (zs.take m).any farB = zs.any farB := by rw [← hm, List.take_length]
  have Hct := Lib.hid hct
  have hm2 : m ≤ 9223372036854775807 := by unfold maxLen at hm2; omega
  clear hm hct
  go_enter Try.func57, Try.ntmps57
  go_wp2
  go_loopw [5, 8] (fun _ i wr => ∃ j : Nat, j ≤ m ∧ i = .int .i64 j ∧ (zs.take j).any farB = false ∧ w = wr) (fun _ i _ => m - (intOf i).toNat)
  case atStart => exact ⟨0, by omega, rfl, by simp, rfl⟩
  case round =>
    obtain ⟨j, hj, rfl, hno, rfl⟩ := hrel
    by_cases hlt : j < m
    · have hjo : j < zs.length := by rw [Hl.out]; exact hlt
      have hnext := any_take farB zs j hjo
      rw [hno, Bool.false_or] at hnext
      have hyes := any_get farB zs j hjo
      obtain ⟨b, off, rfl, _, hc⟩ := hz.2 (by omega)
      have hc1 := hc j hjo
      rw [List.getElem?_eq_getElem hjo] at hc1
      have hL := far_any zs[j] w (hz.1 _ (List.getElem_mem _))
      clear hc hz hno
      generalize zs[j] = x at *
      clear hjo
      rw [Option.getD_some] at hc1
      cases ht : farB x with
      | true =>
        rw [ht] at hL
        have HL := Lib.hid hL
        have Hy := Lib.hid (hyes ht)
        clear hL hnext hyes ht
        go_wp2_with fail
        refine HL.out.mono ?_
        rintro e w' ⟨rfl, rfl⟩
        go_wp2_with fail
        go_ret
        exact ⟨(j : Int), rfl, by rw [Hy.out]; exact decide_eq_true (by omega), rfl⟩
      | false =>
        rw [ht] at hL hnext
        have HL := Lib.hid hL
        have Hn := Lib.hid hnext
        clear hL hnext hyes ht
        go_wp2_with fail
        refine HL.out.mono ?_
        rintro e w' ⟨rfl, rfl⟩
        go_wp2_with fail
        go_roundw
        case rel => exact ⟨j + 1, by omega, by go_num, Hn.out, trivial⟩
        case measure => simp [intOf]; omega
    · obtain rfl : j = m := by omega
      rw [Hct.out] at hno
      have Hno := Lib.hid hno
      clear hno
      go_wp2_with fail
      go_ret
      exact ⟨-1, rfl, by rw [Hno.out]; rfl, rfl⟩
theorem Contains35 (C : Nat) (D : Option Addr) (m d : Nat) (zs : List Int) (w : World) (hz : RdI C w D zs) (hm : zs.length = m) (hm2 : m ≤ maxLen) :
    Calls Try.prog 34 #[.slice D m d, .func (.func 35) #[] #[]] w fun e w' => e = .returned (.bool (zs.any farB)) ∧ w = w' := by
  have hI := Lib.hid (Index35 C D m d zs w hz hm hm2)
  clear hz hm hm2
  generalize zs.any farB = z at *
  go_enter Try.func34, Try.ntmps34
  go_wp2_with fail
  refine hI.out.mono ?_
  rintro e w' ⟨r, rfl, hd, rfl⟩
  go_wp2_with fail
  go_ret
  exact ⟨rfl, rfl⟩

set_option maxHeartbeats 4000000 in
theorem Ints_any (B C : Nat) (A D : Option Addr) (n c d : Nat) (xs : List Int) (w : World) (hr : RdI B w A xs) (hs : RdI C w D xs) (hl : xs.length = n) (hn : n ≤ maxLen) :
    Calls Try.prog 15 #[.slice A n c, .slice D n d] w fun e w' => e = .returned (.bool true) ∧ ∃ k, w' = w.drewN k := by
  have Hl := Lib.hid hl
  have hn : n ≤ 9223372036854775807 := by unfold maxLen at hn; omega
  clear hl
  go_enter Try.func15, Try.ntmps15
  go_wp2_with fail
  go_loopw [5] (fun i wr => ∃ j k : Nat, j ≤ n ∧ i = .int .i64 j ∧ wr = w.drewN k) (fun i _ => n - (intOf i).toNat)
  case atStart => exact ⟨0, 0, by omega, rfl, rfl⟩
  case round =>
    obtain ⟨q, k3, hq, rfl, rfl⟩ := hrel
    by_cases hqt : q < n
    · have hqo : q < xs.length := by rw [Hl.out]; exact hqt
      obtain ⟨b3, off3, rfl, _, hc3⟩ := hr.2 (by omega)
      have hc4 := hc3 q hqo
      obtain ⟨b5, off5, rfl, _, hc5⟩ := hs.2 (by omega)
      have hd4 := hc5 q hqo
      clear hc3 hc5 hqo hr hs
      generalize xs[q]?.getD 0 = z at *
      go_wp2
      go_quiet (fail)
      go_wp2
      go_roundw
      case rel => exact ⟨q + 1, _, by omega, by go_num, rfl⟩
      case measure => simp [intOf]; omega
    · obtain rfl : q = n := by omega
      clear hr hs
      go_wp2
      go_ret
      exact ⟨rfl, k3, rfl⟩
theorem quiet_more {P : Program} {f : FuncId} {args : Array Value} {w : World} {a n : Nat} {v : Value} (h : Calls P f args (w.drewN (a + n)) fun e w' => e = .returned v ∧ ∃ m, w' = (w.drewN (a + n)).drewN m) :
    Calls P f args (w.drewN (a + n)) fun e w'' => e = .returned v ∧ ∃ m, w'' = w.drewN (a + m) :=
  h.mono fun _ _ ⟨he, m, hm⟩ => ⟨he, n + m, by rw [hm, World.drewN_drewN, Nat.add_assoc]⟩
theorem quiet_still {P : Program} {f : FuncId} {args : Array Value} {w : World} {a n : Nat} {v : Value} (h : Calls P f args (w.drewN (a + n)) fun e w' => e = .returned v ∧ w.drewN (a + n) = w') :
    Calls P f args (w.drewN (a + n)) fun e w'' => e = .returned v ∧ ∃ m, w'' = w.drewN (a + m) :=
  h.mono fun _ _ ⟨he, hm⟩ => ⟨he, n, hm.symm⟩
set_option maxHeartbeats 4000000 in
theorem Lists_any (B C : Nat) (A D : Option Addr) (n c d : Nat) (xss : List (List Int)) (w : World) (hr : RdR B w A xss) (hs : RdR C w D xss) (hl : xss.length = n) (hn : n ≤ maxLen) (hin : ∀ j, j < xss.length → (xss[j]?.getD []).length ≤ maxLen) :
    Calls Try.prog 16 #[.slice A n c, .slice D n d] w fun e w' => e = .returned (.bool true) ∧ ∃ k, w' = w.drewN k := by
  unfold maxLen at hn
  have Hl := Lib.hid hl
  have Hin := Lib.hid hin
  clear hl hin
  go_enter Try.func16, Try.ntmps16
  go_wp2
  go_loopw [5] (fun i wr => ∃ j k : Nat, j ≤ n ∧ i = .int .i64 j ∧ wr = w.drewN k) (fun i _ => n - (intOf i).toNat)
  case atStart => exact ⟨0, 0, by omega, rfl, rfl⟩
  case round =>
    obtain ⟨j, k, hj, rfl, rfl⟩ := hrel
    by_cases hlt : j < n
    · obtain ⟨b, off, rfl, _, hc⟩ := hr (by rw [Hl.out]; omega)
      obtain ⟨E, ec, hc1, hr1⟩ := hc j (by rw [Hl.out]; exact hlt)
      obtain ⟨b2, off2, rfl, _, hc2⟩ := hs (by rw [Hl.out]; omega)
      obtain ⟨E2, ec2, hd1, hs1⟩ := hc2 j (by rw [Hl.out]; exact hlt)
      have hxl : (xss[j]?.getD []).length ≤ maxLen := Hin.out j (by rw [Hl.out]; exact hlt)
      clear hc hc2
      generalize xss[j]?.getD [] = x at *
      go_wp2
      go_quiet ((go_at_call 15; exact quiet_more (Ints_any B C _ _ _ _ _ x _ hr1 hs1 rfl hxl)))
      go_wp2
      go_roundw
      case rel => exact ⟨j + 1, _, by omega, by go_num, rfl⟩
      case measure => simp [intOf]; omega
    · obtain rfl : j = n := by omega
      go_wp2
      go_ret
      exact ⟨rfl, k, rfl⟩
end Go.Proofs.Ytpeklcbjhkchlaa
