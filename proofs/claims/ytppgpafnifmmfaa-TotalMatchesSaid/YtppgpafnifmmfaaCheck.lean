/- cnf.Check answers OK for clauses of literals within the variables; TotalValid where it leaves early. -/
import Derived.Test.YtppgpafnifmmfaaShift
import Derived.Test.YtppgpafnifmmfaaValidM
namespace Go.Proofs.Ytppgpafnifmmfaa
open Go.ChangeShapes Go.WideShapes Go.ChangeAt Go.RowKit

theorem literal_any (v : Nat) (x n : Int) (w : World) (h : Lit v x) (hn : n = (v : Int) - 1) (h1 : 1 ≤ v) (h2 : v ≤ 65537) :
    Calls Try.prog 29 #[.int .i64 x, .int .i64 n] w fun e w' => e = .returned (.bool true) ∧ w = w' := by
  obtain ⟨a, b, c⟩ := h
  subst hn
  have e1 : (x != 0) = true := by simp [a]
  have e2 : decide (x ≤ (v : Int) - 1) = true := decide_eq_true (by omega)
  go_enter Try.func29, Try.ntmps29
  go_wp2
  go_ret
  exact ⟨rfl, rfl⟩

set_option maxRecDepth 30000 in
set_option maxHeartbeats 4000000 in
theorem Check_ok (B : Nat) (A : Option Addr) (v n c : Nat) (N : Int) (cl : List (List Int)) (w : World) (hr : RdR B w A cl) (hB : B ≤ w.heap.size) (hl : cl.length = n) (hn : n ≤ 65536) (hv : N = (v : Int) - 1) (h1 : 1 ≤ v) (h2 : v ≤ 65537)
    (hg : ∀ j, j < cl.length → (cl[j]?.getD []).length ≤ maxLen) (hlit : ∀ x ∈ cl, ∀ y ∈ x, Lit v y) :
    Calls Try.prog 19 #[.agg #[.int .i64 N, .slice A n c]] w fun e w' => e = .returned (.int .i64 0) ∧ Below w.heap.size w w' := by
  have hb1 := (Below.refl w.heap.size w).alloc (Nat.le_refl _) (.cells #[.int .i64 N, .slice A n c] 40)
  have Hb := Lib.hid hb1
  have Hl := Lib.hid hl
  have Hv := Lib.hid hv
  have Hg := Lib.hid hg
  have Hlit := Lib.hid hlit
  have f1 : ¬ N < 0 := by omega
  have f2 : N ≤ 65536 := by omega
  clear hl hv hg hlit hb1
  go_enter Try.func19, Try.ntmps19
  go_wp2_with fail
  obtain ⟨W1, hW1⟩ : ∃ W, W = w.alloc (.cells #[.int .i64 N, .slice A n c] 40) := ⟨_, rfl⟩
  rw [← hW1]
  have cN : W1.cell? ⟨w.heap.size, 0, none⟩ = some (.int .i64 N) := by
    have := cell_of_row W1 w.heap.size 0 #[.int .i64 N, .slice A n c] 40 (0, 0) (by rw [hW1]; exact heap_alloc_new _ _)
    rw [this]; rfl
  have cL : W1.cell? ⟨w.heap.size, 1, none⟩ = some (.slice A n c) := by
    have := cell_of_row W1 w.heap.size 1 #[.int .i64 N, .slice A n c] 40 (0, 0) (by rw [hW1]; exact heap_alloc_new _ _)
    rw [this]; rfl
  have hb := Hb.out
  rw [← hW1] at hb
  clear Hb hW1
  have hr := hr.below hb hB
  go_loopw [18] (fun i wr => ∃ j : Nat, j ≤ n ∧ i = .int .i64 j ∧ W1 = wr) (fun i _ => n - (intOf i).toNat)
  case atStart => exact ⟨0, by omega, rfl, rfl⟩
  case round =>
    obtain ⟨j, hj, rfl, rfl⟩ := hrel
    by_cases hlt : j < n
    · have hjo : j < cl.length := by rw [Hl.out]; exact hlt
      obtain ⟨b, off, rfl, _, hc⟩ := hr (by omega)
      obtain ⟨E, ec, hc1, hr1⟩ := hc j hjo
      have hxl := Hg.out j hjo
      have hmem : cl[j]?.getD [] ∈ cl := by rw [List.getElem?_eq_getElem hjo]; exact List.getElem_mem _
      have hlj := Hlit.out _ hmem
      clear hc hr hmem hjo
      generalize cl[j]?.getD [] = x at *
      obtain ⟨L, hL⟩ : ∃ L, x.length = L := ⟨_, rfl⟩
      rw [hL] at hc1 hxl
      have HL := Lib.hid hL
      have hlj := Lib.hid hlj
      clear hL
      have hxl : L ≤ 9223372036854775807 := by unfold maxLen at hxl; omega
      go_wp2_with fail
      go_loopw [24] (fun i' wr => ∃ q : Nat, q ≤ L ∧ i' = .int .i64 q ∧ W1 = wr) (fun i' _ => L - (intOf i').toNat)
      case atStart => exact ⟨0, by omega, rfl, rfl⟩
      case round =>
        obtain ⟨q, hq, rfl, rfl⟩ := hrel
        by_cases hqt : q < L
        · have hqo : q < x.length := by rw [HL.out]; exact hqt
          obtain ⟨b3, off3, rfl, _, hc3⟩ := hr1.2 (by omega)
          have hc4 := hc3 q hqo
          have hlit := hlj.out (x[q]?.getD 0) (by rw [List.getElem?_eq_getElem hqo]; exact List.getElem_mem _)
          clear hc3 hr1 hqo
          generalize x[q]?.getD 0 = y at hc4 hlit
          have hM := Lib.hid (fun W => literal_any v y N W hlit Hv.out h1 h2)
          go_wp2_with fail
          refine (hM.out _).mono ?_
          rintro e w' ⟨rfl, rfl⟩
          go_wp2_with fail
          go_roundw
          case rel => exact ⟨q + 1, by omega, by go_num, trivial⟩
          case measure => simp [intOf]; omega
        · obtain rfl : q = L := by omega
          clear hr1 hq hqt
          go_wp2_with fail
          go_roundw
          case rel => exact ⟨j + 1, by omega, by go_num, trivial⟩
          case measure => simp [intOf]; omega
    · obtain rfl : j = n := by omega
      go_wp2
      go_ret
      exact ⟨rfl, hb⟩

set_option maxHeartbeats 4000000 in
theorem valid_out (A : Option Addr) (n c : Nat) (most next : Int) (w : World) (h : 40 < n) :
    Calls Try.prog 6 #[.slice A n c, .int .i64 most, .int .i64 next] w fun e w' => e = .returned (.bool true) ∧ Below w.heap.size w w' := by
  go_enter Try.func6, Try.ntmps6
  go_wp2_with fail
  refine (live_any w).mono ?_
  rintro e w1 ⟨rfl, hb1⟩
  go_wp2_with fail
  go_ret
  exact ⟨rfl, hb1⟩
set_option maxHeartbeats 4000000 in
theorem valid_err (A : Option Addr) (n c : Nat) (most next k : Int) (zs : List Int) (w : World) (hr : RdI w.heap.size w A zs) (hn : n ≤ 40) (hk : k ≠ 0)
    (hT : ∀ W : World, RdI W.heap.size W A zs → Calls Try.prog 11 #[.slice A n c, .int .i64 most, .int .i64 next] W (TotErr W k)) :
    Calls Try.prog 6 #[.slice A n c, .int .i64 most, .int .i64 next] w fun e w' => e = .returned (.bool true) ∧ Below w.heap.size w w' := by
  go_enter Try.func6, Try.ntmps6
  go_wp2_with fail
  refine (live_any w).mono ?_
  rintro e w1 ⟨rfl, hb1⟩
  go_wp2_with fail
  refine (hT w1 (hr.below hb1 (Nat.le_refl _) |>.more hb1.size)).mono ?_
  rintro e w2 ⟨rfl, hb2⟩
  have hb12 := hb1.trans (hb2.mono hb1.size)
  go_wp2_with fail
  go_ret
  exact ⟨rfl, hb12⟩
end Go.Proofs.Ytppgpafnifmmfaa
