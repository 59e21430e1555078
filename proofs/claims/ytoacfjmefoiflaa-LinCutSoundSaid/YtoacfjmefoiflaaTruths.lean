/- What the reference's Truths answers. -/
import Derived.Test.YtoacfjmefoiflaaBits
namespace Go.Proofs.Ytoacfjmefoiflaa
open Go.ChangeShapes Go.WideShapes Go.ChangeAt Go.RowKit
set_option maxRecDepth 100000

def trK (p : Int) (n j : Nat) : List Bool := tru p j ++ List.replicate (n - j) false
theorem trK_len (p : Int) (n j : Nat) (h : j ≤ n) : (trK p n j).length = n + 1 := by unfold trK; rw [List.length_append, tru_len, List.length_replicate]; omega
theorem trK_zero (p : Int) (n : Nat) : trK p n 0 = List.replicate (n + 1) false := rfl
theorem trK_end (p : Int) (n : Nat) : trK p n n = tru p n := by unfold trK; rw [Nat.sub_self]; exact List.append_nil _
theorem trK_set (p : Int) (n j : Nat) (h : j < n) : (trK p n j).set (j + 1) (tb p j) = trK p n (j + 1) := by
  unfold trK
  rw [List.set_append_right _ _ (by rw [tru_len]; omega), tru_len, Nat.sub_self, show n - j = (n - (j + 1)) + 1 by omega, List.replicate_succ, List.set_cons_zero, tru, List.append_assoc]
  rfl

theorem made_zero (n : Nat) : (List.replicate (n + 1) false).map Value.bool = (madeCells #[Value.bool false] (n + 1)).toList := by
  rw [toList_madeCells_one, List.map_replicate]
set_option maxHeartbeats 4000000 in
theorem Truths_any (n : Nat) (p : Int) (w : World) (hn : n ≤ 60) (hp : Wf p) :
    Calls Try.prog 29 #[.int .i64 (n : Int), .int .i64 p] w fun e w' => e = .returned (.slice (some ⟨w.heap.size, 0, none⟩) (n + 1) (n + 1)) ∧ RowB w' w.heap.size w.heap.size (tru p n) ∧ Below w.heap.size w w' := by
  obtain ⟨i0, hi, hz0, hz1, hz2⟩ := info_parts info4
  obtain ⟨hp1, hp2⟩ := hp
  go_enter Try.func29, Try.ntmps29
  go_wp2_with (at_make; refine wpList_make_full _ rfl _ _ 32 rfl w.heap.size 4 i0 (.bool false) 1 underlying32' hi hz0 hz1 .i64 .i64 _ _ (n + 1) rfl rfl ?c1 ?c2 ?c3 ?c4 ?c5 ?_)
  case c1 => omega
  case c2 => omega
  case c3 => rw [hz2]; omega
  case c4 => unfold maxLen; omega
  case c5 => omega
  intro w1 hown hg1
  have hb1 : Below w.heap.size w w1 := (Below.refl _ w).grown hg1 (Nat.le_refl _) (fun k hk => by cases hk)
  have hrow : RowB w1 w.heap.size w.heap.size (trK p n 0) := by
    unfold RowB
    rw [trK_len p n 0 (by omega), trK_zero, made_zero]; exact hown
  clear hown hg1 hi hz0 hz1 hz2
  go_wp2_with fail
  go_loopw [6] (fun i wr => ∃ j : Nat, j ≤ n ∧ i = .int .i64 ((j + 1 : Nat) : Int) ∧ RowB wr w.heap.size w.heap.size (trK p n j) ∧ Below w.heap.size w wr) (fun i _ => n + 1 - (intOf i).toNat)
  case atStart => exact ⟨0, by omega, rfl, hrow, hb1⟩
  case round =>
    obtain ⟨j, hj, rfl, hrow, hb⟩ := hrel
    by_cases hlt : j < n
    · have hjp : j + 1 < (trK p n j).length := by rw [trK_len p n j hj]; omega
      have hc2 := hrow.cell hjp
      have hf2 := hrow.frozen (j + 1)
      have hnew := hrow.set (j + 1) (tb p j)
      rw [trK_set p n j hlt] at hnew
      have hbn := hb.setCell (p := ⟨w.heap.size, j + 1, none⟩) (Nat.le_refl _) (.bool (tb p j))
      have Hnew := Lib.hid (And.intro hnew hbn)
      have hmin : min j 64 = j := by omega
      have e1 : ((j + 1 : Nat) : Int) - 1 = (j : Int) := by omega
      have htb : (bits BinOp.and IntKind.i64 (p / 2 ^ j) 1 == 1) = tb p j := rfl
      generalize (trK p n j)[j + 1]?.getD false = y at *
      clear hnew hbn hrow hb hjp
      generalize tb p j = z at *
      go_wp2
      go_roundw
      case rel => exact ⟨j + 1, by omega, by go_num, Hnew.out.1, Hnew.out.2⟩
      case measure => simp [intOf]; omega
    · obtain rfl : j = n := by omega
      rw [trK_end] at hrow
      have fin := Lib.hid (And.intro hrow hb)
      clear hrow hb
      go_wp2
      go_ret
      exact ⟨rfl, fin.out⟩
end Go.Proofs.Ytoacfjmefoiflaa
