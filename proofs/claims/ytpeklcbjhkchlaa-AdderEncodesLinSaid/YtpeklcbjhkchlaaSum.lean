/- The walk of Sum. -/
import Derived.Test.YtpeklcbjhkchlaaSumM
import Derived.Test.YtpeklcbjhkchlaaReduce
import Derived.BigQuiet
namespace Go.Proofs.Ytpeklcbjhkchlaa
open Go.RowKit Go.Maps
set_option maxRecDepth 100000

/-- The bits, the clauses, the next variable, the error. -/
def SumRes (w : World) (bits : List Int) (cl : List (List Int)) (a : Nat) (E : Int) (e : Ending) (w' : World) : Prop :=
  ∃ A c B d, e = .returned (.tuple #[.slice A bits.length c, .slice B cl.length d, .int .i64 (a : Int), .int .i64 E]) ∧ bits.length ≤ c ∧ RdI w'.heap.size w' A bits ∧ RdR w'.heap.size w' B cl ∧ Below w.heap.size w w' ∧ ∀ j, j < cl.length → (cl[j]?.getD []).length ≤ maxLen
theorem SumRes.nil (w w' : World) (E : Int) (h : Below w.heap.size w w') : SumRes w [] [] 0 E (.returned (.tuple #[.slice Option.none 0 0, .slice Option.none 0 0, .int .i64 0, .int .i64 E])) w' :=
  ⟨none, 0, none, 0, rfl, Nat.le_refl _, RdI.nil _ _ _, fun h => absurd h (by simp), h, fun j h => absurd h (by simp)⟩
theorem results13 (tm : Array Value) (w : World) : (results Try.f13 tm).run Try.prog w = .ok (.tuple #[tm[6]?.getD undef, tm[7]?.getD undef, tm[8]?.getD undef, tm[9]?.getD undef]) w := by
  have hr : Try.f13.results = #[.tmp 6, .tmp 7, .tmp 8, .tmp 9] := rfl
  simp only [results, hr]
  simp [go_sem]
theorem sum_post {w W : World} {bits : List Int} {cl : List (List Int)} {a : Nat} {E : Int} {tm : Array Value} (h : SumRes w bits cl a E (.returned (.tuple #[tm[6]?.getD undef, tm[7]?.getD undef, tm[8]?.getD undef, tm[9]?.getD undef])) W) :
    bodyPost Try.prog Try.f13 (SumRes w bits cl a E) .ret { tmps := tm, defers := [] } W := bodyPost_ret (results13 tm W) rfl h
theorem sum_nil {w W : World} {E : Int} {tm : Array Value} (hb : Below w.heap.size w W) (h6 : tm[6]?.getD undef = .slice Option.none 0 0) (h7 : tm[7]?.getD undef = .slice Option.none 0 0) (h8 : tm[8]?.getD undef = .int .i64 0) (h9 : tm[9]?.getD undef = .int .i64 E) :
    bodyPost Try.prog Try.f13 (SumRes w [] [] 0 E) .ret { tmps := tm, defers := [] } W := by
  refine sum_post ?_
  rw [h6, h7, h8, h9]
  exact SumRes.nil w W E hb

theorem push_q {ops : Array Oper} {rest : List Oper} {o : Oper} {a : Act} {Q : Exit → Act → World → Prop} {w : World} (hgd : o.guard = none) (s x : Operand)
    (ho : o.op = .call { callee := .builtin .append, args := #[s, x], argTypes := #[22, 22] }) (base : Nat) (v : Value) (zs : List Int) (hs : a.eval s = v) (hq : QI w base v zs) (z : Int) (hz : Wf z) (gx : Nat)
    (hx : a.eval x = .slice (some ⟨gx, 0, none⟩) 1 1) (hcell : w.cell? ⟨gx, 0, none⟩ = some (.int .i64 z)) (hlen : zs.length ≤ 1000000) (hbase : base ≤ w.heap.size)
    (h : ∀ v' w', QI w' base v' (zs ++ [z]) → w.grownBy w' v.ownBlock → (v'.ownBlock = v.ownBlock ∨ ∀ k, v'.ownBlock = some k → w.heap.size ≤ k) → wpList Try.prog ops Q rest (a.put o.dst v') w') : wpList Try.prog ops Q (o :: rest) a w := by
  have hk := step_push (ops := ops) (K := wpList Try.prog ops Q rest) (Q := Q) (E := False) hgd s x ho base v zs hs hq z hz gx hx hcell hlen hbase h
  unfold wpList
  split at hk
  · rename_i hw
    rw [if_pos hw]
    exact .inl hk
  · exact hk.elim

/-- One term that Sum takes. -/
def Ok1 (next : Nat) (x y : Int) : Prop := (0 ≤ x ∧ x ≤ 1099511627776) ∧ y ≠ 0 ∧ -(next : Int) < y ∧ y < next
theorem sum_arg {next : Int} {n1 n2 : Nat} (h : next < 1 ∨ 65537 < next ∨ n1 ≠ n2) (c1 c2 : Nat) (A1 A2 : Option Addr) (w : World) :
    Calls Try.prog 13 #[.slice A1 n1 c1, .slice A2 n2 c2, .int .i64 next] w (SumRes w [] [] 0 1) := by
  by_cases h1 : next < 1
  · clear h
    go_enter Try.func13, Try.ntmps13
    go_wp2_with fail
    exact sum_nil (Below.refl _ _) rfl rfl rfl rfl
  · by_cases h2 : 65537 < next
    · have h1' : 1 ≤ next := by omega
      clear h h1
      go_enter Try.func13, Try.ntmps13
      go_wp2_with fail
      exact sum_nil (Below.refl _ _) rfl rfl rfl rfl
    · have h3 : n1 ≠ n2 := by omega
      have h1' : 1 ≤ next := by omega
      have h2' : next ≤ 65537 := by omega
      have h4 : ((n1 : Int) != (n2 : Int)) = true := by simp; omega
      have h5 : (n1 != n2) = true := by simpa using h3
      clear h h1 h2
      go_enter Try.func13, Try.ntmps13
      go_wp2_with fail
      exact sum_nil (Below.refl _ _) rfl rfl rfl rfl
theorem not_ok1 {next : Nat} {x y : Int} (h : ¬ Ok1 next x y) : x < 0 ∨ (0 ≤ x ∧ 1099511627776 < x) ∨ ((0 ≤ x ∧ x ≤ 1099511627776) ∧ y = 0) ∨ ((0 ≤ x ∧ x ≤ 1099511627776) ∧ y ≠ 0 ∧ y ≤ -(next : Int)) ∨ ((0 ≤ x ∧ x ≤ 1099511627776) ∧ y ≠ 0 ∧ -(next : Int) < y ∧ (next : Int) ≤ y) := by
  unfold Ok1 at h
  by_cases a : x < 0
  · exact .inl a
  · by_cases b : 1099511627776 < x
    · exact .inr (.inl ⟨by omega, b⟩)
    · by_cases c : y = 0
      · exact .inr (.inr (.inl ⟨⟨by omega, by omega⟩, c⟩))
      · by_cases d : y ≤ -(next : Int)
        · exact .inr (.inr (.inr (.inl ⟨⟨by omega, by omega⟩, c, d⟩)))
        · refine .inr (.inr (.inr (.inr ⟨⟨by omega, by omega⟩, c, by omega, ?_⟩)))
          by_cases e : (next : Int) ≤ y
          · exact e
          · exact absurd ⟨⟨by omega, by omega⟩, c, by omega, by omega⟩ h
set_option maxHeartbeats 4000000 in
theorem sum_bad (B n c1 c2 next i0 : Nat) (A1 A2 : Option Addr) (xs ls : List Int) (w : World) (r1 : RdI B w A1 xs) (r2 : RdI B w A2 ls) (hl1 : xs.length = n) (hl2 : ls.length = n) (h1 : 1 ≤ next) (h2 : next ≤ 65537) (hi : i0 < n) (hn : n ≤ 9223372036854775807) (hok : ∀ j, j < i0 → Ok1 next (xs[j]?.getD 0) (ls[j]?.getD 0)) (hbad : ¬ Ok1 next (xs[i0]?.getD 0) (ls[i0]?.getD 0)) :
    Calls Try.prog 13 #[.slice A1 n c1, .slice A2 n c2, .int .i64 (next : Int)] w (SumRes w [] [] 0 1) := by
  have Hok := Lib.hid hok
  have Hbad := Lib.hid hbad
  have hw1 := fun j (hj : j < n) => r1.wf (j := j) (by omega)
  have hw2 := fun j (hj : j < n) => r2.wf (j := j) (by omega)
  obtain ⟨b1, o1, hA1, hb1, hc1⟩ := r1.2 (by omega)
  obtain ⟨b2, o2, hA2, hb2, hc2⟩ := r2.2 (by omega)
  subst hA1; subst hA2
  have R := Lib.hid (And.intro (fun j (hj : j < n) => hc1 j (by omega)) (fun j (hj : j < n) => hc2 j (by omega)))
  have Hw := Lib.hid (And.intro hw1 hw2)
  clear r1 r2 hl1 hl2 hok hbad hb1 hc1 hb2 hc2 hw1 hw2
  go_enter Try.func13, Try.ntmps13
  go_wp2_with fail
  go_loopw [31] (fun i wr => ∃ j : Nat, j ≤ i0 ∧ i = .int .i64 j ∧ w = wr) (fun i _ => i0 - (intOf i).toNat)
  case atStart => exact ⟨0, by omega, rfl, rfl⟩
  case round =>
    obtain ⟨j, hj, rfl, rfl⟩ := hrel
    have k1 := R.out.1 j (by omega)
    have k2 := R.out.2 j (by omega)
    have v1 := Hw.out.1 j (by omega)
    have v2 := Hw.out.2 j (by omega)
    have hjn : j < n := by omega
    by_cases hlt : j < i0
    · obtain ⟨⟨x0, x1⟩, y0, y1, y2⟩ := Hok.out j hlt
      clear Hok Hbad R Hw
      generalize xs[j]?.getD 0 = x at *
      generalize ls[j]?.getD 0 = y at *
      have f0 : (y == 0) = false := by simpa using y0
      clear v1 v2 y0
      go_wp2_with fail
      go_roundw
      case rel => exact ⟨j + 1, by omega, by go_num, trivial⟩
      case measure => simp [intOf]; omega
    · obtain rfl : j = i0 := by omega
      have hb := not_ok1 Hbad.out
      clear Hok Hbad R Hw
      generalize xs[j]?.getD 0 = x at *
      generalize ls[j]?.getD 0 = y at *
      obtain ⟨v1a, v1b⟩ := v1
      obtain ⟨v2a, v2b⟩ := v2
      rcases hb with h | h | h | h | h
      · go_wp2_with fail
        exact sum_nil (Below.refl _ _) rfl rfl rfl rfl
      · obtain ⟨h3, h4⟩ := h
        go_wp2_with fail
        exact sum_nil (Below.refl _ _) rfl rfl rfl rfl
      · obtain ⟨⟨h3, h4⟩, rfl⟩ := h
        go_wp2_with fail
        exact sum_nil (Below.refl _ _) rfl rfl rfl rfl
      · obtain ⟨⟨h3, h4⟩, h5, h6⟩ := h
        have f0 : (y == 0) = false := by simpa using h5
        clear h5
        go_wp2_with fail
        exact sum_nil (Below.refl _ _) rfl rfl rfl rfl
      · obtain ⟨⟨h3, h4⟩, h5, h6, h7⟩ := h
        have f0 : (y == 0) = false := by simpa using h5
        clear h5
        go_wp2_with fail
        exact sum_nil (Below.refl _ _) rfl rfl rfl rfl
end Go.Proofs.Ytpeklcbjhkchlaa
