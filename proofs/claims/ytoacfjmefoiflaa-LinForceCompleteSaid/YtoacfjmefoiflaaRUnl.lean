/- What the reference's Unlike answers. -/
import Derived.Test.YtoacfjmefoiflaaRHas
namespace Go.Proofs.Ytoacfjmefoiflaa
open Go.RowKit
set_option maxRecDepth 100000

theorem quiet_still {P : Program} {f : FuncId} {args : Array Value} {w : World} {a n : Nat} {v : Value} (h : Calls P f args (w.drewN (a + n)) fun e w' => e = .returned v ∧ w.drewN (a + n) = w') :
    Calls P f args (w.drewN (a + n)) fun e w'' => e = .returned v ∧ ∃ m, w'' = w.drewN (a + m) :=
  h.mono fun _ _ ⟨he, hm⟩ => ⟨he, n, hm.symm⟩
/-- The literal at j is one of N variables, and its variable is new. -/
def goodV (lits : List Int) (N : Int) (j : Nat) : Prop := litB (lits[j]?.getD 0) N = true ∧ lits[j]?.getD 0 ∉ lits.take j ∧ -(lits[j]?.getD 0) ∉ lits.take j
set_option maxHeartbeats 8000000 in
theorem Unlike_any (B m c i0 : Nat) (A : Option Addr) (N : Int) (r : Bool) (ls : List Int) (w : World) (hz : RdI B w A ls) (hB : B ≤ w.heap.size) (hl : ls.length = m) (hm : m ≤ 9223372036854775807) (hmc : m ≤ c) (hN0 : 0 ≤ N) (hN1 : N ≤ 65536)
    (hi : i0 ≤ m) (hok : ∀ j, j < i0 → goodV ls N j) (hE : (i0 = m ∧ r = true) ∨ (i0 < m ∧ r = false ∧ ¬ goodV ls N i0)) :
    Calls Try.prog 31 #[.slice A m c, .int .i64 N] w fun e w' => e = .returned (.bool r) ∧ Below w.heap.size w w' := by
  have HL := Lib.hid hl
  have R := Lib.hid hz
  have Hok := Lib.hid hok
  have HE := Lib.hid hE
  have HB := Lib.hid hB
  have gN : wrap64 (0 - N) = -N := by rw [IntWalk.wrap64_in _ (by omega)]; omega
  have gN' : wrap64 (-N) = -N := IntWalk.wrap64_in _ (by omega)
  have gN2 : IntKind.i64.wrap (0 - N) = -N := by rw [IntWalk.i64_left]; exact gN
  have gN3 : IntKind.i64.wrap (-N) = -N := by rw [IntWalk.i64_left]; exact gN'
  clear hl hz hok hE hB
  go_enter Try.func31, Try.ntmps31
  go_wp2_with fail
  go_loopw [5] (fun i wr => ∃ j q : Nat, j ≤ i0 ∧ i = .int .i64 j ∧ wr = w.drewN q) (fun i _ => m - (intOf i).toNat)
  case atStart => exact ⟨0, 0, by omega, rfl, rfl⟩
  case round =>
    obtain ⟨j, q, hj, rfl, rfl⟩ := hrel
    by_cases hlt : j < m
    · have hjz : j < ls.length := by rw [HL.out]; exact hlt
      have hjc : j ≤ c := by omega
      obtain ⟨b2, o2, hA2, _, q2⟩ := R.out.2 (by omega)
      have hz1 := q2 j hjz
      have hL1 : ∀ W, w = W ∨ (∃ q, W = w.drewN q) → ∀ z, Calls Try.prog 33 #[.slice A j c, .int .i64 z] W fun e w' => e = .returned (.bool (decide (z ∈ ls.take j))) ∧ W = w' := fun W hW z => by
        refine Has_any B j c A z (ls.take j) W ?_ (by rw [List.length_take]; omega) (by omega)
        rcases hW with rfl | ⟨q, rfl⟩
        · exact R.out.take j
        · exact (R.out.take j).drewN q
      have hx := R.out.wf hjz
      obtain ⟨p1, hp1⟩ : ∃ p1, decide (ls[j]?.getD 0 ∈ ls.take j) = p1 := ⟨_, rfl⟩
      obtain ⟨p2, hp2⟩ : ∃ p2, decide (-(ls[j]?.getD 0) ∈ ls.take j) = p2 := ⟨_, rfl⟩
      have H1 := Lib.hid (fun q => hp1 ▸ hL1 (w.drewN q) (.inr ⟨q, rfl⟩) (ls[j]?.getD 0))
      have H2 := Lib.hid (fun q => hp2 ▸ hL1 (w.drewN q) (.inr ⟨q, rfl⟩) (-(ls[j]?.getD 0)))
      clear hL1
      have hgood : goodV ls N j ↔ (litB (ls[j]?.getD 0) N = true ∧ p1 = false ∧ p2 = false) := by
        unfold goodV
        rw [← hp1, ← hp2]
        simp
      clear q2 hjz R hp1 hp2
      have HG := Lib.hid hgood
      clear hgood
      have hjN : (j < i0 ∧ goodV ls N j) ∨ (j = i0 ∧ r = false ∧ ¬ goodV ls N j) := by
        by_cases hji : j < i0
        · exact .inl ⟨hji, Hok.out j hji⟩
        · obtain rfl : j = i0 := by omega
          obtain ⟨_, h2, h3⟩ := HE.out.resolve_left (by omega)
          exact .inr ⟨rfl, h2, h3⟩
      rw [HG.out] at hjN
      clear Hok HE HG
      generalize ls[j]?.getD 0 = x at *
      obtain ⟨hx1, hx2⟩ := hx
      cases hA2
      rcases hjN with ⟨hji, h1, rfl, rfl⟩ | ⟨rfl, rfl, h3⟩
      · obtain ⟨z1, z2, z3⟩ := litB_bound h1
        clear h1
        have e3 : (x == 0) = false := by simp; omega
        have e4 : decide (x < -N) = false := decide_eq_false (by omega)
        have e5 : decide (x > N) = false := decide_eq_false (by omega)
        have e5' : decide (N < x) = false := decide_eq_false (by omega)
        have gx : IntKind.i64.wrap (0 - x) = -x := by rw [IntWalk.i64_left, IntWalk.wrap64_in _ (by omega)]; omega
        have gx' : IntKind.i64.wrap (-x) = -x := by rw [IntWalk.i64_left]; exact IntWalk.wrap64_in _ (by omega)
        go_wp2
        go_quiet ((first | (go_at_call_of 33 (-x); exact quiet_still (H2.out _)) | (go_at_call_of 33 x; exact quiet_still (H1.out _))))
        go_wp2
        clear e3 e4 e5 e5' gx gx'
        go_roundw
        case rel => exact ⟨j + 1, _, by omega, by go_num, rfl⟩
        case measure => simp [intOf]; omega
      · by_cases y0 : x = 0
        · have e3 : (x == 0) = true := by simpa using y0
          clear h3
          go_wp2
          go_quiet ((first | (go_at_call_of 33 (-x); exact quiet_still (H2.out _)) | (go_at_call_of 33 x; exact quiet_still (H1.out _))))
          go_wp2
          go_ret
          exact ⟨rfl, below_drewN (below_drewN (Below.refl _ _) _) _⟩
        · have e3 : (x == 0) = false := by simpa using y0
          by_cases y1 : x < -N
          · have e4 : decide (x < -N) = true := decide_eq_true y1
            clear h3
            go_wp2
            go_quiet ((first | (go_at_call_of 33 (-x); exact quiet_still (H2.out _)) | (go_at_call_of 33 x; exact quiet_still (H1.out _))))
            go_wp2
            go_ret
            exact ⟨rfl, below_drewN (below_drewN (Below.refl _ _) _) _⟩
          · have e4 : decide (x < -N) = false := decide_eq_false y1
            by_cases y2 : N < x
            · have e5 : decide (x > N) = true := decide_eq_true y2
              have e5' : decide (N < x) = true := decide_eq_true y2
              clear h3
              go_wp2
              go_quiet ((first | (go_at_call_of 33 (-x); exact quiet_still (H2.out _)) | (go_at_call_of 33 x; exact quiet_still (H1.out _))))
              go_wp2
              go_ret
              exact ⟨rfl, below_drewN (below_drewN (Below.refl _ _) _) _⟩
            · have e5 : decide (x > N) = false := decide_eq_false y2
              have e5' : decide (N < x) = false := decide_eq_false y2
              have gx : IntKind.i64.wrap (0 - x) = -x := by rw [IntWalk.i64_left, IntWalk.wrap64_in _ (by omega)]; omega
              have gx' : IntKind.i64.wrap (-x) = -x := by rw [IntWalk.i64_left]; exact IntWalk.wrap64_in _ (by omega)
              have hlit : litB x N = true := by unfold litB; simp; omega
              cases p1 with
              | true =>
                clear h3
                go_wp2
                go_quiet ((first | (go_at_call_of 33 (-x); exact quiet_still (H2.out _)) | (go_at_call_of 33 x; exact quiet_still (H1.out _))))
                go_wp2
                go_ret
                exact ⟨rfl, below_drewN (below_drewN (Below.refl _ _) _) _⟩
              | false =>
                cases p2 with
                | true =>
                  clear h3
                  go_wp2
                  go_quiet ((first | (go_at_call_of 33 (-x); exact quiet_still (H2.out _)) | (go_at_call_of 33 x; exact quiet_still (H1.out _))))
                  go_wp2
                  go_ret
                  exact ⟨rfl, below_drewN (below_drewN (Below.refl _ _) _) _⟩
                | false => exact absurd ⟨hlit, rfl, rfl⟩ h3
    · obtain rfl : j = m := by omega
      obtain ⟨_, rfl⟩ := HE.out.resolve_right (by omega)
      clear R Hok
      go_wp2_with fail
      go_ret
      exact ⟨rfl, below_drewN (Below.refl _ _) _⟩
end Go.Proofs.Ytoacfjmefoiflaa
