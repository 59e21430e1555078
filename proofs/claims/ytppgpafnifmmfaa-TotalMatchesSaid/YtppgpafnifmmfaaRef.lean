/- The reference's Total: every way. -/
import Derived.Test.YtppgpafnifmmfaaRCnt
namespace Go.Proofs.Ytppgpafnifmmfaa
open Go.ChangeShapes Go.WideShapes Go.ChangeAt Go.RowKit

/-- Outputs, clauses, the next variable, the error. -/
def TotRes (w : World) (outs : List Int) (cl : List (List Int)) (a : Nat) (k : Int) (e : Ending) (w' : World) : Prop :=
  ∃ A1 c1 A2 c2, e = .returned (.tuple #[.slice A1 outs.length c1, .slice A2 cl.length c2, .int .i64 (a : Int), .int .i64 k]) ∧ RdI w'.heap.size w' A1 outs ∧ RdR w'.heap.size w' A2 cl ∧ Below w.heap.size w w' ∧ ∀ j, j < cl.length → (cl[j]?.getD []).length ≤ maxLen
theorem TotErr.res {w w' : World} {k : Int} {e : Ending} (h : TotErr w k e w') : TotRes w [] [] 0 k e w' := ⟨_, _, _, _, h.1, RdI.nil _ _ _, fun q => absurd q (by simp), h.2, fun j q => absurd q (by simp)⟩
theorem TotOk.res {w w' : World} {outs : List Int} {cl : List (List Int)} {a : Nat} {e : Ending} (h : TotOk w outs cl a e w') : TotRes w outs cl a 0 e w' := by
  obtain ⟨A1, c1, A2, c2, q1, q2, q3, q4, q5⟩ := h.read2
  exact ⟨A1, c1, A2, c2, q1, q2, q3, q4, q5⟩
theorem Cls.res {w : World} {base : Nat} {v : Value} {cl : List (List Int)} (h : Cls w base v cl) : ∃ A c, v = .slice A cl.length c ∧ RdR w.heap.size w A cl ∧ ∀ j, j < cl.length → (cl[j]?.getD []).length ≤ maxLen := by
  obtain ⟨A, c, e, hr⟩ := h.shape
  refine ⟨A, c, e, hr, fun j hj => ?_⟩
  obtain ⟨vs, _, hels⟩ := h
  obtain ⟨x, _, hrow⟩ := hels.2 j hj
  obtain ⟨_, _, _, q1, q2, _⟩ := hrow.shape
  omega
theorem results12 (tm : Array Value) (w : World) : (results Try.f12 tm).run Try.prog w = .ok (.tuple #[tm[6]?.getD undef, tm[7]?.getD undef, tm[8]?.getD undef, tm[9]?.getD undef]) w := by
  have hr : Try.f12.results = #[.tmp 6, .tmp 7, .tmp 8, .tmp 9] := rfl
  simp only [results, hr]
  simp [go_sem]
theorem ref_post {w W : World} {outs : List Int} {cl : List (List Int)} {a : Nat} {k : Int} {tm : Array Value} (h : TotRes w outs cl a k (.returned (.tuple #[tm[6]?.getD undef, tm[7]?.getD undef, tm[8]?.getD undef, tm[9]?.getD undef])) W) :
    bodyPost Try.prog Try.f12 (TotRes w outs cl a k) .ret { tmps := tm, defers := [] } W := bodyPost_ret (results12 tm W) rfl h
theorem ref_err {w W : World} {a : Nat} {k : Int} {tm : Array Value} (hb : Below w.heap.size w W) (h6 : tm[6]?.getD undef = .slice Option.none 0 0) (h7 : tm[7]?.getD undef = .slice Option.none 0 0) (h8 : tm[8]?.getD undef = .int .i64 (a : Int)) (h9 : tm[9]?.getD undef = .int .i64 k) :
    bodyPost Try.prog Try.f12 (TotRes w [] [] a k) .ret { tmps := tm, defers := [] } W := by
  refine ref_post ?_
  rw [h6, h7, h8, h9]
  exact ⟨Option.none, 0, Option.none, 0, rfl, RdI.nil _ _ _, fun q => absurd q (by simp), hb, fun j q => absurd q (by simp)⟩

theorem Ref_arg (A : Option Addr) (n c : Nat) (most next : Int) (w : World) (h : next < 1 ∨ 65537 < next ∨ most < 0 ∨ 1099511627776 < most) :
    Calls Try.prog 12 #[.slice A n c, .int .i64 most, .int .i64 next] w (TotRes w [] [] 0 1) := by
  have hp := fun tm => ref_err (a := 0) (k := 1) (tm := tm) (Below.refl w.heap.size w)
  have Hp := Lib.hid hp
  clear hp
  by_cases h1 : next < 1
  · clear h
    go_enter Try.func12, Try.ntmps12
    go_wp2
    refine Hp.out _ ?_ ?_ ?_ ?_ <;> rfl
  · by_cases h2 : 65537 < next
    · clear h h1
      go_enter Try.func12, Try.ntmps12
      go_wp2
      refine Hp.out _ ?_ ?_ ?_ ?_ <;> rfl
    · by_cases h3 : most < 0
      · have h1' : 1 ≤ next := by omega
        have h2' : next ≤ 65537 := by omega
        clear h h1 h2
        go_enter Try.func12, Try.ntmps12
        go_wp2
        refine Hp.out _ ?_ ?_ ?_ ?_ <;> rfl
      · have h4 : 1099511627776 < most := by omega
        have h1' : 1 ≤ next := by omega
        have h2' : next ≤ 65537 := by omega
        have h3' : 0 ≤ most := by omega
        clear h h1 h2 h3
        go_enter Try.func12, Try.ntmps12
        go_wp2
        refine Hp.out _ ?_ ?_ ?_ ?_ <;> rfl

section
variable (A : Option Addr) (n c M m : Nat) (zs : List Int) (w : World) (hr : RdI w.heap.size w A zs) (hl : zs.length = n) (hn : n ≤ 40) (h1 : 1 ≤ m) (h2 : m ≤ 65537) (hM : M ≤ 1099511627776)
include hr hl hn h1 h2 hM

set_option maxHeartbeats 2000000 in
theorem Ref_lit (hd : Tot.dist (m : Int) [] zs = false) : Calls Try.prog 12 #[.slice A n c, .int .i64 (M : Int), .int .i64 (m : Int)] w (TotRes w [] [] 0 140) := by
  have hD := Lib.hid (Lits_any w.heap.size A n c m zs w hr (Nat.le_refl _) hl (by omega) h1 h2 140 (by rw [hd]; rfl))
  have hp := fun tm W hb => ref_err (a := 0) (k := 140) (tm := tm) (w := w) (W := W) hb
  have Hp := Lib.hid hp
  clear hp hd hr hl
  go_enter Try.func12, Try.ntmps12
  go_wp2_with fail
  refine hD.out.mono ?_
  rintro e w1 ⟨rfl, hb⟩
  go_wp2_with fail
  refine Hp.out _ _ hb ?_ ?_ ?_ ?_ <;> rfl
set_option maxHeartbeats 2000000 in
theorem Ref_zero (hd : Tot.dist (m : Int) [] zs = true) (hz : n = 0 ∨ M = 0) : Calls Try.prog 12 #[.slice A n c, .int .i64 (M : Int), .int .i64 (m : Int)] w (TotRes w [] [] m 0) := by
  have hD := Lib.hid (Lits_any w.heap.size A n c m zs w hr (Nat.le_refl _) hl (by omega) h1 h2 0 (by rw [hd]; rfl))
  have hp := fun tm W hb => ref_err (a := m) (k := 0) (tm := tm) (w := w) (W := W) hb
  have Hp := Lib.hid hp
  clear hp hd hr hl
  by_cases h0 : n = 0
  · subst h0
    clear hz
    go_enter Try.func12, Try.ntmps12
    go_wp2_with fail
    refine hD.out.mono ?_
    rintro e w1 ⟨rfl, hb⟩
    go_wp2_with fail
    refine Hp.out _ _ hb ?_ ?_ ?_ ?_ <;> rfl
  · obtain rfl : M = 0 := by omega
    have d0 : ((n : Int) == 0) = false := beq_eq_false_iff_ne.mpr (by omega)
    clear hz
    go_enter Try.func12, Try.ntmps12
    go_wp2_with fail
    refine hD.out.mono ?_
    rintro e w1 ⟨rfl, hb⟩
    go_wp2_with fail
    refine Hp.out _ _ hb ?_ ?_ ?_ ?_ <;> rfl
set_option maxHeartbeats 2000000 in
theorem Ref_bound (hd : Tot.dist (m : Int) [] zs = true) (hn0 : 1 ≤ n) (hM0 : 1 ≤ M) (hs : 65537 < m + Tot.size M n) : Calls Try.prog 12 #[.slice A n c, .int .i64 (M : Int), .int .i64 (m : Int)] w (TotRes w [] [] 0 2) := by
  have hD := Lib.hid (Lits_any w.heap.size A n c m zs w hr (Nat.le_refl _) hl (by omega) h1 h2 0 (by rw [hd]; rfl))
  have hV := fun W => vars_any n n M W (Nat.le_refl _) hn0 (by omega) hM
  have hsz := Nat.le_trans (size_le M n n (Nat.le_refl _)) (Nat.mul_le_mul hn hn)
  have hp := fun tm W hb => ref_err (a := 0) (k := 2) (tm := tm) (w := w) (W := W) hb
  have Hp := Lib.hid hp
  have d0 : ((n : Int) == 0) = false := beq_eq_false_iff_ne.mpr (by omega)
  have d1 : ((M : Int) == 0) = false := beq_eq_false_iff_ne.mpr (by omega)
  clear hp hd hr hl
  generalize Tot.size M n = s at *
  have HV := Lib.hid hV
  clear hV
  have d2 : decide ((65537 : Int) < (m : Int) + (s : Int)) = true := decide_eq_true (by omega)
  go_enter Try.func12, Try.ntmps12
  go_wp2_with fail
  refine hD.out.mono ?_
  rintro e w1 ⟨rfl, hb⟩
  go_wp2_with fail
  refine (HV.out _).mono ?_
  rintro e w' ⟨rfl, rfl⟩
  go_wp2_with fail
  refine Hp.out _ _ hb ?_ ?_ ?_ ?_ <;> rfl
set_option maxHeartbeats 4000000 in
theorem Ref_ok (hnc : n ≤ c) (hz : ∀ x ∈ zs, -65537 ≤ x ∧ x ≤ 65537) (hd : Tot.dist (m : Int) [] zs = true) (hn0 : 1 ≤ n) (hM0 : 1 ≤ M) (hs : m + Tot.size M n ≤ 65537) : Calls Try.prog 12 #[.slice A n c, .int .i64 (M : Int), .int .i64 (m : Int)] w (TotRes w (Tot.cnt M zs m).1 (Tot.cnt M zs m).2 (m + Tot.size M n) 0) := by
  have hD := Lib.hid (Lits_any w.heap.size A n c m zs w hr (Nat.le_refl _) hl (by omega) h1 h2 0 (by rw [hd]; rfl))
  have hV := fun W => vars_any n n M W (Nat.le_refl _) hn0 (by omega) hM
  have hsz := Nat.le_trans (size_le M n n (Nat.le_refl _)) (Nat.mul_le_mul hn hn)
  have hC := fun W (hb : Below w.heap.size w W) => Lib.hid (rcount_any n W.heap.size w.heap.size W (.slice Option.none 0 0) [] A n c M m zs (Nat.le_refl _) (Cls.nil _ _) (Nat.le_refl _) (hr.below hb (Nat.le_refl _)) hb.size hl hn0 hn hnc hM0 hM hz hs (by have := Nat.mul_le_mul (Nat.le_refl 882) (show n - 1 ≤ 39 by omega); simp; omega))
  have d0 : ((n : Int) == 0) = false := beq_eq_false_iff_ne.mpr (by omega)
  have d1 : ((M : Int) == 0) = false := beq_eq_false_iff_ne.mpr (by omega)
  have hfin : ∀ e W w', RCnt W.heap.size W M zs m [] e w' → ∃ A1 L1 c1 A2 L2 c2, e = .returned (.tuple #[.agg #[.slice A1 L1 c1, .int .i64 ((m + Tot.size M n : Nat) : Int)], .slice A2 L2 c2]) ∧ Below W.heap.size W w' ∧ ∀ w'', Below w'.heap.size w' w'' → Below w.heap.size w w'' → TotRes w (Tot.cnt M zs m).1 (Tot.cnt M zs m).2 (m + Tot.size M n) 0 (.returned (.tuple #[.slice A2 L2 c2, .slice A1 L1 c1, .int .i64 ((m + Tot.size M n : Nat) : Int), .int .i64 0])) w'' := by
    rintro e W w' ⟨v', vo, rfl, q1, q2, q3⟩
    rw [hl]
    rw [List.nil_append] at q1
    obtain ⟨A1, c1, rfl, hrr, hlen⟩ := q1.res
    obtain ⟨A2, c2, rfl, _, _, hri⟩ := q2.shape
    refine ⟨_, _, _, _, _, _, rfl, q3.low, fun w'' hb hbw => ⟨_, _, _, _, rfl, (hri.below hb (Nat.le_refl _)).more hb.size, ?_, hbw, hlen⟩⟩
    have hrr2 := hrr.below hb (Nat.le_refl _)
    intro hp
    obtain ⟨b, off, e, hlt, hc⟩ := hrr2 hp
    refine ⟨b, off, e, Nat.lt_of_lt_of_le hlt hb.size, fun j hj => ?_⟩
    obtain ⟨E, cc, g1, g2⟩ := hc j hj
    exact ⟨E, cc, g1, g2.more hb.size⟩
  have Hfin := Lib.hid hfin
  clear hd hr hl hfin hz
  generalize (Tot.cnt M zs m).1 = outs at *
  generalize (Tot.cnt M zs m).2 = cl at *
  generalize Tot.size M n = s at *
  have HV := Lib.hid hV
  clear hV
  have d2 : decide ((65537 : Int) < (m : Int) + (s : Int)) = false := decide_eq_false (by omega)
  go_enter Try.func12, Try.ntmps12
  go_wp2_with fail
  refine hD.out.mono ?_
  rintro e w1 ⟨rfl, hb⟩
  go_wp2_with fail
  refine (HV.out _).mono ?_
  rintro e w' ⟨rfl, rfl⟩
  go_wp2_with fail
  refine (hC w1 hb).out.mono ?_
  intro e w2 q
  obtain ⟨A1, L1, c1, A2, L2, c2, rfl, hb2, hres⟩ := Hfin.out _ _ _ q
  clear q
  have Hres := Lib.hid hres
  have hb12 := hb.trans (hb2.mono hb.size)
  clear hres hC
  go_wp2_with fail
  go_quiet (fail)
  go_wp2_with fail
  refine ref_post ?_
  have hal := (Below.refl w2.heap.size w2).alloc (Nat.le_refl _) (.cells #[.slice A1 L1 c1, .int .i64 ((m + s : Nat) : Int)] 51)
  exact Hres.out _ (below_drewN hal _) (below_drewN (hb12.trans (hal.mono hb12.size)) _)
end
end Go.Proofs.Ytppgpafnifmmfaa
