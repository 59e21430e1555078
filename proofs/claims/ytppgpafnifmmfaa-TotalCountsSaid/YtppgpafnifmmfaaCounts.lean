/- For every slice of integers, every limit, every first new variable and every slice of bools, the law TotalCounts answers true at the landed code and changes nothing that came in: where all clauses hold under the assignment, output i is true just where more than i of the literals are. Conditions: those of the statement alone. -/
import Derived.Test.YtppgpafnifmmfaaOpenB
namespace Go.Proofs.Ytppgpafnifmmfaa
open Go.ChangeShapes Go.WideShapes Go.ChangeAt Go.RowKit

set_option maxHeartbeats 4000000 in
theorem counts_out (A D : Option Addr) (n c m d : Nat) (most next : Int) (w : World) (h : 20 < n ∨ 3000 < m ∨ 2000 < next) :
    Calls Try.prog 4 #[.slice A n c, .int .i64 most, .int .i64 next, .slice D m d] w fun e w' => e = .returned (.bool true) ∧ Below w.heap.size w w' := by
  by_cases h0 : 20 < n
  · clear h
    go_enter Try.func4, Try.ntmps4
    go_wp2_with fail
    refine (live_any w).mono ?_
    rintro e w1 ⟨rfl, hb1⟩
    go_wp2_with fail
    go_ret
    exact ⟨rfl, hb1⟩
  · by_cases h1 : 3000 < m
    · clear h
      go_enter Try.func4, Try.ntmps4
      go_wp2_with fail
      refine (live_any w).mono ?_
      rintro e w1 ⟨rfl, hb1⟩
      go_wp2_with fail
      go_ret
      exact ⟨rfl, hb1⟩
    · have h2 : 2000 < next := by omega
      clear h
      go_enter Try.func4, Try.ntmps4
      go_wp2_with fail
      refine (live_any w).mono ?_
      rintro e w1 ⟨rfl, hb1⟩
      go_wp2_with fail
      go_ret
      exact ⟨rfl, hb1⟩
set_option maxHeartbeats 4000000 in
theorem counts_err (A D : Option Addr) (n c m d : Nat) (most next k : Int) (zs : List Int) (w : World) (hr : RdI w.heap.size w A zs) (hn : n ≤ 20) (hm : m ≤ 3000) (hx : next ≤ 2000) (hk : k ≠ 0)
    (hT : ∀ W : World, RdI W.heap.size W A zs → Calls Try.prog 11 #[.slice A n c, .int .i64 most, .int .i64 next] W (TotErr W k)) :
    Calls Try.prog 4 #[.slice A n c, .int .i64 most, .int .i64 next, .slice D m d] w fun e w' => e = .returned (.bool true) ∧ Below w.heap.size w w' := by
  go_enter Try.func4, Try.ntmps4
  go_wp2_with fail
  refine (live_any w).mono ?_
  rintro e w1 ⟨rfl, hb1⟩
  go_wp2_with fail
  refine (hT w1 (hr.below hb1 (Nat.le_refl _) |>.more hb1.size)).mono ?_
  rintro e w2 ⟨rfl, hb2⟩
  have hb12 := hb1.trans (hb2.mono hb1.size)
  go_wp2_with fail
  go_ret
  exact ⟨rfl, hb12⟩

set_option maxRecDepth 30000 in
set_option maxHeartbeats 8000000 in
theorem counts_ok (A D : Option Addr) (n c m d N C a M : Nat) (next : Nat) (zs outs : List Int) (cl : List (List Int)) (ab : List Bool) (w : World) (hr : RdI w.heap.size w A zs) (hl : zs.length = n) (hn : n ≤ 20)
    (hD : RdB w.heap.size w D ab) (hm : ab.length = m) (hm2 : m ≤ 3000) (hnx : next ≤ 2000)
    (hT : ∀ W : World, RdI W.heap.size W A zs → Calls Try.prog 11 #[.slice A n c, .int .i64 (M : Int), .int .i64 (next : Int)] W (TotOk W outs cl a))
    (h1 : next ≤ a) (h2 : a ≤ 3000) (hN : outs.length = N) (hC : cl.length = C) (hN2 : N = min n M) (hC2 : C ≤ maxLen)
    (hlz : ∀ x ∈ zs, Lit a x) (hlo : ∀ x ∈ outs, Lit a x) (hlc : ∀ x ∈ cl, ∀ y ∈ x, Lit a y)
    (hcount : sat (pad ab a) cl = true → ∀ i, i < outs.length → tv (pad ab a) (outs[i]?.getD 0) = decide ((i : Int) < (ct (pad ab a) zs : Int))) :
    Calls Try.prog 4 #[.slice A n c, .int .i64 (M : Int), .int .i64 (next : Int), .slice D m d] w fun e w' => e = .returned (.bool true) ∧ Below w.heap.size w w' := by
  have Hl := Lib.hid (And.intro hl (And.intro hN hC))
  have Hcount := Lib.hid hcount
  have Hlz := Lib.hid hlz
  have Hlo := Lib.hid hlo
  have Hlc := Lib.hid hlc
  have Hm := Lib.hid hm
  have HN2 := Lib.hid hN2
  clear hl hN hC hcount hlz hlo hlc hm
  have hmin : (if M < n then (M : Int) else (n : Int)) = (N : Int) := by split <;> omega
  have hN3 : N ≤ 20 := by omega
  have g1 : decide ((a : Int) < (next : Int)) = false := decide_eq_false (by omega)
  have g2 : decide (a < next) = false := decide_eq_false (by omega)
  have g3 : decide ((3000 : Int) < (a : Int)) = false := decide_eq_false (by omega)
  clear hN2
  have hpl := pad_length ab a
  have Hpl := Lib.hid hpl
  have Hpad := fun W A (hr : RdB w.heap.size W A ab) hB c => Lib.hid (padded_any w.heap.size A m a c ab W hr hB Hm.out (by unfold maxLen; omega) (by omega))
  clear hpl
  generalize pad ab a = bs at *
  go_enter Try.func4, Try.ntmps4
  go_wp2_with fail
  refine (live_any w).mono ?_
  rintro e w1 ⟨rfl, hb1⟩
  go_wp2_with fail
  refine (hT w1 (hr.below hb1 (Nat.le_refl _) |>.more hb1.size)).mono ?_
  intro e w2 q
  obtain ⟨A1, c1, A2, c2, rfl, r1, r2, hb2, hlen⟩ := q.read2
  clear q
  rw [Hl.out.2.1, Hl.out.2.2]
  have hb12 := hb1.trans (hb2.mono hb1.size)
  have hr := hr.below hb12 (Nat.le_refl _)
  have hD := hD.below hb12 (Nat.le_refl _)
  have Hlen := Lib.hid hlen
  have hP := Lib.hid ((Hpad w2 D hD hb12.size d).out)
  have hsz := hb12.size
  clear hb1 hb2 hlen hT Hpad hD
  go_wp2_with fail
  refine hP.out.mono ?_
  rintro e w3 ⟨rfl, hrow, hb3⟩
  have hb13 := hb12.trans (hb3.mono hsz)
  have hr := hr.below (hb3.mono hsz) (Nat.le_refl _)
  have r1 := r1.below hb3 (Nat.le_refl _)
  have r2 := r2.below hb3 (Nat.le_refl _)
  have hrd := hrow.rd
  have hsz3 := hb3.size
  have hsz13 := hb13.size
  clear hb12 hP hrow
  generalize (some ⟨w2.heap.size, 0, Option.none⟩ : Option Addr) = G at *
  have hS := Lib.hid (sat_any w3.heap.size w2.heap.size G A2 a C c2 (a + 1) (a + 1) cl bs w3 r2 hsz3 Hl.out.2.2 hC2 Hlen.out hrd (Nat.le_refl _) Hpl.out Hlc.out (by omega) (by omega) (by omega))
  clear r2 hb3
  cases hs : sat bs cl with
  | false =>
    rw [hs] at hS
    go_wp2_with fail
    refine hS.out.mono ?_
    rintro e w4 ⟨rfl, hb4⟩
    have hb14 := hb13.trans (hb4.mono hsz13)
    go_wp2_with fail
    go_ret
    exact ⟨rfl, hb14⟩
  | true =>
    rw [hs] at hS
    have Hc := Lib.hid (Hcount.out hs)
    clear hs Hcount
    go_wp2_with fail
    refine hS.out.mono ?_
    rintro e w4 ⟨rfl, hb4⟩
    have hb14 := hb13.trans (hb4.mono hsz13)
    have r1 := r1.below (hb4.mono hsz3) (Nat.le_refl _)
    have hr := hr.below (hb4.mono hsz13) (Nat.le_refl _)
    have hrd := hrd.below hb4 (Nat.le_refl _)
    have hM := Lib.hid (many_any w3.heap.size w.heap.size G A a n c (a + 1) (a + 1) zs bs w4 hr Hl.out.1 (by omega) hrd Hpl.out Hlz.out (by omega) (by omega))
    clear hS hb4 hb13 hr
    go_wp2_with fail
    refine hM.out.mono ?_
    rintro e w5 ⟨rfl, rfl⟩
    generalize ct bs zs = K at *
    clear hM
    go_wp2_with fail
    go_loopw [15] (fun i wr => ∃ j : Nat, j ≤ N ∧ i = .int .i64 j ∧ w4 = wr) (fun i _ => N - (intOf i).toNat)
    case atStart => exact ⟨0, by omega, rfl, rfl⟩
    case round =>
      obtain ⟨j, hj, rfl, rfl⟩ := hrel
      by_cases hlt : j < N
      · have hjo : j < outs.length := by rw [Hl.out.2.1]; exact hlt
        have hmem : outs[j]?.getD 0 ∈ outs := by rw [List.getElem?_eq_getElem hjo]; exact List.getElem_mem _
        obtain ⟨b, off, rfl, _, hc⟩ := r1.2 (by omega)
        have hc1 := hc j hjo
        have hx := Hc.out j hjo
        have hL := lit_any w3.heap.size G a (a + 1) (a + 1) bs (outs[j]?.getD 0) w4 hrd Hpl.out (Hlo.out _ hmem) (by omega) (by omega)
        rw [hx] at hL
        have HL := Lib.hid hL
        clear hc r1 hrd hL hmem hjo hx
        generalize outs[j]?.getD 0 = x at *
        have hz0 : decide (j < K) = decide ((j : Int) < (K : Int)) := by
          by_cases q : j < K
          · rw [decide_eq_true q, decide_eq_true (by omega)]
          · rw [decide_eq_false q, decide_eq_false (by omega)]
        generalize decide ((j : Int) < (K : Int)) = z at *
        go_wp2_with fail
        refine HL.out.mono ?_
        rintro e w' ⟨rfl, rfl⟩
        go_wp2_with fail
        go_roundw
        case rel => exact ⟨j + 1, by omega, by go_num, trivial⟩
        case measure => simp [intOf]; omega
      · obtain rfl : j = N := by omega
        go_wp2_with fail
        go_ret
        exact ⟨rfl, hb14⟩

theorem counts_any (A D : Option Addr) (n c m d : Nat) (most next : Int) (zs : List Int) (ab : List Bool) (w : World) (hr : RdI w.heap.size w A zs) (hl : zs.length = n) (hnc : n ≤ c) (hc : c ≤ maxLen) (hD : RdB w.heap.size w D ab) (hm : ab.length = m) :
    Calls Try.prog 4 #[.slice A n c, .int .i64 most, .int .i64 next, .slice D m d] w fun e w' => e = .returned (.bool true) ∧ Below w.heap.size w w' := by
  by_cases h : 20 < n ∨ 3000 < m ∨ 2000 < next
  · exact counts_out A D n c m d most next w h
  · rcases Total_ways A n c most next zs hl (by omega) with ⟨k, hk, hT⟩ | ⟨M, f, rfl, rfl, h1, h2, hM, hd, hz, hs⟩
    · exact counts_err A D n c m d most next k zs w hr (by omega) (by omega) (by omega) hk hT
    · have hlit := dist_lit zs [] hd
      obtain ⟨g1, g2⟩ := cnt_good (most := M) h1 n zs f (by omega) (Nat.le_refl _) hlit
      rw [hl] at g1 g2
      have hsz : Tot.size M n ≤ 400 := Nat.le_trans (size_le M n n (Nat.le_refl _)) (Nat.mul_le_mul (show n ≤ 20 by omega) (show n ≤ 20 by omega))
      have hou := cnt_length (most := M) zs f
      rw [hl] at hou
      have hcl := cnt_clauses40 (most := M) n zs f (by omega) (by omega)
      have hC : (Tot.cnt M zs f).2.length ≤ maxLen := by
        have := Nat.mul_le_mul (Nat.le_refl 882) (show zs.length - 1 ≤ 19 by omega)
        unfold maxLen
        omega
      exact counts_ok A D n c m d _ _ (f + Tot.size M n) M f zs _ _ ab w hr hl (by omega) hD hm (by omega) (by omega)
        (fun W hW => Total_ok A n c M f zs W hW hl hnc hc (by omega) h1 h2 hM hz hd hs) (by omega) (by omega) rfl rfl hou hC
        (fun x hx => (hlit x hx).mono (by omega)) g1 (fun x hx => (g2 x hx).2.2) (fun hsat i hi => outs_count h1 (lit_nz hlit) hsat hi)

set_option maxRecDepth 100000 in
theorem totalCounts_lifted (os : Os) (started : os.Started) (H : Type) (enc : TypeId × Value → H) :
    ReturnsInHanded {} Try.checked os 4 .any (Rows.totalCountsSpec.pre6 enc Try.prog Try.f4 Rows.totalCountsRow.domain false) (Rows.totalCountsSpec.post enc Try.prog Try.f4 false true false false) := by
  refine returnsInHanded_of_change (C := Try.checked) Try_own started (by kernel_rfl) Try.func4
    (ChangeSpec.witness6 (enc := enc) (C := Try.checked) false ⟨#[], #[.slice Option.none 0 0, .int .i64 0, .int .i64 0, .slice Option.none 0 0], []⟩ 4 (by kernel_rfl) (by kernel_rfl) (by kernel_rfl) (by kernel_rfl)) ?_
  intro W base args ds gs before hval0 hW _ _
  have hval : ∀ (j : Nat) t v, Try.f4.params[j]? = some t → args[j]? = some v → Value.okWide Try.prog W .any base t v := hval0
  have hW' := hW
  obtain ⟨p, q, hA0, hV, rfl, _, _⟩ := hW
  have hA : DataW.TrodAll enc Try.prog W 0 (fun _ => true) true Try.f4.params.toList args.toList ds p := hA0
  have hpar : Try.f4.params = #[22, 3, 3, 31] := rfl
  rw [hpar] at hA hval
  have hlt : ∀ x ∈ p, x.block < W.heap.size := fun x hx => hW'.lt x (List.mem_append_left _ hx)
  obtain ⟨rfl, rfl⟩ := trodVars_none hV
  clear hA0 hval0
  obtain ⟨v0, vs0, d0, ds0, p0, q0, hargs0, rfl, rfl, h0, r0⟩ := trodAll_cons hA
  obtain ⟨v1, vs1, d1, ds1, p1, q1, hargs1, rfl, rfl, h1, r1⟩ := trodAll_cons r0
  obtain ⟨v2, vs2, d2, ds2, p2, q2, hargs2, rfl, rfl, h2, r2⟩ := trodAll_cons r1
  obtain ⟨v3, vs3, d3, ds3, p3, q3, hargs3, rfl, rfl, h3, r3⟩ := trodAll_cons r2
  obtain ⟨hlast, rfl, rfl⟩ := trodAll_nil r3
  obtain rfl : args = #[v0, v1, v2, v3] := by
    apply Array.toList_inj.1
    rw [hargs0, hargs1, hargs2, hargs3, hlast]
  obtain ⟨A0, n0, cap0, zs0, rfl, hr0, hl0, hlc0, hm0, _⟩ := open_intlist (hval 0 22 v0 rfl rfl) h0 (fun x hx => hlt x (List.mem_append_left _ hx))
  obtain ⟨n1, rfl, rfl, rfl, wf1⟩ := open_int underlying3' (hval 1 3 v1 rfl rfl) h1
  obtain ⟨n2, rfl, rfl, rfl, wf2⟩ := open_int underlying3' (hval 2 3 v2 rfl rfl) h2
  obtain ⟨A3, n3, cap3, bs3, rfl, hr3, hl3, hlc3, hm3⟩ := open_boollist (hval 3 31 v3 rfl rfl) h3 (fun x hx => hlt x (List.mem_append_right _ (List.mem_append_right _ (List.mem_append_right _ (List.mem_append_left _ hx)))))
  refine (counts_any A0 A3 n0 cap0 n3 cap3 n1 n2 zs0 bs3 W hr0 hl0 hlc0 hm0 hr3 hl3).mono fun e W' ⟨he, hb⟩ => ?_
  subst he
  exact ⟨_, rfl, law_post Try_laidOut hW' rfl (by rw [hpar]; decide +kernel) 4 rfl Try.underlying4 rfl hb⟩

theorem totalCounts_holds : Rows.TotalCountsSaid :=
  OpenClaim.holds_of_wide 4 Try.f4 rfl rfl rfl rfl rfl rfl rfl ⟨rfl, rfl, rfl, rfl, rfl⟩ rfl rfl rfl rfl rfl (by kernel_rfl) Try.func4 (by kernel_rfl)
    (of_decide_eq_true (by kernel_rfl)) (by unfold Func.isWrapper; first | (rw [if_pos (by decide +kernel)]; kernel_rfl) | (rw [if_neg (by decide +kernel)]; exact ⟨rfl, rfl⟩))
    (fun os started H enc _ => totalCounts_lifted os started H enc)
end Go.Proofs.Ytppgpafnifmmfaa
