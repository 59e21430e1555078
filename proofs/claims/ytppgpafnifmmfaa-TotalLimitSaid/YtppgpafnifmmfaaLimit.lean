/- For every slice of integers, every two limits, every first new variable and every slice of bools, the law TotalLimit answers true at the landed code and changes nothing that came in: a totalizer with a smaller limit has no more outputs, and where the clauses of both hold their common outputs agree. Conditions: those of the statement alone. -/
import Derived.Test.YtppgpafnifmmfaaOpenB
namespace Go.Proofs.Ytppgpafnifmmfaa
open Go.ChangeShapes Go.WideShapes Go.ChangeAt Go.RowKit

set_option maxHeartbeats 4000000 in
theorem limit_out (A D : Option Addr) (n c m d : Nat) (most less next : Int) (w : World) (h : 12 < n ∨ most < less ∨ 3000 < m ∨ 1000 < next) :
    Calls Try.prog 7 #[.slice A n c, .int .i64 most, .int .i64 less, .int .i64 next, .slice D m d] w fun e w' => e = .returned (.bool true) ∧ Below w.heap.size w w' := by
  by_cases h0 : 12 < n
  · clear h
    go_enter Try.func7, Try.ntmps7
    go_wp2_with fail
    refine (live_any w).mono ?_
    rintro e w1 ⟨rfl, hb1⟩
    go_wp2_with fail
    go_ret
    exact ⟨rfl, hb1⟩
  · by_cases h1 : most < less
    · clear h
      go_enter Try.func7, Try.ntmps7
      go_wp2_with fail
      refine (live_any w).mono ?_
      rintro e w1 ⟨rfl, hb1⟩
      go_wp2_with fail
      go_ret
      exact ⟨rfl, hb1⟩
    · by_cases h2 : 3000 < m
      · clear h
        go_enter Try.func7, Try.ntmps7
        go_wp2_with fail
        refine (live_any w).mono ?_
        rintro e w1 ⟨rfl, hb1⟩
        go_wp2_with fail
        go_ret
        exact ⟨rfl, hb1⟩
      · have h3 : 1000 < next := by omega
        clear h
        go_enter Try.func7, Try.ntmps7
        go_wp2_with fail
        refine (live_any w).mono ?_
        rintro e w1 ⟨rfl, hb1⟩
        go_wp2_with fail
        go_ret
        exact ⟨rfl, hb1⟩
set_option maxHeartbeats 4000000 in
theorem limit_err (A D : Option Addr) (n c m d : Nat) (most less next k : Int) (zs : List Int) (w : World) (hr : RdI w.heap.size w A zs) (hn : n ≤ 12) (hml : less ≤ most) (hm : m ≤ 3000) (hx : next ≤ 1000) (hk : k ≠ 0)
    (hT : ∀ W : World, RdI W.heap.size W A zs → Calls Try.prog 11 #[.slice A n c, .int .i64 most, .int .i64 next] W (TotErr W k)) :
    Calls Try.prog 7 #[.slice A n c, .int .i64 most, .int .i64 less, .int .i64 next, .slice D m d] w fun e w' => e = .returned (.bool true) ∧ Below w.heap.size w w' := by
  go_enter Try.func7, Try.ntmps7
  go_wp2_with fail
  refine (live_any w).mono ?_
  rintro e w1 ⟨rfl, hb1⟩
  go_wp2_with fail
  refine (hT w1 (hr.below hb1 (Nat.le_refl _) |>.more hb1.size)).mono ?_
  rintro e w2 ⟨rfl, hb2⟩
  have hb12 := hb1.trans (hb2.mono hb1.size)
  go_wp2_with fail
  go_ret
  exact ⟨rfl, hb12⟩
set_option maxHeartbeats 4000000 in
theorem limit_err2 (A D : Option Addr) (n c m d a : Nat) (most less next k : Int) (zs outs : List Int) (cl : List (List Int)) (w : World) (hr : RdI w.heap.size w A zs) (hn : n ≤ 12) (hml : less ≤ most) (hm : m ≤ 3000) (hx : next ≤ 1000) (ha : a ≤ 2000) (hk : k ≠ 0)
    (hT : ∀ W : World, RdI W.heap.size W A zs → Calls Try.prog 11 #[.slice A n c, .int .i64 most, .int .i64 next] W (TotOk W outs cl a))
    (hT2 : ∀ W : World, RdI W.heap.size W A zs → Calls Try.prog 11 #[.slice A n c, .int .i64 less, .int .i64 (a : Int)] W (TotErr W k)) :
    Calls Try.prog 7 #[.slice A n c, .int .i64 most, .int .i64 less, .int .i64 next, .slice D m d] w fun e w' => e = .returned (.bool true) ∧ Below w.heap.size w w' := by
  have g3 : decide ((2000 : Int) < (a : Int)) = false := decide_eq_false (by omega)
  go_enter Try.func7, Try.ntmps7
  go_wp2_with fail
  refine (live_any w).mono ?_
  rintro e w1 ⟨rfl, hb1⟩
  go_wp2_with fail
  refine (hT w1 (hr.below hb1 (Nat.le_refl _) |>.more hb1.size)).mono ?_
  intro e w2 q
  obtain ⟨A1, c1, A2, c2, rfl, _, _, hb2, _⟩ := q.read2
  clear q
  have hb12 := hb1.trans (hb2.mono hb1.size)
  clear hb1 hb2
  go_wp2_with fail
  refine (hT2 w2 (hr.below hb12 (Nat.le_refl _) |>.more hb12.size)).mono ?_
  rintro e w3 ⟨rfl, hb3⟩
  have hb13 := hb12.trans (hb3.mono hb12.size)
  go_wp2_with fail
  go_ret
  exact ⟨rfl, hb13⟩

set_option maxRecDepth 30000 in
set_option maxHeartbeats 8000000 in
theorem limit_ok (A D : Option Addr) (n c m d N C a N' C' a' : Nat) (most less next : Int) (zs outs outs' : List Int) (cl cl' : List (List Int)) (ab : List Bool) (w : World) (hr : RdI w.heap.size w A zs) (hn : n ≤ 12) (hml : less ≤ most)
    (hD : RdB w.heap.size w D ab) (hm : ab.length = m) (hm2 : m ≤ 3000) (hnx : next ≤ 1000)
    (hT : ∀ W : World, RdI W.heap.size W A zs → Calls Try.prog 11 #[.slice A n c, .int .i64 most, .int .i64 next] W (TotOk W outs cl a))
    (hT2 : ∀ W : World, RdI W.heap.size W A zs → Calls Try.prog 11 #[.slice A n c, .int .i64 less, .int .i64 (a : Int)] W (TotOk W outs' cl' a'))
    (h1 : a ≤ 2000) (h2 : a' ≤ 4000) (hN : outs.length = N) (hC : cl.length = C) (hN' : outs'.length = N') (hC' : cl'.length = C') (hN2 : N ≤ n) (hNN : N' ≤ N) (hC2 : C ≤ maxLen) (hC3 : C' ≤ maxLen)
    (hlo : ∀ x ∈ outs, Lit a' x) (hlc : ∀ x ∈ cl, ∀ y ∈ x, Lit a' y) (hlo' : ∀ x ∈ outs', Lit a' x) (hlc' : ∀ x ∈ cl', ∀ y ∈ x, Lit a' y)
    (hsame : sat (pad ab a') cl = true → sat (pad ab a') cl' = true → ∀ i, i < outs'.length → tv (pad ab a') (outs[i]?.getD 0) = tv (pad ab a') (outs'[i]?.getD 0)) :
    Calls Try.prog 7 #[.slice A n c, .int .i64 most, .int .i64 less, .int .i64 next, .slice D m d] w fun e w' => e = .returned (.bool true) ∧ Below w.heap.size w w' := by
  have Hl := Lib.hid (And.intro hN (And.intro hC (And.intro hN' hC')))
  have Hsame := Lib.hid hsame
  have Hlo := Lib.hid hlo
  have Hlc := Lib.hid hlc
  have Hlo' := Lib.hid hlo'
  have Hlc' := Lib.hid hlc'
  have Hm := Lib.hid hm
  clear hN hC hN' hC' hsame hlo hlc hlo' hlc' hm
  have hN3 : N ≤ 12 := by omega
  have g3 : decide ((2000 : Int) < (a : Int)) = false := decide_eq_false (by omega)
  have g4 : decide ((N : Int) < (N' : Int)) = false := decide_eq_false (by omega)
  have g5 : decide (N < N') = false := decide_eq_false (by omega)
  have g6 : decide ((N' : Int) ≤ (N : Int)) = true := decide_eq_true (by omega)
  have g7 : decide (N' ≤ N) = true := decide_eq_true (by omega)
  have hpl := pad_length ab a'
  have Hpl := Lib.hid hpl
  have Hpad := fun W A (hr : RdB w.heap.size W A ab) hB c => Lib.hid (padded_any w.heap.size A m a' c ab W hr hB Hm.out (by unfold maxLen; omega) (by omega))
  clear hpl
  generalize pad ab a' = bs at *
  go_enter Try.func7, Try.ntmps7
  go_wp2_with fail
  refine (live_any w).mono ?_
  rintro e w1 ⟨rfl, hb1⟩
  go_wp2_with fail
  refine (hT w1 (hr.below hb1 (Nat.le_refl _) |>.more hb1.size)).mono ?_
  intro e w2 q
  obtain ⟨A1, c1, A2, c2, rfl, r1, r2, hb2, hlen⟩ := q.read2
  clear q
  rw [Hl.out.1, Hl.out.2.1]
  have hb12 := hb1.trans (hb2.mono hb1.size)
  have Hlen := Lib.hid hlen
  clear hb1 hb2 hlen hT
  go_wp2_with fail
  refine (hT2 w2 (hr.below hb12 (Nat.le_refl _) |>.more hb12.size)).mono ?_
  intro e w3 q
  obtain ⟨A3, c3, A4, c4, rfl, r3, r4, hb3, hlen'⟩ := q.read2
  clear q
  rw [Hl.out.2.2.1, Hl.out.2.2.2]
  have hb13 := hb12.trans (hb3.mono hb12.size)
  have Hlen' := Lib.hid hlen'
  have hsz2 := hb3.size
  have r1 := (r1.below hb3 (Nat.le_refl _)).more hsz2
  have r2 := r2.below hb3 (Nat.le_refl _)
  clear hb12 hb3 hlen' hT2 hr
  have hD := hD.below hb13 (Nat.le_refl _)
  have hP := Lib.hid ((Hpad w3 D hD hb13.size d).out)
  have hsz := hb13.size
  clear Hpad hD
  go_wp2_with fail
  refine hP.out.mono ?_
  rintro e w4 ⟨rfl, hrow, hb4⟩
  have hb14 := hb13.trans (hb4.mono hsz)
  have r1 := r1.below hb4 (Nat.le_refl _)
  have r3 := r3.below hb4 (Nat.le_refl _)
  have r2 := r2.below (hb4.mono hsz2) (Nat.le_refl _)
  have r4 := r4.below hb4 (Nat.le_refl _)
  have hrd := hrow.rd
  have hsz4 := hb4.size
  have hsz14 := hb14.size
  clear hP hrow hb13
  generalize (some ⟨w3.heap.size, 0, Option.none⟩ : Option Addr) = G at *
  have hS := Lib.hid (sat_any w4.heap.size w2.heap.size G A2 a' C c2 (a' + 1) (a' + 1) cl bs w4 r2 (by omega) Hl.out.2.1 hC2 Hlen.out hrd (Nat.le_refl _) Hpl.out Hlc.out (by omega) (by omega) (by omega))
  have hS' := fun W hr hrd h4 => Lib.hid (sat_any w4.heap.size w3.heap.size G A4 a' C' c4 (a' + 1) (a' + 1) cl' bs W hr (by omega) Hl.out.2.2.2 hC3 Hlen'.out hrd h4 Hpl.out Hlc'.out (by omega) (by omega) (by omega))
  clear r2 hb4
  cases hs : sat bs cl with
  | false =>
    rw [hs] at hS
    go_wp2_with fail
    refine hS.out.mono ?_
    rintro e w5 ⟨rfl, hb5⟩
    have hb15 := hb14.trans (hb5.mono hsz14)
    go_wp2_with fail
    go_ret
    exact ⟨rfl, hb15⟩
  | true =>
    rw [hs] at hS
    have Hs := Lib.hid (Hsame.out hs)
    clear hs Hsame
    go_wp2_with fail
    refine hS.out.mono ?_
    rintro e w5 ⟨rfl, hb5⟩
    have hb15 := hb14.trans (hb5.mono hsz14)
    have r1 := r1.below (hb5.mono hsz4) (Nat.le_refl _)
    have r3 := r3.below (hb5.mono hsz4) (Nat.le_refl _)
    have r4 := r4.below (hb5.mono hsz4) (Nat.le_refl _)
    have hrd := hrd.below hb5 (Nat.le_refl _)
    have hsz5 := hb5.size
    have hS2 := hS' w5 r4 hrd (by omega)
    clear hS hS' hb5 hb14 r4
    cases hs : sat bs cl' with
    | false =>
      rw [hs] at hS2
      go_wp2_with fail
      refine hS2.out.mono ?_
      rintro e w6 ⟨rfl, hb6⟩
      have hb16 := hb15.trans (hb6.mono (by omega))
      go_wp2_with fail
      go_ret
      exact ⟨rfl, hb16⟩
    | true =>
      rw [hs] at hS2
      have Hs := Lib.hid (Hs.out hs)
      clear hs
      go_wp2_with fail
      refine hS2.out.mono ?_
      rintro e w6 ⟨rfl, hb6⟩
      have hb16 := hb15.trans (hb6.mono (by omega))
      have r1 := r1.below (hb6.mono (by omega)) (Nat.le_refl _)
      have r3 := r3.below (hb6.mono (by omega)) (Nat.le_refl _)
      have hrd := hrd.below (hb6.mono hsz5) (Nat.le_refl _)
      clear hS2 hb6 hb15
      go_wp2_with fail
      go_loopw [20] (fun i wr => ∃ j k : Nat, j ≤ N' ∧ i = .int .i64 j ∧ wr = w6.drewN k) (fun i _ => N' - (intOf i).toNat)
      case atStart => exact ⟨0, 0, by omega, rfl, rfl⟩
      case round =>
        obtain ⟨j, k, hj, rfl, rfl⟩ := hrel
        by_cases hlt : j < N'
        · have hjo : j < outs.length := by rw [Hl.out.1]; omega
          have hjo' : j < outs'.length := by rw [Hl.out.2.2.1]; exact hlt
          have hmem : outs[j]?.getD 0 ∈ outs := by rw [List.getElem?_eq_getElem hjo]; exact List.getElem_mem _
          have hmem' : outs'[j]?.getD 0 ∈ outs' := by rw [List.getElem?_eq_getElem hjo']; exact List.getElem_mem _
          obtain ⟨b, off, rfl, _, hc⟩ := r1.2 (by omega)
          have hc1 := hc j hjo
          obtain ⟨b', off', rfl, _, hc'⟩ := r3.2 (by omega)
          have hc2 := hc' j hjo'
          have hx := Hs.out j hjo'
          have hL := fun q => lit_any w4.heap.size G a' (a' + 1) (a' + 1) bs (outs[j]?.getD 0) (w6.drewN q) hrd Hpl.out (Hlo.out _ hmem) (by omega) (by omega)
          have hL' := fun q => lit_any w4.heap.size G a' (a' + 1) (a' + 1) bs (outs'[j]?.getD 0) (w6.drewN q) hrd Hpl.out (Hlo'.out _ hmem') (by omega) (by omega)
          rw [hx] at hL
          have hlt2 : j < N := by omega
          clear hc hc' r1 r3 hrd hmem hmem' hjo hjo' hx
          generalize outs[j]?.getD 0 = x at *
          generalize outs'[j]?.getD 0 = y at *
          generalize tv bs y = z at *
          have HL := Lib.hid hL
          have HL' := Lib.hid hL'
          clear hL hL'
          go_wp2
          go_quiet ((first | (go_at_call_of 18 x; exact quiet_still (HL.out _)) | (go_at_call_of 18 y; exact quiet_still (HL'.out _))))
          go_wp2
          go_roundw
          case rel => exact ⟨j + 1, _, by omega, by go_num, rfl⟩
          case measure => simp [intOf]; omega
        · obtain rfl : j = N' := by omega
          go_wp2_with fail
          go_ret
          exact ⟨rfl, below_drewN hb16 k⟩

theorem limit_any (A D : Option Addr) (n c m d : Nat) (most less next : Int) (zs : List Int) (ab : List Bool) (w : World) (hr : RdI w.heap.size w A zs) (hl : zs.length = n) (hnc : n ≤ c) (hc : c ≤ maxLen) (hD : RdB w.heap.size w D ab) (hm : ab.length = m) :
    Calls Try.prog 7 #[.slice A n c, .int .i64 most, .int .i64 less, .int .i64 next, .slice D m d] w fun e w' => e = .returned (.bool true) ∧ Below w.heap.size w w' := by
  by_cases h : 12 < n ∨ most < less ∨ 3000 < m ∨ 1000 < next
  · exact limit_out A D n c m d most less next w h
  · have hn : n ≤ 12 := by omega
    have hcl : ∀ (M f : Nat), (Tot.cnt M zs f).2.length ≤ maxLen := fun M f => by
      have h1 := cnt_clauses40 (most := M) n zs f (by omega) (by omega)
      have h2 := Nat.mul_le_mul (Nat.le_refl 882) (show zs.length - 1 ≤ 11 by omega)
      unfold maxLen
      omega
    have hsz : ∀ M, Tot.size M n ≤ 144 := fun M => Nat.le_trans (size_le M n n (Nat.le_refl _)) (Nat.mul_le_mul hn hn)
    have hou : ∀ (M f : Nat), (Tot.cnt M zs f).1.length = min n M := fun M f => by rw [cnt_length, hl]
    rcases Total_ways A n c most next zs hl (by omega) with ⟨k, hk, hT⟩ | ⟨M, f, rfl, rfl, h1, h2, hM, hd, hz, hs⟩
    · exact limit_err A D n c m d most less next k zs w hr hn (by omega) (by omega) (by omega) hk hT
    · have hs1 := hsz M
      have hT : ∀ W : World, RdI W.heap.size W A zs → Calls Try.prog 11 #[.slice A n c, .int .i64 (M : Int), .int .i64 (f : Int)] W (TotOk W (Tot.cnt M zs f).1 (Tot.cnt M zs f).2 (f + Tot.size M n)) :=
        fun W hW => Total_ok A n c M f zs W hW hl hnc hc (by omega) h1 h2 hM hz hd hs
      have hlit := dist_lit zs [] hd
      obtain ⟨g1, g2⟩ := cnt_good (most := M) h1 n zs f (by omega) (Nat.le_refl _) hlit
      rw [hl] at g1 g2
      rcases Total_ways A n c less ((f + Tot.size M n : Nat) : Int) zs hl (by omega) with ⟨k, hk, hT2⟩ | ⟨M', f', rfl, hf, h1', h2', hM', hd', hz', hs'⟩
      · exact limit_err2 A D n c m d (f + Tot.size M n) _ less _ k zs _ _ w hr hn (by omega) (by omega) (by omega) (by omega) hk hT hT2
      · obtain rfl : f + Tot.size M n = f' := by omega
        have hs2 := hsz M'
        have hlit' := dist_lit zs [] hd'
        obtain ⟨g1', g2'⟩ := cnt_good (most := M') h1' n zs (f + Tot.size M n) (by omega) (Nat.le_refl _) hlit'
        rw [hl] at g1' g2'
        have e1 := hou M f
        have e2 := hou M' (f + Tot.size M n)
        refine limit_ok A D n c m d _ _ (f + Tot.size M n) _ _ (f + Tot.size M n + Tot.size M' n) _ _ _ zs _ _ _ _ ab w hr hn (by omega) hD hm (by omega) (by omega) hT
          (fun W hW => Total_ok A n c M' (f + Tot.size M n) zs W hW hl hnc hc (by omega) h1' h2' hM' hz' hd' hs') (by omega) (by omega) rfl rfl rfl rfl (by omega) (by omega) (hcl _ _) (hcl _ _)
          (fun x hx => (g1 x hx).mono (by omega)) (fun x hx y hy => ((g2 x hx).2.2 y hy).mono (by omega)) g1' (fun x hx => (g2' x hx).2.2) ?_
        intro q1 q2 i hi
        rw [outs_count h1 (lit_nz hlit) q1 (by omega), outs_count h1' (lit_nz hlit) q2 hi]

set_option maxRecDepth 100000 in
theorem totalLimit_lifted (os : Os) (started : os.Started) (H : Type) (enc : TypeId × Value → H) :
    ReturnsInHanded {} Try.checked os 7 .any (Rows.totalLimitSpec.pre6 enc Try.prog Try.f7 Rows.totalLimitRow.domain false) (Rows.totalLimitSpec.post enc Try.prog Try.f7 false true false false) := by
  refine returnsInHanded_of_change (C := Try.checked) Try_own started (by kernel_rfl) Try.func7
    (ChangeSpec.witness6 (enc := enc) (C := Try.checked) false ⟨#[], #[.slice Option.none 0 0, .int .i64 0, .int .i64 0, .int .i64 0, .slice Option.none 0 0], []⟩ 7 (by kernel_rfl) (by kernel_rfl) (by kernel_rfl) (by kernel_rfl)) ?_
  intro W base args ds gs before hval0 hW _ _
  have hval : ∀ (j : Nat) t v, Try.f7.params[j]? = some t → args[j]? = some v → Value.okWide Try.prog W .any base t v := hval0
  have hW' := hW
  obtain ⟨p, q, hA0, hV, rfl, _, _⟩ := hW
  have hA : DataW.TrodAll enc Try.prog W 0 (fun _ => true) true Try.f7.params.toList args.toList ds p := hA0
  have hpar : Try.f7.params = #[22, 3, 3, 3, 31] := rfl
  rw [hpar] at hA hval
  have hlt : ∀ x ∈ p, x.block < W.heap.size := fun x hx => hW'.lt x (List.mem_append_left _ hx)
  obtain ⟨rfl, rfl⟩ := trodVars_none hV
  clear hA0 hval0
  obtain ⟨v0, vs0, d0, ds0, p0, q0, hargs0, rfl, rfl, h0, r0⟩ := trodAll_cons hA
  obtain ⟨v1, vs1, d1, ds1, p1, q1, hargs1, rfl, rfl, h1, r1⟩ := trodAll_cons r0
  obtain ⟨v2, vs2, d2, ds2, p2, q2, hargs2, rfl, rfl, h2, r2⟩ := trodAll_cons r1
  obtain ⟨v3, vs3, d3, ds3, p3, q3, hargs3, rfl, rfl, h3, r3⟩ := trodAll_cons r2
  obtain ⟨v4, vs4, d4, ds4, p4, q4, hargs4, rfl, rfl, h4, r4⟩ := trodAll_cons r3
  obtain ⟨hlast, rfl, rfl⟩ := trodAll_nil r4
  obtain rfl : args = #[v0, v1, v2, v3, v4] := by
    apply Array.toList_inj.1
    rw [hargs0, hargs1, hargs2, hargs3, hargs4, hlast]
  obtain ⟨A0, n0, cap0, zs0, rfl, hr0, hl0, hlc0, hm0, _⟩ := open_intlist (hval 0 22 v0 rfl rfl) h0 (fun x hx => hlt x (List.mem_append_left _ hx))
  obtain ⟨n1, rfl, rfl, rfl, wf1⟩ := open_int underlying3' (hval 1 3 v1 rfl rfl) h1
  obtain ⟨n2, rfl, rfl, rfl, wf2⟩ := open_int underlying3' (hval 2 3 v2 rfl rfl) h2
  obtain ⟨n3, rfl, rfl, rfl, wf3⟩ := open_int underlying3' (hval 3 3 v3 rfl rfl) h3
  obtain ⟨A4, n4, cap4, bs4, rfl, hr4, hl4, hlc4, hm4⟩ := open_boollist (hval 4 31 v4 rfl rfl) h4 (fun x hx => hlt x (List.mem_append_right _ (List.mem_append_right _ (List.mem_append_right _ (List.mem_append_right _ (List.mem_append_left _ hx))))))
  refine (limit_any A0 A4 n0 cap0 n4 cap4 n1 n2 n3 zs0 bs4 W hr0 hl0 hlc0 hm0 hr4 hl4).mono fun e W' ⟨he, hb⟩ => ?_
  subst he
  exact ⟨_, rfl, law_post Try_laidOut hW' rfl (by rw [hpar]; decide +kernel) 4 rfl Try.underlying4 rfl hb⟩

theorem totalLimit_holds : Rows.TotalLimitSaid :=
  OpenClaim.holds_of_wide 7 Try.f7 rfl rfl rfl rfl rfl rfl rfl ⟨rfl, rfl, rfl, rfl, rfl⟩ rfl rfl rfl rfl rfl (by kernel_rfl) Try.func7 (by kernel_rfl)
    (of_decide_eq_true (by kernel_rfl)) (by unfold Func.isWrapper; first | (rw [if_pos (by decide +kernel)]; kernel_rfl) | (rw [if_neg (by decide +kernel)]; exact ⟨rfl, rfl⟩))
    (fun os started H enc _ => totalLimit_lifted os started H enc)
end Go.Proofs.Ytppgpafnifmmfaa
