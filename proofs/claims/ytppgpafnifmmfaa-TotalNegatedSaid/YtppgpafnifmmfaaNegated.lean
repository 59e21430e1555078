/- For every slice of integers, every first new variable and every slice of bools, the law TotalNegated answers true at the landed code and changes nothing that came in: where the clauses of a totalizer and of the totalizer of the negated literals hold, output i of the second is the negation of output n-1-i of the first. Conditions: those of the statement alone. -/
import Derived.Test.YtppgpafnifmmfaaNegM
namespace Go.Proofs.Ytppgpafnifmmfaa
open Go.ChangeShapes Go.WideShapes Go.ChangeAt Go.RowKit

theorem RowI.zero (base : Nat) (w : World) (h : base ≤ w.heap.size) : RowI (w.alloc (.cells #[] 3)) base (.slice (some ⟨w.heap.size, 0, none⟩) 0 0) [] := by
  refine ⟨by simp, ?_⟩
  have := World.ownsRow_lit (base := base) (e := 3) (size := 1) w #[] 0 h (Nat.zero_le _) (by simp)
  simpa using this

set_option maxHeartbeats 4000000 in
theorem negated_out (A D : Option Addr) (n c m d : Nat) (next : Int) (w : World) (h : 12 < n ∨ 3000 < m ∨ 1000 < next) :
    Calls Try.prog 9 #[.slice A n c, .int .i64 next, .slice D m d] w fun e w' => e = .returned (.bool true) ∧ Below w.heap.size w w' := by
  by_cases h0 : 12 < n
  · clear h
    go_enter Try.func9, Try.ntmps9
    go_wp2_with fail
    refine (live_any w).mono ?_
    rintro e w1 ⟨rfl, hb1⟩
    go_wp2_with fail
    go_ret
    exact ⟨rfl, hb1⟩
  · by_cases h1 : 3000 < m
    · clear h
      go_enter Try.func9, Try.ntmps9
      go_wp2_with fail
      refine (live_any w).mono ?_
      rintro e w1 ⟨rfl, hb1⟩
      go_wp2_with fail
      go_ret
      exact ⟨rfl, hb1⟩
    · have h2 : 1000 < next := by omega
      clear h
      go_enter Try.func9, Try.ntmps9
      go_wp2_with fail
      refine (live_any w).mono ?_
      rintro e w1 ⟨rfl, hb1⟩
      go_wp2_with fail
      go_ret
      exact ⟨rfl, hb1⟩

set_option maxRecDepth 30000 in
set_option maxHeartbeats 4000000 in
theorem negated_err (A D : Option Addr) (n c m d : Nat) (next k : Int) (zs : List Int) (w : World) (hr : RdI w.heap.size w A zs) (hl : zs.length = n) (hn : n ≤ 12) (hm : m ≤ 3000) (hx : next ≤ 1000) (hk : k ≠ 0)
    (hT : ∀ W : World, RdI W.heap.size W A zs → Calls Try.prog 11 #[.slice A n c, .int .i64 (n : Int), .int .i64 next] W (TotErr W k)) :
    Calls Try.prog 9 #[.slice A n c, .int .i64 next, .slice D m d] w fun e w' => e = .returned (.bool true) ∧ Below w.heap.size w w' := by
  obtain ⟨ys, hys⟩ : ∃ ys, zs.map ng = ys := ⟨_, rfl⟩
  have Hys := Lib.hid hys
  have Hl := Lib.hid hl
  have HT := Lib.hid hT
  clear hl hT hys
  go_enter Try.func9, Try.ntmps9
  go_wp2_with fail
  refine (live_any w).mono ?_
  rintro e w1 ⟨rfl, hb1⟩
  have hsz1 := hb1.size
  have hz0 := RowI.zero w.heap.size w1 hsz1
  have hb0 := hb1.alloc hsz1 (.cells #[] 3)
  go_wp2_with fail
  go_loopw [7, 8] (fun v i wr => ∃ j : Nat, j ≤ n ∧ i = .int .i64 j ∧ RowI wr w.heap.size v (ys.take j) ∧ Below w.heap.size w wr) (fun _ i _ => n - (intOf i).toNat)
  case atStart => exact ⟨0, by omega, rfl, by simpa using hz0, hb0⟩
  case round =>
    obtain ⟨j, hj, rfl, hrow, hb⟩ := hrel
    by_cases hlt : j < n
    · have hjo : j < zs.length := by rw [Hl.out]; exact hlt
      have hwf := hr.wf hjo
      obtain ⟨b, off, rfl, _, hc⟩ := (hr.below hb (Nat.le_refl _)).2 (by omega)
      have hc1 := hc j hjo
      have htk := ng_take zs j hjo
      rw [Hys.out] at htk
      have hfl : (ys.take j).length ≤ 1000000 := by rw [List.length_take]; omega
      have Hr := Lib.hid hr
      clear hc hjo hz0 hb0 hr
      generalize zs[j]?.getD 0 = x at *
      have hyw := ng_wf hwf
      obtain ⟨y, hy⟩ : ∃ y, ng x = y := ⟨_, rfl⟩
      rw [hy] at htk hyw
      have Hy := Lib.hid hy
      have Htk := Lib.hid htk
      have Hyw := Lib.hid hyw
      have hszr := hb.size
      clear hy htk hyw
      by_cases hmn : x = -9223372036854775808
      · have hy2 : y = -9223372036854775808 := by
          have := Hy.out
          unfold ng at this
          rw [if_pos hmn] at this
          omega
        subst hmn hy2
        go_wp2_with (at_builtin; refine wpList_push rfl _ _ rfl w.heap.size _ _ rfl hrow (wrap64 9223372036854775808) (by rw [wrap_min]; exact Hyw.out) rfl hfl hszr ?_)
        intro v' w' hrow' hb'
        rw [wrap_min] at hrow'
        rw [← Htk.out] at hrow'
        have hbn := hb.trans hb'
        go_wp2_with fail
        go_roundw
        case rel => exact ⟨j + 1, by omega, by go_num, hrow', hbn⟩
        case measure => simp [intOf]; omega
      · have hy2 : y = -x := by
          have := Hy.out
          unfold ng at this
          rw [if_neg hmn] at this
          omega
        obtain ⟨hw1, hw2⟩ := hwf
        have hw1 : -9223372036854775808 < x := by omega
        subst hy2
        clear hmn
        go_wp2_with (at_builtin; refine wpList_push rfl _ _ rfl w.heap.size _ _ rfl hrow (-x) Hyw.out rfl hfl hszr ?_)
        intro v' w' hrow' hb'
        rw [← Htk.out] at hrow'
        have hbn := hb.trans hb'
        go_wp2_with fail
        go_roundw
        case rel => exact ⟨j + 1, by omega, by go_num, hrow', hbn⟩
        case measure => simp [intOf]; omega
    · obtain rfl : j = n := by omega
      clear hz0 hb0
      go_wp2_with fail
      refine (HT.out wr (hr.below hb (Nat.le_refl _) |>.more hb.size)).mono ?_
      rintro e w2 ⟨rfl, hb2⟩
      have hb12 := hb.trans (hb2.mono hb.size)
      go_wp2_with fail
      go_ret
      exact ⟨rfl, hb12⟩

set_option maxRecDepth 30000 in
set_option maxHeartbeats 8000000 in
theorem negated_ok (A D : Option Addr) (n c m d C a C' a' : Nat) (next : Int) (zs outs outs' : List Int) (cl cl' : List (List Int)) (ab : List Bool) (w : World) (hr : RdI w.heap.size w A zs) (hl : zs.length = n) (hn : n ≤ 12)
    (hD : RdB w.heap.size w D ab) (hm : ab.length = m) (hm2 : m ≤ 3000) (hnx : next ≤ 1000)
    (hT : ∀ W : World, RdI W.heap.size W A zs → Calls Try.prog 11 #[.slice A n c, .int .i64 (n : Int), .int .i64 next] W (TotOk W outs cl a))
    (hT2 : ∀ (W : World) (G : Option Addr) (c' : Nat), n ≤ c' → c' ≤ maxLen → RdI W.heap.size W G (zs.map ng) → Calls Try.prog 11 #[.slice G n c', .int .i64 (n : Int), .int .i64 (a : Int)] W (TotOk W outs' cl' a'))
    (h2 : a' ≤ 4000) (hN : outs.length = n) (hC : cl.length = C) (hN' : outs'.length = n) (hC' : cl'.length = C') (hC2 : C ≤ maxLen) (hC3 : C' ≤ maxLen)
    (hlo : ∀ x ∈ outs, Lit a' x) (hlc : ∀ x ∈ cl, ∀ y ∈ x, Lit a' y) (hlo' : ∀ x ∈ outs', Lit a' x) (hlc' : ∀ x ∈ cl', ∀ y ∈ x, Lit a' y)
    (hsame : sat (pad ab a') cl = true → sat (pad ab a') cl' = true → ∀ i q, n = i + 1 + q → tv (pad ab a') (outs[q]?.getD 0) = !tv (pad ab a') (outs'[i]?.getD 0)) :
    Calls Try.prog 9 #[.slice A n c, .int .i64 next, .slice D m d] w fun e w' => e = .returned (.bool true) ∧ Below w.heap.size w w' := by
  obtain ⟨ys, hys⟩ : ∃ ys, zs.map ng = ys := ⟨_, rfl⟩
  rw [hys] at hT2
  have Hys := Lib.hid hys
  have hyl : ys.length = n := by rw [← hys, List.length_map, hl]
  have Hyl := Lib.hid hyl
  have Hl := Lib.hid hl
  have HT := Lib.hid hT
  have HT2 := Lib.hid hT2
  have HN := Lib.hid (And.intro hN (And.intro hC (And.intro hN' hC')))
  have Hsame := Lib.hid hsame
  have Hlo := Lib.hid hlo
  have Hlc := Lib.hid hlc
  have Hlo' := Lib.hid hlo'
  have Hlc' := Lib.hid hlc'
  have Hm := Lib.hid hm
  clear hl hN hC hN' hC' hsame hlo hlc hlo' hlc' hm hyl hT hT2 hys
  have hpl := pad_length ab a'
  have Hpl := Lib.hid hpl
  have Hpad := Lib.hid (fun W A (hr : RdB w.heap.size W A ab) hB c => padded_any w.heap.size A m a' c ab W hr hB Hm.out (by unfold maxLen; omega) (by omega))
  clear hpl
  generalize pad ab a' = bs at *
  go_enter Try.func9, Try.ntmps9
  go_wp2_with fail
  refine (live_any w).mono ?_
  rintro e w1 ⟨rfl, hb1⟩
  have hsz1 := hb1.size
  have hz0 := RowI.zero w.heap.size w1 hsz1
  have hb0 := hb1.alloc hsz1 (.cells #[] 3)
  go_wp2_with fail
  go_loopw [7, 8] (fun v i wr => ∃ j : Nat, j ≤ n ∧ i = .int .i64 j ∧ RowI wr w.heap.size v (ys.take j) ∧ Below w.heap.size w wr) (fun _ i _ => n - (intOf i).toNat)
  case atStart => exact ⟨0, by omega, rfl, by simpa using hz0, hb0⟩
  case round =>
    obtain ⟨j, hj, rfl, hrow, hb⟩ := hrel
    by_cases hlt : j < n
    · have hjo : j < zs.length := by rw [Hl.out]; exact hlt
      have hwf := hr.wf hjo
      obtain ⟨b, off, rfl, _, hc⟩ := (hr.below hb (Nat.le_refl _)).2 (by omega)
      have hc1 := hc j hjo
      have htk := ng_take zs j hjo
      rw [Hys.out] at htk
      have hfl : (ys.take j).length ≤ 1000000 := by rw [List.length_take]; omega
      have Hr := Lib.hid hr
      clear hc hjo hz0 hb0 hr
      generalize zs[j]?.getD 0 = x at *
      have hyw := ng_wf hwf
      obtain ⟨y, hy⟩ : ∃ y, ng x = y := ⟨_, rfl⟩
      rw [hy] at htk hyw
      have Hy := Lib.hid hy
      have Htk := Lib.hid htk
      have Hyw := Lib.hid hyw
      have hszr := hb.size
      clear hy htk hyw
      by_cases hmn : x = -9223372036854775808
      · have hy2 : y = -9223372036854775808 := by
          have := Hy.out
          unfold ng at this
          rw [if_pos hmn] at this
          omega
        subst hmn hy2
        go_wp2_with (at_builtin; refine wpList_push rfl _ _ rfl w.heap.size _ _ rfl hrow (wrap64 9223372036854775808) (by rw [wrap_min]; exact Hyw.out) rfl hfl hszr ?_)
        intro v' w' hrow' hb'
        rw [wrap_min] at hrow'
        rw [← Htk.out] at hrow'
        have hbn := hb.trans hb'
        go_wp2_with fail
        go_roundw
        case rel => exact ⟨j + 1, by omega, by go_num, hrow', hbn⟩
        case measure => simp [intOf]; omega
      · have hy2 : y = -x := by
          have := Hy.out
          unfold ng at this
          rw [if_neg hmn] at this
          omega
        obtain ⟨hw1, hw2⟩ := hwf
        have hw1 : -9223372036854775808 < x := by omega
        subst hy2
        clear hmn
        go_wp2_with (at_builtin; refine wpList_push rfl _ _ rfl w.heap.size _ _ rfl hrow (-x) Hyw.out rfl hfl hszr ?_)
        intro v' w' hrow' hb'
        rw [← Htk.out] at hrow'
        have hbn := hb.trans hb'
        go_wp2_with fail
        go_roundw
        case rel => exact ⟨j + 1, by omega, by go_num, hrow', hbn⟩
        case measure => simp [intOf]; omega
    · obtain rfl : j = n := by omega
      clear hz0 hb0
      have hyt : ys.take j = ys := by rw [← Hyl.out, List.take_length]
      rw [hyt] at hrow
      obtain ⟨G, c', rfl, hc1, hc2, hg⟩ := hrow.shape
      rw [Hyl.out] at hc1 ⊢
      have hgs : RdI wr.heap.size wr G ys := hg
      clear hrow hyt hg
      have hszr := hb.size
      have hr := hr.below hb (Nat.le_refl _)
      have hD := hD.below hb (Nat.le_refl _)
      go_wp2_with fail
      refine (HT.out wr (hr.more hszr)).mono ?_
      intro e w2 q
      obtain ⟨A1, c1, A2, c2, rfl, r1, r2, hb2, hlen⟩ := q.read2
      clear q
      rw [HN.out.1, HN.out.2.1]
      have hb12 := hb.trans (hb2.mono hszr)
      have hgs := hgs.below hb2 (Nat.le_refl _)
      have hD := hD.below (hb2.mono hszr) (Nat.le_refl _)
      have hsr2 := hb2.size
      have Hlen := Lib.hid hlen
      clear hb2 hlen HT hr hb
      go_wp2_with fail
      refine (HT2.out w2 G c' hc1 hc2 (hgs.more hsr2)).mono ?_
      intro e w3 q
      obtain ⟨A3, c3, A4, c4, rfl, r3, r4, hb3, hlen'⟩ := q.read2
      clear q
      rw [HN.out.2.2.1, HN.out.2.2.2]
      have hb13 := hb12.trans (hb3.mono hb12.size)
      have Hlen' := Lib.hid hlen'
      have hsz2 := hb3.size
      have hsz12 := hb12.size
      have r1 := (r1.below hb3 (Nat.le_refl _)).more hsz2
      have r2 := r2.below hb3 (Nat.le_refl _)
      have hD := hD.below (hb3.mono hsz12) (Nat.le_refl _)
      clear hb12 hb3 hlen' HT2 hgs
      have hP := Lib.hid (Hpad.out w3 D hD hb13.size d)
      have hsz := hb13.size
      clear Hpad hD
      go_wp2_with fail
      refine hP.out.mono ?_
      rintro e w4 ⟨rfl, hrow, hb4⟩
      have hb14 := hb13.trans (hb4.mono hsz)
      have r1 := r1.below hb4 (Nat.le_refl _)
      have r3 := r3.below hb4 (Nat.le_refl _)
      have r2 := r2.below (hb4.mono hsz2) (Nat.le_refl _)
      have r4 := r4.below hb4 (Nat.le_refl _)
      have hrd := hrow.rd
      have hsz4 := hb4.size
      have hsz14 := hb14.size
      clear hP hrow hb13
      generalize (some ⟨w3.heap.size, 0, Option.none⟩ : Option Addr) = F at *
      have hS := Lib.hid (sat_any w4.heap.size w2.heap.size F A2 a' C c2 (a' + 1) (a' + 1) cl bs w4 r2 (by omega) HN.out.2.1 hC2 Hlen.out hrd (Nat.le_refl _) Hpl.out Hlc.out (by omega) (by omega) (by omega))
      have hS' := fun W hr hrd h4 => Lib.hid (sat_any w4.heap.size w3.heap.size F A4 a' C' c4 (a' + 1) (a' + 1) cl' bs W hr (by omega) HN.out.2.2.2 hC3 Hlen'.out hrd h4 Hpl.out Hlc'.out (by omega) (by omega) (by omega))
      clear r2 hb4
      cases hs : sat bs cl with
      | false =>
        rw [hs] at hS
        go_wp2_with fail
        refine hS.out.mono ?_
        rintro e w5 ⟨rfl, hb5⟩
        have hb15 := hb14.trans (hb5.mono hsz14)
        go_wp2_with fail
        go_ret
        exact ⟨rfl, hb15⟩
      | true =>
        rw [hs] at hS
        have Hs := Lib.hid (Hsame.out hs)
        clear hs Hsame
        go_wp2_with fail
        refine hS.out.mono ?_
        rintro e w5 ⟨rfl, hb5⟩
        have hb15 := hb14.trans (hb5.mono hsz14)
        have r1 := r1.below (hb5.mono hsz4) (Nat.le_refl _)
        have r3 := r3.below (hb5.mono hsz4) (Nat.le_refl _)
        have r4 := r4.below (hb5.mono hsz4) (Nat.le_refl _)
        have hrd := hrd.below hb5 (Nat.le_refl _)
        have hsz5 := hb5.size
        have hS2 := hS' w5 r4 hrd (by omega)
        clear hS hS' hb5 hb14 r4
        cases hs : sat bs cl' with
        | false =>
          rw [hs] at hS2
          go_wp2_with fail
          refine hS2.out.mono ?_
          rintro e w6 ⟨rfl, hb6⟩
          have hb16 := hb15.trans (hb6.mono (by omega))
          go_wp2_with fail
          go_ret
          exact ⟨rfl, hb16⟩
        | true =>
          rw [hs] at hS2
          have Hs := Lib.hid (Hs.out hs)
          clear hs
          go_wp2_with fail
          refine hS2.out.mono ?_
          rintro e w6 ⟨rfl, hb6⟩
          have hb16 := hb15.trans (hb6.mono (by omega))
          have r1 := r1.below (hb6.mono (by omega)) (Nat.le_refl _)
          have r3 := r3.below (hb6.mono (by omega)) (Nat.le_refl _)
          have hrd := hrd.below (hb6.mono hsz5) (Nat.le_refl _)
          clear hS2 hb6 hb15
          go_wp2_with fail
          go_loopw [18] (fun i wr => ∃ i' k : Nat, i' ≤ j ∧ i = .int .i64 i' ∧ wr = w6.drewN k) (fun i _ => j - (intOf i).toNat)
          case atStart => exact ⟨0, 0, by omega, rfl, rfl⟩
          case round =>
            obtain ⟨i, k, hi, rfl, rfl⟩ := hrel
            by_cases hlt : i < j
            · obtain ⟨q, hq⟩ : ∃ q, j = i + 1 + q := ⟨j - (i + 1), by omega⟩
              have hio : q < outs.length := by rw [HN.out.1]; omega
              have hio' : i < outs'.length := by rw [HN.out.2.2.1]; exact hlt
              have hmem : outs[q]?.getD 0 ∈ outs := by rw [List.getElem?_eq_getElem hio]; exact List.getElem_mem _
              have hmem' : outs'[i]?.getD 0 ∈ outs' := by rw [List.getElem?_eq_getElem hio']; exact List.getElem_mem _
              obtain ⟨b, off, rfl, _, hc⟩ := r1.2 (by omega)
              have hk1 := hc q hio
              obtain ⟨b', off', rfl, _, hc'⟩ := r3.2 (by omega)
              have hk2 := hc' i hio'
              have hx := Hs.out i q hq
              have hL := fun p => lit_any w4.heap.size F a' (a' + 1) (a' + 1) bs (outs[q]?.getD 0) (w6.drewN p) hrd Hpl.out (Hlo.out _ hmem) (by omega) (by omega)
              have hL' := fun p => lit_any w4.heap.size F a' (a' + 1) (a' + 1) bs (outs'[i]?.getD 0) (w6.drewN p) hrd Hpl.out (Hlo'.out _ hmem') (by omega) (by omega)
              rw [hx] at hL
              have v1 : (j : Int) - 1 - (i : Int) = (q : Int) := by omega
              have hqj : q < j := by omega
              clear hc hc' r1 r3 hrd hmem hmem' hio hio' hx hq
              generalize outs[q]?.getD 0 = x at *
              generalize outs'[i]?.getD 0 = y at *
              generalize tv bs y = z at *
              have HL := Lib.hid hL
              have HL' := Lib.hid hL'
              clear hL hL'
              go_wp2
              go_quiet ((first | (go_at_call_of 18 x; exact quiet_still (HL.out _)) | (go_at_call_of 18 y; exact quiet_still (HL'.out _))))
              go_wp2
              go_roundw
              case rel => exact ⟨i + 1, _, by omega, by go_num, rfl⟩
              case measure => simp [intOf]; omega
            · obtain rfl : i = j := by omega
              go_wp2_with fail
              go_ret
              exact ⟨rfl, below_drewN hb16 k⟩

theorem negated_any (A D : Option Addr) (n c m d : Nat) (next : Int) (zs : List Int) (ab : List Bool) (w : World) (hr : RdI w.heap.size w A zs) (hl : zs.length = n) (hnc : n ≤ c) (hc : c ≤ maxLen) (hD : RdB w.heap.size w D ab) (hm : ab.length = m) :
    Calls Try.prog 9 #[.slice A n c, .int .i64 next, .slice D m d] w fun e w' => e = .returned (.bool true) ∧ Below w.heap.size w w' := by
  by_cases h : 12 < n ∨ 3000 < m ∨ 1000 < next
  · exact negated_out A D n c m d next w h
  · have hn : n ≤ 12 := by omega
    have hcl : ∀ (M f : Nat) (l : List Int), l.length = n → (Tot.cnt M l f).2.length ≤ maxLen := fun M f l hl => by
      have h1 := cnt_clauses40 (most := M) n l f (by omega) (by omega)
      have h2 := Nat.mul_le_mul (Nat.le_refl 882) (show l.length - 1 ≤ 11 by omega)
      unfold maxLen
      omega
    have hsz : ∀ M, Tot.size M n ≤ 144 := fun M => Nat.le_trans (size_le M n n (Nat.le_refl _)) (Nat.mul_le_mul hn hn)
    rcases Total_ways A n c (n : Int) next zs hl (by omega) with ⟨k, hk, hT⟩ | ⟨M, f, hM0, rfl, h1, h2, hM, hd, hz, hs⟩
    · exact negated_err A D n c m d next k zs w hr hl hn (by omega) (by omega) hk hT
    · obtain rfl : n = M := by omega
      have hs1 := hsz n
      have hT : ∀ W : World, RdI W.heap.size W A zs → Calls Try.prog 11 #[.slice A n c, .int .i64 (n : Int), .int .i64 (f : Int)] W (TotOk W (Tot.cnt n zs f).1 (Tot.cnt n zs f).2 (f + Tot.size n n)) :=
        fun W hW => Total_ok A n c n f zs W hW hl hnc hc (by omega) h1 h2 hM hz hd hs
      have hlit := dist_lit zs [] hd
      obtain ⟨g1, g2⟩ := cnt_good (most := n) h1 n zs f (by omega) (Nat.le_refl _) hlit
      rw [hl] at g1 g2
      have hng := ng_map hlit h2
      have hdn : Tot.dist (f : Int) [] (zs.map ng) = true := by rw [hng]; exact dist_neg zs [] hd
      have hd' : Tot.dist ((f + Tot.size n n : Nat) : Int) [] (zs.map ng) = true := dist_mono (by omega) (zs.map ng) [] hdn
      have hlit' := dist_lit (zs.map ng) [] hd'
      have hl' : (zs.map ng).length = n := by rw [List.length_map, hl]
      have hz' : ∀ x ∈ zs.map ng, -65537 ≤ x ∧ x ≤ 65537 := fun x hx => by have := hlit' x hx; exact ⟨by have := this.2.1; omega, by have := this.2.2; omega⟩
      obtain ⟨g1', g2'⟩ := cnt_good (most := n) (show 1 ≤ f + Tot.size n n by omega) n (zs.map ng) (f + Tot.size n n) (by omega) (Nat.le_refl _) hlit'
      rw [hl'] at g1' g2'
      have e1 : (Tot.cnt n zs f).1.length = n := by rw [cnt_length, hl]; omega
      have e2 : (Tot.cnt n (zs.map ng) (f + Tot.size n n)).1.length = n := by rw [cnt_length, hl']; omega
      refine negated_ok A D n c m d _ (f + Tot.size n n) _ (f + Tot.size n n + Tot.size n n) _ zs _ _ _ _ ab w hr hl hn hD hm (by omega) (by omega) hT
        (fun W G c' q1 q2 hW => Total_ok G n c' n (f + Tot.size n n) (zs.map ng) W hW hl' q1 q2 (by omega) (by omega) (by omega) hM hz' hd' (by omega)) (by omega) e1 rfl e2 rfl (hcl _ _ zs hl) (hcl _ _ _ hl')
        (fun x hx => (g1 x hx).mono (by omega)) (fun x hx y hy => ((g2 x hx).2.2 y hy).mono (by omega)) g1' (fun x hx => (g2' x hx).2.2) ?_
      intro q1 q2 i q hiq
      have hct := ctf_neg (tv_negok (pad ab (f + Tot.size n n + Tot.size n n))) zs (lit_nz hlit)
      rw [← hng] at hct
      rw [outs_count h1 (lit_nz hlit) q1 (by omega), outs_count (by omega) (lit_nz hlit') q2 (by omega)]
      have hct : ct (pad ab (f + Tot.size n n + Tot.size n n)) (zs.map ng) + ct (pad ab (f + Tot.size n n + Tot.size n n)) zs = zs.length := hct
      by_cases hq : (i : Int) < (ct (pad ab (f + Tot.size n n + Tot.size n n)) (zs.map ng) : Int)
      · rw [decide_eq_true hq, decide_eq_false (by omega)]; rfl
      · rw [decide_eq_false hq, decide_eq_true (by omega)]; rfl

set_option maxRecDepth 100000 in
theorem totalNegated_lifted (os : Os) (started : os.Started) (H : Type) (enc : TypeId × Value → H) :
    ReturnsInHanded {} Try.checked os 9 .any (Rows.totalNegatedSpec.pre6 enc Try.prog Try.f9 Rows.totalNegatedRow.domain false) (Rows.totalNegatedSpec.post enc Try.prog Try.f9 false true false false) := by
  refine returnsInHanded_of_change (C := Try.checked) Try_own started (by kernel_rfl) Try.func9
    (ChangeSpec.witness6 (enc := enc) (C := Try.checked) false ⟨#[], #[.slice Option.none 0 0, .int .i64 0, .slice Option.none 0 0], []⟩ 9 (by kernel_rfl) (by kernel_rfl) (by kernel_rfl) (by kernel_rfl)) ?_
  intro W base args ds gs before hval0 hW _ _
  have hval : ∀ (j : Nat) t v, Try.f9.params[j]? = some t → args[j]? = some v → Value.okWide Try.prog W .any base t v := hval0
  have hW' := hW
  obtain ⟨p, q, hA0, hV, rfl, _, _⟩ := hW
  have hA : DataW.TrodAll enc Try.prog W 0 (fun _ => true) true Try.f9.params.toList args.toList ds p := hA0
  have hpar : Try.f9.params = #[22, 3, 31] := rfl
  rw [hpar] at hA hval
  have hlt : ∀ x ∈ p, x.block < W.heap.size := fun x hx => hW'.lt x (List.mem_append_left _ hx)
  obtain ⟨rfl, rfl⟩ := trodVars_none hV
  clear hA0 hval0
  obtain ⟨v0, vs0, d0, ds0, p0, q0, hargs0, rfl, rfl, h0, r0⟩ := trodAll_cons hA
  obtain ⟨v1, vs1, d1, ds1, p1, q1, hargs1, rfl, rfl, h1, r1⟩ := trodAll_cons r0
  obtain ⟨v2, vs2, d2, ds2, p2, q2, hargs2, rfl, rfl, h2, r2⟩ := trodAll_cons r1
  obtain ⟨hlast, rfl, rfl⟩ := trodAll_nil r2
  obtain rfl : args = #[v0, v1, v2] := by
    apply Array.toList_inj.1
    rw [hargs0, hargs1, hargs2, hlast]
  obtain ⟨A0, n0, cap0, zs0, rfl, hr0, hl0, hlc0, hm0, _⟩ := open_intlist (hval 0 22 v0 rfl rfl) h0 (fun x hx => hlt x (List.mem_append_left _ hx))
  obtain ⟨n1, rfl, rfl, rfl, wf1⟩ := open_int underlying3' (hval 1 3 v1 rfl rfl) h1
  obtain ⟨A2, n2, cap2, bs2, rfl, hr2, hl2, hlc2, hm2⟩ := open_boollist (hval 2 31 v2 rfl rfl) h2 (fun x hx => hlt x (List.mem_append_right _ (List.mem_append_right _ (List.mem_append_left _ hx))))
  refine (negated_any A0 A2 n0 cap0 n2 cap2 n1 zs0 bs2 W hr0 hl0 hlc0 hm0 hr2 hl2).mono fun e W' ⟨he, hb⟩ => ?_
  subst he
  exact ⟨_, rfl, law_post Try_laidOut hW' rfl (by rw [hpar]; decide +kernel) 4 rfl Try.underlying4 rfl hb⟩

theorem totalNegated_holds : Rows.TotalNegatedSaid :=
  OpenClaim.holds_of_wide 9 Try.f9 rfl rfl rfl rfl rfl rfl rfl ⟨rfl, rfl, rfl, rfl, rfl⟩ rfl rfl rfl rfl rfl (by kernel_rfl) Try.func9 (by kernel_rfl)
    (of_decide_eq_true (by kernel_rfl)) (by unfold Func.isWrapper; first | (rw [if_pos (by decide +kernel)]; kernel_rfl) | (rw [if_neg (by decide +kernel)]; exact ⟨rfl, rfl⟩))
    (fun os started H enc _ => totalNegated_lifted os started H enc)
end Go.Proofs.Ytppgpafnifmmfaa
