/- For every slice of integers and all numbers the law AdderLeastMonotone answers true at the landed code and changes nothing that came in: if the clauses of a greater bound hold, so do those of a smaller one, as far as it is tried. Conditions: those of the statement alone. -/
import Derived.Test.YtpeklcbjhkchlaaLeastM
namespace Go.Proofs.Ytpeklcbjhkchlaa
open Go.ChangeShapes Go.WideShapes Go.ChangeAt Go.RowKit
set_option maxRecDepth 100000

theorem mono_out (A : Option Addr) (n c : Nat) (k y pick : Int) (w : World) (h : 60 < n ∨ y < 0 ∨ 1099511627776 < y ∨ 1099511627776 < k) :
    Calls Try.prog 11 #[.slice A n c, .int .i64 k, .int .i64 y, .int .i64 pick] w fun e w' => e = .returned (.bool true) ∧ Below w.heap.size w w' := by
  by_cases h1 : 60 < n
  · clear h
    go_enter Try.func11, Try.ntmps11
    go_wp2_with fail
    refine (live_any w).mono ?_
    rintro e w1 ⟨rfl, hb1⟩
    go_wp2_with fail
    go_ret
    exact ⟨rfl, hb1⟩
  · by_cases h2 : y < 0
    · clear h
      go_enter Try.func11, Try.ntmps11
      go_wp2_with fail
      refine (live_any w).mono ?_
      rintro e w1 ⟨rfl, hb1⟩
      go_wp2_with fail
      go_ret
      exact ⟨rfl, hb1⟩
    · by_cases h3 : 1099511627776 < y
      · have h2' : 0 ≤ y := by omega
        clear h h2
        go_enter Try.func11, Try.ntmps11
        go_wp2_with fail
        refine (live_any w).mono ?_
        rintro e w1 ⟨rfl, hb1⟩
        go_wp2_with fail
        go_ret
        exact ⟨rfl, hb1⟩
      · have h4 : 1099511627776 < k := by omega
        have h2' : 0 ≤ y := by omega
        have h3' : y ≤ 1099511627776 := by omega
        clear h h2 h3
        go_enter Try.func11, Try.ntmps11
        go_wp2_with fail
        refine (live_any w).mono ?_
        rintro e w1 ⟨rfl, hb1⟩
        go_wp2_with fail
        go_ret
        exact ⟨rfl, hb1⟩

set_option maxHeartbeats 8000000 in
theorem mono_neg (A : Option Addr) (n c : Nat) (k y pick : Int) (zs : List Int) (w : World) (hr : RdI w.heap.size w A zs) (hl : zs.length = n) (hn : n ≤ 60) (hk : k < 0) (hkw : -9223372036854775808 ≤ k) (hy1 : 0 ≤ y) (hy2 : y ≤ 1099511627776) :
    Calls Try.prog 11 #[.slice A n c, .int .i64 k, .int .i64 y, .int .i64 pick] w fun e w' => e = .returned (.bool true) ∧ Below w.heap.size w w' := by
  go_enter Try.func11, Try.ntmps11
  go_wp2_with fail
  refine (live_any w).mono ?_
  rintro e w1 ⟨rfl, hb1⟩
  have hr1 := RdI.more (hr.below hb1 (Nat.le_refl _)) hb1.size
  have R := Lib.hid hr1
  have Hl := Lib.hid hl
  clear hr hr1 hl
  go_wp2_with fail
  go_loopw [9] (fun i wr => ∃ j : Nat, j ≤ n ∧ i = .int .i64 j ∧ (∀ q, q < j → -60 ≤ zs[q]?.getD 0 ∧ zs[q]?.getD 0 ≤ 60) ∧ ∃ k, wr = w1.drewN k) (fun i _ => n - (intOf i).toNat)
  case atStart => exact ⟨0, by omega, rfl, fun q hq => absurd hq (Nat.not_lt_zero q), 0, rfl⟩
  case round =>
    obtain ⟨j, hj, rfl, hsm, k1, rfl⟩ := hrel
    by_cases hlt : j < n
    · obtain ⟨b, off, rfl, _, hc⟩ := R.out.2 (by rw [Hl.out]; omega)
      have hc1 := hc j (by rw [Hl.out]; exact hlt)
      have hsm2 : -60 ≤ zs[j]?.getD 0 → zs[j]?.getD 0 ≤ 60 → ∀ q, q < j + 1 → -60 ≤ zs[q]?.getD 0 ∧ zs[q]?.getD 0 ≤ 60 := fun h1 h2 q hq => by
        rcases Nat.lt_or_ge q j with g | g
        · exact hsm q g
        · rw [show q = j by omega]; exact ⟨h1, h2⟩
      have Hsm := Lib.hid hsm2
      clear hc hsm hsm2 R
      generalize zs[j]?.getD 0 = z at *
      obtain ⟨M, hM⟩ : ∃ M, max z (wrap64 (-z)) = M := ⟨_, rfl⟩
      have hzM : z ≤ M := by omega
      have hM2 : max z (IntKind.i64.wrap (-z)) = M := by rw [IntWalk.i64_left]; exact hM
      by_cases h1 : 60 < M
      · clear hzM Hsm
        have f1 : decide (60 < M) = true := decide_eq_true h1
        go_wp2_with fail
        go_quiet (fail)
        go_wp2_with fail
        go_ret
        exact ⟨rfl, below_drewN (below_drewN hb1 k1) _⟩
      · by_cases h2 : z < -60
        · clear hzM Hsm
          have f1 : decide (60 < M) = false := decide_eq_false h1
          have f2 : decide (z < -60) = true := decide_eq_true h2
          go_wp2_with fail
          go_quiet (fail)
          go_wp2_with fail
          go_ret
          exact ⟨rfl, below_drewN (below_drewN hb1 k1) _⟩
        · have Hs2 := Lib.hid (Hsm.out (by omega) (by omega))
          have f1 : decide (60 < M) = false := decide_eq_false h1
          have f2 : decide (z < -60) = false := decide_eq_false h2
          clear hzM Hsm
          go_wp2_with fail
          go_quiet (fail)
          go_wp2_with fail
          go_roundw
          case rel => exact ⟨j + 1, by omega, by go_num, Hs2.out, _, rfl⟩
          case measure => simp [intOf]; omega
    · obtain rfl : j = n := by omega
      have hL := Lib.hid (Least_low A j c k (w1.drewN k1) (.inl hk))
      have hL2 : ∀ (W : World), RdI W.heap.size W A zs → ∃ (cl : List (List Int)) (E : Int), Calls Try.prog 17 #[.slice A j c, .int .i64 (k + y)] W (LeRes W cl E) := fun W hW => by
        by_cases h1 : k + y < 0 ∨ 4503599627370496 < k + y
        · exact ⟨[], 1, Least_low A j c _ W h1⟩
        · obtain ⟨K, hK⟩ := Int.eq_ofNat_of_zero_le (show 0 ≤ k + y by omega)
          rw [hK]
          refine ⟨_, 0, Least_any _ A j c K zs W hW (Nat.le_refl _) Hl.out (by omega) ?_ hn⟩
          rw [List.any_eq_false]
          intro x hx
          obtain ⟨q, hq, rfl⟩ := List.mem_iff_getElem.1 hx
          have := hsm q (by rw [← Hl.out]; exact hq)
          rw [List.getElem?_eq_getElem hq, Option.getD_some] at this
          unfold farB
          rw [decide_eq_false (by omega), decide_eq_false (by omega)]; simp
      have HL2 := Lib.hid hL2
      have RR := Lib.hid (show RdI (w1.drewN k1).heap.size (w1.drewN k1) A zs from R.out)
      have hb2 := below_drewN hb1 k1
      clear hsm hL2 R
      generalize w1.drewN k1 = w2 at *
      go_wp2_with fail
      refine hL.out.mono ?_
      rintro e w3 ⟨A3, c3, rfl, _, hb3, _⟩
      have hb13 := hb2.trans (hb3.mono hb2.size)
      obtain ⟨cl, E, hC⟩ := HL2.out w3 (RdI.more (RR.out.below hb3 (Nat.le_refl _)) hb3.size)
      have HC := Lib.hid hC
      clear hC HL2 RR hL hb3 hb2
      obtain ⟨K3, hK3⟩ : ∃ K3, ([] : List (List Int)).length = K3 := ⟨_, rfl⟩
      go_wp2_with fail
      refine HC.out.mono ?_
      rintro e w4 ⟨A4, c4, rfl, _, hb4, _⟩
      have hb14 := hb13.trans (hb4.mono hb13.size)
      clear HC hb4 hb13
      generalize cl.length = K4
      go_wp2_with fail
      go_ret
      exact ⟨rfl, hb14⟩

set_option maxHeartbeats 8000000 in
theorem mono_main (A : Option Addr) (n c K Y : Nat) (pick : Int) (zs : List Int) (w : World) (hr : RdI w.heap.size w A zs) (hl : zs.length = n) (hn : n ≤ 60) (hk2 : K ≤ 1099511627776) (hy2 : Y ≤ 1099511627776) (hp : Wf pick) :
    Calls Try.prog 11 #[.slice A n c, .int .i64 (K : Int), .int .i64 (Y : Int), .int .i64 pick] w fun e w' => e = .returned (.bool true) ∧ Below w.heap.size w w' := by
  go_enter Try.func11, Try.ntmps11
  go_wp2_with fail
  refine (live_any w).mono ?_
  rintro e w1 ⟨rfl, hb1⟩
  have hr1 := RdI.more (hr.below hb1 (Nat.le_refl _)) hb1.size
  have R := Lib.hid hr1
  have Hl := Lib.hid hl
  clear hr hr1 hl
  go_wp2_with fail
  go_loopw [9] (fun i wr => ∃ j : Nat, j ≤ n ∧ i = .int .i64 j ∧ (∀ q, q < j → -60 ≤ zs[q]?.getD 0 ∧ zs[q]?.getD 0 ≤ 60) ∧ ∃ k, wr = w1.drewN k) (fun i _ => n - (intOf i).toNat)
  case atStart => exact ⟨0, by omega, rfl, fun q hq => absurd hq (Nat.not_lt_zero q), 0, rfl⟩
  case round =>
    obtain ⟨j, hj, rfl, hsm, k1, rfl⟩ := hrel
    by_cases hlt : j < n
    · obtain ⟨b, off, rfl, _, hc⟩ := R.out.2 (by rw [Hl.out]; omega)
      have hc1 := hc j (by rw [Hl.out]; exact hlt)
      have hsm2 : -60 ≤ zs[j]?.getD 0 → zs[j]?.getD 0 ≤ 60 → ∀ q, q < j + 1 → -60 ≤ zs[q]?.getD 0 ∧ zs[q]?.getD 0 ≤ 60 := fun h1 h2 q hq => by
        rcases Nat.lt_or_ge q j with g | g
        · exact hsm q g
        · rw [show q = j by omega]; exact ⟨h1, h2⟩
      have Hsm := Lib.hid hsm2
      clear hc hsm hsm2 R
      generalize zs[j]?.getD 0 = z at *
      obtain ⟨M, hM⟩ : ∃ M, max z (wrap64 (-z)) = M := ⟨_, rfl⟩
      have hzM : z ≤ M := by omega
      have hM2 : max z (IntKind.i64.wrap (-z)) = M := by rw [IntWalk.i64_left]; exact hM
      by_cases h1 : 60 < M
      · clear hzM Hsm
        have f1 : decide (60 < M) = true := decide_eq_true h1
        go_wp2_with fail
        go_quiet (fail)
        go_wp2_with fail
        go_ret
        exact ⟨rfl, below_drewN (below_drewN hb1 k1) _⟩
      · by_cases h2 : z < -60
        · clear hzM Hsm
          have f1 : decide (60 < M) = false := decide_eq_false h1
          have f2 : decide (z < -60) = true := decide_eq_true h2
          go_wp2_with fail
          go_quiet (fail)
          go_wp2_with fail
          go_ret
          exact ⟨rfl, below_drewN (below_drewN hb1 k1) _⟩
        · have Hs2 := Lib.hid (Hsm.out (by omega) (by omega))
          have f1 : decide (60 < M) = false := decide_eq_false h1
          have f2 : decide (z < -60) = false := decide_eq_false h2
          clear hzM Hsm
          go_wp2_with fail
          go_quiet (fail)
          go_wp2_with fail
          go_roundw
          case rel => exact ⟨j + 1, by omega, by go_num, Hs2.out, _, rfl⟩
          case measure => simp [intOf]; omega
    · obtain rfl : j = n := by omega
      have hz : ∀ x ∈ zs, x = 0 ∨ Lit 61 x := fun x hx => by
        obtain ⟨q, hq, rfl⟩ := List.mem_iff_getElem.1 hx
        have := hsm q (by rw [← Hl.out]; exact hq)
        rw [List.getElem?_eq_getElem hq, Option.getD_some] at this
        by_cases e : zs[q] = 0
        · exact .inl e
        · exact .inr ⟨e, by omega, by omega⟩
      have hf : zs.any farB = false := by
        rw [List.any_eq_false]
        intro x hx
        have : x = 0 ∨ Lit 61 x := hz x hx
        unfold farB
        rcases this with rfl | ⟨_, h1, h2⟩
        · decide
        · rw [decide_eq_false (by omega), decide_eq_false (by omega)]; simp
      have HZ := Lib.hid hz
      have HF := Lib.hid hf
      have RR : RdI (w1.drewN k1).heap.size (w1.drewN k1) A zs := R.out
      have hb2 := below_drewN hb1 k1
      clear hsm hz hf R
      generalize w1.drewN k1 = w2 at *
      have hL := Lib.hid (Least_any _ A j c K zs w2 RR (Nat.le_refl _) Hl.out (by omega) HF.out hn)
      obtain ⟨c1, hc1⟩ : ∃ c1, c1 = ls zs K 60 := ⟨_, rfl⟩
      obtain ⟨c2, hc2⟩ : ∃ c2, c2 = ls zs (K + Y) 60 := ⟨_, rfl⟩
      have HC1 := Lib.hid (show c1.length ≤ 60 ∧ (∀ l ∈ c1, ∀ x ∈ l, Lit 61 x) ∧ (c1.all fun l => l.any (tv (tru pick 60))) = decide (K ≤ nb (tru pick 60) zs) ∧ (K = 0 → c1.length = 0) by
        rw [hc1]; exact ⟨ls_len _ _ _, ls_lits K 61 HZ.out, least_holds _ _ _ (by omega), fun e => by rw [e, ls_zero]; rfl⟩)
      have HC2 := Lib.hid (show c2.length ≤ 60 ∧ (∀ l ∈ c2, ∀ x ∈ l, Lit 61 x) ∧ (c2.all fun l => l.any (tv (tru pick 60))) = decide (K + Y ≤ nb (tru pick 60) zs) by
        rw [hc2]; exact ⟨ls_len _ _ _, ls_lits _ 61 HZ.out, least_holds _ _ _ (by omega)⟩)
      rw [← hc1] at hL
      have Hc2 := Lib.hid hc2
      clear hc1 hc2
      obtain ⟨K1, hK1⟩ : ∃ K1, c1.length = K1 := ⟨_, rfl⟩
      obtain ⟨K2, hK2⟩ : ∃ K2, c2.length = K2 := ⟨_, rfl⟩
      have HK := Lib.hid (And.intro hK1 hK2)
      clear hK1 hK2
      go_wp2_with fail
      refine hL.out.mono ?_
      rintro e w3 ⟨A3, d3, rfl, r3, hb3, hl3⟩
      rw [HK.out.1]
      have hb13 := hb2.trans (hb3.mono hb2.size)
      have hLL := Least_any _ A j c (K + Y) zs w3 (RdI.more (RR.below hb3 (Nat.le_refl _)) hb3.size) (Nat.le_refl _) Hl.out (by omega) HF.out hn
      rw [← Hc2.out, show ((K + Y : Nat) : Int) = (K : Int) + (Y : Int) by omega] at hLL
      have HLL := Lib.hid hLL
      have hl3 := Lib.hid hl3
      clear hb3 hb2 hL RR hLL
      go_wp2_with fail
      refine HLL.out.mono ?_
      rintro e w4 ⟨A4, d4, rfl, r4, hb4, hl4⟩
      rw [HK.out.2]
      have hb14 := hb13.trans (hb4.mono hb13.size)
      have r3' := RdR.more (r3.below hb4 (Nat.le_refl _)) hb4.size
      have hl4 := Lib.hid hl4
      clear hb4 hb13 HLL r3
      go_wp2_with fail
      refine (truths_any 60 pick w4 (by omega) hp).mono ?_
      rintro e w5 ⟨A5, d5, rfl, rb, hb5⟩
      have hb15 := hb14.trans (hb5.mono hb14.size)
      have r3 := RdR.more (r3'.below hb5 (Nat.le_refl _)) hb5.size
      have r4' := RdR.more (r4.below hb5 (Nat.le_refl _)) hb5.size
      have hV := Value_any w5.heap.size w5.heap.size A5 A3 61 K1 d3 61 d5 60 c1 (tru pick 60) w5 r3 (Nat.le_refl _) HK.out.1 (by have := HC1.out.1; have := HK.out.1; omega) rb (Nat.le_refl _) (tru_len _ _) hl3.out HC1.out.2.1 (by omega) (Nat.le_refl _) (by omega) (by omega) rfl
      rw [HC1.out.2.2.1] at hV
      have HV := Lib.hid hV
      clear hb5 hb14 hV r3' r4
      obtain ⟨v1, hv1⟩ : ∃ v1, decide (K ≤ nb (tru pick 60) zs) = v1 := ⟨_, rfl⟩
      obtain ⟨v2, hv2⟩ : ∃ v2, decide (K + Y ≤ nb (tru pick 60) zs) = v2 := ⟨_, rfl⟩
      rw [hv1] at HV
      have Hv := Lib.hid (And.intro hv1 hv2)
      clear hv1 hv2
      go_wp2_with fail
      refine HV.out.mono ?_
      rintro e w6 ⟨rfl, hb6⟩
      have hb16 := hb15.trans (hb6.mono hb15.size)
      have hV := Value_any w6.heap.size w6.heap.size A5 A4 61 K2 d4 61 d5 60 c2 (tru pick 60) w6 (RdR.more (r4'.below hb6 (Nat.le_refl _)) hb6.size) (Nat.le_refl _) HK.out.2 (by have := HC2.out.1; have := HK.out.2; omega) (rb.below hb6 (Nat.le_refl _) |>.more hb6.size) (Nat.le_refl _) (tru_len _ _) hl4.out HC2.out.2.1 (by omega) (Nat.le_refl _) (by omega) (by omega) rfl
      rw [HC2.out.2.2, Hv.out.2] at hV
      have HV2 := Lib.hid hV
      have himp : v2 = true → v1 = true := fun h => by
        rw [← Hv.out.1]
        have h2 := Hv.out.2
        rw [h] at h2
        have := of_decide_eq_true h2
        exact decide_eq_true (by omega)
      have hz0 : K = 0 → K1 = 0 := fun h => by rw [← HK.out.1]; exact HC1.out.2.2.2 h
      clear hb6 hb15 hV r3 r4' rb HV hl3 hl4 HC1 HC2 Hv
      by_cases hK0 : K = 0
      · subst hK0
        obtain rfl := hz0 rfl
        clear hz0
        cases v2 with
        | true =>
          obtain rfl := himp rfl
          clear himp
          go_wp2_with fail
          refine HV2.out.mono ?_
          rintro e w7 ⟨rfl, hb7⟩
          have hb17 := hb16.trans (hb7.mono hb16.size)
          clear HV2 hb7
          go_wp2_with fail
          go_ret
          exact ⟨rfl, hb17⟩
        | false =>
          clear himp
          go_wp2_with fail
          refine HV2.out.mono ?_
          rintro e w7 ⟨rfl, hb7⟩
          have hb17 := hb16.trans (hb7.mono hb16.size)
          clear HV2 hb7
          go_wp2_with fail
          go_ret
          exact ⟨rfl, hb17⟩
      · have hK0 : 0 < K := by omega
        clear hz0
        cases v2 with
        | true =>
          obtain rfl := himp rfl
          clear himp
          go_wp2_with fail
          refine HV2.out.mono ?_
          rintro e w7 ⟨rfl, hb7⟩
          have hb17 := hb16.trans (hb7.mono hb16.size)
          clear HV2 hb7
          go_wp2_with fail
          go_ret
          exact ⟨rfl, hb17⟩
        | false =>
          clear himp
          go_wp2_with fail
          refine HV2.out.mono ?_
          rintro e w7 ⟨rfl, hb7⟩
          have hb17 := hb16.trans (hb7.mono hb16.size)
          clear HV2 hb7
          go_wp2_with fail
          go_ret
          exact ⟨rfl, hb17⟩

theorem mono_any (A : Option Addr) (n c : Nat) (k y pick : Int) (zs : List Int) (w : World) (hr : RdI w.heap.size w A zs) (hl : zs.length = n) (hk : Wf k) (hp : Wf pick) :
    Calls Try.prog 11 #[.slice A n c, .int .i64 k, .int .i64 y, .int .i64 pick] w fun e w' => e = .returned (.bool true) ∧ Below w.heap.size w w' := by
  by_cases h : 60 < n ∨ y < 0 ∨ 1099511627776 < y ∨ 1099511627776 < k
  · exact mono_out A n c k y pick w h
  · by_cases hk0 : k < 0
    · exact mono_neg A n c k y pick zs w hr hl (by omega) hk0 hk.1 (by omega) (by omega)
    · obtain ⟨K, rfl⟩ := Int.eq_ofNat_of_zero_le (show 0 ≤ k by omega)
      obtain ⟨Y, rfl⟩ := Int.eq_ofNat_of_zero_le (show 0 ≤ y by omega)
      exact mono_main A n c K Y pick zs w hr hl (by omega) (by omega) (by omega) hp

set_option maxRecDepth 100000 in
theorem adderLeastMonotone_lifted (os : Os) (started : os.Started) (H : Type) (enc : TypeId × Value → H) :
    ReturnsInHanded {} Try.checked os 11 .any (Rows.adderLeastMonotoneSpec.pre6 enc Try.prog Try.f11 Rows.adderLeastMonotoneRow.domain false) (Rows.adderLeastMonotoneSpec.post enc Try.prog Try.f11 false true false false) := by
  refine returnsInHanded_of_change (C := Try.checked) Try_own started (by kernel_rfl) Try.func11
    (ChangeSpec.witness6 (enc := enc) (C := Try.checked) false ⟨#[], #[.slice Option.none 0 0, .int .i64 0, .int .i64 0, .int .i64 0], []⟩ 11 (by kernel_rfl) (by kernel_rfl) (by kernel_rfl) (by kernel_rfl)) ?_
  intro W base args ds gs before hval0 hW _ _
  have hval : ∀ (j : Nat) t v, Try.f11.params[j]? = some t → args[j]? = some v → Value.okWide Try.prog W .any base t v := hval0
  have hW' := hW
  obtain ⟨p, q, hA0, hV, rfl, _, _⟩ := hW
  have hA : DataW.TrodAll enc Try.prog W 0 (fun _ => true) true Try.f11.params.toList args.toList ds p := hA0
  have hpar : Try.f11.params = #[22, 3, 3, 3] := rfl
  rw [hpar] at hA hval
  have hlt : ∀ x ∈ p, x.block < W.heap.size := fun x hx => hW'.lt x (List.mem_append_left _ hx)
  obtain ⟨rfl, rfl⟩ := trodVars_none hV
  clear hA0 hval0
  obtain ⟨v0, vs0, d0, ds0, p0, q0, hargs0, rfl, rfl, h0, r0⟩ := trodAll_cons hA
  obtain ⟨v1, vs1, d1, ds1, p1, q1, hargs1, rfl, rfl, h1, r1⟩ := trodAll_cons r0
  obtain ⟨v2, vs2, d2, ds2, p2, q2, hargs2, rfl, rfl, h2, r2⟩ := trodAll_cons r1
  obtain ⟨v3, vs3, d3, ds3, p3, q3, hargs3, rfl, rfl, h3, r3⟩ := trodAll_cons r2
  obtain ⟨hlast, rfl, rfl⟩ := trodAll_nil r3
  obtain rfl : args = #[v0, v1, v2, v3] := by
    apply Array.toList_inj.1
    rw [hargs0, hargs1, hargs2, hargs3, hlast]
  obtain ⟨A0, n0, cap0, zs0, rfl, hr0, hl0, hlc0, hm0, hn0⟩ := open_intlist (hval 0 22 v0 rfl rfl) h0 (fun x hx => hlt x (List.mem_append_left _ hx))
  obtain ⟨n1, rfl, rfl, rfl, wf1⟩ := open_int underlying3' (hval 1 3 v1 rfl rfl) h1
  obtain ⟨n2, rfl, rfl, rfl, wf2⟩ := open_int underlying3' (hval 2 3 v2 rfl rfl) h2
  obtain ⟨n3, rfl, rfl, rfl, wf3⟩ := open_int underlying3' (hval 3 3 v3 rfl rfl) h3
  refine (mono_any A0 n0 cap0 n1 n2 n3 zs0 W hr0 hl0 (bounds_i64 wf1) (bounds_i64 wf3)).mono fun e W' ⟨he, hb⟩ => ?_
  subst he
  exact ⟨_, rfl, law_post Try_laidOut hW' rfl (by rw [hpar]; decide +kernel) 4 rfl Try.underlying4 rfl hb⟩

theorem adderLeastMonotone_holds : Rows.AdderLeastMonotoneSaid :=
  OpenClaim.holds_of_wide 11 Try.f11 rfl rfl rfl rfl rfl rfl rfl ⟨rfl, rfl, rfl, rfl, rfl⟩ rfl rfl rfl rfl rfl (by kernel_rfl) Try.func11 (by kernel_rfl)
    (of_decide_eq_true (by kernel_rfl)) (by unfold Func.isWrapper; first | (rw [if_pos (by decide +kernel)]; kernel_rfl) | (rw [if_neg (by decide +kernel)]; exact ⟨rfl, rfl⟩))
    (fun os started H enc _ => adderLeastMonotone_lifted os started H enc)
end Go.Proofs.Ytpeklcbjhkchlaa
