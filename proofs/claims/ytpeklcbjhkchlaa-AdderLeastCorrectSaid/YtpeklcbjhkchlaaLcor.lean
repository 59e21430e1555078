/- For every slice of integers and all numbers the law AdderLeastCorrect answers true at the landed code and changes nothing that came in: the clauses of Least hold just where the number of the bits is at least k, as far as it is tried. Conditions: those of the statement alone. -/
import Derived.Test.YtpeklcbjhkchlaaLeastM
import Derived.Test.YtpeklcbjhkchlaaRLeast
namespace Go.Proofs.Ytpeklcbjhkchlaa
open Go.ChangeShapes Go.WideShapes Go.ChangeAt Go.RowKit
set_option maxRecDepth 100000

theorem lcor_out (A : Option Addr) (n c : Nat) (k pick : Int) (w : World) (h1 : 60 < n) :
    Calls Try.prog 6 #[.slice A n c, .int .i64 k, .int .i64 pick] w fun e w' => e = .returned (.bool true) ∧ Below w.heap.size w w' := by
  go_enter Try.func6, Try.ntmps6
  go_wp2_with fail
  refine (live_any w).mono ?_
  rintro e w1 ⟨rfl, hb1⟩
  go_wp2_with fail
  go_ret
  exact ⟨rfl, hb1⟩
theorem lcor_err (A : Option Addr) (n c : Nat) (k pick E : Int) (zs : List Int) (w : World) (hr : RdI w.heap.size w A zs) (hn : n ≤ 60) (hE : E ≠ 0)
    (hL : ∀ W : World, RdI W.heap.size W A zs → Calls Try.prog 17 #[.slice A n c, .int .i64 k] W (LeRes W [] E)) :
    Calls Try.prog 6 #[.slice A n c, .int .i64 k, .int .i64 pick] w fun e w' => e = .returned (.bool true) ∧ Below w.heap.size w w' := by
  have d0 : (E != 0) = true := by simpa using hE
  go_enter Try.func6, Try.ntmps6
  go_wp2_with fail
  refine (live_any w).mono ?_
  rintro e w1 ⟨rfl, hb1⟩
  have hr1 := RdI.more (hr.below hb1 (Nat.le_refl _)) hb1.size
  go_wp2_with fail
  refine (hL w1 hr1).mono ?_
  rintro e w2 ⟨A3, c3, rfl, _, hb2, _⟩
  have hb12 := hb1.trans (hb2.mono hb1.size)
  clear hL hr1 hr hb1 hb2
  go_wp2_with fail
  go_ret
  exact ⟨rfl, hb12⟩

set_option maxHeartbeats 8000000 in
theorem lcor_main (A : Option Addr) (n c K : Nat) (pick : Int) (zs : List Int) (w : World) (hr : RdI w.heap.size w A zs) (hl : zs.length = n) (hn : n ≤ 60) (hk2 : K ≤ 4503599627370496) (hf : zs.any farB = false) (hp : Wf pick) :
    Calls Try.prog 6 #[.slice A n c, .int .i64 (K : Int), .int .i64 pick] w fun e w' => e = .returned (.bool true) ∧ Below w.heap.size w w' := by
  obtain ⟨c1, hc1⟩ : ∃ c1, c1 = ls zs K 60 := ⟨_, rfl⟩
  obtain ⟨K1, hK1⟩ : ∃ K1, c1.length = K1 := ⟨_, rfl⟩
  have hK53 : K1 ≤ 53 := by rw [← hK1, hc1]; exact ls_few zs K hk2 7
  have Hc1 := Lib.hid (And.intro hc1 hK1)
  have HF := Lib.hid hf
  clear hc1 hK1 hf
  go_enter Try.func6, Try.ntmps6
  go_wp2_with fail
  refine (live_any w).mono ?_
  rintro e w1 ⟨rfl, hb1⟩
  have hr1 := RdI.more (hr.below hb1 (Nat.le_refl _)) hb1.size
  have hL := Least_any _ A n c K zs w1 hr1 (Nat.le_refl _) hl hk2 HF.out hn
  rw [← Hc1.out.1] at hL
  have HL := Lib.hid hL
  have Hl := Lib.hid hl
  clear hr hl hL
  go_wp2_with fail
  refine HL.out.mono ?_
  rintro e w2 ⟨A3, d3, rfl, r3, hb2, hl3⟩
  rw [Hc1.out.2]
  have hb12 := hb1.trans (hb2.mono hb1.size)
  have R := Lib.hid (RdI.more (hr1.below hb2 (Nat.le_refl _)) hb2.size)
  have R3 := Lib.hid r3
  have HL3 := Lib.hid hl3
  clear hr1 hb1 hb2 HL r3 hl3
  go_wp2_with fail
  go_loopw [9] (fun i wr => ∃ j : Nat, j ≤ n ∧ i = .int .i64 j ∧ (∀ q, q < j → -60 ≤ zs[q]?.getD 0 ∧ zs[q]?.getD 0 ≤ 60) ∧ ∃ k, wr = w2.drewN k) (fun i _ => n - (intOf i).toNat)
  case atStart => exact ⟨0, by omega, rfl, fun q hq => absurd hq (Nat.not_lt_zero q), 0, rfl⟩
  case round =>
    obtain ⟨j, hj, rfl, hsm, k1, rfl⟩ := hrel
    by_cases hlt : j < n
    · obtain ⟨b, off, hA, _, hc⟩ := R.out.2 (by rw [Hl.out]; omega)
      have hc1 := hc j (by rw [Hl.out]; exact hlt)
      have hnf := not_far HF.out j (by rw [Hl.out]; exact hlt)
      have hsm2 : -60 ≤ zs[j]?.getD 0 → zs[j]?.getD 0 ≤ 60 → ∀ q, q < j + 1 → -60 ≤ zs[q]?.getD 0 ∧ zs[q]?.getD 0 ≤ 60 := fun h1 h2 q hq => by
        rcases Nat.lt_or_ge q j with g | g
        · exact hsm q g
        · rw [show q = j by omega]; exact ⟨h1, h2⟩
      have Hsm := Lib.hid hsm2
      clear hc hsm hsm2 R
      cases hA
      generalize zs[j]?.getD 0 = z at *
      have hw : wrap64 (-z) = -z := IntWalk.wrap64_in _ (by omega)
      obtain ⟨M, hM⟩ : ∃ M, max z (wrap64 (-z)) = M := ⟨_, rfl⟩
      have hzM : z ≤ M ∧ -z ≤ M := by rw [hw] at hM; omega
      have hM2 : max z (IntKind.i64.wrap (-z)) = M := by rw [IntWalk.i64_left]; exact hM
      have hM3 : max z (-z) = M := by rw [← hw]; exact hM
      clear hw
      by_cases h1 : 60 < M
      · have f1 : decide (60 < M) = true := decide_eq_true h1
        clear hzM Hsm
        go_wp2_with fail
        go_quiet (fail)
        go_wp2_with fail
        go_ret
        exact ⟨rfl, below_drewN (below_drewN hb12 k1) _⟩
      · have Hs2 := Lib.hid (Hsm.out (by omega) (by omega))
        have f1 : decide (60 < M) = false := decide_eq_false h1
        clear hzM Hsm
        go_wp2_with fail
        go_quiet (fail)
        go_wp2_with fail
        go_roundw
        case rel => exact ⟨j + 1, by omega, by go_num, Hs2.out, _, rfl⟩
        case measure => simp [intOf]; omega
    · obtain rfl : j = n := by omega
      have hz : ∀ x ∈ zs, x = 0 ∨ Lit 61 x := fun x hx => by
        obtain ⟨q, hq, rfl⟩ := List.mem_iff_getElem.1 hx
        have := hsm q (by rw [← Hl.out]; exact hq)
        rw [List.getElem?_eq_getElem hq, Option.getD_some] at this
        by_cases e : zs[q] = 0
        · exact .inl e
        · exact .inr ⟨e, by omega, by omega⟩
      have HZ := Lib.hid hz
      have RR : RdI (w2.drewN k1).heap.size (w2.drewN k1) A zs := R.out
      have RR3 : RdR (w2.drewN k1).heap.size (w2.drewN k1) A3 c1 := R3.out
      have hb2 := below_drewN hb12 k1
      clear hsm hz R R3
      generalize w2.drewN k1 = w3 at *
      have HC1 := Lib.hid (show (∀ l ∈ c1, ∀ x ∈ l, Lit 61 x) ∧ (c1.all fun l => l.any (tv (tru pick 60))) = decide (K ≤ nb (tru pick 60) zs) by
        rw [Hc1.out.1]; exact ⟨ls_lits K 61 HZ.out, least_holds _ _ _ hk2⟩)
      go_wp2_with fail
      refine (truths_any 60 pick w3 (by omega) hp).mono ?_
      rintro e w4 ⟨A5, d5, rfl, rb, hb4⟩
      have hb14 := hb2.trans (hb4.mono hb2.size)
      have r4 := RdI.more (RR.below hb4 (Nat.le_refl _)) hb4.size
      have r5 := RdR.more (RR3.below hb4 (Nat.le_refl _)) hb4.size
      have R4 := Lib.hid r4
      have R5 := Lib.hid r5
      have RB := Lib.hid rb
      clear hb4 hb2 RR RR3 hb12 r4 r5 rb
      go_wp2_with fail
      go_loopw [11, 12] (fun v11 v12 wr => ∃ i : Nat, i ≤ K1 ∧ v12 = .int .i64 i ∧ v11 = .bool ((c1.take i).all fun l => l.any (tv (tru pick 60))) ∧ Below w4.heap.size w4 wr) (fun _ v _ => K1 - (intOf v).toNat)
      case atStart => exact ⟨0, by omega, rfl, rfl, Below.refl _ _⟩
      case round =>
        obtain ⟨i, hi, rfl, rfl, low⟩ := hrel
        by_cases hiK : i < K1
        · have hil : i < c1.length := by rw [Hc1.out.2]; exact hiK
          obtain ⟨b, off, hA, _, hc⟩ := (R5.out.below low (Nat.le_refl _)) (by omega)
          obtain ⟨E, ec, hc1, hrE⟩ := hc i hil
          have hxl := HL3.out i hil
          have hlits := HC1.out.1 _ (show c1[i]?.getD [] ∈ c1 by rw [List.getElem?_eq_getElem hil]; exact List.getElem_mem hil)
          have htk : (c1.take (i + 1)).all (fun l => l.any (tv (tru pick 60))) = ((c1.take i).all (fun l => l.any (tv (tru pick 60))) && (c1[i]?.getD []).any (tv (tru pick 60))) := by
            rw [List.take_add_one, List.getElem?_eq_getElem hil, Option.toList_some, List.all_append]; simp
          have hsz := low.size
          have hH := Holds_any w4.heap.size w4.heap.size A5 E 61 (c1[i]?.getD []).length ec 61 d5 (c1[i]?.getD []) (tru pick 60) wr hrE hsz rfl hxl (RB.out.below low (Nat.le_refl _)) hsz (tru_len _ _) hlits (by omega) (by omega) (by omega)
          have HH := Lib.hid hH
          have Htk := Lib.hid htk
          clear hc hil hlits hH htk hrE
          cases hA
          generalize c1[i]?.getD [] = x at *
          generalize (c1.take i).all (fun l => l.any (tv (tru pick 60))) = z1 at *
          obtain ⟨L, hL⟩ : ∃ L, x.length = L := ⟨_, rfl⟩
          rw [hL] at hc1 hxl HH
          clear hL
          generalize x.any (tv (tru pick 60)) = z2 at *
          cases z1 with
          | true =>
            have H2 := Lib.hid Htk.out
            clear Htk
            go_wp2_with fail
            refine HH.out.mono ?_
            rintro e w5 ⟨rfl, hb5⟩
            have low2 := low.trans (hb5.mono hsz)
            clear HH hb5
            go_wp2_with fail
            go_roundw
            case rel => exact ⟨i + 1, by omega, by go_num, by rw [H2.out]; rfl, low2⟩
            case measure => simp [intOf]; omega
          | false =>
            have H2 := Lib.hid Htk.out
            clear Htk HH
            go_wp2_with fail
            go_roundw
            case rel => exact ⟨i + 1, by omega, by go_num, by rw [H2.out]; rfl, low⟩
            case measure => simp [intOf]; omega
        · obtain rfl : i = K1 := by omega
          have e1 : (c1.take i).all (fun l => l.any (tv (tru pick 60))) = decide (K ≤ nb (tru pick 60) zs) := by
            rw [← Hc1.out.2, List.take_length]; exact HC1.out.2
          rw [e1]
          have hN := number_any w4.heap.size w4.heap.size j c 61 d5 61 A A5 zs (tru pick 60) wr (R4.out.below low (Nat.le_refl _)) low.size Hl.out hn (RB.out.below low (Nat.le_refl _)) low.size (tru_len _ _) (by omega) (by omega) (by omega) HZ.out
          have HN := Lib.hid hN
          have hb15 := hb14.trans (low.mono hb14.size)
          clear e1 hN low R4 R5 RB HC1 HZ hb14
          generalize nb (tru pick 60) zs = V at *
          go_wp2_with fail
          refine HN.out.mono ?_
          rintro e w5 ⟨rfl, hb5⟩
          have hb16 := hb15.trans (hb5.mono hb15.size)
          have f3 : decide (i ≤ 53) = true := decide_eq_true hK53
          clear HN hb5 hb15
          go_wp2_with fail
          all_goals
            go_ret
            refine ⟨?_, hb16⟩
            simp <;> omega

theorem lcor_any (A : Option Addr) (n c : Nat) (k pick : Int) (zs : List Int) (w : World) (hr : RdI w.heap.size w A zs) (hl : zs.length = n) (hp : Wf pick) :
    Calls Try.prog 6 #[.slice A n c, .int .i64 k, .int .i64 pick] w fun e w' => e = .returned (.bool true) ∧ Below w.heap.size w w' := by
  by_cases h : 60 < n
  · exact lcor_out A n c k pick w h
  · have hm : n ≤ maxLen := by unfold maxLen; omega
    by_cases hk0 : k < 0 ∨ 4503599627370496 < k
    · exact lcor_err A n c k pick 1 zs w hr (by omega) (by omega) (fun W _ => Least_low A n c k W hk0)
    · obtain ⟨K, rfl⟩ := Int.eq_ofNat_of_zero_le (show 0 ≤ k by omega)
      cases hf : zs.any farB with
      | true => exact lcor_err A n c K pick 1 zs w hr (by omega) (by omega) (fun W hW => Least_far _ A n c K zs W hW hl hm (by omega) hf)
      | false => exact lcor_main A n c K pick zs w hr hl (by omega) (by omega) hf hp

set_option maxRecDepth 100000 in
theorem adderLeastCorrect_lifted (os : Os) (started : os.Started) (H : Type) (enc : TypeId × Value → H) :
    ReturnsInHanded {} Try.checked os 6 .any (Rows.adderLeastCorrectSpec.pre6 enc Try.prog Try.f6 Rows.adderLeastCorrectRow.domain false) (Rows.adderLeastCorrectSpec.post enc Try.prog Try.f6 false true false false) := by
  refine returnsInHanded_of_change (C := Try.checked) Try_own started (by kernel_rfl) Try.func6
    (ChangeSpec.witness6 (enc := enc) (C := Try.checked) false ⟨#[], #[.slice Option.none 0 0, .int .i64 0, .int .i64 0], []⟩ 6 (by kernel_rfl) (by kernel_rfl) (by kernel_rfl) (by kernel_rfl)) ?_
  intro W base args ds gs before hval0 hW _ _
  have hval : ∀ (j : Nat) t v, Try.f6.params[j]? = some t → args[j]? = some v → Value.okWide Try.prog W .any base t v := hval0
  have hW' := hW
  obtain ⟨p, q, hA0, hV, rfl, _, _⟩ := hW
  have hA : DataW.TrodAll enc Try.prog W 0 (fun _ => true) true Try.f6.params.toList args.toList ds p := hA0
  have hpar : Try.f6.params = #[22, 3, 3] := rfl
  rw [hpar] at hA hval
  have hlt : ∀ x ∈ p, x.block < W.heap.size := fun x hx => hW'.lt x (List.mem_append_left _ hx)
  obtain ⟨rfl, rfl⟩ := trodVars_none hV
  clear hA0 hval0
  obtain ⟨v0, vs0, d0, ds0, p0, q0, hargs0, rfl, rfl, h0, r0⟩ := trodAll_cons hA
  obtain ⟨v1, vs1, d1, ds1, p1, q1, hargs1, rfl, rfl, h1, r1⟩ := trodAll_cons r0
  obtain ⟨v2, vs2, d2, ds2, p2, q2, hargs2, rfl, rfl, h2, r2⟩ := trodAll_cons r1
  obtain ⟨hlast, rfl, rfl⟩ := trodAll_nil r2
  obtain rfl : args = #[v0, v1, v2] := by
    apply Array.toList_inj.1
    rw [hargs0, hargs1, hargs2, hlast]
  obtain ⟨A0, n0, cap0, zs0, rfl, hr0, hl0, hlc0, hm0, hn0⟩ := open_intlist (hval 0 22 v0 rfl rfl) h0 (fun x hx => hlt x (List.mem_append_left _ hx))
  obtain ⟨n1, rfl, rfl, rfl, wf1⟩ := open_int underlying3' (hval 1 3 v1 rfl rfl) h1
  obtain ⟨n2, rfl, rfl, rfl, wf2⟩ := open_int underlying3' (hval 2 3 v2 rfl rfl) h2
  refine (lcor_any A0 n0 cap0 n1 n2 zs0 W hr0 hl0 (bounds_i64 wf2)).mono fun e W' ⟨he, hb⟩ => ?_
  subst he
  exact ⟨_, rfl, law_post Try_laidOut hW' rfl (by rw [hpar]; decide +kernel) 4 rfl Try.underlying4 rfl hb⟩

theorem adderLeastCorrect_holds : Rows.AdderLeastCorrectSaid :=
  OpenClaim.holds_of_wide 6 Try.f6 rfl rfl rfl rfl rfl rfl rfl ⟨rfl, rfl, rfl, rfl, rfl⟩ rfl rfl rfl rfl rfl (by kernel_rfl) Try.func6 (by kernel_rfl)
    (of_decide_eq_true (by kernel_rfl)) (by unfold Func.isWrapper; first | (rw [if_pos (by decide +kernel)]; kernel_rfl) | (rw [if_neg (by decide +kernel)]; exact ⟨rfl, rfl⟩))
    (fun os started H enc _ => adderLeastCorrect_lifted os started H enc)
end Go.Proofs.Ytpeklcbjhkchlaa
