/- For all slices of integers and all numbers the law AdderSumCorrect answers true at the landed code and changes nothing that came in: the clauses of Sum determine the new variables, and the value of the bits is the weighted sum, as far as it is tried. Conditions: those of the statement alone. -/
import Derived.Test.YtpeklcbjhkchlaaFacts
namespace Go.Proofs.Ytpeklcbjhkchlaa
open Go.ChangeShapes Go.WideShapes Go.ChangeAt Go.RowKit
set_option maxRecDepth 100000

theorem sumc_out (A1 A2 : Option Addr) (n1 n2 c1 c2 : Nat) (next pick : Int) (w : World) (h : ¬ (n1 ≤ 8 ∧ n2 ≤ 8 ∧ next ≤ 40)) :
    Calls Try.prog 5 #[.slice A1 n1 c1, .slice A2 n2 c2, .int .i64 next, .int .i64 pick] w fun e w' => e = .returned (.bool true) ∧ Below w.heap.size w w' := by
  have hs := fun W => small_any n1 n2 c1 c2 A1 A2 next W
  rw [decide_eq_false h] at hs
  have hs := Lib.hid hs
  clear h
  go_enter Try.func5, Try.ntmps5
  go_wp2_with fail
  refine (live_any w).mono ?_
  rintro e w1 ⟨rfl, hb1⟩
  go_wp2_with fail
  refine (hs.out w1).mono ?_
  rintro e w2 ⟨rfl, rfl⟩
  go_wp2_with fail
  go_ret
  exact ⟨rfl, hb1⟩
set_option maxHeartbeats 4000000 in
theorem sumc_err (A1 A2 : Option Addr) (n1 n2 c1 c2 : Nat) (next pick E : Int) (xs ls : List Int) (w : World) (r1 : RdI w.heap.size w A1 xs) (r2 : RdI w.heap.size w A2 ls) (h : n1 ≤ 8 ∧ n2 ≤ 8 ∧ next ≤ 40) (hE : E ≠ 0)
    (hS : ∀ W : World, RdI W.heap.size W A1 xs → RdI W.heap.size W A2 ls → Calls Try.prog 13 #[.slice A1 n1 c1, .slice A2 n2 c2, .int .i64 next] W (SumRes W [] [] 0 E)) :
    Calls Try.prog 5 #[.slice A1 n1 c1, .slice A2 n2 c2, .int .i64 next, .int .i64 pick] w fun e w' => e = .returned (.bool true) ∧ Below w.heap.size w w' := by
  have d0 : (E != 0) = true := by simpa using hE
  have hs := fun W => small_any n1 n2 c1 c2 A1 A2 next W
  rw [decide_eq_true h] at hs
  have hs := Lib.hid hs
  clear h
  go_enter Try.func5, Try.ntmps5
  go_wp2_with fail
  refine (live_any w).mono ?_
  rintro e w1 ⟨rfl, hb1⟩
  have hr1 := RdI.more (r1.below hb1 (Nat.le_refl _)) hb1.size
  have hr2 := RdI.more (r2.below hb1 (Nat.le_refl _)) hb1.size
  go_wp2_with fail
  refine (hs.out w1).mono ?_
  rintro e w2 ⟨rfl, rfl⟩
  go_wp2_with fail
  refine (hS w1 hr1 hr2).mono ?_
  rintro e w2 ⟨A3, c3, B3, d3, rfl, _, _, _, hb2, _⟩
  have hb12 := hb1.trans (hb2.mono hb1.size)
  clear hS hr1 hr2 r1 r2
  go_wp2_with fail
  go_ret
  exact ⟨rfl, hb12⟩
set_option maxHeartbeats 8000000 in
theorem sumc_main (A1 A2 : Option Addr) (n c1 c2 N P M K nb1 : Nat) (pick : Int) (xs : List Nat) (ls bits : List Int) (cl : List (List Int)) (w : World) (r1 : RdI w.heap.size w A1 (nats xs)) (r2 : RdI w.heap.size w A2 ls) (hl1 : xs.length = n) (hl2 : ls.length = n) (h : n ≤ 8 ∧ n ≤ 8 ∧ (N : Int) ≤ 40) (hP : (N : Int) - 1 = (P : Int)) (hPN : N = P + 1) (hp : Wf pick)
    (F : FewT N M xs ls bits cl) (hK : cl.length = K) (hnb : bits.length = nb1) (hx : ∀ x ∈ xs, x ≤ 1099511627776) (hlit : ∀ y ∈ ls, Lit N y)
    (hS : ∀ W : World, RdI W.heap.size W A1 (nats xs) → RdI W.heap.size W A2 ls → Calls Try.prog 13 #[.slice A1 n c1, .slice A2 n c2, .int .i64 (N : Int)] W (SumRes W bits cl M 0)) :
    Calls Try.prog 5 #[.slice A1 n c1, .slice A2 n c2, .int .i64 (N : Int), .int .i64 pick] w fun e w' => e = .returned (.bool true) ∧ Below w.heap.size w w' := by
  have hs := fun W => small_any n n c1 c2 A1 A2 N W
  rw [decide_eq_true h] at hs
  have hs := Lib.hid hs
  have h8 : n ≤ 8 := h.1
  obtain ⟨b, f1, f2, f3, f4, d, f5⟩ := F.told (tru pick P) (by rw [tru_len, hPN])
  have FF := Lib.hid F
  have HB := Lib.hid (And.intro f1 (And.intro f2 (And.intro f3 f4)))
  have L := Lib.hid (And.intro hl1 (And.intro hl2 (And.intro hx hlit)))
  have HK := Lib.hid (And.intro hK hnb)
  have HN := Lib.hid (And.intro hPN h)
  have g1 : N ≤ M := F.le
  have g2 : M ≤ N + 2000 := F.up
  have g3 : M ≤ 65537 := F.top
  have g4 : N ≤ 40 := by omega
  have g5 : 1 ≤ N := by omega
  clear f1 f2 f3 f4 f5 hl1 hl2 hx hlit hK hnb hPN h F
  go_enter Try.func5, Try.ntmps5
  go_wp2_with fail
  refine (live_any w).mono ?_
  rintro e w1 ⟨rfl, hb1⟩
  have hr1 := RdI.more (r1.below hb1 (Nat.le_refl _)) hb1.size
  have hr2 := RdI.more (r2.below hb1 (Nat.le_refl _)) hb1.size
  go_wp2_with fail
  refine (hs.out w1).mono ?_
  rintro e w2 ⟨rfl, rfl⟩
  go_wp2_with fail
  refine (hS w1 hr1 hr2).mono ?_
  rintro e w2 ⟨A3, c3, B3, d3, rfl, _, r3, r4, hb2, hl4⟩
  rw [HK.out.1, HK.out.2]
  have hb12 := hb1.trans (hb2.mono hb1.size)
  have p1 := RdI.more (hr1.below hb2 (Nat.le_refl _)) hb2.size
  have p2 := RdI.more (hr2.below hb2 (Nat.le_refl _)) hb2.size
  have hCk := Check_ok w2.heap.size B3 M K d3 ((M : Int) - 1) cl w2 r4 (Nat.le_refl _) HK.out.1 (by rw [← HK.out.1]; exact FF.out.ncl) rfl (by omega) g3 hl4 FF.out.old
  have HCk := Lib.hid hCk
  have Hl4 := Lib.hid hl4
  clear hS hr1 hr2 r1 r2 hb1 hb2 hCk hl4 hs
  go_wp2_with fail
  refine HCk.out.mono ?_
  rintro e w3 ⟨rfl, hb3⟩
  have hb13 := hb12.trans (hb3.mono hb12.size)
  have p1' := RdI.more (p1.below hb3 (Nat.le_refl _)) hb3.size
  have p2' := RdI.more (p2.below hb3 (Nat.le_refl _)) hb3.size
  have r3' := RdI.more (r3.below hb3 (Nat.le_refl _)) hb3.size
  have r4' := RdR.more (r4.below hb3 (Nat.le_refl _)) hb3.size
  clear HCk p1 p2 r3 r4 hb12 hb3
  go_wp2_with fail
  refine (truths_any P pick w3 (by omega) hp).mono ?_
  rintro e w4 ⟨A5, c5, rfl, rb, hb4⟩
  have hb14 := hb13.trans (hb4.mono hb13.size)
  have p1 := RdI.more (p1'.below hb4 (Nat.le_refl _)) hb4.size
  have p2 := RdI.more (p2'.below hb4 (Nat.le_refl _)) hb4.size
  have r3 := RdI.more (r3'.below hb4 (Nat.le_refl _)) hb4.size
  have r4 := RdR.more (r4'.below hb4 (Nat.le_refl _)) hb4.size
  have hT := told_any w4.heap.size w4.heap.size K d3 (P + 1) c5 (M - N) M B3 A5 cl (tru pick P) b w4 r4 (Nat.le_refl _) HK.out.1 (by have := FF.out.ncl; rw [HK.out.1] at this; omega) rb (Nat.le_refl _) (tru_len _ _) (by omega) (by have := HN.out.1; omega) (by omega) Hl4.out FF.out.old HB.out.2.1
  rw [show P + 1 + (M - N) = M by have := HN.out.1; omega, show ((P + 1 : Nat) : Int) = (N : Int) by have := HN.out.1; omega] at hT
  have HT := Lib.hid hT
  clear p1' p2' r3' r4' hb13 hb4 hT rb
  go_wp2_with fail
  refine HT.out.mono ?_
  rintro e w5 ⟨A6, c6, rfl, rb, hb5⟩
  have hb15 := hb14.trans (hb5.mono hb14.size)
  have p1' := RdI.more (p1.below hb5 (Nat.le_refl _)) hb5.size
  have p2' := RdI.more (p2.below hb5 (Nat.le_refl _)) hb5.size
  have r3' := RdI.more (r3.below hb5 (Nat.le_refl _)) hb5.size
  have r4' := RdR.more (r4.below hb5 (Nat.le_refl _)) hb5.size
  have hV := Value_any w5.heap.size w5.heap.size A6 B3 M K d3 M c6 ((M : Int) - 1) cl b w5 r4' (Nat.le_refl _) HK.out.1 (by rw [← HK.out.1]; exact FF.out.ncl) rb (Nat.le_refl _) HB.out.1 Hl4.out FF.out.old (by omega) (Nat.le_refl _) g3 (by omega) rfl
  rw [HB.out.2.2.1.all] at hV
  have HV := Lib.hid hV
  clear p1 p2 r3 r4 hb14 hb5 hV HT Hl4
  go_wp2_with fail
  refine HV.out.mono ?_
  rintro e w6 ⟨rfl, hb6⟩
  have hb16 := hb15.trans (hb6.mono hb15.size)
  have p1 := RdI.more (p1'.below hb6 (Nat.le_refl _)) hb6.size
  have p2 := RdI.more (p2'.below hb6 (Nat.le_refl _)) hb6.size
  have r3 := RdI.more (r3'.below hb6 (Nat.le_refl _)) hb6.size
  have rb2 := rb.below hb6 (Nat.le_refl _) |>.more hb6.size
  have hNm := number_any w6.heap.size w6.heap.size nb1 c3 M c6 M A3 A6 bits b w6 r3 (Nat.le_refl _) HK.out.2 (by rw [← HK.out.2]; exact FF.out.nbits) rb2 (Nat.le_refl _) HB.out.1 (by omega) (Nat.le_refl _) g3 FF.out.lits
  rw [HB.out.2.2.2] at hNm
  have HNm := Lib.hid hNm
  clear p1' p2' r3' r4' hb15 hb6 hNm HV rb
  go_wp2_with fail
  refine HNm.out.mono ?_
  rintro e w7 ⟨rfl, hb7⟩
  have hb17 := hb16.trans (hb7.mono hb16.size)
  have hSm := sum_any w6.heap.size w6.heap.size n c1 c2 M c6 M A1 A2 A6 xs ls b w7 (p1.below hb7 (Nat.le_refl _)) (p2.below hb7 (Nat.le_refl _)) hb7.size L.out.1 L.out.2.1 (by omega) (rb2.below hb7 (Nat.le_refl _)) hb7.size HB.out.1 (by omega) (Nat.le_refl _) g3 (fun y hy => (L.out.2.2.2 y hy).mono g1) L.out.2.2.1
  have HSm := Lib.hid hSm
  clear p1 p2 r3 rb2 hb16 hb7 hSm HNm
  generalize sm b xs ls = T at *
  go_wp2_with fail
  refine HSm.out.mono ?_
  rintro e w8 ⟨rfl, hb8⟩
  have hb18 := hb17.trans (hb8.mono hb17.size)
  clear HSm hb8 hb17
  go_wp2_with fail
  go_ret
  exact ⟨rfl, hb18⟩

theorem sumc_any (A1 A2 : Option Addr) (n1 n2 c1 c2 : Nat) (next pick : Int) (xs ls : List Int) (w : World) (r1 : RdI w.heap.size w A1 xs) (r2 : RdI w.heap.size w A2 ls) (hl1 : xs.length = n1) (hl2 : ls.length = n2) (hp : Wf pick) :
    Calls Try.prog 5 #[.slice A1 n1 c1, .slice A2 n2 c2, .int .i64 next, .int .i64 pick] w fun e w' => e = .returned (.bool true) ∧ Below w.heap.size w w' := by
  by_cases h : n1 ≤ 8 ∧ n2 ≤ 8 ∧ next ≤ 40
  · by_cases ho : OkS xs ls next
    · obtain ⟨h1, h2, h3, h4⟩ := id ho
      obtain ⟨N, rfl⟩ := Int.eq_ofNat_of_zero_le (show 0 ≤ next by omega)
      obtain rfl : n1 = n2 := by omega
      have hnat := ho.nats
      obtain ⟨hx, hlit⟩ := ho.few
      rw [Int.toNat_natCast] at hlit
      rcases ht : addUp (rowsOf (xs.map Int.toNat) ls) [] N with _ | t
      · exact sumc_err A1 A2 n1 n1 c1 c2 N pick 2 xs ls w r1 r2 h (by omega) (Sum_none ho ht hl1 hl2 (by omega))
      · have F := few_terms ht (by omega) (by omega) (by rw [List.length_map]; omega) (by omega) hx hlit
        exact sumc_main A1 A2 n1 c1 c2 N (N - 1) t.2.2 _ _ pick (xs.map Int.toNat) ls t.1 t.2.1 w (by rw [hnat]; exact r1) r2 (by rw [List.length_map]; omega) hl2 h (by omega) (by omega) hp F rfl rfl hx hlit
          (fun W q1 q2 => Sum_some ho ht hl1 hl2 (by omega) W (by rw [hnat] at q1; exact q1) q2)
    · exact sumc_err A1 A2 n1 n2 c1 c2 next pick 1 xs ls w r1 r2 h (by omega) (fun W q1 q2 => Sum_arg _ n1 n2 c1 c2 next A1 A2 xs ls W q1 q2 hl1 hl2 (by omega) ho)
  · exact sumc_out A1 A2 n1 n2 c1 c2 next pick w h

set_option maxRecDepth 100000 in
theorem adderSumCorrect_lifted (os : Os) (started : os.Started) (H : Type) (enc : TypeId × Value → H) :
    ReturnsInHanded {} Try.checked os 5 .any (Rows.adderSumCorrectSpec.pre6 enc Try.prog Try.f5 Rows.adderSumCorrectRow.domain false) (Rows.adderSumCorrectSpec.post enc Try.prog Try.f5 false true false false) := by
  refine returnsInHanded_of_change (C := Try.checked) Try_own started (by kernel_rfl) Try.func5
    (ChangeSpec.witness6 (enc := enc) (C := Try.checked) false ⟨#[], #[.slice Option.none 0 0, .slice Option.none 0 0, .int .i64 0, .int .i64 0], []⟩ 5 (by kernel_rfl) (by kernel_rfl) (by kernel_rfl) (by kernel_rfl)) ?_
  intro W base args ds gs before hval0 hW _ _
  have hval : ∀ (j : Nat) t v, Try.f5.params[j]? = some t → args[j]? = some v → Value.okWide Try.prog W .any base t v := hval0
  have hW' := hW
  obtain ⟨p, q, hA0, hV, rfl, _, _⟩ := hW
  have hA : DataW.TrodAll enc Try.prog W 0 (fun _ => true) true Try.f5.params.toList args.toList ds p := hA0
  have hpar : Try.f5.params = #[22, 22, 3, 3] := rfl
  rw [hpar] at hA hval
  have hlt : ∀ x ∈ p, x.block < W.heap.size := fun x hx => hW'.lt x (List.mem_append_left _ hx)
  obtain ⟨rfl, rfl⟩ := trodVars_none hV
  clear hA0 hval0
  obtain ⟨v0, vs0, d0, ds0, p0, q0, hargs0, rfl, rfl, h0, r0⟩ := trodAll_cons hA
  obtain ⟨v1, vs1, d1, ds1, p1, q1, hargs1, rfl, rfl, h1, r1⟩ := trodAll_cons r0
  obtain ⟨v2, vs2, d2, ds2, p2, q2, hargs2, rfl, rfl, h2, r2⟩ := trodAll_cons r1
  obtain ⟨v3, vs3, d3, ds3, p3, q3, hargs3, rfl, rfl, h3, r3⟩ := trodAll_cons r2
  obtain ⟨hlast, rfl, rfl⟩ := trodAll_nil r3
  obtain rfl : args = #[v0, v1, v2, v3] := by
    apply Array.toList_inj.1
    rw [hargs0, hargs1, hargs2, hargs3, hlast]
  obtain ⟨A0, n0, cap0, zs0, rfl, hr0, hl0, hlc0, hm0, hn0⟩ := open_intlist (hval 0 22 v0 rfl rfl) h0 (fun x hx => hlt x (List.mem_append_left _ hx))
  obtain ⟨A1, n1, cap1, zs1, rfl, hr1, hl1, hlc1, hm1, hn1⟩ := open_intlist (hval 1 22 v1 rfl rfl) h1 (fun x hx => hlt x (List.mem_append_right _ (List.mem_append_left _ hx)))
  obtain ⟨n2, rfl, rfl, rfl, wf2⟩ := open_int underlying3' (hval 2 3 v2 rfl rfl) h2
  obtain ⟨n3, rfl, rfl, rfl, wf3⟩ := open_int underlying3' (hval 3 3 v3 rfl rfl) h3
  refine (sumc_any A0 A1 n0 n1 cap0 cap1 n2 n3 zs0 zs1 W hr0 hr1 hl0 hl1 (bounds_i64 wf3)).mono fun e W' ⟨he, hb⟩ => ?_
  subst he
  exact ⟨_, rfl, law_post Try_laidOut hW' rfl (by rw [hpar]; decide +kernel) 4 rfl Try.underlying4 rfl hb⟩

theorem adderSumCorrect_holds : Rows.AdderSumCorrectSaid :=
  OpenClaim.holds_of_wide 5 Try.f5 rfl rfl rfl rfl rfl rfl rfl ⟨rfl, rfl, rfl, rfl, rfl⟩ rfl rfl rfl rfl rfl (by kernel_rfl) Try.func5 (by kernel_rfl)
    (of_decide_eq_true (by kernel_rfl)) (by unfold Func.isWrapper; first | (rw [if_pos (by decide +kernel)]; kernel_rfl) | (rw [if_neg (by decide +kernel)]; exact ⟨rfl, rfl⟩))
    (fun os started H enc _ => adderSumCorrect_lifted os started H enc)
end Go.Proofs.Ytpeklcbjhkchlaa
