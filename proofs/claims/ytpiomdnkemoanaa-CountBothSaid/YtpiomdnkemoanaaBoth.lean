/- For every slice of integers, every number k and every slice of bools, the law CountBoth answers true at the landed code and changes nothing that came in: the clauses of Least and Most together can be satisfied under an assignment just where exactly k literals are true, as far as it is tried. Conditions: those of the statement alone. -/
import Derived.Test.YtpiomdnkemoanaaCap
namespace Go.Proofs.Ytpiomdnkemoanaa
open Go.ChangeShapes Go.WideShapes Go.ChangeAt Go.RowKit

set_option maxHeartbeats 4000000 in
theorem both_out (A D : Option Addr) (n c m d : Nat) (k : Int) (w : World) (h : 6 < m ∨ 6 < n) :
    Calls Try.prog 10 #[.slice A n c, .int .i64 k, .slice D m d] w fun e w' => e = .returned (.bool true) ∧ Below w.heap.size w w' := by
  by_cases h1 : 6 < m
  · clear h
    go_enter Try.func10, Try.ntmps10
    go_wp2_with fail
    refine (live_any w).mono ?_
    rintro e w1 ⟨rfl, hb1⟩
    go_wp2_with fail
    go_ret
    exact ⟨rfl, hb1⟩
  · have h2 : 6 < n := by omega
    clear h
    go_enter Try.func10, Try.ntmps10
    go_wp2_with fail
    refine (live_any w).mono ?_
    rintro e w1 ⟨rfl, hb1⟩
    go_wp2_with fail
    go_ret
    exact ⟨rfl, hb1⟩

set_option maxRecDepth 30000 in
set_option maxHeartbeats 4000000 in
theorem both_err (A D : Option Addr) (n c m d N : Nat) (k E : Int) (zs : List Int) (ins : List Bool) (w : World) (hr : RdI w.heap.size w A zs) (hn : n ≤ 6) (hD : RdB w.heap.size w D ins) (hm : ins.length = m) (hm2 : m ≤ 6) (hDn : D = none → d = 0) (hbl : (false :: ins).length = N) (_hN : N ≤ 13) (hE : E ≠ 0)
    (hT : ∀ W : World, RdI W.heap.size W A zs → Calls Try.prog 13 #[.slice A n c, .int .i64 k, .int .i64 (N : Int)] W (LsRes W [] 0 E)) :
    Calls Try.prog 10 #[.slice A n c, .int .i64 k, .slice D m d] w fun e w' => e = .returned (.bool true) ∧ Below w.heap.size w w' := by
  have Hm := Lib.hid hm
  have Hbl := Lib.hid hbl
  have d0 : (E != 0) = true := by simpa using hE
  clear hm hbl
  go_enter Try.func10, Try.ntmps10
  go_wp2_with fail
  refine (live_any w).mono ?_
  rintro e w1 ⟨rfl, hb1⟩
  go_wp2_with (at_builtin; refine push_bools rfl _ _ rfl w1.heap.size _ [false] rfl (RowV.one w1 w1.heap.size false (Nat.le_refl _)) w.heap.size D m d ins rfl ?hr Hm.out hDn ?h1 ?h2 ?_)
  case hr => exact (hD.below hb1 (Nat.le_refl _)).below ((Below.refl w1.heap.size w1).alloc (Nat.le_refl _) _) hb1.size
  case h1 => simp; omega
  case h2 => simp
  intro v2 w2 own2 hb2
  have own2 : RowV w2 w1.heap.size v2 (false :: ins) := own2
  have hb12 := hb1.trans (((Below.refl w1.heap.size w1).alloc (Nat.le_refl _) _).trans hb2 |>.mono hb1.size)
  obtain ⟨A2, c2, hv2, hc2, hcm2, rb2⟩ := own2.shape
  rw [Hbl.out] at hv2 hc2
  have hr2 := hr.below hb12 (Nat.le_refl _) |>.more hb12.size
  subst hv2
  clear own2 hb2 hr hD hb1 hDn
  go_wp2_with fail
  refine (hT w2 hr2).mono ?_
  rintro e w3 ⟨A3, c3, rfl, _, hb3, _⟩
  have hb13 := hb12.trans (hb3.mono hb12.size)
  clear hT hr2 hb12
  go_wp2_with fail
  go_ret
  exact ⟨rfl, hb13⟩

set_option maxRecDepth 30000 in
set_option maxHeartbeats 4000000 in
theorem both_main (A D : Option Addr) (n c m d N a b F C1 C2 : Nat) (k : Int) (zs : List Int) (ins bs : List Bool) (cl dl : List (List Int)) (w : World) (hr : RdI w.heap.size w A zs) (hl : zs.length = n) (hn : n ≤ 6) (hD : RdB w.heap.size w D ins) (hm : ins.length = m) (hm2 : m ≤ 6) (hDn : D = none → d = 0) (hbs : (false :: ins) = bs) (hbl : (false :: ins).length = N) (hN1 : 1 ≤ N) (hN : N ≤ 13)
    (hC1 : cl.length = C1) (hC2 : dl.length = C2) (hC : C1 + C2 ≤ 20000) (hz : ∀ x ∈ zs, Lit N x)
    (hT : ∀ W : World, RdI W.heap.size W A zs → Calls Try.prog 13 #[.slice A n c, .int .i64 k, .int .i64 (N : Int)] W (LsX W cl a 0))
    (hU : ∀ W : World, RdI W.heap.size W A zs → Calls Try.prog 16 #[.slice A n c, .int .i64 k, .int .i64 (a : Int)] W (LsX W dl b 0))
    (h1 : CanOf N (cl ++ dl) b F (fun bs => k ≤ (ct bs zs : Int) ∧ (ct bs zs : Int) ≤ k)) :
    Calls Try.prog 10 #[.slice A n c, .int .i64 k, .slice D m d] w fun e w' => e = .returned (.bool true) ∧ Below w.heap.size w w' := by
  have Hm := Lib.hid hm
  have Hbl := Lib.hid hbl
  have Hl := Lib.hid hl
  have Hz := Lib.hid hz
  have HC := Lib.hid (And.intro hC1 hC2)
  have H1 := Lib.hid h1
  have Hbs := Lib.hid hbs
  clear hm hbl hl hz hC1 hC2 h1 hbs
  go_enter Try.func10, Try.ntmps10
  go_wp2_with fail
  refine (live_any w).mono ?_
  rintro e w1 ⟨rfl, hb1⟩
  go_wp2_with (at_builtin; refine push_bools rfl _ _ rfl w1.heap.size _ [false] rfl (RowV.one w1 w1.heap.size false (Nat.le_refl _)) w.heap.size D m d ins rfl ?hr Hm.out hDn ?h1 ?h2 ?_)
  case hr => exact (hD.below hb1 (Nat.le_refl _)).below ((Below.refl w1.heap.size w1).alloc (Nat.le_refl _) _) hb1.size
  case h1 => simp; omega
  case h2 => simp
  intro v2 w2 own2 hb2
  have own2 : RowV w2 w1.heap.size v2 (false :: ins) := own2
  have hb12 := hb1.trans (((Below.refl w1.heap.size w1).alloc (Nat.le_refl _) _).trans hb2 |>.mono hb1.size)
  obtain ⟨A2, c2, hv2, hc2, hcm2, rb2⟩ := own2.shape
  rw [Hbl.out] at hv2 hc2
  rw [Hbs.out] at rb2
  have hr2 := hr.below hb12 (Nat.le_refl _) |>.more hb12.size
  subst hv2
  clear own2 hb2 hr hD hb1 hDn
  have Hbl : Hid (bs.length = N) := by rw [← Hbs.out]; exact Hbl
  go_wp2_with fail
  refine (hT w2 hr2).mono ?_
  rintro e w3 ⟨A3, c3, rfl, hcap3, hnone3, r3, hb3, hl3⟩
  rw [HC.out.1] at hcap3 ⊢
  have hr3 := hr2.below hb3 (Nat.le_refl _) |>.more hb3.size
  have rb3 := rb2.below hb3 (Nat.le_refl _) |>.more hb3.size
  have hb13 := hb12.trans (hb3.mono hb12.size)
  have Hl3 := Lib.hid hl3
  clear hT hr2 rb2 hb12 hb3 hl3
  go_wp2_with fail
  refine (hU w3 hr3).mono ?_
  rintro e w4 ⟨A4, c4, rfl, hcap4, hnone4, r4, hb4, hl4⟩
  rw [HC.out.2] at hcap4 ⊢
  have hr4 := hr3.below hb4 (Nat.le_refl _) |>.more hb4.size
  have rb4 := rb3.below hb4 (Nat.le_refl _) |>.more hb4.size
  have r3 := r3.below hb4 (Nat.le_refl _)
  have hb14 := hb13.trans (hb4.mono hb13.size)
  have Hl4 := Lib.hid hl4
  have r3 : RdR w4.heap.size w4 A3 cl := r3.more hb4.size
  clear hU hr3 rb3 hb13 hb4 hl4
  go_wp2_with (at_builtin; refine push_cls rfl _ _ rfl w4.heap.size w4.heap.size _ [] rfl (RowC.empty _ _ _) w4.heap.size A3 C1 c3 cl rfl r3 HC.out.1 hnone3 hcap3 (Nat.le_refl _) (by simp; omega) (Nat.le_refl _) (Nat.le_refl _) ?_)
  intro v5 w5 own5 hb5
  have own5 : RowC w5 w4.heap.size w4.heap.size v5 cl := own5
  obtain ⟨A5, c5, hv5, _⟩ := own5.res hb5.size
  rw [HC.out.1] at hv5
  subst hv5
  have r5 : RdR w4.heap.size w5 A4 dl := r4.below hb5 (Nat.le_refl _)
  go_wp2_with (at_builtin; refine push_cls rfl _ _ rfl w4.heap.size w4.heap.size _ cl rfl own5 w4.heap.size A4 C2 c4 dl rfl r5 HC.out.2 hnone4 hcap4 (Nat.le_refl _) (by rw [HC.out.1]; omega) (Nat.le_refl _) hb5.size ?_)
  intro v6 w6 own6 hb6
  have hb56 := hb5.trans hb6
  obtain ⟨A6, c6, hv6, r6⟩ := own6.res hb56.size
  have hlen6 : (cl ++ dl).length = C1 + C2 := by rw [List.length_append, HC.out.1, HC.out.2]
  rw [hlen6] at hv6
  subst hv6
  have hr6 := hr4.below hb56 (Nat.le_refl _) |>.more hb56.size
  have rb6 := rb4.below hb56 (Nat.le_refl _) |>.more hb56.size
  have hb16 := hb14.trans (hb56.mono hb14.size)
  have hg6 : ∀ j, j < (cl ++ dl).length → ((cl ++ dl)[j]?.getD []).length ≤ maxLen := by
    intro j hj
    by_cases q : j < cl.length
    · rw [List.getElem?_append_left q]; exact Hl3.out j q
    · rw [List.getElem?_append_right (by omega)]; exact Hl4.out _ (by rw [List.length_append] at hj; omega)
  obtain ⟨T, hT⟩ : ∃ T, ct bs zs = T := ⟨_, rfl⟩
  have HT := Lib.hid hT
  clear hT
  obtain ⟨z1, hz1⟩ : ∃ z, ((T : Int) == k) = z := ⟨_, rfl⟩
  have hI := Lib.hid (can_any A6 A2 (C1 + C2) c6 N c2 b F (cl ++ dl) bs _ z1 w6 r6 hlen6 hg6 rb6 Hbl.out hN1 (by omega) H1.out (by rw [HT.out, ← hz1, beq_iff_eq]; omega))
  clear own5 own6 r3 r4 r5 r6 hb5 hb6 hb56 hb14 hr4 rb4 hg6 hlen6 hnone3 hnone4 Hl3 Hl4 hcap3 hcap4
  go_wp2_with fail
  refine hI.out.mono ?_
  rintro e w7 ⟨rfl, hb7⟩
  have hr7 := hr6.below hb7 (Nat.le_refl _)
  have rb7 := rb6.below hb7 (Nat.le_refl _)
  have hb17 := hb16.trans (hb7.mono hb16.size)
  have hM := Lib.hid (many_any w6.heap.size w6.heap.size A2 A N n c N c2 zs bs w7 hr7 Hl.out (by omega) rb7 Hbl.out Hz.out (Nat.le_refl _) (by omega))
  rw [HT.out] at hM
  clear hI hr6 rb6 hb7 hr7 rb7 hb16 HC H1
  cases decide (F ≤ 9) with
  | true =>
    go_wp2_with fail
    refine hM.out.mono ?_
    rintro e w8 ⟨rfl, rfl⟩
    go_wp2_with fail
    go_ret
    exact ⟨by first | rfl | (cases z1 <;> rfl), hb17⟩
  | false =>
    go_wp2_with fail
    go_ret
    exact ⟨rfl, hb17⟩

theorem both_any (A D : Option Addr) (n c m d : Nat) (k : Int) (zs : List Int) (ins : List Bool) (w : World) (hr : RdI w.heap.size w A zs) (hl : zs.length = n) (hD : RdB w.heap.size w D ins) (hm : ins.length = m) (hDn : D = none → d = 0) (hk : Wf k) :
    Calls Try.prog 10 #[.slice A n c, .int .i64 k, .slice D m d] w fun e w' => e = .returned (.bool true) ∧ Below w.heap.size w w' := by
  by_cases h : 6 < m ∨ 6 < n
  · exact both_out A D n c m d k w h
  · have hbl : (false :: ins).length = m + 1 := by rw [List.length_cons, hm]
    have hl2 : (zs.map ng).length = n := by rw [List.length_map, hl]
    cases hd : Tot.dist ((m + 1 : Nat) : Int) [] zs with
    | false =>
      exact both_err A D n c m d (m + 1) k 140 zs ins w hr (by omega) hD hm (by omega) hDn hbl (by omega) (by omega) (ls_at A c hl (ls_err k (by omega) (by omega) (by omega) hd))
    | true =>
      obtain ⟨cl, a, F, e1, hz, h1⟩ := ls_can (zs := zs) k hl (by omega) (by omega) (by omega) hd
      have hlow := ls_few hl (by omega) (by omega) (by omega) e1
      have hsum := h1.sum
      obtain ⟨dl, b, G, e2, h2⟩ := ms_can (zs := zs) (N := a) k hl (by omega) (by omega) (by omega) (dist_mono (by omega) zs [] hd)
      have hlow2 := ls_few hl2 (by omega) (by omega) (by omega) e2
      have hct : ∀ bs bs', Agr (m + 1) bs bs' → (((ct bs zs : Int) ≤ k) ↔ ((ct bs' zs : Int) ≤ k)) := fun bs bs' h => by rw [ct_agr h hz]
      exact both_main A D n c m d (m + 1) a b (F + G) _ _ k zs ins _ cl dl w hr hl (by omega) hD hm (by omega) hDn rfl hbl (by omega) (by omega) rfl rfl (by omega) hz (Least_x A c hl (by omega) (by omega) (by omega) e1)
        (fun W hW => Most_anyx W.heap.size A n c _ k _ _ zs _ W hW (Nat.le_refl _) hl (by omega) hk fun W2 G c' _ _ hG => Least_x G c' hl2 (by omega) (by omega) (by omega) e2 W2 hG) (h1.append h2 (by omega) hct)

set_option maxRecDepth 100000 in
theorem countBoth_lifted (os : Os) (started : os.Started) (H : Type) (enc : TypeId × Value → H) :
    ReturnsInHanded {} Try.checked os 10 .any (Rows.countBothSpec.pre6 enc Try.prog Try.f10 Rows.countBothRow.domain false) (Rows.countBothSpec.post enc Try.prog Try.f10 false true false false) := by
  refine returnsInHanded_of_change (C := Try.checked) Try_own started (by kernel_rfl) Try.func10
    (ChangeSpec.witness6 (enc := enc) (C := Try.checked) false ⟨#[], #[.slice Option.none 0 0, .int .i64 0, .slice Option.none 0 0], []⟩ 10 (by kernel_rfl) (by kernel_rfl) (by kernel_rfl) (by kernel_rfl)) ?_
  intro W base args ds gs before hval0 hW _ _
  have hval : ∀ (j : Nat) t v, Try.f10.params[j]? = some t → args[j]? = some v → Value.okWide Try.prog W .any base t v := hval0
  have hW' := hW
  obtain ⟨p, q, hA0, hV, rfl, _, _⟩ := hW
  have hA : DataW.TrodAll enc Try.prog W 0 (fun _ => true) true Try.f10.params.toList args.toList ds p := hA0
  have hpar : Try.f10.params = #[22, 3, 30] := rfl
  rw [hpar] at hA hval
  have hlt : ∀ x ∈ p, x.block < W.heap.size := fun x hx => hW'.lt x (List.mem_append_left _ hx)
  obtain ⟨rfl, rfl⟩ := trodVars_none hV
  clear hA0 hval0
  obtain ⟨v0, vs0, d0, ds0, p0, q0, hargs0, rfl, rfl, h0, r0⟩ := trodAll_cons hA
  obtain ⟨v1, vs1, d1, ds1, p1, q1, hargs1, rfl, rfl, h1, r1⟩ := trodAll_cons r0
  obtain ⟨v2, vs2, d2, ds2, p2, q2, hargs2, rfl, rfl, h2, r2⟩ := trodAll_cons r1
  obtain ⟨hlast, rfl, rfl⟩ := trodAll_nil r2
  obtain rfl : args = #[v0, v1, v2] := by
    apply Array.toList_inj.1
    rw [hargs0, hargs1, hargs2, hlast]
  obtain ⟨A0, n0, cap0, zs0, rfl, hr0, hl0, hlc0, hm0, _⟩ := open_intlist (hval 0 22 v0 rfl rfl) h0 (fun x hx => hlt x (List.mem_append_left _ hx))
  obtain ⟨n1, rfl, rfl, rfl, wf1⟩ := open_int underlying3' (hval 1 3 v1 rfl rfl) h1
  obtain ⟨A2, n2, cap2, bs2, rfl, hr2, hl2, hlc2, hm2, hn2⟩ := open_boollist (hval 2 30 v2 rfl rfl) h2 (fun x hx => hlt x (List.mem_append_right _ (List.mem_append_right _ (List.mem_append_left _ hx))))
  refine (both_any A0 A2 n0 cap0 n2 cap2 n1 zs0 bs2 W hr0 hl0 hr2 hl2 hn2 (wf_of wf1)).mono fun e W' ⟨he, hb⟩ => ?_
  subst he
  exact ⟨_, rfl, law_post Try_laidOut hW' rfl (by rw [hpar]; decide +kernel) 4 rfl Try.underlying4 rfl hb⟩

theorem countBoth_holds : Rows.CountBothSaid :=
  OpenClaim.holds_of_wide 10 Try.f10 rfl rfl rfl rfl rfl rfl rfl ⟨rfl, rfl, rfl, rfl, rfl⟩ rfl rfl rfl rfl rfl (by kernel_rfl) Try.func10 (by kernel_rfl)
    (of_decide_eq_true (by kernel_rfl)) (by unfold Func.isWrapper; first | (rw [if_pos (by decide +kernel)]; kernel_rfl) | (rw [if_neg (by decide +kernel)]; exact ⟨rfl, rfl⟩))
    (fun os started H enc _ => countBoth_lifted os started H enc)
end Go.Proofs.Ytpiomdnkemoanaa
