/- For every slice of integers, every number k and every slice of bools, the law CountMeans answers true at the landed code and changes nothing that came in: an assignment of the literals can be extended to the registers such that all clauses of Least (Most) hold just where at least (at most) k literals are true, as far as it is tried. Conditions: those of the statement alone. -/
import Derived.Test.YtpiomdnkemoanaaMeansM
namespace Go.Proofs.Ytpiomdnkemoanaa
open Go.ChangeShapes Go.WideShapes Go.ChangeAt Go.RowKit

set_option maxHeartbeats 4000000 in
theorem means_out (A D : Option Addr) (n c m d : Nat) (k : Int) (w : World) (h : 12 < m ∨ 12 < n) :
    Calls Try.prog 5 #[.slice A n c, .int .i64 k, .slice D m d] w fun e w' => e = .returned (.bool true) ∧ Below w.heap.size w w' := by
  by_cases h1 : 12 < m
  · clear h
    go_enter Try.func5, Try.ntmps5
    go_wp2_with fail
    refine (live_any w).mono ?_
    rintro e w1 ⟨rfl, hb1⟩
    go_wp2_with fail
    go_ret
    exact ⟨rfl, hb1⟩
  · have h2 : 12 < n := by omega
    clear h
    go_enter Try.func5, Try.ntmps5
    go_wp2_with fail
    refine (live_any w).mono ?_
    rintro e w1 ⟨rfl, hb1⟩
    go_wp2_with fail
    go_ret
    exact ⟨rfl, hb1⟩

set_option maxRecDepth 30000 in
set_option maxHeartbeats 4000000 in
theorem means_err (A D : Option Addr) (n c m d N : Nat) (k E : Int) (zs : List Int) (ins : List Bool) (w : World) (hr : RdI w.heap.size w A zs) (hn : n ≤ 12) (hD : RdB w.heap.size w D ins) (hm : ins.length = m) (hm2 : m ≤ 12) (hDn : D = none → d = 0) (hbl : (false :: ins).length = N) (_hN : N ≤ 13) (hE : E ≠ 0)
    (hT : ∀ W : World, RdI W.heap.size W A zs → Calls Try.prog 13 #[.slice A n c, .int .i64 k, .int .i64 (N : Int)] W (LsRes W [] 0 E))
    (hU : ∀ W : World, RdI W.heap.size W A zs → Calls Try.prog 16 #[.slice A n c, .int .i64 k, .int .i64 (N : Int)] W (LsRes W [] 0 E)) :
    Calls Try.prog 5 #[.slice A n c, .int .i64 k, .slice D m d] w fun e w' => e = .returned (.bool true) ∧ Below w.heap.size w w' := by
  have Hm := Lib.hid hm
  have Hbl := Lib.hid hbl
  have d0 : (E != 0) = true := by simpa using hE
  have d1 : (E == E) = true := by simp
  clear hm hbl
  go_enter Try.func5, Try.ntmps5
  go_wp2_with fail
  refine (live_any w).mono ?_
  rintro e w1 ⟨rfl, hb1⟩
  go_wp2_with (at_builtin; refine push_bools rfl _ _ rfl w1.heap.size _ [false] rfl (RowV.one w1 w1.heap.size false (Nat.le_refl _)) w.heap.size D m d ins rfl ?hr Hm.out hDn ?h1 ?h2 ?_)
  case hr => exact (hD.below hb1 (Nat.le_refl _)).below ((Below.refl w1.heap.size w1).alloc (Nat.le_refl _) _) hb1.size
  case h1 => simp; omega
  case h2 => simp
  intro v2 w2 own2 hb2
  have own2 : RowV w2 w1.heap.size v2 (false :: ins) := own2
  have hb12 := hb1.trans (((Below.refl w1.heap.size w1).alloc (Nat.le_refl _) _).trans hb2 |>.mono hb1.size)
  obtain ⟨A2, c2, hv2, hc2, hcm2, rb2⟩ := own2.shape
  rw [Hbl.out] at hv2 hc2
  have hr2 := hr.below hb12 (Nat.le_refl _) |>.more hb12.size
  subst hv2
  clear own2 hb2 hr hD hb1 hDn
  go_wp2_with fail
  refine (hT w2 hr2).mono ?_
  rintro e w3 ⟨A3, c3, rfl, _, hb3, _⟩
  have hr3 := hr2.below hb3 (Nat.le_refl _) |>.more hb3.size
  have hb13 := hb12.trans (hb3.mono hb12.size)
  clear hT hr2 hb12
  go_wp2_with fail
  refine (hU w3 hr3).mono ?_
  rintro e w4 ⟨A4, c4, rfl, _, hb4, _⟩
  have hb14 := hb13.trans (hb4.mono hb13.size)
  clear hU hr3 hb13
  go_wp2_with fail
  go_ret
  exact ⟨rfl, hb14⟩

set_option maxRecDepth 30000 in
set_option maxHeartbeats 4000000 in
theorem means_main (A D : Option Addr) (n c m d N a b F G C1 C2 : Nat) (k : Int) (zs : List Int) (ins bs : List Bool) (cl dl : List (List Int)) (w : World) (hr : RdI w.heap.size w A zs) (hl : zs.length = n) (hn : n ≤ 12) (hD : RdB w.heap.size w D ins) (hm : ins.length = m) (hm2 : m ≤ 12) (hDn : D = none → d = 0) (hbs : (false :: ins) = bs) (hbl : (false :: ins).length = N) (hN1 : 1 ≤ N) (hN : N ≤ 13)
    (hC1 : cl.length = C1) (hC2 : dl.length = C2) (hz : ∀ x ∈ zs, Lit N x)
    (hT : ∀ W : World, RdI W.heap.size W A zs → Calls Try.prog 13 #[.slice A n c, .int .i64 k, .int .i64 (N : Int)] W (LsRes W cl a 0))
    (hU : ∀ W : World, RdI W.heap.size W A zs → Calls Try.prog 16 #[.slice A n c, .int .i64 k, .int .i64 (N : Int)] W (LsRes W dl b 0))
    (h1 : CanOf N cl a F (fun bs => k ≤ (ct bs zs : Int))) (h2 : CanOf N dl b G (fun bs => (ct bs zs : Int) ≤ k)) :
    Calls Try.prog 5 #[.slice A n c, .int .i64 k, .slice D m d] w fun e w' => e = .returned (.bool true) ∧ Below w.heap.size w w' := by
  have Hm := Lib.hid hm
  have Hbl := Lib.hid hbl
  have Hl := Lib.hid hl
  have Hz := Lib.hid hz
  have HC := Lib.hid (And.intro hC1 hC2)
  have H1 := Lib.hid h1
  have H2 := Lib.hid h2
  have Hbs := Lib.hid hbs
  clear hm hbl hl hz hC1 hC2 h1 h2 hbs
  go_enter Try.func5, Try.ntmps5
  go_wp2_with fail
  refine (live_any w).mono ?_
  rintro e w1 ⟨rfl, hb1⟩
  go_wp2_with (at_builtin; refine push_bools rfl _ _ rfl w1.heap.size _ [false] rfl (RowV.one w1 w1.heap.size false (Nat.le_refl _)) w.heap.size D m d ins rfl ?hr Hm.out hDn ?h1 ?h2 ?_)
  case hr => exact (hD.below hb1 (Nat.le_refl _)).below ((Below.refl w1.heap.size w1).alloc (Nat.le_refl _) _) hb1.size
  case h1 => simp; omega
  case h2 => simp
  intro v2 w2 own2 hb2
  have own2 : RowV w2 w1.heap.size v2 (false :: ins) := own2
  have hb12 := hb1.trans (((Below.refl w1.heap.size w1).alloc (Nat.le_refl _) _).trans hb2 |>.mono hb1.size)
  obtain ⟨A2, c2, hv2, hc2, hcm2, rb2⟩ := own2.shape
  rw [Hbl.out] at hv2 hc2
  rw [Hbs.out] at rb2
  have hr2 := hr.below hb12 (Nat.le_refl _) |>.more hb12.size
  subst hv2
  clear own2 hb2 hr hD hb1 hDn
  have Hbl : Hid (bs.length = N) := by rw [← Hbs.out]; exact Hbl
  go_wp2_with fail
  refine (hT w2 hr2).mono ?_
  rintro e w3 ⟨A3, c3, rfl, r3, hb3, hl3⟩
  rw [HC.out.1]
  have hr3 := hr2.below hb3 (Nat.le_refl _) |>.more hb3.size
  have rb3 := rb2.below hb3 (Nat.le_refl _) |>.more hb3.size
  have hb13 := hb12.trans (hb3.mono hb12.size)
  have Hl3 := Lib.hid hl3
  clear hT hr2 rb2 hb12 hb3 hl3
  go_wp2_with fail
  refine (hU w3 hr3).mono ?_
  rintro e w4 ⟨A4, c4, rfl, r4, hb4, hl4⟩
  rw [HC.out.2]
  have hr4 := hr3.below hb4 (Nat.le_refl _) |>.more hb4.size
  have rb4 := rb3.below hb4 (Nat.le_refl _) |>.more hb4.size
  have r3 := r3.below hb4 (Nat.le_refl _)
  have hb14 := hb13.trans (hb4.mono hb13.size)
  have Hl4 := Lib.hid hl4
  have r3 : RdR w4.heap.size w4 A3 cl := r3.more hb4.size
  clear hU hr3 rb3 hb13 hb4 hl4
  obtain ⟨T, hT⟩ : ∃ T, ct bs zs = T := ⟨_, rfl⟩
  have HT := Lib.hid hT
  clear hT
  obtain ⟨z1, hz1⟩ : ∃ z, decide (k ≤ (T : Int)) = z := ⟨_, rfl⟩
  obtain ⟨z2, hz2⟩ : ∃ z, decide ((T : Int) ≤ k) = z := ⟨_, rfl⟩
  have hI := Lib.hid (can_any A3 A2 C1 c3 N c2 a F cl bs _ z1 w4 r3 HC.out.1 Hl3.out rb4 Hbl.out hN1 (by omega) H1.out (by rw [HT.out, ← hz1]; simp))
  go_wp2_with fail
  refine hI.out.mono ?_
  rintro e w5 ⟨rfl, hb5⟩
  have hr5 := hr4.below hb5 (Nat.le_refl _) |>.more hb5.size
  have rb5 := rb4.below hb5 (Nat.le_refl _) |>.more hb5.size
  have r5 : RdR w5.heap.size w5 A4 dl := (r4.below hb5 (Nat.le_refl _)).more hb5.size
  have hb15 := hb14.trans (hb5.mono hb14.size)
  have hJ := Lib.hid (can_any A4 A2 C2 c4 N c2 b G dl bs _ z2 w5 r5 HC.out.2 Hl4.out rb5 Hbl.out hN1 (by omega) H2.out (by rw [HT.out, ← hz2]; simp))
  clear hI hr4 rb4 r3 r4 hb14 hb5
  go_wp2_with fail
  refine hJ.out.mono ?_
  rintro e w6 ⟨rfl, hb6⟩
  have hr6 := hr5.below hb6 (Nat.le_refl _)
  have rb6 := rb5.below hb6 (Nat.le_refl _)
  have hb15 := hb15.trans (hb6.mono hb15.size)
  have hM := Lib.hid (many_any w5.heap.size w5.heap.size A2 A N n c N c2 zs bs w6 hr6 Hl.out (by omega) rb6 Hbl.out Hz.out (Nat.le_refl _) (by omega))
  rw [HT.out] at hM
  clear hJ hr5 rb5 hb6 hr6 rb6 r5 HC H1 H2
  cases decide (F ≤ 9) with
  | true =>
    cases decide (G ≤ 9) with
    | true =>
      go_wp2_with fail
      refine hM.out.mono ?_
      rintro e w6 ⟨rfl, rfl⟩
      go_wp2_with fail
      refine hM.out.mono ?_
      rintro e w6 ⟨rfl, rfl⟩
      go_wp2_with fail
      go_ret
      exact ⟨by first | rfl | (cases z1 <;> cases z2 <;> rfl) | (cases z1 <;> rfl) | (cases z2 <;> rfl), hb15⟩
    | false =>
      go_wp2_with fail
      refine hM.out.mono ?_
      rintro e w6 ⟨rfl, rfl⟩
      go_wp2_with fail
      go_ret
      exact ⟨by first | rfl | (cases z1 <;> cases z2 <;> rfl) | (cases z1 <;> rfl) | (cases z2 <;> rfl), hb15⟩
  | false =>
    cases decide (G ≤ 9) with
    | true =>
      go_wp2_with fail
      refine hM.out.mono ?_
      rintro e w6 ⟨rfl, rfl⟩
      go_wp2_with fail
      go_ret
      exact ⟨by first | rfl | (cases z1 <;> cases z2 <;> rfl) | (cases z1 <;> rfl) | (cases z2 <;> rfl), hb15⟩
    | false =>
      go_wp2_with fail
      go_ret
      exact ⟨by first | rfl | (cases z1 <;> cases z2 <;> rfl) | (cases z1 <;> rfl) | (cases z2 <;> rfl), hb15⟩

theorem means_any (A D : Option Addr) (n c m d : Nat) (k : Int) (zs : List Int) (ins : List Bool) (w : World) (hr : RdI w.heap.size w A zs) (hl : zs.length = n) (hD : RdB w.heap.size w D ins) (hm : ins.length = m) (hDn : D = none → d = 0) (hk : Wf k) :
    Calls Try.prog 5 #[.slice A n c, .int .i64 k, .slice D m d] w fun e w' => e = .returned (.bool true) ∧ Below w.heap.size w w' := by
  by_cases h : 12 < m ∨ 12 < n
  · exact means_out A D n c m d k w h
  · have hbl : (false :: ins).length = m + 1 := by rw [List.length_cons, hm]
    have hl2 : (zs.map ng).length = n := by rw [List.length_map, hl]
    cases hd : Tot.dist ((m + 1 : Nat) : Int) [] zs with
    | false =>
      have hd2 : Tot.dist ((m + 1 : Nat) : Int) [] (zs.map ng) = false := by rw [← hd]; exact dist_ng (by omega) zs []
      exact means_err A D n c m d (m + 1) k 140 zs ins w hr (by omega) hD hm (by omega) hDn hbl (by omega) (by omega) (ls_at A c hl (ls_err k (by omega) (by omega) (by omega) hd))
        (fun W hW => Most_any W.heap.size A n c _ k _ _ zs _ W hW (Nat.le_refl _) hl (by omega) hk fun W2 G c' _ _ hG => ls_at G c' hl2 (ls_err _ (by omega) (by omega) (by omega) hd2) W2 hG)
    | true =>
      obtain ⟨cl, a, F, e1, hz, h1⟩ := ls_can (zs := zs) k hl (by omega) (by omega) (by omega) hd
      obtain ⟨dl, b, G, e2, h2⟩ := ms_can (zs := zs) k hl (by omega) (by omega) (by omega) hd
      exact means_main A D n c m d (m + 1) a b F G _ _ k zs ins _ cl dl w hr hl (by omega) hD hm (by omega) hDn rfl hbl (by omega) (by omega) rfl rfl hz (ls_at A c hl e1)
        (fun W hW => Most_any W.heap.size A n c _ k _ _ zs _ W hW (Nat.le_refl _) hl (by omega) hk fun W2 G c' _ _ hG => ls_at G c' hl2 e2 W2 hG) h1 h2

set_option maxRecDepth 100000 in
theorem countMeans_lifted (os : Os) (started : os.Started) (H : Type) (enc : TypeId × Value → H) :
    ReturnsInHanded {} Try.checked os 5 .any (Rows.countMeansSpec.pre6 enc Try.prog Try.f5 Rows.countMeansRow.domain false) (Rows.countMeansSpec.post enc Try.prog Try.f5 false true false false) := by
  refine returnsInHanded_of_change (C := Try.checked) Try_own started (by kernel_rfl) Try.func5
    (ChangeSpec.witness6 (enc := enc) (C := Try.checked) false ⟨#[], #[.slice Option.none 0 0, .int .i64 0, .slice Option.none 0 0], []⟩ 5 (by kernel_rfl) (by kernel_rfl) (by kernel_rfl) (by kernel_rfl)) ?_
  intro W base args ds gs before hval0 hW _ _
  have hval : ∀ (j : Nat) t v, Try.f5.params[j]? = some t → args[j]? = some v → Value.okWide Try.prog W .any base t v := hval0
  have hW' := hW
  obtain ⟨p, q, hA0, hV, rfl, _, _⟩ := hW
  have hA : DataW.TrodAll enc Try.prog W 0 (fun _ => true) true Try.f5.params.toList args.toList ds p := hA0
  have hpar : Try.f5.params = #[22, 3, 30] := rfl
  rw [hpar] at hA hval
  have hlt : ∀ x ∈ p, x.block < W.heap.size := fun x hx => hW'.lt x (List.mem_append_left _ hx)
  obtain ⟨rfl, rfl⟩ := trodVars_none hV
  clear hA0 hval0
  obtain ⟨v0, vs0, d0, ds0, p0, q0, hargs0, rfl, rfl, h0, r0⟩ := trodAll_cons hA
  obtain ⟨v1, vs1, d1, ds1, p1, q1, hargs1, rfl, rfl, h1, r1⟩ := trodAll_cons r0
  obtain ⟨v2, vs2, d2, ds2, p2, q2, hargs2, rfl, rfl, h2, r2⟩ := trodAll_cons r1
  obtain ⟨hlast, rfl, rfl⟩ := trodAll_nil r2
  obtain rfl : args = #[v0, v1, v2] := by
    apply Array.toList_inj.1
    rw [hargs0, hargs1, hargs2, hlast]
  obtain ⟨A0, n0, cap0, zs0, rfl, hr0, hl0, hlc0, hm0, _⟩ := open_intlist (hval 0 22 v0 rfl rfl) h0 (fun x hx => hlt x (List.mem_append_left _ hx))
  obtain ⟨n1, rfl, rfl, rfl, wf1⟩ := open_int underlying3' (hval 1 3 v1 rfl rfl) h1
  obtain ⟨A2, n2, cap2, bs2, rfl, hr2, hl2, hlc2, hm2, hn2⟩ := open_boollist (hval 2 30 v2 rfl rfl) h2 (fun x hx => hlt x (List.mem_append_right _ (List.mem_append_right _ (List.mem_append_left _ hx))))
  refine (means_any A0 A2 n0 cap0 n2 cap2 n1 zs0 bs2 W hr0 hl0 hr2 hl2 hn2 (wf_of wf1)).mono fun e W' ⟨he, hb⟩ => ?_
  subst he
  exact ⟨_, rfl, law_post Try_laidOut hW' rfl (by rw [hpar]; decide +kernel) 4 rfl Try.underlying4 rfl hb⟩

theorem countMeans_holds : Rows.CountMeansSaid :=
  OpenClaim.holds_of_wide 5 Try.f5 rfl rfl rfl rfl rfl rfl rfl ⟨rfl, rfl, rfl, rfl, rfl⟩ rfl rfl rfl rfl rfl (by kernel_rfl) Try.func5 (by kernel_rfl)
    (of_decide_eq_true (by kernel_rfl)) (by unfold Func.isWrapper; first | (rw [if_pos (by decide +kernel)]; kernel_rfl) | (rw [if_neg (by decide +kernel)]; exact ⟨rfl, rfl⟩))
    (fun os started H enc _ => countMeans_lifted os started H enc)
end Go.Proofs.Ytpiomdnkemoanaa
