/- For every slice of integers, every limit and every first new variable, the law TotalMatches answers true at the landed code and changes nothing that came in: Total returns the outputs, the clauses, the next variable and the error of the reference. Conditions: those of the statement alone. -/
import Derived.Test.YtppgpafnifmmfaaRef
namespace Go.Proofs.Ytppgpafnifmmfaa
open Go.ChangeShapes Go.WideShapes Go.ChangeAt Go.RowKit

set_option maxHeartbeats 4000000 in
theorem matches_out (A : Option Addr) (n c : Nat) (most next : Int) (w : World) (h : 40 < n) :
    Calls Try.prog 3 #[.slice A n c, .int .i64 most, .int .i64 next] w fun e w' => e = .returned (.bool true) ∧ Below w.heap.size w w' := by
  go_enter Try.func3, Try.ntmps3
  go_wp2_with fail
  refine (live_any w).mono ?_
  rintro e w1 ⟨rfl, hb1⟩
  go_wp2_with fail
  go_ret
  exact ⟨rfl, hb1⟩

set_option maxRecDepth 30000 in
set_option maxHeartbeats 4000000 in
theorem matches_run (A : Option Addr) (n c N C a : Nat) (most next k : Int) (zs outs : List Int) (cl : List (List Int)) (w : World) (hr : RdI w.heap.size w A zs) (hn : n ≤ 40) (hN : outs.length = N) (hC : cl.length = C) (hN2 : N ≤ maxLen) (hC2 : C ≤ maxLen)
    (hT : ∀ W : World, RdI W.heap.size W A zs → Calls Try.prog 11 #[.slice A n c, .int .i64 most, .int .i64 next] W (TotRes W outs cl a k))
    (hU : ∀ W : World, RdI W.heap.size W A zs → Calls Try.prog 12 #[.slice A n c, .int .i64 most, .int .i64 next] W (TotRes W outs cl a k)) :
    Calls Try.prog 3 #[.slice A n c, .int .i64 most, .int .i64 next] w fun e w' => e = .returned (.bool true) ∧ Below w.heap.size w w' := by
  have Hl := Lib.hid (And.intro hN hC)
  clear hN hC
  go_enter Try.func3, Try.ntmps3
  go_wp2_with fail
  refine (live_any w).mono ?_
  rintro e w1 ⟨rfl, hb1⟩
  go_wp2_with fail
  refine (hT w1 (hr.below hb1 (Nat.le_refl _) |>.more hb1.size)).mono ?_
  rintro e w2 ⟨A1, c1, A2, c2, rfl, r1, r2, hb2, hlen⟩
  rw [Hl.out.1, Hl.out.2]
  have hb12 := hb1.trans (hb2.mono hb1.size)
  have Hlen := Lib.hid hlen
  clear hb1 hb2 hT hlen
  go_wp2_with fail
  refine (hU w2 (hr.below hb12 (Nat.le_refl _) |>.more hb12.size)).mono ?_
  rintro e w3 ⟨A3, c3, A4, c4, rfl, r3, r4, hb3, _⟩
  rw [Hl.out.1, Hl.out.2]
  have hb13 := hb12.trans (hb3.mono hb12.size)
  have r1 := r1.below hb3 (Nat.le_refl _)
  have r2 := r2.below hb3 (Nat.le_refl _)
  have hI := Lib.hid (Ints_same w2.heap.size w3.heap.size A1 A3 N c1 c3 outs w3 r1 r3 Hl.out.1 hN2)
  have hK := Lib.hid (fun q => Clauses_same w2.heap.size w3.heap.size A2 A4 C c2 c4 cl (w3.drewN q) (r2.below (below_drewN (Below.refl _ _) q) (Nat.le_refl _)) (r4.below (below_drewN (Below.refl _ _) q) (Nat.le_refl _)) Hl.out.2 hC2 (fun x hx => by
    obtain ⟨j, hj, rfl⟩ := List.mem_iff_getElem.1 hx
    have := Hlen.out j hj
    rwa [List.getElem?_eq_getElem hj] at this))
  clear hb12 hb3 r1 r2 r3 r4 hU
  go_wp2_with fail
  refine hI.out.mono ?_
  rintro e w4 ⟨rfl, q, rfl⟩
  clear hI
  go_wp2_with fail
  refine (hK.out q).mono ?_
  rintro e w5 ⟨rfl, q2, rfl⟩
  go_wp2_with fail
  go_ret
  exact ⟨rfl, below_drewN hb13 _⟩

theorem zero_size (n : Nat) : ∀ k, n ≤ k → Tot.size 0 n = 0 := by
  intro k
  induction k generalizing n with
  | zero => intro h; exact Tot.size_small (by omega)
  | succ k ih =>
    intro h
    by_cases h2 : n < 2
    · exact Tot.size_small h2
    · rw [Tot.size_big h2, ih _ (by omega), ih _ (by omega)]; omega
theorem matches_any (A : Option Addr) (n c : Nat) (most next : Int) (zs : List Int) (w : World) (hr : RdI w.heap.size w A zs) (hl : zs.length = n) (hnc : n ≤ c) (hc : c ≤ maxLen) :
    Calls Try.prog 3 #[.slice A n c, .int .i64 most, .int .i64 next] w fun e w' => e = .returned (.bool true) ∧ Below w.heap.size w w' := by
  by_cases h : 40 < n
  · exact matches_out A n c most next w h
  · have hn : n ≤ 40 := by omega
    have h0 : 0 ≤ maxLen := Nat.zero_le _
    by_cases ha : next < 1 ∨ 65537 < next ∨ most < 0 ∨ 1099511627776 < most
    · exact matches_run A n c 0 0 0 most next 1 zs [] [] w hr hn rfl rfl h0 h0 (fun W _ => (Total_arg A n c most next W (by omega)).mono fun _ _ q => q.res) (fun W _ => Ref_arg A n c most next W ha)
    · obtain ⟨M, rfl⟩ := Int.eq_ofNat_of_zero_le (show 0 ≤ most by omega)
      obtain ⟨m, rfl⟩ := Int.eq_ofNat_of_zero_le (show 0 ≤ next by omega)
      cases hd : Tot.dist (m : Int) [] zs with
      | false => exact matches_run A n c 0 0 0 _ _ 140 zs [] [] w hr hn rfl rfl h0 h0 (fun W hW => (Total_lit A n c M zs m W hW hl (by omega) (by omega) (by omega) (by omega) hd).mono fun _ _ q => q.res) (fun W hW => Ref_lit A n c M m zs W hW hl hn (by omega) (by omega) (by omega) hd)
      | true =>
        have hz : ∀ x ∈ zs, -65537 ≤ x ∧ x ≤ 65537 := fun x hx => by
          have := dist_bound zs [] hd x hx
          omega
        by_cases hzero : n = 0 ∨ M = 0
        · have hs : Tot.size M n = 0 := by
            rcases hzero with q | q
            · rw [q]; exact Tot.size_small (by omega)
            · rw [q]; exact zero_size n n (Nat.le_refl _)
          have hcn : Tot.cnt M zs m = ([], []) := Tot.cnt_none (by omega)
          refine matches_run A n c 0 0 m _ _ 0 zs [] [] w hr hn rfl rfl h0 h0 (fun W hW => (Total_ok A n c M m zs W hW hl hnc hc (by omega) (by omega) (by omega) (by omega) hz hd (by omega)).mono fun _ _ q => ?_) (fun W hW => Ref_zero A n c M m zs W hW hl hn (by omega) (by omega) (by omega) hd hzero)
          have := q.res
          rwa [hcn, hs, Nat.add_zero] at this
        · by_cases hb : m + Tot.size M n ≤ 65537
          · have hou := cnt_length (most := M) zs m
            have hcl := cnt_clauses40 (most := M) n zs m (by omega) (by omega)
            have hm2 := Nat.mul_le_mul (Nat.le_refl 882) (show zs.length - 1 ≤ 39 by omega)
            exact matches_run A n c _ _ (m + Tot.size M n) _ _ 0 zs _ _ w hr hn rfl rfl (by unfold maxLen; omega) (by unfold maxLen; omega) (fun W hW => (Total_ok A n c M m zs W hW hl hnc hc (by omega) (by omega) (by omega) (by omega) hz hd hb).mono fun _ _ q => q.res)
              (fun W hW => Ref_ok A n c M m zs W hW hl hn (by omega) (by omega) (by omega) hnc hz hd (by omega) (by omega) hb)
          · exact matches_run A n c 0 0 0 _ _ 2 zs [] [] w hr hn rfl rfl h0 h0 (fun W hW => (Total_bound A n c M zs m W hW hl (by omega) (by omega) (by omega) (by omega) hd (by omega)).mono fun _ _ q => q.res) (fun W hW => Ref_bound A n c M m zs W hW hl hn (by omega) (by omega) (by omega) hd (by omega) (by omega) (by omega))

set_option maxRecDepth 100000 in
theorem totalMatches_lifted (os : Os) (started : os.Started) (H : Type) (enc : TypeId × Value → H) :
    ReturnsInHanded {} Try.checked os 3 .any (Rows.totalMatchesSpec.pre6 enc Try.prog Try.f3 Rows.totalMatchesRow.domain false) (Rows.totalMatchesSpec.post enc Try.prog Try.f3 false true false false) := by
  refine returnsInHanded_of_change (C := Try.checked) Try_own started (by kernel_rfl) Try.func3
    (ChangeSpec.witness6 (enc := enc) (C := Try.checked) false ⟨#[], #[.slice Option.none 0 0, .int .i64 0, .int .i64 0], []⟩ 3 (by kernel_rfl) (by kernel_rfl) (by kernel_rfl) (by kernel_rfl)) ?_
  intro W base args ds gs before hval0 hW _ _
  have hval : ∀ (j : Nat) t v, Try.f3.params[j]? = some t → args[j]? = some v → Value.okWide Try.prog W .any base t v := hval0
  have hW' := hW
  obtain ⟨p, q, hA0, hV, rfl, _, _⟩ := hW
  have hA : DataW.TrodAll enc Try.prog W 0 (fun _ => true) true Try.f3.params.toList args.toList ds p := hA0
  have hpar : Try.f3.params = #[22, 3, 3] := rfl
  rw [hpar] at hA hval
  have hlt : ∀ x ∈ p, x.block < W.heap.size := fun x hx => hW'.lt x (List.mem_append_left _ hx)
  obtain ⟨rfl, rfl⟩ := trodVars_none hV
  clear hA0 hval0
  obtain ⟨v0, vs0, d0, ds0, p0, q0, hargs0, rfl, rfl, h0, r0⟩ := trodAll_cons hA
  obtain ⟨v1, vs1, d1, ds1, p1, q1, hargs1, rfl, rfl, h1, r1⟩ := trodAll_cons r0
  obtain ⟨v2, vs2, d2, ds2, p2, q2, hargs2, rfl, rfl, h2, r2⟩ := trodAll_cons r1
  obtain ⟨hlast, rfl, rfl⟩ := trodAll_nil r2
  obtain rfl : args = #[v0, v1, v2] := by
    apply Array.toList_inj.1
    rw [hargs0, hargs1, hargs2, hlast]
  obtain ⟨A0, n0, cap0, zs0, rfl, hr0, hl0, hlc0, hm0, _⟩ := open_intlist (hval 0 22 v0 rfl rfl) h0 (fun x hx => hlt x (List.mem_append_left _ hx))
  obtain ⟨n1, rfl, rfl, rfl, wf1⟩ := open_int underlying3' (hval 1 3 v1 rfl rfl) h1
  obtain ⟨n2, rfl, rfl, rfl, wf2⟩ := open_int underlying3' (hval 2 3 v2 rfl rfl) h2
  refine (matches_any A0 n0 cap0 n1 n2 zs0 W hr0 hl0 hlc0 hm0).mono fun e W' ⟨he, hb⟩ => ?_
  subst he
  exact ⟨_, rfl, law_post Try_laidOut hW' rfl (by rw [hpar]; decide +kernel) 4 rfl Try.underlying4 rfl hb⟩

theorem totalMatches_holds : Rows.TotalMatchesSaid :=
  OpenClaim.holds_of_wide 3 Try.f3 rfl rfl rfl rfl rfl rfl rfl ⟨rfl, rfl, rfl, rfl, rfl⟩ rfl rfl rfl rfl rfl (by kernel_rfl) Try.func3 (by kernel_rfl)
    (of_decide_eq_true (by kernel_rfl)) (by unfold Func.isWrapper; first | (rw [if_pos (by decide +kernel)]; kernel_rfl) | (rw [if_neg (by decide +kernel)]; exact ⟨rfl, rfl⟩))
    (fun os started H enc _ => totalMatches_lifted os started H enc)
end Go.Proofs.Ytppgpafnifmmfaa
