/- For every slice of integers and every number k the law AdderLeastSpec answers true at the landed code and changes nothing that came in: Least answers the clauses and the error of the reference. Conditions: those of the statement alone. -/
import Derived.Test.YtpeklcbjhkchlaaRLeast
import Derived.Test.YtpeklcbjhkchlaaLive
namespace Go.Proofs.Ytpeklcbjhkchlaa
open Go.ChangeShapes Go.WideShapes Go.ChangeAt Go.RowKit

set_option maxHeartbeats 4000000 in
theorem leastSpec_run (A : Option Addr) (n c : Nat) (k E : Int) (zs : List Int) (cl : List (List Int)) (w : World) (hr : RdI w.heap.size w A zs) (hn : n ≤ 100) (hcl : cl.length ≤ maxLen)
    (h1 : ∀ W : World, RdI W.heap.size W A zs → Calls Try.prog 17 #[.slice A n c, .int .i64 k] W (LeRes W cl E))
    (h2 : ∀ W : World, RdI W.heap.size W A zs → Calls Try.prog 18 #[.slice A n c, .int .i64 k] W (LeRes W cl E)) :
    Calls Try.prog 4 #[.slice A n c, .int .i64 k] w fun e w' => e = .returned (.bool true) ∧ Below w.heap.size w w' := by
  go_enter Try.func4, Try.ntmps4
  go_wp2_with fail
  refine (live_any w).mono ?_
  rintro e w1 ⟨rfl, hb1⟩
  have hr1 := RdI.more (hr.below hb1 (Nat.le_refl _)) hb1.size
  go_wp2_with fail
  refine (h1 w1 hr1).mono ?_
  rintro e w2 ⟨A2, c2, rfl, r2, hb2, hl2⟩
  have hr2 := RdI.more (hr1.below hb2 (Nat.le_refl _)) hb2.size
  have hb12 := hb1.trans (hb2.mono hb1.size)
  clear h1 hr1 hb1
  go_wp2_with fail
  refine (h2 w2 hr2).mono ?_
  rintro e w3 ⟨A3, c3, rfl, r3, hb3, hl3⟩
  have r23 := r2.below hb3 (Nat.le_refl _)
  have hb13 := hb12.trans (hb3.mono hb12.size)
  have hL := Lib.hid (Lists_any _ _ A2 A3 _ c2 c3 cl w3 r23 r3 rfl hcl hl3)
  obtain ⟨L, hLL⟩ : ∃ L, cl.length = L := ⟨_, rfl⟩
  rw [hLL] at hL ⊢
  clear h2 hr2 hb12 hb2 hb3 r2 r3 r23 hl2 hl3 hr hLL hcl
  go_wp2_with fail
  refine hL.out.mono ?_
  rintro e w4 ⟨rfl, q, rfl⟩
  clear hL
  go_wp2_with fail
  go_ret
  exact ⟨rfl, below_drewN hb13 _⟩

theorem leastSpec_any (A : Option Addr) (n c : Nat) (k : Int) (zs : List Int) (w : World) (hr : RdI w.heap.size w A zs) (hl : zs.length = n) (hc : n ≤ c) (hm : c ≤ maxLen) :
    Calls Try.prog 4 #[.slice A n c, .int .i64 k] w fun e w' => e = .returned (.bool true) ∧ Below w.heap.size w w' := by
  have h0 : ([] : List (List Int)).length ≤ maxLen := Nat.zero_le _
  by_cases h : 100 < n
  · go_enter Try.func4, Try.ntmps4
    go_wp2_with fail
    refine (live_any w).mono ?_
    rintro e w1 ⟨rfl, hb1⟩
    go_wp2_with fail
    go_ret
    exact ⟨rfl, hb1⟩
  · by_cases hk : k < 0 ∨ 4503599627370496 < k
    · exact leastSpec_run A n c k 1 zs [] w hr (by omega) h0 (fun W _ => Least_low A n c k W hk) (fun W _ => RLeast_low A n c k W hk)
    · obtain ⟨K, rfl⟩ := Int.eq_ofNat_of_zero_le (show 0 ≤ k by omega)
      cases hf : zs.any farB with
      | true => exact leastSpec_run A n c K 1 zs [] w hr (by omega) h0 (fun W hW => Least_far _ A n c K zs W hW hl (by omega) (by omega) hf) (fun W hW => RLeast_far _ A n c K zs W hW hl (by omega) (by omega) hf)
      | false =>
        by_cases h60 : 60 < n
        · exact leastSpec_run A n c K 2 zs [] w hr (by omega) h0 (fun W hW => Least_long _ A n c K zs W hW hl (by omega) (by omega) hf h60) (fun W hW => RLeast_long _ A n c K zs W hW hl (by omega) (by omega) hf h60)
        · have := ls_len zs K 60
          exact leastSpec_run A n c K 0 zs _ w hr (by omega) (by unfold maxLen; omega) (fun W hW => Least_any _ A n c K zs W hW (Nat.le_refl _) hl (by omega) hf (by omega)) (fun W hW => RLeast_any _ A n c K zs W hW (Nat.le_refl _) hl (by omega) hf (by omega))

set_option maxRecDepth 100000 in
theorem adderLeastSpec_lifted (os : Os) (started : os.Started) (H : Type) (enc : TypeId × Value → H) :
    ReturnsInHanded {} Try.checked os 4 .any (Rows.adderLeastSpecSpec.pre6 enc Try.prog Try.f4 Rows.adderLeastSpecRow.domain false) (Rows.adderLeastSpecSpec.post enc Try.prog Try.f4 false true false false) := by
  refine returnsInHanded_of_change (C := Try.checked) Try_own started (by kernel_rfl) Try.func4
    (ChangeSpec.witness6 (enc := enc) (C := Try.checked) false ⟨#[], #[.slice Option.none 0 0, .int .i64 0], []⟩ 4 (by kernel_rfl) (by kernel_rfl) (by kernel_rfl) (by kernel_rfl)) ?_
  intro W base args ds gs before hval0 hW _ _
  have hval : ∀ (j : Nat) t v, Try.f4.params[j]? = some t → args[j]? = some v → Value.okWide Try.prog W .any base t v := hval0
  have hW' := hW
  obtain ⟨p, q, hA0, hV, rfl, _, _⟩ := hW
  have hA : DataW.TrodAll enc Try.prog W 0 (fun _ => true) true Try.f4.params.toList args.toList ds p := hA0
  have hpar : Try.f4.params = #[22, 3] := rfl
  rw [hpar] at hA hval
  have hlt : ∀ x ∈ p, x.block < W.heap.size := fun x hx => hW'.lt x (List.mem_append_left _ hx)
  obtain ⟨rfl, rfl⟩ := trodVars_none hV
  clear hA0 hval0
  obtain ⟨v0, vs0, d0, ds0, p0, q0, hargs0, rfl, rfl, h0, r0⟩ := trodAll_cons hA
  obtain ⟨v1, vs1, d1, ds1, p1, q1, hargs1, rfl, rfl, h1, r1⟩ := trodAll_cons r0
  obtain ⟨hlast, rfl, rfl⟩ := trodAll_nil r1
  obtain rfl : args = #[v0, v1] := by
    apply Array.toList_inj.1
    rw [hargs0, hargs1, hlast]
  obtain ⟨A0, n0, cap0, zs0, rfl, hr0, hl0, hlc0, hm0, hn0⟩ := open_intlist (hval 0 22 v0 rfl rfl) h0 (fun x hx => hlt x (List.mem_append_left _ hx))
  obtain ⟨n1, rfl, rfl, rfl, wf1⟩ := open_int underlying3' (hval 1 3 v1 rfl rfl) h1
  refine (leastSpec_any A0 n0 cap0 n1 zs0 W hr0 hl0 hlc0 hm0).mono fun e W' ⟨he, hb⟩ => ?_
  subst he
  exact ⟨_, rfl, law_post Try_laidOut hW' rfl (by rw [hpar]; decide +kernel) 4 rfl Try.underlying4 rfl hb⟩

theorem adderLeastSpec_holds : Rows.AdderLeastSpecSaid :=
  OpenClaim.holds_of_wide 4 Try.f4 rfl rfl rfl rfl rfl rfl rfl ⟨rfl, rfl, rfl, rfl, rfl⟩ rfl rfl rfl rfl rfl (by kernel_rfl) Try.func4 (by kernel_rfl)
    (of_decide_eq_true (by kernel_rfl)) (by unfold Func.isWrapper; first | (rw [if_pos (by decide +kernel)]; kernel_rfl) | (rw [if_neg (by decide +kernel)]; exact ⟨rfl, rfl⟩))
    (fun os started H enc _ => adderLeastSpec_lifted os started H enc)
end Go.Proofs.Ytpeklcbjhkchlaa
