/- For all constraints and literals the law LinForceComplete answers true at the landed code and changes nothing that came in: over at most eight variables Force succeeds just where an assignment extends the literals and satisfies the constraint, and returns just the open literals that are true in all of them. Conditions: those of the statement alone. -/
import Derived.Test.YtoacfjmefoiflaaFC
namespace Go.Proofs.Ytoacfjmefoiflaa
open Go.ChangeShapes Go.WideShapes Go.ChangeAt Go.RowKit
set_option maxRecDepth 100000 in
theorem linForceComplete_lifted (os : Os) (started : os.Started) (H : Type) (enc : TypeId × Value → H) :
    ReturnsInHanded {} Try.checked os 8 .any (Rows.linForceCompleteSpec.pre6 enc Try.prog Try.f8 Rows.linForceCompleteRow.domain false) (Rows.linForceCompleteSpec.post enc Try.prog Try.f8 false true false false) := by
  refine returnsInHanded_of_change (C := Try.checked) Try_own started (by kernel_rfl) Try.func8
    (ChangeSpec.witness6 (enc := enc) (C := Try.checked) false ⟨#[], #[.agg #[.slice Option.none 0 0, .slice Option.none 0 0, .int .i64 0], .slice Option.none 0 0], []⟩ 8 (by kernel_rfl) (by kernel_rfl) (by kernel_rfl) (by kernel_rfl)) ?_
  intro W base args ds gs before hval0 hW _ _
  have hval : ∀ (j : Nat) t v, Try.f8.params[j]? = some t → args[j]? = some v → Value.okWide Try.prog W .any base t v := hval0
  have hW' := hW
  obtain ⟨p, q, hA0, hV, rfl, _, _⟩ := hW
  have hA : DataW.TrodAll enc Try.prog W 0 (fun _ => true) true Try.f8.params.toList args.toList ds p := hA0
  have hpar : Try.f8.params = #[24, 22] := rfl
  rw [hpar] at hA hval
  have hlt : ∀ x ∈ p, x.block < W.heap.size := fun x hx => hW'.lt x (List.mem_append_left _ hx)
  obtain ⟨rfl, rfl⟩ := trodVars_none hV
  clear hA0 hval0
  obtain ⟨v0, vs0, d0, ds0, p0, q0, hargs0, rfl, rfl, h0, r0⟩ := trodAll_cons hA
  obtain ⟨v1, vs1, d1, ds1, p1, q1, hargs1, rfl, rfl, h1, r1⟩ := trodAll_cons r0
  obtain ⟨hlast, rfl, rfl⟩ := trodAll_nil r1
  obtain rfl : args = #[v0, v1] := by
    apply Array.toList_inj.1
    rw [hargs0, hargs1, hlast]
  obtain ⟨A0, n0, cap0, B0, m0, lap0, k0, cs0, zs0, rfl, hr0, hs0, hl0, hm0, hx0, hy0, hu0, hv0, wk0⟩ := open_lin (hval 0 24 v0 rfl rfl) h0 (fun x hx => hlt x (List.mem_append_left _ hx))
  obtain ⟨A1, n1, cap1, zs1, rfl, hr1, hl1, hlc1, hm1, hn1⟩ := open_intlist (hval 1 22 v1 rfl rfl) h1 (fun x hx => hlt x (List.mem_append_right _ (List.mem_append_left _ hx)))
  refine (fc_any A0 B0 A1 n0 m0 n1 cap0 lap0 cap1 k0 W cs0 zs0 zs1 hr0 hs0 hr1 hl0 hm0 hl1 hlc1 (by unfold maxLen at hm1; omega)).mono fun e W' ⟨he, hb⟩ => ?_
  subst he
  exact ⟨_, rfl, law_post Try_laidOut hW' rfl (by rw [hpar]; decide +kernel) 4 rfl Try.underlying4 rfl hb⟩

theorem linForceComplete_holds : Rows.LinForceCompleteSaid :=
  OpenClaim.holds_of_wide 8 Try.f8 rfl rfl rfl rfl rfl rfl rfl ⟨rfl, rfl, rfl, rfl, rfl⟩ rfl rfl rfl rfl rfl (by kernel_rfl) Try.func8 (by kernel_rfl)
    (of_decide_eq_true (by kernel_rfl)) (by unfold Func.isWrapper; first | (rw [if_pos (by decide +kernel)]; kernel_rfl) | (rw [if_neg (by decide +kernel)]; exact ⟨rfl, rfl⟩))
    (fun os started H enc _ => linForceComplete_lifted os started H enc)
end Go.Proofs.Ytoacfjmefoiflaa
