/- For all constraints, lists of literals and assignments the law LinForceSpec answers true at the landed code and changes nothing that came in: Force and Value answer what the reference answers. Conditions: those of the statement alone. -/
import Derived.Test.YtoacfjmefoiflaaFSp
namespace Go.Proofs.Ytoacfjmefoiflaa
open Go.ChangeShapes Go.WideShapes Go.ChangeAt Go.RowKit
set_option maxRecDepth 100000 in
theorem linForceSpec_lifted (os : Os) (started : os.Started) (H : Type) (enc : TypeId × Value → H) :
    ReturnsInHanded {} Try.checked os 4 .any (Rows.linForceSpecSpec.pre6 enc Try.prog Try.f4 Rows.linForceSpecRow.domain false) (Rows.linForceSpecSpec.post enc Try.prog Try.f4 false true false false) := by
  refine returnsInHanded_of_change (C := Try.checked) Try_own started (by kernel_rfl) Try.func4
    (ChangeSpec.witness6 (enc := enc) (C := Try.checked) false ⟨#[], #[.agg #[.slice Option.none 0 0, .slice Option.none 0 0, .int .i64 0], .slice Option.none 0 0, .slice Option.none 0 0], []⟩ 4 (by kernel_rfl) (by kernel_rfl) (by kernel_rfl) (by kernel_rfl)) ?_
  intro W base args ds gs before hval0 hW _ _
  have hval : ∀ (j : Nat) t v, Try.f4.params[j]? = some t → args[j]? = some v → Value.okWide Try.prog W .any base t v := hval0
  have hW' := hW
  obtain ⟨p, q, hA0, hV, rfl, _, _⟩ := hW
  have hA : DataW.TrodAll enc Try.prog W 0 (fun _ => true) true Try.f4.params.toList args.toList ds p := hA0
  have hpar : Try.f4.params = #[24, 22, 32] := rfl
  rw [hpar] at hA hval
  have hlt : ∀ x ∈ p, x.block < W.heap.size := fun x hx => hW'.lt x (List.mem_append_left _ hx)
  obtain ⟨rfl, rfl⟩ := trodVars_none hV
  clear hA0 hval0
  obtain ⟨v0, vs0, d0, ds0, p0, q0, hargs0, rfl, rfl, h0, r0⟩ := trodAll_cons hA
  obtain ⟨v1, vs1, d1, ds1, p1, q1, hargs1, rfl, rfl, h1, r1⟩ := trodAll_cons r0
  obtain ⟨v2, vs2, d2, ds2, p2, q2, hargs2, rfl, rfl, h2, r2⟩ := trodAll_cons r1
  obtain ⟨hlast, rfl, rfl⟩ := trodAll_nil r2
  obtain rfl : args = #[v0, v1, v2] := by
    apply Array.toList_inj.1
    rw [hargs0, hargs1, hargs2, hlast]
  obtain ⟨A0, n0, cap0, B0, m0, lap0, k0, cs0, zs0, rfl, hr0, hs0, hl0, hm0, hx0, hy0, hu0, hv0, wk0⟩ := open_lin (hval 0 24 v0 rfl rfl) h0 (fun x hx => hlt x (List.mem_append_left _ hx))
  obtain ⟨A1, n1, cap1, zs1, rfl, hr1, hl1, hlc1, hm1, hn1⟩ := open_intlist (hval 1 22 v1 rfl rfl) h1 (fun x hx => hlt x (List.mem_append_right _ (List.mem_append_left _ hx)))
  obtain ⟨A2, n2, cap2, bs2, rfl, hr2, hl2, hlc2, hm2, hn2⟩ := open_boollist (hval 2 32 v2 rfl rfl) h2 (fun x hx => hlt x (List.mem_append_right _ (List.mem_append_right _ (List.mem_append_left _ hx))))
  refine (fsp_any A0 B0 A1 A2 n0 m0 n1 n2 cap0 lap0 cap1 cap2 k0 W cs0 zs0 zs1 bs2 hr0 hs0 hr1 hr2 hl0 hm0 hl1 hl2 hlc1).mono fun e W' ⟨he, hb⟩ => ?_
  subst he
  exact ⟨_, rfl, law_post Try_laidOut hW' rfl (by rw [hpar]; decide +kernel) 4 rfl Try.underlying4 rfl hb⟩

theorem linForceSpec_holds : Rows.LinForceSpecSaid :=
  OpenClaim.holds_of_wide 4 Try.f4 rfl rfl rfl rfl rfl rfl rfl ⟨rfl, rfl, rfl, rfl, rfl⟩ rfl rfl rfl rfl rfl (by kernel_rfl) Try.func4 (by kernel_rfl)
    (of_decide_eq_true (by kernel_rfl)) (by unfold Func.isWrapper; first | (rw [if_pos (by decide +kernel)]; kernel_rfl) | (rw [if_neg (by decide +kernel)]; exact ⟨rfl, rfl⟩))
    (fun os started H enc _ => linForceSpec_lifted os started H enc)
end Go.Proofs.Ytoacfjmefoiflaa
