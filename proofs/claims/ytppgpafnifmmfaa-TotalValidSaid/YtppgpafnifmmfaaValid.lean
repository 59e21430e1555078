/- For every slice of integers, every limit and every first new variable, the law TotalValid answers true at the landed code and changes nothing that came in: an error comes with no outputs, no clauses and 0, and otherwise the clauses are a valid formula of clauses of two or three literals over the variables below the one returned, and the outputs are new variables, or the literal itself where there is one. Conditions: those of the statement alone. -/
import Derived.Test.YtppgpafnifmmfaaValidA
import Derived.Test.YtppgpafnifmmfaaValidB
import Derived.Test.YtppgpafnifmmfaaValidC
namespace Go.Proofs.Ytppgpafnifmmfaa
open Go.ChangeShapes Go.WideShapes Go.ChangeAt Go.RowKit

theorem valid_any (A : Option Addr) (n c : Nat) (most next : Int) (zs : List Int) (w : World) (hr : RdI w.heap.size w A zs) (hl : zs.length = n) (hnc : n ≤ c) (hc : c ≤ maxLen) :
    Calls Try.prog 6 #[.slice A n c, .int .i64 most, .int .i64 next] w fun e w' => e = .returned (.bool true) ∧ Below w.heap.size w w' := by
  by_cases h : 40 < n
  · exact valid_out A n c most next w h
  · rcases Total_ways A n c most next zs hl (by omega) with ⟨k, hk, hT⟩ | ⟨M, m, rfl, rfl, h1, h2, hM, hd, hz, hs⟩
    · exact valid_err A n c most next k zs w hr (by omega) hk hT
    · have hlit := dist_lit zs [] hd
      have hgood := cnt_good (most := M) h1 n zs m (by omega) (Nat.le_refl _) hlit
      have hou := cnt_length (most := M) zs m
      have hcl := cnt_clauses40 (most := M) n zs m (by omega) (by omega)
      have hT : ∀ W : World, RdI W.heap.size W A zs → Calls Try.prog 11 #[.slice A n c, .int .i64 (M : Int), .int .i64 (m : Int)] W (TotOk W (Tot.cnt M zs m).1 (Tot.cnt M zs m).2 (m + Tot.size M n)) :=
        fun W hW => Total_ok A n c M m zs W hW hl hnc hc (by omega) h1 h2 hM hz hd hs
      have hC : (Tot.cnt M zs m).2.length ≤ 65536 := by
        have := Nat.mul_le_mul (Nat.le_refl 882) (show zs.length - 1 ≤ 39 by omega)
        omega
      have hone : n = 1 → ∀ x ∈ (Tot.cnt M zs m).1, x = zs[0]?.getD 0 := fun e => cnt_outs1 zs m (by omega)
      have hmore : 1 < n → ∀ x ∈ (Tot.cnt M zs m).1, (m : Int) ≤ x ∧ x < ((m + Tot.size M n : Nat) : Int) := fun e => by
        have := cnt_outs (most := M) zs m (by omega)
        rwa [hl] at this
      have hg : ∀ x ∈ (Tot.cnt M zs m).2, Good (m + Tot.size M n) x := by
        have := hgood.2
        rwa [hl] at this
      clear hgood
      match n, hl, hT, hone, hmore, hg, hs, hou with
      | 0, hl, hT, hone, hmore, hg, hs, hou => exact valid_ok0 A c _ _ _ _ _ zs _ _ w hr hl (by omega) hT (by omega) hs rfl rfl (by omega) hC hone hmore hg
      | 1, hl, hT, hone, hmore, hg, hs, hou => exact valid_ok1 A c _ _ _ _ _ zs _ _ w hr hl (by omega) hT (by omega) hs rfl rfl (by omega) hC (fun e => hone e) hmore hg
      | p + 2, hl, hT, hone, hmore, hg, hs, hou => exact valid_ok2 A p c _ _ _ _ _ zs _ _ w hr hl (by omega) hT (by omega) hs rfl rfl (by omega) hC hone hmore hg

set_option maxRecDepth 100000 in
theorem totalValid_lifted (os : Os) (started : os.Started) (H : Type) (enc : TypeId × Value → H) :
    ReturnsInHanded {} Try.checked os 6 .any (Rows.totalValidSpec.pre6 enc Try.prog Try.f6 Rows.totalValidRow.domain false) (Rows.totalValidSpec.post enc Try.prog Try.f6 false true false false) := by
  refine returnsInHanded_of_change (C := Try.checked) Try_own started (by kernel_rfl) Try.func6
    (ChangeSpec.witness6 (enc := enc) (C := Try.checked) false ⟨#[], #[.slice Option.none 0 0, .int .i64 0, .int .i64 0], []⟩ 6 (by kernel_rfl) (by kernel_rfl) (by kernel_rfl) (by kernel_rfl)) ?_
  intro W base args ds gs before hval0 hW _ _
  have hval : ∀ (j : Nat) t v, Try.f6.params[j]? = some t → args[j]? = some v → Value.okWide Try.prog W .any base t v := hval0
  have hW' := hW
  obtain ⟨p, q, hA0, hV, rfl, _, _⟩ := hW
  have hA : DataW.TrodAll enc Try.prog W 0 (fun _ => true) true Try.f6.params.toList args.toList ds p := hA0
  have hpar : Try.f6.params = #[22, 3, 3] := rfl
  rw [hpar] at hA hval
  have hlt : ∀ x ∈ p, x.block < W.heap.size := fun x hx => hW'.lt x (List.mem_append_left _ hx)
  obtain ⟨rfl, rfl⟩ := trodVars_none hV
  clear hA0 hval0
  obtain ⟨v0, vs0, d0, ds0, p0, q0, hargs0, rfl, rfl, h0, r0⟩ := trodAll_cons hA
  obtain ⟨v1, vs1, d1, ds1, p1, q1, hargs1, rfl, rfl, h1, r1⟩ := trodAll_cons r0
  obtain ⟨v2, vs2, d2, ds2, p2, q2, hargs2, rfl, rfl, h2, r2⟩ := trodAll_cons r1
  obtain ⟨hlast, rfl, rfl⟩ := trodAll_nil r2
  obtain rfl : args = #[v0, v1, v2] := by
    apply Array.toList_inj.1
    rw [hargs0, hargs1, hargs2, hlast]
  obtain ⟨A0, n0, cap0, zs0, rfl, hr0, hl0, hlc0, hm0, _⟩ := open_intlist (hval 0 22 v0 rfl rfl) h0 (fun x hx => hlt x (List.mem_append_left _ hx))
  obtain ⟨n1, rfl, rfl, rfl, wf1⟩ := open_int underlying3' (hval 1 3 v1 rfl rfl) h1
  obtain ⟨n2, rfl, rfl, rfl, wf2⟩ := open_int underlying3' (hval 2 3 v2 rfl rfl) h2
  refine (valid_any A0 n0 cap0 n1 n2 zs0 W hr0 hl0 hlc0 hm0).mono fun e W' ⟨he, hb⟩ => ?_
  subst he
  exact ⟨_, rfl, law_post Try_laidOut hW' rfl (by rw [hpar]; decide +kernel) 4 rfl Try.underlying4 rfl hb⟩

theorem totalValid_holds : Rows.TotalValidSaid :=
  OpenClaim.holds_of_wide 6 Try.f6 rfl rfl rfl rfl rfl rfl rfl ⟨rfl, rfl, rfl, rfl, rfl⟩ rfl rfl rfl rfl rfl (by kernel_rfl) Try.func6 (by kernel_rfl)
    (of_decide_eq_true (by kernel_rfl)) (by unfold Func.isWrapper; first | (rw [if_pos (by decide +kernel)]; kernel_rfl) | (rw [if_neg (by decide +kernel)]; exact ⟨rfl, rfl⟩))
    (fun os started H enc _ => totalValid_lifted os started H enc)
end Go.Proofs.Ytppgpafnifmmfaa
