/- SealSums: for every byte slice (of whatever length), the table-driven checksum of the program and the plain checksum of the document agree (where the slice has at most 4000 bytes), the law's own sanity check holds, and nothing that was there has turned. No condition. -/
import Derived.Test.YtbhojobonihccaaLaw
namespace Go.Proofs.Ytbhojobonihccaa
open Go.ChangeShapes Go.WideShapes Go.ChangeAt Go.RowKit

set_option maxHeartbeats 1000000 in
theorem sealSums_walk (B : Nat) (A : Option Addr) (len cap : Nat) (bs : List Nat) (w : World) (hr : Rd B w A bs) (hB : B ≤ w.heap.size) (hl : bs.length = len) (hm : len ≤ maxLen) :
    Calls Try.prog 3 #[.slice A len cap] w fun e w' => e = .returned (.bool true) ∧ Below w.heap.size w w' := by
  have Hm := hm
  unfold maxLen at hm
  go_enter Try.func3, Try.ntmps3
  go_wp2_with fail
  refine (live_any w).mono ?_
  rintro e w1 ⟨rfl, hb1⟩
  have hr1 := hr.below hb1 hB
  have hsz1 := hb1.size
  go_wp2_with fail
  · refine (Sum_any B A len cap bs w1 hr1 (by omega) hl Hm).mono ?_
    rintro e w2 ⟨rfl, hb2⟩
    go_wp2_with fail
    refine (refSum_any B A len cap bs w2 (hr1.below hb2 (by omega)) hl Hm).mono ?_
    rintro e w3 ⟨rfl, rfl⟩
    go_wp2
    go_ret
    exact ⟨by simp, hb1.trans (hb2.mono hsz1)⟩
  · go_ret
    exact ⟨rfl, hb1⟩

set_option maxRecDepth 100000 in
theorem sealSums_lifted (os : Os) (started : os.Started) (H : Type) (enc : TypeId × Value → H) :
    ReturnsInHanded {} Try.checked os 3 .any (Rows.sealSumsSpec.pre6 enc Try.prog Try.f3 Rows.sealSumsRow.domain false) (Rows.sealSumsSpec.post enc Try.prog Try.f3 false true false false) := by
  refine returnsInHanded_of_change (C := Try.checked) Try.own started (by kernel_rfl) Try.func3
    (ChangeSpec.witness6 (enc := enc) (C := Try.checked) false ⟨#[], #[.slice Option.none 0 0], []⟩ 8 (by kernel_rfl) (by kernel_rfl) (by kernel_rfl) (by kernel_rfl)) ?_
  intro W base args ds gs before hval0 hW _ _
  have hval : ∀ (j : Nat) t v, Try.f3.params[j]? = some t → args[j]? = some v → Value.okWide Try.prog W .any base t v := hval0
  have hW' := hW
  obtain ⟨p, q, hA0, hV, rfl, _, _⟩ := hW
  have hA : DataW.TrodAll enc Try.prog W 0 (fun _ => true) true Try.f3.params.toList args.toList ds p := hA0
  rw [Try.params3] at hA hval
  obtain ⟨v0, d0, rfl, rfl, h0⟩ := trodAll_one hA
  obtain ⟨rfl, rfl⟩ := trodVars_none hV
  clear hA0 hval0
  have hlt : ∀ x ∈ p, x.block < W.heap.size := fun x hx => hW'.lt x (by simpa using hx)
  obtain ⟨A, len, cap, bs, rfl, hr, hl, hlc, hm, _⟩ := open_bytes (hval 0 22 v0 rfl rfl) h0 hlt
  refine (sealSums_walk W.heap.size A len cap bs W hr (Nat.le_refl _) hl (by omega)).mono fun e W' ⟨he, hb⟩ => ?_
  subst he
  exact ⟨_, rfl, law_post Try.laidOut hW' rfl (by rw [Try.params3]; decide +kernel) 4 rfl Try.underlying4 rfl hb⟩

theorem sealSums_holds : Rows.SealSumsSaid :=
  OpenClaim.holds_of_wide 3 Try.f3 rfl rfl rfl rfl rfl rfl rfl ⟨rfl, rfl, rfl, rfl, rfl⟩ rfl rfl rfl rfl rfl (by kernel_rfl) Try.func3 (by kernel_rfl)
    (of_decide_eq_true (by kernel_rfl)) (by unfold Func.isWrapper; first | (rw [if_pos (by decide +kernel)]; kernel_rfl) | (rw [if_neg (by decide +kernel)]; exact ⟨rfl, rfl⟩))
    (fun os started H enc _ => sealSums_lifted os started H enc)
end Go.Proofs.Ytbhojobonihccaa
