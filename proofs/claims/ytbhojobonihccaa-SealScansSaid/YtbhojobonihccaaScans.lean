/- SealScans: for every byte slice (of whatever length), the program's scan and the plain scan of the document give the same payloads and the same number of bytes (where the slice has at most 4000 bytes), the law's own sanity check holds, and nothing that was there has turned. No condition. -/
import Derived.Test.YtbhojobonihccaaSame
namespace Go.Proofs.Ytbhojobonihccaa
open Go.ChangeShapes Go.WideShapes Go.ChangeAt Go.RowKit

set_option maxHeartbeats 1000000 in
theorem sealScans_walk (A : Option Addr) (cap : Nat) (bs : List Nat) (w : World) (hr : Rd w.heap.size w A bs) (hcap : bs.length ≤ cap) (hm : cap ≤ maxLen) :
    Calls Try.prog 5 #[.slice A bs.length cap] w fun e w' => e = .returned (.bool true) ∧ Below w.heap.size w w' := by
  have Hm := hm
  unfold maxLen at hm
  by_cases hbig : 4000 < bs.length
  · go_enter Try.func5, Try.ntmps5
    go_wp2_with fail
    refine (live_any w).mono ?_
    rintro e w1 ⟨rfl, hb1⟩
    go_wp2
    go_ret
    exact ⟨rfl, hb1⟩
  · have hle : bs.length ≤ 4000 := Nat.le_of_not_lt hbig
    have hsp := scan_le bs
    clear hbig
    go_enter Try.func5, Try.ntmps5
    go_wp2_with fail
    refine (live_any w).mono ?_
    rintro e w1 ⟨rfl, hb1⟩
    have hsz1 := hb1.size
    have h1 := Scan_any w.heap.size A cap bs w1 (hr.below hb1 (Nat.le_refl _)) hsz1 hcap Hm (by omega)
    go_wp2_with fail
    refine h1.mono ?_
    rintro e w2 ⟨v2, vs2, rfl, hown2, hels2, hb2⟩
    have hsz2 := hb2.size
    have hb2' := hb1.trans (hb2.mono hsz1)
    have h2 := RScan_any w.heap.size A cap bs w2 (hr.below hb2' (Nat.le_refl _)) hb2'.size hcap Hm (by omega)
    clear h1
    go_wp2_with fail
    refine h2.mono ?_
    rintro e w3 ⟨v3, vs3, rfl, hown3, hels3, hb3⟩
    have hb3' := hb2'.trans (hb3.mono hb2'.size)
    obtain ⟨A2, c2, rfl⟩ := own_shape hown2
    obtain ⟨A3, c3, rfl⟩ := own_shape hown3
    obtain ⟨n2, r2⟩ := hels2.rd hown2
    obtain ⟨n3, r3⟩ := hels3.rd hown3
    have hlen := eight_length (scan bs)
    have h3 := SameAll_true w2.heap.size w3.heap.size A2 A3 (scan bs).length c2 c3 (scan bs) w3 (r2.below hb3 (Nat.le_refl _)) r3 rfl (by unfold maxLen; omega)
    rw [n2, n3]
    clear h2 hown2 hown3 hels2 hels3 n2 n3 r2 r3
    generalize span (scan bs) = k at *
    generalize scan bs = l at *
    generalize l.length = n at *
    go_wp2_with fail
    refine h3.mono ?_
    rintro e w4 ⟨rfl, kd, rfl⟩
    go_wp2
    go_ret
    exact ⟨rfl, below_drewN hb3' kd⟩

set_option maxRecDepth 100000 in
theorem sealScans_lifted (os : Os) (started : os.Started) (H : Type) (enc : TypeId × Value → H) :
    ReturnsInHanded {} Try.checked os 5 .any (Rows.sealScansSpec.pre6 enc Try.prog Try.f5 Rows.sealScansRow.domain false) (Rows.sealScansSpec.post enc Try.prog Try.f5 false true false false) := by
  refine returnsInHanded_of_change (C := Try.checked) Try.own started (by kernel_rfl) Try.func5
    (ChangeSpec.witness6 (enc := enc) (C := Try.checked) false ⟨#[], #[.slice Option.none 0 0], []⟩ 8 (by kernel_rfl) (by kernel_rfl) (by kernel_rfl) (by kernel_rfl)) ?_
  intro W base args ds gs before hval0 hW _ _
  have hval : ∀ (j : Nat) t v, Try.f5.params[j]? = some t → args[j]? = some v → Value.okWide Try.prog W .any base t v := hval0
  have hW' := hW
  obtain ⟨p, q, hA0, hV, rfl, _, _⟩ := hW
  have hA : DataW.TrodAll enc Try.prog W 0 (fun _ => true) true Try.f5.params.toList args.toList ds p := hA0
  rw [Try.params5] at hA hval
  obtain ⟨v0, d0, rfl, rfl, h0⟩ := trodAll_one hA
  obtain ⟨rfl, rfl⟩ := trodVars_none hV
  clear hA0 hval0
  have hlt : ∀ x ∈ p, x.block < W.heap.size := fun x hx => hW'.lt x (by simpa using hx)
  obtain ⟨A, len, cap, bs, rfl, hr, rfl, hlc, hm, _⟩ := open_bytes (hval 0 22 v0 rfl rfl) h0 hlt
  refine (sealScans_walk A cap bs W hr hlc hm).mono fun e W' ⟨he, hb⟩ => ?_
  subst he
  exact ⟨_, rfl, law_post Try.laidOut hW' rfl (by rw [Try.params5]; decide +kernel) 4 rfl Try.underlying4 rfl hb⟩

theorem sealScans_holds : Rows.SealScansSaid :=
  OpenClaim.holds_of_wide 5 Try.f5 rfl rfl rfl rfl rfl rfl rfl ⟨rfl, rfl, rfl, rfl, rfl⟩ rfl rfl rfl rfl rfl (by kernel_rfl) Try.func5 (by kernel_rfl)
    (of_decide_eq_true (by kernel_rfl)) (by unfold Func.isWrapper; first | (rw [if_pos (by decide +kernel)]; kernel_rfl) | (rw [if_neg (by decide +kernel)]; exact ⟨rfl, rfl⟩))
    (fun os started H enc _ => sealScans_lifted os started H enc)
end Go.Proofs.Ytbhojobonihccaa
