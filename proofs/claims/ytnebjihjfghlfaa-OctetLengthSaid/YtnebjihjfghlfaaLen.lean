/- OctetLength: for every two integers: an encoding has 1 to 10 bytes, one byte just from -64 to 63, and no fewer bytes farther from 0 on the same side; nothing that was there has turned. No condition. -/
import Derived.Test.YtnebjihjfghlfaaLaw
namespace Go.Proofs.Ytnebjihjfghlfaa
open Go.ChangeShapes Go.WideShapes Go.ChangeAt Go.RowKit

theorem grp_mono : ∀ (f u v : Nat), u ≤ v → (Oct.grp f u).length ≤ (Oct.grp f v).length
  | 0, u, v, _ => by simp [Oct.grp]
  | f + 1, u, v, h => by
    unfold Oct.grp
    by_cases h1 : u < 128
    · rw [if_pos h1]
      split
      · simp
      · simp
    · rw [if_neg h1, if_neg (by omega)]
      have := grp_mono f (u / 128) (v / 128) (by omega)
      simpa using this
theorem enc_one (m : Int) : (Oct.enc m).length = 1 ↔ (-64 ≤ m ∧ m ≤ 63) := by
  have h : (Oct.enc m).length = 1 ↔ Oct.zz m < 128 := by
    unfold Oct.enc
    rw [Oct.grp]
    split
    · simp; omega
    · have := (Oct.grp_len 8 (Oct.zz m / 128)).1
      simp only [List.length_cons]
      omega
  rw [h, Oct.zz]
  split <;> omega
theorem enc_near {m n : Int} (h : (0 ≤ m ∧ m ≤ n) ∨ (m < 0 ∧ n ≤ m)) : (Oct.enc m).length ≤ (Oct.enc n).length := by
  apply grp_mono
  rw [Oct.zz, Oct.zz]
  rcases h with h | h
  · rw [if_pos h.1, if_pos (by omega)]; omega
  · rw [if_neg (by omega), if_neg (by omega)]; omega

set_option maxRecDepth 20000 in
set_option maxHeartbeats 2000000 in
theorem octetLength_walk (m n : Int) (w : World) (hm : Wf m) (hn : Wf n) :
    Calls Try.prog 9 #[.int .i64 m, .int .i64 n] w fun e w' => e = .returned (.bool true) ∧ Below w.heap.size w w' := by
  obtain ⟨L1, h1⟩ : ∃ L, (Oct.enc m).length = L := ⟨_, rfl⟩
  obtain ⟨L2, h2⟩ : ∃ L, (Oct.enc n).length = L := ⟨_, rfl⟩
  have a1 := Oct.enc_len m
  have a2 := Oct.enc_len n
  rw [h1] at a1
  rw [h2] at a2
  have hone := enc_one m
  rw [h1] at hone
  have hnear := fun h => enc_near (m := m) (n := n) h
  rw [h1, h2] at hnear
  have H1 := Lib.hid h1
  have H2 := Lib.hid h2
  have HM := Lib.hid hm
  have HN := Lib.hid hn
  obtain ⟨b1, b2⟩ := a1
  have hcases : (((L1 : Int) == 1) = true ∧ -64 ≤ m ∧ m ≤ 63) ∨ (((L1 : Int) == 1) = false ∧ m < -64) ∨ (((L1 : Int) == 1) = false ∧ 63 < m) := by
    by_cases h : -64 ≤ m ∧ m ≤ 63
    · exact .inl ⟨by rw [beq_iff_eq]; have := hone.2 h; omega, h⟩
    · have h3 : L1 ≠ 1 := fun e => h (hone.1 e)
      rcases (show m < -64 ∨ 63 < m by omega) with h4 | h4
      · exact .inr (.inl ⟨by rw [beq_eq_false_iff_ne]; omega, h4⟩)
      · exact .inr (.inr ⟨by rw [beq_eq_false_iff_ne]; omega, h4⟩)
  have hways : (0 ≤ m ∧ m ≤ n ∧ L1 ≤ L2) ∨ (0 ≤ m ∧ n < m) ∨ (m < 0 ∧ n ≤ m ∧ L1 ≤ L2) ∨ (m < 0 ∧ m < n) := by
    by_cases h : 0 ≤ m
    · by_cases h3 : m ≤ n
      · exact .inl ⟨h, h3, hnear (.inl ⟨h, h3⟩)⟩
      · exact .inr (.inl ⟨h, by omega⟩)
    · by_cases h3 : n ≤ m
      · exact .inr (.inr (.inl ⟨by omega, h3, hnear (.inr ⟨by omega, h3⟩)⟩))
      · exact .inr (.inr (.inr ⟨by omega, by omega⟩))
  clear hone hnear h1 h2 hm hn a2
  rcases hcases with ⟨c0, c1, c2⟩ | ⟨c0, c1⟩ | ⟨c0, c1⟩
  all_goals
    rcases hways with ⟨d1, d2, d3⟩ | ⟨d1, d2⟩ | ⟨d1, d2, d3⟩ | ⟨d1, d2⟩
    all_goals
      first
      | (exfalso; omega)
      | (go_enter Try.func9, Try.ntmps9
         go_wp2_with fail
         refine (live_any w).mono ?_
         rintro e w1 ⟨rfl, hb1⟩
         have hsz1 := hb1.size
         go_wp2_with fail
         refine (PutInt_any 0 Option.none 0 0 [] m w1 (Rd.nil _ _ _) (Nat.zero_le _) rfl (fun _ => rfl) HM.out (by omega)).mono ?_
         rintro e w2 ⟨v2, rfl, hr2, hb2⟩
         have hb2' := hb1.trans (hb2.mono hsz1)
         have hsz2 := hb2'.size
         obtain ⟨A2, k2, hv2, _, _, _⟩ := hr2.shape
         rw [List.nil_append, H1.out] at hv2
         subst hv2
         clear hr2
         go_wp2_with fail
         refine (PutInt_any 0 Option.none 0 0 [] n w2 (Rd.nil _ _ _) (Nat.zero_le _) rfl (fun _ => rfl) HN.out (by omega)).mono ?_
         rintro e w3 ⟨v3, rfl, hr3, hb3⟩
         have hb3' := hb2'.trans (hb3.mono hsz2)
         obtain ⟨A3, k3, hv3, _, _, _⟩ := hr3.shape
         rw [List.nil_append, H2.out] at hv3
         subst hv3
         clear hr3
         go_wp2
         go_ret
         exact ⟨by simp [*], hb3'⟩)

set_option maxRecDepth 100000 in
theorem octetLength_lifted (os : Os) (started : os.Started) (H : Type) (enc : TypeId × Value → H) :
    ReturnsInHanded {} Try.checked os 9 .any (Rows.octetLengthSpec.pre6 enc Try.prog Try.f9 Rows.octetLengthRow.domain false) (Rows.octetLengthSpec.post enc Try.prog Try.f9 false true false false) := by
  refine returnsInHanded_of_change (C := Try.checked) Try.own started (by kernel_rfl) Try.func9
    (ChangeSpec.witness6 (enc := enc) (C := Try.checked) false ⟨#[], #[.int .i64 0, .int .i64 0], []⟩ 8 (by kernel_rfl) (by kernel_rfl) (by kernel_rfl) (by kernel_rfl)) ?_
  intro W base args ds gs before hval0 hW _ _
  have hval : ∀ (j : Nat) t v, Try.f9.params[j]? = some t → args[j]? = some v → Value.okWide Try.prog W .any base t v := hval0
  have hW' := hW
  obtain ⟨p, q, hA0, hV, rfl, _, _⟩ := hW
  have hA : DataW.TrodAll enc Try.prog W 0 (fun _ => true) true Try.f9.params.toList args.toList ds p := hA0
  rw [Try.params9] at hA hval
  have hlt : ∀ x ∈ p, x.block < W.heap.size := fun x hx => hW'.lt x (List.mem_append_left _ hx)
  obtain ⟨rfl, rfl⟩ := trodVars_none hV
  clear hA0 hval0
  obtain ⟨v0, vs0, d0, ds0, p0, q0, hargs0, rfl, rfl, h0, r0⟩ := trodAll_cons hA
  obtain ⟨v1, vs1, d1, ds1, p1, q1, hargs1, rfl, rfl, h1, r1⟩ := trodAll_cons r0
  obtain ⟨hlast, rfl, rfl⟩ := trodAll_nil r1
  obtain rfl : args = #[v0, v1] := by
    apply Array.toList_inj.1
    rw [hargs0, hargs1, hlast]
  obtain ⟨n0, rfl, rfl, rfl, wf0⟩ := open_int Try.underlying3 (hval 0 3 v0 rfl rfl) h0
  obtain ⟨n1, rfl, rfl, rfl, wf1⟩ := open_int Try.underlying3 (hval 1 3 v1 rfl rfl) h1
  refine (octetLength_walk n0 n1 W (bounds_i64 wf0) (bounds_i64 wf1)).mono fun e W' ⟨he, hb⟩ => ?_
  subst he
  exact ⟨_, rfl, law_post Try.laidOut hW' rfl (by rw [Try.params9]; decide +kernel) 4 rfl Try.underlying4 rfl hb⟩

theorem octetLength_holds : Rows.OctetLengthSaid :=
  OpenClaim.holds_of_wide 9 Try.f9 rfl rfl rfl rfl rfl rfl rfl ⟨rfl, rfl, rfl, rfl, rfl⟩ rfl rfl rfl rfl rfl (by kernel_rfl) Try.func9 (by kernel_rfl)
    (of_decide_eq_true (by kernel_rfl)) (by unfold Func.isWrapper; first | (rw [if_pos (by decide +kernel)]; kernel_rfl) | (rw [if_neg (by decide +kernel)]; exact ⟨rfl, rfl⟩))
    (fun os started H enc _ => octetLength_lifted os started H enc)
end Go.Proofs.Ytnebjihjfghlfaa
