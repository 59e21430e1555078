/- live answers true, whatever the world, and turns nothing that was there. -/
import Derived.Test.YtnebjihjfghlfaaGet2
namespace Go.Proofs.Ytnebjihjfghlfaa
open Go.RowKit

theorem l1 : Oct.gE [9, 128, 1] 1 = 0 ∧ Oct.gV [9, 128, 1] 1 = 64 ∧ Oct.gN [9, 128, 1] 1 = 3 := ⟨by kernel_rfl, by kernel_rfl, by kernel_rfl⟩
theorem l2 : Oct.gE [128] 0 = 10 ∧ Oct.gV [128] 0 = 0 ∧ Oct.gN [128] 0 = 0 := ⟨by kernel_rfl, by kernel_rfl, by kernel_rfl⟩
theorem l3 : Oct.gE [129, 0] 0 = 11 ∧ Oct.gV [129, 0] 0 = 0 ∧ Oct.gN [129, 0] 0 = 0 := ⟨by kernel_rfl, by kernel_rfl, by kernel_rfl⟩
theorem l4 : Oct.gE [] 1 = 1 ∧ Oct.gV [] 1 = 0 ∧ Oct.gN [] 1 = 0 := ⟨by kernel_rfl, by kernel_rfl, by kernel_rfl⟩
theorem l5 : textAns [4, 97, 98, 7] 0 2 = .returned (.tuple #[.string ⟨#[97, 98]⟩, .int .i64 3, .int .i64 0]) := by kernel_rfl
theorem l6 : textAns [4, 97, 98] 0 1 = .returned (.tuple #[.string ⟨#[]⟩, .int .i64 0, .int .i64 2]) := by kernel_rfl
theorem l7 : iR [4, 2, 1] 0 9 = (0, 3, [1, -1]) := by kernel_rfl
theorem p1 : [7] ++ Oct.enc 64 = [7, 128, 1] := by kernel_rfl
theorem p2 : [] ++ Oct.enc 0 = [0] := by kernel_rfl
theorem p3 : [] ++ Oct.enc (-1) = [1] := by kernel_rfl
theorem p4 : [] ++ encText ⟨#[97, 98]⟩ = [4, 97, 98] := by kernel_rfl
theorem p5 : [] ++ encInts [1, -1] = [4, 2, 1] := by kernel_rfl
theorem wf64 : Wf 64 := ⟨by decide, by decide⟩
theorem wf0 : Wf 0 := ⟨by decide, by decide⟩
theorem wfm : Wf (-1) := ⟨by decide, by decide⟩
/-- A row of known bytes, as a string. -/
theorem Row.text {w : World} {base : Nat} {v : Value} {bs : List Nat} (h : Row w base v bs) : ∃ A c, v = .slice A bs.length c ∧ (convert 22 9 (.slice A bs.length c)).run Try.prog w = .ok (.string (str bs)) w := by
  obtain ⟨A, c, hv, _, _, hrd⟩ := h.shape
  exact ⟨A, c, hv, conv_str _ A _ c bs w hrd rfl⟩
theorem RdI.fresh (w : World) (cs : Array Value) (zs : List Int) (hb : ∀ z ∈ zs, Wf z) (h : cs = (zs.map (Value.int .i64)).toArray) : RdI (w.heap.size + 1) (w.alloc (.cells cs 3)) (some ⟨w.heap.size, 0, none⟩) zs := by
  refine ⟨hb, fun _ => ⟨w.heap.size, 0, rfl, by omega, fun j hj => ?_⟩⟩
  rw [Nat.zero_add, cell_of_row _ w.heap.size j cs 3 (0, 0) (heap_alloc_new w _), h, List.getElem?_toArray, intsAt zs j hj]
theorem wf2 : ∀ z ∈ ([1, -1] : List Int), Wf z := by
  intro z hz
  simp at hz
  rcases hz with rfl | rfl
  · exact ⟨by decide, by decide⟩
  · exact wfm

set_option maxRecDepth 100000 in
set_option maxHeartbeats 4000000 in
theorem live_any (w : World) : Calls Try.prog 11 #[] w fun e w' => e = .returned (.bool true) ∧ Below w.heap.size w w' := by
  go_enter Try.func11, Try.ntmps11
  go_wp2_with fail
  refine (GetInt_any (w.heap.size + 1) _ 3 3 [9, 128, 1] 1 _ (Rd.fresh w _ _ (by decide) (by simp [cellsOf])) rfl (by unfold maxLen; omega)).mono ?_
  rw [l1.1, l1.2.1, l1.2.2]
  rintro e w1 ⟨rfl, rfl⟩
  have hb1 := (Below.refl w.heap.size w).alloc (Nat.le_refl _) (.cells #[.int .u8 9, .int .u8 128, .int .u8 1] 5)
  generalize w.alloc (.cells #[.int .u8 9, .int .u8 128, .int .u8 1] 5) = w1 at *
  have hs1 := hb1.size
  go_wp2_with fail
  refine (GetInt_any (w1.heap.size + 1) _ 1 1 [128] 0 _ (Rd.fresh w1 _ _ (by decide) (by simp [cellsOf])) rfl (by unfold maxLen; omega)).mono ?_
  rw [l2.1, l2.2.1, l2.2.2]
  rintro e w2 ⟨rfl, rfl⟩
  have hb2 := hb1.alloc hs1 (.cells #[.int .u8 128] 5)
  generalize w1.alloc (.cells #[.int .u8 128] 5) = w2 at *
  have hs2 := hb2.size
  go_wp2_with fail
  refine (GetInt_any (w2.heap.size + 1) _ 2 2 [129, 0] 0 _ (Rd.fresh w2 _ _ (by decide) (by simp [cellsOf])) rfl (by unfold maxLen; omega)).mono ?_
  rw [l3.1, l3.2.1, l3.2.2]
  rintro e w3 ⟨rfl, rfl⟩
  have hb3 := hb2.alloc hs2 (.cells #[.int .u8 129, .int .u8 0] 5)
  generalize w2.alloc (.cells #[.int .u8 129, .int .u8 0] 5) = w3 at *
  have hs3 := hb3.size
  go_wp2_with fail
  refine (GetInt_any 0 none 0 0 [] 1 _ (Rd.nil _ _ _) rfl (by unfold maxLen; omega)).mono ?_
  rw [l4.1, l4.2.1, l4.2.2]
  rintro e w4 ⟨rfl, rfl⟩
  go_wp2_with fail
  refine (GetText_any (w3.heap.size + 1) _ 4 4 [4, 97, 98, 7] 0 2 _ (Rd.fresh w3 _ _ (by decide) (by simp [cellsOf])) (by simp) rfl (by omega) (by unfold maxLen; omega)).mono ?_
  rw [l5]
  rintro e w5 ⟨rfl, hb5⟩
  have hb5' := (hb3.alloc hs3 _).trans (hb5.mono (by simp; omega))
  have hs5 := hb5'.size
  go_wp2_with fail
  refine (GetText_any (w5.heap.size + 1) _ 3 3 [4, 97, 98] 0 1 _ (Rd.fresh w5 _ _ (by decide) (by simp [cellsOf])) (by simp) rfl (by omega) (by unfold maxLen; omega)).mono ?_
  rw [l6]
  rintro e w6 ⟨rfl, hb6⟩
  have hb6' := (hb5'.alloc hs5 _).trans (hb6.mono (by simp; omega))
  have hs6 := hb6'.size
  clear hb1 hb2 hb3 hb5 hb5' hb6 hs1 hs2 hs3 hs5
  go_wp2_with fail
  refine (GetInts_any (w6.heap.size + 1) _ 3 3 [4, 2, 1] 0 9 _ (Rd.fresh w6 _ _ (by decide) (by simp [cellsOf])) (by simp) rfl (by omega)).mono ?_
  rw [l7]
  rintro e w7 ⟨v7, rfl, hr7, hb7⟩
  have hb7' := (hb6'.alloc hs6 _).trans (hb7.mono (by simp; omega))
  have hs7 := hb7'.size
  obtain ⟨A7, c7, hv7, _, _, hrd7⟩ := hr7.shape
  subst hv7
  go_wp2_with fail
  refine (PutInt_any (w7.heap.size + 1) _ 1 1 [7] 64 _ (Rd.fresh w7 _ _ (by decide) (by simp [cellsOf])) (by simp) rfl (by intro h; cases h) wf64 (by omega)).mono ?_
  rw [p1]
  rintro e w8 ⟨v8, rfl, hr8, hb8⟩
  have hb8' := (hb7'.alloc hs7 _).trans (hb8.mono (by simp; omega))
  have hs8 := hb8'.size
  have hk8 : Below w7.heap.size w7 w8 := ((Below.refl _ w7).alloc (Nat.le_refl _) _).trans (hb8.mono (by simp))
  obtain ⟨A8, c8, hv8, hcv8⟩ := hr8.text
  subst hv8
  have hx8 : (convert 22 9 (.slice A8 3 c8)).run Try.prog w8 = .ok (.string ⟨#[7, 128, 1]⟩) w8 := hcv8
  clear hcv8 hr8
  go_wp2_with fail
  refine (PutInt_any 0 none 0 0 [] 0 _ (Rd.nil _ _ _) (Nat.zero_le _) rfl (fun _ => rfl) wf0 (by omega)).mono ?_
  rw [p2]
  rintro e w9 ⟨v9, rfl, hr9, hb9⟩
  have hb9' := hb8'.trans (hb9.mono hs8)
  have hs9 := hb9'.size
  have hk9 := hk8.trans (hb9.mono hk8.size)
  obtain ⟨A9, c9, hv9, hcv9⟩ := hr9.text
  subst hv9
  have hx9 : (convert 22 9 (.slice A9 1 c9)).run Try.prog w9 = .ok (.string ⟨#[0]⟩) w9 := hcv9
  clear hcv9 hr9 hx8 hb8 hb8' hs8
  go_wp2_with fail
  refine (PutInt_any 0 none 0 0 [] (-1) _ (Rd.nil _ _ _) (Nat.zero_le _) rfl (fun _ => rfl) wfm (by omega)).mono ?_
  rw [p3]
  rintro e w10 ⟨v10, rfl, hr10, hb10⟩
  have hb10' := hb9'.trans (hb10.mono hs9)
  have hs10 := hb10'.size
  have hk10 := hk9.trans (hb10.mono hk9.size)
  obtain ⟨A10, c10, hv10, hcv10⟩ := hr10.text
  subst hv10
  have hx10 : (convert 22 9 (.slice A10 1 c10)).run Try.prog w10 = .ok (.string ⟨#[1]⟩) w10 := hcv10
  clear hcv10 hr10 hx9 hb9 hb9' hs9
  go_wp2_with fail
  refine (PutText_any 0 none 0 0 [] ⟨#[97, 98]⟩ _ (Rd.nil _ _ _) (Nat.zero_le _) rfl (fun _ => rfl) (by omega) (by decide)).mono ?_
  rw [p4]
  rintro e w11 ⟨v11, rfl, hr11, hb11⟩
  have hb11' := hb10'.trans (hb11.mono hs10)
  have hs11 := hb11'.size
  have hk11 := hk10.trans (hb11.mono hk10.size)
  obtain ⟨A11, c11, hv11, hcv11⟩ := hr11.text
  subst hv11
  have hx11 : (convert 22 9 (.slice A11 3 c11)).run Try.prog w11 = .ok (.string ⟨#[4, 97, 98]⟩) w11 := hcv11
  clear hcv11 hr11 hx10 hb10 hb10' hs10
  go_wp2_with fail
  refine (PutInts_any 0 (w11.heap.size + 1) none _ 0 0 2 2 [] [1, -1] _ (Rd.nil _ _ _) (Nat.zero_le _) rfl (fun _ => rfl) (by omega) (RdI.fresh w11 _ _ wf2 (by simp)) (by simp) rfl (by omega)).mono ?_
  rw [p5]
  rintro e w12 ⟨v12, rfl, hr12, hb12⟩
  have hb12' := (hb11'.alloc hs11 _).trans (hb12.mono (by simp; omega))
  have hs12 := hb12'.size
  have hk12 := (hk11.alloc hk11.size _).trans (hb12.mono (by have := hk11.size; simp; omega))
  obtain ⟨A12, c12, hv12, hcv12⟩ := hr12.text
  subst hv12
  have hx12 : (convert 22 9 (.slice A12 3 c12)).run Try.prog w12 = .ok (.string ⟨#[4, 2, 1]⟩) w12 := hcv12
  clear hcv12 hr12 hx11 hb11 hb11' hs11
  have hq7 := hrd7.below hk12 (Nat.le_refl _)
  go_wp2_with fail
  refine (Ints_same w7.heap.size (w12.heap.size + 1) A7 _ 2 c7 2 2 [1, -1] _ (hq7.below ((Below.refl w12.heap.size w12).alloc (Nat.le_refl _) _) hk12.size) (RdI.fresh w12 _ _ wf2 (by simp)) rfl rfl (by unfold maxLen; omega)).mono ?_
  rintro e w13 ⟨rfl, kd, rfl⟩
  go_wp2
  go_ret
  exact ⟨rfl, below_drewN (hb12'.alloc hs12 _) kd⟩
end Go.Proofs.Ytnebjihjfghlfaa
