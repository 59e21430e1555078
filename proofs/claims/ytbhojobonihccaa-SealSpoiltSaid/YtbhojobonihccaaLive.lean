/- live answers true, whatever the world, and turns nothing that was there. -/
import Derived.Test.YtbhojobonihccaaFrame
import Derived.Lib.SlBytesConst
namespace Go.Proofs.Ytbhojobonihccaa
open Go.RowKit

theorem crc_nil : Crc.crc [] = 0 := by kernel_rfl
theorem crc_nine : Crc.crc [49, 50, 51, 52, 53, 54, 55, 56, 57] = 3421780262 := by kernel_rfl
theorem frame_nil : frameOf [] = [0, 0, 0, 0, 0, 0, 0, 0] := by kernel_rfl
theorem openE_nil : openE [0, 0, 0, 0, 0, 0, 0, 0] = 0 := by kernel_rfl
theorem be4_nil : be4 [0, 0, 0, 0, 0, 0, 0, 0] = 0 := by kernel_rfl
theorem body_nil : body [0, 0, 0, 0, 0, 0, 0, 0] = [] := by kernel_rfl

theorem Rd.marked (w : World) (cs : Array Value) (m : Nat × Nat) (bs : List Nat) (hb : ∀ c ∈ bs, c < 256) (h : cs = (cellsOf bs).toArray) : Rd (w.heap.size + 1) (w.alloc (.cells cs 5 m)) (some ⟨w.heap.size, 0, none⟩) bs := by
  refine ⟨hb, fun _ => ⟨w.heap.size, 0, rfl, by omega, fun j hj => ?_⟩⟩
  rw [Nat.zero_add, cell_of_row _ w.heap.size j cs 5 m (heap_alloc_new w _), h, List.getElem?_toArray, cellsOf_at bs j hj]

theorem make8 (w : World) : (Instr.makeSlice 22 (.int .i64 8) (.int .i64 8)).run Try.prog w = .ok (.slice (some ⟨w.heap.size, 0, none⟩) 8 8) (w.alloc (.cells #[.int .u8 0, .int .u8 0, .int .u8 0, .int .u8 0, .int .u8 0, .int .u8 0, .int .u8 0, .int .u8 0] 5)) := by kernel_rfl

set_option maxHeartbeats 1000000 in
theorem live_any (w : World) : Calls Try.prog 12 #[] w fun e w' => e = .returned (.bool true) ∧ Below w.heap.size w w' := by
  go_enter Try.func12, Try.ntmps12
  go_wp2_with fail
  refine (Frame_ok 0 none 0 0 [] w (Rd.nil _ _ _) (Nat.zero_le _) rfl (fun _ => rfl) (by omega)).mono ?_
  rintro e w1 ⟨v1, rfl, hr1, hb1⟩
  rw [frame_nil] at hr1
  obtain ⟨A1, cap1, hv, hc1, hm1, hrd1⟩ := hr1.shape
  subst hv
  have hsz1 := hb1.size
  go_wp2_with fail
  refine (Open_good w1.heap.size A1 8 cap1 0 [0, 0, 0, 0, 0, 0, 0, 0] w1 hrd1 (Nat.le_refl _) rfl hc1 hm1 (by omega) openE_nil).mono ?_
  rw [List.drop_zero, be4_nil, body_nil]
  rintro e w2 ⟨v2, rfl, hr2, hb2⟩
  obtain ⟨A2, cap2, hv, hc2, hm2, hrd2⟩ := hr2.shape
  subst hv
  have hsz2 := hb2.size
  have kc := fun (w : World) (C : Array Value) (n c : Nat) => Lib.run_convert_bytes_const (P := Try.prog) w 22 5 C n c Try.underlying22 Try.underlying5
  go_wp2_with fail
  refine (Sum_any (w2.heap.size + 1) _ 9 9 [49, 50, 51, 52, 53, 54, 55, 56, 57] _ (Rd.marked w2 _ _ _ (by decide) (by simp [cellsOf])) (by simp) rfl (by unfold maxLen; omega)).mono ?_
  rw [crc_nine]
  rintro e w3 ⟨rfl, hb3⟩
  have hb3' : Below w2.heap.size w2 w3 := ((Below.refl _ w2).alloc (Nat.le_refl _) _).trans (hb3.mono (by simp))
  have hsz3 := hb3'.size
  clear kc
  have hmk := make8
  go_wp2_with fail
  refine (Same_any w1.heap.size (w3.heap.size + 1) _ _ 8 cap1 8 8 [0, 0, 0, 0, 0, 0, 0, 0] [0, 0, 0, 0, 0, 0, 0, 0] _
    (((hrd1.below hb2 (Nat.le_refl _)).below hb3' hsz2).below ((Below.refl w3.heap.size w3).alloc (Nat.le_refl _) _) (by omega)) (Rd.fresh w3 _ _ (by decide) (by simp [cellsOf])) rfl rfl).mono ?_
  rintro e w' ⟨rfl, rfl⟩
  go_wp2
  go_ret
  exact ⟨rfl, (((hb1.trans (hb2.mono hsz1)).trans (hb3'.mono (by omega))).alloc (by omega) _)⟩
end Go.Proofs.Ytbhojobonihccaa
