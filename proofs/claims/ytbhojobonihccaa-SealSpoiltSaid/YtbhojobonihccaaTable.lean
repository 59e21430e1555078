/- The walk of makeSteps: the table of eight steps. -/
import Derived.Test.YtbhojobonihccaaRows
import Derived.Test.YtbhojobonihccaaMath
import Derived.WalkKit
import Derived.OwnWalk
import Derived.Lib.Hide
import Derived.Laws.BitsAllLaws
import Derived.Laws.Rows
import Derived.Outline
import Derived.Deep.Draws
namespace Go.Proofs.Ytbhojobonihccaa
open Go.RowKit

def zeros : Array Value := Array.replicate 256 (.int .u32 0)
theorem zero55 (w : World) : Sem.run Try.prog (zeroValue 55) w = .ok (.agg zeros) w := by kernel_rfl

/-- The first k places of block g hold the table. -/
def TabTo (w : World) (g k : Nat) : Prop := ∃ cs : Array Value, w.heap[g]? = some (.cells cs 55 (0, 0)) ∧ cs.size = 256 ∧ ∀ i, i < k → cs[i]? = some (.int .u32 (Crc.steps 8 i : Nat))

theorem TabTo.start (w : World) : TabTo (w.alloc (.cells zeros 55)) w.heap.size 0 :=
  ⟨zeros, heap_alloc_new w _, by simp [zeros], fun i h => absurd h (by omega)⟩
theorem TabTo.lt {w : World} {g k : Nat} (h : TabTo w g k) : g < w.heap.size := by
  obtain ⟨cs, h, _⟩ := h
  exact (Array.getElem?_eq_some_iff.1 h).1
theorem TabTo.below {w w' : World} {B g k : Nat} (h : TabTo w g k) (hb : Below B w w') (hg : g < B) : TabTo w' g k := by
  obtain ⟨cs, h1, h2⟩ := h
  exact ⟨cs, (hb.block g hg).trans h1, h2⟩
theorem TabTo.drewN {w : World} {g k : Nat} (h : TabTo w g k) (n : Nat) : TabTo (w.drewN n) g k := h
theorem TabTo.cell {w : World} {g k i : Nat} (h : TabTo w g k) (hi : i < k) : w.cell? ⟨g, i, none⟩ = some (.int .u32 (Crc.steps 8 i : Nat)) := by
  obtain ⟨cs, h1, _, h3⟩ := h
  rw [cell_of_row w g i cs 55 (0, 0) h1, h3 i hi]
theorem TabTo.place {w : World} {g k : Nat} (h : TabTo w g k) (hk : k < 256) : (∃ v, w.cell? ⟨g, k, none⟩ = some v) ∧ w.frozen? ⟨g, k, none⟩ = false := by
  obtain ⟨cs, h1, h2, _⟩ := h
  refine ⟨⟨cs[k], ?_⟩, by simp [World.frozen?, h1]⟩
  rw [cell_of_row w g k cs 55 (0, 0) h1, Array.getElem?_eq_getElem]
theorem TabTo.set {w : World} {g k : Nat} (h : TabTo w g k) (hk : k < 256) : TabTo (w.setCell ⟨g, k, none⟩ (.int .u32 (Crc.steps 8 k : Nat))) g (k + 1) := by
  obtain ⟨cs, h1, h2, h3⟩ := h
  refine ⟨cs.setIfInBounds k (.int .u32 (Crc.steps 8 k : Nat)), by simp [World.setCell, Array.getElem?_modify, h1], by simpa using h2, fun i hi => ?_⟩
  rw [Array.getElem?_setIfInBounds]
  by_cases e : k = i
  · subst e; simp [h2, hk]
  · simp [e]; exact h3 i (by omega)

theorem step_even_ (s : Nat) (h : s % 2 = 0) : Crc.step s = s / 2 := by simp [Crc.step, h]
theorem step_odd_ (s : Nat) (h : ¬ s % 2 = 0) : Crc.step s = s / 2 ^^^ 3988292384 := by simp [Crc.step, h, Crc.poly]

set_option maxRecDepth 20000 in
set_option maxHeartbeats 400000 in
theorem makeSteps_any (w : World) : Calls Try.prog 26 #[] w fun e w' => ∃ g, e = .returned (.pointer (some ⟨g, 0, none⟩)) ∧ TabTo w' g 256 ∧ Below w.heap.size w w' := by
  have hz := fun w => zero55 w
  go_enter Try.func26, Try.ntmps26
  go_wp2
  clear hz
  go_loopw [4] (fun i wr => ∃ k : Nat, k ≤ 256 ∧ i = .int .i64 k ∧ TabTo wr w.heap.size k ∧ Below w.heap.size w wr) (fun i _ => 256 - (intOf i).toNat)
  case atStart => exact ⟨0, by omega, rfl, TabTo.start w, (Below.refl _ _).alloc (Nat.le_refl _) _⟩
  case round =>
    obtain ⟨k, hk, rfl, ht, hb⟩ := hrel
    by_cases hlt : k < 256
    · obtain ⟨⟨v0, hc⟩, hf⟩ := ht.place hlt
      go_wp2
      go_loop [3, 9] (fun v j => ∃ m : Nat, m ≤ 8 ∧ j = .int .i64 m ∧ v = .int .u32 (Crc.steps m k : Nat)) (fun _ j => 8 - (intOf j).toNat)
      case atStart => exact ⟨0, by omega, rfl, rfl⟩
      case round =>
        obtain ⟨m, hm, rfl, rfl⟩ := hrel
        have hs : Crc.steps m k < 4294967296 := Crc.steps_lt m (by omega)
        have hn : Hid (Crc.steps (m + 1) k = Crc.step (Crc.steps m k)) := Crc.steps_succ m k
        by_cases hm8 : m < 8
        · generalize Crc.steps m k = s at *
          by_cases hp : s % 2 = 0
          · have ht1 : ((s : Int) % 2 == 0) = true := by rw [beq_iff_eq]; omega
            have hn2 : Hid (Crc.steps (m + 1) k = s / 2) := by rw [hn.out, step_even_ s hp]; exact rfl
            clear hp
            go_wp2
            go_round
            case rel => exact ⟨m + 1, by omega, by go_num, by rw [hn2.out]; rfl⟩
            case measure => simp [intOf]; omega
          · have ht1 : ((s : Int) % 2 == 0) = false := by rw [beq_eq_false_iff_ne]; omega
            have hn2 : Hid (Crc.steps (m + 1) k = s / 2 ^^^ 3988292384) := by rw [hn.out, step_odd_ s hp]; exact rfl
            clear hp
            go_wp2
            go_round
            case rel => exact ⟨m + 1, by omega, by go_num, by rw [hn2.out, ← u32_xor_nat _ _ (by omega) (by omega)]; rfl⟩
            case measure => simp [intOf]; omega
        · obtain rfl : m = 8 := by omega
          have hset := ht.set hlt
          generalize Crc.steps 8 k = s at *
          go_wp2
          go_roundw
          case rel => exact ⟨k + 1, by omega, by go_num, hset, hb.setCell (p := ⟨w.heap.size, k, none⟩) (Nat.le_refl _) _⟩
          case measure => simp [intOf]; omega
    · obtain rfl : k = 256 := by omega
      go_wp2
      go_ret
      exact ⟨_, rfl, ht, hb⟩
end Go.Proofs.Ytbhojobonihccaa
