/- live answers true, whatever the world, and turns nothing that was there. -/
import Derived.Test.YtppgpafnifmmfaaLaw
namespace Go.Proofs.Ytppgpafnifmmfaa
open Go.RowKit

instance (x : Int) : Decidable (Wf x) := inferInstanceAs (Decidable (_ ∧ _))
theorem RdI.allocd {B : Nat} {w : World} {A : Option Addr} {zs : List Int} (h : RdI B w A zs) (hB : B ≤ w.heap.size) (o : Obj) : RdI B (w.alloc o) A zs := h.below ((Below.refl B w).alloc hB o) (Nat.le_refl _)
def want : List (List Int) := [[1, 2, -3], [-2, 3], [1, -4], [-1, 3], [2, -4], [-1, -2, 4]]
theorem want_rd (w : World) : RdR (w.heap.size + 1 + 1 + 1 + 1 + 1 + 1 + 1) (((((((w.alloc (.cells #[.int .i64 1, .int .i64 2, .int .i64 (-3)] 3)).alloc (.cells #[.int .i64 (-2), .int .i64 3] 3)).alloc (.cells #[.int .i64 1, .int .i64 (-4)] 3)).alloc (.cells #[.int .i64 (-1), .int .i64 3] 3)).alloc (.cells #[.int .i64 2, .int .i64 (-4)] 3)).alloc (.cells #[.int .i64 (-1), .int .i64 (-2), .int .i64 4] 3)).alloc (.cells #[.slice (some ⟨w.heap.size, 0, none⟩) 3 3, .slice (some ⟨w.heap.size + 1, 0, none⟩) 2 2, .slice (some ⟨w.heap.size + 1 + 1, 0, none⟩) 2 2, .slice (some ⟨w.heap.size + 1 + 1 + 1, 0, none⟩) 2 2, .slice (some ⟨w.heap.size + 1 + 1 + 1 + 1, 0, none⟩) 2 2, .slice (some ⟨w.heap.size + 1 + 1 + 1 + 1 + 1, 0, none⟩) 3 3] 22)) (some ⟨w.heap.size + 1 + 1 + 1 + 1 + 1 + 1, 0, none⟩) want := by
  have r0 : RdI (w.heap.size + 1) (w.alloc (.cells #[.int .i64 1, .int .i64 2, .int .i64 (-3)] 3)) (some ⟨w.heap.size, 0, none⟩) [1, 2, -3] := by
    have := RdI.lit w #[.int .i64 1, .int .i64 2, .int .i64 (-3)] [1, 2, -3] (by decide) rfl
    simpa using this
  have r1 : RdI (w.heap.size + 1 + 1) ((w.alloc (.cells #[.int .i64 1, .int .i64 2, .int .i64 (-3)] 3)).alloc (.cells #[.int .i64 (-2), .int .i64 3] 3)) (some ⟨w.heap.size + 1, 0, none⟩) [-2, 3] := by
    have := RdI.lit (w.alloc (.cells #[.int .i64 1, .int .i64 2, .int .i64 (-3)] 3)) #[.int .i64 (-2), .int .i64 3] [-2, 3] (by decide) rfl
    simpa using this
  have r2 : RdI (w.heap.size + 1 + 1 + 1) (((w.alloc (.cells #[.int .i64 1, .int .i64 2, .int .i64 (-3)] 3)).alloc (.cells #[.int .i64 (-2), .int .i64 3] 3)).alloc (.cells #[.int .i64 1, .int .i64 (-4)] 3)) (some ⟨w.heap.size + 1 + 1, 0, none⟩) [1, -4] := by
    have := RdI.lit ((w.alloc (.cells #[.int .i64 1, .int .i64 2, .int .i64 (-3)] 3)).alloc (.cells #[.int .i64 (-2), .int .i64 3] 3)) #[.int .i64 1, .int .i64 (-4)] [1, -4] (by decide) rfl
    simpa using this
  have r3 : RdI (w.heap.size + 1 + 1 + 1 + 1) ((((w.alloc (.cells #[.int .i64 1, .int .i64 2, .int .i64 (-3)] 3)).alloc (.cells #[.int .i64 (-2), .int .i64 3] 3)).alloc (.cells #[.int .i64 1, .int .i64 (-4)] 3)).alloc (.cells #[.int .i64 (-1), .int .i64 3] 3)) (some ⟨w.heap.size + 1 + 1 + 1, 0, none⟩) [-1, 3] := by
    have := RdI.lit (((w.alloc (.cells #[.int .i64 1, .int .i64 2, .int .i64 (-3)] 3)).alloc (.cells #[.int .i64 (-2), .int .i64 3] 3)).alloc (.cells #[.int .i64 1, .int .i64 (-4)] 3)) #[.int .i64 (-1), .int .i64 3] [-1, 3] (by decide) rfl
    simpa using this
  have r4 : RdI (w.heap.size + 1 + 1 + 1 + 1 + 1) (((((w.alloc (.cells #[.int .i64 1, .int .i64 2, .int .i64 (-3)] 3)).alloc (.cells #[.int .i64 (-2), .int .i64 3] 3)).alloc (.cells #[.int .i64 1, .int .i64 (-4)] 3)).alloc (.cells #[.int .i64 (-1), .int .i64 3] 3)).alloc (.cells #[.int .i64 2, .int .i64 (-4)] 3)) (some ⟨w.heap.size + 1 + 1 + 1 + 1, 0, none⟩) [2, -4] := by
    have := RdI.lit ((((w.alloc (.cells #[.int .i64 1, .int .i64 2, .int .i64 (-3)] 3)).alloc (.cells #[.int .i64 (-2), .int .i64 3] 3)).alloc (.cells #[.int .i64 1, .int .i64 (-4)] 3)).alloc (.cells #[.int .i64 (-1), .int .i64 3] 3)) #[.int .i64 2, .int .i64 (-4)] [2, -4] (by decide) rfl
    simpa using this
  have r5 : RdI (w.heap.size + 1 + 1 + 1 + 1 + 1 + 1) ((((((w.alloc (.cells #[.int .i64 1, .int .i64 2, .int .i64 (-3)] 3)).alloc (.cells #[.int .i64 (-2), .int .i64 3] 3)).alloc (.cells #[.int .i64 1, .int .i64 (-4)] 3)).alloc (.cells #[.int .i64 (-1), .int .i64 3] 3)).alloc (.cells #[.int .i64 2, .int .i64 (-4)] 3)).alloc (.cells #[.int .i64 (-1), .int .i64 (-2), .int .i64 4] 3)) (some ⟨w.heap.size + 1 + 1 + 1 + 1 + 1, 0, none⟩) [-1, -2, 4] := by
    have := RdI.lit (((((w.alloc (.cells #[.int .i64 1, .int .i64 2, .int .i64 (-3)] 3)).alloc (.cells #[.int .i64 (-2), .int .i64 3] 3)).alloc (.cells #[.int .i64 1, .int .i64 (-4)] 3)).alloc (.cells #[.int .i64 (-1), .int .i64 3] 3)).alloc (.cells #[.int .i64 2, .int .i64 (-4)] 3)) #[.int .i64 (-1), .int .i64 (-2), .int .i64 4] [-1, -2, 4] (by decide) rfl
    simpa using this
  have q0 : RdI (w.heap.size + 1 + 1 + 1 + 1 + 1 + 1 + 1) (((((((w.alloc (.cells #[.int .i64 1, .int .i64 2, .int .i64 (-3)] 3)).alloc (.cells #[.int .i64 (-2), .int .i64 3] 3)).alloc (.cells #[.int .i64 1, .int .i64 (-4)] 3)).alloc (.cells #[.int .i64 (-1), .int .i64 3] 3)).alloc (.cells #[.int .i64 2, .int .i64 (-4)] 3)).alloc (.cells #[.int .i64 (-1), .int .i64 (-2), .int .i64 4] 3)).alloc (.cells #[.slice (some ⟨w.heap.size, 0, none⟩) 3 3, .slice (some ⟨w.heap.size + 1, 0, none⟩) 2 2, .slice (some ⟨w.heap.size + 1 + 1, 0, none⟩) 2 2, .slice (some ⟨w.heap.size + 1 + 1 + 1, 0, none⟩) 2 2, .slice (some ⟨w.heap.size + 1 + 1 + 1 + 1, 0, none⟩) 2 2, .slice (some ⟨w.heap.size + 1 + 1 + 1 + 1 + 1, 0, none⟩) 3 3] 22)) (some ⟨w.heap.size, 0, none⟩) [1, 2, -3] := ((((((r0.allocd (by simp) _).allocd (by simp) _).allocd (by simp) _).allocd (by simp) _).allocd (by simp) _).allocd (by simp) _).more (by omega)
  have q1 : RdI (w.heap.size + 1 + 1 + 1 + 1 + 1 + 1 + 1) (((((((w.alloc (.cells #[.int .i64 1, .int .i64 2, .int .i64 (-3)] 3)).alloc (.cells #[.int .i64 (-2), .int .i64 3] 3)).alloc (.cells #[.int .i64 1, .int .i64 (-4)] 3)).alloc (.cells #[.int .i64 (-1), .int .i64 3] 3)).alloc (.cells #[.int .i64 2, .int .i64 (-4)] 3)).alloc (.cells #[.int .i64 (-1), .int .i64 (-2), .int .i64 4] 3)).alloc (.cells #[.slice (some ⟨w.heap.size, 0, none⟩) 3 3, .slice (some ⟨w.heap.size + 1, 0, none⟩) 2 2, .slice (some ⟨w.heap.size + 1 + 1, 0, none⟩) 2 2, .slice (some ⟨w.heap.size + 1 + 1 + 1, 0, none⟩) 2 2, .slice (some ⟨w.heap.size + 1 + 1 + 1 + 1, 0, none⟩) 2 2, .slice (some ⟨w.heap.size + 1 + 1 + 1 + 1 + 1, 0, none⟩) 3 3] 22)) (some ⟨w.heap.size + 1, 0, none⟩) [-2, 3] := (((((r1.allocd (by simp) _).allocd (by simp) _).allocd (by simp) _).allocd (by simp) _).allocd (by simp) _).more (by omega)
  have q2 : RdI (w.heap.size + 1 + 1 + 1 + 1 + 1 + 1 + 1) (((((((w.alloc (.cells #[.int .i64 1, .int .i64 2, .int .i64 (-3)] 3)).alloc (.cells #[.int .i64 (-2), .int .i64 3] 3)).alloc (.cells #[.int .i64 1, .int .i64 (-4)] 3)).alloc (.cells #[.int .i64 (-1), .int .i64 3] 3)).alloc (.cells #[.int .i64 2, .int .i64 (-4)] 3)).alloc (.cells #[.int .i64 (-1), .int .i64 (-2), .int .i64 4] 3)).alloc (.cells #[.slice (some ⟨w.heap.size, 0, none⟩) 3 3, .slice (some ⟨w.heap.size + 1, 0, none⟩) 2 2, .slice (some ⟨w.heap.size + 1 + 1, 0, none⟩) 2 2, .slice (some ⟨w.heap.size + 1 + 1 + 1, 0, none⟩) 2 2, .slice (some ⟨w.heap.size + 1 + 1 + 1 + 1, 0, none⟩) 2 2, .slice (some ⟨w.heap.size + 1 + 1 + 1 + 1 + 1, 0, none⟩) 3 3] 22)) (some ⟨w.heap.size + 1 + 1, 0, none⟩) [1, -4] := ((((r2.allocd (by simp) _).allocd (by simp) _).allocd (by simp) _).allocd (by simp) _).more (by omega)
  have q3 : RdI (w.heap.size + 1 + 1 + 1 + 1 + 1 + 1 + 1) (((((((w.alloc (.cells #[.int .i64 1, .int .i64 2, .int .i64 (-3)] 3)).alloc (.cells #[.int .i64 (-2), .int .i64 3] 3)).alloc (.cells #[.int .i64 1, .int .i64 (-4)] 3)).alloc (.cells #[.int .i64 (-1), .int .i64 3] 3)).alloc (.cells #[.int .i64 2, .int .i64 (-4)] 3)).alloc (.cells #[.int .i64 (-1), .int .i64 (-2), .int .i64 4] 3)).alloc (.cells #[.slice (some ⟨w.heap.size, 0, none⟩) 3 3, .slice (some ⟨w.heap.size + 1, 0, none⟩) 2 2, .slice (some ⟨w.heap.size + 1 + 1, 0, none⟩) 2 2, .slice (some ⟨w.heap.size + 1 + 1 + 1, 0, none⟩) 2 2, .slice (some ⟨w.heap.size + 1 + 1 + 1 + 1, 0, none⟩) 2 2, .slice (some ⟨w.heap.size + 1 + 1 + 1 + 1 + 1, 0, none⟩) 3 3] 22)) (some ⟨w.heap.size + 1 + 1 + 1, 0, none⟩) [-1, 3] := (((r3.allocd (by simp) _).allocd (by simp) _).allocd (by simp) _).more (by omega)
  have q4 : RdI (w.heap.size + 1 + 1 + 1 + 1 + 1 + 1 + 1) (((((((w.alloc (.cells #[.int .i64 1, .int .i64 2, .int .i64 (-3)] 3)).alloc (.cells #[.int .i64 (-2), .int .i64 3] 3)).alloc (.cells #[.int .i64 1, .int .i64 (-4)] 3)).alloc (.cells #[.int .i64 (-1), .int .i64 3] 3)).alloc (.cells #[.int .i64 2, .int .i64 (-4)] 3)).alloc (.cells #[.int .i64 (-1), .int .i64 (-2), .int .i64 4] 3)).alloc (.cells #[.slice (some ⟨w.heap.size, 0, none⟩) 3 3, .slice (some ⟨w.heap.size + 1, 0, none⟩) 2 2, .slice (some ⟨w.heap.size + 1 + 1, 0, none⟩) 2 2, .slice (some ⟨w.heap.size + 1 + 1 + 1, 0, none⟩) 2 2, .slice (some ⟨w.heap.size + 1 + 1 + 1 + 1, 0, none⟩) 2 2, .slice (some ⟨w.heap.size + 1 + 1 + 1 + 1 + 1, 0, none⟩) 3 3] 22)) (some ⟨w.heap.size + 1 + 1 + 1 + 1, 0, none⟩) [2, -4] := ((r4.allocd (by simp) _).allocd (by simp) _).more (by omega)
  have q5 : RdI (w.heap.size + 1 + 1 + 1 + 1 + 1 + 1 + 1) (((((((w.alloc (.cells #[.int .i64 1, .int .i64 2, .int .i64 (-3)] 3)).alloc (.cells #[.int .i64 (-2), .int .i64 3] 3)).alloc (.cells #[.int .i64 1, .int .i64 (-4)] 3)).alloc (.cells #[.int .i64 (-1), .int .i64 3] 3)).alloc (.cells #[.int .i64 2, .int .i64 (-4)] 3)).alloc (.cells #[.int .i64 (-1), .int .i64 (-2), .int .i64 4] 3)).alloc (.cells #[.slice (some ⟨w.heap.size, 0, none⟩) 3 3, .slice (some ⟨w.heap.size + 1, 0, none⟩) 2 2, .slice (some ⟨w.heap.size + 1 + 1, 0, none⟩) 2 2, .slice (some ⟨w.heap.size + 1 + 1 + 1, 0, none⟩) 2 2, .slice (some ⟨w.heap.size + 1 + 1 + 1 + 1, 0, none⟩) 2 2, .slice (some ⟨w.heap.size + 1 + 1 + 1 + 1 + 1, 0, none⟩) 3 3] 22)) (some ⟨w.heap.size + 1 + 1 + 1 + 1 + 1, 0, none⟩) [-1, -2, 4] := (r5.allocd (by simp) _).more (by omega)
  have hc : ∀ j v, (#[.slice (some ⟨w.heap.size, 0, none⟩) 3 3, .slice (some ⟨w.heap.size + 1, 0, none⟩) 2 2, .slice (some ⟨w.heap.size + 1 + 1, 0, none⟩) 2 2, .slice (some ⟨w.heap.size + 1 + 1 + 1, 0, none⟩) 2 2, .slice (some ⟨w.heap.size + 1 + 1 + 1 + 1, 0, none⟩) 2 2, .slice (some ⟨w.heap.size + 1 + 1 + 1 + 1 + 1, 0, none⟩) 3 3] : Array Value)[j]? = some v → (((((((w.alloc (.cells #[.int .i64 1, .int .i64 2, .int .i64 (-3)] 3)).alloc (.cells #[.int .i64 (-2), .int .i64 3] 3)).alloc (.cells #[.int .i64 1, .int .i64 (-4)] 3)).alloc (.cells #[.int .i64 (-1), .int .i64 3] 3)).alloc (.cells #[.int .i64 2, .int .i64 (-4)] 3)).alloc (.cells #[.int .i64 (-1), .int .i64 (-2), .int .i64 4] 3)).alloc (.cells #[.slice (some ⟨w.heap.size, 0, none⟩) 3 3, .slice (some ⟨w.heap.size + 1, 0, none⟩) 2 2, .slice (some ⟨w.heap.size + 1 + 1, 0, none⟩) 2 2, .slice (some ⟨w.heap.size + 1 + 1 + 1, 0, none⟩) 2 2, .slice (some ⟨w.heap.size + 1 + 1 + 1 + 1, 0, none⟩) 2 2, .slice (some ⟨w.heap.size + 1 + 1 + 1 + 1 + 1, 0, none⟩) 3 3] 22)).cell? ⟨w.heap.size + 1 + 1 + 1 + 1 + 1 + 1, 0 + j, none⟩ = some v := fun j v h => by
    have := cell_of_row (((((((w.alloc (.cells #[.int .i64 1, .int .i64 2, .int .i64 (-3)] 3)).alloc (.cells #[.int .i64 (-2), .int .i64 3] 3)).alloc (.cells #[.int .i64 1, .int .i64 (-4)] 3)).alloc (.cells #[.int .i64 (-1), .int .i64 3] 3)).alloc (.cells #[.int .i64 2, .int .i64 (-4)] 3)).alloc (.cells #[.int .i64 (-1), .int .i64 (-2), .int .i64 4] 3)).alloc (.cells #[.slice (some ⟨w.heap.size, 0, none⟩) 3 3, .slice (some ⟨w.heap.size + 1, 0, none⟩) 2 2, .slice (some ⟨w.heap.size + 1 + 1, 0, none⟩) 2 2, .slice (some ⟨w.heap.size + 1 + 1 + 1, 0, none⟩) 2 2, .slice (some ⟨w.heap.size + 1 + 1 + 1 + 1, 0, none⟩) 2 2, .slice (some ⟨w.heap.size + 1 + 1 + 1 + 1 + 1, 0, none⟩) 3 3] 22)) ((((((w.alloc (.cells #[.int .i64 1, .int .i64 2, .int .i64 (-3)] 3)).alloc (.cells #[.int .i64 (-2), .int .i64 3] 3)).alloc (.cells #[.int .i64 1, .int .i64 (-4)] 3)).alloc (.cells #[.int .i64 (-1), .int .i64 3] 3)).alloc (.cells #[.int .i64 2, .int .i64 (-4)] 3)).alloc (.cells #[.int .i64 (-1), .int .i64 (-2), .int .i64 4] 3)).heap.size j #[.slice (some ⟨w.heap.size, 0, none⟩) 3 3, .slice (some ⟨w.heap.size + 1, 0, none⟩) 2 2, .slice (some ⟨w.heap.size + 1 + 1, 0, none⟩) 2 2, .slice (some ⟨w.heap.size + 1 + 1 + 1, 0, none⟩) 2 2, .slice (some ⟨w.heap.size + 1 + 1 + 1 + 1, 0, none⟩) 2 2, .slice (some ⟨w.heap.size + 1 + 1 + 1 + 1 + 1, 0, none⟩) 3 3] 22 (0, 0) (heap_alloc_new _ _)
    rw [Nat.zero_add]
    simp only [World.size_alloc] at this
    rw [this, h]
  refine fun _ => ⟨_, 0, rfl, by omega, fun j hj => ?_⟩
  have hj6 : j = 0 ∨ j = 1 ∨ j = 2 ∨ j = 3 ∨ j = 4 ∨ j = 5 := by simp [want] at hj; omega
  rcases hj6 with rfl | rfl | rfl | rfl | rfl | rfl
  · exact ⟨_, _, hc 0 _ rfl, q0⟩
  · exact ⟨_, _, hc 1 _ rfl, q1⟩
  · exact ⟨_, _, hc 2 _ rfl, q2⟩
  · exact ⟨_, _, hc 3 _ rfl, q3⟩
  · exact ⟨_, _, hc 4 _ rfl, q4⟩
  · exact ⟨_, _, hc 5 _ rfl, q5⟩

theorem want_pack (w : World) : ∃ W, W = (((((((w.alloc (.cells #[.int .i64 1, .int .i64 2, .int .i64 (-3)] 3)).alloc (.cells #[.int .i64 (-2), .int .i64 3] 3)).alloc (.cells #[.int .i64 1, .int .i64 (-4)] 3)).alloc (.cells #[.int .i64 (-1), .int .i64 3] 3)).alloc (.cells #[.int .i64 2, .int .i64 (-4)] 3)).alloc (.cells #[.int .i64 (-1), .int .i64 (-2), .int .i64 4] 3)).alloc (.cells #[.slice (some ⟨w.heap.size, 0, none⟩) 3 3, .slice (some ⟨w.heap.size + 1, 0, none⟩) 2 2, .slice (some ⟨w.heap.size + 1 + 1, 0, none⟩) 2 2, .slice (some ⟨w.heap.size + 1 + 1 + 1, 0, none⟩) 2 2, .slice (some ⟨w.heap.size + 1 + 1 + 1 + 1, 0, none⟩) 2 2, .slice (some ⟨w.heap.size + 1 + 1 + 1 + 1 + 1, 0, none⟩) 3 3] 22)) ∧ RdR W.heap.size W (some ⟨w.heap.size + 1 + 1 + 1 + 1 + 1 + 1, 0, none⟩) want ∧ Below w.heap.size w W ∧ w.heap.size + 1 + 1 + 1 + 1 + 1 + 1 + 1 = W.heap.size := by
  refine ⟨_, rfl, ?_, ?_, ?_⟩
  · have := want_rd w
    simp only [World.size_alloc]
    exact this
  · exact (((((((Below.refl _ w).alloc (Nat.le_refl _) _).alloc (by simp) _).alloc (by simp; omega) _).alloc (by simp; omega) _).alloc (by simp; omega) _).alloc (by simp; omega) _).alloc (by simp; omega) _
  · simp only [World.size_alloc]

theorem T1 (W : World) (A : Option Addr) (hr : RdI W.heap.size W A [1, 2]) : Calls Try.prog 11 #[.slice A 2 2, .int .i64 2, .int .i64 3] W (TotOk W [3, 4] want 5) := by
  have q := Total_ok A 2 2 2 3 [1, 2] W hr rfl (by omega) (by unfold maxLen; omega) (by omega) (by omega) (by omega) (by omega) (by decide) dist_a (by rw [size_two]; decide)
  rw [live_a, size_two] at q
  exact q
theorem T2 (W : World) (A : Option Addr) (hr : RdI W.heap.size W A [1, 2]) : Calls Try.prog 11 #[.slice A 2 2, .int .i64 0, .int .i64 3] W (TotOk W [] [] 3) := by
  have q := Total_ok A 2 2 0 3 [1, 2] W hr rfl (by omega) (by unfold maxLen; omega) (by omega) (by omega) (by omega) (by omega) (by decide) dist_a (by rw [size_two]; decide)
  rw [live_b, size_two] at q
  exact q
theorem T3 (W : World) (A : Option Addr) (hr : RdI W.heap.size W A [1, -1]) : Calls Try.prog 11 #[.slice A 2 2, .int .i64 2, .int .i64 3] W (TotErr W 140) :=
  Total_lit A 2 2 2 [1, -1] 3 W hr rfl (by omega) (by omega) (by omega) (by omega) dist_b
theorem T4 (W : World) (A : Option Addr) (hr : RdI W.heap.size W A [3]) : Calls Try.prog 11 #[.slice A 1 1, .int .i64 2, .int .i64 3] W (TotErr W 140) :=
  Total_lit A 1 1 2 [3] 3 W hr rfl (by omega) (by omega) (by omega) (by omega) dist_c
theorem T5 (W : World) (A : Option Addr) (hr : RdI W.heap.size W A [-2]) : Calls Try.prog 11 #[.slice A 1 1, .int .i64 5, .int .i64 3] W (TotOk W [-2] [] 3) := by
  have q := Total_ok A 1 1 5 3 [-2] W hr rfl (by omega) (by unfold maxLen; omega) (by omega) (by omega) (by omega) (by omega) (by decide) dist_d (by rw [size_one]; decide)
  rw [live_c, size_one] at q
  exact q
theorem lit_at (w : World) (cs : Array Value) (zs : List Int) (hb : ∀ z ∈ zs, Wf z) (h : cs = (zs.map (Value.int .i64)).toArray) : RdI (w.alloc (.cells cs 3)).heap.size (w.alloc (.cells cs 3)) (some ⟨w.heap.size, 0, none⟩) zs := by
  have := RdI.lit w cs zs hb h
  rwa [World.size_alloc]
theorem below_at {w w' : World} {o : Obj} (hb : Below (w.alloc o).heap.size (w.alloc o) w') : Below w.heap.size w w' := ((Below.refl _ w).alloc (Nat.le_refl _) o).trans (hb.mono (by simp))
/-- What came of Total, read later. -/
theorem TotOk.read {w w' : World} {outs : List Int} {cl : List (List Int)} {after : Nat} {e : Ending} (h : TotOk w outs cl after e w') : ∃ A1 c1 A2 c2, e = .returned (.tuple #[.slice A1 outs.length c1, .slice A2 cl.length c2, .int .i64 (after : Int), .int .i64 0]) ∧ RdI w'.heap.size w' A1 outs ∧ RdR w'.heap.size w' A2 cl ∧ Below w.heap.size w w' := by
  obtain ⟨v, u, us, rfl, hv, hu, hels, hb⟩ := h
  obtain ⟨A1, c1, rfl, _, _, h1⟩ := hv.shape
  obtain ⟨A2, c2, rfl⟩ := own_shape hu
  obtain ⟨h2, h3⟩ := hels.rd hu
  exact ⟨A1, c1, A2, c2, by rw [h2], h1, h3, hb⟩

set_option maxRecDepth 20000 in
set_option maxHeartbeats 8000000 in
theorem live_any (w : World) : Calls Try.prog 10 #[] w fun e w' => e = .returned (.bool true) ∧ Below w.heap.size w w' := by
  go_enter Try.func10, Try.ntmps10
  go_wp2_with fail
  refine (T1 _ _ (lit_at w _ [1, 2] (by decide) rfl)).mono ?_
  intro e w1 h
  obtain ⟨A1, c1, A2, c2, rfl, r1, r2, hb1⟩ := h.read
  have hb1 := below_at hb1
  clear h
  go_wp2_with fail
  refine (T2 _ _ (lit_at w1 _ [1, 2] (by decide) rfl)).mono ?_
  intro e w2 h
  obtain ⟨A3, c3, A4, c4, rfl, _, _, hb2⟩ := h.read
  have hb2 := below_at hb2
  clear h
  go_wp2_with fail
  refine (T3 _ _ (lit_at w2 _ [1, -1] (by decide) rfl)).mono ?_
  rintro e w3 ⟨rfl, hb3⟩
  have hb3 := below_at hb3
  go_wp2_with fail
  refine (T4 _ _ (lit_at w3 _ [3] (by decide) rfl)).mono ?_
  rintro e w4 ⟨rfl, hb4⟩
  have hb4 := below_at hb4
  go_wp2_with fail
  refine (T5 _ _ (lit_at w4 _ [-2] (by decide) rfl)).mono ?_
  intro e w5 h
  obtain ⟨A5, c5, A6, c6, rfl, r5, _, hb5⟩ := h.read
  have hb5 := below_at hb5
  clear h
  have s1 := hb2.size
  have s2 := hb3.size
  have s3 := hb4.size
  have s4 := hb5.size
  have hb15 : Below w1.heap.size w1 w5 := ((hb2.trans (hb3.mono s1)).trans (hb4.mono (by omega))).trans (hb5.mono (by omega))
  have r1 := r1.below hb15 (Nat.le_refl _)
  have r2 := r2.below hb15 (Nat.le_refl _)
  have hbw := hb1.trans (hb15.mono hb1.size)
  obtain ⟨W7, hW7, hw, hb7, hsz⟩ := want_pack w5
  have s0 := hb1.size
  clear hb1 hb2 hb3 hb4 hb5 hb15
  have hbw := hbw.trans (hb7.mono (by omega))
  have r1 := r1.below hb7 (by omega)
  have r5 := r5.below hb7 (by omega)
  have r2 := r2.below hb7 (by omega)
  have s7 := hb7.size
  have HW := Lib.hid hW7
  have Hsz := Lib.hid hsz
  clear hb7 hW7 hsz
  go_wp2_with fail
  rw [← HW.out, Hsz.out]
  obtain ⟨A7, hA7⟩ : ∃ A, A = some (⟨w5.heap.size + 1 + 1 + 1 + 1 + 1 + 1, 0, none⟩ : Addr) := ⟨_, rfl⟩
  rw [← hA7] at hw ⊢
  clear HW Hsz hA7
  refine (Ints_same _ _ _ _ _ _ _ [3, 4] _ (r1.allocd (by omega) _) (lit_at _ _ [3, 4] (by decide) rfl) rfl (by show 2 ≤ maxLen; unfold maxLen; omega)).mono ?_
  rintro e w6 ⟨rfl, k6, hw6⟩
  have hb6 : Below W7.heap.size W7 w6 := by rw [hw6]; exact below_drewN ((Below.refl _ W7).alloc (Nat.le_refl _) _) k6
  clear hw6
  have hbw := hbw.trans (hb6.mono (by omega))
  have r5 := r5.below hb6 (by omega)
  have r2 := r2.below hb6 (by omega)
  have hw := hw.below hb6 (by omega)
  have s8 := hb6.size
  clear hb6 r1
  go_wp2_with fail
  rw [show want.length = 6 from rfl]
  refine (Clauses_same _ _ A2 A7 6 c2 6 want w6 r2 hw rfl (by unfold maxLen; omega) (fun x hx => by have := (by decide : ∀ x ∈ want, x.length ≤ 3) x hx; unfold maxLen; omega)).mono ?_
  rintro e w8 ⟨rfl, k8, hw8⟩
  have hb8 : Below w6.heap.size w6 w8 := by rw [hw8]; exact below_drewN (Below.refl _ w6) k8
  clear hw8
  have hbw := hbw.trans (hb8.mono (by omega))
  have r5 := r5.below hb8 (by omega)
  have s9 := hb8.size
  clear hb8 r2 hw
  go_wp2_with fail
  refine (Ints_same _ _ A5 _ 1 c5 1 [-2] _ (r5.allocd (by omega) _) (lit_at _ _ [-2] (by decide) rfl) rfl (by unfold maxLen; omega)).mono ?_
  rintro e w9 ⟨rfl, k9, hw9⟩
  have hb9 : Below w8.heap.size w8 w9 := by rw [hw9]; exact below_drewN ((Below.refl _ w8).alloc (Nat.le_refl _) _) k9
  clear hw9
  have hbw := hbw.trans (hb9.mono (by omega))
  clear hb9 r5
  go_wp2_with fail
  go_ret
  exact ⟨rfl, hbw⟩
end Go.Proofs.Ytppgpafnifmmfaa
