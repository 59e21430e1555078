/- live answers true, whatever the world, and turns nothing that was there. -/
import Derived.Test.YtpiomdnkemoanaaSame
namespace Go.Proofs.Ytpiomdnkemoanaa
open Go.RowKit

instance (x : Int) : Decidable (Wf x) := inferInstanceAs (Decidable (_ ∧ _))
theorem RdI.allocd {B : Nat} {w : World} {A : Option Addr} {zs : List Int} (h : RdI B w A zs) (hB : B ≤ w.heap.size) (o : Obj) : RdI B (w.alloc o) A zs := h.below ((Below.refl B w).alloc hB o) (Nat.le_refl _)
def want : List (List Int) := [[-3, 1], [-4, 3, 2], [4]]
theorem want_rd (w : World) : RdR (w.heap.size + 1 + 1 + 1 + 1) ((((w.alloc (.cells #[.int .i64 (-3), .int .i64 1] 3)).alloc (.cells #[.int .i64 (-4), .int .i64 3, .int .i64 2] 3)).alloc (.cells #[.int .i64 4] 3)).alloc (.cells #[.slice (some ⟨w.heap.size, 0, none⟩) 2 2, .slice (some ⟨w.heap.size + 1, 0, none⟩) 3 3, .slice (some ⟨w.heap.size + 1 + 1, 0, none⟩) 1 1] 22)) (some ⟨w.heap.size + 1 + 1 + 1, 0, none⟩) want := by
  have r0 : RdI (w.heap.size + 1) (w.alloc (.cells #[.int .i64 (-3), .int .i64 1] 3)) (some ⟨w.heap.size, 0, none⟩) [-3, 1] := by
    have := RdI.lit w #[.int .i64 (-3), .int .i64 1] [-3, 1] (by decide) rfl
    simpa using this
  have r1 : RdI (w.heap.size + 1 + 1) ((w.alloc (.cells #[.int .i64 (-3), .int .i64 1] 3)).alloc (.cells #[.int .i64 (-4), .int .i64 3, .int .i64 2] 3)) (some ⟨w.heap.size + 1, 0, none⟩) [-4, 3, 2] := by
    have := RdI.lit (w.alloc (.cells #[.int .i64 (-3), .int .i64 1] 3)) #[.int .i64 (-4), .int .i64 3, .int .i64 2] [-4, 3, 2] (by decide) rfl
    simpa using this
  have r2 : RdI (w.heap.size + 1 + 1 + 1) (((w.alloc (.cells #[.int .i64 (-3), .int .i64 1] 3)).alloc (.cells #[.int .i64 (-4), .int .i64 3, .int .i64 2] 3)).alloc (.cells #[.int .i64 4] 3)) (some ⟨w.heap.size + 1 + 1, 0, none⟩) [4] := by
    have := RdI.lit ((w.alloc (.cells #[.int .i64 (-3), .int .i64 1] 3)).alloc (.cells #[.int .i64 (-4), .int .i64 3, .int .i64 2] 3)) #[.int .i64 4] [4] (by decide) rfl
    simpa using this
  have q0 : RdI (w.heap.size + 1 + 1 + 1 + 1) ((((w.alloc (.cells #[.int .i64 (-3), .int .i64 1] 3)).alloc (.cells #[.int .i64 (-4), .int .i64 3, .int .i64 2] 3)).alloc (.cells #[.int .i64 4] 3)).alloc (.cells #[.slice (some ⟨w.heap.size, 0, none⟩) 2 2, .slice (some ⟨w.heap.size + 1, 0, none⟩) 3 3, .slice (some ⟨w.heap.size + 1 + 1, 0, none⟩) 1 1] 22)) (some ⟨w.heap.size, 0, none⟩) [-3, 1] := (((r0.allocd (by simp) _).allocd (by simp) _).allocd (by simp) _).more (by omega)
  have q1 : RdI (w.heap.size + 1 + 1 + 1 + 1) ((((w.alloc (.cells #[.int .i64 (-3), .int .i64 1] 3)).alloc (.cells #[.int .i64 (-4), .int .i64 3, .int .i64 2] 3)).alloc (.cells #[.int .i64 4] 3)).alloc (.cells #[.slice (some ⟨w.heap.size, 0, none⟩) 2 2, .slice (some ⟨w.heap.size + 1, 0, none⟩) 3 3, .slice (some ⟨w.heap.size + 1 + 1, 0, none⟩) 1 1] 22)) (some ⟨w.heap.size + 1, 0, none⟩) [-4, 3, 2] := ((r1.allocd (by simp) _).allocd (by simp) _).more (by omega)
  have q2 : RdI (w.heap.size + 1 + 1 + 1 + 1) ((((w.alloc (.cells #[.int .i64 (-3), .int .i64 1] 3)).alloc (.cells #[.int .i64 (-4), .int .i64 3, .int .i64 2] 3)).alloc (.cells #[.int .i64 4] 3)).alloc (.cells #[.slice (some ⟨w.heap.size, 0, none⟩) 2 2, .slice (some ⟨w.heap.size + 1, 0, none⟩) 3 3, .slice (some ⟨w.heap.size + 1 + 1, 0, none⟩) 1 1] 22)) (some ⟨w.heap.size + 1 + 1, 0, none⟩) [4] := (r2.allocd (by simp) _).more (by omega)
  have hc : ∀ j v, (#[.slice (some ⟨w.heap.size, 0, none⟩) 2 2, .slice (some ⟨w.heap.size + 1, 0, none⟩) 3 3, .slice (some ⟨w.heap.size + 1 + 1, 0, none⟩) 1 1] : Array Value)[j]? = some v → ((((w.alloc (.cells #[.int .i64 (-3), .int .i64 1] 3)).alloc (.cells #[.int .i64 (-4), .int .i64 3, .int .i64 2] 3)).alloc (.cells #[.int .i64 4] 3)).alloc (.cells #[.slice (some ⟨w.heap.size, 0, none⟩) 2 2, .slice (some ⟨w.heap.size + 1, 0, none⟩) 3 3, .slice (some ⟨w.heap.size + 1 + 1, 0, none⟩) 1 1] 22)).cell? ⟨w.heap.size + 1 + 1 + 1, 0 + j, none⟩ = some v := fun j v h => by
    have := cell_of_row ((((w.alloc (.cells #[.int .i64 (-3), .int .i64 1] 3)).alloc (.cells #[.int .i64 (-4), .int .i64 3, .int .i64 2] 3)).alloc (.cells #[.int .i64 4] 3)).alloc (.cells #[.slice (some ⟨w.heap.size, 0, none⟩) 2 2, .slice (some ⟨w.heap.size + 1, 0, none⟩) 3 3, .slice (some ⟨w.heap.size + 1 + 1, 0, none⟩) 1 1] 22)) (((w.alloc (.cells #[.int .i64 (-3), .int .i64 1] 3)).alloc (.cells #[.int .i64 (-4), .int .i64 3, .int .i64 2] 3)).alloc (.cells #[.int .i64 4] 3)).heap.size j #[.slice (some ⟨w.heap.size, 0, none⟩) 2 2, .slice (some ⟨w.heap.size + 1, 0, none⟩) 3 3, .slice (some ⟨w.heap.size + 1 + 1, 0, none⟩) 1 1] 22 (0, 0) (heap_alloc_new _ _)
    rw [Nat.zero_add]
    simp only [World.size_alloc] at this
    rw [this, h]
  refine fun _ => ⟨_, 0, rfl, by omega, fun j hj => ?_⟩
  have hj6 : j = 0 ∨ j = 1 ∨ j = 2 := by simp [want] at hj; omega
  rcases hj6 with rfl | rfl | rfl
  · exact ⟨_, _, hc 0 _ rfl, q0⟩
  · exact ⟨_, _, hc 1 _ rfl, q1⟩
  · exact ⟨_, _, hc 2 _ rfl, q2⟩
theorem want_pack (w : World) : ∃ W, W = ((((w.alloc (.cells #[.int .i64 (-3), .int .i64 1] 3)).alloc (.cells #[.int .i64 (-4), .int .i64 3, .int .i64 2] 3)).alloc (.cells #[.int .i64 4] 3)).alloc (.cells #[.slice (some ⟨w.heap.size, 0, none⟩) 2 2, .slice (some ⟨w.heap.size + 1, 0, none⟩) 3 3, .slice (some ⟨w.heap.size + 1 + 1, 0, none⟩) 1 1] 22)) ∧ RdR W.heap.size W (some ⟨w.heap.size + 1 + 1 + 1, 0, none⟩) want ∧ Below w.heap.size w W ∧ w.heap.size + 1 + 1 + 1 + 1 = W.heap.size := by
  refine ⟨_, rfl, ?_, ?_, ?_⟩
  · have := want_rd w
    simp only [World.size_alloc]
    exact this
  · exact ((((Below.refl _ w).alloc (Nat.le_refl _) _).alloc (by simp) _).alloc (by simp; omega) _).alloc (by simp; omega) _
  · simp only [World.size_alloc]
theorem lit_at (w : World) (cs : Array Value) (zs : List Int) (hb : ∀ z ∈ zs, Wf z) (h : cs = (zs.map (Value.int .i64)).toArray) : RdI (w.alloc (.cells cs 3)).heap.size (w.alloc (.cells cs 3)) (some ⟨w.heap.size, 0, none⟩) zs := by
  have := RdI.lit w cs zs hb h
  rwa [World.size_alloc]
theorem below_at {w w' : World} {o : Obj} (hb : Below (w.alloc o).heap.size (w.alloc o) w') : Below w.heap.size w w' := ((Below.refl _ w).alloc (Nat.le_refl _) o).trans (hb.mono (by simp))

theorem C1 (W : World) (A : Option Addr) (c : Nat) (zs : List Int) (hr : RdI W.heap.size W A zs) (hl : zs.length = 2) (hd : Tot.dist 3 [] zs = true) : Calls Try.prog 27 #[.slice A 2 c, .int .i64 ((3 : Nat) : Int)] W fun e w' => e = .returned (.int .i64 0) ∧ Below W.heap.size W w' :=
  check_any W.heap.size A 2 c zs ((3 : Nat) : Int) W hr (Nat.le_refl _) hl (by omega) (by omega) (by omega) 0 (by rw [show (((3 : Nat) : Int)) = 3 from rfl, hd]; rfl)
theorem T1 (W : World) (A : Option Addr) (hr : RdI W.heap.size W A [1, 2]) : Calls Try.prog 13 #[.slice A 2 2, .int .i64 1, .int .i64 3] W (LsRes W want 5 0) := by
  have q := Least_ok A 2 2 3 1 [1, 2] W hr rfl (by omega) (by omega) (by omega) (by omega) (by omega) (C1 W A 2 [1, 2] hr rfl (by decide)) (by decide) (by decide) (by decide)
  rw [show ctr [1, 2] 1 3 = want by decide, show 3 + regs 1 2 = 5 by decide] at q
  exact q
theorem T2 (W : World) (A : Option Addr) (hr : RdI W.heap.size W A [1, 2]) : Calls Try.prog 13 #[.slice A 2 2, .int .i64 3, .int .i64 3] W (LsRes W [[]] 3 0) :=
  Least_high A 2 2 3 W (C1 W A 2 [1, 2] hr rfl (by decide)) 3 (by omega) (by omega)
theorem T3 (W : World) (A : Option Addr) (hr : RdI W.heap.size W A [1, 2]) : Calls Try.prog 16 #[.slice A 2 2, .int .i64 2, .int .i64 3] W (LsRes W [] 3 0) :=
  Most_any W.heap.size A 2 2 3 2 3 0 [1, 2] [] W hr (Nat.le_refl _) rfl (by omega) ⟨by omega, by omega⟩ fun W' G c' _ _ hg => by
    rw [show mostK 2 2 = 0 by decide]
    exact Least_low G 2 c' 3 W' (C1 W' G c' _ hg rfl (by decide)) 0 (by omega)

set_option maxRecDepth 20000 in
set_option maxHeartbeats 8000000 in
theorem live_any (w : World) : Calls Try.prog 12 #[] w fun e w' => e = .returned (.bool true) ∧ Below w.heap.size w w' := by
  go_enter Try.func12, Try.ntmps12
  go_wp2_with fail
  refine (T1 _ _ (lit_at w _ [1, 2] (by decide) rfl)).mono ?_
  rintro e w1 ⟨A1, c1, rfl, r1, hb1, _⟩
  have hb1 := below_at hb1
  go_wp2_with fail
  refine (T2 _ _ (lit_at w1 _ [1, 2] (by decide) rfl)).mono ?_
  rintro e w2 ⟨A2, c2, rfl, r2, hb2, _⟩
  have hb2 := below_at hb2
  go_wp2_with fail
  refine (T3 _ _ (lit_at w2 _ [1, 2] (by decide) rfl)).mono ?_
  rintro e w3 ⟨A3, c3, rfl, _, hb3, _⟩
  have hb3 := below_at hb3
  have s0 := hb1.size
  have s1 := hb2.size
  have s2 := hb3.size
  have hb13 : Below w1.heap.size w1 w3 := hb2.trans (hb3.mono s1)
  have r1 := r1.below hb13 (Nat.le_refl _)
  have r2 := r2.below hb3 (Nat.le_refl _)
  have hbw := hb1.trans (hb13.mono s0)
  obtain ⟨W7, hW7, hw, hb7, hsz⟩ := want_pack w3
  clear hb1 hb2 hb3 hb13
  have hbw := hbw.trans (hb7.mono (by omega))
  have r1 := r1.below hb7 (by omega)
  have r2 := r2.below hb7 (by omega)
  have s7 := hb7.size
  have HW := Lib.hid hW7
  have Hsz := Lib.hid hsz
  clear hb7 hW7 hsz
  go_wp2_with fail
  rw [← HW.out]
  obtain ⟨A7, hA7⟩ : ∃ A, A = some (⟨w3.heap.size + 1 + 1 + 1, 0, none⟩ : Addr) := ⟨_, rfl⟩
  rw [← hA7] at hw ⊢
  clear HW Hsz hA7
  rw [show want.length = 3 from rfl]
  refine (Same_any _ _ A1 A7 3 c1 3 want W7 r1 hw rfl (by unfold maxLen; omega) (fun j hj => ?_)).mono ?_
  · have hj3 : j = 0 ∨ j = 1 ∨ j = 2 := by simp [want] at hj; omega
    rcases hj3 with rfl | rfl | rfl <;> (unfold maxLen; decide)
  rintro e w8 ⟨rfl, k8, hw8⟩
  have hb8 : Below W7.heap.size W7 w8 := by rw [hw8]; exact below_drewN (Below.refl _ W7) k8
  clear hw8
  have hbw := hbw.trans (hb8.mono hbw.size)
  have r2 := r2.below (hb8.mono (by omega)) (Nat.le_refl _)
  clear hb8 r1 hw
  obtain ⟨b, off, rfl, _, hc⟩ := r2 (by simp)
  obtain ⟨E, ec, hc1, _⟩ := hc 0 (by simp)
  clear hc r2
  rw [Nat.add_zero] at hc1
  go_wp2_with fail
  go_ret
  exact ⟨rfl, hbw⟩
end Go.Proofs.Ytpiomdnkemoanaa
