/- What the sanity example wants of Sum and Least. -/
import Derived.Test.YtpeklcbjhkchlaaSumW
import Derived.Test.YtpeklcbjhkchlaaLeast
namespace Go.Proofs.Ytpeklcbjhkchlaa
open Go.RowKit
set_option maxRecDepth 30000

instance (x : Int) : Decidable (Wf x) := inferInstanceAs (Decidable (_ ∧ _))
theorem RdI.allocd {B : Nat} {w : World} {A : Option Addr} {zs : List Int} (h : RdI B w A zs) (hB : B ≤ w.heap.size) (o : Obj) : RdI B (w.alloc o) A zs := h.below ((Below.refl B w).alloc hB o) (Nat.le_refl _)
theorem lit_at (w : World) (cs : Array Value) (zs : List Int) (hb : ∀ z ∈ zs, Wf z) (h : cs = (zs.map (Value.int .i64)).toArray) : RdI (w.alloc (.cells cs 3)).heap.size (w.alloc (.cells cs 3)) (some ⟨w.heap.size, 0, none⟩) zs := by
  have := RdI.lit w cs zs hb h
  rwa [World.size_alloc]
theorem two_lit (w : World) (cs ds : Array Value) (xs ys : List Int) (hx : ∀ z ∈ xs, Wf z) (hy : ∀ z ∈ ys, Wf z) (h1 : cs = (xs.map (Value.int .i64)).toArray) (h2 : ds = (ys.map (Value.int .i64)).toArray) :
    ∃ W, W = (w.alloc (.cells cs 3)).alloc (.cells ds 3) ∧ RdI W.heap.size W (some ⟨w.heap.size, 0, none⟩) xs ∧ RdI W.heap.size W (some ⟨w.heap.size + 1, 0, none⟩) ys ∧ Below w.heap.size w W := by
  refine ⟨_, rfl, ?_, ?_, ?_⟩
  · have := (lit_at w cs xs hx h1).allocd (Nat.le_refl _) (.cells ds 3)
    exact this.more (by simp)
  · have := lit_at (w.alloc (.cells cs 3)) ds ys hy h2
    rwa [show (w.alloc (.cells cs 3)).heap.size = w.heap.size + 1 from World.size_alloc _ _] at this
  · exact ((Below.refl _ w).alloc (Nat.le_refl _) _).alloc (by simp) _
theorem one_lit (w : World) (cs : Array Value) (xs : List Int) (hx : ∀ z ∈ xs, Wf z) (h1 : cs = (xs.map (Value.int .i64)).toArray) : ∃ W, W = w.alloc (.cells cs 3) ∧ RdI W.heap.size W (some ⟨w.heap.size, 0, none⟩) xs ∧ Below w.heap.size w W :=
  ⟨_, rfl, lit_at w cs xs hx h1, (Below.refl _ w).alloc (Nat.le_refl _) _⟩
theorem row_lit (w : World) (cs : Array Value) (xs : List Int) (n : Nat) (hn : xs.length = n) (hx : ∀ z ∈ xs, Wf z) (h1 : cs = (xs.map (Value.int .i64)).toArray) :
    ∃ W, W = (w.alloc (.cells cs 3)).alloc (.cells #[.slice (some ⟨w.heap.size, 0, none⟩) n n] 22) ∧ RdR W.heap.size W (some ⟨w.heap.size + 1, 0, none⟩) [xs] ∧ Below w.heap.size w W := by
  refine ⟨_, rfl, fun _ => ⟨w.heap.size + 1, 0, rfl, by simp, fun j hj => ?_⟩, ?_⟩
  · obtain rfl : j = 0 := by simp at hj; omega
    have hc := cell_of_row ((w.alloc (.cells cs 3)).alloc (.cells #[.slice (some ⟨w.heap.size, 0, none⟩) n n] 22)) (w.alloc (.cells cs 3)).heap.size 0 #[.slice (some ⟨w.heap.size, 0, none⟩) n n] 22 (0, 0) (heap_alloc_new _ _)
    rw [show (w.alloc (.cells cs 3)).heap.size = w.heap.size + 1 from World.size_alloc _ _] at hc
    refine ⟨some ⟨w.heap.size, 0, none⟩, n, ?_, ?_⟩
    · rw [Nat.zero_add, hc, ← hn]; rfl
    · exact ((lit_at w cs xs hx h1).allocd (Nat.le_refl _) _).more (by simp)
  · exact ((Below.refl _ w).alloc (Nat.le_refl _) _).alloc (by simp) _
theorem rows_lit (w : World) (cs ds : Array Value) (xs ys : List Int) (n m : Nat) (hn : xs.length = n) (hm : ys.length = m) (hx : ∀ z ∈ xs, Wf z) (hy : ∀ z ∈ ys, Wf z) (h1 : cs = (xs.map (Value.int .i64)).toArray) (h2 : ds = (ys.map (Value.int .i64)).toArray) :
    ∃ W, W = ((w.alloc (.cells cs 3)).alloc (.cells ds 3)).alloc (.cells #[.slice (some ⟨w.heap.size, 0, none⟩) n n, .slice (some ⟨w.heap.size + 1, 0, none⟩) m m] 22) ∧ RdR W.heap.size W (some ⟨w.heap.size + 1 + 1, 0, none⟩) [xs, ys] ∧ Below w.heap.size w W := by
  obtain ⟨W2, hW2, r1, r2, hb⟩ := two_lit w cs ds xs ys hx hy h1 h2
  have hsz : W2.heap.size = w.heap.size + 1 + 1 := by rw [hW2]; simp
  rw [← hW2]
  clear hW2
  refine ⟨_, rfl, fun _ => ⟨w.heap.size + 1 + 1, 0, rfl, by simp; omega, fun j hj => ?_⟩, ?_⟩
  · have hc := fun i => cell_of_row (W2.alloc (.cells #[.slice (some ⟨w.heap.size, 0, none⟩) n n, .slice (some ⟨w.heap.size + 1, 0, none⟩) m m] 22)) W2.heap.size i #[.slice (some ⟨w.heap.size, 0, none⟩) n n, .slice (some ⟨w.heap.size + 1, 0, none⟩) m m] 22 (0, 0) (heap_alloc_new _ _)
    rw [hsz] at hc
    have hj2 : j = 0 ∨ j = 1 := by simp at hj; omega
    rcases hj2 with rfl | rfl
    · exact ⟨some ⟨w.heap.size, 0, none⟩, n, by rw [Nat.zero_add, hc, ← hn]; rfl, (r1.allocd (Nat.le_refl _) _).more (by simp)⟩
    · exact ⟨some ⟨w.heap.size + 1, 0, none⟩, m, by rw [Nat.zero_add, hc, ← hm]; rfl, (r2.allocd (Nat.le_refl _) _).more (by simp)⟩
  · exact hb.alloc (by omega) _

theorem add_ex : addUp (rowsOf [1, 1] [1, 2]) [] 3 = some ([3, 4], adC [1, 2] 3, 5) := by
  have r0 : rowsOf [1, 1] [1, 2] = [[1, 2]] := by decide
  have r1 : red [1, 2] 3 = some ([3], [4], adC [1, 2] 3, 5) := by
    rw [red_more (by decide) (by decide), show ([1, 2] : List Int).drop (min 3 ([1, 2] : List Int).length) ++ [((3 : Nat) : Int)] = [3] from rfl, red_done _ (by decide)]
    simp
  rw [r0, addUp_some (r := ([3], [4], adC [1, 2] 3, 5)) (by simp) (by simpa using r1)]
  rw [show ([[1, 2]] : List (List Int)).tail = [] from rfl, addUp_some (r := ([4], [], [], 5)) (by simp) (by rw [List.headD_nil, List.nil_append]; exact red_done _ (by decide)), List.tail_nil, addUp_done]
  simp
theorem add_len : (adC [1, 2] 3).length = 7 := by decide
theorem T1 (W : World) (A1 A2 : Option Addr) (r1 : RdI W.heap.size W A1 [1, 1]) (r2 : RdI W.heap.size W A2 [1, 2]) :
    Calls Try.prog 13 #[.slice A1 2 2, .slice A2 2 2, .int .i64 3] W fun e w' => ∃ A c B d, e = .returned (.tuple #[.slice A 2 c, .slice B 7 d, .int .i64 5, .int .i64 0]) ∧ RdI w'.heap.size w' A [3, 4] ∧ Below W.heap.size W w' := by
  refine (Sum_any W.heap.size 2 2 2 3 A1 A2 [1, 1] [1, 2] W r1 r2 (Nat.le_refl _) rfl rfl (by omega) (by omega) (by omega) (fun j hj => ?_)).mono ?_
  · have hj2 : j = 0 ∨ j = 1 := by omega
    rcases hj2 with rfl | rfl <;> exact ⟨by decide, by decide, by decide, by decide⟩
  · intro e w' h
    unfold Summed at h
    rw [add_ex] at h
    obtain ⟨A, c, B, d, rfl, _, h1, _, h2, _⟩ := h
    exact ⟨A, c, B, d, by rw [add_len]; rfl, h1, h2⟩
theorem T6 (W : World) (A1 A2 : Option Addr) (r1 : RdI W.heap.size W A1 [1]) (r2 : RdI W.heap.size W A2 [3]) :
    Calls Try.prog 13 #[.slice A1 1 1, .slice A2 1 1, .int .i64 3] W fun e w' => ∃ A c B d, e = .returned (.tuple #[.slice A 0 c, .slice B 0 d, .int .i64 0, .int .i64 1]) ∧ Below W.heap.size W w' := by
  refine (sum_bad W.heap.size 1 1 1 3 0 A1 A2 [1] [3] W r1 r2 rfl rfl (by omega) (by omega) (by omega) (by omega) (fun j hj => by omega) (fun h => absurd h.2.2.2 (by decide))).mono ?_
  rintro e w' ⟨A, c, B, d, rfl, _, _, _, h2, _⟩
  exact ⟨A, c, B, d, rfl, h2⟩
theorem T7 (W : World) : Calls Try.prog 13 #[.slice Option.none 0 0, .slice Option.none 0 0, .int .i64 1] W fun e w' => ∃ A c B d, e = .returned (.tuple #[.slice A 0 c, .slice B 0 d, .int .i64 1, .int .i64 0]) ∧ Below W.heap.size W w' := by
  refine (Sum_any W.heap.size 0 0 0 1 none none [] [] W (RdI.nil _ _ _) (RdI.nil _ _ _) (Nat.le_refl _) rfl rfl (by omega) (by omega) (by omega) (fun j hj => by omega)).mono ?_
  intro e w' h
  unfold Summed at h
  rw [show rowsOf [] [] = [] from rfl, addUp_done] at h
  obtain ⟨A, c, B, d, rfl, _, _, _, h2, _⟩ := h
  exact ⟨A, c, B, d, rfl, h2⟩
theorem TL (W : World) (A : Option Addr) (c k m : Nat) (rows : List (List Int)) (r : RdI W.heap.size W A [3, 4]) (hk : k ≤ 4503599627370496) (he : ls [3, 4] k 60 = rows) (hm : rows.length = m) :
    Calls Try.prog 17 #[.slice A 2 c, .int .i64 (k : Int)] W fun e w' => ∃ B d, e = .returned (.tuple #[.slice B m d, .int .i64 0]) ∧ RdR w'.heap.size w' B rows ∧ Below W.heap.size W w' := by
  refine (Least_any W.heap.size A 2 c k [3, 4] W r (Nat.le_refl _) rfl hk (by decide) (by omega)).mono ?_
  rintro e w' ⟨B, d, rfl, h1, h2, _⟩
  rw [he] at h1 ⊢
  exact ⟨B, d, by rw [hm], h1, h2⟩
theorem ls_2 : ls [3, 4] 2 60 = [[4]] := by decide +kernel
theorem ls_1 : ls [3, 4] 1 60 = [[3, 4]] := by decide +kernel
theorem ls_3 : ls [3, 4] 3 60 = [[3], [4]] := by decide +kernel
theorem ls_4 : ls [3, 4] 4 60 = [[]] := by decide +kernel
end Go.Proofs.Ytpeklcbjhkchlaa
