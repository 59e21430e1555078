/- What the sanity example wants of the functions. -/
import Derived.Test.YtoacfjmefoiflaaLinW
import Derived.Test.YtoacfjmefoiflaaAddN
import Derived.Test.YtoacfjmefoiflaaSame
namespace Go.Proofs.Ytoacfjmefoiflaa
open Go.RowKit
set_option maxRecDepth 30000

set_option maxHeartbeats 4000000 in
theorem linValue2_no (B : Nat) (AC AL A : Option Addr) (n1 n2 cc lc N c : Nat) (k : Int) (cs zs : List Int) (w : World) (hc : RdI B w AC cs) (hr : RdI B w AL zs) (hB : B ≤ w.heap.size) (hcl : cs.length = n1) (hl : zs.length = n2) (hn : n2 ≤ 4096) (hok : ¬ OkL cs zs k 65536) :
    Calls Try.prog 23 #[.agg #[.slice AC n1 cc, .slice AL n2 lc, .int .i64 k], .slice A N c] w fun e w' => e = .returned (.bool false) ∧ Below w.heap.size w w' := by
  obtain ⟨W1, hW1⟩ : ∃ W, W = (w.alloc (.cells #[.slice AC n1 cc, .slice AL n2 lc, .int .i64 k] 24)).alloc (.cells #[.slice A N c] 32) := ⟨_, rfl⟩
  have hb : Below w.heap.size w W1 := by rw [hW1]; exact ((Below.refl _ _).alloc (Nat.le_refl _) _).alloc (by simp) _
  have hg0 : LinAt W1 w.heap.size (.slice AC n1 cc) (.slice AL n2 lc) k 24 := by rw [hW1]; exact (heap_alloc_old _ _ (by simp)).trans (heap_alloc_new _ _)
  obtain ⟨cC, cL, cK⟩ := hg0.cells
  rw [hW1] at cC cL cK
  have HW := Lib.hid hW1
  have hsb := hb.size
  have HL := Lib.hid ((LinCheck_any B AC AL n1 n2 cc lc k 65536 cs zs W1 (hc.below hb hB) (hr.below hb hB) (by omega) hcl hl hn (by omega) (by omega)).2 hok)
  clear hW1 hc hr hcl hl hok hg0
  go_enter Try.func23, Try.ntmps23
  go_wp2_with fail
  rw [← HW.out]
  clear HW
  refine HL.out.mono ?_
  rintro e w2 ⟨rfl, hb2⟩
  have fin := Lib.hid (hb.trans (hb2.mono hsb))
  clear hb2 HL cC cL cK
  go_wp2_with fail
  go_ret
  exact ⟨rfl, fin.out⟩

instance (x : Int) : Decidable (Wf x) := inferInstanceAs (Decidable (_ ∧ _))
instance (v : Nat) (x : Int) : Decidable (Lit v x) := inferInstanceAs (Decidable (_ ∧ _))
instance (cs ls : List Int) (k N : Int) : Decidable (OkL cs ls k N) := inferInstanceAs (Decidable (_ ∧ _))
theorem RdI.allocd {B : Nat} {w : World} {A : Option Addr} {zs : List Int} (h : RdI B w A zs) (hB : B ≤ w.heap.size) (o : Obj) : RdI B (w.alloc o) A zs := h.below ((Below.refl B w).alloc hB o) (Nat.le_refl _)
theorem lit_at (w : World) (cs : Array Value) (zs : List Int) (hb : ∀ z ∈ zs, Wf z) (h : cs = (zs.map (Value.int .i64)).toArray) : RdI (w.alloc (.cells cs 3)).heap.size (w.alloc (.cells cs 3)) (some ⟨w.heap.size, 0, none⟩) zs := by
  refine ⟨hb, fun _ => ⟨w.heap.size, 0, rfl, by simp, fun j hj => ?_⟩⟩
  rw [cell_of_row _ w.heap.size (0 + j) _ 3 (0, 0) (heap_alloc_new w (.cells cs 3)), h, Nat.zero_add]
  simp [hj]
theorem two_lit (w : World) (cs ds : Array Value) (xs ys : List Int) (hx : ∀ z ∈ xs, Wf z) (hy : ∀ z ∈ ys, Wf z) (h1 : cs = (xs.map (Value.int .i64)).toArray) (h2 : ds = (ys.map (Value.int .i64)).toArray) :
    ∃ W, W = (w.alloc (.cells cs 3)).alloc (.cells ds 3) ∧ RdI W.heap.size W (some ⟨w.heap.size, 0, none⟩) xs ∧ RdI W.heap.size W (some ⟨w.heap.size + 1, 0, none⟩) ys ∧ Below w.heap.size w W := by
  refine ⟨_, rfl, ?_, ?_, ?_⟩
  · have := (lit_at w cs xs hx h1).allocd (Nat.le_refl _) (.cells ds 3)
    exact this.more (by simp)
  · have := lit_at (w.alloc (.cells cs 3)) ds ys hy h2
    rwa [show (w.alloc (.cells cs 3)).heap.size = w.heap.size + 1 from World.size_alloc _ _] at this
  · exact ((Below.refl _ w).alloc (Nat.le_refl _) _).alloc (by simp) _
theorem one_lit (w : World) (cs : Array Value) (xs : List Int) (hx : ∀ z ∈ xs, Wf z) (h1 : cs = (xs.map (Value.int .i64)).toArray) : ∃ W, W = w.alloc (.cells cs 3) ∧ RdI W.heap.size W (some ⟨w.heap.size, 0, none⟩) xs ∧ Below w.heap.size w W :=
  ⟨_, rfl, lit_at w cs xs hx h1, (Below.refl _ w).alloc (Nat.le_refl _) _⟩
theorem bool_lit (w : World) (cs : Array Value) (xs : List Bool) (h1 : cs = (xs.map Value.bool).toArray) : ∃ W, W = w.alloc (.cells cs 4) ∧ RdB W.heap.size W (some ⟨w.heap.size, 0, none⟩) xs ∧ Below w.heap.size w W := by
  refine ⟨_, rfl, fun _ => ⟨w.heap.size, 0, rfl, by simp, fun j hj => ?_⟩, (Below.refl _ w).alloc (Nat.le_refl _) _⟩
  rw [cell_of_row _ w.heap.size (0 + j) _ 4 (0, 0) (heap_alloc_new w (.cells cs 4)), h1, Nat.zero_add]
  simp [hj]
/-- A constraint in a block of its own, with what its slices read as. -/
def KL (w : World) (g : Nat) (A : Option Addr) (n c : Nat) (B : Option Addr) (m d : Nat) (k : Int) (cs ls : List Int) : Prop := LinAt w g (.slice A n c) (.slice B m d) k 24 ∧ RdI w.heap.size w A cs ∧ RdI w.heap.size w B ls
theorem KL.step {w w' : World} {g : Nat} {A : Option Addr} {n c : Nat} {B : Option Addr} {m d : Nat} {k : Int} {cs ls : List Int} (h : KL w g A n c B m d k cs ls) (hb : Below w.heap.size w w') : KL w' g A n c B m d k cs ls :=
  ⟨h.1.below hb, (h.2.1.below hb (Nat.le_refl _)).more hb.size, (h.2.2.below hb (Nat.le_refl _)).more hb.size⟩
theorem RdI.step {w w' : World} {A : Option Addr} {cs : List Int} (h : RdI w.heap.size w A cs) (hb : Below w.heap.size w w') : RdI w'.heap.size w' A cs := (h.below hb (Nat.le_refl _)).more hb.size
theorem KL.new {w : World} {A : Option Addr} {n c : Nat} {B : Option Addr} {m d : Nat} {k : Int} {cs ls : List Int} (h1 : RdI w.heap.size w A cs) (h2 : RdI w.heap.size w B ls) :
    ∃ W, W = w.alloc (.cells #[.slice A n c, .slice B m d, .int .i64 k] 24) ∧ KL W w.heap.size A n c B m d k cs ls ∧ Below w.heap.size w W := by
  have hb : Below w.heap.size w (w.alloc (.cells #[.slice A n c, .slice B m d, .int .i64 k] 24)) := (Below.refl _ _).alloc (Nat.le_refl _) _
  exact ⟨_, rfl, ⟨heap_alloc_new _ _, h1.step hb, h2.step hb⟩, hb⟩

theorem ok_x : OkL [2, 3, 1] [1, -2, 2] 3 65536 := by decide +kernel
theorem ok_l : OkL [3, 2, 2] [1, 2, 3] 5 65536 := by decide +kernel
theorem ok_l3 : OkL [3, 2, 2] [1, 2, 3] 5 3 := by decide +kernel
theorem no_l2 : ¬ OkL [3, 2, 2] [1, 2, 3] 5 2 := by decide +kernel
theorem nx1 : nC [2, 3, 1] [1, -2, 2] 3 = [2, 2] := by decide +kernel
theorem nx2 : nL [2, 3, 1] [1, -2, 2] 3 = [1, -2] := by decide +kernel
theorem nx3 : nK [2, 3, 1] [1, -2, 2] 3 = 2 := by decide +kernel
theorem nl1 : nC [3, 2, 2] [1, 2, 3] 5 = [3, 2, 2] := by decide +kernel
theorem nl2 : nL [3, 2, 2] [1, 2, 3] 5 = [1, 2, 3] := by decide +kernel
theorem nl3 : nK [3, 2, 2] [1, 2, 3] 5 = 5 := by decide +kernel
theorem LN (W : World) (A1 A2 : Option Addr) (c d : Nat) (r1 : RdI W.heap.size W A1 [2, 3, 1]) (r2 : RdI W.heap.size W A2 [1, -2, 2]) :
    Calls Try.prog 15 #[.agg #[.slice A1 3 c, .slice A2 3 d, .int .i64 3]] W fun e w' => ∃ A c B d, e = .returned (.agg #[.slice A 2 c, .slice B 2 d, .int .i64 2]) ∧ RdI w'.heap.size w' A [2, 2] ∧ RdI w'.heap.size w' B [1, -2] ∧ Below W.heap.size W w' := by
  refine (norm_fn W.heap.size 3 c d A1 A2 3 _ _ W r1 r2 (Nat.le_refl _) rfl rfl (by omega) ok_x).mono ?_
  rintro e w' ⟨B1, e1, B2, e2, rfl, q1, q2, _, hb⟩
  rw [nx1, nx2, nx3] at *
  obtain ⟨_, _, x1, _, rd1⟩ := q1.shape
  obtain ⟨_, _, x2, _, rd2⟩ := q2.shape
  injection x1 with x1
  injection x2 with x2
  subst x1
  subst x2
  exact ⟨_, e1, _, e2, rfl, rd1, rd2, hb⟩
theorem LF (W : World) (A1 A2 A : Option Addr) (c d m f L : Nat) (lits res : List Int) (ok : Bool) (r1 : RdI W.heap.size W A1 [3, 2, 2]) (r2 : RdI W.heap.size W A2 [1, 2, 3]) (r3 : RdI W.heap.size W A lits) (hm : lits.length = m) (hm2 : m ≤ 100000) (hg : ∀ j, j < m → goodU lits j) (h1 : fRes lits [3, 2, 2] [1, 2, 3] 5 = res) (h2 : fOk lits [3, 2, 2] [1, 2, 3] 5 = ok) (hL : res.length = L) :
    Calls Try.prog 20 #[.agg #[.slice A1 3 c, .slice A2 3 d, .int .i64 5], .slice A m f] W fun e w' => ∃ A c, e = .returned (.tuple #[.slice A L c, .bool ok]) ∧ RdI w'.heap.size w' A res ∧ Below W.heap.size W w' := by
  refine (Force_ok W.heap.size A1 A2 A 3 3 c d m f 5 _ _ lits W r1 r2 r3 (Nat.le_refl _) rfl rfl (by omega) hm hm2 hg ok_l).mono ?_
  rintro e w' ⟨v, rfl, row, hb⟩
  rw [h1] at row
  rw [h2]
  obtain ⟨B, e, rfl, _, _, rd⟩ := row.shape
  exact ⟨B, e, by rw [hL], rd, hb⟩
theorem LC (W : World) (A1 A2 : Option Addr) (c d : Nat) (r1 : RdI W.heap.size W A1 [3, 2, 2]) (r2 : RdI W.heap.size W A2 [1, 2, 3]) :
    Calls Try.prog 27 #[.agg #[.slice A1 3 c, .slice A2 3 d, .int .i64 5], .int .i64 2] W fun e w' => ∃ A c B d, e = .returned (.tuple #[.agg #[.slice A 3 c, .slice B 3 d, .int .i64 3], .int .i64 0]) ∧ RdI w'.heap.size w' A [2, 1, 1] ∧ RdI w'.heap.size w' B [1, 2, 3] ∧ Below W.heap.size W w' := by
  refine (Cut_ok W.heap.size A1 A2 3 c d 5 2 _ _ W r1 r2 (Nat.le_refl _) rfl rfl (by omega) ok_l (by omega)).mono ?_
  rintro e w' ⟨B1, e1, B2, e2, rfl, q1, q2, _, _, hb⟩
  rw [nl1, show dn 2 [3, 2, 2] = [2, 1, 1] from by decide +kernel] at *
  rw [nl2, nl3, show dv 2 5 = 3 from by decide +kernel] at *
  exact ⟨_, e1, _, e2, rfl, q1, q2, hb⟩
theorem LA (W : World) (A1 A2 : Option Addr) (c d : Nat) (r1 : RdI W.heap.size W A1 [3, 2, 2]) (r2 : RdI W.heap.size W A2 [1, 2, 3]) (z1 : A1 ≠ Option.none) (z2 : A2 ≠ Option.none) :
    Calls Try.prog 25 #[.agg #[.slice A1 3 c, .slice A2 3 d, .int .i64 5], .agg #[.slice A1 3 c, .slice A2 3 d, .int .i64 5]] W fun e w' => ∃ A c B d, e = .returned (.tuple #[.agg #[.slice A 6 c, .slice B 6 d, .int .i64 10], .int .i64 0]) ∧ RdI w'.heap.size w' A [3, 2, 2, 3, 2, 2] ∧ RdI w'.heap.size w' B [1, 2, 3, 1, 2, 3] ∧ Below W.heap.size W w' := by
  refine (Add_ok W.heap.size A1 A2 A1 A2 3 3 c d c d 5 5 10 _ _ _ _ W r1 r2 r1 r2 (Nat.le_refl _) rfl rfl rfl rfl (by omega) (by omega) ok_l ok_l rfl (by decide +kernel) (fun h => absurd h z1) (fun h => absurd h z2) (fun h => absurd h z1) (fun h => absurd h z2)).mono ?_
  rintro e w' ⟨B1, e1, B2, e2, rfl, q1, q2, _, _, hb⟩
  exact ⟨_, e1, _, e2, rfl, q1, q2, hb⟩
theorem LV (W : World) (A1 A2 A : Option Addr) (c d m f : Nat) (bs : List Bool) (ok : Bool) (r1 : RdI W.heap.size W A1 [3, 2, 2]) (r2 : RdI W.heap.size W A2 [1, 2, 3]) (r3 : RdB W.heap.size W A bs) (hm : bs.length = m) (hm2 : m ≤ 100000) (h2 : decide (5 ≤ wsum bs [3, 2, 2] [1, 2, 3]) = ok) :
    Calls Try.prog 23 #[.agg #[.slice A1 3 c, .slice A2 3 d, .int .i64 5], .slice A m f] W fun e w' => e = .returned (.bool ok) ∧ Below W.heap.size W w' := by
  have h := linValue2_any W.heap.size W.heap.size A1 A2 A 3 c d m f _ 5 _ _ bs W r1 r2 (Nat.le_refl _) (Nat.le_refl _) rfl rfl (by omega) ok_l r3 hm (by omega) (by decide) (by decide) rfl
  rwa [h2] at h
theorem LK (W : World) (A1 A2 : Option Addr) (c d : Nat) (r1 : RdI W.heap.size W A1 [3, 2, 2]) (r2 : RdI W.heap.size W A2 [1, 2, 3]) :
    (Calls Try.prog 17 #[.agg #[.slice A1 3 c, .slice A2 3 d, .int .i64 5], .int .i64 3] W fun e w' => e = .returned (.int .i64 0) ∧ Below W.heap.size W w') ∧ (Calls Try.prog 17 #[.agg #[.slice A1 3 c, .slice A2 3 d, .int .i64 5], .int .i64 2] W fun e w' => e = .returned (.int .i64 1) ∧ Below W.heap.size W w') :=
  ⟨(LinCheck_any W.heap.size A1 A2 3 3 c d 5 3 _ _ W r1 r2 (Nat.le_refl _) rfl rfl (by omega) (by omega) (by omega)).1 ok_l3, (LinCheck_any W.heap.size A1 A2 3 3 c d 5 2 _ _ W r1 r2 (Nat.le_refl _) rfl rfl (by omega) (by omega) (by omega)).2 no_l2⟩
end Go.Proofs.Ytoacfjmefoiflaa
