/- For OctetSequence: a slice of slices of integers that comes in. -/
import Derived.Test.YtnebjihjfghlfaaTake
import Derived.Deep.Matrix
namespace Go.Proofs.Ytnebjihjfghlfaa
open Go.ChangeShapes Go.WideShapes Go.ChangeAt Go.RowKit

theorem Try.cells34 : Try.prog.cellsOf 34 = 1 := by kernel_rfl
/-- A slice of slices of integers reads as these lists. -/
def RdR (B : Nat) (w : World) (A : Option Addr) (zss : List (List Int)) : Prop :=
  0 < zss.length → ∃ b off, A = some ⟨b, off, none⟩ ∧ b < B ∧ ∀ j, j < zss.length → ∃ E c, w.cell? ⟨b, off + j, none⟩ = some (.slice E (zss[j]?.getD []).length c) ∧ RdI B w E (zss[j]?.getD [])
theorem RdR.below {B B' : Nat} {w w' : World} {A : Option Addr} {zss : List (List Int)} (h : RdR B w A zss) (hb : Below B' w w') (hB : B ≤ B') : RdR B w' A zss := by
  intro hn
  obtain ⟨b, off, rfl, hlt, hc⟩ := h hn
  refine ⟨b, off, rfl, hlt, fun j hj => ?_⟩
  obtain ⟨E, c, h1, h2⟩ := hc j hj
  exact ⟨E, c, by rw [← h1]; exact hb.cell (by show b < B'; omega), h2.below hb hB⟩
theorem open_rows {H : Type} {enc : TypeId × Value → H} {W : World} {base : Nat} {v : Value} {d : DataW H} {p : List MemPlace} (hval : Value.okWide Try.prog W .any base 43 v) (h : DataW.Trod enc Try.prog W 0 (fun _ => true) true 43 v d p)
    (hlt : ∀ x ∈ p, x.block < W.heap.size) :
    ∃ A len cap zss, v = .slice A len cap ∧ RdR W.heap.size W A zss ∧ zss.length = len ∧ len ≤ cap ∧ cap ≤ maxLen := by
  obtain ⟨a0, len, cap, rfl⟩ := okWide_slice Try.underlying43 hval
  obtain ⟨fuel, hf⟩ := h
  rcases Go.Deep.open_int_rows Try.underlying43 Try.underlying34 Try.underlying3 Try.cells34 Try.cells3 hf with ⟨hcs, hx⟩ | ⟨a, len', cap', A, L, C, Z, hcs, _, hl, hm, hx, hrow⟩
  · simp [Value.cells] at hcs
    obtain ⟨rfl, rfl, rfl⟩ := hcs
    exact ⟨_, _, _, [], rfl, fun h => absurd h (by simp), rfl, Nat.le_refl _, Nat.zero_le _⟩
  · simp [Value.cells] at hcs
    obtain ⟨rfl, rfl, rfl⟩ := hcs
    simp only [Prod.mk.injEq] at hx
    obtain ⟨rfl, rfl⟩ := hx
    refine ⟨some a, len, cap, (List.range len).map fun r => (Z r).take (L r), rfl, fun hn => ?_, by simp, hl, hm⟩
    rw [List.length_map, List.length_range] at hn
    obtain ⟨b, off, spot⟩ := a
    have hspot : spot = Option.none := by
      have := (hrow 0 (by omega)).1
      simpa [Addr.add] using World.cell?_spot this
    subst hspot
    refine ⟨b, off, rfl, hlt (.cell b off) (List.mem_append_left _ (MemPlace.mem_row.2 ⟨0, by omega, by simp⟩)), fun j hj => ?_⟩
    rw [List.length_map, List.length_range] at hj
    obtain ⟨h1, h2, h3, h4, h5, h6, h7⟩ := hrow j (by omega)
    have e : ((List.range len).map fun r => (Z r).take (L r))[j]?.getD [] = (Z j).take (L j) := by simp [hj]
    have el : ((Z j).take (L j)).length = L j := by rw [List.length_take]; omega
    rw [e, el]
    refine ⟨A j, C j, by rw [← add_plain]; exact h1, fun z hz => bounds_i64 (h5 z (List.mem_of_mem_take hz)), fun hp => ?_⟩
    rw [el] at hp ⊢
    cases hA : A j with
    | none => have := h6 hA; omega
    | some a' =>
      obtain ⟨_, hc⟩ := h7 a' hA
      obtain ⟨b', off', spot'⟩ := a'
      have hs : spot' = Option.none := by simpa [Addr.add] using World.cell?_spot (hc 0 (by omega))
      subst hs
      refine ⟨b', off', rfl, hlt (.cell b' off') (List.mem_append_right _ (List.mem_flatMap.2 ⟨j, List.mem_range.2 (by omega), ?_⟩)), fun i hi => ?_⟩
      · rw [hA]
        exact MemPlace.mem_row.2 ⟨0, by omega, by simp⟩
      · rw [← add_plain, hc i (by omega), List.getElem?_take_of_lt hi]
        simp [List.getD]
end Go.Proofs.Ytnebjihjfghlfaa
