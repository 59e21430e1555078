/- A slice of bools that comes in; where the clauses of a totalizer hold under an assignment. -/
import Derived.Test.YtppgpafnifmmfaaPad
import Derived.Test.YtppgpafnifmmfaaUnary
import Derived.Deep.Grids
namespace Go.Proofs.Ytppgpafnifmmfaa
open Go.ChangeShapes Go.WideShapes Go.ChangeAt Go.RowKit Go.Deep

theorem Try_cells4 : Try.prog.cellsOf 4 = 1 := by kernel_rfl
theorem open_boollist {H : Type} {enc : TypeId × Value → H} {W : World} {base : Nat} {v : Value} {d : DataW H} {p : List MemPlace} (hval : Value.okWide Try.prog W .any base 31 v) (h : DataW.Trod enc Try.prog W 0 (fun _ => true) true 31 v d p)
    (hlt : ∀ x ∈ p, x.block < W.heap.size) :
    ∃ A len cap bs, v = .slice A len cap ∧ RdB W.heap.size W A bs ∧ bs.length = len ∧ len ≤ cap ∧ cap ≤ maxLen := by
  obtain ⟨a0, len, cap, rfl⟩ := okWide_slice underlying31' hval
  obtain ⟨fuel, hf⟩ := h
  rcases open_bools underlying31' underlying4 Try_cells4 hf with ⟨hcs, hx⟩ | ⟨a, len', cap', B, hcs, _, hl, hm, hx, hcell⟩
  · simp [Value.cells] at hcs
    obtain ⟨rfl, rfl, rfl⟩ := hcs
    exact ⟨_, _, _, [], rfl, fun h => absurd h (by simp), rfl, Nat.le_refl _, Nat.zero_le _⟩
  · simp [Value.cells] at hcs
    obtain ⟨rfl, rfl, rfl⟩ := hcs
    simp only [Prod.mk.injEq] at hx
    obtain ⟨rfl, rfl⟩ := hx
    refine ⟨some a, len, cap, (List.range len).map B, rfl, fun hn => ?_, by simp, hl, hm⟩
    rw [List.length_map, List.length_range] at hn
    obtain ⟨b, off, spot⟩ := a
    have hspot : spot = Option.none := by simpa [Addr.add] using World.cell?_spot (hcell 0 (by omega))
    subst hspot
    refine ⟨b, off, rfl, hlt (.cell b off) (MemPlace.mem_row.2 ⟨0, by omega, by simp⟩), fun j hj => ?_⟩
    rw [List.length_map, List.length_range] at hj
    rw [← add_plain, hcell j (by omega), List.getElem?_map, List.getElem?_range hj]; rfl

theorem sat_satf {bs : List Bool} {cl : List (List Int)} (h : sat bs cl = true) : satf (tv bs) cl := fun c hc => List.all_eq_true.1 h c hc
theorem satf_sat {bs : List Bool} {cl : List (List Int)} (h : satf (tv bs) cl) : sat bs cl = true := List.all_eq_true.2 h
theorem tv_negok (bs : List Bool) : NegOk (tv bs) := fun x h => tv_not bs x h
theorem lit_nz {v : Nat} {l : List Int} (h : ∀ x ∈ l, Lit v x) : Nz l := fun x hx => (h x hx).1
/-- Where the clauses hold, output i is true just where more than i literals are. -/
theorem outs_count {bs : List Bool} {M m : Nat} {zs : List Int} (hm : 1 ≤ m) (hz : Nz zs) (h : sat bs (Tot.cnt M zs m).2 = true) {i : Nat} (hi : i < (Tot.cnt M zs m).1.length) :
    tv bs ((Tot.cnt M zs m).1[i]?.getD 0) = decide ((i : Int) < (ct bs zs : Int)) := by
  rw [cnt_unary (tv_negok bs) zs.length zs m (Nat.le_refl _) hm hz (sat_satf h) i hi]
  show decide (i < ct bs zs) = _
  by_cases h : i < ct bs zs
  · rw [decide_eq_true h, decide_eq_true (by omega)]
  · rw [decide_eq_false h, decide_eq_false (by omega)]
end Go.Proofs.Ytppgpafnifmmfaa
