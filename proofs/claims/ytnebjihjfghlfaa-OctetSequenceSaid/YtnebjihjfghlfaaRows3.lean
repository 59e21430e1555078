/- For OctetSequence: how many elements the slices of a slice have, by the reach; sums and encodings of lists of lists. -/
import Derived.Test.YtnebjihjfghlfaaRows2
import Derived.SizedLaws
namespace Go.Proofs.Ytnebjihjfghlfaa
open Go.ChangeShapes Go.WideShapes Go.ChangeAt Go.RowKit

theorem weights_mem_all {H : Type} {P : Program} {e : TypeId} : ∀ {elems : List (DataW H)} {d : DataW H} {n : Nat}, d ∈ elems → n ∈ d.weights P e → n ∈ DataW.weightsAll P e elems
  | [], _, _, h, _ => by cases h
  | x :: l, d, n, h, hn => by
    simp only [DataW.weightsAll, List.mem_append]
    rcases List.mem_cons.1 h with rfl | h
    · exact .inl hn
    · exact .inr (weights_mem_all h hn)

theorem open_rows_sized {H : Type} {enc : TypeId × Value → H} {W : World} {base : Nat} {v : Value} {d : DataW H} {ts : List TypeId} {ds : List (DataW H)} {p : List MemPlace} (hval : Value.okWide Try.prog W .any base 43 v) (h : DataW.Trod enc Try.prog W 0 (fun _ => true) true 43 v d p)
    (hlt : ∀ x ∈ p, x.block < W.heap.size) (hsz : (DataW.weightsEach Try.prog (43 :: ts) (d :: ds)).all (· ≤ reachBytes) = true) :
    ∃ A len cap zss, v = .slice A len cap ∧ RdR W.heap.size W A zss ∧ zss.length = len ∧ len ≤ cap ∧ cap ≤ maxLen ∧ ∀ j, j < len → (zss[j]?.getD []).length ≤ 17592186044416 := by
  obtain ⟨a0, len, cap, rfl⟩ := okWide_slice Try.underlying43 hval
  obtain ⟨fuel, hf⟩ := h
  rcases Go.Deep.open_int_rows Try.underlying43 Try.underlying34 Try.underlying3 Try.cells34 Try.cells3 hf with ⟨hcs, hx⟩ | ⟨a, len', cap', A, L, C, Z, hcs, _, hl, hm, hx, hrow⟩
  · simp [Value.cells] at hcs
    obtain ⟨rfl, rfl, rfl⟩ := hcs
    exact ⟨_, _, _, [], rfl, fun h => absurd h (by simp), rfl, Nat.le_refl _, Nat.zero_le _, fun j hj => by omega⟩
  · simp [Value.cells] at hcs
    obtain ⟨rfl, rfl, rfl⟩ := hcs
    simp only [Prod.mk.injEq] at hx
    obtain ⟨rfl, rfl⟩ := hx
    refine ⟨some a, len, cap, (List.range len).map fun r => (Z r).take (L r), rfl, fun hn => ?_, by simp, hl, hm, ?_⟩
    · rw [List.length_map, List.length_range] at hn
      obtain ⟨b, off, spot⟩ := a
      have hspot : spot = Option.none := by
        have := (hrow 0 (by omega)).1
        simpa [Addr.add] using World.cell?_spot this
      subst hspot
      refine ⟨b, off, rfl, hlt (.cell b off) (List.mem_append_left _ (MemPlace.mem_row.2 ⟨0, by omega, by simp⟩)), fun j hj => ?_⟩
      rw [List.length_map, List.length_range] at hj
      obtain ⟨h1, h2, h3, h4, h5, h6, h7⟩ := hrow j (by omega)
      have e : ((List.range len).map fun r => (Z r).take (L r))[j]?.getD [] = (Z j).take (L j) := by simp [hj]
      have el : ((Z j).take (L j)).length = L j := by rw [List.length_take]; omega
      rw [e, el]
      refine ⟨A j, C j, by rw [← add_plain]; exact h1, fun z hz => bounds_i64 (h5 z (List.mem_of_mem_take hz)), fun hp => ?_⟩
      rw [el] at hp ⊢
      cases hA : A j with
      | none => have := h6 hA; omega
      | some a' =>
        obtain ⟨_, hc⟩ := h7 a' hA
        obtain ⟨b', off', spot'⟩ := a'
        have hs : spot' = Option.none := by simpa [Addr.add] using World.cell?_spot (hc 0 (by omega))
        subst hs
        refine ⟨b', off', rfl, hlt (.cell b' off') (List.mem_append_right _ (List.mem_flatMap.2 ⟨j, List.mem_range.2 (by omega), ?_⟩)), fun i hi => ?_⟩
        · rw [hA]
          exact MemPlace.mem_row.2 ⟨0, by omega, by simp⟩
        · rw [← add_plain, hc i (by omega), List.getElem?_take_of_lt hi]
          simp [List.getD]
    · intro j hj
      obtain ⟨h1, h2, h3, h4, h5, h6, h7⟩ := hrow j (by omega)
      have e : ((List.range len).map fun r => (Z r).take (L r))[j]?.getD [] = (Z j).take (L j) := by simp [hj]
      rw [e, List.length_take, h4]
      cases hA : A j with
      | none => have := h6 hA; omega
      | some a' =>
        have hw : ((Z j).length) * Try.prog.bytesOf 3 ∈ DataW.weightsEach Try.prog (43 :: ts) (DataW.slice ((List.range len).map fun r => Go.Deep.intRow .i64 (A r) (L r) (Z r)) ((List.range (cap - len)).map fun j => Go.Deep.intRow .i64 (A (len + j)) (L (len + j)) (Z (len + j))) :: ds) := by
          refine DataW.weights_mem_each (j := 0) rfl rfl _ ?_
          simp only [DataW.weights, Try.underlying43]
          refine List.mem_cons_of_mem _ (List.mem_append_left _ (weights_mem_all (List.mem_map.2 ⟨j, List.mem_range.2 hj, rfl⟩) ?_))
          unfold Go.Deep.intRow
          rw [hA]
          simp only [DataW.weights, Try.underlying34]
          refine List.mem_cons.2 (.inl ?_)
          have hL : (lits (H := H) IntKind.i64 ((Z j).take (L j))).length + (lits (H := H) IntKind.i64 ((Z j).drop (L j))).length = (Z j).length := by simp [lits]; omega
          rw [hL]
        have hb := List.all_eq_true.1 hsz _ hw
        have h8 : Try.prog.bytesOf 3 = 8 := by kernel_rfl
        rw [h8, h4] at hb
        have hr : reachBytes ≤ 140737488355328 := by decide
        have := of_decide_eq_true hb
        omega

/-- How many elements the lists have together. -/
def tot : List (List Int) → Nat
  | [] => 0
  | z :: l => z.length + tot l
theorem tot_snoc : ∀ (l : List (List Int)) (z : List Int), tot (l ++ [z]) = tot l + z.length
  | [], z => by simp [tot]
  | y :: l, z => by rw [List.cons_append, tot, tot, tot_snoc l z]; omega
theorem tot_le (l : List (List Int)) (z : List Int) (h : z ∈ l) : z.length ≤ tot l := by
  induction l with
  | nil => cases h
  | cons y l ih =>
    rw [tot]
    rcases List.mem_cons.1 h with rfl | h
    · omega
    · have := ih h; omega
theorem take_nextI (l : List (List Int)) (i : Nat) (h : i < l.length) : l.take (i + 1) = l.take i ++ [l[i]?.getD []] := by
  rw [List.take_succ_eq_append_getElem h]; simp [h]
def encAll : List (List Int) → List Nat
  | [] => []
  | z :: l => encInts z ++ encAll l
theorem encAll_snoc : ∀ (l : List (List Int)) (z : List Int), encAll (l ++ [z]) = encAll l ++ encInts z
  | [], z => by simp [encAll]
  | y :: l, z => by rw [List.cons_append, encAll, encAll, encAll_snoc l z, List.append_assoc]
theorem encAll_append : ∀ (l m : List (List Int)), encAll (l ++ m) = encAll l ++ encAll m
  | [], m => by simp [encAll]
  | y :: l, m => by rw [List.cons_append, encAll, encAll, encAll_append l m, List.append_assoc]
theorem encInts_len (z : List Int) : (encInts z).length ≤ 10 + 10 * z.length := by
  have h1 := (Oct.enc_len (z.length : Int)).2
  have h2 := flat_len z
  rw [encInts, List.length_append]; omega
theorem encAll_len : ∀ (l : List (List Int)), (encAll l).length ≤ 10 * l.length + 10 * tot l
  | [] => by simp [encAll]
  | y :: l => by
    have h1 := encInts_len y
    have h2 := encAll_len l
    rw [encAll, tot, List.length_append, List.length_cons]; omega
theorem encAll_split (l : List (List Int)) (i : Nat) (h : i < l.length) : encAll l = encAll (l.take i) ++ (encInts (l[i]?.getD []) ++ encAll (l.drop (i + 1))) := by
  conv => lhs; rw [← List.take_append_drop i l, List.drop_eq_getElem_cons h]
  rw [encAll_append, encAll]; simp [h]
end Go.Proofs.Ytnebjihjfghlfaa
