/- The reference: its state of two cells, what its functions keep, the number of variables, the check of the literals. -/
import Derived.Test.YtppgpafnifmmfaaOpenB
namespace Go.Proofs.Ytppgpafnifmmfaa
open Go.ChangeShapes Go.WideShapes Go.ChangeAt Go.RowKit

/-- A block of a state: the clauses' row, the next variable. -/
def Two (w : World) (g : Nat) (v : Value) (m : Int) : Prop := w.heap[g]? = some (.cells #[v, .int .i64 m] 51 (0, 0))
theorem Two.lt {w : World} {g : Nat} {v : Value} {m : Int} (h : Two w g v m) : g < w.heap.size := (Array.getElem?_eq_some_iff.1 h).1
theorem Two.new (w : World) (v : Value) (m : Int) : Two (w.alloc (.cells #[v, .int .i64 m] 51)) w.heap.size v m := heap_alloc_new w _
theorem Two.c0 {w : World} {g : Nat} {v : Value} {m : Int} (h : Two w g v m) : w.cell? ⟨g, 0, none⟩ = some v := by rw [cell_of_row w g 0 _ 51 (0, 0) h]; rfl
theorem Two.c1 {w : World} {g : Nat} {v : Value} {m : Int} (h : Two w g v m) : w.cell? ⟨g, 1, none⟩ = some (.int .i64 m) := by rw [cell_of_row w g 1 _ 51 (0, 0) h]; rfl
theorem Two.fr {w : World} {g : Nat} {v : Value} {m : Int} (h : Two w g v m) (j : Nat) : w.frozen? ⟨g, j, none⟩ = false := frozen_of_row w g j _ 51 h
theorem Two.set0 {w : World} {g : Nat} {v : Value} {m : Int} (h : Two w g v m) (u : Value) : Two (w.setCell ⟨g, 0, none⟩ u) g u m := heap_setCell_same w g 0 _ 51 u h
theorem Two.set1 {w : World} {g : Nat} {v : Value} {m : Int} (h : Two w g v m) (m' : Int) : Two (w.setCell ⟨g, 1, none⟩ (.int .i64 m')) g v m' := heap_setCell_same w g 1 _ 51 _ h
theorem Two.other {w : World} {g g' j : Nat} {v u : Value} {m : Int} (h : Two w g v m) (hne : g ≠ g') : Two (w.setCell ⟨g', j, none⟩ u) g v m := (heap_setCell_other w ⟨g', j, none⟩ g u hne).trans h
theorem Two.alloc {w : World} {g : Nat} {v : Value} {m : Int} (h : Two w g v m) (o : Obj) : Two (w.alloc o) g v m := (heap_alloc_old w o h.lt).trans h
theorem Two.below {B : Nat} {w w' : World} {g : Nat} {v : Value} {m : Int} (h : Two w g v m) (hb : Below B w w') (hg : g < B) : Two w' g v m := (hb.block g hg).trans h
theorem Two.grown {w w' : World} {g : Nat} {v : Value} {m : Int} {row : Option Nat} (h : Two w g v m) (hg : w.grownBy w' row) (hne : some g ≠ row) : Two w' g v m := (hg.block g h.lt hne).trans h
theorem Two.off {w : World} {g : Nat} {v : Value} {m : Int} (h : Two w g v m) {t : TypeId} (ht : 51 ≠ t) : Off t w (some g) := by
  intro r hr cs h2
  injection hr with hr; subst hr
  unfold Two at h
  rw [h] at h2; injection h2 with h2; injection h2 with _ h3
  exact ht h3
theorem Two.not_own {w : World} {g : Nat} {v u : Value} {m : Int} {base e size n : Nat} {xs : List Value} (h : Two w g v m) (ho : w.ownsRow base e size u n xs) (he : e ≠ 51) : some g ≠ u.ownBlock := by
  intro q
  exact off_own (t := 51) ho he g q.symm _ h
/-- What the reference's functions keep: all below s, the rows of integers above it, the states. -/
structure Kr (s : Nat) (w w' : World) : Prop where
  low : Below s w w'
  row : ∀ v zs, RowI w s v zs → RowI w' s v zs
  two : ∀ g v m, Two w g v m → Two w' g v m
theorem Kr.refl (s : Nat) (w : World) : Kr s w w := ⟨Below.refl _ _, fun _ _ h => h, fun _ _ _ h => h⟩
theorem Kr.trans {s : Nat} {w w' w'' : World} (h : Kr s w w') (g : Kr s w' w'') : Kr s w w'' := ⟨h.low.trans g.low, fun v zs q => g.row v zs (h.row v zs q), fun b v m q => g.two b v m (h.two b v m q)⟩
theorem Kr.below {s : Nat} {w w' : World} (h : Below w.heap.size w w') (hs : s ≤ w.heap.size) : Kr s w w' := ⟨h.mono hs, fun _ _ q => q.below h, fun _ _ _ q => q.below h q.lt⟩
theorem Kr.drewN {s : Nat} {w w' : World} (h : Kr s w w') (n : Nat) : Kr s w (w'.drewN n) := ⟨below_drewN h.low n, h.row, h.two⟩
theorem RowI.rd {w : World} {base n c : Nat} {A : Option Addr} {zs : List Int} (h : RowI w base (.slice A n c) zs) : RdI w.heap.size w A zs := by
  obtain ⟨A', c', e, _, _, hr⟩ := h.shape
  injection e with e1 _ _
  rw [e1]; exact hr
/-- A clause is put behind the clauses of a state. -/
theorem wpList_push_row {ops : Array Oper} {rest : List Oper} {o : Oper} {a : Act} {Q : Exit → Act → World → Prop} {w : World} (hgd : o.guard = none) (s x : Operand)
    (ho : o.op = .call { callee := .builtin .append, args := #[s, x], argTypes := #[24, 24] }) (base : Nat) (v : Value) (vs : List Value) (cl : List (List Int)) (hs : a.eval s = v) (hown : w.ownsRow base 22 1 v vs.length vs) (hels : Els w base vs cl) (u : Value) (zs : List Int) (hu : RowI w base u zs)
    (hx : a.eval x = .slice (some ⟨w.heap.size, 0, none⟩) 1 1) (hlen : vs.length ≤ 1000000) (hbase : base ≤ w.heap.size)
    (h : ∀ v' vs' w', w'.ownsRow base 22 1 v' vs'.length vs' → Els w' base vs' (cl ++ [zs]) → Kr base w w' → wpList Try.prog ops Q rest (a.put o.dst v') w') : wpList Try.prog ops Q (o :: rest) a (w.alloc (.cells #[u] 22)) := by
  obtain ⟨i0, hi, hz0, hz1, hz2⟩ := info_parts info22
  have hown1 := hown.alloc (.cells #[u] 22)
  have hone : u.oneCell' = true := (Els.one' hu).one u (by simp)
  refine wpList_append_own _ hgd s x 24 ho base 22 i0 (.slice Option.none 0 0) 1 24 underlying24 hi hz0 hz1 hz2 rfl (by decide) v vs.length _ hs hown1 ⟨w.heap.size, 0, none⟩ 1 1 [u] hx rfl (cell_one_new _ _ _) (by intro q hq; rw [List.mem_singleton.1 hq]; exact hone) (by unfold maxLen; omega) (by omega) (by simp; omega) ?_
  intro v' w' hown' hg _
  have hel : Els w' base (vs ++ [u]) (cl ++ [zs]) := ((hels.append (Els.one' hu)).alloc _).apart hg (off_own hown1 (by decide))
  refine h v' (vs ++ [u]) w' (by rw [List.length_append]; exact hown') hel ⟨((Below.refl base w).alloc hbase _).grown hg (by simp; omega) (fun k hk => (hown1.lt k hk).1), fun q ys hq => (hq.alloc _).apart hg (off_own hown1 (by decide)), fun g q m hq => (hq.alloc _).grown hg ((hq.alloc _).not_own hown1 (by decide))⟩

set_option maxHeartbeats 1000000 in
theorem vars_any : ∀ (k n most : Nat) (w : World), n ≤ k → 1 ≤ n → n ≤ 4096 → most ≤ 1099511627776 → Calls Try.prog 26 #[.int .i64 (n : Int), .int .i64 (most : Int)] w fun e w' => e = .returned (.int .i64 (Tot.size most n : Nat)) ∧ w = w' := by
  intro k
  induction k with
  | zero => intro n most w h1 h2; omega
  | succ k ih =>
    intro n most w h1 hp h2 h3
    by_cases h0 : n = 1
    · subst h0
      have hs := Tot.size_small (most := most) (n := 1) (by omega)
      rw [hs]
      go_enter Try.func26, Try.ntmps26
      go_wp2
      go_ret
      exact ⟨rfl, rfl⟩
    · have hs := Tot.size_big (most := most) (n := n) (by omega)
      have i1 := ih (n / 2) most w (by omega) (by omega) (by omega) h3
      have i2 := ih (n - n / 2) most w (by omega) (by omega) (by omega) h3
      rw [hs]
      have b1 := size_small_le most (n / 2) (by omega)
      have b2 := size_small_le most (n - n / 2) (by omega)
      clear hs ih
      have d1 : ((n / 2 : Nat) : Int) = (n : Int) / 2 := by omega
      have d2 : ((n - n / 2 : Nat) : Int) = (n : Int) - (n : Int) / 2 := by omega
      have d0 : ((n : Int) == 1) = false := beq_eq_false_iff_ne.mpr (by omega)
      rw [d1] at i1
      rw [d2] at i2
      generalize Tot.size most (n / 2) = s1 at *
      generalize Tot.size most (n - n / 2) = s2 at *
      clear d1 d2
      go_enter Try.func26, Try.ntmps26
      go_wp2_with fail
      refine i1.mono ?_
      rintro e w' ⟨rfl, rfl⟩
      go_wp2_with fail
      refine i2.mono ?_
      rintro e w' ⟨rfl, rfl⟩
      go_wp2
      all_goals
        go_ret
        exact ⟨ret_int (by omega), rfl⟩
end Go.Proofs.Ytppgpafnifmmfaa
