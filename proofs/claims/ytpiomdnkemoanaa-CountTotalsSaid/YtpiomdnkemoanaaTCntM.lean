/- What a totalizer's parts are bounded by; what the recursive closure reads and writes. -/
import Derived.Test.YtpiomdnkemoanaaTMerge
namespace Go.Proofs.Ytpiomdnkemoanaa.Ttl
open Go.RowKit

theorem from_mem (m : Nat) : ∀ (n : Nat) (x : Int), x ∈ Tot.from_ m n → (m : Int) ≤ x ∧ x < ((m + n : Nat) : Int)
  | 0, x, h => by simp [Tot.from_] at h
  | n + 1, x, h => by
    rw [Tot.from_] at h
    rcases List.mem_append.1 h with h | h
    · have := from_mem m n x h; omega
    · have := List.mem_singleton.1 h; omega
theorem cnt_small {most : Nat} (l : List Int) (m : Nat) : (Tot.cnt most l m).1.length ≤ l.length := by
  by_cases h : min l.length most = 0
  · rw [Tot.cnt_none h]; simp
  · by_cases h1 : l.length = 1
    · rw [Tot.cnt_one h h1]; simp; omega
    · rw [Tot.cnt_more h h1]; simp only [Tot.from_length]; omega
theorem cnt_lits {most : Nat} (l : List Int) (m : Nat) (hl : ∀ x ∈ l, -65537 ≤ x ∧ x ≤ 65537) (hm : m + Tot.size most l.length ≤ 65537) : ∀ x ∈ (Tot.cnt most l m).1, -65537 ≤ x ∧ x ≤ 65537 := by
  by_cases h : min l.length most = 0
  · rw [Tot.cnt_none h]; simp
  · by_cases h1 : l.length = 1
    · rw [Tot.cnt_one h h1]
      intro x hx
      rw [List.mem_singleton.1 hx, List.getElem?_eq_getElem (by omega)]
      exact hl _ (List.getElem_mem _)
    · rw [Tot.cnt_more h h1]
      intro x hx
      have h2 := from_mem _ _ x hx
      rw [Tot.size_big (by omega : ¬ l.length < 2)] at hm
      omega
theorem merge_length (a b outs : List Int) (ha : a.length ≤ 4096) (hb : b.length ≤ 4096) : (Tot.merge a b outs).length ≤ 33570818 := by
  have h1 := outer_length a b outs (a.length + 1)
  have h2 := Nat.mul_le_mul (show a.length + 1 ≤ 4097 by omega) (show b.length + 1 ≤ 4097 by omega)
  unfold Tot.merge
  omega
theorem cnt_clauses {most : Nat} : ∀ (k : Nat) (l : List Int) (m : Nat), l.length ≤ k → l.length ≤ 4096 → (Tot.cnt most l m).2.length ≤ 33570818 * (l.length - 1)
  | k, l, m, hk, hl => by
    by_cases h : min l.length most = 0
    · rw [Tot.cnt_none h]; simp
    · by_cases h1 : l.length = 1
      · rw [Tot.cnt_one h h1]; simp
      · cases k with
        | zero => omega
        | succ k =>
          rw [Tot.cnt_more h h1]
          have e1 : (l.take (l.length / 2)).length = l.length / 2 := by rw [List.length_take]; omega
          have e2 : (l.drop (l.length / 2)).length = l.length - l.length / 2 := List.length_drop ..
          have i1 := cnt_clauses (most := most) k (l.take (l.length / 2)) m (by omega) (by omega)
          have i2 := cnt_clauses (most := most) k (l.drop (l.length / 2)) (m + Tot.size most (l.length / 2)) (by omega) (by omega)
          have s1 := cnt_small (most := most) (l.take (l.length / 2)) m
          have s2 := cnt_small (most := most) (l.drop (l.length / 2)) (m + Tot.size most (l.length / 2))
          have i3 := merge_length (Tot.cnt most (l.take (l.length / 2)) m).1 (Tot.cnt most (l.drop (l.length / 2)) (m + Tot.size most (l.length / 2))).1 (Tot.from_ (m + Tot.size most (l.length / 2) + Tot.size most (l.length - l.length / 2)) (min l.length most)) (by omega) (by omega)
          rw [e1] at i1
          rw [e2] at i2
          simp only [List.length_append]
          omega

/-- The cells of a totalizer: the limit, the clauses so far, the next new variable, the closure itself. -/
structure CI (d : Nat) (w : World) (s most m : Nat) (cl : List (List Int)) : Prop where
  bm : Boxed w s 3 (.int .i64 (most : Int))
  bc : CellR w (s + 4 + d) (s + 1) cl
  ba : Boxed w (s + 2) 3 (.int .i64 (m : Int))
  bf : Boxed w (s + 3 + d) 54 (.func (.func 36) #[] #[.pointer (some ⟨s, 0, none⟩), .pointer (some ⟨s + 3 + d, 0, none⟩), .pointer (some ⟨s + 2, 0, none⟩), .pointer (some ⟨s + 1, 0, none⟩)])
/-- What a call of the closure keeps: all below its cells, and the rows of integers above them. -/
structure Kp (d s : Nat) (w w' : World) : Prop where
  low : Below s w w'
  row : ∀ v zs, RowI w (s + 4 + d) v zs → RowI w' (s + 4 + d) v zs
theorem Kp.refl (d s : Nat) (w : World) : Kp d s w w := ⟨Below.refl _ _, fun _ _ h => h⟩
theorem Kp.trans {d s : Nat} {w w' w'' : World} (h : Kp d s w w') (g : Kp d s w' w'') : Kp d s w w'' := ⟨h.low.trans g.low, fun v zs q => g.row v zs (h.row v zs q)⟩
theorem Kp.drewN {d s : Nat} {w w' : World} (h : Kp d s w w') (n : Nat) : Kp d s w (w'.drewN n) := ⟨below_drewN h.low n, h.row⟩
theorem Kp.below {d s : Nat} {w w' : World} (h : Below w.heap.size w w') (hs : s ≤ w.heap.size) : Kp d s w w' := ⟨h.mono hs, fun _ _ q => q.below h⟩
theorem CI.drewN {w : World} {d s most m : Nat} {cl : List (List Int)} (h : CI d w s most m cl) (n : Nat) : CI d (w.drewN n) s most m cl := ⟨h.bm, h.bc, h.ba, h.bf⟩
theorem CI.below {w w' : World} {d s most m : Nat} {cl : List (List Int)} (h : CI d w s most m cl) (hb : Below w.heap.size w w') : CI d w' s most m cl :=
  ⟨Boxed.lower h.bm hb (Boxed.lt h.bm), h.bc.below hb, Boxed.lower h.ba hb (Boxed.lt h.ba), Boxed.lower h.bf hb (Boxed.lt h.bf)⟩
theorem CI.size {w : World} {d s most m : Nat} {cl : List (List Int)} (h : CI d w s most m cl) : s + 4 + d ≤ w.heap.size := by have := Boxed.lt h.bf; omega
/-- The next variable is raised. -/
theorem CI.next {w : World} {d s most m : Nat} {cl : List (List Int)} (h : CI d w s most m cl) (m' : Nat) : CI d (w.setCell ⟨s + 2, 0, none⟩ (.int .i64 (m' : Int))) s most m' cl :=
  ⟨h.bm.other (by omega) _, h.bc.stored (by omega) (by omega), h.ba.set _, h.bf.other (by omega) _⟩
theorem Kp.next {d s : Nat} (w : World) (u : Value) : Kp d s w (w.setCell ⟨s + 2, 0, none⟩ u) := ⟨(Below.refl s w).setCell (p := ⟨s + 2, 0, none⟩) (by simp) _, fun _ _ q => q.stored (by omega)⟩

/-- What the closure answers. -/
def CntAns (d : Nat) (w : World) (s most : Nat) (zs : List Int) (m : Nat) (cl : List (List Int)) (e : Ending) (w' : World) : Prop :=
  ∃ v, e = .returned v ∧ RowI w' (s + 4 + d) v (Tot.cnt most zs m).1 ∧ CI d w' s most (m + Tot.size most zs.length) (cl ++ (Tot.cnt most zs m).2) ∧ Kp d s w w'

theorem cnt_none_any (A : Option Addr) (d s most m n c : Nat) (zs : List Int) (cl : List (List Int)) (w : World) (h : CI d w s most m cl) (hl : zs.length = n) (hn : n ≤ 4096) (h0 : min n most = 0) (hmost : most ≤ 1099511627776) :
    Calls Try.prog 36 #[.slice A n c, .pointer (some ⟨s, 0, none⟩), .pointer (some ⟨s + 3 + d, 0, none⟩), .pointer (some ⟨s + 2, 0, none⟩), .pointer (some ⟨s + 1, 0, none⟩)] w (CntAns d w s most zs m cl) := by
  have hz : Tot.size most n = 0 := by
    rcases (show n = 0 ∨ most = 0 by omega) with h | h
    · exact Tot.size_small (by omega)
    · subst h
      have : ∀ k n, n ≤ k → Tot.size 0 n = 0 := by
        intro k
        induction k with
        | zero => intro n h; exact Tot.size_small (by omega)
        | succ k ih =>
          intro n h
          by_cases h2 : n < 2
          · exact Tot.size_small h2
          · rw [Tot.size_big h2, ih _ (by omega), ih _ (by omega)]; omega
      exact this n n (Nat.le_refl _)
  have hc := Tot.cnt_none (most := most) (l := zs) (m := m) (by rw [hl]; exact h0)
  have hpost : CntAns d w s most zs m cl (.returned (.slice Option.none 0 0)) w := by
    unfold CntAns
    rw [hc, hl, hz]
    exact ⟨_, rfl, RowI.empty _ _, by simpa using h, Kp.refl _ _ _⟩
  have Hpost := Lib.hid hpost
  have hcm := h.bm.cell
  clear hpost hc hz hl
  rcases (show n = 0 ∨ most = 0 by omega) with h1 | h1
  · subst h1
    go_enter Try.func36, Try.ntmps36
    go_wp2
    all_goals
      go_ret
      exact Hpost.out
  · subst h1
    go_enter Try.func36, Try.ntmps36
    go_wp2
    all_goals
      go_ret
      exact Hpost.out
theorem cnt_one_any (B : Nat) (A : Option Addr) (d s most m c : Nat) (zs : List Int) (cl : List (List Int)) (w : World) (h : CI d w s most m cl) (hr : RdI B w A zs) (hl : zs.length = 1) (h0 : 1 ≤ most) (hmost : most ≤ 1099511627776) :
    Calls Try.prog 36 #[.slice A 1 c, .pointer (some ⟨s, 0, none⟩), .pointer (some ⟨s + 3 + d, 0, none⟩), .pointer (some ⟨s + 2, 0, none⟩), .pointer (some ⟨s + 1, 0, none⟩)] w (CntAns d w s most zs m cl) := by
  have hc := Tot.cnt_one (most := most) (l := zs) (m := m) (by omega) hl
  have hz := Tot.size_small (most := most) (n := 1) (by omega)
  obtain ⟨b, off, rfl, _, hcell⟩ := hr.2 (by omega)
  have hck := hcell 0 (by omega)
  have hwf := hr.wf (j := 0) (by omega)
  have hsz := h.size
  have hbel : Below w.heap.size w (w.alloc (.cells #[.int .i64 (zs[0]?.getD 0)] 3)) := (Below.refl _ _).alloc (Nat.le_refl _) _
  have hrow : RowI (w.alloc (.cells #[.int .i64 (zs[0]?.getD 0)] 3)) (s + 4 + d) (.slice (some ⟨w.heap.size, 0, none⟩) 1 1) [zs[0]?.getD 0] := by
    refine ⟨fun x hx => by rw [List.mem_singleton.1 hx]; exact hwf, ?_⟩
    have := World.ownsRow_lit (base := s + 4 + d) (e := 3) (size := 1) w #[Value.int .i64 (zs[0]?.getD 0)] 1 hsz (by unfold maxLen; omega) (by simp)
    simpa using this
  have hpost : CntAns d w s most zs m cl (.returned (.slice (some ⟨w.heap.size, 0, none⟩) 1 1)) (w.alloc (.cells #[.int .i64 (zs[0]?.getD 0)] 3)) := by
    unfold CntAns
    rw [hc, hl, hz]
    exact ⟨_, rfl, hrow, by simpa using h.below hbel, Kp.below hbel (by omega)⟩
  have Hpost := Lib.hid hpost
  have hcm := h.bm.cell
  rw [Nat.add_zero] at hck
  clear hpost hrow hbel hc hz hl hcell
  generalize zs[0]?.getD 0 = x at *
  go_enter Try.func36, Try.ntmps36
  go_wp2
  all_goals
    go_ret
    exact Hpost.out
end Go.Proofs.Ytpiomdnkemoanaa.Ttl
