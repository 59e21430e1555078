/- What a law's constraint is known to be; few; the normal form of any constraint. -/
import Derived.Test.YtoacfjmefoiflaaLive
import Derived.Lib.SmallJoins
namespace Go.Proofs.Ytoacfjmefoiflaa
open Go.ChangeShapes Go.WideShapes Go.ChangeAt Go.RowKit
set_option maxRecDepth 100000

theorem few_any (AC AL : Option Addr) (n1 n2 cc lc : Nat) (k : Int) (w : World) : Calls Try.prog 13 #[.agg #[.slice AC n1 cc, .slice AL n2 lc, .int .i64 k]] w fun e w' => e = .returned (.bool (decide (n1 ≤ 60 ∧ n2 ≤ 60))) ∧ Below w.heap.size w w' := by
  have hb : Below w.heap.size w (w.alloc (.cells #[.slice AC n1 cc, .slice AL n2 lc, .int .i64 k] 24)) := (Below.refl _ _).alloc (Nat.le_refl _) _
  have hat : LinAt (w.alloc (.cells #[.slice AC n1 cc, .slice AL n2 lc, .int .i64 k] 24)) w.heap.size (.slice AC n1 cc) (.slice AL n2 lc) k 24 := heap_alloc_new _ _
  obtain ⟨cC, cL, cK⟩ := hat.cells
  have HB := Lib.hid hb
  clear hb hat
  by_cases h1 : n2 ≤ 60
  · by_cases h2 : n1 ≤ 60
    · rw [decide_eq_true (And.intro h2 h1)]
      have f1 : decide ((n2 : Int) ≤ 60) = true := decide_eq_true (by omega)
      have f2 : decide ((n1 : Int) ≤ 60) = true := decide_eq_true (by omega)
      go_enter Try.func13, Try.ntmps13
      go_wp2_with fail
      go_ret
      exact ⟨rfl, HB.out⟩
    · rw [decide_eq_false (fun h => h2 h.1)]
      have f1 : decide ((n2 : Int) ≤ 60) = true := decide_eq_true (by omega)
      have f2 : decide ((n1 : Int) ≤ 60) = false := decide_eq_false (by omega)
      have f3 : decide (n1 ≤ 60) = false := decide_eq_false h2
      go_enter Try.func13, Try.ntmps13
      go_wp2_with fail
      go_ret
      exact ⟨rfl, HB.out⟩
  · rw [decide_eq_false (fun h => h1 h.2)]
    have f1 : decide ((n2 : Int) ≤ 60) = false := decide_eq_false (by omega)
    have f3 : decide (n2 ≤ 60) = false := decide_eq_false h1
    go_enter Try.func13, Try.ntmps13
    go_wp2_with fail
    go_ret
    exact ⟨rfl, HB.out⟩

/-- A slice of integers that stands in a struct. -/
theorem open_intcell {H : Type} {enc : TypeId × Value → H} {W : World} {v : Value} {y : DataW H × List MemPlace} {m : Nat} (h : DataW.trod enc Try.prog W 0 (fun _ => true) true m 22 [v] = some y)
    (hlt : ∀ x ∈ y.2, x.block < W.heap.size) :
    ∃ A len cap zs, v = .slice A len cap ∧ RdI W.heap.size W A zs ∧ zs.length = len ∧ len ≤ cap ∧ cap ≤ maxLen ∧ (A = Option.none → cap = 0) := by
  obtain ⟨a0, len, cap, e⟩ := Joins.slice_form underlying22 h
  injection e with e _
  subst e
  obtain ⟨d, p⟩ := y
  rcases open_ints underlying22 underlying3' Try_cells3 h with ⟨hcs, hx⟩ | ⟨a, len', cap', zs, hcs, _, hl, hm, hz, hx, hcell, hwz⟩
  · simp at hcs
    obtain ⟨rfl, rfl, rfl⟩ := hcs
    exact ⟨_, _, _, [], rfl, RdI.nil _ _ _, rfl, Nat.le_refl _, Nat.zero_le _, fun _ => rfl⟩
  · simp at hcs
    obtain ⟨rfl, rfl, rfl⟩ := hcs
    simp only [Prod.mk.injEq] at hx
    obtain ⟨rfl, rfl⟩ := hx
    simp only [if_true] at hz
    have hlen : (zs.take len).length = len := by simp; omega
    refine ⟨some a, len, cap, zs.take len, rfl, ⟨fun z hz1 => ?_, fun hn => ?_⟩, hlen, hl, hm, by intro e; cases e⟩
    · have := bounds_i64 (hwz z (List.mem_of_mem_take hz1))
      exact this
    · rw [hlen] at hn
      obtain ⟨b, off, spot⟩ := a
      have hspot : spot = Option.none := by simpa [Addr.add] using World.cell?_spot (hcell 0 (by omega))
      subst hspot
      refine ⟨b, off, rfl, hlt (.cell b off) (MemPlace.mem_row.2 ⟨0, by omega, by simp⟩), fun j hjl => ?_⟩
      rw [hlen] at hjl
      rw [← add_plain, hcell j (by omega), List.getElem?_take_of_lt hjl]
      simp [List.getD]
/-- A constraint that comes in. -/
theorem open_lin {H : Type} {enc : TypeId × Value → H} {W : World} {base : Nat} {v : Value} {d : DataW H} {p : List MemPlace} (hval : Value.okWide Try.prog W .any base 24 v) (h : DataW.Trod enc Try.prog W 0 (fun _ => true) true 24 v d p)
    (hlt : ∀ x ∈ p, x.block < W.heap.size) :
    ∃ AC n1 cc AL n2 lc k cs zs, v = .agg #[.slice AC n1 cc, .slice AL n2 lc, .int .i64 k] ∧ RdI W.heap.size W AC cs ∧ RdI W.heap.size W AL zs ∧ cs.length = n1 ∧ zs.length = n2 ∧ n1 ≤ maxLen ∧ n2 ≤ maxLen ∧ (AC = Option.none → cc = 0) ∧ (AL = Option.none → lc = 0) ∧ Wf k := by
  obtain ⟨c0, c1, c2, y0, y1, y2, m, rfl, rfl, rfl, hy0, hy1, hy2⟩ := Joins.open_agg3 Try.underlying24 (by kernel_rfl) (by kernel_rfl) hval h
  obtain ⟨k, e2, _, hwk⟩ := DataW.trod_int underlying3' hy2
  injection e2 with e2 _
  subst e2
  obtain ⟨AC, n1, cc, cs, rfl, r1, l1, q1, q2, q3⟩ := open_intcell hy0 (fun x hx => hlt x (List.mem_append_left _ hx))
  obtain ⟨AL, n2, lc, zs, rfl, r2, l2, s1, s2, s3⟩ := open_intcell hy1 (fun x hx => hlt x (List.mem_append_right _ (List.mem_append_left _ hx)))
  exact ⟨AC, n1, cc, AL, n2, lc, k, cs, zs, rfl, r1, r2, l1, l2, by omega, by omega, q3, s3, bounds_i64 hwk⟩


def mC (cs ls : List Int) (k : Int) : List Int := if OkL cs ls k 65536 then nC cs ls k else []
def mL (cs ls : List Int) (k : Int) : List Int := if OkL cs ls k 65536 then nL cs ls k else []
def mK (cs ls : List Int) (k : Int) : Int := if OkL cs ls k 65536 then nK cs ls k else 0
theorem OkL.cs {cs ls : List Int} {k N : Int} (h : OkL cs ls k N) : ∀ c ∈ cs, -1099511627776 ≤ c ∧ c ≤ 1099511627776 := fun c hc => by
  obtain ⟨j, hj, rfl⟩ := List.mem_iff_getElem.1 hc
  have := (h.2.2.2.2 j (by have := h.2.2.1; omega)).1
  rw [List.getElem?_eq_getElem hj, Option.getD_some] at this
  unfold numB at this
  simpa using this
theorem OkL.ls {cs ls : List Int} {k N : Int} (h : OkL cs ls k N) : ∀ z ∈ ls, z ≠ 0 ∧ -N ≤ z ∧ z ≤ N := fun z hz => by
  obtain ⟨j, hj, rfl⟩ := List.mem_iff_getElem.1 hz
  have := (h.2.2.2.2 j hj).2
  rw [List.getElem?_eq_getElem hj, Option.getD_some] at this
  exact litB_bound this
theorem OkL.kb {cs ls : List Int} {k N : Int} (h : OkL cs ls k N) : -1099511627776 ≤ k ∧ k ≤ 1099511627776 := by
  have := h.2.2.2.1
  unfold numB at this
  simpa using this
theorem OkL.up {cs ls : List Int} {k N : Int} (h : OkL cs ls k N) : OkL cs ls k 65536 := by
  obtain ⟨h1, h2, h3, h4, h5⟩ := h
  refine ⟨by omega, by omega, h3, h4, fun j hj => ⟨(h5 j hj).1, ?_⟩⟩
  obtain ⟨a, b, c⟩ := litB_bound (h5 j hj).2
  unfold litB
  rw [decide_eq_true a, decide_eq_true (by omega), decide_eq_true (by omega)]
  rfl
theorem canon_m (cs ls : List Int) (k : Int) (hn : ls.length ≤ 64) : Canon (mC cs ls k) (mL cs ls k) (mK cs ls k) 65536 140737488355328 := by
  unfold mC mL mK
  by_cases h : OkL cs ls k 65536
  · rw [if_pos h, if_pos h, if_pos h]
    exact canon cs ls k 65536 h.2.2.1 hn h.cs h.ls
  · rw [if_neg h, if_neg h, if_neg h]
    exact ⟨rfl, by simp, by simp, by simp, fun _ => .inl rfl, fun h => absurd rfl h, by simp⟩
theorem mC_len (cs ls : List Int) (k : Int) : (mC cs ls k).length ≤ ls.length := by
  unfold mC
  split
  · exact norm_len cs ls k
  · simp
/-- What lin.Norm answers. -/
theorem norm_all (B n1 n2 cc lc : Nat) (AC AL : Option Addr) (k : Int) (cs ls : List Int) (w : World) (hc : RdI B w AC cs) (hr : RdI B w AL ls) (hB : B ≤ w.heap.size) (hcl : cs.length = n1) (hl : ls.length = n2) (hn : n2 ≤ 64) :
    Calls Try.prog 15 #[.agg #[.slice AC n1 cc, .slice AL n2 lc, .int .i64 k]] w fun e w' => ∃ A1 c1 A2 c2, e = .returned (.agg #[.slice A1 (mC cs ls k).length c1, .slice A2 (mL cs ls k).length c2, .int .i64 (mK cs ls k)]) ∧
      RdI w'.heap.size w' A1 (mC cs ls k) ∧ RdI w'.heap.size w' A2 (mL cs ls k) ∧ (A1 = Option.none → c1 = 0) ∧ (A2 = Option.none → c2 = 0) ∧ Below w.heap.size w w' := by
  unfold mC mL mK
  by_cases h : OkL cs ls k 65536
  · rw [if_pos h, if_pos h, if_pos h]
    obtain rfl : n1 = n2 := by have := h.2.2.1; omega
    refine (norm_fn B n1 cc lc AC AL k cs ls w hc hr hB hcl hl hn h).mono ?_
    rintro e w' ⟨A1, c1, A2, c2, rfl, q1, q2, _, hb⟩
    obtain ⟨_, _, x1, _, rd1⟩ := q1.shape
    obtain ⟨_, _, x2, _, rd2⟩ := q2.shape
    injection x1 with x1
    injection x2 with x2
    subst x1
    subst x2
    exact ⟨_, c1, _, c2, rfl, rd1, rd2, q1.nocap, q2.nocap, hb⟩
  · rw [if_neg h, if_neg h, if_neg h]
    refine (norm_bad B n1 n2 cc lc AC AL k cs ls w hc hr hB hcl hl hn h).mono ?_
    rintro e w' ⟨rfl, hb⟩
    exact ⟨_, 0, _, 0, rfl, RdI.nil _ _ _, RdI.nil _ _ _, fun _ => rfl, fun _ => rfl, hb⟩
end Go.Proofs.Ytoacfjmefoiflaa
