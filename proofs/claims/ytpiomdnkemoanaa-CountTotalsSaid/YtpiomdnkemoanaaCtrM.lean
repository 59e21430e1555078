/- The sequential counter in plain mathematics. -/
import Derived.Test.YtpiomdnkemoanaaAdd
namespace Go.Proofs.Ytpiomdnkemoanaa
open Go.RowKit

/-- The register of the row before, if there is one. -/
def ab (before last i : Nat) : Int := if i < last then ((before + i : Nat) : Int) else 0
/-- The clauses of the first i registers of a row. -/
def crow (x : Int) (start before last : Nat) : Nat → List (List Int)
  | 0 => []
  | i + 1 => crow x start before last i ++ ([nz [-((start + i : Nat) : Int), ab before last i, x]] ++ (if 0 < i then [nz [-((start + i : Nat) : Int), ab before last i, ab before last (i - 1)]] else []))
/-- The first register of row r, and that of the row before. -/
def cst (k next : Nat) : Nat → Nat × Nat
  | 0 => (next, next)
  | r + 1 => ((cst k next r).1 + min (r + 1) k, (cst k next r).1)
def crows (l : List Int) (k next : Nat) : Nat → List (List Int)
  | 0 => []
  | r + 1 => crows l k next r ++ crow (l[r]?.getD 0) (cst k next r).1 (cst k next r).2 (min r k) (min (r + 1) k)
def ctr (l : List Int) (k next : Nat) : List (List Int) := crows l k next l.length ++ [nz [((cst k next l.length).1 : Int) - 1]]
theorem crow_len (x : Int) (start before last : Nat) : ∀ i, (crow x start before last i).length ≤ 2 * i
  | 0 => by simp [crow]
  | i + 1 => by
    have h := crow_len x start before last i
    rw [crow, List.length_append, List.length_append]
    split <;> simp <;> omega
theorem crows_mono (l : List Int) (k next : Nat) : ∀ (r d : Nat), (crows l k next r).length ≤ (crows l k next (r + d)).length
  | r, 0 => Nat.le_refl _
  | r, d + 1 => by
    have h := crows_mono l k next r d
    rw [show r + (d + 1) = (r + d) + 1 by omega, crows, List.length_append]
    omega
theorem cst_mono (k next : Nat) : ∀ (r d : Nat), (cst k next r).1 ≤ (cst k next (r + d)).1
  | r, 0 => Nat.le_refl _
  | r, d + 1 => by
    have h := cst_mono k next r d
    rw [show r + (d + 1) = (r + d) + 1 by omega, cst]
    show _ ≤ (cst k next (r + d)).1 + _
    omega
theorem cst_before (k next : Nat) (r : Nat) : (cst k next r).2 ≤ (cst k next r).1 := by
  cases r with
  | zero => exact Nat.le_refl _
  | succ r => show (cst k next r).1 ≤ (cst k next r).1 + _; omega

set_option maxHeartbeats 1000000 in
theorem reg_any (w : World) (g : Nat) (i s : Nat) (hg : w.cell? ⟨g, 0, none⟩ = some (.int .i64 (s : Int))) (h1 : i ≤ 100000) (h2 : s ≤ 100000) (q : Nat) (hq : s + i = q) :
    Calls Try.prog 42 #[.int .i64 (i : Int), .pointer (some ⟨g, 0, none⟩)] w fun e w' => e = .returned (.int .i64 (q : Int)) ∧ w = w' := by
  subst hq
  go_enter Try.func42, Try.ntmps42
  go_wp2
  go_ret
  exact ⟨by first | rfl | (simp), rfl⟩
set_option maxHeartbeats 1000000 in
theorem above_any (w : World) (g g2 : Nat) (i last before : Nat) (hg : w.cell? ⟨g, 0, none⟩ = some (.int .i64 (last : Int))) (hg2 : w.cell? ⟨g2, 0, none⟩ = some (.int .i64 (before : Int))) (h1 : i ≤ 100000) (h2 : before ≤ 100000) :
    Calls Try.prog 43 #[.int .i64 (i : Int), .pointer (some ⟨g, 0, none⟩), .pointer (some ⟨g2, 0, none⟩)] w fun e w' => e = .returned (.int .i64 (ab before last i)) ∧ w = w' := by
  by_cases h : i < last
  · have e : ab before last i = (before : Int) + (i : Int) := by unfold ab; rw [if_pos h]; omega
    rw [e]
    clear e
    go_enter Try.func43, Try.ntmps43
    go_wp2
    go_ret
    exact ⟨rfl, rfl⟩
  · have e : ab before last i = 0 := by unfold ab; rw [if_neg h]
    rw [e]
    clear e
    go_enter Try.func43, Try.ntmps43
    go_wp2
    go_ret
    exact ⟨rfl, rfl⟩
theorem RdI.lit (w : World) (cs : Array Value) (zs : List Int) (hb : ∀ z ∈ zs, Wf z) (h : cs = (zs.map (Value.int .i64)).toArray) : RdI (w.heap.size + 1) (w.alloc (.cells cs 3)) (some ⟨w.heap.size, 0, none⟩) zs := by
  refine ⟨hb, fun _ => ⟨w.heap.size, 0, rfl, by omega, fun j hj => ?_⟩⟩
  rw [Nat.zero_add, cell_of_row _ w.heap.size j cs 3 (0, 0) (heap_alloc_new w _), h, List.getElem?_toArray, intsAt zs j hj]
theorem CS.below {w w' : World} {g base : Nat} {cl : List (List Int)} (h : CS w g base cl) (hb : Below w.heap.size w w') : CS w' g base cl := by
  obtain ⟨v, h1, h2⟩ := h
  exact ⟨v, Boxed.lower h1 hb (Boxed.lt h1), h2.below hb⟩
theorem add_lit (X : World) (g base s : Nat) (cl : List (List Int)) (n : Nat) (cs : Array Value) (lits : List Int) (hc : CS X g base cl) (hbase : base ≤ X.heap.size) (hsb : s ≤ base) (hg : s ≤ g) (hw : ∀ z ∈ lits, Wf z) (hcs : cs = (lits.map (Value.int .i64)).toArray) (hl : lits.length = n) (hn : n ≤ 100) (hcl : cl.length ≤ 900000) :
    Calls Try.prog 41 #[.pointer (some ⟨g, 0, none⟩), .slice (some ⟨X.heap.size, 0, none⟩) n n] (X.alloc (.cells cs 3)) fun e w' => e = .returned (.tuple #[]) ∧ CS w' g base (cl ++ [nz lits]) ∧ Kx g s X w' := by
  have hb : Below X.heap.size X (X.alloc (.cells cs 3)) := (Below.refl _ X).alloc (Nat.le_refl _) _
  refine (add_any (X.alloc (.cells cs 3)) g base s cl _ n n lits (hc.below hb) (by simp; omega) hsb hg (by have := RdI.lit X cs lits hw hcs; simpa using this) hl hn hcl).mono ?_
  rintro e w' ⟨h1, h2, h3⟩
  exact ⟨h1, h2, (Kx.below hb (Nat.le_trans hsb hbase)).trans h3⟩
theorem add_litd (X : World) (g base s : Nat) (cl : List (List Int)) (n : Nat) (cs : Array Value) (lits : List Int) (hc : CS X g base cl) (hbase : base ≤ X.heap.size) (hsb : s ≤ base) (hg : s ≤ g) (hw : ∀ z ∈ lits, Wf z) (hcs : cs = (lits.map (Value.int .i64)).toArray) (hl : lits.length = n) (hn : n ≤ 100) (hcl : cl.length ≤ 900000) :
    Calls Try.prog 41 #[.pointer (some ⟨g, 0, none⟩), .slice (some ⟨X.heap.size, 0, none⟩) n n] (X.alloc (.cells cs 3)).drew fun e w' => e = .returned (.tuple #[]) ∧ CS w' g base (cl ++ [nz lits]) ∧ Kx g s X w' := by
  have hb : Below X.heap.size X (X.alloc (.cells cs 3)) := (Below.refl _ X).alloc (Nat.le_refl _) _
  have hd : CS (X.alloc (.cells cs 3)).drew g base cl := hc.below (below_drewN hb 1)
  have hr : RdI (X.alloc (.cells cs 3)).drew.heap.size (X.alloc (.cells cs 3)).drew (some ⟨X.heap.size, 0, none⟩) lits := by
    have := RdI.lit X cs lits hw hcs
    rw [← World.size_alloc X (.cells cs 3)] at this
    exact this
  refine (add_any (X.alloc (.cells cs 3)).drew g base s cl _ n n lits hd (show base ≤ (X.alloc (.cells cs 3)).heap.size by simp; omega) hsb hg hr hl hn hcl).mono ?_
  rintro e w' ⟨h1, h2, h3⟩
  exact ⟨h1, h2, ((Kx.below hb (Nat.le_trans hsb hbase)).drewN 1).trans h3⟩
/-- The cells of a counter as it begins. -/
def Wc (w : World) (next : Int) : World := ((w.alloc (.cells #[.slice Option.none 0 0] 61)).alloc (.cells #[.int .i64 next] 3)).alloc (.cells #[.int .i64 next] 3)
theorem Wc_low (w : World) (next : Int) : Below w.heap.size w (Wc w next) := (((Below.refl _ w).alloc (Nat.le_refl _) _).alloc (by simp) _).alloc (by simp; omega) _
theorem Wc_0 (w : World) (next : Int) : Boxed (Wc w next) w.heap.size 61 (.slice Option.none 0 0) := ((Boxed.new w 61 _).alloc _).alloc _
theorem Wc_1 (w : World) (next : Int) : Boxed (Wc w next) (w.heap.size + 1) 3 (.int .i64 next) := by
  have := (Boxed.new (w.alloc (.cells #[.slice Option.none 0 0] 61)) 3 (.int .i64 next)).alloc (.cells #[.int .i64 next] 3)
  rw [World.size_alloc] at this
  exact this
theorem Wc_2 (w : World) (next : Int) : Boxed (Wc w next) (w.heap.size + 1 + 1) 3 (.int .i64 next) := by
  have := Boxed.new ((w.alloc (.cells #[.slice Option.none 0 0] 61)).alloc (.cells #[.int .i64 next] 3)) 3 (.int .i64 next)
  rw [World.size_alloc, World.size_alloc] at this
  exact this
theorem Wc_size (w : World) (next : Int) : (Wc w next).heap.size = w.heap.size + 3 := by simp [Wc]
end Go.Proofs.Ytpiomdnkemoanaa
