/- Assignments: slices and rows of bools, what cnf.Holds answers. -/
import Derived.Test.YtpeklcbjhkchlaaLaw
namespace Go.Proofs.Ytpeklcbjhkchlaa
open Go.ChangeShapes Go.WideShapes Go.ChangeAt Go.RowKit
set_option maxRecDepth 20000

/-- A slice at A reads as these bools, in a block below B. -/
def RdB (B : Nat) (w : World) (A : Option Addr) (bs : List Bool) : Prop :=
  0 < bs.length → ∃ b off, A = some ⟨b, off, none⟩ ∧ b < B ∧ ∀ j, j < bs.length → w.cell? ⟨b, off + j, none⟩ = some (.bool (bs[j]?.getD false))
theorem RdB.below {B B' : Nat} {w w' : World} {A : Option Addr} {bs : List Bool} (h : RdB B w A bs) (hb : Below B' w w') (hB : B ≤ B') : RdB B w' A bs := by
  intro hn
  obtain ⟨b, off, rfl, hbl, hcell⟩ := h hn
  exact ⟨b, off, rfl, hbl, fun j hj => (hb.cell (p := ⟨b, off + j, none⟩) (by show b < B'; omega)).trans (hcell j hj)⟩
theorem RdB.more {B B' : Nat} {w : World} {A : Option Addr} {bs : List Bool} (h : RdB B w A bs) (hB : B ≤ B') : RdB B' w A bs := by
  intro hn
  obtain ⟨b, off, rfl, hbl, hcell⟩ := h hn
  exact ⟨b, off, rfl, by omega, hcell⟩
theorem RdB.drewN {B : Nat} {w : World} {A : Option Addr} {bs : List Bool} (h : RdB B w A bs) (n : Nat) : RdB B (w.drewN n) A bs := h
/-- Whether a literal is true. -/
def tv (bs : List Bool) (x : Int) : Bool := if x < 0 then !(bs[(-x).toNat]?.getD false) else bs[x.toNat]?.getD false
theorem tv_pos (bs : List Bool) (k : Nat) : tv bs (k : Int) = bs[k]?.getD false := by unfold tv; rw [if_neg (by omega), Int.toNat_natCast]
theorem tv_neg (bs : List Bool) (k : Nat) (h : 1 ≤ k) : tv bs (-(k : Int)) = !(bs[k]?.getD false) := by unfold tv; rw [if_pos (by omega), Int.neg_neg, Int.toNat_natCast]
theorem tv_not (bs : List Bool) (x : Int) (h : x ≠ 0) : tv bs (-x) = !tv bs x := by
  rcases (show x < 0 ∨ 0 < x by omega) with h1 | h1
  · unfold tv; rw [if_neg (by omega), if_pos h1, Bool.not_not]
  · unfold tv; rw [if_pos (by omega), if_neg (by omega), Int.neg_neg]
theorem Lit.two {v : Nat} {x : Int} (h : Lit v x) : ∃ k : Nat, 1 ≤ k ∧ k < v ∧ (x = (k : Int) ∨ x = -(k : Int)) := by
  obtain ⟨a, b, c⟩ := h
  rcases (show x < 0 ∨ 0 < x by omega) with h1 | h1
  · obtain ⟨k, hk⟩ := Int.eq_ofNat_of_zero_le (show 0 ≤ -x by omega)
    exact ⟨k, by omega, by omega, .inr (by omega)⟩
  · obtain ⟨k, hk⟩ := Int.eq_ofNat_of_zero_le (show 0 ≤ x by omega)
    exact ⟨k, by omega, by omega, .inl (by omega)⟩

/-- How many of these literals are true. -/
def ct (bs : List Bool) (l : List Int) : Nat := (l.filter (tv bs)).length
theorem ct_le (bs : List Bool) (l : List Int) : ct bs l ≤ l.length := List.length_filter_le _ _
theorem ct_take (bs : List Bool) (l : List Int) (j : Nat) (h : j < l.length) : ct bs (l.take (j + 1)) = ct bs (l.take j) + if tv bs (l[j]?.getD 0) then 1 else 0 := by
  unfold ct
  rw [List.take_add_one, List.getElem?_eq_getElem h]
  simp only [Option.toList_some, List.filter_append, List.length_append, Option.getD_some]
  congr 1
  by_cases h2 : tv bs l[j] = true
  · rw [List.filter_cons_of_pos h2, if_pos h2]; rfl
  · rw [List.filter_cons_of_neg h2, if_neg h2]; rfl

/-- The clause's closure, at one literal. -/
theorem holds_lit (B g : Nat) (A : Option Addr) (v n c : Nat) (bs : List Bool) (x : Int) (w : World) (hg : w.cell? ⟨g, 0, none⟩ = some (.slice A n c)) (hr : RdB B w A bs) (hl : bs.length = n) (hx : Lit v x) (hv : v ≤ n) (hv2 : v ≤ 65537) (hn : n ≤ 65538) :
    Calls Try.prog 42 #[.int .i64 x, .pointer (some ⟨g, 0, none⟩)] w fun e w' => e = .returned (.bool (tv bs x)) ∧ w = w' := by
  obtain ⟨k, h1, h2, hk⟩ := hx.two
  obtain ⟨b, off, rfl, _, hc⟩ := hr (by omega)
  have hc1 := hc k (by omega)
  have hM := Lib.hid (fun W => literal_any 65537 x 65536 W (hx.mono hv2) (by omega) (by omega) (by omega))
  clear hc hr hx
  rcases hk with rfl | rfl
  · rw [tv_pos]
    generalize bs[k]?.getD false = z at *
    have e1 : max (k : Int) (-(k : Int)) = (k : Int) := by omega
    have e2 : decide (0 < k) = true := decide_eq_true (by omega)
    have e3 : decide ((k : Int) < (n : Int)) = true := decide_eq_true (by omega)
    go_enter Try.func42, Try.ntmps42
    go_wp2_with fail
    refine (hM.out _).mono ?_
    rintro e w' ⟨rfl, rfl⟩
    go_wp2_with fail
    go_ret
    exact ⟨by cases z <;> rfl, rfl⟩
  · rw [tv_neg _ _ h1]
    generalize bs[k]?.getD false = z at *
    have e1 : max (-(k : Int)) (k : Int) = (k : Int) := by omega
    have e2 : decide ((k : Int) < 0) = false := decide_eq_false (by omega)
    have e3 : decide ((k : Int) < (n : Int)) = true := decide_eq_true (by omega)
    go_enter Try.func42, Try.ntmps42
    go_wp2_with fail
    refine (hM.out _).mono ?_
    rintro e w' ⟨rfl, rfl⟩
    go_wp2_with fail
    go_ret
    exact ⟨by cases z <;> rfl, rfl⟩

theorem any_take {α : Type} (f : α → Bool) (l : List α) (j : Nat) (h : j < l.length) : (l.take (j + 1)).any f = ((l.take j).any f || f l[j]) := by
  rw [List.take_add_one, List.getElem?_eq_getElem h, List.any_append]; simp
theorem any_get {α : Type} (f : α → Bool) (l : List α) (j : Nat) (h : j < l.length) (hf : f l[j] = true) : l.any f = true := List.any_eq_true.2 ⟨_, List.getElem_mem h, hf⟩

set_option maxHeartbeats 2000000 in
theorem Index_any (B C g : Nat) (A D : Option Addr) (v m d n c : Nat) (zs : List Int) (bs : List Bool) (w : World) (hg : w.cell? ⟨g, 0, none⟩ = some (.slice A n c)) (hz : RdI C w D zs) (hm : zs.length = m) (hm2 : m ≤ maxLen) (hr : RdB B w A bs) (hl : bs.length = n) (hx : ∀ x ∈ zs, Lit v x) (hv : v ≤ n) (hv2 : v ≤ 65537) (hn : n ≤ 65538) :
    Calls Try.prog 57 #[.slice D m d, .func (.func 42) #[] #[.pointer (some ⟨g, 0, none⟩)]] w fun e w' => ∃ r : Int, e = .returned (.int .i64 r) ∧ decide (0 ≤ r) = zs.any (tv bs) ∧ w = w' := by
  have Hl := Lib.hid hm
  have Hx := Lib.hid hx
  have Hall := fun x => Lib.hid (fun h => holds_lit B g A v n c bs x w hg hr hl h hv hv2 hn)
  have hct : (zs.take m).any (tv bs) = zs.any (tv bs) := by rw [← hm, List.take_length]
  have Hct := Lib.hid hct
  have hm2 : m ≤ 9223372036854775807 := by unfold maxLen at hm2; omega
  clear hm hx hl hct hg hr
  go_enter Try.func57, Try.ntmps57
  go_wp2
  go_loopw [5, 8] (fun _ i wr => ∃ j : Nat, j ≤ m ∧ i = .int .i64 j ∧ (zs.take j).any (tv bs) = false ∧ w = wr) (fun _ i _ => m - (intOf i).toNat)
  case atStart => exact ⟨0, by omega, rfl, by simp, rfl⟩
  case round =>
    obtain ⟨j, hj, rfl, hno, rfl⟩ := hrel
    by_cases hlt : j < m
    · have hjo : j < zs.length := by rw [Hl.out]; exact hlt
      have hnext := any_take (tv bs) zs j hjo
      rw [hno, Bool.false_or] at hnext
      have hyes := any_get (tv bs) zs j hjo
      obtain ⟨b, off, rfl, _, hc⟩ := hz.2 (by omega)
      have hc1 := hc j hjo
      rw [List.getElem?_eq_getElem hjo] at hc1
      have hL := (Hall zs[j]).out (Hx.out _ (List.getElem_mem _))
      clear hc hz hno
      generalize zs[j] = x at *
      clear hjo
      rw [Option.getD_some] at hc1
      cases ht : tv bs x with
      | true =>
        rw [ht] at hL
        have HL := Lib.hid hL
        have Hy := Lib.hid (hyes ht)
        clear hL hnext hyes ht
        go_wp2_with fail
        refine HL.out.mono ?_
        rintro e w' ⟨rfl, rfl⟩
        go_wp2_with fail
        go_ret
        exact ⟨(j : Int), rfl, by rw [Hy.out]; exact decide_eq_true (by omega), rfl⟩
      | false =>
        rw [ht] at hL hnext
        have HL := Lib.hid hL
        have Hn := Lib.hid hnext
        clear hL hnext hyes ht
        go_wp2_with fail
        refine HL.out.mono ?_
        rintro e w' ⟨rfl, rfl⟩
        go_wp2_with fail
        go_roundw
        case rel => exact ⟨j + 1, by omega, by go_num, Hn.out, trivial⟩
        case measure => simp [intOf]; omega
    · obtain rfl : j = m := by omega
      rw [Hct.out] at hno
      have Hno := Lib.hid hno
      clear hno
      go_wp2_with fail
      go_ret
      exact ⟨-1, rfl, by rw [Hno.out]; rfl, rfl⟩

theorem Contains_any (B C g : Nat) (A D : Option Addr) (v m d n c : Nat) (zs : List Int) (bs : List Bool) (w : World) (hg : w.cell? ⟨g, 0, none⟩ = some (.slice A n c)) (hz : RdI C w D zs) (hm : zs.length = m) (hm2 : m ≤ maxLen) (hr : RdB B w A bs) (hl : bs.length = n) (hx : ∀ x ∈ zs, Lit v x) (hv : v ≤ n) (hv2 : v ≤ 65537) (hn : n ≤ 65538) :
    Calls Try.prog 34 #[.slice D m d, .func (.func 42) #[] #[.pointer (some ⟨g, 0, none⟩)]] w fun e w' => e = .returned (.bool (zs.any (tv bs))) ∧ w = w' := by
  have hI := Lib.hid (Index_any B C g A D v m d n c zs bs w hg hz hm hm2 hr hl hx hv hv2 hn)
  clear hg hz hm hr hl hx hm2 hn hv hv2
  generalize zs.any (tv bs) = z at *
  go_enter Try.func34, Try.ntmps34
  go_wp2_with fail
  refine hI.out.mono ?_
  rintro e w' ⟨r, rfl, hd, rfl⟩
  go_wp2_with fail
  go_ret
  exact ⟨rfl, rfl⟩

theorem Holds_any (B C : Nat) (A D : Option Addr) (v m d n c : Nat) (zs : List Int) (bs : List Bool) (w : World) (hz : RdI C w D zs) (hC : C ≤ w.heap.size) (hm : zs.length = m) (hm2 : m ≤ maxLen) (hr : RdB B w A bs) (hB : B ≤ w.heap.size) (hl : bs.length = n) (hx : ∀ x ∈ zs, Lit v x) (hv : v ≤ n) (hv2 : v ≤ 65537) (hn : n ≤ 65538) :
    Calls Try.prog 26 #[.slice D m d, .slice A n c] w fun e w' => e = .returned (.bool (zs.any (tv bs))) ∧ Below w.heap.size w w' := by
  have hb := (Below.refl w.heap.size w).alloc (Nat.le_refl _) (.cells #[.slice A n c] 37)
  have hbox : (w.alloc (.cells #[.slice A n c] 37)).cell? ⟨w.heap.size, 0, none⟩ = some (.slice A n c) := (Boxed.new w 37 (.slice A n c)).cell
  have hI := Lib.hid (Contains_any B C w.heap.size A D v m d n c zs bs _ hbox (hz.below hb hC) hm hm2 (hr.below hb hB) hl hx hv hv2 hn)
  have Hb := Lib.hid hb
  clear hz hm hr hl hx hm2 hn hv hv2 hb hbox
  generalize zs.any (tv bs) = z at *
  go_enter Try.func26, Try.ntmps26
  go_wp2_with fail
  refine hI.out.mono ?_
  rintro e w' ⟨rfl, rfl⟩
  go_wp2_with fail
  go_ret
  exact ⟨rfl, Hb.out⟩


theorem bools_ext {a b : List Bool} (hl : a.length = b.length) (h : ∀ i, i < a.length → a[i]?.getD false = b[i]?.getD false) : a = b := by
  apply List.ext_getElem hl
  intro i h1 h2
  have := h i h1
  rw [List.getElem?_eq_getElem h1, List.getElem?_eq_getElem h2] at this
  exact this

/-- A row of bools of the call's own. -/
def RowB (w : World) (base g : Nat) (bs : List Bool) : Prop := w.ownsRow base 4 1 (.slice (some ⟨g, 0, none⟩) bs.length bs.length) bs.length (bs.map Value.bool)
theorem boolsAt (bs : List Bool) (j : Nat) (hj : j < bs.length) : (bs.map Value.bool)[j]? = some (.bool (bs[j]?.getD false)) := by simp [hj]
theorem RowB.cell {w : World} {base g : Nat} {bs : List Bool} (h : RowB w base g bs) {j : Nat} (hj : j < bs.length) : w.cell? ⟨g, j, none⟩ = some (.bool (bs[j]?.getD false)) := by
  rw [World.ownsRow.cellAt h j (by omega), boolsAt bs j hj]
theorem RowB.frozen {w : World} {base g : Nat} {bs : List Bool} (h : RowB w base g bs) (j : Nat) : w.frozen? ⟨g, j, none⟩ = false := World.ownsRow.frozenAt h j
theorem RowB.rd {w : World} {base g : Nat} {bs : List Bool} (h : RowB w base g bs) : RdB w.heap.size w (some ⟨g, 0, none⟩) bs := fun _ =>
  ⟨g, 0, rfl, (h.lt g rfl).2, fun j hj => by rw [Nat.zero_add]; exact h.cell hj⟩
theorem RowB.set {w : World} {base g : Nat} {bs : List Bool} (h : RowB w base g bs) (j : Nat) (z : Bool) : RowB (w.setCell ⟨g, j, none⟩ (.bool z)) base g (bs.set j z) := by
  unfold RowB
  rw [List.length_set, List.map_set]
  exact (World.ownsRow.stored h j (.bool z)).1
theorem RowB.drewN {w : World} {base g : Nat} {bs : List Bool} (h : RowB w base g bs) (n : Nat) : RowB (w.drewN n) base g bs := h
theorem RowB.below {w w' : World} {base g : Nat} {bs : List Bool} (h : RowB w base g bs) (hb : Below w.heap.size w w') : RowB w' base g bs := own_below h hb
theorem info4 : (Try.prog.info? 4).map (fun i => (i.zero, i.size, i.bytes)) = some (some (.bool false), 1, 1) := by kernel_rfl
theorem underlying37' : Try.prog.underlying 37 = some (.slice 4) := by kernel_rfl

end Go.Proofs.Ytpeklcbjhkchlaa
