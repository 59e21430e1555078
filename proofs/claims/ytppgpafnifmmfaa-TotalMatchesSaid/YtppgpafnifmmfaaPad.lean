/- The assignment that padded makes: a row of bools of its own. -/
import Derived.Test.YtppgpafnifmmfaaHolds
namespace Go.Proofs.Ytppgpafnifmmfaa
open Go.ChangeShapes Go.WideShapes Go.ChangeAt Go.RowKit

/-- The first j of n + 1 bools taken over. -/
def padK (ab : List Bool) (n j : Nat) : List Bool := (List.range (n + 1)).map fun i => if i = 0 ∨ j ≤ i then false else ab[i]?.getD false
def pad (ab : List Bool) (n : Nat) : List Bool := padK ab n (n + 1)
theorem padK_length (ab : List Bool) (n j : Nat) : (padK ab n j).length = n + 1 := by unfold padK; rw [List.length_map, List.length_range]
theorem pad_length (ab : List Bool) (n : Nat) : (pad ab n).length = n + 1 := padK_length ab n _
theorem padK_get (ab : List Bool) (n j i : Nat) (h : i ≤ n) : (padK ab n j)[i]?.getD false = if i = 0 ∨ j ≤ i then false else ab[i]?.getD false := by
  unfold padK
  rw [List.getElem?_map, List.getElem?_range (by omega)]; rfl
theorem pad_get (ab : List Bool) (n i : Nat) (h : i ≤ n) (h0 : 1 ≤ i) : (pad ab n)[i]?.getD false = ab[i]?.getD false := by
  unfold pad
  rw [padK_get ab n _ i h, if_neg (by omega)]
theorem bools_ext {a b : List Bool} (hl : a.length = b.length) (h : ∀ i, i < a.length → a[i]?.getD false = b[i]?.getD false) : a = b := by
  apply List.ext_getElem hl
  intro i h1 h2
  have := h i h1
  rw [List.getElem?_eq_getElem h1, List.getElem?_eq_getElem h2] at this
  exact this
theorem padK_set (ab : List Bool) (n j : Nat) (h1 : 1 ≤ j) : (padK ab n j).set j (ab[j]?.getD false) = padK ab n (j + 1) := by
  apply bools_ext
  · rw [List.length_set, padK_length, padK_length]
  · intro i hi
    rw [List.length_set, padK_length] at hi
    rw [List.getElem?_set, padK_get ab n (j + 1) i (by omega)]
    by_cases h : j = i
    · subst h
      rw [if_pos rfl, if_pos (by rw [padK_length]; omega), if_neg (by omega)]; rfl
    · rw [if_neg h, padK_get ab n j i (by omega)]
      by_cases h3 : i = 0 ∨ j ≤ i
      · rw [if_pos h3, if_pos (by omega)]
      · rw [if_neg h3, if_neg (by omega)]
theorem padK_end (ab : List Bool) (n j : Nat) (h : n < j ∨ ab.length ≤ j) : padK ab n j = pad ab n := by
  apply bools_ext
  · rw [padK_length, pad_length]
  · intro i hi
    rw [padK_length] at hi
    unfold pad
    rw [padK_get ab n j i (by omega), padK_get ab n _ i (by omega)]
    by_cases h3 : i = 0
    · rw [if_pos (by omega), if_pos (by omega)]
    · rw [if_neg (by omega : ¬ (i = 0 ∨ n + 1 ≤ i))]
      by_cases h4 : j ≤ i
      · rw [if_pos (by omega), List.getElem?_eq_none (by omega)]; rfl
      · rw [if_neg (by omega)]
theorem pad_zero (ab : List Bool) (n : Nat) : (padK ab n 1).map Value.bool = (madeCells #[Value.bool false] (n + 1)).toList := by
  rw [toList_madeCells_one]
  apply List.ext_getElem
  · rw [List.length_map, padK_length, List.length_replicate]
  · intro i h1 h2
    rw [List.getElem_replicate, List.getElem_map]
    rw [List.length_map, padK_length] at h1
    have := padK_get ab n 1 i (by omega)
    rw [if_pos (by omega), List.getElem?_eq_getElem (by rw [padK_length]; omega)] at this
    rw [Option.getD_some] at this
    rw [this]

/-- A row of bools of the call's own. -/
def RowB (w : World) (base g : Nat) (bs : List Bool) : Prop := w.ownsRow base 4 1 (.slice (some ⟨g, 0, none⟩) bs.length bs.length) bs.length (bs.map Value.bool)
theorem boolsAt (bs : List Bool) (j : Nat) (hj : j < bs.length) : (bs.map Value.bool)[j]? = some (.bool (bs[j]?.getD false)) := by simp [hj]
theorem RowB.cell {w : World} {base g : Nat} {bs : List Bool} (h : RowB w base g bs) {j : Nat} (hj : j < bs.length) : w.cell? ⟨g, j, none⟩ = some (.bool (bs[j]?.getD false)) := by
  rw [World.ownsRow.cellAt h j (by omega), boolsAt bs j hj]
theorem RowB.frozen {w : World} {base g : Nat} {bs : List Bool} (h : RowB w base g bs) (j : Nat) : w.frozen? ⟨g, j, none⟩ = false := World.ownsRow.frozenAt h j
theorem RowB.rd {w : World} {base g : Nat} {bs : List Bool} (h : RowB w base g bs) : RdB w.heap.size w (some ⟨g, 0, none⟩) bs := fun _ =>
  ⟨g, 0, rfl, (h.lt g rfl).2, fun j hj => by rw [Nat.zero_add]; exact h.cell hj⟩
theorem RowB.set {w : World} {base g : Nat} {bs : List Bool} (h : RowB w base g bs) (j : Nat) (z : Bool) : RowB (w.setCell ⟨g, j, none⟩ (.bool z)) base g (bs.set j z) := by
  unfold RowB
  rw [List.length_set, List.map_set]
  exact (World.ownsRow.stored h j (.bool z)).1
theorem RowB.drewN {w : World} {base g : Nat} {bs : List Bool} (h : RowB w base g bs) (n : Nat) : RowB (w.drewN n) base g bs := h
theorem RowB.below {w w' : World} {base g : Nat} {bs : List Bool} (h : RowB w base g bs) (hb : Below w.heap.size w w') : RowB w' base g bs := own_below h hb
theorem info4 : (Try.prog.info? 4).map (fun i => (i.zero, i.size, i.bytes)) = some (some (.bool false), 1, 1) := by kernel_rfl
theorem underlying31' : Try.prog.underlying 31 = some (.slice 4) := by kernel_rfl

set_option maxHeartbeats 2000000 in
theorem padded_any (B : Nat) (A : Option Addr) (m n c : Nat) (ab : List Bool) (w : World) (hr : RdB B w A ab) (hB : B ≤ w.heap.size) (hm : ab.length = m) (hm2 : m ≤ maxLen) (hn : n ≤ 65537) :
    Calls Try.prog 15 #[.slice A m c, .int .i64 (n : Int)] w fun e w' => e = .returned (.slice (some ⟨w.heap.size, 0, none⟩) (n + 1) (n + 1)) ∧ RowB w' w.heap.size w.heap.size (pad ab n) ∧ Below w.heap.size w w' := by
  obtain ⟨i0, hi, hz0, hz1, hz2⟩ := info_parts info4
  have hm2 : m ≤ 9223372036854775807 := by unfold maxLen at hm2; omega
  have Hm := Lib.hid hm
  clear hm
  go_enter Try.func15, Try.ntmps15
  go_wp2_with (at_make; refine wpList_make_full _ rfl _ _ 31 rfl w.heap.size 4 i0 (.bool false) 1 underlying31' hi hz0 hz1 .i64 .i64 _ _ (n + 1) rfl rfl ?c1 ?c2 ?c3 ?c4 ?c5 ?_)
  case c1 => omega
  case c2 => omega
  case c3 => rw [hz2]; omega
  case c4 => unfold maxLen; omega
  case c5 => omega
  intro w1 hown hg1
  have hb1 : Below w.heap.size w w1 := (Below.refl _ w).grown hg1 (Nat.le_refl _) (fun k hk => by cases hk)
  have hrow : RowB w1 w.heap.size w.heap.size (padK ab n 1) := by
    unfold RowB
    rw [padK_length, pad_zero]; exact hown
  clear hown hg1 hi hz0 hz1 hz2
  go_wp2_with fail
  go_loopw [6] (fun i wr => ∃ j : Nat, 1 ≤ j ∧ j ≤ n + 1 ∧ i = .int .i64 j ∧ RowB wr w.heap.size w.heap.size (padK ab n j) ∧ Below w.heap.size w wr) (fun i _ => n + 1 - (intOf i).toNat)
  case atStart => exact ⟨1, by omega, by omega, rfl, hrow, hb1⟩
  case round =>
    obtain ⟨j, h1, h2, rfl, hrow, hb⟩ := hrel
    by_cases hlt : j ≤ n
    · by_cases hja : j < m
      · have hjo : j < ab.length := by rw [Hm.out]; exact hja
        obtain ⟨b, off, rfl, _, hc⟩ := (hr.below hb hB) (by omega)
        have hc1 := hc j hjo
        have hjp : j < (padK ab n j).length := by rw [padK_length]; omega
        have hc2 := hrow.cell hjp
        have hf2 := hrow.frozen j
        have hnew := hrow.set j (ab[j]?.getD false)
        rw [padK_set ab n j h1] at hnew
        have hbn := hb.setCell (p := ⟨w.heap.size, j, none⟩) (Nat.le_refl _) (.bool (ab[j]?.getD false))
        have Hnew := Lib.hid (And.intro hnew hbn)
        generalize (padK ab n j)[j]?.getD false = y at *
        clear hnew hbn hrow hb hc hr hjo hjp
        generalize ab[j]?.getD false = x at *
        have d1 : decide ((j : Int) ≤ (n : Int)) = true := decide_eq_true (by omega)
        have d2 : decide ((j : Int) < (m : Int)) = true := decide_eq_true (by omega)
        go_wp2
        go_roundw
        case rel => exact ⟨j + 1, by omega, by omega, by go_num, Hnew.out.1, Hnew.out.2⟩
        case measure => simp [intOf]; omega
      · have hend := padK_end ab n j (.inr (by rw [Hm.out]; omega))
        rw [hend] at hrow
        have d1 : decide ((j : Int) ≤ (n : Int)) = true := decide_eq_true (by omega)
        have d2 : decide ((j : Int) < (m : Int)) = false := decide_eq_false (by omega)
        clear hend
        go_wp2
        go_ret
        exact ⟨rfl, hrow, hb⟩
    · have hend := padK_end ab n j (.inl (by omega))
      rw [hend] at hrow
      have d1 : decide ((j : Int) ≤ (n : Int)) = false := decide_eq_false (by omega)
      clear hend
      go_wp2
      go_ret
      exact ⟨rfl, hrow, hb⟩
end Go.Proofs.Ytppgpafnifmmfaa
