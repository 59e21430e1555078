/- The reference's check of the literals. -/
import Derived.Test.YtpiomdnkemoanaaBools
import Derived.Deep.Grids
namespace Go.Proofs.Ytpiomdnkemoanaa
open Go.ChangeShapes Go.WideShapes Go.ChangeAt Go.RowKit

/-- The variables met in l. -/
def metL (m : Nat) (l : List Int) : List Bool := (List.range m).map fun v : Nat => decide ((v : Int) ∈ l ∨ -(v : Int) ∈ l)
theorem metL_length (m : Nat) (l : List Int) : (metL m l).length = m := by unfold metL; rw [List.length_map, List.length_range]
theorem metL_get (m : Nat) (l : List Int) (p : Nat) (h : p < m) : (metL m l)[p]?.getD false = decide ((p : Int) ∈ l ∨ -(p : Int) ∈ l) := by
  unfold metL; rw [List.getElem?_map, List.getElem?_range h]; rfl
theorem metL_set (m : Nat) (zs : List Int) (j p : Nat) (hj : j < zs.length) (_hp : p < m) (hx : zs[j]?.getD 0 = (p : Int) ∨ zs[j]?.getD 0 = -(p : Int)) : (metL m (zs.take j)).set p true = metL m (zs.take (j + 1)) := by
  have ht : zs.take (j + 1) = zs.take j ++ [zs[j]?.getD 0] := by rw [List.take_add_one, List.getElem?_eq_getElem hj]; rfl
  apply bools_ext
  · rw [List.length_set, metL_length, metL_length]
  · intro i hi
    rw [List.length_set, metL_length] at hi
    rw [List.getElem?_set, metL_get m _ i hi, ht]
    by_cases h : p = i
    · subst h
      rw [if_pos rfl, if_pos (by rw [metL_length]; exact hi)]
      rcases hx with hx | hx <;> rw [hx] <;> simp
    · rw [if_neg h, metL_get m _ i hi]
      have e : ((i : Int) ∈ zs.take j ++ [zs[j]?.getD 0] ∨ -(i : Int) ∈ zs.take j ++ [zs[j]?.getD 0]) ↔ ((i : Int) ∈ zs.take j ∨ -(i : Int) ∈ zs.take j) := by
        rw [List.mem_append, List.mem_append, List.mem_singleton, List.mem_singleton]
        constructor
        · rintro ((q | q) | (q | q))
          · exact .inl q
          · rcases hx with hx | hx <;> omega
          · exact .inr q
          · rcases hx with hx | hx <;> omega
        · rintro (q | q)
          · exact .inl (.inl q)
          · exact .inr (.inl q)
      by_cases q : (i : Int) ∈ zs.take j ∨ -(i : Int) ∈ zs.take j
      · rw [decide_eq_true q, decide_eq_true (e.2 q)]
      · rw [decide_eq_false q, decide_eq_false (fun h => q (e.1 h))]
theorem metL_zero (m : Nat) : (metL m []).map Value.bool = (madeCells #[Value.bool false] m).toList := by
  rw [toList_madeCells_one]
  apply List.ext_getElem
  · rw [List.length_map, metL_length, List.length_replicate]
  · intro i h1 h2
    rw [List.getElem_replicate, List.getElem_map]
    rw [List.length_map, metL_length] at h1
    have := metL_get m [] i h1
    rw [List.getElem?_eq_getElem (by rw [metL_length]; exact h1), Option.getD_some] at this
    rw [this]; simp

set_option maxRecDepth 30000 in
set_option maxHeartbeats 4000000 in
theorem Lits_any (B : Nat) (A : Option Addr) (n c m : Nat) (zs : List Int) (w : World) (hr : RdI B w A zs) (hB : B ≤ w.heap.size) (hl : zs.length = n) (hn : n ≤ 4096) (h1 : 1 ≤ m) (h2 : m ≤ 65537) (E : Int) (hE : E = if Tot.dist (m : Int) [] zs then 0 else 140) :
    Calls Try.prog 29 #[.slice A n c, .int .i64 (m : Int)] w fun e w' => e = .returned (.int .i64 E) ∧ Below w.heap.size w w' := by
  obtain ⟨i0, hi, hz0, hz1, hz2⟩ := info_parts info4
  have Hl := Lib.hid hl
  have HE := Lib.hid hE
  clear hl hE
  go_enter Try.func29, Try.ntmps29
  go_wp2_with (at_make; refine wpList_make_full _ rfl _ _ 30 rfl w.heap.size 4 i0 (.bool false) 1 underlying30' hi hz0 hz1 .i64 .i64 _ _ m rfl rfl ?c1 ?c2 ?c3 ?c4 ?c5 ?_)
  case c1 => first | omega | (split <;> omega)
  case c2 => first | omega | (split <;> omega)
  case c3 => rw [hz2]; omega
  case c4 => unfold maxLen; omega
  case c5 => omega
  intro w1 hown hg1
  have hb1 : Below w.heap.size w w1 := (Below.refl _ w).grown hg1 (Nat.le_refl _) (fun k hk => by cases hk)
  have hrow : RowB w1 w.heap.size w.heap.size (metL m []) := by
    unfold RowB
    rw [metL_length, metL_zero]; simpa using hown
  clear hown hg1 hi hz0 hz1 hz2
  go_wp2_with fail
  go_loopw [24] (fun i wr => ∃ j : Nat, j ≤ n ∧ i = .int .i64 j ∧ RowB wr w.heap.size w.heap.size (metL m (zs.take j)) ∧ Below w.heap.size w wr ∧ Tot.dist (m : Int) [] zs = Tot.dist (m : Int) (zs.take j).reverse (zs.drop j)) (fun i _ => n - (intOf i).toNat)
  case atStart => exact ⟨0, by omega, rfl, by simpa using hrow, hb1, by simp⟩
  case round =>
    clear hrow hb1
    obtain ⟨j, hj, rfl, hrow, hb, hd⟩ := hrel
    have Hd := Lib.hid hd
    clear hd
    by_cases hlt : j < n
    · have hjo : j < zs.length := by rw [Hl.out]; exact hlt
      have hwf := hr.wf hjo
      obtain ⟨b, off, rfl, _, hc⟩ := (hr.below hb hB).2 (by omega)
      have hc1 := hc j hjo
      have hdrop : zs.drop j = (zs[j]?.getD 0) :: zs.drop (j + 1) := by rw [List.drop_eq_getElem_cons hjo, List.getElem?_eq_getElem hjo]; rfl
      have hx : Tot.dist (m : Int) (zs.take j).reverse (zs.drop j) = if zs[j]?.getD 0 = 0 ∨ zs[j]?.getD 0 ≤ -(m : Int) ∨ (m : Int) ≤ zs[j]?.getD 0 ∨ zs[j]?.getD 0 ∈ (zs.take j).reverse ∨ -(zs[j]?.getD 0) ∈ (zs.take j).reverse then false else Tot.dist (m : Int) ((zs[j]?.getD 0) :: (zs.take j).reverse) (zs.drop (j + 1)) := by
        rw [hdrop, Tot.dist]
      clear hc hdrop
      by_cases hmn : zs[j]?.getD 0 = -9223372036854775808
      · rw [hmn] at hc1 hx
        have hfalse : Tot.dist (m : Int) [] zs = false := by
          rw [Hd.out, hx, if_pos (.inr (.inl (by omega)))]
        have Hf := Lib.hid hfalse
        have hwm := wrap_min
        clear hfalse hx hrow Hd hmn hwf
        go_wp2_with fail
        go_ret
        exact ⟨by rw [HE.out, Hf.out]; rfl, hb⟩
      · obtain ⟨hw1, hw2⟩ := hwf
        by_cases hneg : zs[j]?.getD 0 < 0
        · obtain ⟨p, hp⟩ := Int.eq_ofNat_of_zero_le (show 0 ≤ -(zs[j]?.getD 0) by omega)
          have hxp : zs[j]?.getD 0 = -(p : Int) := by omega
          have hxg : zs[j] = -(p : Int) := by rw [← hxp, List.getElem?_eq_getElem hjo]; rfl
          rw [hxp] at hc1 hx hneg hw1 hw2 hmn
          have hp2 : p ≤ 9223372036854775807 := by omega
          have g0 : max (-(p : Int)) (p : Int) = (p : Int) := by omega
          clear hp
          by_cases hlow : p < 1 ∨ m ≤ p
          · have hfalse : Tot.dist (m : Int) [] zs = false := by
              rw [Hd.out, hx, if_pos (by omega)]
            have Hf := Lib.hid hfalse
            clear hfalse hx hrow Hd
            by_cases hp1 : p < 1
            · exact absurd hp1 (by omega)
            · have g1 : decide ((p : Int) < 1) = false := decide_eq_false (by omega)
              have g1' : decide (p < 1) = false := decide_eq_false hp1
              have g2 : decide ((m : Int) ≤ (p : Int)) = true := decide_eq_true (by omega)
              have g2' : decide (m ≤ p) = true := decide_eq_true (by omega)
              clear hlow
              go_wp2_with fail
              go_ret
              exact ⟨by rw [HE.out, Hf.out]; rfl, hb⟩
          · have hpm : p < m := by omega
            have g1 : decide ((p : Int) < 1) = false := decide_eq_false (by omega)
            have g1' : decide (p < 1) = false := decide_eq_false (by omega)
            have g2 : decide ((m : Int) ≤ (p : Int)) = false := decide_eq_false (by omega)
            have g2' : decide (m ≤ p) = false := decide_eq_false (by omega)
            have hpl : p < (metL m (zs.take j)).length := by rw [metL_length]; exact hpm
            have hc2 := hrow.cell hpl
            have hf2 := hrow.frozen p
            have hget := metL_get m (zs.take j) p hpm
            cases hz : (metL m (zs.take j))[p]?.getD false with
            | true =>
              rw [hz] at hc2 hget
              have hmem := of_decide_eq_true hget.symm
              have hfalse : Tot.dist (m : Int) [] zs = false := by
                rw [Hd.out, hx, if_pos (by
                  rw [List.mem_reverse, List.mem_reverse]
                  rcases hmem with q | q
                  · exact .inr (.inr (.inr (.inr (by rw [Int.neg_neg]; exact q))))
                  · exact .inr (.inr (.inr (.inl q))))]
              have Hf := Lib.hid hfalse
              clear hfalse hx hrow Hd hget hmem hz hlow
              go_wp2_with fail
              go_ret
              exact ⟨by rw [HE.out, Hf.out]; rfl, hb⟩
            | false =>
              rw [hz] at hc2 hget
              have hmem := of_decide_eq_false hget.symm
              have hgo := Hd.out
              rw [hx, if_neg (by
                  rw [List.mem_reverse, List.mem_reverse]
                  rintro (q | q | q | q | q)
                  · omega
                  · omega
                  · omega
                  · exact hmem (.inr q)
                  · exact hmem (.inl (by rw [Int.neg_neg] at q; exact q)))] at hgo
              have hnew := hrow.set p true
              rw [metL_set m zs j p hjo hpm (by rw [hxp]; exact .inr rfl)] at hnew
              have hbn := hb.setCell (p := ⟨w.heap.size, p, none⟩) (Nat.le_refl _) (.bool true)
              have hrev : -(p : Int) :: (zs.take j).reverse = (zs.take (j + 1)).reverse := by
                rw [List.take_add_one, List.getElem?_eq_getElem hjo, ← hxg, List.reverse_append]; rfl
              rw [hrev] at hgo
              have Hn := Lib.hid (And.intro hnew (And.intro hbn hgo))
              clear hnew hbn hgo hrow hb hx Hd hget hmem hz hlow hrev
              go_wp2_with fail
              go_roundw
              case rel => exact ⟨j + 1, by omega, by go_num, Hn.out.1, Hn.out.2.1, Hn.out.2.2⟩
              case measure => simp [intOf]; omega
        · obtain ⟨p, hp⟩ := Int.eq_ofNat_of_zero_le (show 0 ≤ zs[j]?.getD 0 by omega)
          have hxp : zs[j]?.getD 0 = (p : Int) := hp
          have hxg : zs[j] = (p : Int) := by rw [← hxp, List.getElem?_eq_getElem hjo]; rfl
          rw [hxp] at hc1 hx hneg hw1 hw2 hmn
          have g0 : max (p : Int) (-(p : Int)) = (p : Int) := by omega
          clear hp
          by_cases hlow : p < 1 ∨ m ≤ p
          · have hfalse : Tot.dist (m : Int) [] zs = false := by
              rw [Hd.out, hx, if_pos (by omega)]
            have Hf := Lib.hid hfalse
            clear hfalse hx hrow Hd
            by_cases hp1 : p < 1
            · have g1 : decide ((p : Int) < 1) = true := decide_eq_true (by omega)
              have g1' : decide (p < 1) = true := decide_eq_true hp1
              clear hlow
              go_wp2_with fail
              go_ret
              exact ⟨by rw [HE.out, Hf.out]; rfl, hb⟩
            · have g1 : decide ((p : Int) < 1) = false := decide_eq_false (by omega)
              have g1' : decide (p < 1) = false := decide_eq_false hp1
              have g2 : decide ((m : Int) ≤ (p : Int)) = true := decide_eq_true (by omega)
              have g2' : decide (m ≤ p) = true := decide_eq_true (by omega)
              clear hlow
              go_wp2_with fail
              go_ret
              exact ⟨by rw [HE.out, Hf.out]; rfl, hb⟩
          · have hpm : p < m := by omega
            have g1 : decide ((p : Int) < 1) = false := decide_eq_false (by omega)
            have g1' : decide (p < 1) = false := decide_eq_false (by omega)
            have g2 : decide ((m : Int) ≤ (p : Int)) = false := decide_eq_false (by omega)
            have g2' : decide (m ≤ p) = false := decide_eq_false (by omega)
            have hpl : p < (metL m (zs.take j)).length := by rw [metL_length]; exact hpm
            have hc2 := hrow.cell hpl
            have hf2 := hrow.frozen p
            have hget := metL_get m (zs.take j) p hpm
            cases hz : (metL m (zs.take j))[p]?.getD false with
            | true =>
              rw [hz] at hc2 hget
              have hmem := of_decide_eq_true hget.symm
              have hfalse : Tot.dist (m : Int) [] zs = false := by
                rw [Hd.out, hx, if_pos (by
                  rw [List.mem_reverse, List.mem_reverse]
                  rcases hmem with q | q
                  · exact .inr (.inr (.inr (.inl q)))
                  · exact .inr (.inr (.inr (.inr q))))]
              have Hf := Lib.hid hfalse
              clear hfalse hx hrow Hd hget hmem hz hlow
              go_wp2_with fail
              go_ret
              exact ⟨by rw [HE.out, Hf.out]; rfl, hb⟩
            | false =>
              rw [hz] at hc2 hget
              have hmem := of_decide_eq_false hget.symm
              have hgo := Hd.out
              rw [hx, if_neg (by
                  rw [List.mem_reverse, List.mem_reverse]
                  rintro (q | q | q | q | q)
                  · omega
                  · omega
                  · omega
                  · exact hmem (.inl q)
                  · exact hmem (.inr q))] at hgo
              have hnew := hrow.set p true
              rw [metL_set m zs j p hjo hpm (by rw [hxp]; exact .inl rfl)] at hnew
              have hbn := hb.setCell (p := ⟨w.heap.size, p, none⟩) (Nat.le_refl _) (.bool true)
              have hrev : (p : Int) :: (zs.take j).reverse = (zs.take (j + 1)).reverse := by
                rw [List.take_add_one, List.getElem?_eq_getElem hjo, ← hxg, List.reverse_append]; rfl
              rw [hrev] at hgo
              have Hn := Lib.hid (And.intro hnew (And.intro hbn hgo))
              clear hnew hbn hgo hrow hb hx Hd hget hmem hz hlow hrev
              go_wp2_with fail
              go_roundw
              case rel => exact ⟨j + 1, by omega, by go_num, Hn.out.1, Hn.out.2.1, Hn.out.2.2⟩
              case measure => simp [intOf]; omega
    · obtain rfl : j = n := by omega
      have hend : Tot.dist (m : Int) [] zs = true := by
        rw [Hd.out, List.drop_of_length_le (by rw [Hl.out]; exact Nat.le_refl _), Tot.dist]
      have He := Lib.hid hend
      clear hend hrow Hd
      go_wp2_with fail
      go_ret
      exact ⟨by rw [HE.out, He.out]; rfl, hb⟩
end Go.Proofs.Ytpiomdnkemoanaa
