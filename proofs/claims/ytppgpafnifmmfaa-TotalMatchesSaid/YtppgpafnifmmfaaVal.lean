/- Assignments: what lit, many, cnf.Holds and holds answer for literals of variables that the assignment has. -/
import Derived.Test.YtppgpafnifmmfaaCheck
namespace Go.Proofs.Ytppgpafnifmmfaa
open Go.ChangeShapes Go.WideShapes Go.ChangeAt Go.RowKit

/-- A slice at A reads as these bools, in a block below B. -/
def RdB (B : Nat) (w : World) (A : Option Addr) (bs : List Bool) : Prop :=
  0 < bs.length → ∃ b off, A = some ⟨b, off, none⟩ ∧ b < B ∧ ∀ j, j < bs.length → w.cell? ⟨b, off + j, none⟩ = some (.bool (bs[j]?.getD false))
theorem RdB.below {B B' : Nat} {w w' : World} {A : Option Addr} {bs : List Bool} (h : RdB B w A bs) (hb : Below B' w w') (hB : B ≤ B') : RdB B w' A bs := by
  intro hn
  obtain ⟨b, off, rfl, hbl, hcell⟩ := h hn
  exact ⟨b, off, rfl, hbl, fun j hj => (hb.cell (p := ⟨b, off + j, none⟩) (by show b < B'; omega)).trans (hcell j hj)⟩
theorem RdB.more {B B' : Nat} {w : World} {A : Option Addr} {bs : List Bool} (h : RdB B w A bs) (hB : B ≤ B') : RdB B' w A bs := by
  intro hn
  obtain ⟨b, off, rfl, hbl, hcell⟩ := h hn
  exact ⟨b, off, rfl, by omega, hcell⟩
theorem RdB.drewN {B : Nat} {w : World} {A : Option Addr} {bs : List Bool} (h : RdB B w A bs) (n : Nat) : RdB B (w.drewN n) A bs := h
/-- Whether a literal is true. -/
def tv (bs : List Bool) (x : Int) : Bool := if x < 0 then !(bs[(-x).toNat]?.getD false) else bs[x.toNat]?.getD false
theorem tv_pos (bs : List Bool) (k : Nat) : tv bs (k : Int) = bs[k]?.getD false := by unfold tv; rw [if_neg (by omega), Int.toNat_natCast]
theorem tv_neg (bs : List Bool) (k : Nat) (h : 1 ≤ k) : tv bs (-(k : Int)) = !(bs[k]?.getD false) := by unfold tv; rw [if_pos (by omega), Int.neg_neg, Int.toNat_natCast]
theorem tv_not (bs : List Bool) (x : Int) (h : x ≠ 0) : tv bs (-x) = !tv bs x := by
  rcases (show x < 0 ∨ 0 < x by omega) with h1 | h1
  · unfold tv; rw [if_neg (by omega), if_pos h1, Bool.not_not]
  · unfold tv; rw [if_pos (by omega), if_neg (by omega), Int.neg_neg]
theorem Lit.two {v : Nat} {x : Int} (h : Lit v x) : ∃ k : Nat, 1 ≤ k ∧ k < v ∧ (x = (k : Int) ∨ x = -(k : Int)) := by
  obtain ⟨a, b, c⟩ := h
  rcases (show x < 0 ∨ 0 < x by omega) with h1 | h1
  · obtain ⟨k, hk⟩ := Int.eq_ofNat_of_zero_le (show 0 ≤ -x by omega)
    exact ⟨k, by omega, by omega, .inr (by omega)⟩
  · obtain ⟨k, hk⟩ := Int.eq_ofNat_of_zero_le (show 0 ≤ x by omega)
    exact ⟨k, by omega, by omega, .inl (by omega)⟩

set_option maxHeartbeats 1000000 in
theorem lit_any (B : Nat) (A : Option Addr) (v n c : Nat) (bs : List Bool) (x : Int) (w : World) (hr : RdB B w A bs) (hl : bs.length = n) (hx : Lit v x) (hv : v ≤ n) (hn : n ≤ 65538) :
    Calls Try.prog 18 #[.int .i64 x, .slice A n c] w fun e w' => e = .returned (.bool (tv bs x)) ∧ w = w' := by
  obtain ⟨k, h1, h2, hk⟩ := hx.two
  obtain ⟨b, off, rfl, _, hc⟩ := hr (by omega)
  have hc1 := hc k (by omega)
  clear hc hr hx
  rcases hk with rfl | rfl
  · rw [tv_pos]
    generalize bs[k]?.getD false = z at *
    have e1 : ¬ (k : Int) < 0 := by omega
    have e2 : decide ((0 : Int) < (k : Int)) = true := decide_eq_true (by omega)
    have e3 : decide ((k : Int) < (n : Int)) = true := decide_eq_true (by omega)
    go_enter Try.func18, Try.ntmps18
    go_wp2
    go_ret
    exact ⟨rfl, rfl⟩
  · rw [tv_neg _ _ h1]
    generalize bs[k]?.getD false = z at *
    have e1 : (-(k : Int)) < 0 := by omega
    have e2 : decide ((k : Int) < (n : Int)) = true := decide_eq_true (by omega)
    go_enter Try.func18, Try.ntmps18
    go_wp2
    go_ret
    exact ⟨rfl, rfl⟩

/-- How many of these literals are true. -/
def ct (bs : List Bool) (l : List Int) : Nat := (l.filter (tv bs)).length
theorem ct_le (bs : List Bool) (l : List Int) : ct bs l ≤ l.length := List.length_filter_le _ _
theorem ct_take (bs : List Bool) (l : List Int) (j : Nat) (h : j < l.length) : ct bs (l.take (j + 1)) = ct bs (l.take j) + if tv bs (l[j]?.getD 0) then 1 else 0 := by
  unfold ct
  rw [List.take_add_one, List.getElem?_eq_getElem h]
  simp only [Option.toList_some, List.filter_append, List.length_append, Option.getD_some]
  congr 1
  by_cases h2 : tv bs l[j] = true
  · rw [List.filter_cons_of_pos h2, if_pos h2]; rfl
  · rw [List.filter_cons_of_neg h2, if_neg h2]; rfl

set_option maxHeartbeats 2000000 in
theorem many_any (B C : Nat) (A D : Option Addr) (v m d n c : Nat) (zs : List Int) (bs : List Bool) (w : World) (hz : RdI C w D zs) (hm : zs.length = m) (hm2 : m ≤ 4096) (hr : RdB B w A bs) (hl : bs.length = n) (hx : ∀ x ∈ zs, Lit v x) (hv : v ≤ n) (hn : n ≤ 65538) :
    Calls Try.prog 17 #[.slice D m d, .slice A n c] w fun e w' => e = .returned (.int .i64 (ct bs zs : Int)) ∧ w = w' := by
  have Hl := Lib.hid hm
  have Hx := Lib.hid hx
  have Hall := fun x => Lib.hid (fun h w (hr : RdB B w A bs) => lit_any B A v n c bs x w hr hl h hv hn)
  have hct : ct bs (zs.take m) = ct bs zs := by rw [← hm, List.take_length]
  have Hct := Lib.hid hct
  clear hm hx hl hct
  go_enter Try.func17, Try.ntmps17
  go_wp2
  go_loopw [5, 6] (fun a i wr => ∃ j : Nat, j ≤ m ∧ a = .int .i64 (ct bs (zs.take j) : Int) ∧ i = .int .i64 j ∧ w = wr) (fun _ i _ => m - (intOf i).toNat)
  case atStart => exact ⟨0, by omega, rfl, rfl, rfl⟩
  case round =>
    obtain ⟨j, hj, rfl, rfl, rfl⟩ := hrel
    by_cases hlt : j < m
    · have hjo : j < zs.length := by rw [Hl.out]; exact hlt
      have hnext := ct_take bs zs j hjo
      have hle := ct_le bs (zs.take j)
      rw [List.length_take] at hle
      have hle : ct bs (zs.take j) ≤ 4096 := by omega
      obtain ⟨b, off, rfl, _, hc⟩ := hz.2 (by omega)
      have hc1 := hc j hjo
      have hL := (Hall (zs[j]?.getD 0)).out (Hx.out _ (by rw [List.getElem?_eq_getElem hjo]; exact List.getElem_mem _)) w hr
      clear hc hjo hz hr
      generalize zs[j]?.getD 0 = x at *
      generalize ct bs (zs.take j) = y at *
      cases ht : tv bs x with
      | true =>
        rw [ht] at hL
        rw [ht, if_pos rfl] at hnext
        have HL := Lib.hid hL
        have Hn := Lib.hid hnext
        clear hL hnext ht
        go_wp2_with fail
        refine HL.out.mono ?_
        rintro e w' ⟨rfl, rfl⟩
        go_wp2_with fail
        go_roundw
        case rel => exact ⟨j + 1, by omega, by rw [Hn.out]; go_num, by go_num, trivial⟩
        case measure => simp [intOf]; omega
      | false =>
        rw [ht] at hL
        rw [ht, if_neg (by simp)] at hnext
        have HL := Lib.hid hL
        have Hn := Lib.hid hnext
        clear hL hnext ht
        go_wp2_with fail
        refine HL.out.mono ?_
        rintro e w' ⟨rfl, rfl⟩
        go_wp2_with fail
        go_roundw
        case rel => exact ⟨j + 1, by omega, by rw [Hn.out]; rfl, by go_num, trivial⟩
        case measure => simp [intOf]; omega
    · obtain rfl : j = m := by omega
      go_wp2_with fail
      rw [Hct.out]
      go_ret
      exact ⟨rfl, rfl⟩

/-- The clause's closure, at one literal. -/
theorem holds_lit (B g : Nat) (A : Option Addr) (v n c : Nat) (bs : List Bool) (x : Int) (w : World) (hg : w.cell? ⟨g, 0, none⟩ = some (.slice A n c)) (hr : RdB B w A bs) (hl : bs.length = n) (hx : Lit v x) (hv : v ≤ n) (hv2 : v ≤ 65537) (hn : n ≤ 65538) :
    Calls Try.prog 34 #[.int .i64 x, .pointer (some ⟨g, 0, none⟩)] w fun e w' => e = .returned (.bool (tv bs x)) ∧ w = w' := by
  obtain ⟨k, h1, h2, hk⟩ := hx.two
  obtain ⟨b, off, rfl, _, hc⟩ := hr (by omega)
  have hc1 := hc k (by omega)
  have hM := Lib.hid (fun W => literal_any 65537 x 65536 W (hx.mono hv2) (by omega) (by omega) (by omega))
  clear hc hr hx
  rcases hk with rfl | rfl
  · rw [tv_pos]
    generalize bs[k]?.getD false = z at *
    have e1 : max (k : Int) (-(k : Int)) = (k : Int) := by omega
    have e2 : decide (0 < k) = true := decide_eq_true (by omega)
    have e3 : decide ((k : Int) < (n : Int)) = true := decide_eq_true (by omega)
    go_enter Try.func34, Try.ntmps34
    go_wp2_with fail
    refine (hM.out _).mono ?_
    rintro e w' ⟨rfl, rfl⟩
    go_wp2_with fail
    go_ret
    exact ⟨by cases z <;> rfl, rfl⟩
  · rw [tv_neg _ _ h1]
    generalize bs[k]?.getD false = z at *
    have e1 : max (-(k : Int)) (k : Int) = (k : Int) := by omega
    have e2 : decide ((k : Int) < 0) = false := decide_eq_false (by omega)
    have e3 : decide ((k : Int) < (n : Int)) = true := decide_eq_true (by omega)
    go_enter Try.func34, Try.ntmps34
    go_wp2_with fail
    refine (hM.out _).mono ?_
    rintro e w' ⟨rfl, rfl⟩
    go_wp2_with fail
    go_ret
    exact ⟨by cases z <;> rfl, rfl⟩
end Go.Proofs.Ytppgpafnifmmfaa
