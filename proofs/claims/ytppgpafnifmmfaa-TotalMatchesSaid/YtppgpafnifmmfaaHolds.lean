/- Assignments: what cnf.Holds and holds answer for clauses of literals of variables that the assignment has. -/
import Derived.Test.YtppgpafnifmmfaaVal
namespace Go.Proofs.Ytppgpafnifmmfaa
open Go.ChangeShapes Go.WideShapes Go.ChangeAt Go.RowKit

theorem any_take {α : Type} (f : α → Bool) (l : List α) (j : Nat) (h : j < l.length) : (l.take (j + 1)).any f = ((l.take j).any f || f l[j]) := by
  rw [List.take_add_one, List.getElem?_eq_getElem h, List.any_append]; simp
theorem any_get {α : Type} (f : α → Bool) (l : List α) (j : Nat) (h : j < l.length) (hf : f l[j] = true) : l.any f = true := List.any_eq_true.2 ⟨_, List.getElem_mem h, hf⟩

set_option maxHeartbeats 2000000 in
theorem Index_any (B C g : Nat) (A D : Option Addr) (v m d n c : Nat) (zs : List Int) (bs : List Bool) (w : World) (hg : w.cell? ⟨g, 0, none⟩ = some (.slice A n c)) (hz : RdI C w D zs) (hm : zs.length = m) (hm2 : m ≤ maxLen) (hr : RdB B w A bs) (hl : bs.length = n) (hx : ∀ x ∈ zs, Lit v x) (hv : v ≤ n) (hv2 : v ≤ 65537) (hn : n ≤ 65538) :
    Calls Try.prog 35 #[.slice D m d, .func (.func 34) #[] #[.pointer (some ⟨g, 0, none⟩)]] w fun e w' => ∃ r : Int, e = .returned (.int .i64 r) ∧ decide (0 ≤ r) = zs.any (tv bs) ∧ w = w' := by
  have Hl := Lib.hid hm
  have Hx := Lib.hid hx
  have Hall := fun x => Lib.hid (fun h => holds_lit B g A v n c bs x w hg hr hl h hv hv2 hn)
  have hct : (zs.take m).any (tv bs) = zs.any (tv bs) := by rw [← hm, List.take_length]
  have Hct := Lib.hid hct
  have hm2 : m ≤ 9223372036854775807 := by unfold maxLen at hm2; omega
  clear hm hx hl hct hg hr
  go_enter Try.func35, Try.ntmps35
  go_wp2
  go_loopw [5, 8] (fun _ i wr => ∃ j : Nat, j ≤ m ∧ i = .int .i64 j ∧ (zs.take j).any (tv bs) = false ∧ w = wr) (fun _ i _ => m - (intOf i).toNat)
  case atStart => exact ⟨0, by omega, rfl, by simp, rfl⟩
  case round =>
    obtain ⟨j, hj, rfl, hno, rfl⟩ := hrel
    by_cases hlt : j < m
    · have hjo : j < zs.length := by rw [Hl.out]; exact hlt
      have hnext := any_take (tv bs) zs j hjo
      rw [hno, Bool.false_or] at hnext
      have hyes := any_get (tv bs) zs j hjo
      obtain ⟨b, off, rfl, _, hc⟩ := hz.2 (by omega)
      have hc1 := hc j hjo
      rw [List.getElem?_eq_getElem hjo] at hc1
      have hL := (Hall zs[j]).out (Hx.out _ (List.getElem_mem _))
      clear hc hz hno
      generalize zs[j] = x at *
      clear hjo
      rw [Option.getD_some] at hc1
      cases ht : tv bs x with
      | true =>
        rw [ht] at hL
        have HL := Lib.hid hL
        have Hy := Lib.hid (hyes ht)
        clear hL hnext hyes ht
        go_wp2_with fail
        refine HL.out.mono ?_
        rintro e w' ⟨rfl, rfl⟩
        go_wp2_with fail
        go_ret
        exact ⟨(j : Int), rfl, by rw [Hy.out]; exact decide_eq_true (by omega), rfl⟩
      | false =>
        rw [ht] at hL hnext
        have HL := Lib.hid hL
        have Hn := Lib.hid hnext
        clear hL hnext hyes ht
        go_wp2_with fail
        refine HL.out.mono ?_
        rintro e w' ⟨rfl, rfl⟩
        go_wp2_with fail
        go_roundw
        case rel => exact ⟨j + 1, by omega, by go_num, Hn.out, trivial⟩
        case measure => simp [intOf]; omega
    · obtain rfl : j = m := by omega
      rw [Hct.out] at hno
      have Hno := Lib.hid hno
      clear hno
      go_wp2_with fail
      go_ret
      exact ⟨-1, rfl, by rw [Hno.out]; rfl, rfl⟩

theorem Contains_any (B C g : Nat) (A D : Option Addr) (v m d n c : Nat) (zs : List Int) (bs : List Bool) (w : World) (hg : w.cell? ⟨g, 0, none⟩ = some (.slice A n c)) (hz : RdI C w D zs) (hm : zs.length = m) (hm2 : m ≤ maxLen) (hr : RdB B w A bs) (hl : bs.length = n) (hx : ∀ x ∈ zs, Lit v x) (hv : v ≤ n) (hv2 : v ≤ 65537) (hn : n ≤ 65538) :
    Calls Try.prog 33 #[.slice D m d, .func (.func 34) #[] #[.pointer (some ⟨g, 0, none⟩)]] w fun e w' => e = .returned (.bool (zs.any (tv bs))) ∧ w = w' := by
  have hI := Lib.hid (Index_any B C g A D v m d n c zs bs w hg hz hm hm2 hr hl hx hv hv2 hn)
  clear hg hz hm hr hl hx hm2 hn hv hv2
  generalize zs.any (tv bs) = z at *
  go_enter Try.func33, Try.ntmps33
  go_wp2_with fail
  refine hI.out.mono ?_
  rintro e w' ⟨r, rfl, hd, rfl⟩
  go_wp2_with fail
  go_ret
  exact ⟨rfl, rfl⟩

theorem Holds_any (B C : Nat) (A D : Option Addr) (v m d n c : Nat) (zs : List Int) (bs : List Bool) (w : World) (hz : RdI C w D zs) (hC : C ≤ w.heap.size) (hm : zs.length = m) (hm2 : m ≤ maxLen) (hr : RdB B w A bs) (hB : B ≤ w.heap.size) (hl : bs.length = n) (hx : ∀ x ∈ zs, Lit v x) (hv : v ≤ n) (hv2 : v ≤ 65537) (hn : n ≤ 65538) :
    Calls Try.prog 28 #[.slice D m d, .slice A n c] w fun e w' => e = .returned (.bool (zs.any (tv bs))) ∧ Below w.heap.size w w' := by
  have hb := (Below.refl w.heap.size w).alloc (Nat.le_refl _) (.cells #[.slice A n c] 31)
  have hbox : (w.alloc (.cells #[.slice A n c] 31)).cell? ⟨w.heap.size, 0, none⟩ = some (.slice A n c) := (Boxed.new w 31 (.slice A n c)).cell
  have hI := Lib.hid (Contains_any B C w.heap.size A D v m d n c zs bs _ hbox (hz.below hb hC) hm hm2 (hr.below hb hB) hl hx hv hv2 hn)
  have Hb := Lib.hid hb
  clear hz hm hr hl hx hm2 hn hv hv2 hb hbox
  generalize zs.any (tv bs) = z at *
  go_enter Try.func28, Try.ntmps28
  go_wp2_with fail
  refine hI.out.mono ?_
  rintro e w' ⟨rfl, rfl⟩
  go_wp2_with fail
  go_ret
  exact ⟨rfl, Hb.out⟩

def sat (bs : List Bool) (cl : List (List Int)) : Bool := cl.all fun x => x.any (tv bs)
theorem sat_take (bs : List Bool) (cl : List (List Int)) (j : Nat) (h : j < cl.length) : sat bs (cl.take (j + 1)) = (sat bs (cl.take j) && cl[j].any (tv bs)) := by
  unfold sat
  rw [List.take_add_one, List.getElem?_eq_getElem h, List.all_append]; simp
theorem sat_get (bs : List Bool) (cl : List (List Int)) (j : Nat) (h : j < cl.length) (hf : cl[j].any (tv bs) = false) : sat bs cl = false := by
  unfold sat
  rw [List.all_eq_false]
  exact ⟨_, List.getElem_mem h, by rw [hf]; simp⟩

set_option maxHeartbeats 2000000 in
theorem sat_any (B C : Nat) (A D : Option Addr) (v m d n c : Nat) (cl : List (List Int)) (bs : List Bool) (w : World) (hz : RdR C w D cl) (hC : C ≤ w.heap.size) (hm : cl.length = m) (hm2 : m ≤ maxLen) (hin : ∀ j, j < cl.length → (cl[j]?.getD []).length ≤ maxLen) (hr : RdB B w A bs) (hB : B ≤ w.heap.size) (hl : bs.length = n) (hx : ∀ x ∈ cl, ∀ y ∈ x, Lit v y) (hv : v ≤ n) (hv2 : v ≤ 65537) (hn : n ≤ 65538) :
    Calls Try.prog 16 #[.slice D m d, .slice A n c] w fun e w' => e = .returned (.bool (sat bs cl)) ∧ Below w.heap.size w w' := by
  have Hl := Lib.hid hm
  have Hx := Lib.hid hx
  have Hin := Lib.hid hin
  have Hall := fun zs E m' c' => Lib.hid (fun (hx : ∀ y ∈ zs, Lit v y) (W : World) (hz : RdI C W E zs) (hC : C ≤ W.heap.size) (hm : zs.length = m') hm2 (hr : RdB B W A bs) (hB : B ≤ W.heap.size) => Holds_any B C A E v m' c' n c zs bs W hz hC hm hm2 hr hB hl hx hv hv2 hn)
  have hct : sat bs (cl.take m) = sat bs cl := by rw [← hm, List.take_length]
  have Hct := Lib.hid hct
  have hm2 : m ≤ 9223372036854775807 := by unfold maxLen at hm2; omega
  clear hm hx hl hct hin
  go_enter Try.func16, Try.ntmps16
  go_wp2
  go_loopw [5] (fun i wr => ∃ j : Nat, j ≤ m ∧ i = .int .i64 j ∧ sat bs (cl.take j) = true ∧ Below w.heap.size w wr) (fun i _ => m - (intOf i).toNat)
  case atStart => exact ⟨0, by omega, rfl, rfl, Below.refl _ _⟩
  case round =>
    obtain ⟨j, hj, rfl, hno, hb⟩ := hrel
    by_cases hlt : j < m
    · have hjo : j < cl.length := by rw [Hl.out]; exact hlt
      have hnext := sat_take bs cl j hjo
      rw [hno, Bool.true_and] at hnext
      have hyes := sat_get bs cl j hjo
      have hz := hz.below hb hC
      have hr := hr.below hb hB
      obtain ⟨b, off, rfl, _, hc⟩ := hz (by omega)
      obtain ⟨E, ec, hc1, hr1⟩ := hc j hjo
      have hxl := Hin.out j hjo
      rw [List.getElem?_eq_getElem hjo] at hc1 hr1 hxl
      rw [Option.getD_some] at hc1 hr1 hxl
      have hsz := hb.size
      have hL := (Hall cl[j] E _ ec).out (Hx.out _ (List.getElem_mem _)) _ hr1 (by omega) rfl hxl hr (by omega)
      clear hc hz hno hr1 hr
      generalize cl[j] = x at *
      clear hjo
      generalize x.length = L at *
      have Hb := Lib.hid hb
      cases ht : x.any (tv bs) with
      | false =>
        rw [ht] at hL
        have HL := Lib.hid hL
        have Hy := Lib.hid (hyes ht)
        clear hL hnext hyes ht hb
        go_wp2_with fail
        refine HL.out.mono ?_
        rintro e w' ⟨rfl, hb'⟩
        go_wp2_with fail
        go_ret
        exact ⟨by rw [Hy.out]; rfl, Hb.out.trans (hb'.mono hsz)⟩
      | true =>
        rw [ht] at hL hnext
        have HL := Lib.hid hL
        have Hn := Lib.hid hnext
        clear hL hnext hyes ht hb
        go_wp2_with fail
        refine HL.out.mono ?_
        rintro e w' ⟨rfl, hb'⟩
        go_wp2_with fail
        go_roundw
        case rel => exact ⟨j + 1, by omega, by go_num, Hn.out, Hb.out.trans (hb'.mono hsz)⟩
        case measure => simp [intOf]; omega
    · obtain rfl : j = m := by omega
      rw [Hct.out] at hno
      have Hno := Lib.hid hno
      clear hno
      go_wp2_with fail
      go_ret
      exact ⟨by rw [Hno.out]; rfl, hb⟩
end Go.Proofs.Ytppgpafnifmmfaa
