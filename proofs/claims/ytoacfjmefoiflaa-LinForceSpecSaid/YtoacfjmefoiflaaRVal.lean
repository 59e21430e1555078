/- What the reference's Value answers; lin.Value where the constraint is none. -/
import Derived.Test.YtoacfjmefoiflaaRVars
import Derived.Test.YtoacfjmefoiflaaRChk
import Derived.Test.YtoacfjmefoiflaaLinW
namespace Go.Proofs.Ytoacfjmefoiflaa
open Go.ChangeShapes Go.WideShapes Go.ChangeAt Go.RowKit
set_option maxRecDepth 100000

set_option maxHeartbeats 4000000 in
theorem RLit_any (B : Nat) (A : Option Addr) (n c : Nat) (bs : List Bool) (x : Int) (w : World) (hr : RdB B w A bs) (hl : bs.length = n) (hx : Lit 65537 x) (hn : n ≤ 9223372036854775807) :
    Calls Try.prog 60 #[.int .i64 x, .slice A n c] w fun e w' => e = .returned (.bool (tv bs x)) ∧ w = w' := by
  obtain ⟨k, h1, h2, hk⟩ := hx.two
  have hO := Of_any x w (by rcases hk with rfl | rfl <;> omega)
  by_cases hkn : k < n
  · obtain ⟨b, off, rfl, _, hc⟩ := hr (by omega)
    have hc1 := hc k (by omega)
    clear hc hr hx
    rcases hk with rfl | rfl
    · rw [tv_pos]
      generalize bs[k]?.getD false = z at *
      have e1 : max (k : Int) (-(k : Int)) = (k : Int) := by omega
      rw [e1] at hO
      have e2 : decide ((k : Int) > 0) = true := decide_eq_true (by omega)
      have e2' : decide ((0 : Int) < (k : Int)) = true := decide_eq_true (by omega)
      have e2'' : decide (0 < k) = true := decide_eq_true (by omega)
      have e3 : decide ((k : Int) < (n : Int)) = true := decide_eq_true (by omega)
      have e3' : decide (k < n) = true := decide_eq_true (by omega)
      have HO := Lib.hid hO
      clear hO e1
      cases z
      · go_enter Try.func60, Try.ntmps60
        go_wp2_with fail
        refine HO.out.mono ?_
        rintro e w' ⟨rfl, rfl⟩
        go_wp2_with fail
        go_ret
        exact ⟨by simp, rfl⟩
      · go_enter Try.func60, Try.ntmps60
        go_wp2_with fail
        refine HO.out.mono ?_
        rintro e w' ⟨rfl, rfl⟩
        go_wp2_with fail
        go_ret
        exact ⟨by simp, rfl⟩
    · rw [tv_neg _ _ h1]
      generalize bs[k]?.getD false = z at *
      have e1 : max (-(k : Int)) (- -(k : Int)) = (k : Int) := by omega
      rw [e1] at hO
      have e2 : decide ((k : Int) > 0) = true := decide_eq_true (by omega)
      have e2' : decide ((0 : Int) < (k : Int)) = true := decide_eq_true (by omega)
      have e2'' : decide (0 < k) = true := decide_eq_true (by omega)
      have e4 : decide (-(k : Int) > 0) = false := decide_eq_false (by omega)
      have e4' : decide ((0 : Int) < -(k : Int)) = false := decide_eq_false (by omega)
      have e4'' : decide ((k : Int) < 0) = false := decide_eq_false (by omega)
      have e3 : decide ((k : Int) < (n : Int)) = true := decide_eq_true (by omega)
      have e3' : decide (k < n) = true := decide_eq_true (by omega)
      have HO := Lib.hid hO
      clear hO e1
      cases z
      · go_enter Try.func60, Try.ntmps60
        go_wp2_with fail
        refine HO.out.mono ?_
        rintro e w' ⟨rfl, rfl⟩
        go_wp2_with fail
        go_ret
        exact ⟨by simp, rfl⟩
      · go_enter Try.func60, Try.ntmps60
        go_wp2_with fail
        refine HO.out.mono ?_
        rintro e w' ⟨rfl, rfl⟩
        go_wp2_with fail
        go_ret
        exact ⟨by simp, rfl⟩
  · have hz : bs[k]?.getD false = false := by rw [List.getElem?_eq_none (by omega)]; rfl
    clear hr hx
    rcases hk with rfl | rfl
    · rw [tv_pos, hz]
      have e1 : max (k : Int) (-(k : Int)) = (k : Int) := by omega
      rw [e1] at hO
      have e2 : decide ((k : Int) > 0) = true := decide_eq_true (by omega)
      have e2' : decide ((0 : Int) < (k : Int)) = true := decide_eq_true (by omega)
      have e2'' : decide (0 < k) = true := decide_eq_true (by omega)
      have e3 : decide ((k : Int) < (n : Int)) = false := decide_eq_false (by omega)
      have e3' : decide (k < n) = false := decide_eq_false (by omega)
      have HO := Lib.hid hO
      clear hO e1
      go_enter Try.func60, Try.ntmps60
      go_wp2_with fail
      refine HO.out.mono ?_
      rintro e w' ⟨rfl, rfl⟩
      go_wp2_with fail
      go_ret
      exact ⟨by simp, rfl⟩
    · rw [tv_neg _ _ h1, hz]
      have e1 : max (-(k : Int)) (- -(k : Int)) = (k : Int) := by omega
      rw [e1] at hO
      have e2 : decide ((k : Int) > 0) = true := decide_eq_true (by omega)
      have e2' : decide ((0 : Int) < (k : Int)) = true := decide_eq_true (by omega)
      have e2'' : decide (0 < k) = true := decide_eq_true (by omega)
      have e4 : decide (-(k : Int) > 0) = false := decide_eq_false (by omega)
      have e4' : decide ((0 : Int) < -(k : Int)) = false := decide_eq_false (by omega)
      have e4'' : decide ((k : Int) < 0) = false := decide_eq_false (by omega)
      have e3 : decide ((k : Int) < (n : Int)) = false := decide_eq_false (by omega)
      have e3' : decide (k < n) = false := decide_eq_false (by omega)
      have HO := Lib.hid hO
      clear hO e1
      go_enter Try.func60, Try.ntmps60
      go_wp2_with fail
      refine HO.out.mono ?_
      rintro e w' ⟨rfl, rfl⟩
      go_wp2_with fail
      go_ret
      exact ⟨by simp, rfl⟩
set_option maxHeartbeats 4000000 in
theorem RHolds_any (B C n c d m a : Nat) (A D E : Option Addr) (k T : Int) (cs zs : List Int) (bs : List Bool) (w : World) (hc : RdI B w A cs) (hz : RdI B w D zs) (hB : B ≤ w.heap.size) (hC : C ≤ w.heap.size) (hcl : cs.length = n) (hl : zs.length = n) (hn : n ≤ 64) (hcs : ∀ c ∈ cs, -1099511627776 ≤ c ∧ c ≤ 1099511627776) (hlit : ∀ x ∈ zs, Lit 65537 x) (hbr : RdB C w E bs) (hbl : bs.length = m) (hm : m ≤ 9223372036854775807) (hT : wsum bs cs zs = T) :
    Calls Try.prog 50 #[.agg #[.slice A n c, .slice D n d, .int .i64 k], .slice E m a] w fun e w' => e = .returned (.bool (decide (k ≤ T))) ∧ Below w.heap.size w w' := by
  obtain ⟨W1, hW1⟩ : ∃ W, W = w.alloc (.cells #[.slice A n c, .slice D n d, .int .i64 k] 24) := ⟨_, rfl⟩
  have hb1 : Below w.heap.size w W1 := by rw [hW1]; exact (Below.refl _ _).alloc (Nat.le_refl _) _
  have hat : LinAt W1 w.heap.size (.slice A n c) (.slice D n d) k 24 := by rw [hW1]; exact heap_alloc_new _ _
  obtain ⟨cC, cL, cK⟩ := hat.cells
  have HW := Lib.hid hW1
  have HT := Lib.hid hT
  have HL := Lib.hid (And.intro hcl (And.intro hl (And.intro hcs hlit)))
  have R := Lib.hid (And.intro (hc.below hb1 hB) (hz.below hb1 hB))
  have HLit := Lib.hid (fun x (hx : Lit 65537 x) => RLit_any C E m a bs x W1 (hbr.below hb1 hC) hbl hx hm)
  rw [hW1] at cC cL cK
  clear hW1 hat hT hcl hl hcs hlit hc hz hbr hbl
  go_enter Try.func50, Try.ntmps50
  go_wp2_with fail
  rw [← HW.out]
  rw [← HW.out] at cC cL cK
  clear HW
  go_loopw [5, 6] (fun a i wr => ∃ j : Nat, j ≤ n ∧ a = .int .i64 (wsum bs (cs.take j) (zs.take j)) ∧ i = .int .i64 j ∧ W1 = wr) (fun _ i _ => n - (intOf i).toNat)
  case atStart => exact ⟨0, by omega, rfl, rfl, rfl⟩
  case round =>
    obtain ⟨j, hj, rfl, rfl, rfl⟩ := hrel
    by_cases hlt : j < n
    · have hjc : j < cs.length := by rw [HL.out.1]; exact hlt
      have hjz : j < zs.length := by rw [HL.out.2.1]; exact hlt
      obtain ⟨b1, o1, hA1, _, q1⟩ := R.out.1.2 (by omega)
      obtain ⟨b2, o2, hA2, _, q2⟩ := R.out.2.2 (by omega)
      have hc1 := q1 j hjc
      have hz1 := q2 j hjz
      have hcb := HL.out.2.2.1 (cs[j]?.getD 0) (by rw [List.getElem?_eq_getElem hjc]; exact List.getElem_mem _)
      have hH := HLit.out (zs[j]?.getD 0) (HL.out.2.2.2 (zs[j]?.getD 0) (by rw [List.getElem?_eq_getElem hjz]; exact List.getElem_mem _))
      have hst := wsum_take bs cs zs j (HL.out.1.trans HL.out.2.1.symm) hjc hjz
      have hsb := wsum_bound 1099511627776 (by omega) bs (cs.take j) (zs.take j) (fun c hc => HL.out.2.2.1 c (List.mem_of_mem_take hc))
      rw [List.length_take, Nat.min_eq_left (by omega)] at hsb
      have hcn : j < n := hlt
      clear q1 q2 hjc hjz R HLit
      generalize cs[j]?.getD 0 = x at *
      generalize zs[j]?.getD 0 = z at *
      generalize wsum bs (cs.take j) (zs.take j) = S at *
      obtain ⟨hx1, hx2⟩ := hcb
      cases hA1
      cases hA2
      cases hb : tv bs z with
      | true =>
        rw [hb] at hH
        rw [hb, if_pos rfl] at hst
        have hH := Lib.hid hH
        have HS := Lib.hid hst
        clear hst hb
        go_wp2_with fail
        refine hH.out.mono ?_
        rintro e w' ⟨rfl, rfl⟩
        go_wp2_with fail
        go_roundw
        case rel => exact ⟨j + 1, by omega, by rw [HS.out], by go_num, trivial⟩
        case measure => simp [intOf]; omega
      | false =>
        rw [hb] at hH
        rw [hb, if_neg (by simp)] at hst
        have hH := Lib.hid hH
        have HS := Lib.hid hst
        clear hst hb
        go_wp2_with fail
        refine hH.out.mono ?_
        rintro e w' ⟨rfl, rfl⟩
        go_wp2_with fail
        go_roundw
        case rel => exact ⟨j + 1, by omega, by rw [HS.out]; simp, by go_num, trivial⟩
        case measure => simp [intOf]; omega
    · obtain rfl : j = n := by omega
      rw [List.take_of_length_le (by have := HL.out.1; omega), List.take_of_length_le (by have := HL.out.2.1; omega), HT.out]
      obtain ⟨r, hr⟩ : ∃ r, decide (k ≤ T) = r := ⟨_, rfl⟩
      have hr' : decide (T ≥ k) = r := hr
      clear R HLit
      go_wp2_with fail
      go_ret
      exact ⟨by first | rfl | simp [hr], hb1⟩
set_option maxHeartbeats 4000000 in
theorem RValue_no (B : Nat) (AC AL A : Option Addr) (n1 n cc lc N c : Nat) (k : Int) (cs zs : List Int) (w : World) (hc : RdI B w AC cs) (hr : RdI B w AL zs) (hB : B ≤ w.heap.size) (hcl : cs.length = n1) (hl : zs.length = n) (hn : n ≤ 64) (hok : ¬ OkL cs zs k 65536) :
    Calls Try.prog 24 #[.agg #[.slice AC n1 cc, .slice AL n lc, .int .i64 k], .slice A N c] w fun e w' => e = .returned (.bool false) ∧ Below w.heap.size w w' := by
  obtain ⟨W1, hW1⟩ : ∃ W, W = w.alloc (.cells #[.slice AC n1 cc, .slice AL n lc, .int .i64 k] 24) := ⟨_, rfl⟩
  have hb1 : Below w.heap.size w W1 := by rw [hW1]; exact (Below.refl _ _).alloc (Nat.le_refl _) _
  have hat : LinAt W1 w.heap.size (.slice AC n1 cc) (.slice AL n lc) k 24 := by rw [hW1]; exact heap_alloc_new _ _
  have hCk := (RCheck_any B AC AL n1 n cc lc k 65536 cs zs W1 (hc.below hb1 hB) (hr.below hb1 hB) (by have := hb1.size; omega) hcl hl (by omega)).2 hok
  have HCk := Lib.hid hCk
  have HW := Lib.hid hW1
  have HA := Lib.hid (And.intro hat hb1)
  obtain ⟨cC, cL, cK⟩ := hat.cells
  rw [hW1] at cC cL cK
  clear hW1 hat hc hr hCk hcl hl hok
  go_enter Try.func24, Try.ntmps24
  go_wp2_with fail
  rw [← HW.out]
  clear HW
  refine HCk.out.mono ?_
  rintro e w2 ⟨rfl, hb2⟩
  have fin := Lib.hid (HA.out.2.trans (hb2.mono HA.out.2.size))
  clear HCk HA hb2 cC cL cK
  go_wp2_with fail
  go_ret
  exact ⟨rfl, fin.out⟩
set_option maxHeartbeats 4000000 in
theorem RValue_ok (B C : Nat) (AC AL A : Option Addr) (n cc lc N c : Nat) (k T : Int) (cs zs : List Int) (bs : List Bool) (w : World) (hc : RdI B w AC cs) (hr : RdI B w AL zs) (hB : B ≤ w.heap.size) (hC : C ≤ w.heap.size) (hcl : cs.length = n) (hl : zs.length = n) (hn : n ≤ 64) (hok : OkL cs zs k 65536) (hlit : ∀ x ∈ zs, Lit 65537 x) (hbr : RdB C w A bs) (hbl : bs.length = N) (hN : N ≤ 9223372036854775807) (hT : wsum bs cs zs = T) :
    Calls Try.prog 24 #[.agg #[.slice AC n cc, .slice AL n lc, .int .i64 k], .slice A N c] w fun e w' => e = .returned (.bool (decide (k ≤ T))) ∧ Below w.heap.size w w' := by
  obtain ⟨W1, hW1⟩ : ∃ W, W = w.alloc (.cells #[.slice AC n cc, .slice AL n lc, .int .i64 k] 24) := ⟨_, rfl⟩
  have hb1 : Below w.heap.size w W1 := by rw [hW1]; exact (Below.refl _ _).alloc (Nat.le_refl _) _
  have hat : LinAt W1 w.heap.size (.slice AC n cc) (.slice AL n lc) k 24 := by rw [hW1]; exact heap_alloc_new _ _
  have hCk := (RCheck_any B AC AL n n cc lc k 65536 cs zs W1 (hc.below hb1 hB) (hr.below hb1 hB) (by have := hb1.size; omega) hcl hl (by omega)).1 hok
  have HCk := Lib.hid hCk
  have HW := Lib.hid hW1
  have HA := Lib.hid (And.intro hat hb1)
  obtain ⟨cC, cL, cK⟩ := hat.cells
  rw [hW1] at cC cL cK
  have HH := Lib.hid (fun W (h : Below w.heap.size w W) => RHolds_any B C n cc lc N c AC AL A k T cs zs bs W (hc.below h hB) (hr.below h hB) (by have := h.size; omega) (by have := h.size; omega) hcl hl hn hok.cs hlit (hbr.below h hC) hbl hN hT)
  obtain ⟨r, hr'⟩ : ∃ r, decide (k ≤ T) = r := ⟨_, rfl⟩
  rw [hr'] at HH ⊢
  clear hW1 hat hc hr hCk hcl hl hok hlit hbr hbl hT hr'
  go_enter Try.func24, Try.ntmps24
  go_wp2_with fail
  rw [← HW.out]
  clear HW
  refine HCk.out.mono ?_
  rintro e w2 ⟨rfl, hb2⟩
  have hb02 := HA.out.2.trans (hb2.mono HA.out.2.size)
  have hH2 := Lib.hid (HH.out w2 hb02)
  have HA := Lib.hid (And.intro (HA.out.1.below hb2) hb02)
  clear HCk hb2 cC cL cK HH hb02
  obtain ⟨cC, cL, cK⟩ := HA.out.1.cells
  go_wp2_with fail
  refine hH2.out.mono ?_
  rintro e w3 ⟨rfl, hb3⟩
  have fin := Lib.hid (HA.out.2.trans (hb3.mono HA.out.2.size))
  clear hH2 HA hb3 cC cL cK
  go_wp2_with fail
  go_ret
  exact ⟨rfl, fin.out⟩
set_option maxHeartbeats 4000000 in
theorem linValue_no (B : Nat) (AC AL A : Option Addr) (n1 n cc lc N c : Nat) (k : Int) (cs zs : List Int) (w : World) (hc : RdI B w AC cs) (hr : RdI B w AL zs) (hB : B ≤ w.heap.size) (hcl : cs.length = n1) (hl : zs.length = n) (hn : n ≤ 64) (hok : ¬ OkL cs zs k 65536) :
    Calls Try.prog 23 #[.agg #[.slice AC n1 cc, .slice AL n lc, .int .i64 k], .slice A N c] w fun e w' => e = .returned (.bool false) ∧ Below w.heap.size w w' := by
  obtain ⟨W1, hW1⟩ : ∃ W, W = (w.alloc (.cells #[.slice AC n1 cc, .slice AL n lc, .int .i64 k] 24)).alloc (.cells #[.slice A N c] 32) := ⟨_, rfl⟩
  have hb1 : Below w.heap.size w W1 := by rw [hW1]; exact ((Below.refl _ _).alloc (Nat.le_refl _) _).alloc (by simp) _
  have hat : LinAt W1 w.heap.size (.slice AC n1 cc) (.slice AL n lc) k 24 := by rw [hW1]; exact (heap_alloc_old _ _ (by simp)).trans (heap_alloc_new _ _)
  have hCk := (LinCheck_any B AC AL n1 n cc lc k 65536 cs zs W1 (hc.below hb1 hB) (hr.below hb1 hB) (by have := hb1.size; omega) hcl hl (by omega) (by omega) (by omega)).2 hok
  have HCk := Lib.hid hCk
  have HW := Lib.hid hW1
  have HA := Lib.hid hb1
  obtain ⟨cC, cL, cK⟩ := hat.cells
  rw [hW1] at cC cL cK
  clear hW1 hat hb1 hCk hc hr hcl hl hok
  go_enter Try.func23, Try.ntmps23
  go_wp2_with fail
  rw [← HW.out]
  clear HW
  refine HCk.out.mono ?_
  rintro e w2 ⟨rfl, hb2⟩
  have fin := Lib.hid (HA.out.trans (hb2.mono HA.out.size))
  clear HCk HA hb2 cC cL cK
  go_wp2_with fail
  go_ret
  exact ⟨rfl, fin.out⟩
end Go.Proofs.Ytoacfjmefoiflaa
