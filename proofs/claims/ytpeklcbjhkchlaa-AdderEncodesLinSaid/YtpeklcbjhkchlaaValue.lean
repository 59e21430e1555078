/- The walk of cnf.Value. -/
import Derived.Test.YtpeklcbjhkchlaaSumsN
import Derived.Test.YtpeklcbjhkchlaaLive
namespace Go.Proofs.Ytpeklcbjhkchlaa
open Go.ChangeShapes Go.WideShapes Go.ChangeAt Go.RowKit
set_option maxRecDepth 100000

theorem value_lit (B C g : Nat) (A D : Option Addr) (v m d n c : Nat) (zs : List Int) (bs : List Bool) (w : World) (hg : w.cell? ⟨g, 0, none⟩ = some (.slice A n c)) (hz : RdI C w D zs) (hC : C ≤ w.heap.size) (hm : zs.length = m) (hm2 : m ≤ maxLen) (hr : RdB B w A bs) (hB : B ≤ w.heap.size) (hl : bs.length = n) (hx : ∀ x ∈ zs, Lit v x) (hv : v ≤ n) (hv2 : v ≤ 65537) (hn : n ≤ 65538) :
    Calls Try.prog 41 #[.slice D m d, .pointer (some ⟨g, 0, none⟩)] w fun e w' => e = .returned (.bool (!zs.any (tv bs))) ∧ Below w.heap.size w w' := by
  have hH := Lib.hid (Holds_any B C A D v m d n c zs bs w hz hC hm hm2 hr hB hl hx hv hv2 hn)
  clear hz hm hr hl hx hm2 hn hv hv2
  generalize zs.any (tv bs) = z at *
  go_enter Try.func41, Try.ntmps41
  go_wp2_with fail
  refine hH.out.mono ?_
  rintro e w' ⟨rfl, hb⟩
  clear hH
  go_wp2_with fail
  go_ret
  exact ⟨by cases z <;> rfl, hb⟩

set_option maxHeartbeats 4000000 in
theorem Index58 (B C g : Nat) (A D : Option Addr) (v m d n c : Nat) (cl : List (List Int)) (bs : List Bool) (w : World) (hg : w.cell? ⟨g, 0, none⟩ = some (.slice A n c)) (hgs : g < w.heap.size) (hz : RdR C w D cl) (hC : C ≤ w.heap.size) (hm : cl.length = m) (hm2 : m ≤ 1000000) (hr : RdB B w A bs) (hB : B ≤ w.heap.size) (hl : bs.length = n) (hin : ∀ j, j < cl.length → (cl[j]?.getD []).length ≤ maxLen) (hx : ∀ l ∈ cl, ∀ x ∈ l, Lit v x) (hv : v ≤ n) (hv2 : v ≤ 65537) (hn : n ≤ 65538) :
    Calls Try.prog 58 #[.slice D m d, .func (.func 41) #[] #[.pointer (some ⟨g, 0, none⟩)]] w fun e w' => ∃ r : Int, e = .returned (.int .i64 r) ∧ decide (0 ≤ r) = !(cl.all fun l => l.any (tv bs)) ∧ Below w.heap.size w w' := by
  obtain ⟨T, hT⟩ : ∃ T, (cl.all fun l => l.any (tv bs)) = T := ⟨_, rfl⟩
  rw [hT]
  have HT := Lib.hid hT
  have Hg := Lib.hid hg
  have Hl := Lib.hid hl
  have Hm := Lib.hid hm
  have Hx := Lib.hid hx
  have Hin := Lib.hid hin
  have R := Lib.hid hz
  have RB := Lib.hid hr
  clear hT hg hl hm hx hin hz hr
  go_enter Try.func58, Try.ntmps58
  go_wp2
  go_loopw [5, 8] (fun _ i wr => ∃ j : Nat, j ≤ m ∧ i = .int .i64 j ∧ (cl.take j).all (fun l => l.any (tv bs)) = true ∧ Below w.heap.size w wr) (fun _ i _ => m - (intOf i).toNat)
  case atStart => exact ⟨0, by omega, rfl, by simp, Below.refl _ _⟩
  case round =>
    obtain ⟨j, hj, rfl, hyes, low⟩ := hrel
    by_cases hlt : j < m
    · have hjl : j < cl.length := by rw [Hm.out]; exact hlt
      obtain ⟨b, off, rfl, _, hc⟩ := (R.out.below low hC) (by omega)
      obtain ⟨E, ec, hc1, hr1⟩ := hc j hjl
      have hxl := Hin.out j hjl
      have hmem : cl[j]?.getD [] ∈ cl := by rw [List.getElem?_eq_getElem hjl]; exact List.getElem_mem hjl
      have hlits := Hx.out _ hmem
      have htk : (cl.take (j + 1)).all (fun l => l.any (tv bs)) = ((cl.take j).all (fun l => l.any (tv bs)) && (cl[j]?.getD []).any (tv bs)) := by
        rw [List.take_add_one, List.getElem?_eq_getElem hjl, Option.toList_some, List.all_append]; simp
      have hbad : (cl[j]?.getD []).any (tv bs) = false → T = false := fun h => by
        rw [← HT.out, List.all_eq_false]
        exact ⟨_, hmem, by rw [h]; simp⟩
      rw [hyes, Bool.true_and] at htk
      have hg2 := (low.cell (p := ⟨g, 0, none⟩) hgs).trans Hg.out
      have hV := value_lit B C g A E v (cl[j]?.getD []).length ec n c (cl[j]?.getD []) bs wr hg2 hr1 (by have := low.size; omega) rfl hxl (RB.out.below low hB) (by have := low.size; omega) Hl.out hlits hv hv2 hn
      have HV := Lib.hid hV
      have Htk := Lib.hid htk
      have Hbad := Lib.hid hbad
      clear hc hjl hmem hlits htk hbad hV hyes hg2 R RB
      generalize cl[j]?.getD [] = x at *
      clear hr1
      obtain ⟨L, hL⟩ : ∃ L, x.length = L := ⟨_, rfl⟩
      rw [hL] at hc1 hxl HV
      clear hL
      cases ht : x.any (tv bs) with
      | true =>
        rw [ht] at HV
        have H2 := Htk.out
        rw [ht] at H2
        have H2 := Lib.hid H2
        clear ht Htk Hbad
        go_wp2_with fail
        refine HV.out.mono ?_
        rintro e w2 ⟨rfl, hb2⟩
        have low2 := low.trans (hb2.mono low.size)
        clear HV hb2
        go_wp2_with fail
        go_roundw
        case rel => exact ⟨j + 1, by omega, by go_num, H2.out, low2⟩
        case measure => simp [intOf]; omega
      | false =>
        rw [ht] at HV
        obtain rfl := Hbad.out ht
        clear ht Htk Hbad
        go_wp2_with fail
        refine HV.out.mono ?_
        rintro e w2 ⟨rfl, hb2⟩
        have low2 := low.trans (hb2.mono low.size)
        clear HV hb2
        go_wp2_with fail
        go_ret
        exact ⟨(j : Int), rfl, decide_eq_true (by omega), low2⟩
    · obtain rfl : j = m := by omega
      obtain rfl : T = true := by rw [← HT.out]; rwa [← Hm.out, List.take_length] at hyes
      clear hyes R RB HT
      go_wp2_with fail
      go_ret
      exact ⟨-1, rfl, rfl, low⟩

theorem Contains40 (B C g : Nat) (A D : Option Addr) (v m d n c : Nat) (cl : List (List Int)) (bs : List Bool) (w : World) (hg : w.cell? ⟨g, 0, none⟩ = some (.slice A n c)) (hgs : g < w.heap.size) (hz : RdR C w D cl) (hC : C ≤ w.heap.size) (hm : cl.length = m) (hm2 : m ≤ 1000000) (hr : RdB B w A bs) (hB : B ≤ w.heap.size) (hl : bs.length = n) (hin : ∀ j, j < cl.length → (cl[j]?.getD []).length ≤ maxLen) (hx : ∀ l ∈ cl, ∀ x ∈ l, Lit v x) (hv : v ≤ n) (hv2 : v ≤ 65537) (hn : n ≤ 65538) :
    Calls Try.prog 40 #[.slice D m d, .func (.func 41) #[] #[.pointer (some ⟨g, 0, none⟩)]] w fun e w' => e = .returned (.bool (!(cl.all fun l => l.any (tv bs)))) ∧ Below w.heap.size w w' := by
  have hI := Lib.hid (Index58 B C g A D v m d n c cl bs w hg hgs hz hC hm hm2 hr hB hl hin hx hv hv2 hn)
  clear hg hgs hz hC hm hr hl hx hm2 hn hv hv2 hin hB
  generalize (cl.all fun l => l.any (tv bs)) = z at *
  go_enter Try.func40, Try.ntmps40
  go_wp2_with fail
  refine hI.out.mono ?_
  rintro e w' ⟨r, rfl, hd, hb⟩
  clear hI
  go_wp2_with fail
  go_ret
  exact ⟨by cases z <;> rfl, hb⟩

set_option maxHeartbeats 4000000 in
theorem Value_any (B C : Nat) (A D : Option Addr) (v m d n c : Nat) (N : Int) (cl : List (List Int)) (bs : List Bool) (w : World) (hz : RdR C w D cl) (hC : C ≤ w.heap.size) (hm : cl.length = m) (hm2 : m ≤ 65536) (hr : RdB B w A bs) (hB : B ≤ w.heap.size) (hl : bs.length = n) (hin : ∀ j, j < cl.length → (cl[j]?.getD []).length ≤ maxLen) (hx : ∀ l ∈ cl, ∀ x ∈ l, Lit v x) (hv1 : 1 ≤ v) (hv : v ≤ n) (hv2 : v ≤ 65537) (hn : n ≤ 65538) (hN : N = (v : Int) - 1) :
    Calls Try.prog 23 #[.agg #[.int .i64 N, .slice D m d], .slice A n c] w fun e w' => e = .returned (.bool (cl.all fun l => l.any (tv bs))) ∧ Below w.heap.size w w' := by
  have hb1 := ((Below.refl w.heap.size w).alloc (Nat.le_refl _) (.cells #[.int .i64 N, .slice D m d] 36)).alloc (by simp) (.cells #[.slice A n c] 37)
  obtain ⟨W1, hW1⟩ : ∃ W1, W1 = (w.alloc (.cells #[.int .i64 N, .slice D m d] 36)).alloc (.cells #[.slice A n c] 37) := ⟨_, rfl⟩
  have hs1 : W1.heap.size = w.heap.size + 2 := by rw [hW1]; simp
  have g0 : W1.heap[w.heap.size]? = some (.cells #[.int .i64 N, .slice D m d] 36 (0, 0)) := by rw [hW1]; exact (heap_alloc_old _ _ (by simp)).trans (heap_alloc_new w _)
  have g1 : W1.heap[w.heap.size + 1]? = some (.cells #[.slice A n c] 37 (0, 0)) := by
    have := heap_alloc_new (w.alloc (.cells #[.int .i64 N, .slice D m d] 36)) (.cells #[.slice A n c] 37)
    rw [World.size_alloc] at this
    rw [hW1]; exact this
  rw [← hW1] at hb1
  have hCk := Check_ok W1.heap.size D v m d N cl W1 ((RdR.more (hz.below hb1 hC) (by omega))) (Nat.le_refl _) hm hm2 hN hv1 hv2 hin hx
  have q0 : W1.cell? ⟨w.heap.size, 0, none⟩ = some (.int .i64 N) := by rw [cell_of_row W1 w.heap.size 0 _ 36 (0, 0) g0]; rfl
  have q1 : W1.cell? ⟨w.heap.size, 1, none⟩ = some (.slice D m d) := by rw [cell_of_row W1 w.heap.size 1 _ 36 (0, 0) g0]; rfl
  have HCk := Lib.hid hCk
  have HW := Lib.hid hW1
  have K := Lib.hid (And.intro g0 (And.intro g1 (And.intro hb1 (And.intro (hz.below hb1 hC) (hr.below hb1 hB)))))
  have H := Lib.hid (And.intro hm (And.intro hl (And.intro hin hx)))
  clear hCk hW1 g0 g1 hb1 hz hr hm hl hin hx hN
  obtain ⟨T, hT⟩ : ∃ T, (cl.all fun l => l.any (tv bs)) = T := ⟨_, rfl⟩
  rw [hT]
  have HT := Lib.hid hT
  clear hT
  go_enter Try.func23, Try.ntmps23
  go_wp2_with fail
  rw [← HW.out]
  clear HW
  refine HCk.out.mono ?_
  rintro e w2 ⟨rfl, hb2⟩
  obtain ⟨g0, g1, hb1, rz, rb⟩ := K.out
  have p1 := (hb2.cell (p := ⟨w.heap.size, 1, none⟩) (by show w.heap.size < _; omega)).trans q1
  have p2 : w2.cell? ⟨w.heap.size + 1, 0, none⟩ = some (.slice A n c) := by
    rw [cell_of_row w2 (w.heap.size + 1) 0 _ 37 (0, 0) ((hb2.block _ (by omega)).trans g1)]; rfl
  have hs2 := hb2.size
  have hC40 := Contains40 B C (w.heap.size + 1) A D v m d n c cl bs w2 p2 (by omega) (rz.below hb2 (by omega)) (by omega) H.out.1 (by omega) (rb.below hb2 (by omega)) (by omega) H.out.2.1 H.out.2.2.1 H.out.2.2.2 hv hv2 hn
  rw [HT.out] at hC40
  have HC := Lib.hid hC40
  have hb12 := hb1.trans (hb2.mono (by omega))
  clear hC40 g0 g1 hb1 rz rb hb2 HCk q0 q1 K p2 H HT
  go_wp2_with fail
  refine HC.out.mono ?_
  rintro e w3 ⟨rfl, hb3⟩
  have hb13 := hb12.trans (hb3.mono (by omega))
  clear HC
  go_wp2_with fail
  go_ret
  exact ⟨by cases T <;> rfl, hb13⟩
end Go.Proofs.Ytpeklcbjhkchlaa
