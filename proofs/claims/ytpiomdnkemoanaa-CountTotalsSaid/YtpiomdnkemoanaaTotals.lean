/- For every slice of integers, every number k and every slice of bools, the law CountTotals answers true at the landed code and changes nothing that came in: the clauses of Least can be satisfied under an assignment just where the totalizer's clauses with its k-th output can, as far as it is tried. Conditions: those of the statement alone. -/
import Derived.Test.YtpiomdnkemoanaaTFin
namespace Go.Proofs.Ytpiomdnkemoanaa
open Go.ChangeShapes Go.WideShapes Go.ChangeAt Go.RowKit

set_option maxHeartbeats 4000000 in
theorem totals_out (A D : Option Addr) (n c m d : Nat) (k : Int) (w : World) (h : 5 < m ∨ 5 < n) :
    Calls Try.prog 9 #[.slice A n c, .int .i64 k, .slice D m d] w fun e w' => e = .returned (.bool true) ∧ Below w.heap.size w w' := by
  by_cases h1 : 5 < m
  · clear h
    go_enter Try.func9, Try.ntmps9
    go_wp2_with fail
    refine (live_any w).mono ?_
    rintro e w1 ⟨rfl, hb1⟩
    go_wp2_with fail
    go_ret
    exact ⟨rfl, hb1⟩
  · have h2 : 5 < n := by omega
    clear h
    go_enter Try.func9, Try.ntmps9
    go_wp2_with fail
    refine (live_any w).mono ?_
    rintro e w1 ⟨rfl, hb1⟩
    go_wp2_with fail
    go_ret
    exact ⟨rfl, hb1⟩

set_option maxRecDepth 100000 in
set_option maxHeartbeats 8000000 in
theorem totals_err (A D : Option Addr) (n c m d N  : Nat) (k : Int) (zs : List Int) (ins bs : List Bool) (w : World) (hr : RdI w.heap.size w A zs) (hl : zs.length = n) (hn : n ≤ 5) (hD : RdB w.heap.size w D ins) (hm : ins.length = m) (hm2 : m ≤ 5) (hDn : D = none → d = 0) (hbs : (false :: ins) = bs) (hbl : (false :: ins).length = N) (_hN1 : 1 ≤ N) (_hN : N ≤ 6)
    (E : Int) (hE : E ≠ 0) (hT : ∀ W : World, RdI W.heap.size W A zs → Calls Try.prog 13 #[.slice A n c, .int .i64 k, .int .i64 (N : Int)] W (LsRes W [] 0 E))
    (hU : ∀ W : World, RdI W.heap.size W A zs → Calls Try.prog 25 #[.slice A n c, .int .i64 (n : Int), .int .i64 (N : Int)] W (Ttl.TotErr W E)) :
    Calls Try.prog 9 #[.slice A n c, .int .i64 k, .slice D m d] w fun e w' => e = .returned (.bool true) ∧ Below w.heap.size w w' := by
  have Hm := Lib.hid hm
  have Hbl := Lib.hid hbl
  have Hl := Lib.hid hl
  have Hbs := Lib.hid hbs
  have d0 : (E != 0) = true := by simpa using hE
  have d1 : (E == E) = true := by simp
  clear hm hbl hl hbs
  go_enter Try.func9, Try.ntmps9
  go_wp2_with fail
  refine (live_any w).mono ?_
  rintro e w1 ⟨rfl, hb1⟩
  go_wp2_with (at_builtin; refine push_bools rfl _ _ rfl w1.heap.size _ [false] rfl (RowV.one w1 w1.heap.size false (Nat.le_refl _)) w.heap.size D m d ins rfl ?hr Hm.out hDn ?h1 ?h2 ?_)
  case hr => exact (hD.below hb1 (Nat.le_refl _)).below ((Below.refl w1.heap.size w1).alloc (Nat.le_refl _) _) hb1.size
  case h1 => simp; omega
  case h2 => simp
  intro v2 w2 own2 hb2
  have own2 : RowV w2 w1.heap.size v2 (false :: ins) := own2
  have hb12 := hb1.trans (((Below.refl w1.heap.size w1).alloc (Nat.le_refl _) _).trans hb2 |>.mono hb1.size)
  obtain ⟨A2, c2, hv2, hc2, hcm2, rb2⟩ := own2.shape
  rw [Hbl.out] at hv2 hc2
  rw [Hbs.out] at rb2
  have hr2 := hr.below hb12 (Nat.le_refl _) |>.more hb12.size
  subst hv2
  clear own2 hb2 hr hD hb1 hDn
  have Hbl : Hid (bs.length = N) := by rw [← Hbs.out]; exact Hbl
  go_wp2_with fail
  refine (hT w2 hr2).mono ?_
  rintro e w3 ⟨A3, c3, rfl, _, hb3, _⟩
  have hr3 := hr2.below hb3 (Nat.le_refl _) |>.more hb3.size
  have hb13 := hb12.trans (hb3.mono hb12.size)
  clear hT hr2 hb12
  go_wp2_with fail
  refine (hU w3 hr3).mono ?_
  rintro e w4 ⟨rfl, hb4⟩
  have hb14 := hb13.trans (hb4.mono hb13.size)
  clear hU hr3 hb13
  go_wp2_with fail
  go_ret
  exact ⟨rfl, hb14⟩

set_option maxRecDepth 100000 in
set_option maxHeartbeats 8000000 in
theorem totals_k (A D : Option Addr) (n c m d N a b C1 C2 : Nat) (k : Int) (zs : List Int) (ins bs : List Bool) (w : World) (hr : RdI w.heap.size w A zs) (hl : zs.length = n) (hn : n ≤ 5) (hD : RdB w.heap.size w D ins) (hm : ins.length = m) (hm2 : m ≤ 5) (hDn : D = none → d = 0) (hbs : (false :: ins) = bs) (hbl : (false :: ins).length = N) (_hN1 : 1 ≤ N) (_hN : N ≤ 6)
    (cl dl : List (List Int)) (outs : List Int) (hC : cl.length = C1) (hol : outs.length = n) (hdl : dl.length = C2)
    (hT : ∀ W : World, RdI W.heap.size W A zs → Calls Try.prog 13 #[.slice A n c, .int .i64 k, .int .i64 (N : Int)] W (LsRes W cl a 0))
    (hU : ∀ W : World, RdI W.heap.size W A zs → Calls Try.prog 25 #[.slice A n c, .int .i64 (n : Int), .int .i64 (N : Int)] W (Ttl.TotOk W outs dl b))
    (hk : k < 1 ∨ (n : Int) < k) :
    Calls Try.prog 9 #[.slice A n c, .int .i64 k, .slice D m d] w fun e w' => e = .returned (.bool true) ∧ Below w.heap.size w w' := by
  have Hm := Lib.hid hm
  have Hbl := Lib.hid hbl
  have Hl := Lib.hid hl
  have Hbs := Lib.hid hbs
  have HC := Lib.hid hC
  have HO := Lib.hid (And.intro hol hdl)
  clear hm hbl hl hbs hC hol hdl
  go_enter Try.func9, Try.ntmps9
  go_wp2_with fail
  refine (live_any w).mono ?_
  rintro e w1 ⟨rfl, hb1⟩
  go_wp2_with (at_builtin; refine push_bools rfl _ _ rfl w1.heap.size _ [false] rfl (RowV.one w1 w1.heap.size false (Nat.le_refl _)) w.heap.size D m d ins rfl ?hr Hm.out hDn ?h1 ?h2 ?_)
  case hr => exact (hD.below hb1 (Nat.le_refl _)).below ((Below.refl w1.heap.size w1).alloc (Nat.le_refl _) _) hb1.size
  case h1 => simp; omega
  case h2 => simp
  intro v2 w2 own2 hb2
  have own2 : RowV w2 w1.heap.size v2 (false :: ins) := own2
  have hb12 := hb1.trans (((Below.refl w1.heap.size w1).alloc (Nat.le_refl _) _).trans hb2 |>.mono hb1.size)
  obtain ⟨A2, c2, hv2, hc2, hcm2, rb2⟩ := own2.shape
  rw [Hbl.out] at hv2 hc2
  rw [Hbs.out] at rb2
  have hr2 := hr.below hb12 (Nat.le_refl _) |>.more hb12.size
  subst hv2
  clear own2 hb2 hr hD hb1 hDn
  have Hbl : Hid (bs.length = N) := by rw [← Hbs.out]; exact Hbl
  go_wp2_with fail
  refine (hT w2 hr2).mono ?_
  rintro e w3 ⟨A3, c3, rfl, r3, hb3, hl3⟩
  rw [HC.out]
  have hr3 := hr2.below hb3 (Nat.le_refl _) |>.more hb3.size
  have rb3 := rb2.below hb3 (Nat.le_refl _) |>.more hb3.size
  have hb13 := hb12.trans (hb3.mono hb12.size)
  have Hl3 := Lib.hid hl3
  clear hT hr2 rb2 hb12 hl3
  go_wp2_with fail
  refine (hU w3 hr3).mono ?_
  intro e w4 q4
  obtain ⟨A4, c4, A5, c5, rfl, r4o, hnone5, r4d, hb4, hl4⟩ := Ttl.TotOk.readx q4
  clear q4
  rw [HO.out.1, HO.out.2]
  have hr4 := hr3.below hb4 (Nat.le_refl _) |>.more hb4.size
  have rb4 := rb3.below hb4 (Nat.le_refl _) |>.more hb4.size
  have r3 := (r3.below hb4 (Nat.le_refl _)).more hb4.size
  have hb14 := hb13.trans (hb4.mono hb13.size)
  have Hl4 := Lib.hid hl4
  clear hU hr3 rb3 hb13 hb3 hb4 hl4
  rcases hk with hk | hk
  · go_wp2_with fail
    go_ret
    exact ⟨by first | rfl | simp, hb14⟩
  · by_cases hk2 : k < 1
    · omega
    · go_wp2_with fail
      go_ret
      exact ⟨by first | rfl | simp, hb14⟩

set_option maxRecDepth 100000 in
set_option maxHeartbeats 8000000 in
theorem totals_big (A D : Option Addr) (n c m d N a b C1 C2 : Nat) (k : Int) (zs : List Int) (ins bs : List Bool) (w : World) (hr : RdI w.heap.size w A zs) (hl : zs.length = n) (hn : n ≤ 5) (hD : RdB w.heap.size w D ins) (hm : ins.length = m) (hm2 : m ≤ 5) (hDn : D = none → d = 0) (hbs : (false :: ins) = bs) (hbl : (false :: ins).length = N) (_hN1 : 1 ≤ N) (_hN : N ≤ 6)
    (cl dl : List (List Int)) (outs : List Int) (hC : cl.length = C1) (hol : outs.length = n) (hdl : dl.length = C2)
    (hT : ∀ W : World, RdI W.heap.size W A zs → Calls Try.prog 13 #[.slice A n c, .int .i64 k, .int .i64 (N : Int)] W (LsRes W cl a 0))
    (hU : ∀ W : World, RdI W.heap.size W A zs → Calls Try.prog 25 #[.slice A n c, .int .i64 (n : Int), .int .i64 (N : Int)] W (Ttl.TotOk W outs dl b))
    (hk1 : 1 ≤ k) (hk2 : k ≤ (n : Int)) (F S : Nat) (ha : N + F = a) (hb : N + S = b) (hF : F ≤ 40000) (hS : S ≤ 40000) (hbig : 9 < F ∨ 9 < S) :
    Calls Try.prog 9 #[.slice A n c, .int .i64 k, .slice D m d] w fun e w' => e = .returned (.bool true) ∧ Below w.heap.size w w' := by
  have Hm := Lib.hid hm
  have Hbl := Lib.hid hbl
  have Hl := Lib.hid hl
  have Hbs := Lib.hid hbs
  have HC := Lib.hid hC
  have HO := Lib.hid (And.intro hol hdl)
  clear hm hbl hl hbs hC hol hdl
  have ha2 : (a : Int) - (N : Int) = (F : Int) := by omega
  have hb2 : (b : Int) - (N : Int) = (S : Int) := by omega
  go_enter Try.func9, Try.ntmps9
  go_wp2_with fail
  refine (live_any w).mono ?_
  rintro e w1 ⟨rfl, hb1⟩
  go_wp2_with (at_builtin; refine push_bools rfl _ _ rfl w1.heap.size _ [false] rfl (RowV.one w1 w1.heap.size false (Nat.le_refl _)) w.heap.size D m d ins rfl ?hr Hm.out hDn ?h1 ?h2 ?_)
  case hr => exact (hD.below hb1 (Nat.le_refl _)).below ((Below.refl w1.heap.size w1).alloc (Nat.le_refl _) _) hb1.size
  case h1 => simp; omega
  case h2 => simp
  intro v2 w2 own2 hbx2
  have own2 : RowV w2 w1.heap.size v2 (false :: ins) := own2
  have hb12 := hb1.trans (((Below.refl w1.heap.size w1).alloc (Nat.le_refl _) _).trans hbx2 |>.mono hb1.size)
  obtain ⟨A2, c2, hv2, hc2, hcm2, rb2⟩ := own2.shape
  rw [Hbl.out] at hv2 hc2
  rw [Hbs.out] at rb2
  have hr2 := hr.below hb12 (Nat.le_refl _) |>.more hb12.size
  subst hv2
  clear own2 hbx2 hr hD hb1 hDn
  have Hbl : Hid (bs.length = N) := by rw [← Hbs.out]; exact Hbl
  go_wp2_with fail
  refine (hT w2 hr2).mono ?_
  rintro e w3 ⟨A3, c3, rfl, r3, hb3, hl3⟩
  rw [HC.out]
  have hr3 := hr2.below hb3 (Nat.le_refl _) |>.more hb3.size
  have rb3 := rb2.below hb3 (Nat.le_refl _) |>.more hb3.size
  have hb13 := hb12.trans (hb3.mono hb12.size)
  have Hl3 := Lib.hid hl3
  clear hT hr2 rb2 hb12 hl3
  go_wp2_with fail
  refine (hU w3 hr3).mono ?_
  intro e w4 q4
  obtain ⟨A4, c4, A5, c5, rfl, r4o, hnone5, r4d, hb4, hl4⟩ := Ttl.TotOk.readx q4
  clear q4
  rw [HO.out.1, HO.out.2]
  have hr4 := hr3.below hb4 (Nat.le_refl _) |>.more hb4.size
  have rb4 := rb3.below hb4 (Nat.le_refl _) |>.more hb4.size
  have r3 := (r3.below hb4 (Nat.le_refl _)).more hb4.size
  have hb14 := hb13.trans (hb4.mono hb13.size)
  have Hl4 := Lib.hid hl4
  clear hU hr3 rb3 hb13 hb3 hb4 hl4
  by_cases q : 9 < F
  · have d0 : decide ((9 : Int) < (F : Int)) = true := decide_eq_true (by omega)
    clear hbig
    go_wp2_with fail
    go_ret
    exact ⟨rfl, hb14⟩
  · have d0 : decide ((9 : Int) < (F : Int)) = false := decide_eq_false (by omega)
    have d1 : decide ((9 : Int) < (S : Int)) = true := decide_eq_true (by omega)
    clear hbig
    go_wp2_with fail
    go_ret
    exact ⟨rfl, hb14⟩

set_option maxRecDepth 100000 in
set_option maxHeartbeats 8000000 in
theorem totals_main (A D : Option Addr) (n c m d N a b C1 C2 : Nat) (k : Int) (zs : List Int) (ins bs : List Bool) (w : World) (hr : RdI w.heap.size w A zs) (hl : zs.length = n) (hn : n ≤ 5) (hD : RdB w.heap.size w D ins) (hm : ins.length = m) (hm2 : m ≤ 5) (hDn : D = none → d = 0) (hbs : (false :: ins) = bs) (hbl : (false :: ins).length = N) (hN1 : 1 ≤ N) (hN : N ≤ 6)
    (cl dl : List (List Int)) (outs : List Int) (hC : cl.length = C1) (hol : outs.length = n) (hdl : dl.length = C2)
    (hT : ∀ W : World, RdI W.heap.size W A zs → Calls Try.prog 13 #[.slice A n c, .int .i64 k, .int .i64 (N : Int)] W (LsRes W cl a 0))
    (hU : ∀ W : World, RdI W.heap.size W A zs → Calls Try.prog 25 #[.slice A n c, .int .i64 (n : Int), .int .i64 (N : Int)] W (Ttl.TotOk W outs dl b))
    (K K1 F S : Nat) (o : Int) (hkK : k = (K : Int)) (hK1 : K1 + 1 = K) (hK2 : K ≤ n) (ho : outs[K1]?.getD 0 = o) (hwo : Wf o) (ha : N + F = a) (hb : N + S = b) (hF : F ≤ 9) (hS : S ≤ 9) (hC2 : C2 ≤ 10000)
    (h1 : CanOf N cl a F (fun bs => k ≤ (ct bs zs : Int))) (h2 : CanOf N (dl ++ [[o]]) b S (fun bs => k ≤ (ct bs zs : Int))) :
    Calls Try.prog 9 #[.slice A n c, .int .i64 k, .slice D m d] w fun e w' => e = .returned (.bool true) ∧ Below w.heap.size w w' := by
  have Hm := Lib.hid hm
  have Hbl := Lib.hid hbl
  have Hl := Lib.hid hl
  have Hbs := Lib.hid hbs
  have HC := Lib.hid hC
  have HO := Lib.hid (And.intro hol hdl)
  clear hm hbl hl hbs hC hol hdl
  subst hkK
  have H1 := Lib.hid h1
  have H2 := Lib.hid h2
  have hk3 : (K : Int) - 1 = (K1 : Int) := by omega
  have ha2 : (a : Int) - (N : Int) = (F : Int) := by omega
  have hb2 : (b : Int) - (N : Int) = (S : Int) := by omega
  have hK0 : 1 ≤ K := by omega
  have HoK := Lib.hid (And.intro ho hwo)
  have HK1 := Lib.hid hK1
  clear h1 h2 ho hwo hK1
  go_enter Try.func9, Try.ntmps9
  go_wp2_with fail
  refine (live_any w).mono ?_
  rintro e w1 ⟨rfl, hb1⟩
  go_wp2_with (at_builtin; refine push_bools rfl _ _ rfl w1.heap.size _ [false] rfl (RowV.one w1 w1.heap.size false (Nat.le_refl _)) w.heap.size D m d ins rfl ?hr Hm.out hDn ?h1 ?h2 ?_)
  case hr => exact (hD.below hb1 (Nat.le_refl _)).below ((Below.refl w1.heap.size w1).alloc (Nat.le_refl _) _) hb1.size
  case h1 => simp; omega
  case h2 => simp
  intro v2 w2 own2 hbx2
  have own2 : RowV w2 w1.heap.size v2 (false :: ins) := own2
  have hb12 := hb1.trans (((Below.refl w1.heap.size w1).alloc (Nat.le_refl _) _).trans hbx2 |>.mono hb1.size)
  obtain ⟨A2, c2, hv2, hc2, hcm2, rb2⟩ := own2.shape
  rw [Hbl.out] at hv2 hc2
  rw [Hbs.out] at rb2
  have hr2 := hr.below hb12 (Nat.le_refl _) |>.more hb12.size
  subst hv2
  clear own2 hbx2 hr hD hb1 hDn
  have Hbl : Hid (bs.length = N) := by rw [← Hbs.out]; exact Hbl
  go_wp2_with fail
  refine (hT w2 hr2).mono ?_
  rintro e w3 ⟨A3, c3, rfl, r3, hb3, hl3⟩
  rw [HC.out]
  have hr3 := hr2.below hb3 (Nat.le_refl _) |>.more hb3.size
  have rb3 := rb2.below hb3 (Nat.le_refl _) |>.more hb3.size
  have hb13 := hb12.trans (hb3.mono hb12.size)
  have Hl3 := Lib.hid hl3
  clear hT hr2 rb2 hb12 hl3
  go_wp2_with fail
  refine (hU w3 hr3).mono ?_
  intro e w4 q4
  obtain ⟨A4, c4, A5, c5, rfl, r4o, hnone5, r4d, hb4, hl4⟩ := Ttl.TotOk.readx q4
  clear q4
  rw [HO.out.1, HO.out.2]
  have hr4 := hr3.below hb4 (Nat.le_refl _) |>.more hb4.size
  have rb4 := rb3.below hb4 (Nat.le_refl _) |>.more hb4.size
  have r3 := (r3.below hb4 (Nat.le_refl _)).more hb4.size
  have hb14 := hb13.trans (hb4.mono hb13.size)
  have Hl4 := Lib.hid hl4
  clear hU hr3 rb3 hb13 hb3 hb4 hl4
  have HK := HK1.out
  have hK1n : K1 < n := by omega
  clear HK
  have hsz14 := hb14.size
  obtain ⟨bo, oo, rfl, hbo, hcO⟩ := r4o.2 (by rw [HO.out.1]; omega)
  have hcell0 := hcO K1 (by rw [HO.out.1]; exact hK1n)
  rw [HoK.out.1] at hcell0
  obtain ⟨T, hT⟩ : ∃ T, ct bs zs = T := ⟨_, rfl⟩
  have HT := Lib.hid hT
  clear hT
  obtain ⟨z1, hz1⟩ : ∃ z, decide ((K : Int) ≤ (T : Int)) = z := ⟨_, rfl⟩
  have hlen5 : (dl ++ [[o]]).length = C2 + 1 := by rw [List.length_append, HO.out.2]; rfl
  have hg5 : ∀ j, j < (dl ++ [[o]]).length → ((dl ++ [[o]])[j]?.getD []).length ≤ maxLen := by
    intro j hj
    by_cases q : j < dl.length
    · rw [List.getElem?_append_left q]; exact Hl4.out j q
    · rw [hlen5] at hj
      have : j = dl.length := by have := HO.out.2; omega
      rw [this, List.getElem?_append_right (Nat.le_refl _), Nat.sub_self]
      show ([o] : List Int).length ≤ maxLen
      unfold maxLen; simp
  -- what is left when the region has been walked
  have key : Hid (∀ (A6 : Option Addr) (c6 : Nat) (W : World), RdR W.heap.size W A6 (dl ++ [[o]]) → Below w4.heap.size w4 W →
      (Calls Try.prog 18 #[.slice A3 C1 c3, .slice A2 N c2, .int .i64 (a : Int)] W fun e w' => e = .returned (.tuple #[.bool z1, .bool true]) ∧ Below W.heap.size W w') ∧
      ∀ w', Below W.heap.size W w' → Calls Try.prog 18 #[.slice A6 (C2 + 1) c6, .slice A2 N c2, .int .i64 (b : Int)] w' fun e w'' => e = .returned (.tuple #[.bool z1, .bool true]) ∧ Below w'.heap.size w' w'') := by
    refine Lib.hid fun A6 c6 W hR hW => ?_
    have hsW := hW.size
    have i1 := can_any A3 A2 C1 c3 N c2 a F cl bs _ z1 W ((r3.below hW (Nat.le_refl _)).more hsW) HC.out Hl3.out ((rb4.below hW (Nat.le_refl _)).more hsW) Hbl.out hN1 (by omega) H1.out (by rw [HT.out, ← hz1]; simp)
    rw [decide_eq_true hF, Bool.true_and] at i1
    refine ⟨i1, fun w' hw' => ?_⟩
    have hsw' := hw'.size
    have i2 := can_any A6 A2 (C2 + 1) c6 N c2 b S (dl ++ [[o]]) bs _ z1 w' ((hR.below hw' (Nat.le_refl _)).more hsw') hlen5 hg5 (((rb4.below hW (Nat.le_refl _)).more hsW).below hw' (Nat.le_refl _) |>.more hsw') Hbl.out hN1 (by omega) H2.out (by rw [HT.out, ← hz1]; simp)
    rw [decide_eq_true hS, Bool.true_and] at i2
    exact i2
  have hwo := HoK.out.2
  clear hr4 rb4 r3 H1 H2 HC hcO Hl3 Hl4 hg5 hlen5 r4o HK1 HT HoK
  go_wp2_with fail
  have hb0 : Below w4.heap.size w4 (World.drew w4) := below_drewN (Below.refl _ _) 1
  refine wp_region_any (by kernel_rfl) ?_
  change wpAny _ _ _ _ _ _ _ (World.drew w4)
  generalize World.drew w4 = W0 at *
  refine Ttl.take_now (i := 0) (some 97) (v := ?_) rfl (by kernel_rfl) (by kernel_rfl) (by kernel_rfl) (fun _ _ _ h => h) (Or.inl ⟨by rfl, ?_⟩) rfl ?_
  rotate_left
  focus (intro w; go_simp; try with_reducible rfl)
  try simp only [Act.put, List.setIfInBounds_toArray, List.set_cons_zero, List.set_cons_succ]
  refine Ttl.take_now (i := 2) (some 99) (v := ?_) rfl (by kernel_rfl) (by kernel_rfl) (by kernel_rfl) (fun _ _ _ h => h) (Or.inl ⟨by rfl, ?_⟩) rfl ?_
  rotate_left
  focus (intro w; go_simp; try with_reducible rfl)
  try simp only [Act.put, List.setIfInBounds_toArray, List.set_cons_zero, List.set_cons_succ]
  refine Ttl.take_now (i := 3) (some 100) (v := ?_) rfl (by kernel_rfl) (by kernel_rfl) (by kernel_rfl) (fun _ _ _ h => h) (Or.inl ⟨by rfl, ?_⟩) rfl ?_
  rotate_left
  focus (intro w; go_simp; try with_reducible rfl)
  try simp only [Act.put, List.setIfInBounds_toArray, List.set_cons_zero, List.set_cons_succ]
  refine Ttl.take_now (i := 4) (some 101) (v := ?_) rfl (by kernel_rfl) (by kernel_rfl) (by kernel_rfl) (fun _ _ _ h => h) (Or.inl ⟨by rfl, ?_⟩) rfl ?_
  rotate_left
  focus (intro w; go_simp; try with_reducible rfl)
  try simp only [Act.put, List.setIfInBounds_toArray, List.set_cons_zero, List.set_cons_succ]
  have hwK : IntKind.i64.wrap (K1 : Int) = (K1 : Int) := IntWalk.i64_in _ (by omega)
  have hcond : 0 ≤ (K1 : Int) ∧ (K1 : Int) < (n : Int) := by omega
  refine Ttl.take_now (i := 5) (some 102) (v := .pointer (some ⟨bo, oo + K1, none⟩)) rfl (by kernel_rfl) (by kernel_rfl) (by kernel_rfl) (fun _ _ _ h => h) (Or.inl ⟨by rfl, ?_⟩) rfl ?_
  focus (intro w; go_simp)
  try simp only [Act.put, List.setIfInBounds_toArray, List.set_cons_zero, List.set_cons_succ]
  refine wpAny_ready (rs := [1, 6]) (by kernel_rfl) (by simp) (AllReady.cons rfl (fun K hK => ?_) (AllReady.cons rfl (fun K hK => ?_) AllReady.nil))
  · refine Ttl.step_cls rfl (.const (.slice none 0 0)) (.tmp 97) rfl rfl W0.heap.size w4.heap.size A5 C2 c5 dl (by simp [Act.eval] <;> rfl) (r4d.below hb0 (Nat.le_refl _)) HO.out.2 hnone5 (by omega) hb0.size (Nat.le_refl _) ?_
    intro v1 W0a rowc0 lowa
    have rowc := Ttl.RowC.base rowc0 hb0.size
    obtain ⟨A1c, c1c, hv1c, _⟩ := rowc.res (by have h1 := hb0.size; have h2 := lowa.size; omega)
    subst hv1c
    have hb0a := hb0.trans (lowa.mono hb0.size)
    refine hK _ _ ?_
    clear hK K
    refine wpAny_ready (rs := [6]) (by kernel_rfl) (by simp) (AllReady.cons rfl (fun K hK => ?_) AllReady.nil)
    have hcell := (hb0a.cell (p := ⟨bo, oo + K1, none⟩) hbo).trans hcell0
    go_simp
    refine hK _ _ ?_
    clear hK K hcell
    refine wpAny_ready (rs := [7]) (by kernel_rfl) (by simp) (AllReady.cons rfl (fun K hK => ?_) AllReady.nil)
    go_simp
    refine hK _ _ ?_
    clear hK K
    have row7 := RowI.one W0a w4.heap.size o hwo hb0a.size
    have rowc := Ttl.RowC.alloc rowc hb0a.size (.cells #[.int .i64 o] 3)
    have hb0ab := hb0a.alloc hb0a.size (.cells #[.int .i64 o] 3)
    generalize hW : W0a.alloc (.cells #[.int .i64 o] 3) = W0ab at *
    skip
    refine wpAny_ready (rs := [8]) (by kernel_rfl) (by simp) (AllReady.cons rfl (fun K hK => ?_) AllReady.nil)
    go_simp
    refine hK _ _ ?_
    clear hK K
    have row7 := row7.alloc (.cells #[.slice (some ⟨W0a.heap.size, 0, none⟩) 1 1] 22)
    have rowc := Ttl.RowC.alloc rowc hb0ab.size (.cells #[.slice (some ⟨W0a.heap.size, 0, none⟩) 1 1] 22)
    have hb0abc := hb0ab.alloc hb0ab.size (.cells #[.slice (some ⟨W0a.heap.size, 0, none⟩) 1 1] 22)
    have cell8 : (W0ab.alloc (.cells #[.slice (some ⟨W0a.heap.size, 0, none⟩) 1 1] 22)).cell? ⟨W0ab.heap.size, 0, none⟩ = some (.slice (some ⟨W0a.heap.size, 0, none⟩) 1 1) := (Boxed.new W0ab 22 _).cell
    have h8lt : W0ab.heap.size < (W0ab.alloc (.cells #[.slice (some ⟨W0a.heap.size, 0, none⟩) 1 1] 22)).heap.size := by simp
    generalize hW8 : W0ab.alloc (.cells #[.slice (some ⟨W0a.heap.size, 0, none⟩) 1 1] 22) = W0abc at *
    refine wpAny_ready (rs := [9]) (by kernel_rfl) (by simp) (AllReady.cons rfl (fun K hK => ?_) AllReady.nil)
    refine Ttl.step_last rfl (.tmp 98) (.tmp 105) rfl w4.heap.size w4.heap.size _ _ dl [o] (by simp [Act.eval] <;> rfl) rowc row7 _ (by simp [Act.eval] <;> rfl) cell8 (by rw [HO.out.2]; omega) (Nat.le_refl _) hb0abc.size (C2 + 1) (by rw [HO.out.2]) ?_
    intro A6 c6 W9 hR9 hb9
    have hbf := hb0abc.trans hb9
    refine hK _ _ ?_
    clear hK K
    refine wpAny_ready (rs := [10]) (by kernel_rfl) (by simp) (AllReady.cons rfl (fun K hK => ?_) AllReady.nil)
    go_simp
    refine hK _ _ ?_
    clear hK K
    refine wpAny_done (by kernel_rfl) ?_ _
    obtain ⟨i1, i2⟩ := key.out A6 c6 W9 hR9 hbf
    have I1 := Lib.hid i1
    have I2 := Lib.hid i2
    have hb19 := hb14.trans (hbf.mono hsz14)
    clear i1 i2 key hR9 row7 cell8 rowc
    go_wp2_with fail
    refine I1.out.mono ?_
    rintro e w10 ⟨rfl, hb10⟩
    have hb110 := hb19.trans (hb10.mono hb19.size)
    have J2 := I2.out w10 hb10
    go_wp2_with fail
    refine J2.mono ?_
    rintro e w11 ⟨rfl, hb11⟩
    have hb111 := hb110.trans (hb11.mono hb110.size)
    clear J2 I1 I2
    go_wp2_with fail
    go_ret
    exact ⟨by first | rfl | (cases z1 <;> rfl), hb111⟩
  · have hcell := (hb0.cell (p := ⟨bo, oo + K1, none⟩) hbo).trans hcell0
    go_simp
    refine hK _ _ ?_
    clear hK K hcell
    refine wpAny_ready (rs := [1, 7]) (by kernel_rfl) (by simp) (AllReady.cons rfl (fun K hK => ?_) (AllReady.cons rfl (fun K hK => ?_) AllReady.nil))
    · refine Ttl.step_cls rfl (.const (.slice none 0 0)) (.tmp 97) rfl rfl W0.heap.size w4.heap.size A5 C2 c5 dl (by simp [Act.eval] <;> rfl) (r4d.below hb0 (Nat.le_refl _)) HO.out.2 hnone5 (by omega) hb0.size (Nat.le_refl _) ?_
      intro v1 W0a rowc0 lowa
      have rowc := Ttl.RowC.base rowc0 hb0.size
      obtain ⟨A1c, c1c, hv1c, _⟩ := rowc.res (by have h1 := hb0.size; have h2 := lowa.size; omega)
      subst hv1c
      have hb0a := hb0.trans (lowa.mono hb0.size)
      refine hK _ _ ?_
      clear hK K
      refine wpAny_ready (rs := [7]) (by kernel_rfl) (by simp) (AllReady.cons rfl (fun K hK => ?_) AllReady.nil)
      go_simp
      refine hK _ _ ?_
      clear hK K
      have row7 := RowI.one W0a w4.heap.size o hwo hb0a.size
      have rowc := Ttl.RowC.alloc rowc hb0a.size (.cells #[.int .i64 o] 3)
      have hb0ab := hb0a.alloc hb0a.size (.cells #[.int .i64 o] 3)
      generalize hW : W0a.alloc (.cells #[.int .i64 o] 3) = W0ab at *
      skip
      refine wpAny_ready (rs := [8]) (by kernel_rfl) (by simp) (AllReady.cons rfl (fun K hK => ?_) AllReady.nil)
      go_simp
      refine hK _ _ ?_
      clear hK K
      have row7 := row7.alloc (.cells #[.slice (some ⟨W0a.heap.size, 0, none⟩) 1 1] 22)
      have rowc := Ttl.RowC.alloc rowc hb0ab.size (.cells #[.slice (some ⟨W0a.heap.size, 0, none⟩) 1 1] 22)
      have hb0abc := hb0ab.alloc hb0ab.size (.cells #[.slice (some ⟨W0a.heap.size, 0, none⟩) 1 1] 22)
      have cell8 : (W0ab.alloc (.cells #[.slice (some ⟨W0a.heap.size, 0, none⟩) 1 1] 22)).cell? ⟨W0ab.heap.size, 0, none⟩ = some (.slice (some ⟨W0a.heap.size, 0, none⟩) 1 1) := (Boxed.new W0ab 22 _).cell
      have h8lt : W0ab.heap.size < (W0ab.alloc (.cells #[.slice (some ⟨W0a.heap.size, 0, none⟩) 1 1] 22)).heap.size := by simp
      generalize hW8 : W0ab.alloc (.cells #[.slice (some ⟨W0a.heap.size, 0, none⟩) 1 1] 22) = W0abc at *
      refine wpAny_ready (rs := [9]) (by kernel_rfl) (by simp) (AllReady.cons rfl (fun K hK => ?_) AllReady.nil)
      refine Ttl.step_last rfl (.tmp 98) (.tmp 105) rfl w4.heap.size w4.heap.size _ _ dl [o] (by simp [Act.eval] <;> rfl) rowc row7 _ (by simp [Act.eval] <;> rfl) cell8 (by rw [HO.out.2]; omega) (Nat.le_refl _) hb0abc.size (C2 + 1) (by rw [HO.out.2]) ?_
      intro A6 c6 W9 hR9 hb9
      have hbf := hb0abc.trans hb9
      refine hK _ _ ?_
      clear hK K
      refine wpAny_ready (rs := [10]) (by kernel_rfl) (by simp) (AllReady.cons rfl (fun K hK => ?_) AllReady.nil)
      go_simp
      refine hK _ _ ?_
      clear hK K
      refine wpAny_done (by kernel_rfl) ?_ _
      obtain ⟨i1, i2⟩ := key.out A6 c6 W9 hR9 hbf
      have I1 := Lib.hid i1
      have I2 := Lib.hid i2
      have hb19 := hb14.trans (hbf.mono hsz14)
      clear i1 i2 key hR9 row7 cell8 rowc
      go_wp2_with fail
      refine I1.out.mono ?_
      rintro e w10 ⟨rfl, hb10⟩
      have hb110 := hb19.trans (hb10.mono hb19.size)
      have J2 := I2.out w10 hb10
      go_wp2_with fail
      refine J2.mono ?_
      rintro e w11 ⟨rfl, hb11⟩
      have hb111 := hb110.trans (hb11.mono hb110.size)
      clear J2 I1 I2
      go_wp2_with fail
      go_ret
      exact ⟨by first | rfl | (cases z1 <;> rfl), hb111⟩
    · go_simp
      refine hK _ _ ?_
      clear hK K
      have row7 := RowI.one W0 w4.heap.size o hwo hb0.size
      have hb0b := hb0.alloc hb0.size (.cells #[.int .i64 o] 3)
      generalize hW : W0.alloc (.cells #[.int .i64 o] 3) = W0b at *
      skip
      refine wpAny_ready (rs := [1, 8]) (by kernel_rfl) (by simp) (AllReady.cons rfl (fun K hK => ?_) (AllReady.cons rfl (fun K hK => ?_) AllReady.nil))
      · refine Ttl.step_cls rfl (.const (.slice none 0 0)) (.tmp 97) rfl rfl W0b.heap.size w4.heap.size A5 C2 c5 dl (by simp [Act.eval] <;> rfl) (r4d.below hb0b (Nat.le_refl _)) HO.out.2 hnone5 (by omega) hb0b.size (Nat.le_refl _) ?_
        intro v1 W0ba rowc0 lowa
        have rowc := Ttl.RowC.base rowc0 hb0b.size
        obtain ⟨A1c, c1c, hv1c, _⟩ := rowc.res (by have h1 := hb0b.size; have h2 := lowa.size; omega)
        subst hv1c
        have hb0ba := hb0b.trans (lowa.mono hb0b.size)
        have row7 := row7.below lowa
        refine hK _ _ ?_
        clear hK K
        refine wpAny_ready (rs := [8]) (by kernel_rfl) (by simp) (AllReady.cons rfl (fun K hK => ?_) AllReady.nil)
        go_simp
        refine hK _ _ ?_
        clear hK K
        have row7 := row7.alloc (.cells #[.slice (some ⟨W0.heap.size, 0, none⟩) 1 1] 22)
        have rowc := Ttl.RowC.alloc rowc hb0ba.size (.cells #[.slice (some ⟨W0.heap.size, 0, none⟩) 1 1] 22)
        have hb0bac := hb0ba.alloc hb0ba.size (.cells #[.slice (some ⟨W0.heap.size, 0, none⟩) 1 1] 22)
        have cell8 : (W0ba.alloc (.cells #[.slice (some ⟨W0.heap.size, 0, none⟩) 1 1] 22)).cell? ⟨W0ba.heap.size, 0, none⟩ = some (.slice (some ⟨W0.heap.size, 0, none⟩) 1 1) := (Boxed.new W0ba 22 _).cell
        have h8lt : W0ba.heap.size < (W0ba.alloc (.cells #[.slice (some ⟨W0.heap.size, 0, none⟩) 1 1] 22)).heap.size := by simp
        generalize hW8 : W0ba.alloc (.cells #[.slice (some ⟨W0.heap.size, 0, none⟩) 1 1] 22) = W0bac at *
        refine wpAny_ready (rs := [9]) (by kernel_rfl) (by simp) (AllReady.cons rfl (fun K hK => ?_) AllReady.nil)
        refine Ttl.step_last rfl (.tmp 98) (.tmp 105) rfl w4.heap.size w4.heap.size _ _ dl [o] (by simp [Act.eval] <;> rfl) rowc row7 _ (by simp [Act.eval] <;> rfl) cell8 (by rw [HO.out.2]; omega) (Nat.le_refl _) hb0bac.size (C2 + 1) (by rw [HO.out.2]) ?_
        intro A6 c6 W9 hR9 hb9
        have hbf := hb0bac.trans hb9
        refine hK _ _ ?_
        clear hK K
        refine wpAny_ready (rs := [10]) (by kernel_rfl) (by simp) (AllReady.cons rfl (fun K hK => ?_) AllReady.nil)
        go_simp
        refine hK _ _ ?_
        clear hK K
        refine wpAny_done (by kernel_rfl) ?_ _
        obtain ⟨i1, i2⟩ := key.out A6 c6 W9 hR9 hbf
        have I1 := Lib.hid i1
        have I2 := Lib.hid i2
        have hb19 := hb14.trans (hbf.mono hsz14)
        clear i1 i2 key hR9 row7 cell8 rowc
        go_wp2_with fail
        refine I1.out.mono ?_
        rintro e w10 ⟨rfl, hb10⟩
        have hb110 := hb19.trans (hb10.mono hb19.size)
        have J2 := I2.out w10 hb10
        go_wp2_with fail
        refine J2.mono ?_
        rintro e w11 ⟨rfl, hb11⟩
        have hb111 := hb110.trans (hb11.mono hb110.size)
        clear J2 I1 I2
        go_wp2_with fail
        go_ret
        exact ⟨by first | rfl | (cases z1 <;> rfl), hb111⟩
      · go_simp
        refine hK _ _ ?_
        clear hK K
        have row7 := row7.alloc (.cells #[.slice (some ⟨W0.heap.size, 0, none⟩) 1 1] 22)
        have hb0bc := hb0b.alloc hb0b.size (.cells #[.slice (some ⟨W0.heap.size, 0, none⟩) 1 1] 22)
        have cell8 : (W0b.alloc (.cells #[.slice (some ⟨W0.heap.size, 0, none⟩) 1 1] 22)).cell? ⟨W0b.heap.size, 0, none⟩ = some (.slice (some ⟨W0.heap.size, 0, none⟩) 1 1) := (Boxed.new W0b 22 _).cell
        have h8lt : W0b.heap.size < (W0b.alloc (.cells #[.slice (some ⟨W0.heap.size, 0, none⟩) 1 1] 22)).heap.size := by simp
        generalize hW8 : W0b.alloc (.cells #[.slice (some ⟨W0.heap.size, 0, none⟩) 1 1] 22) = W0bc at *
        refine wpAny_ready (rs := [1]) (by kernel_rfl) (by simp) (AllReady.cons rfl (fun K hK => ?_) AllReady.nil)
        refine Ttl.step_cls rfl (.const (.slice none 0 0)) (.tmp 97) rfl rfl W0bc.heap.size w4.heap.size A5 C2 c5 dl (by simp [Act.eval] <;> rfl) (r4d.below hb0bc (Nat.le_refl _)) HO.out.2 hnone5 (by omega) hb0bc.size (Nat.le_refl _) ?_
        intro v1 W0bca rowc0 lowa
        have rowc := Ttl.RowC.base rowc0 hb0bc.size
        obtain ⟨A1c, c1c, hv1c, _⟩ := rowc.res (by have h1 := hb0bc.size; have h2 := lowa.size; omega)
        subst hv1c
        have hb0bca := hb0bc.trans (lowa.mono hb0bc.size)
        have row7 := row7.below lowa
        have cell8 := (lowa.cell (p := ⟨W0b.heap.size, 0, none⟩) h8lt).trans cell8
        refine hK _ _ ?_
        clear hK K
        refine wpAny_ready (rs := [9]) (by kernel_rfl) (by simp) (AllReady.cons rfl (fun K hK => ?_) AllReady.nil)
        refine Ttl.step_last rfl (.tmp 98) (.tmp 105) rfl w4.heap.size w4.heap.size _ _ dl [o] (by simp [Act.eval] <;> rfl) rowc row7 _ (by simp [Act.eval] <;> rfl) cell8 (by rw [HO.out.2]; omega) (Nat.le_refl _) hb0bca.size (C2 + 1) (by rw [HO.out.2]) ?_
        intro A6 c6 W9 hR9 hb9
        have hbf := hb0bca.trans hb9
        refine hK _ _ ?_
        clear hK K
        refine wpAny_ready (rs := [10]) (by kernel_rfl) (by simp) (AllReady.cons rfl (fun K hK => ?_) AllReady.nil)
        go_simp
        refine hK _ _ ?_
        clear hK K
        refine wpAny_done (by kernel_rfl) ?_ _
        obtain ⟨i1, i2⟩ := key.out A6 c6 W9 hR9 hbf
        have I1 := Lib.hid i1
        have I2 := Lib.hid i2
        have hb19 := hb14.trans (hbf.mono hsz14)
        clear i1 i2 key hR9 row7 cell8 rowc
        go_wp2_with fail
        refine I1.out.mono ?_
        rintro e w10 ⟨rfl, hb10⟩
        have hb110 := hb19.trans (hb10.mono hb19.size)
        have J2 := I2.out w10 hb10
        go_wp2_with fail
        refine J2.mono ?_
        rintro e w11 ⟨rfl, hb11⟩
        have hb111 := hb110.trans (hb11.mono hb110.size)
        clear J2 I1 I2
        go_wp2_with fail
        go_ret
        exact ⟨by first | rfl | (cases z1 <;> rfl), hb111⟩

theorem totals_any (A D : Option Addr) (n c m d : Nat) (k : Int) (zs : List Int) (ins : List Bool) (w : World) (hr : RdI w.heap.size w A zs) (hl : zs.length = n) (hnc : n ≤ c) (hcm : c ≤ maxLen) (hD : RdB w.heap.size w D ins) (hm : ins.length = m) (hDn : D = none → d = 0) :
    Calls Try.prog 9 #[.slice A n c, .int .i64 k, .slice D m d] w fun e w' => e = .returned (.bool true) ∧ Below w.heap.size w w' := by
  by_cases h : 5 < m ∨ 5 < n
  · exact totals_out A D n c m d k w h
  · have hbl : (false :: ins).length = m + 1 := by rw [List.length_cons, hm]
    cases hd : Tot.dist ((m + 1 : Nat) : Int) [] zs with
    | false =>
      exact totals_err A D n c m d (m + 1) k zs ins _ w hr hl (by omega) hD hm (by omega) hDn rfl hbl (by omega) (by omega) 140 (by omega) (ls_at A c hl (ls_err k (by omega) (by omega) (by omega) hd))
        (fun W hW => Ttl.Total_lit A n c n zs _ W hW hl (by omega) (by omega) (by omega) (by omega) hd)
    | true =>
      obtain ⟨cl, a, F, e1, hz, h1⟩ := ls_can (zs := zs) k hl (by omega) (by omega) (by omega) hd
      have hS5 := Ttl.size_five n n (by omega)
      obtain ⟨S, hS⟩ : ∃ S, Tot.size n n = S := ⟨_, rfl⟩
      rw [hS] at hS5
      have hU := fun (W : World) (hW : RdI W.heap.size W A zs) => Ttl.Total_ok A n c n (m + 1) zs W hW hl hnc hcm (by omega) (by omega) (by omega) (by omega) (fun x hx => by have := hz x hx; exact ⟨by have := this.2.1; omega, by have := this.2.2; omega⟩) hd (by rw [hS]; omega)
      rw [hS] at hU
      have hol : (Tot.cnt n zs (m + 1)).1.length = n := by rw [Ttl.cnt_length, hl]; omega
      have hT := ls_at A c hl e1
      by_cases hk : k < 1 ∨ (n : Int) < k
      · exact totals_k A D n c m d (m + 1) a _ _ _ k zs ins _ w hr hl (by omega) hD hm (by omega) hDn rfl hbl (by omega) (by omega) cl _ _ rfl hol rfl hT hU hk
      · have hfew := Ttl.cnt_clauses40 (most := n) zs.length zs (m + 1) (Nat.le_refl _) (by omega)
        have hlow := h1.low
        have hsum := h1.sum
        obtain ⟨K, rfl⟩ := Int.eq_ofNat_of_zero_le (show 0 ≤ k by omega)
        by_cases hbig : 9 < F ∨ 9 < S
        · exact totals_big A D n c m d (m + 1) a _ _ _ _ zs ins _ w hr hl (by omega) hD hm (by omega) hDn rfl hbl (by omega) (by omega) cl _ _ rfl hol rfl hT hU (by omega) (by omega) F S hsum rfl (by omega) (by omega) hbig
        · obtain ⟨_, h2⟩ := Ttl.tot_can (S := S) (k := K) hl (by omega) (by omega) (by omega) hz hS (by omega) (by omega) (by omega)
          have hgood := (Ttl.cnt_good (most := n) (show 1 ≤ m + 1 by omega) n zs (m + 1) (by omega) (Nat.le_refl _) hz).1
          have hmem : (Tot.cnt n zs (m + 1)).1[K - 1]?.getD 0 ∈ (Tot.cnt n zs (m + 1)).1 := by
            have hlt : K - 1 < (Tot.cnt n zs (m + 1)).1.length := by omega
            rw [List.getElem?_eq_getElem hlt]; exact List.getElem_mem _
          have hlit := hgood _ hmem
          rw [hl, hS] at hlit
          exact totals_main A D n c m d (m + 1) a _ _ _ _ zs ins _ w hr hl (by omega) hD hm (by omega) hDn rfl hbl (by omega) (by omega) cl _ _ rfl hol rfl hT hU K (K - 1) F S _ rfl (by omega) (by omega) rfl ⟨by have := hlit.2.1; omega, by have := hlit.2.2; omega⟩ hsum rfl (by omega) (by omega) (by omega) h1 h2

set_option maxRecDepth 100000 in
theorem countTotals_lifted (os : Os) (started : os.Started) (H : Type) (enc : TypeId × Value → H) :
    ReturnsInHanded {} Try.checked os 9 .any (Rows.countTotalsSpec.pre6 enc Try.prog Try.f9 Rows.countTotalsRow.domain false) (Rows.countTotalsSpec.post enc Try.prog Try.f9 false true false false) := by
  refine returnsInHanded_of_change (C := Try.checked) Try_own started (by kernel_rfl) Try.func9
    (ChangeSpec.witness6 (enc := enc) (C := Try.checked) false ⟨#[], #[.slice Option.none 0 0, .int .i64 0, .slice Option.none 0 0], []⟩ 9 (by kernel_rfl) (by kernel_rfl) (by kernel_rfl) (by kernel_rfl)) ?_
  intro W base args ds gs before hval0 hW _ _
  have hval : ∀ (j : Nat) t v, Try.f9.params[j]? = some t → args[j]? = some v → Value.okWide Try.prog W .any base t v := hval0
  have hW' := hW
  obtain ⟨p, q, hA0, hV, rfl, _, _⟩ := hW
  have hA : DataW.TrodAll enc Try.prog W 0 (fun _ => true) true Try.f9.params.toList args.toList ds p := hA0
  have hpar : Try.f9.params = #[22, 3, 30] := rfl
  rw [hpar] at hA hval
  have hlt : ∀ x ∈ p, x.block < W.heap.size := fun x hx => hW'.lt x (List.mem_append_left _ hx)
  obtain ⟨rfl, rfl⟩ := trodVars_none hV
  clear hA0 hval0
  obtain ⟨v0, vs0, d0, ds0, p0, q0, hargs0, rfl, rfl, h0, r0⟩ := trodAll_cons hA
  obtain ⟨v1, vs1, d1, ds1, p1, q1, hargs1, rfl, rfl, h1, r1⟩ := trodAll_cons r0
  obtain ⟨v2, vs2, d2, ds2, p2, q2, hargs2, rfl, rfl, h2, r2⟩ := trodAll_cons r1
  obtain ⟨hlast, rfl, rfl⟩ := trodAll_nil r2
  obtain rfl : args = #[v0, v1, v2] := by
    apply Array.toList_inj.1
    rw [hargs0, hargs1, hargs2, hlast]
  obtain ⟨A0, n0, cap0, zs0, rfl, hr0, hl0, hlc0, hm0, _⟩ := open_intlist (hval 0 22 v0 rfl rfl) h0 (fun x hx => hlt x (List.mem_append_left _ hx))
  obtain ⟨n1, rfl, rfl, rfl, wf1⟩ := open_int underlying3' (hval 1 3 v1 rfl rfl) h1
  obtain ⟨A2, n2, cap2, bs2, rfl, hr2, hl2, hlc2, hm2, hn2⟩ := open_boollist (hval 2 30 v2 rfl rfl) h2 (fun x hx => hlt x (List.mem_append_right _ (List.mem_append_right _ (List.mem_append_left _ hx))))
  refine (totals_any A0 A2 n0 cap0 n2 cap2 n1 zs0 bs2 W hr0 hl0 hlc0 hm0 hr2 hl2 hn2).mono fun e W' ⟨he, hb⟩ => ?_
  subst he
  exact ⟨_, rfl, law_post Try_laidOut hW' rfl (by rw [hpar]; decide +kernel) 4 rfl Try.underlying4 rfl hb⟩

theorem countTotals_holds : Rows.CountTotalsSaid :=
  OpenClaim.holds_of_wide 9 Try.f9 rfl rfl rfl rfl rfl rfl rfl ⟨rfl, rfl, rfl, rfl, rfl⟩ rfl rfl rfl rfl rfl (by kernel_rfl) Try.func9 (by kernel_rfl)
    (of_decide_eq_true (by kernel_rfl)) (by unfold Func.isWrapper; first | (rw [if_pos (by decide +kernel)]; kernel_rfl) | (rw [if_neg (by decide +kernel)]; exact ⟨rfl, rfl⟩))
    (fun os started H enc _ => countTotals_lifted os started H enc)
end Go.Proofs.Ytpiomdnkemoanaa
