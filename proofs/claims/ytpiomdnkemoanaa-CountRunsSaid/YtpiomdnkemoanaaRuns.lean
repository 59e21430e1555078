/- For every slice of integers, every number k and every slice of bools, the law CountRuns answers true at the landed code and changes nothing that came in: with the registers that say the counts, all clauses of Least but the last hold, and the last one, which has one literal, holds just where at least k literals are true. Conditions: those of the statement alone. -/
import Derived.Test.YtpiomdnkemoanaaCases
namespace Go.Proofs.Ytpiomdnkemoanaa
open Go.ChangeShapes Go.WideShapes Go.ChangeAt Go.RowKit

set_option maxHeartbeats 4000000 in
theorem runs_out (A D : Option Addr) (n c m d : Nat) (k : Int) (w : World) (h : 60 < m ∨ 60 < n) :
    Calls Try.prog 6 #[.slice A n c, .int .i64 k, .slice D m d] w fun e w' => e = .returned (.bool true) ∧ Below w.heap.size w w' := by
  by_cases h1 : 60 < m
  · clear h
    go_enter Try.func6, Try.ntmps6
    go_wp2_with fail
    refine (live_any w).mono ?_
    rintro e w1 ⟨rfl, hb1⟩
    go_wp2_with fail
    go_ret
    exact ⟨rfl, hb1⟩
  · have h2 : 60 < n := by omega
    clear h
    go_enter Try.func6, Try.ntmps6
    go_wp2_with fail
    refine (live_any w).mono ?_
    rintro e w1 ⟨rfl, hb1⟩
    go_wp2_with fail
    go_ret
    exact ⟨rfl, hb1⟩

set_option maxHeartbeats 4000000 in
theorem runs_early (A D : Option Addr) (n c m d a N : Nat) (k E : Int) (zs : List Int) (ins : List Bool) (cl : List (List Int)) (w : World) (hr : RdI w.heap.size w A zs) (hn : n ≤ 60) (hD : RdB w.heap.size w D ins) (hm : ins.length = m) (hm2 : m ≤ 60) (hDn : D = none → d = 0) (hN : m + 1 = N)
    (hT : ∀ W : World, RdI W.heap.size W A zs → Calls Try.prog 13 #[.slice A n c, .int .i64 k, .int .i64 (N : Int)] W (LsRes W cl a E)) (h : (E ≠ 0 ∧ cl = []) ∨ (E = 0 ∧ (k < 1 ∨ (n : Int) < k))) :
    Calls Try.prog 6 #[.slice A n c, .int .i64 k, .slice D m d] w fun e w' => e = .returned (.bool true) ∧ Below w.heap.size w w' := by
  have Hm := Lib.hid hm
  have HN := Lib.hid hN
  have hN2 : N ≤ 61 := by omega
  clear hm hN
  go_enter Try.func6, Try.ntmps6
  go_wp2_with fail
  refine (live_any w).mono ?_
  rintro e w1 ⟨rfl, hb1⟩
  go_wp2_with (at_builtin; refine push_bools rfl _ _ rfl w1.heap.size _ [false] rfl (RowV.one w1 w1.heap.size false (Nat.le_refl _)) w.heap.size D m d ins rfl ?hr Hm.out hDn ?h1 ?h2 ?_)
  case hr => exact (hD.below hb1 (Nat.le_refl _)).below ((Below.refl w1.heap.size w1).alloc (Nat.le_refl _) _) hb1.size
  case h1 => simp; omega
  case h2 => simp
  intro v2 w2 own2 hb2
  have hb12 := hb1.trans (((Below.refl w1.heap.size w1).alloc (Nat.le_refl _) _).trans hb2 |>.mono hb1.size)
  obtain ⟨A2, c2, hv2, _, _, _⟩ := own2.shape
  have hlen : (false :: ins).length = N := by rw [List.length_cons, Hm.out, ← HN.out]
  have hr2 := hr.below hb12 (Nat.le_refl _) |>.more hb12.size
  rw [hlen] at hv2
  subst hv2
  clear own2 hb2 hlen hr hD hb1
  go_wp2_with fail
  refine (hT w2 hr2).mono ?_
  rintro e w3 ⟨A3, c3, rfl, _, hb3, _⟩
  have hb13 := hb12.trans (hb3.mono hb12.size)
  clear hT hr2 hb3 hb12
  rcases h with ⟨h1, rfl⟩ | ⟨rfl, h1⟩
  · have d0 : (E != 0) = true := by simpa using h1
    have d1 : (E == 0) = false := by simpa using h1
    go_wp2_with fail
    go_ret
    exact ⟨rfl, hb13⟩
  · by_cases h2 : k < 1
    · clear h1
      go_wp2_with fail
      go_ret
      exact ⟨rfl, hb13⟩
    · have h3 : (n : Int) < k := by omega
      clear h1
      go_wp2_with fail
      go_ret
      exact ⟨rfl, hb13⟩

set_option maxRecDepth 30000 in
set_option maxHeartbeats 4000000 in
theorem runs_main (A D : Option Addr) (n c m d a N K C C1 : Nat) (zs : List Int) (ins bs all : List Bool) (cl : List (List Int)) (last : List Int) (w : World) (hr : RdI w.heap.size w A zs) (hl : zs.length = n) (hn : n ≤ 60) (hD : RdB w.heap.size w D ins) (hm : ins.length = m) (hm2 : m ≤ 60) (hDn : D = none → d = 0) (hN : m + 1 = N) (hbs : [false] ++ ins = bs) (hbl : bs.length = N)
    (hT : ∀ W : World, RdI W.heap.size W A zs → Calls Try.prog 13 #[.slice A n c, .int .i64 (K : Int), .int .i64 (N : Int)] W (LsCap W cl a 0)) (hK1 : 1 ≤ K) (hK2 : K ≤ n) (hC : cl.length = C) (hC1 : C1 + 1 = C) (hC2 : C ≤ 20000) (ha : a ≤ 20000)
    (hz : ∀ x ∈ zs, Lit N x) (hall : runR bs zs K n = all) (halen : all.length = a) (hcl : ∀ x ∈ cl, ∀ y ∈ x, Lit a y) (hrows : ∀ j, j < C1 → (cl[j]?.getD []).any (tv all) = true) (hlast : cl[C1]?.getD [] = last) (hlast1 : last.length = 1) (hlast2 : last.any (tv all) = decide ((K : Int) ≤ (ct bs zs : Int))) :
    Calls Try.prog 6 #[.slice A n c, .int .i64 (K : Int), .slice D m d] w fun e w' => e = .returned (.bool true) ∧ Below w.heap.size w w' := by
  have Hm := Lib.hid hm
  have HN := Lib.hid hN
  have Hl := Lib.hid hl
  have Hbl := Lib.hid hbl
  have Hz := Lib.hid hz
  have HC := Lib.hid (And.intro hC hC1)
  have hN2 : N ≤ 61 := by omega
  have Hcl := Lib.hid hcl
  have Hrows := Lib.hid hrows
  have Hlast := Lib.hid (And.intro hlast (And.intro hlast1 hlast2))
  have Hal := Lib.hid halen
  have Hall := Lib.hid hall
  have f1 : decide ((K : Int) < 1) = false := decide_eq_false (by omega)
  have f1' : decide (K < 1) = false := decide_eq_false (by omega)
  have f2 : decide ((n : Int) < (K : Int)) = false := decide_eq_false (by omega)
  have f2' : decide (n < K) = false := decide_eq_false (by omega)
  have f3 : ((C : Int) == 0) = false := by rw [beq_eq_false_iff_ne]; omega
  have f3' : (C == 0) = false := by rw [beq_eq_false_iff_ne]; omega
  have f4 : (C : Int) - 1 = (C1 : Int) := by omega
  clear hm hN hl hbl hz hC hC1 hcl hrows hlast hlast1 hlast2 halen hall
  go_enter Try.func6, Try.ntmps6
  go_wp2_with fail
  refine (live_any w).mono ?_
  rintro e w1 ⟨rfl, hb1⟩
  go_wp2_with (at_builtin; refine push_bools rfl _ _ rfl w1.heap.size _ [false] rfl (RowV.one w1 w1.heap.size false (Nat.le_refl _)) w.heap.size D m d ins rfl ?hr Hm.out hDn ?h1 ?h2 ?_)
  case hr => exact (hD.below hb1 (Nat.le_refl _)).below ((Below.refl w1.heap.size w1).alloc (Nat.le_refl _) _) hb1.size
  case h1 => simp; omega
  case h2 => simp
  intro v2 w2 own2 hb2
  have hb12 := hb1.trans (((Below.refl w1.heap.size w1).alloc (Nat.le_refl _) _).trans hb2 |>.mono hb1.size)
  obtain ⟨A2, c2, hv2, hc2, hcm2, rb2⟩ := own2.shape
  rw [Hbl.out] at hv2 hc2
  have hr2 := hr.below hb12 (Nat.le_refl _) |>.more hb12.size
  subst hv2
  have hA2 : A2 = none → c2 = 0 := by
    intro e
    obtain ⟨_, _, e2, _⟩ := rb2 (by rw [Hbl.out]; have := HN.out; omega)
    rw [e] at e2; cases e2
  clear own2 hb2 hr hD hb1 hbs hDn
  go_wp2_with fail
  refine (hT w2 hr2).mono ?_
  rintro e w3 ⟨A3, c3, rfl, hcap3, r3, hb3, hlen3⟩
  rw [HC.out.1] at hcap3 ⊢
  have hb13 := hb12.trans (hb3.mono hb12.size)
  have hr3 := hr2.below hb3 (Nat.le_refl _)
  have rb3 := rb2.below hb3 (Nat.le_refl _)
  have hsz3 := hb3.size
  have Hlen := Lib.hid hlen3
  have hR := Lib.hid (ran_any w2.heap.size w2.heap.size A2 A n c N c2 K zs bs w3 hr3 hsz3 Hl.out hn rb3 hsz3 Hbl.out (by omega) hA2 Hz.out (by omega))
  clear hT hr2 rb2 hb12 hlen3 hb3 hA2
  go_wp2_with fail
  refine hR.out.mono ?_
  rintro e w4 ⟨v4, rfl, own4, hb4⟩
  rw [Hall.out] at own4
  obtain ⟨A4, c4, hv4, _, _, rb4⟩ := own4.shape
  rw [Hal.out] at hv4
  subst hv4
  have hb14 := hb13.trans (hb4.mono hb13.size)
  have r4 := r3.below hb4 (Nat.le_refl _)
  have hr4 := hr3.below hb4 hsz3
  have rbs4 := rb3.below hb4 hsz3
  have hsz4 := hb4.size
  have hsz14 := hb14.size
  have hh := fun w => run_head24 w A3 C c3 C1 (by omega)
  clear own4 hR hb13 r3 hr3 rb3 hb4
  go_wp2_with fail
  go_loopw [74] (fun i wr => ∃ j : Nat, j ≤ C1 ∧ i = .int .i64 j ∧ Below w4.heap.size w4 wr) (fun i _ => C1 - (intOf i).toNat)
  case atStart => exact ⟨0, by omega, rfl, Below.refl _ _⟩
  case round =>
    obtain ⟨j, hj, rfl, hb5⟩ := hrel
    have r5 := r4.below hb5 hsz4
    have rb5 := rb4.below hb5 (Nat.le_refl _)
    have hsz5 := hb5.size
    by_cases hlt : j < C1
    · have hjo : j < cl.length := by have := HC.out; omega
      obtain ⟨b, off, rfl, _, hc⟩ := r5 (by omega)
      obtain ⟨E, ec, hc1, hr1⟩ := hc j hjo
      have hh1 := Hrows.out j hlt
      have hxl := Hlen.out j hjo
      have hmem : cl[j]?.getD [] ∈ cl := by rw [List.getElem?_eq_getElem hjo]; exact List.getElem_mem _
      have hlj := Hcl.out _ hmem
      clear hc hmem hjo
      generalize cl[j]?.getD [] = x at *
      obtain ⟨L, hL⟩ : ∃ L, x.length = L := ⟨_, rfl⟩
      rw [hL] at hc1 hxl
      have hH := Lib.hid (Holds_any w4.heap.size w3.heap.size A4 E a L ec a c4 x all wr hr1 (by omega) hL hxl rb5 hsz5 Hal.out hlj (Nat.le_refl _) (by omega) (by omega))
      rw [hh1] at hH
      clear hr1 hL hlj hh1 hxl
      go_wp2_with fail
      refine hH.out.mono ?_
      rintro e w6 ⟨rfl, hb6⟩
      have hb56 := hb5.trans (hb6.mono hsz5)
      go_wp2_with fail
      go_roundw
      case rel => exact ⟨j + 1, by omega, by go_num, hb56⟩
      case measure => simp [intOf]; omega
    · obtain rfl : j = C1 := by omega
      have hjo : j < cl.length := by have := HC.out; omega
      have hr5 := hr4.below hb5 (by omega)
      have rbs5 := rbs4.below hb5 (by omega)
      obtain ⟨b, off, rfl, hbl, hc⟩ := r5 (by omega)
      obtain ⟨E, ec, hc1, hr1⟩ := hc j hjo
      have hmem : cl[j]?.getD [] ∈ cl := by rw [List.getElem?_eq_getElem hjo]; exact List.getElem_mem _
      have hlj := Hcl.out _ hmem
      have hlast := Hlast.out
      rw [hlast.1] at hc1 hr1 hlj
      rw [hlast.2.1] at hc1
      have hH := Lib.hid (Holds_any w4.heap.size w3.heap.size A4 E a 1 ec a c4 last all wr hr1 (by omega) hlast.2.1 (by unfold maxLen; omega) rb5 hsz5 Hal.out hlj (Nat.le_refl _) (by omega) (by omega))
      rw [hlast.2.2] at hH
      have hM := fun W (hb : Below wr.heap.size wr W) => Lib.hid (many_any w2.heap.size w2.heap.size A2 A N n c N c2 zs bs W (hr5.below hb (by omega)) Hl.out (by omega) (rbs5.below hb (by omega)) Hbl.out Hz.out (Nat.le_refl _) (by omega))
      have hb15 := hb14.trans (hb5.mono hsz14)
      have hsz15 := hb15.size
      clear hc hmem hjo hlj hlast hr1 hr4 rbs4 r4 r5 rb4 rb5
      obtain ⟨T, hT⟩ : ∃ T, ct bs zs = T := ⟨_, rfl⟩
      rw [hT] at hH hM
      obtain ⟨z, hz⟩ : ∃ z, decide ((K : Int) ≤ (T : Int)) = z := ⟨_, rfl⟩
      have hz' : decide (K ≤ T) = z := by rw [← hz]; exact decide_eq_decide.2 (by omega)
      rw [hz] at hH
      clear hT Hlast
      go_wp2_with fail
      refine hH.out.mono ?_
      rintro e w6 ⟨rfl, hb6⟩
      have hb16 := hb15.trans (hb6.mono hsz15)
      have hM := hM w6 hb6
      have hc1' := (hb6.cell (p := ⟨b, off + j, none⟩) (by show b < wr.heap.size; omega)).trans hc1
      go_wp2_with fail
      refine hM.out.mono ?_
      rintro e w7 ⟨rfl, rfl⟩
      go_wp2_with fail
      go_ret
      exact ⟨by first | rfl | (cases z <;> rfl), hb16⟩

theorem ls_all {n : Nat} {zs : List Int} {k : Int} {N : Nat} {cl : List (List Int)} {a : Nat} {E : Int} (A : Option Addr) (c : Nat) (hl : zs.length = n) (h : lsOf n zs k N = (cl, a, E)) :
    ∀ W : World, RdI W.heap.size W A zs → Calls Try.prog 13 #[.slice A n c, .int .i64 k, .int .i64 (N : Int)] W (LsRes W cl a E) := fun W hW => by
  have := Least_all A n c k N zs W hW hl
  rw [h] at this
  exact this

theorem runs_any (A D : Option Addr) (n c m d : Nat) (k : Int) (zs : List Int) (ins : List Bool) (w : World) (hr : RdI w.heap.size w A zs) (hl : zs.length = n) (hD : RdB w.heap.size w D ins) (hm : ins.length = m) (hDn : D = none → d = 0) :
    Calls Try.prog 6 #[.slice A n c, .int .i64 k, .slice D m d] w fun e w' => e = .returned (.bool true) ∧ Below w.heap.size w w' := by
  by_cases h : 60 < m ∨ 60 < n
  · exact runs_out A D n c m d k w h
  · have hbl : ([false] ++ ins).length = m + 1 := by rw [List.length_append, hm]; simp; omega
    rcases ls_cases (n := n) (zs := zs) k (m + 1) (by omega) (by omega) (by omega) with ⟨E, hE, _, e⟩ | ⟨hd, hz, ⟨hk, e⟩ | ⟨hk, e⟩ | ⟨K, rfl, hK1, hK2, e⟩⟩
    · exact runs_early A D n c m d 0 (m + 1) k E zs ins [] w hr (by omega) hD hm (by omega) hDn rfl (ls_all A c hl e) (.inl ⟨hE, rfl⟩)
    · exact runs_early A D n c m d _ (m + 1) k 0 zs ins [] w hr (by omega) hD hm (by omega) hDn rfl (ls_all A c hl e) (.inr ⟨rfl, .inl (by omega)⟩)
    · exact runs_early A D n c m d _ (m + 1) k 0 zs ins [[]] w hr (by omega) hD hm (by omega) hDn rfl (ls_all A c hl e) (.inr ⟨rfl, .inr hk⟩)
    · have hreg := regs_le K n
      have hsq : n * n ≤ 3600 := Nat.mul_le_mul (show n ≤ 60 by omega) (show n ≤ 60 by omega)
      have hlen := crows_length zs K (m + 1) hK1 n
      have hcl : (ctr zs K (m + 1)).length = (crows zs K (m + 1) n).length + 1 := by unfold ctr; rw [hl, List.length_append]; rfl
      have hlow := cst_lo K (m + 1) n
      have e0 : nz [((cst K (m + 1) n).1 : Int) - 1] = [((cst K (m + 1) n).1 : Int) - 1] := by
        have h1 : 1 ≤ regs K n := by omega
        unfold nz
        rw [List.filter_cons_of_pos (by rw [cst_regs]; simp; omega)]; rfl
      have hlast : (ctr zs K (m + 1))[(crows zs K (m + 1) n).length]?.getD [] = nz [((cst K (m + 1) n).1 : Int) - 1] := by
        unfold ctr; rw [hl, List.getElem?_append_right (Nat.le_refl _), Nat.sub_self]; rfl
      refine runs_main A D n c m d (m + 1 + regs K n) (m + 1) K _ (crows zs K (m + 1) n).length zs ins _ _ (ctr zs K (m + 1)) _ w hr hl (by omega) hD hm (by omega) hDn rfl rfl hbl ?hT hK1 hK2 rfl hcl.symm (by omega) (by omega) hz rfl ?len ?good ?rows hlast ?l1 ?l2
      case hT =>
        intro W hW
        have hCk := check_any W.heap.size A n c zs ((m + 1 : Nat) : Int) W hW (Nat.le_refl _) hl (by omega) (by omega) (by omega) 0 (by rw [hd]; rfl)
        exact Least_okc A n c (m + 1) K zs W hW hl (by omega) (by omega) (by omega) hK1 hK2 hCk (fun x hx => by have := hz x hx; exact ⟨by have := this.2.1; omega, by have := this.2.2; omega⟩) (by omega) (by omega)
      case len => rw [runR_len, cst_regs, hbl]
      case good => exact ctr_good hl (by omega) hK1 (by omega) hz
      case rows =>
        intro j hj
        have e1 : (ctr zs K (m + 1))[j]? = (crows zs K (m + 1) n)[j]? := by unfold ctr; rw [hl, List.getElem?_append_left hj]
        rw [e1, List.getElem?_eq_getElem hj, Option.getD_some]
        have := run_crows (bs := [false] ++ ins) (zs := zs) (K := K) (R := n) (by omega) (by rw [hbl]; exact hz) (by omega) n (Nat.le_refl _)
        rw [hbl] at this
        exact this _ (List.getElem_mem hj)
      case l1 => rw [e0]; rfl
      case l2 =>
        have := run_last (bs := [false] ++ ins) (zs := zs) (K := K) (n := n) hl (by omega) hK1 hK2
        rw [hbl] at this
        rw [this]
        exact decide_eq_decide.2 (by omega)

set_option maxRecDepth 100000 in
theorem countRuns_lifted (os : Os) (started : os.Started) (H : Type) (enc : TypeId × Value → H) :
    ReturnsInHanded {} Try.checked os 6 .any (Rows.countRunsSpec.pre6 enc Try.prog Try.f6 Rows.countRunsRow.domain false) (Rows.countRunsSpec.post enc Try.prog Try.f6 false true false false) := by
  refine returnsInHanded_of_change (C := Try.checked) Try_own started (by kernel_rfl) Try.func6
    (ChangeSpec.witness6 (enc := enc) (C := Try.checked) false ⟨#[], #[.slice Option.none 0 0, .int .i64 0, .slice Option.none 0 0], []⟩ 6 (by kernel_rfl) (by kernel_rfl) (by kernel_rfl) (by kernel_rfl)) ?_
  intro W base args ds gs before hval0 hW _ _
  have hval : ∀ (j : Nat) t v, Try.f6.params[j]? = some t → args[j]? = some v → Value.okWide Try.prog W .any base t v := hval0
  have hW' := hW
  obtain ⟨p, q, hA0, hV, rfl, _, _⟩ := hW
  have hA : DataW.TrodAll enc Try.prog W 0 (fun _ => true) true Try.f6.params.toList args.toList ds p := hA0
  have hpar : Try.f6.params = #[22, 3, 30] := rfl
  rw [hpar] at hA hval
  have hlt : ∀ x ∈ p, x.block < W.heap.size := fun x hx => hW'.lt x (List.mem_append_left _ hx)
  obtain ⟨rfl, rfl⟩ := trodVars_none hV
  clear hA0 hval0
  obtain ⟨v0, vs0, d0, ds0, p0, q0, hargs0, rfl, rfl, h0, r0⟩ := trodAll_cons hA
  obtain ⟨v1, vs1, d1, ds1, p1, q1, hargs1, rfl, rfl, h1, r1⟩ := trodAll_cons r0
  obtain ⟨v2, vs2, d2, ds2, p2, q2, hargs2, rfl, rfl, h2, r2⟩ := trodAll_cons r1
  obtain ⟨hlast, rfl, rfl⟩ := trodAll_nil r2
  obtain rfl : args = #[v0, v1, v2] := by
    apply Array.toList_inj.1
    rw [hargs0, hargs1, hargs2, hlast]
  obtain ⟨A0, n0, cap0, zs0, rfl, hr0, hl0, hlc0, hm0, _⟩ := open_intlist (hval 0 22 v0 rfl rfl) h0 (fun x hx => hlt x (List.mem_append_left _ hx))
  obtain ⟨n1, rfl, rfl, rfl, wf1⟩ := open_int underlying3' (hval 1 3 v1 rfl rfl) h1
  obtain ⟨A2, n2, cap2, bs2, rfl, hr2, hl2, hlc2, hm2, hn2⟩ := open_boollist (hval 2 30 v2 rfl rfl) h2 (fun x hx => hlt x (List.mem_append_right _ (List.mem_append_right _ (List.mem_append_left _ hx))))
  refine (runs_any A0 A2 n0 cap0 n2 cap2 n1 zs0 bs2 W hr0 hl0 hr2 hl2 hn2).mono fun e W' ⟨he, hb⟩ => ?_
  subst he
  exact ⟨_, rfl, law_post Try_laidOut hW' rfl (by rw [hpar]; decide +kernel) 4 rfl Try.underlying4 rfl hb⟩

theorem countRuns_holds : Rows.CountRunsSaid :=
  OpenClaim.holds_of_wide 6 Try.f6 rfl rfl rfl rfl rfl rfl rfl ⟨rfl, rfl, rfl, rfl, rfl⟩ rfl rfl rfl rfl rfl (by kernel_rfl) Try.func6 (by kernel_rfl)
    (of_decide_eq_true (by kernel_rfl)) (by unfold Func.isWrapper; first | (rw [if_pos (by decide +kernel)]; kernel_rfl) | (rw [if_neg (by decide +kernel)]; exact ⟨rfl, rfl⟩))
    (fun os started H enc _ => countRuns_lifted os started H enc)
end Go.Proofs.Ytpiomdnkemoanaa
