/- For every slice of integers, every number k and every first new variable, the law CountMosts answers true at the landed code and changes nothing that came in: Most returns the clauses, the next variable and the error of the reference. Conditions: those of the statement alone. -/
import Derived.Test.YtpiomdnkemoanaaRefMost
namespace Go.Proofs.Ytpiomdnkemoanaa
open Go.ChangeShapes Go.WideShapes Go.ChangeAt Go.RowKit

theorem wf_of {x : Int} (h : (Lit.int .i64 x).wf = true) : Wf x := by
  have h2 := bounds_i64 h
  exact ⟨by omega, by omega⟩
theorem dist_ng {m : Nat} (hm : m ≤ 65537) : ∀ (l seen : List Int), Tot.dist (m : Int) (seen.map (fun x => -x)) (l.map ng) = Tot.dist (m : Int) seen l
  | [], _ => rfl
  | x :: l, seen => by
    rw [List.map_cons, Tot.dist, Tot.dist]
    by_cases hx : x = -9223372036854775808
    · rw [if_pos (by unfold ng; rw [if_pos hx]; omega), if_pos (by omega)]
    · have hng : ng x = -x := by unfold ng; rw [if_neg hx]
      have hmem : ∀ y : Int, (-y ∈ seen.map (fun x => -x)) ↔ y ∈ seen := fun y => by
        rw [List.mem_map]
        constructor
        · rintro ⟨z, hz, e⟩
          rw [show y = z by omega]; exact hz
        · exact fun h => ⟨y, h, rfl⟩
      have h1 := hmem x
      have h2 := hmem (-x)
      have ih := dist_ng hm l (x :: seen)
      rw [List.map_cons] at ih
      rw [hng, ih]
      by_cases hc : x = 0 ∨ x ≤ -(m : Int) ∨ (m : Int) ≤ x ∨ x ∈ seen ∨ -x ∈ seen
      · rw [if_pos hc, if_pos (by rcases hc with q | q | q | q | q <;> first | exact .inr (.inr (.inr (.inl (h1.2 q)))) | exact .inr (.inr (.inr (.inr (h2.2 q)))) | omega)]
      · rw [if_neg hc, if_neg (by rintro (q | q | q | q | q) <;> first | exact hc (.inr (.inr (.inr (.inl (h1.1 q))))) | exact hc (.inr (.inr (.inr (.inr (h2.1 q))))) | omega)]

set_option maxHeartbeats 4000000 in
theorem mosts_out (A : Option Addr) (n c : Nat) (k next : Int) (w : World) (h : (300 < n ∧ n ≤ 4096) ∨ 5000 < n) :
    Calls Try.prog 4 #[.slice A n c, .int .i64 k, .int .i64 next] w fun e w' => e = .returned (.bool true) ∧ Below w.heap.size w w' := by
  by_cases h1 : 5000 < n
  · clear h
    go_enter Try.func4, Try.ntmps4
    go_wp2_with fail
    refine (live_any w).mono ?_
    rintro e w1 ⟨rfl, hb1⟩
    go_wp2_with fail
    go_ret
    exact ⟨rfl, hb1⟩
  · have h2 : 300 < n := by omega
    have h3 : n ≤ 4096 := by omega
    clear h h1
    go_enter Try.func4, Try.ntmps4
    go_wp2_with fail
    refine (live_any w).mono ?_
    rintro e w1 ⟨rfl, hb1⟩
    go_wp2_with fail
    go_ret
    exact ⟨rfl, hb1⟩

set_option maxRecDepth 30000 in
set_option maxHeartbeats 4000000 in
theorem mosts_run (A : Option Addr) (n c C a : Nat) (k next E : Int) (zs : List Int) (cl : List (List Int)) (w : World) (hr : RdI w.heap.size w A zs) (hn : n ≤ 300 ∨ 4096 < n) (hn2 : n ≤ 5000) (hC : cl.length = C) (hC2 : C ≤ 65536)
    (hT : ∀ W : World, RdI W.heap.size W A zs → Calls Try.prog 16 #[.slice A n c, .int .i64 k, .int .i64 next] W (LsRes W cl a E))
    (hU : ∀ W : World, RdI W.heap.size W A zs → Calls Try.prog 17 #[.slice A n c, .int .i64 k, .int .i64 next] W (LsRes W cl a E)) :
    Calls Try.prog 4 #[.slice A n c, .int .i64 k, .int .i64 next] w fun e w' => e = .returned (.bool true) ∧ Below w.heap.size w w' := by
  have Hl := Lib.hid hC
  clear hC
  rcases hn with hn | hn
  · go_enter Try.func4, Try.ntmps4
    go_wp2_with fail
    refine (live_any w).mono ?_
    rintro e w1 ⟨rfl, hb1⟩
    go_wp2_with fail
    refine (hT w1 (hr.below hb1 (Nat.le_refl _) |>.more hb1.size)).mono ?_
    rintro e w2 ⟨A1, c1, rfl, r1, hb2, hlen⟩
    rw [Hl.out]
    have hb12 := hb1.trans (hb2.mono hb1.size)
    have Hlen := Lib.hid hlen
    clear hb1 hb2 hT hlen
    go_wp2_with fail
    refine (hU w2 (hr.below hb12 (Nat.le_refl _) |>.more hb12.size)).mono ?_
    rintro e w3 ⟨A3, c3, rfl, r3, hb3, _⟩
    rw [Hl.out]
    have hb13 := hb12.trans (hb3.mono hb12.size)
    have r1 := r1.below hb3 (Nat.le_refl _)
    have hI := Lib.hid (Same_any w2.heap.size w3.heap.size A1 A3 C c1 c3 cl w3 r1 r3 Hl.out (by unfold maxLen; omega) Hlen.out)
    clear hb12 hb3 r1 r3 hU
    go_wp2_with fail
    refine hI.out.mono ?_
    rintro e w4 ⟨rfl, q, rfl⟩
    go_wp2_with fail
    go_ret
    exact ⟨rfl, below_drewN hb13 _⟩
  · go_enter Try.func4, Try.ntmps4
    go_wp2_with fail
    refine (live_any w).mono ?_
    rintro e w1 ⟨rfl, hb1⟩
    go_wp2_with fail
    refine (hT w1 (hr.below hb1 (Nat.le_refl _) |>.more hb1.size)).mono ?_
    rintro e w2 ⟨A1, c1, rfl, r1, hb2, hlen⟩
    rw [Hl.out]
    have hb12 := hb1.trans (hb2.mono hb1.size)
    have Hlen := Lib.hid hlen
    clear hb1 hb2 hT hlen
    go_wp2_with fail
    refine (hU w2 (hr.below hb12 (Nat.le_refl _) |>.more hb12.size)).mono ?_
    rintro e w3 ⟨A3, c3, rfl, r3, hb3, _⟩
    rw [Hl.out]
    have hb13 := hb12.trans (hb3.mono hb12.size)
    have r1 := r1.below hb3 (Nat.le_refl _)
    have hI := Lib.hid (Same_any w2.heap.size w3.heap.size A1 A3 C c1 c3 cl w3 r1 r3 Hl.out (by unfold maxLen; omega) Hlen.out)
    clear hb12 hb3 r1 r3 hU
    go_wp2_with fail
    refine hI.out.mono ?_
    rintro e w4 ⟨rfl, q, rfl⟩
    go_wp2_with fail
    go_ret
    exact ⟨rfl, below_drewN hb13 _⟩

theorem mosts_any (A : Option Addr) (n c : Nat) (k next : Int) (zs : List Int) (w : World) (hr : RdI w.heap.size w A zs) (hl : zs.length = n) (_hnc : n ≤ c) (_hc : c ≤ maxLen) (hk : Wf k) :
    Calls Try.prog 4 #[.slice A n c, .int .i64 k, .int .i64 next] w fun e w' => e = .returned (.bool true) ∧ Below w.heap.size w w' := by
  by_cases h : (300 < n ∧ n ≤ 4096) ∨ 5000 < n
  · exact mosts_out A n c k next w h
  · have hl2 : (zs.map ng).length = n := by rw [List.length_map, hl]
    refine mosts_run A n c _ _ k next _ zs _ w hr (by omega) (by omega) rfl (lsOf_len hl2 (mostK n k) next) (fun W hW => Most_any W.heap.size A n c _ k next _ zs _ W hW (Nat.le_refl _) hl (by omega) hk fun W2 G c' _ _ hG => Least_all G n c' (mostK n k) next (zs.map ng) W2 hG hl2) (fun W hW => ?_)
    by_cases ha : next < 1 ∨ 65537 < next ∨ 4096 < n
    · rw [show lsOf n (zs.map ng) (mostK n k) next = ([], 0, 1) by unfold lsOf; rw [if_pos ha]]
      exact RefMost_err A n c k next 1 W (by omega) (lits_bad A n c next W ha)
    · obtain ⟨m, rfl⟩ := Int.eq_ofNat_of_zero_le (show 0 ≤ next by omega)
      cases hd : Tot.dist (m : Int) [] zs with
      | false =>
        have hd2 : Tot.dist (m : Int) [] (zs.map ng) = false := by rw [← hd]; exact dist_ng (by omega) zs []
        rw [show lsOf n (zs.map ng) (mostK n k) m = ([], 0, 140) by unfold lsOf; rw [if_neg ha, if_pos hd2]]
        exact RefMost_err A n c k _ 140 W (by omega) (Lits_any W.heap.size A n c m zs W hW (Nat.le_refl _) hl (by omega) (by omega) (by omega) 140 (by rw [hd]; rfl))
      | true =>
        have hCk := Lits_any W.heap.size A n c m zs W hW (Nat.le_refl _) hl (by omega) (by omega) (by omega) 0 (by rw [hd]; rfl)
        exact RefMost_ok W.heap.size A n c _ k m _ zs _ W hW (Nat.le_refl _) hl (by omega) hk (fun x hx => (dist_bound zs [] hd x hx).mono (by omega)) hCk fun W2 G c' _ _ hG => Ref_all G n c' (mostK n k) m (zs.map ng) W2 hG hl2 (by omega)

set_option maxRecDepth 100000 in
theorem countMosts_lifted (os : Os) (started : os.Started) (H : Type) (enc : TypeId × Value → H) :
    ReturnsInHanded {} Try.checked os 4 .any (Rows.countMostsSpec.pre6 enc Try.prog Try.f4 Rows.countMostsRow.domain false) (Rows.countMostsSpec.post enc Try.prog Try.f4 false true false false) := by
  refine returnsInHanded_of_change (C := Try.checked) Try_own started (by kernel_rfl) Try.func4
    (ChangeSpec.witness6 (enc := enc) (C := Try.checked) false ⟨#[], #[.slice Option.none 0 0, .int .i64 0, .int .i64 0], []⟩ 4 (by kernel_rfl) (by kernel_rfl) (by kernel_rfl) (by kernel_rfl)) ?_
  intro W base args ds gs before hval0 hW _ _
  have hval : ∀ (j : Nat) t v, Try.f4.params[j]? = some t → args[j]? = some v → Value.okWide Try.prog W .any base t v := hval0
  have hW' := hW
  obtain ⟨p, q, hA0, hV, rfl, _, _⟩ := hW
  have hA : DataW.TrodAll enc Try.prog W 0 (fun _ => true) true Try.f4.params.toList args.toList ds p := hA0
  have hpar : Try.f4.params = #[22, 3, 3] := rfl
  rw [hpar] at hA hval
  have hlt : ∀ x ∈ p, x.block < W.heap.size := fun x hx => hW'.lt x (List.mem_append_left _ hx)
  obtain ⟨rfl, rfl⟩ := trodVars_none hV
  clear hA0 hval0
  obtain ⟨v0, vs0, d0, ds0, p0, q0, hargs0, rfl, rfl, h0, r0⟩ := trodAll_cons hA
  obtain ⟨v1, vs1, d1, ds1, p1, q1, hargs1, rfl, rfl, h1, r1⟩ := trodAll_cons r0
  obtain ⟨v2, vs2, d2, ds2, p2, q2, hargs2, rfl, rfl, h2, r2⟩ := trodAll_cons r1
  obtain ⟨hlast, rfl, rfl⟩ := trodAll_nil r2
  obtain rfl : args = #[v0, v1, v2] := by
    apply Array.toList_inj.1
    rw [hargs0, hargs1, hargs2, hlast]
  obtain ⟨A0, n0, cap0, zs0, rfl, hr0, hl0, hlc0, hm0, _⟩ := open_intlist (hval 0 22 v0 rfl rfl) h0 (fun x hx => hlt x (List.mem_append_left _ hx))
  obtain ⟨n1, rfl, rfl, rfl, wf1⟩ := open_int underlying3' (hval 1 3 v1 rfl rfl) h1
  obtain ⟨n2, rfl, rfl, rfl, wf2⟩ := open_int underlying3' (hval 2 3 v2 rfl rfl) h2
  refine (mosts_any A0 n0 cap0 n1 n2 zs0 W hr0 hl0 hlc0 hm0 (wf_of wf1)).mono fun e W' ⟨he, hb⟩ => ?_
  subst he
  exact ⟨_, rfl, law_post Try_laidOut hW' rfl (by rw [hpar]; decide +kernel) 4 rfl Try.underlying4 rfl hb⟩

theorem countMosts_holds : Rows.CountMostsSaid :=
  OpenClaim.holds_of_wide 4 Try.f4 rfl rfl rfl rfl rfl rfl rfl ⟨rfl, rfl, rfl, rfl, rfl⟩ rfl rfl rfl rfl rfl (by kernel_rfl) Try.func4 (by kernel_rfl)
    (of_decide_eq_true (by kernel_rfl)) (by unfold Func.isWrapper; first | (rw [if_pos (by decide +kernel)]; kernel_rfl) | (rw [if_neg (by decide +kernel)]; exact ⟨rfl, rfl⟩))
    (fun os started H enc _ => countMosts_lifted os started H enc)
end Go.Proofs.Ytpiomdnkemoanaa
