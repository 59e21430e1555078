/- For every slice of integers, every number k and every slice of bools, the law CountForces answers true at the landed code and changes nothing that came in: with the literals assigned, unit propagation on the clauses of Least derives a conflict just where fewer than k literals are true. Conditions: those of the statement alone. -/
import Derived.Test.YtpiomdnkemoanaaForceM
namespace Go.Proofs.Ytpiomdnkemoanaa
open Go.ChangeShapes Go.WideShapes Go.ChangeAt Go.RowKit

set_option maxHeartbeats 4000000 in
theorem forces_out (A D : Option Addr) (n c m d : Nat) (k : Int) (w : World) (h : 30 < m ∨ 30 < n) :
    Calls Try.prog 7 #[.slice A n c, .int .i64 k, .slice D m d] w fun e w' => e = .returned (.bool true) ∧ Below w.heap.size w w' := by
  by_cases h1 : 30 < m
  · clear h
    go_enter Try.func7, Try.ntmps7
    go_wp2_with fail
    refine (live_any w).mono ?_
    rintro e w1 ⟨rfl, hb1⟩
    go_wp2_with fail
    go_ret
    exact ⟨rfl, hb1⟩
  · have h2 : 30 < n := by omega
    clear h
    go_enter Try.func7, Try.ntmps7
    go_wp2_with fail
    refine (live_any w).mono ?_
    rintro e w1 ⟨rfl, hb1⟩
    go_wp2_with fail
    go_ret
    exact ⟨rfl, hb1⟩

set_option maxRecDepth 30000 in
set_option maxHeartbeats 4000000 in
theorem forces_err (A D : Option Addr) (n c m d N : Nat) (k E : Int) (zs : List Int) (ins : List Bool) (w : World) (hr : RdI w.heap.size w A zs) (hn : n ≤ 30) (hD : RdB w.heap.size w D ins) (hm : ins.length = m) (hm2 : m ≤ 30) (hDn : D = none → d = 0) (hbl : (false :: ins).length = N) (_hN : N ≤ 31) (hE : E ≠ 0)
    (hT : ∀ W : World, RdI W.heap.size W A zs → Calls Try.prog 13 #[.slice A n c, .int .i64 k, .int .i64 (N : Int)] W (LsRes W [] 0 E)) :
    Calls Try.prog 7 #[.slice A n c, .int .i64 k, .slice D m d] w fun e w' => e = .returned (.bool true) ∧ Below w.heap.size w w' := by
  have Hm := Lib.hid hm
  have Hbl := Lib.hid hbl
  have d0 : (E != 0) = true := by simpa using hE
  clear hm hbl
  go_enter Try.func7, Try.ntmps7
  go_wp2_with fail
  refine (live_any w).mono ?_
  rintro e w1 ⟨rfl, hb1⟩
  go_wp2_with (at_builtin; refine push_bools rfl _ _ rfl w1.heap.size _ [false] rfl (RowV.one w1 w1.heap.size false (Nat.le_refl _)) w.heap.size D m d ins rfl ?hr Hm.out hDn ?h1 ?h2 ?_)
  case hr => exact (hD.below hb1 (Nat.le_refl _)).below ((Below.refl w1.heap.size w1).alloc (Nat.le_refl _) _) hb1.size
  case h1 => simp; omega
  case h2 => simp
  intro v2 w2 own2 hb2
  have own2 : RowV w2 w1.heap.size v2 (false :: ins) := own2
  have hb12 := hb1.trans (((Below.refl w1.heap.size w1).alloc (Nat.le_refl _) _).trans hb2 |>.mono hb1.size)
  obtain ⟨A2, c2, hv2, hc2, hcm2, rb2⟩ := own2.shape
  rw [Hbl.out] at hv2 hc2
  have hr2 := hr.below hb12 (Nat.le_refl _) |>.more hb12.size
  subst hv2
  clear own2 hb2 hr hD hb1 hDn
  go_wp2_with fail
  refine (hT w2 hr2).mono ?_
  rintro e w3 ⟨A3, c3, rfl, _, hb3, _⟩
  have hb13 := hb12.trans (hb3.mono hb12.size)
  clear hT hr2 hb12
  go_wp2_with fail
  go_ret
  exact ⟨rfl, hb13⟩

/-- Which values of the assignment have been put down. -/
def Put3 (a j : Nat) (bs : List Bool) (tr : List Int) : Prop := tr.length = a ∧ (∀ v, v < j → tr[v]?.getD 0 = sg (bs[v]?.getD false)) ∧ ∀ v, j ≤ v → tr[v]?.getD 0 = 0
theorem put_zero (a : Nat) (bs : List Bool) : Put3 a 0 bs (List.replicate a 0) := by
  refine ⟨List.length_replicate, fun v h => by omega, fun v _ => ?_⟩
  by_cases q : v < a
  · rw [List.getElem?_replicate, if_pos q]; rfl
  · rw [List.getElem?_replicate, if_neg q]; rfl
theorem put_next {a j : Nat} {bs : List Bool} {tr : List Int} (h : Put3 a j bs tr) (hj : j < a) {z : Int} (hz : z = sg (bs[j]?.getD false)) : Put3 a (j + 1) bs (tr.set j z) := by
  obtain ⟨h1, h2, h3⟩ := h
  refine ⟨by rw [List.length_set, h1], fun v hv => ?_, fun v hv => ?_⟩
  · rw [get_set tr j v z (by omega)]
    by_cases q : j = v
    · rw [if_pos q, hz, q]
    · rw [if_neg q]; exact h2 v (by omega)
  · rw [get_set tr j v z (by omega), if_neg (by omega)]; exact h3 v (by omega)

set_option maxRecDepth 30000 in
set_option maxHeartbeats 8000000 in
theorem forces_main (A D : Option Addr) (n c m d N a F C1 : Nat) (k : Int) (P : List Bool → Prop) (zs : List Int) (ins bs : List Bool) (cl : List (List Int)) (w : World) (hr : RdI w.heap.size w A zs) (hl : zs.length = n) (hn : n ≤ 30) (hD : RdB w.heap.size w D ins) (hm : ins.length = m) (hm2 : m ≤ 30) (hDn : D = none → d = 0) (hbs : (false :: ins) = bs) (hbl : (false :: ins).length = N) (hN1 : 1 ≤ N) (hN : N ≤ 31)
    (hC1 : cl.length = C1) (hC2 : C1 ≤ 20000) (ha : N + F = a) (ha2 : a ≤ 40000) (hz : ∀ x ∈ zs, Lit N x) (hls : lsOf n zs k N = (cl, a, 0))
    (hT : ∀ W : World, RdI W.heap.size W A zs → Calls Try.prog 13 #[.slice A n c, .int .i64 k, .int .i64 (N : Int)] W (LsRes W cl a 0))
    (h1 : CanOf N cl a F P) :
    Calls Try.prog 7 #[.slice A n c, .int .i64 k, .slice D m d] w fun e w' => e = .returned (.bool true) ∧ Below w.heap.size w w' := by
  have Hm := Lib.hid hm
  have Hbl := Lib.hid hbl
  have Hl := Lib.hid hl
  have Hz := Lib.hid hz
  have HC := Lib.hid hC1
  have H1 := Lib.hid h1
  have Hbs := Lib.hid hbs
  have Ha := Lib.hid ha
  have Hls := Lib.hid hls
  obtain ⟨i0, hi, hz0, hz1, hz2⟩ := info_parts info3
  have d0 : decide ((a : Int) < (N : Int)) = false := decide_eq_false (by omega)
  have d0' : decide (a < N) = false := decide_eq_false (by omega)
  clear hm hbl hl hz hC1 h1 hbs ha hls
  go_enter Try.func7, Try.ntmps7
  go_wp2_with fail
  refine (live_any w).mono ?_
  rintro e w1 ⟨rfl, hb1⟩
  go_wp2_with (at_builtin; refine push_bools rfl _ _ rfl w1.heap.size _ [false] rfl (RowV.one w1 w1.heap.size false (Nat.le_refl _)) w.heap.size D m d ins rfl ?hr Hm.out hDn ?h1 ?h2 ?_)
  case hr => exact (hD.below hb1 (Nat.le_refl _)).below ((Below.refl w1.heap.size w1).alloc (Nat.le_refl _) _) hb1.size
  case h1 => simp; omega
  case h2 => simp
  intro v2 w2 own2 hb2
  have own2 : RowV w2 w1.heap.size v2 (false :: ins) := own2
  have hb12 := hb1.trans (((Below.refl w1.heap.size w1).alloc (Nat.le_refl _) _).trans hb2 |>.mono hb1.size)
  obtain ⟨A2, c2, hv2, hc2, hcm2, rb2⟩ := own2.shape
  rw [Hbl.out] at hv2 hc2
  rw [Hbs.out] at rb2
  have hr2 := hr.below hb12 (Nat.le_refl _) |>.more hb12.size
  subst hv2
  clear own2 hb2 hr hD hb1 hDn
  have Hbl : Hid (bs.length = N) := by rw [← Hbs.out]; exact Hbl
  go_wp2_with fail
  refine (hT w2 hr2).mono ?_
  rintro e w3 ⟨A3, c3, rfl, r3, hb3, hl3⟩
  rw [HC.out]
  have hr3 := hr2.below hb3 (Nat.le_refl _) |>.more hb3.size
  have rb3 := rb2.below hb3 (Nat.le_refl _) |>.more hb3.size
  have hb13 := hb12.trans (hb3.mono hb12.size)
  have Hl3 := Lib.hid hl3
  clear hT hr2 rb2 hb12 hb3 hl3
  go_wp2_with (at_make; refine wpList_make_full _ rfl _ _ 22 rfl w3.heap.size 3 i0 (.int .i64 0) 1 underlying22 hi hz0 hz1 .i64 .i64 _ _ a rfl rfl ?c1 ?c2 ?c3 ?c4 ?c5 ?_)
  case c1 => omega
  case c2 => omega
  case c3 => rw [hz2]; omega
  case c4 => unfold maxLen; omega
  case c5 => omega
  intro w4 hown hg4
  have low4 : Below w3.heap.size w3 w4 := (Below.refl _ w3).grown hg4 (Nat.le_refl _) (fun k hk => by cases hk)
  have hrow : RowN w4 w3.heap.size w3.heap.size (List.replicate a 0) := by
    unfold RowN
    rw [List.length_replicate, List.map_replicate]; simpa [toList_madeCells_one] using hown
  clear hown hg4 hi hz0 hz1 hz2
  go_wp2_with fail
  go_loopw [49] (fun i wr => ∃ j : Nat, ∃ tr : List Int, j ≤ N ∧ i = .int .i64 j ∧ RowN wr w3.heap.size w3.heap.size tr ∧ Hid (Put3 a j bs tr) ∧ Below w3.heap.size w3 wr) (fun i _ => N - (intOf i).toNat)
  case atStart => exact ⟨0, _, by omega, rfl, hrow, Lib.hid (put_zero a bs), low4⟩
  case round =>
    obtain ⟨j, tr, hj, rfl, hrow, Hp, low⟩ := hrel
    clear low4
    by_cases hlt : j < N
    · have rb5 := rb3.below low (Nat.le_refl _)
      have hjb : j < bs.length := by rw [Hbl.out]; exact hlt
      obtain ⟨b, off, rfl, hbb, hc⟩ := rb5 (by omega)
      have hc1 := hc j hjb
      have hjt : j < tr.length := by rw [Hp.out.1]; have := Ha.out; omega
      have hja : j < a := by have := Ha.out; omega
      have q0 := hrow.cell hjt
      have qf := hrow.frozen j
      have hrow1 := hrow.set j (-1)
      have low1 := low.setCell (p := ⟨w3.heap.size, j, none⟩) (Nat.le_refl _) (.int .i64 (-1))
      have hnext : ∀ z, z = sg (bs[j]?.getD false) → Put3 a (j + 1) bs (tr.set j z) := fun z hz => put_next Hp.out hja hz
      have Hnext := Lib.hid hnext
      have hjt1 : j < (tr.set j (-1)).length := by rw [List.length_set]; exact hjt
      have p0 := hrow1.cell hjt1
      have pf := hrow1.frozen j
      have hrow2 := hrow1.set j 1
      rw [List.set_set] at hrow2
      have low2 := low1.setCell (p := ⟨w3.heap.size, j, none⟩) (Nat.le_refl _) (.int .i64 1)
      have H1' := Lib.hid (And.intro hrow1 low1)
      have H2' := Lib.hid (And.intro hrow2 low2)
      clear hrow1 low1 hrow2 low2 hnext hjt1 hc hjb rb5 hrow low
      generalize (tr.set j (-1))[j]?.getD 0 = t1 at *
      generalize tr[j]?.getD 0 = t0 at *
      generalize bs[j]?.getD false = x at *
      cases x with
      | true =>
        have Hn := Lib.hid (Hnext.out 1 rfl)
        clear Hnext
        go_wp2_with fail
        go_roundw
        case rel => exact ⟨j + 1, _, by omega, by go_num, H2'.out.1, Hn, H2'.out.2⟩
        case measure => simp [intOf]; omega
      | false =>
        have Hn := Lib.hid (Hnext.out (-1) rfl)
        clear Hnext
        go_wp2_with fail
        go_roundw
        case rel => exact ⟨j + 1, _, by omega, by go_num, H1'.out.1, Hn, H1'.out.2⟩
        case measure => simp [intOf]; omega
    · obtain rfl : j = N := by omega
      have hr5 := hr3.below low (Nat.le_refl _)
      have rb5 := rb3.below low (Nat.le_refl _)
      have r5 := r3.below low (Nat.le_refl _)
      have hb15 := hb13.trans (low.mono hb13.size)
      obtain ⟨T, hT⟩ : ∃ T, ct bs zs = T := ⟨_, rfl⟩
      have HT := Lib.hid hT
      clear hT
      obtain ⟨Z, hZ⟩ : ∃ z, decide ((T : Int) < k) = z := ⟨_, rfl⟩
      obtain ⟨hp1, hp2, hp3⟩ := Hp.out
      obtain ⟨R, R1, R2, R3⟩ := force_rel (Z := Z) Hl.out (by omega) hN1 (by omega) Hls.out H1.out Hbl.out hp1 hp2 hp3 (by rw [HT.out]; exact hZ)
      rw [HC.out] at R2 R3
      have hI := Lib.hid (forced_any w3.heap.size w3.heap.size A3 C1 c3 a cl tr Z R wr r5 HC.out (by unfold maxLen; omega) Hl3.out H1.out.lits hrow hp1 (by have := Ha.out; omega) (by omega) (bd_of hp2 hp3) R1 R2 R3)
      have hM := fun (W : World) (h : Below w3.heap.size wr W) => Lib.hid (many_any w3.heap.size w3.heap.size A2 A j n c j c2 zs bs W (hr5.below h (Nat.le_refl _)) Hl.out (by omega) (rb5.below h (Nat.le_refl _)) Hbl.out Hz.out (Nat.le_refl _) (by omega))
      rw [HT.out] at hM
      have hb13s := hb13.size
      have rowlen := Hp.out.1
      clear hp1 hp2 hp3 R1 R2 R3 hrow hr5 rb5 r5 hr3 rb3 r3 low hb13 HC H1 Hls Hp rowlen
      go_wp2_with fail
      refine hI.out.mono ?_
      rintro e w6 ⟨rfl, hb6⟩
      have hM := hM w6 hb6
      have hb16 := hb15.trans (hb6.mono hb13s)
      clear hI
      go_wp2_with fail
      refine hM.out.mono ?_
      rintro e w7 ⟨rfl, rfl⟩
      go_wp2_with fail
      go_ret
      exact ⟨by first | rfl | (cases Z <;> rfl), hb16⟩

theorem forces_any (A D : Option Addr) (n c m d : Nat) (k : Int) (zs : List Int) (ins : List Bool) (w : World) (hr : RdI w.heap.size w A zs) (hl : zs.length = n) (hD : RdB w.heap.size w D ins) (hm : ins.length = m) (hDn : D = none → d = 0) :
    Calls Try.prog 7 #[.slice A n c, .int .i64 k, .slice D m d] w fun e w' => e = .returned (.bool true) ∧ Below w.heap.size w w' := by
  by_cases h : 30 < m ∨ 30 < n
  · exact forces_out A D n c m d k w h
  · have hbl : (false :: ins).length = m + 1 := by rw [List.length_cons, hm]
    cases hd : Tot.dist ((m + 1 : Nat) : Int) [] zs with
    | false =>
      exact forces_err A D n c m d (m + 1) k 140 zs ins w hr (by omega) hD hm (by omega) hDn hbl (by omega) (by omega) (ls_at A c hl (ls_err k (by omega) (by omega) (by omega) hd))
    | true =>
      obtain ⟨cl, a, F, e1, hz, h1⟩ := ls_can (zs := zs) k hl (by omega) (by omega) (by omega) hd
      exact forces_main A D n c m d (m + 1) a F _ k _ zs ins _ cl w hr hl (by omega) hD hm (by omega) hDn rfl hbl (by omega) (by omega) rfl h1.len h1.sum h1.low hz e1 (ls_at A c hl e1) h1

set_option maxRecDepth 100000 in
theorem countForces_lifted (os : Os) (started : os.Started) (H : Type) (enc : TypeId × Value → H) :
    ReturnsInHanded {} Try.checked os 7 .any (Rows.countForcesSpec.pre6 enc Try.prog Try.f7 Rows.countForcesRow.domain false) (Rows.countForcesSpec.post enc Try.prog Try.f7 false true false false) := by
  refine returnsInHanded_of_change (C := Try.checked) Try_own started (by kernel_rfl) Try.func7
    (ChangeSpec.witness6 (enc := enc) (C := Try.checked) false ⟨#[], #[.slice Option.none 0 0, .int .i64 0, .slice Option.none 0 0], []⟩ 7 (by kernel_rfl) (by kernel_rfl) (by kernel_rfl) (by kernel_rfl)) ?_
  intro W base args ds gs before hval0 hW _ _
  have hval : ∀ (j : Nat) t v, Try.f7.params[j]? = some t → args[j]? = some v → Value.okWide Try.prog W .any base t v := hval0
  have hW' := hW
  obtain ⟨p, q, hA0, hV, rfl, _, _⟩ := hW
  have hA : DataW.TrodAll enc Try.prog W 0 (fun _ => true) true Try.f7.params.toList args.toList ds p := hA0
  have hpar : Try.f7.params = #[22, 3, 30] := rfl
  rw [hpar] at hA hval
  have hlt : ∀ x ∈ p, x.block < W.heap.size := fun x hx => hW'.lt x (List.mem_append_left _ hx)
  obtain ⟨rfl, rfl⟩ := trodVars_none hV
  clear hA0 hval0
  obtain ⟨v0, vs0, d0, ds0, p0, q0, hargs0, rfl, rfl, h0, r0⟩ := trodAll_cons hA
  obtain ⟨v1, vs1, d1, ds1, p1, q1, hargs1, rfl, rfl, h1, r1⟩ := trodAll_cons r0
  obtain ⟨v2, vs2, d2, ds2, p2, q2, hargs2, rfl, rfl, h2, r2⟩ := trodAll_cons r1
  obtain ⟨hlast, rfl, rfl⟩ := trodAll_nil r2
  obtain rfl : args = #[v0, v1, v2] := by
    apply Array.toList_inj.1
    rw [hargs0, hargs1, hargs2, hlast]
  obtain ⟨A0, n0, cap0, zs0, rfl, hr0, hl0, hlc0, hm0, _⟩ := open_intlist (hval 0 22 v0 rfl rfl) h0 (fun x hx => hlt x (List.mem_append_left _ hx))
  obtain ⟨n1, rfl, rfl, rfl, wf1⟩ := open_int underlying3' (hval 1 3 v1 rfl rfl) h1
  obtain ⟨A2, n2, cap2, bs2, rfl, hr2, hl2, hlc2, hm2, hn2⟩ := open_boollist (hval 2 30 v2 rfl rfl) h2 (fun x hx => hlt x (List.mem_append_right _ (List.mem_append_right _ (List.mem_append_left _ hx))))
  refine (forces_any A0 A2 n0 cap0 n2 cap2 n1 zs0 bs2 W hr0 hl0 hr2 hl2 hn2).mono fun e W' ⟨he, hb⟩ => ?_
  subst he
  exact ⟨_, rfl, law_post Try_laidOut hW' rfl (by rw [hpar]; decide +kernel) 4 rfl Try.underlying4 rfl hb⟩

theorem countForces_holds : Rows.CountForcesSaid :=
  OpenClaim.holds_of_wide 7 Try.f7 rfl rfl rfl rfl rfl rfl rfl ⟨rfl, rfl, rfl, rfl, rfl⟩ rfl rfl rfl rfl rfl (by kernel_rfl) Try.func7 (by kernel_rfl)
    (of_decide_eq_true (by kernel_rfl)) (by unfold Func.isWrapper; first | (rw [if_pos (by decide +kernel)]; kernel_rfl) | (rw [if_neg (by decide +kernel)]; exact ⟨rfl, rfl⟩))
    (fun os started H enc _ => countForces_lifted os started H enc)
end Go.Proofs.Ytpiomdnkemoanaa
