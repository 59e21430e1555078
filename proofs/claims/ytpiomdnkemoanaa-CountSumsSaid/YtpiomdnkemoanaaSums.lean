/- For every slice of integers, every number k and every slice of bools, the law CountSums answers true at the landed code and changes nothing that came in: the clauses of Least can be satisfied under an assignment just where the sum of the true literals is at least k, as lin.Value says, as far as it is tried. Conditions: those of the statement alone. -/
import Derived.Test.YtpiomdnkemoanaaLin
namespace Go.Proofs.Ytpiomdnkemoanaa
open Go.ChangeShapes Go.WideShapes Go.ChangeAt Go.RowKit

set_option maxHeartbeats 4000000 in
theorem sums_out (A D : Option Addr) (n c m d : Nat) (k : Int) (w : World) (h : 12 < m ∨ 12 < n ∨ k < -100 ∨ 100 < k) :
    Calls Try.prog 11 #[.slice A n c, .int .i64 k, .slice D m d] w fun e w' => e = .returned (.bool true) ∧ Below w.heap.size w w' := by
  by_cases h1 : 12 < m
  · clear h
    go_enter Try.func11, Try.ntmps11
    go_wp2_with fail
    refine (live_any w).mono ?_
    rintro e w1 ⟨rfl, hb1⟩
    go_wp2_with fail
    go_ret
    exact ⟨rfl, hb1⟩
  · by_cases h2 : 12 < n
    · clear h
      go_enter Try.func11, Try.ntmps11
      go_wp2_with fail
      refine (live_any w).mono ?_
      rintro e w1 ⟨rfl, hb1⟩
      go_wp2_with fail
      go_ret
      exact ⟨rfl, hb1⟩
    · by_cases h3 : k < -100
      · clear h
        go_enter Try.func11, Try.ntmps11
        go_wp2_with fail
        refine (live_any w).mono ?_
        rintro e w1 ⟨rfl, hb1⟩
        go_wp2_with fail
        go_ret
        exact ⟨rfl, hb1⟩
      · have h4 : 100 < k := by omega
        clear h
        go_enter Try.func11, Try.ntmps11
        go_wp2_with fail
        refine (live_any w).mono ?_
        rintro e w1 ⟨rfl, hb1⟩
        go_wp2_with fail
        go_ret
        exact ⟨rfl, hb1⟩

set_option maxRecDepth 30000 in
set_option maxHeartbeats 4000000 in
theorem sums_err (A D : Option Addr) (n c m d N : Nat) (k E : Int) (zs : List Int) (ins : List Bool) (w : World) (hr : RdI w.heap.size w A zs) (hn : n ≤ 12) (hk1 : -100 ≤ k) (hk2 : k ≤ 100) (hD : RdB w.heap.size w D ins) (hm : ins.length = m) (hm2 : m ≤ 12) (hDn : D = none → d = 0) (hbl : (false :: ins).length = N) (_hN : N ≤ 13) (hE : E ≠ 0)
    (hT : ∀ W : World, RdI W.heap.size W A zs → Calls Try.prog 13 #[.slice A n c, .int .i64 k, .int .i64 (N : Int)] W (LsRes W [] 0 E)) :
    Calls Try.prog 11 #[.slice A n c, .int .i64 k, .slice D m d] w fun e w' => e = .returned (.bool true) ∧ Below w.heap.size w w' := by
  have Hm := Lib.hid hm
  have Hbl := Lib.hid hbl
  have d0 : (E != 0) = true := by simpa using hE
  clear hm hbl
  go_enter Try.func11, Try.ntmps11
  go_wp2_with fail
  refine (live_any w).mono ?_
  rintro e w1 ⟨rfl, hb1⟩
  go_wp2_with (at_builtin; refine push_bools rfl _ _ rfl w1.heap.size _ [false] rfl (RowV.one w1 w1.heap.size false (Nat.le_refl _)) w.heap.size D m d ins rfl ?hr Hm.out hDn ?h1 ?h2 ?_)
  case hr => exact (hD.below hb1 (Nat.le_refl _)).below ((Below.refl w1.heap.size w1).alloc (Nat.le_refl _) _) hb1.size
  case h1 => simp; omega
  case h2 => simp
  intro v2 w2 own2 hb2
  have own2 : RowV w2 w1.heap.size v2 (false :: ins) := own2
  have hb12 := hb1.trans (((Below.refl w1.heap.size w1).alloc (Nat.le_refl _) _).trans hb2 |>.mono hb1.size)
  obtain ⟨A2, c2, hv2, hc2, hcm2, rb2⟩ := own2.shape
  rw [Hbl.out] at hv2 hc2
  have hr2 := hr.below hb12 (Nat.le_refl _) |>.more hb12.size
  subst hv2
  clear own2 hb2 hr hD hb1 hDn
  go_wp2_with fail
  refine (hT w2 hr2).mono ?_
  rintro e w3 ⟨A3, c3, rfl, _, hb3, _⟩
  have hb13 := hb12.trans (hb3.mono hb12.size)
  clear hT hr2 hb12
  go_wp2_with fail
  go_ret
  exact ⟨rfl, hb13⟩

/-- A row of ones in a record of three cells. -/
structure Rec (w : World) (g n c j : Nat) (A : Option Addr) (k : Int) (w0 : World) : Prop where
  low : Below g w0 w
  row : ∃ v, w.heap[g]? = some (.cells #[v, .slice A n c, .int .i64 k] 45 (0, 0)) ∧ RowI w (g + 1) v (List.replicate j 1)

set_option maxRecDepth 30000 in
set_option maxHeartbeats 4000000 in
theorem sums_main (A D : Option Addr) (n c m d N a F C1 : Nat) (k : Int) (zs : List Int) (ins bs : List Bool) (cl : List (List Int)) (w : World) (hr : RdI w.heap.size w A zs) (hl : zs.length = n) (hn : n ≤ 12) (hk1 : -100 ≤ k) (hk2 : k ≤ 100) (hD : RdB w.heap.size w D ins) (hm : ins.length = m) (hm2 : m ≤ 12) (hDn : D = none → d = 0) (hbs : (false :: ins) = bs) (hbl : (false :: ins).length = N) (hN1 : 1 ≤ N) (hN : N ≤ 13)
    (hC1 : cl.length = C1) (hz : ∀ x ∈ zs, Lit N x)
    (hT : ∀ W : World, RdI W.heap.size W A zs → Calls Try.prog 13 #[.slice A n c, .int .i64 k, .int .i64 (N : Int)] W (LsRes W cl a 0))
    (h1 : CanOf N cl a F (fun bs => k ≤ (ct bs zs : Int))) :
    Calls Try.prog 11 #[.slice A n c, .int .i64 k, .slice D m d] w fun e w' => e = .returned (.bool true) ∧ Below w.heap.size w w' := by
  have Hm := Lib.hid hm
  have Hbl := Lib.hid hbl
  have Hl := Lib.hid hl
  have Hz := Lib.hid hz
  have HC := Lib.hid hC1
  have H1 := Lib.hid h1
  have Hbs := Lib.hid hbs
  clear hm hbl hl hz hC1 h1 hbs
  go_enter Try.func11, Try.ntmps11
  go_wp2_with fail
  refine (live_any w).mono ?_
  rintro e w1 ⟨rfl, hb1⟩
  go_wp2_with (at_builtin; refine push_bools rfl _ _ rfl w1.heap.size _ [false] rfl (RowV.one w1 w1.heap.size false (Nat.le_refl _)) w.heap.size D m d ins rfl ?hr Hm.out hDn ?h1 ?h2 ?_)
  case hr => exact (hD.below hb1 (Nat.le_refl _)).below ((Below.refl w1.heap.size w1).alloc (Nat.le_refl _) _) hb1.size
  case h1 => simp; omega
  case h2 => simp
  intro v2 w2 own2 hb2
  have own2 : RowV w2 w1.heap.size v2 (false :: ins) := own2
  have hb12 := hb1.trans (((Below.refl w1.heap.size w1).alloc (Nat.le_refl _) _).trans hb2 |>.mono hb1.size)
  obtain ⟨A2, c2, hv2, hc2, hcm2, rb2⟩ := own2.shape
  rw [Hbl.out] at hv2 hc2
  rw [Hbs.out] at rb2
  have hr2 := hr.below hb12 (Nat.le_refl _) |>.more hb12.size
  subst hv2
  clear own2 hb2 hr hD hb1 hDn
  have Hbl : Hid (bs.length = N) := by rw [← Hbs.out]; exact Hbl
  go_wp2_with fail
  refine (hT w2 hr2).mono ?_
  rintro e w3 ⟨A3, c3, rfl, r3, hb3, hl3⟩
  rw [HC.out]
  have hr3 := hr2.below hb3 (Nat.le_refl _) |>.more hb3.size
  have rb3 := rb2.below hb3 (Nat.le_refl _) |>.more hb3.size
  have hb13 := hb12.trans (hb3.mono hb12.size)
  have Hl3 := Lib.hid hl3
  clear hT hr2 rb2 hb12 hb3 hl3
  go_wp2_with fail
  go_loopw [54] (fun i wr => ∃ j : Nat, j ≤ n ∧ i = .int .i64 j ∧ Rec wr w3.heap.size n c j A k w3) (fun i _ => n - (intOf i).toNat)
  case atStart => exact ⟨0, by omega, rfl, ⟨(Below.refl _ _).alloc (Nat.le_refl _) _, _, heap_alloc_new _ _, RowI.empty _ _⟩⟩
  case round =>
    obtain ⟨j, hj, rfl, ⟨low, v, hg, row⟩⟩ := hrel
    have q0 : wr.cell? ⟨w3.heap.size, 0, none⟩ = some v := by rw [cell_of_row wr w3.heap.size 0 _ 45 (0, 0) hg]; rfl
    have q1 : wr.cell? ⟨w3.heap.size, 1, none⟩ = some (.slice A n c) := by rw [cell_of_row wr w3.heap.size 1 _ 45 (0, 0) hg]; rfl
    have q2 : wr.cell? ⟨w3.heap.size, 2, none⟩ = some (.int .i64 k) := by rw [cell_of_row wr w3.heap.size 2 _ 45 (0, 0) hg]; rfl
    have hgs : w3.heap.size < wr.heap.size := (Array.getElem?_eq_some_iff.1 hg).1
    obtain ⟨AV, cv, hv, _, _, rdv⟩ := row.shape
    rw [List.length_replicate] at hv
    subst hv
    by_cases hlt : j < n
    · go_wp2_with (at_builtin; refine wpList_push rfl _ _ rfl (w3.heap.size + 1) _ _ rfl row 1 (by unfold Wf; omega) rfl (by rw [List.length_replicate]; omega) (by omega) ?_)
      intro v' w' row' low'
      have hg' : w'.heap[w3.heap.size]? = some (.cells #[.slice AV j cv, .slice A n c, .int .i64 k] 45 (0, 0)) := (low'.block w3.heap.size (by omega)).trans hg
      have p0 : w'.cell? ⟨w3.heap.size, 0, none⟩ = some (.slice AV j cv) := by rw [cell_of_row w' w3.heap.size 0 _ 45 (0, 0) hg']; rfl
      have pf := frozen_of_row w' w3.heap.size 0 _ 45 hg'
      have e1 : List.replicate j (1 : Int) ++ [1] = List.replicate (j + 1) 1 := List.replicate_succ'.symm
      rw [e1] at row'
      obtain ⟨AV', cv', hv', _, _, _⟩ := row'.shape
      rw [List.length_replicate] at hv'
      subst hv'
      have hst := heap_setCell_same w' w3.heap.size 0 _ 45 (.slice AV' (j + 1) cv') hg'
      have hrow2 := row'.stored (u := .slice AV' (j + 1) cv') (g := w3.heap.size) (by omega)
      have hlow2 := (low.trans (low'.mono (by omega))).setCell (p := ⟨w3.heap.size, 0, none⟩) (Nat.le_refl _) (.slice AV' (j + 1) cv')
      have Hnew := Lib.hid (And.intro hlow2 (And.intro hst hrow2))
      clear hst hrow2 hlow2 row' low' hg' row low hg q0 q1 q2 rdv
      go_wp2_with fail
      go_roundw
      case rel => exact ⟨j + 1, by omega, by go_num, ⟨Hnew.out.1, _, Hnew.out.2.1, Hnew.out.2.2⟩⟩
      case measure => simp [intOf]; omega
    · obtain rfl : j = n := by omega
      have hr5 := (hr3.below low (Nat.le_refl _)).more low.size
      have rb5 := (rb3.below low (Nat.le_refl _)).more low.size
      have r5 : RdR wr.heap.size wr A3 cl := (r3.below low (Nat.le_refl _)).more low.size
      have hb15 := hb13.trans (low.mono hb13.size)
      obtain ⟨T, hT⟩ : ∃ T, ct bs zs = T := ⟨_, rfl⟩
      have HT := Lib.hid hT
      clear hT
      obtain ⟨z1, hz1⟩ : ∃ z, decide (k ≤ (T : Int)) = z := ⟨_, rfl⟩
      have hI := Lib.hid (can_any A3 A2 C1 c3 N c2 a F cl bs _ z1 wr r5 HC.out Hl3.out rb5 Hbl.out hN1 (by omega) H1.out (by rw [HT.out, ← hz1]; simp))
      have Hrow := Lib.hid row
      clear hr3 rb3 r3 low r5 hb13 HC H1 row q0 q1 q2
      go_wp2_with fail
      refine hI.out.mono ?_
      rintro e w6 ⟨rfl, hb6⟩
      have hg6 := (hb6.block w3.heap.size hgs).trans hg
      have q0 : w6.cell? ⟨w3.heap.size, 0, none⟩ = some (.slice AV j cv) := by rw [cell_of_row w6 w3.heap.size 0 _ 45 (0, 0) hg6]; rfl
      have q1 : w6.cell? ⟨w3.heap.size, 1, none⟩ = some (.slice A j c) := by rw [cell_of_row w6 w3.heap.size 1 _ 45 (0, 0) hg6]; rfl
      have q2 : w6.cell? ⟨w3.heap.size, 2, none⟩ = some (.int .i64 k) := by rw [cell_of_row w6 w3.heap.size 2 _ 45 (0, 0) hg6]; rfl
      have hr6 := hr5.below hb6 (Nat.le_refl _)
      have rb6 := rb5.below hb6 (Nat.le_refl _)
      have rv6 := rdv.below hb6 (Nat.le_refl _)
      have hb16 := hb15.trans (hb6.mono hb15.size)
      have hJ := Lib.hid (Value_any wr.heap.size wr.heap.size AV A A2 j cv c N c2 T k (List.replicate j 1) zs bs w6 rv6 hr6 hb6.size hb6.size List.length_replicate Hl.out (by omega) (fun x hx => (List.mem_replicate.1 hx).2) hk1 hk2 rb6 Hbl.out (by omega) Hz.out HT.out)
      rw [hz1] at hJ
      have hb16s := hb16.size
      clear hI hr5 rb5 rdv hb15 hr6 rb6 rv6 hg hg6 Hrow
      cases decide (F ≤ 9) with
      | true =>
        go_wp2_with fail
        refine hJ.out.mono ?_
        rintro e w7 ⟨rfl, hb7⟩
        have hb17 := hb16.trans (hb7.mono hb16s)
        go_wp2_with fail
        go_ret
        exact ⟨by first | rfl | (cases z1 <;> rfl), hb17⟩
      | false =>
        go_wp2_with fail
        go_ret
        exact ⟨rfl, hb16⟩

theorem sums_any (A D : Option Addr) (n c m d : Nat) (k : Int) (zs : List Int) (ins : List Bool) (w : World) (hr : RdI w.heap.size w A zs) (hl : zs.length = n) (hD : RdB w.heap.size w D ins) (hm : ins.length = m) (hDn : D = none → d = 0) :
    Calls Try.prog 11 #[.slice A n c, .int .i64 k, .slice D m d] w fun e w' => e = .returned (.bool true) ∧ Below w.heap.size w w' := by
  by_cases h : 12 < m ∨ 12 < n ∨ k < -100 ∨ 100 < k
  · exact sums_out A D n c m d k w h
  · have hbl : (false :: ins).length = m + 1 := by rw [List.length_cons, hm]
    cases hd : Tot.dist ((m + 1 : Nat) : Int) [] zs with
    | false =>
      exact sums_err A D n c m d (m + 1) k 140 zs ins w hr (by omega) (by omega) (by omega) hD hm (by omega) hDn hbl (by omega) (by omega) (ls_at A c hl (ls_err k (by omega) (by omega) (by omega) hd))
    | true =>
      obtain ⟨cl, a, F, e1, hz, h1⟩ := ls_can (zs := zs) k hl (by omega) (by omega) (by omega) hd
      exact sums_main A D n c m d (m + 1) a F _ k zs ins _ cl w hr hl (by omega) (by omega) (by omega) hD hm (by omega) hDn rfl hbl (by omega) (by omega) rfl hz (ls_at A c hl e1) h1

set_option maxRecDepth 100000 in
theorem countSums_lifted (os : Os) (started : os.Started) (H : Type) (enc : TypeId × Value → H) :
    ReturnsInHanded {} Try.checked os 11 .any (Rows.countSumsSpec.pre6 enc Try.prog Try.f11 Rows.countSumsRow.domain false) (Rows.countSumsSpec.post enc Try.prog Try.f11 false true false false) := by
  refine returnsInHanded_of_change (C := Try.checked) Try_own started (by kernel_rfl) Try.func11
    (ChangeSpec.witness6 (enc := enc) (C := Try.checked) false ⟨#[], #[.slice Option.none 0 0, .int .i64 0, .slice Option.none 0 0], []⟩ 11 (by kernel_rfl) (by kernel_rfl) (by kernel_rfl) (by kernel_rfl)) ?_
  intro W base args ds gs before hval0 hW _ _
  have hval : ∀ (j : Nat) t v, Try.f11.params[j]? = some t → args[j]? = some v → Value.okWide Try.prog W .any base t v := hval0
  have hW' := hW
  obtain ⟨p, q, hA0, hV, rfl, _, _⟩ := hW
  have hA : DataW.TrodAll enc Try.prog W 0 (fun _ => true) true Try.f11.params.toList args.toList ds p := hA0
  have hpar : Try.f11.params = #[22, 3, 30] := rfl
  rw [hpar] at hA hval
  have hlt : ∀ x ∈ p, x.block < W.heap.size := fun x hx => hW'.lt x (List.mem_append_left _ hx)
  obtain ⟨rfl, rfl⟩ := trodVars_none hV
  clear hA0 hval0
  obtain ⟨v0, vs0, d0, ds0, p0, q0, hargs0, rfl, rfl, h0, r0⟩ := trodAll_cons hA
  obtain ⟨v1, vs1, d1, ds1, p1, q1, hargs1, rfl, rfl, h1, r1⟩ := trodAll_cons r0
  obtain ⟨v2, vs2, d2, ds2, p2, q2, hargs2, rfl, rfl, h2, r2⟩ := trodAll_cons r1
  obtain ⟨hlast, rfl, rfl⟩ := trodAll_nil r2
  obtain rfl : args = #[v0, v1, v2] := by
    apply Array.toList_inj.1
    rw [hargs0, hargs1, hargs2, hlast]
  obtain ⟨A0, n0, cap0, zs0, rfl, hr0, hl0, hlc0, hm0, _⟩ := open_intlist (hval 0 22 v0 rfl rfl) h0 (fun x hx => hlt x (List.mem_append_left _ hx))
  obtain ⟨n1, rfl, rfl, rfl, wf1⟩ := open_int underlying3' (hval 1 3 v1 rfl rfl) h1
  obtain ⟨A2, n2, cap2, bs2, rfl, hr2, hl2, hlc2, hm2, hn2⟩ := open_boollist (hval 2 30 v2 rfl rfl) h2 (fun x hx => hlt x (List.mem_append_right _ (List.mem_append_right _ (List.mem_append_left _ hx))))
  refine (sums_any A0 A2 n0 cap0 n2 cap2 n1 zs0 bs2 W hr0 hl0 hr2 hl2 hn2).mono fun e W' ⟨he, hb⟩ => ?_
  subst he
  exact ⟨_, rfl, law_post Try_laidOut hW' rfl (by rw [hpar]; decide +kernel) 4 rfl Try.underlying4 rfl hb⟩

theorem countSums_holds : Rows.CountSumsSaid :=
  OpenClaim.holds_of_wide 11 Try.f11 rfl rfl rfl rfl rfl rfl rfl ⟨rfl, rfl, rfl, rfl, rfl⟩ rfl rfl rfl rfl rfl (by kernel_rfl) Try.func11 (by kernel_rfl)
    (of_decide_eq_true (by kernel_rfl)) (by unfold Func.isWrapper; first | (rw [if_pos (by decide +kernel)]; kernel_rfl) | (rw [if_neg (by decide +kernel)]; exact ⟨rfl, rfl⟩))
    (fun os started H enc _ => countSums_lifted os started H enc)
end Go.Proofs.Ytpiomdnkemoanaa
