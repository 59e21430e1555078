/- TotalShift: for every slice of integers, limit, first new variable and shift (a byte), where the slice has at most 20 elements and the first new variable lies from 1 to 2000 and Total answers without an error, Total at the shifted first variable answers without an error and gives the same outputs and clauses with the new variables shifted, and nothing else is changed; the law's own sanity check holds, and nothing that was there has turned. No condition. -/
import Derived.Test.YtppgpafnifmmfaaLive
import Derived.Test.YtppgpafnifmmfaaShiftM
namespace Go.Proofs.Ytppgpafnifmmfaa
open Go.ChangeShapes Go.WideShapes Go.ChangeAt Go.RowKit

/-- Whatever Total answers. -/
def TotSome (w : World) (e : Ending) (w' : World) : Prop :=
  ∃ A1 n1 c1 A2 n2 c2 m k, e = .returned (.tuple #[.slice A1 n1 c1, .slice A2 n2 c2, .int .i64 m, .int .i64 k]) ∧ Below w.heap.size w w'
theorem TotErr.some {w w' : World} {k : Int} {e : Ending} (h : TotErr w k e w') : TotSome w e w' := ⟨_, _, _, _, _, _, _, _, h.1, h.2⟩
theorem TotOk.some {w w' : World} {outs : List Int} {cl : List (List Int)} {after : Nat} {e : Ending} (h : TotOk w outs cl after e w') : TotSome w e w' := by
  obtain ⟨A1, c1, A2, c2, he, _, _, hb⟩ := h.read
  exact ⟨_, _, _, _, _, _, _, _, he, hb⟩
/-- The four ways of Total. -/
theorem Total_ways (A : Option Addr) (n c : Nat) (most next : Int) (zs : List Int) (hl : zs.length = n) (hn : n ≤ 4096) :
    (∃ k : Int, k ≠ 0 ∧ ∀ W : World, RdI W.heap.size W A zs → Calls Try.prog 11 #[.slice A n c, .int .i64 most, .int .i64 next] W (TotErr W k)) ∨
    (∃ M m : Nat, most = (M : Int) ∧ next = (m : Int) ∧ 1 ≤ m ∧ m ≤ 65537 ∧ M ≤ 1099511627776 ∧ Tot.dist (m : Int) [] zs = true ∧ (∀ x ∈ zs, -65537 ≤ x ∧ x ≤ 65537) ∧ m + Tot.size M n ≤ 65537) := by
  by_cases h : next < 1 ∨ 65537 < next ∨ most < 0 ∨ 1099511627776 < most ∨ 4096 < (n : Int)
  · exact .inl ⟨1, by omega, fun W _ => Total_arg A n c most next W h⟩
  · obtain ⟨M, rfl⟩ := Int.eq_ofNat_of_zero_le (show 0 ≤ most by omega)
    obtain ⟨m, rfl⟩ := Int.eq_ofNat_of_zero_le (show 0 ≤ next by omega)
    cases hd : Tot.dist (m : Int) [] zs with
    | false => exact .inl ⟨140, by omega, fun W hr => Total_lit A n c M zs m W hr hl (by omega) (by omega) (by omega) (by omega) hd⟩
    | true =>
      have hz : ∀ x ∈ zs, -65537 ≤ x ∧ x ≤ 65537 := fun x hx => by
        have := dist_bound zs [] hd x hx
        omega
      by_cases hb : m + Tot.size M n ≤ 65537
      · exact .inr ⟨M, m, rfl, rfl, by omega, by omega, by omega, hd, hz, hb⟩
      · exact .inl ⟨2, by omega, fun W hr => Total_bound A n c M zs m W hr hl (by omega) (by omega) (by omega) (by omega) hd (by omega)⟩
theorem Total_some (A : Option Addr) (n c : Nat) (most next : Int) (zs : List Int) (hl : zs.length = n) (hnc : n ≤ c) (hc : c ≤ maxLen) (hn : n ≤ 4096) (W : World) (hr : RdI W.heap.size W A zs) :
    Calls Try.prog 11 #[.slice A n c, .int .i64 most, .int .i64 next] W (TotSome W) := by
  rcases Total_ways A n c most next zs hl hn with ⟨k, _, h⟩ | ⟨M, m, rfl, rfl, h1, h2, hM, hd, hz, hs⟩
  · exact (h W hr).mono fun _ _ q => q.some
  · exact (Total_ok A n c M m zs W hr hl hnc hc hn h1 h2 hM hz hd hs).mono fun _ _ q => q.some

theorem moved_any (x next : Int) (t : Nat) (w : World) (hx : Wf x) (hy : Wf (mv next t x)) (h1 : 1 ≤ next) (h2 : next ≤ 2000) (ht : t ≤ 255) :
    Calls Try.prog 20 #[.int .i64 x, .int .i64 next, .int .i64 (t : Int)] w fun e w' => e = .returned (.int .i64 (mv next t x)) ∧ w = w' := by
  obtain ⟨hx1, hx2⟩ := hx
  obtain ⟨hy1, hy2⟩ := hy
  by_cases h : next ≤ x
  · have e1 : mv next t x = x + t := by rw [mv, if_pos h]
    rw [e1] at hy1 hy2 ⊢
    clear e1
    go_enter Try.func20, Try.ntmps20
    go_wp2
    go_ret
    exact ⟨rfl, rfl⟩
  · by_cases hm : x = -9223372036854775808
    · have e1 : mv next t x = x - t := by rw [mv, if_neg h, if_pos (by omega)]
      rw [e1] at hy1 hy2 ⊢
      obtain rfl : t = 0 := by omega
      subst hm
      clear e1
      rw [show ((-9223372036854775808 : Int) - ((0 : Nat) : Int)) = -9223372036854775808 by omega]
      go_enter Try.func20, Try.ntmps20
      go_wp2
      all_goals (go_ret; exact ⟨rfl, rfl⟩)
    · by_cases h3 : next ≤ -x
      · have e1 : mv next t x = x - t := by rw [mv, if_neg h, if_pos h3]
        rw [e1] at hy1 hy2 ⊢
        clear e1
        go_enter Try.func20, Try.ntmps20
        go_wp2
        go_ret
        exact ⟨rfl, rfl⟩
      · have e1 : mv next t x = x := by rw [mv, if_neg h, if_neg h3]
        rw [e1] at hy1 hy2 ⊢
        clear e1
        go_enter Try.func20, Try.ntmps20
        go_wp2
        go_ret
        exact ⟨rfl, rfl⟩

set_option maxHeartbeats 4000000 in
theorem shift_err (A : Option Addr) (n c : Nat) (most next k : Int) (t : Nat) (zs : List Int) (w : World) (hr : RdI w.heap.size w A zs) (hl : zs.length = n) (hnc : n ≤ c) (hc : c ≤ maxLen) (hn : n ≤ 20) (h1 : 1 ≤ next) (h2 : next ≤ 2000) (ht : t ≤ 255) (hk : k ≠ 0)
    (hT : ∀ W : World, RdI W.heap.size W A zs → Calls Try.prog 11 #[.slice A n c, .int .i64 most, .int .i64 next] W (TotErr W k)) :
    Calls Try.prog 8 #[.slice A n c, .int .i64 most, .int .i64 next, .int .u8 (t : Int)] w fun e w' => e = .returned (.bool true) ∧ Below w.heap.size w w' := by
  have hS := fun W => Total_some A n c most (next + t) zs hl hnc hc (by omega) W
  have Hl := Lib.hid (And.intro hl hc)
  clear hl hc
  go_enter Try.func8, Try.ntmps8
  go_wp2_with fail
  refine (live_any w).mono ?_
  rintro e w1 ⟨rfl, hb1⟩
  go_wp2_with fail
  refine (hT w1 (hr.below hb1 (Nat.le_refl _) |>.more hb1.size)).mono ?_
  rintro e w2 ⟨rfl, hb2⟩
  go_wp2_with fail
  have hb12 := hb1.trans (hb2.mono hb1.size)
  refine (hS w2 (hr.below hb12 (Nat.le_refl _) |>.more hb12.size)).mono ?_
  rintro e w3 ⟨A1, n1, c1, A2, n2, c2, m3, k3, rfl, hb3⟩
  have hb13 := hb12.trans (hb3.mono hb12.size)
  go_wp2_with fail
  go_ret
  exact ⟨rfl, hb13⟩

theorem TotOk.read2 {w w' : World} {outs : List Int} {cl : List (List Int)} {after : Nat} {e : Ending} (h : TotOk w outs cl after e w') : ∃ A1 c1 A2 c2, e = .returned (.tuple #[.slice A1 outs.length c1, .slice A2 cl.length c2, .int .i64 (after : Int), .int .i64 0]) ∧ RdI w'.heap.size w' A1 outs ∧ RdR w'.heap.size w' A2 cl ∧ Below w.heap.size w w' ∧ ∀ j, j < cl.length → (cl[j]?.getD []).length ≤ maxLen := by
  obtain ⟨A1, c1, A2, c2, h1, h2, h3, h4⟩ := h.read
  refine ⟨A1, c1, A2, c2, h1, h2, h3, h4, fun j hj => ?_⟩
  obtain ⟨v, u, us, _, _, _, hels, _⟩ := h
  obtain ⟨x, _, hrow⟩ := hels.2 j hj
  obtain ⟨E, cc, _, q1, q2, _⟩ := hrow.shape
  omega
theorem map_at2 (f : List Int → List Int) (hf : f [] = []) (l : List (List Int)) (k : Nat) : (l.map f)[k]?.getD [] = f (l[k]?.getD []) := by
  rw [List.getElem?_map]; cases l[k]? <;> simp [hf]

set_option maxRecDepth 30000 in
set_option maxHeartbeats 8000000 in
theorem shift_ok (A : Option Addr) (n c N C a : Nat) (most next : Int) (t : Nat) (zs outs : List Int) (cl : List (List Int)) (w : World) (hr : RdI w.heap.size w A zs) (hl : zs.length = n) (hn : n ≤ 20) (h1 : 1 ≤ next) (h2 : next ≤ 2000) (ht : t ≤ 255)
    (hT : ∀ W : World, RdI W.heap.size W A zs → Calls Try.prog 11 #[.slice A n c, .int .i64 most, .int .i64 next] W (TotOk W outs cl a))
    (hS : ∀ W : World, RdI W.heap.size W A zs → Calls Try.prog 11 #[.slice A n c, .int .i64 most, .int .i64 (next + t)] W (TotOk W (outs.map (mv next t)) (cl.map (List.map (mv next t))) (a + t)))
    (ha : a ≤ 65537) (hN : outs.length = N) (hC : cl.length = C) (hN2 : N ≤ 4096) (hC2 : C ≤ 1099511627776) :
    Calls Try.prog 8 #[.slice A n c, .int .i64 most, .int .i64 next, .int .u8 (t : Int)] w fun e w' => e = .returned (.bool true) ∧ Below w.heap.size w w' := by
  have Hl := Lib.hid (And.intro hl (And.intro hN hC))
  clear hl hN hC
  go_enter Try.func8, Try.ntmps8
  go_wp2_with fail
  refine (live_any w).mono ?_
  rintro e w1 ⟨rfl, hb1⟩
  go_wp2_with fail
  refine (hT w1 (hr.below hb1 (Nat.le_refl _) |>.more hb1.size)).mono ?_
  intro e w2 q
  obtain ⟨A1, c1, A2, c2, rfl, r1, r2, hb2, hlen⟩ := q.read2
  clear q
  rw [Hl.out.2.1, Hl.out.2.2]
  go_wp2_with fail
  have hb12 := hb1.trans (hb2.mono hb1.size)
  refine (hS w2 (hr.below hb12 (Nat.le_refl _) |>.more hb12.size)).mono ?_
  intro e w3 q
  obtain ⟨A3, c3, A4, c4, rfl, r3, r4, hb3, _⟩ := q.read2
  clear q
  rw [List.length_map, List.length_map, Hl.out.2.1, Hl.out.2.2, Int.natCast_add]
  have hb13 := hb12.trans (hb3.mono hb12.size)
  have r1 := (r1.below hb3 (Nat.le_refl _)).more hb3.size
  have r2 := r2.below hb3 (Nat.le_refl _)
  have Hlen := Lib.hid hlen
  clear hb1 hb2 hb12 hb3 hlen
  go_wp2_with fail
  go_loopw [17] (fun i wr => ∃ j k : Nat, j ≤ N ∧ i = .int .i64 j ∧ wr = w3.drewN k) (fun i _ => N - (intOf i).toNat)
  case atStart => exact ⟨0, 0, by omega, rfl, rfl⟩
  case round =>
    obtain ⟨j, k, hj, rfl, rfl⟩ := hrel
    by_cases hlt : j < N
    · have hjo : j < outs.length := by rw [Hl.out.2.1]; exact hlt
      have hjm : j < (outs.map (mv next t)).length := by rw [List.length_map]; exact hjo
      have hx := r1.wf hjo
      have hy := r3.wf hjm
      obtain ⟨b, off, rfl, _, hc⟩ := r1.2 (by omega)
      have hc1 := hc j hjo
      obtain ⟨b2, off2, rfl, _, hc2⟩ := r3.2 (by omega)
      have hd1 := hc2 j hjm
      rw [map_at _ _ _ hjo] at hd1 hy
      clear hc hc2 hjo hjm r1 r3 r2 r4
      have hM := fun W => moved_any (outs[j]?.getD 0) next t W hx hy h1 h2 ht
      generalize mv next t (outs[j]?.getD 0) = y at hd1 hM hy
      generalize outs[j]?.getD 0 = x at hc1 hM hx
      have hM := Lib.hid hM
      go_wp2
      go_quiet ((go_at_call 20; exact quiet_still (hM.out _)))
      go_wp2
      go_roundw
      case rel => exact ⟨j + 1, _, by omega, by go_num, rfl⟩
      case measure => simp [intOf]; omega
    · obtain rfl : j = N := by omega
      clear r1 r3
      go_wp2_with fail
      go_loopw [18] (fun i wr => ∃ j k : Nat, j ≤ C ∧ i = .int .i64 j ∧ wr = w3.drewN k) (fun i _ => C - (intOf i).toNat)
      case atStart => exact ⟨0, k, by omega, rfl, rfl⟩
      case round =>
        obtain ⟨i, k2, hi, rfl, rfl⟩ := hrel
        by_cases hit : i < C
        · have hio : i < cl.length := by rw [Hl.out.2.2]; exact hit
          have him : i < (cl.map (List.map (mv next t))).length := by rw [List.length_map]; exact hio
          obtain ⟨b, off, rfl, _, hc⟩ := r2 (by omega)
          obtain ⟨E, ec, hc1, hr1⟩ := hc i hio
          obtain ⟨b2, off2, rfl, _, hc2⟩ := r4 (by omega)
          obtain ⟨E2, ec2, hd1, hs1⟩ := hc2 i him
          have hxl : (cl[i]?.getD []).length ≤ maxLen := Hlen.out i hio
          rw [map_at2 _ rfl] at hd1 hs1
          rw [List.length_map] at hd1
          clear hc hc2 r2 r4 hio him
          generalize cl[i]?.getD [] = x at *
          obtain ⟨L, hL⟩ : ∃ L, x.length = L := ⟨_, rfl⟩
          rw [hL] at hc1 hd1 hxl
          have HL := Lib.hid hL
          clear hL
          have hxl : L ≤ 9223372036854775807 := by unfold maxLen at hxl; omega
          go_wp2
          go_quiet (fail)
          go_wp2_with fail
          go_loopw [19] (fun i' wr => ∃ q k3 : Nat, q ≤ L ∧ i' = .int .i64 q ∧ wr = w3.drewN k3) (fun i' _ => L - (intOf i').toNat)
          case atStart => exact ⟨0, _, by omega, rfl, World.drewN_drewN ..⟩
          case round =>
            obtain ⟨q, k3, hq, rfl, rfl⟩ := hrel
            by_cases hqt : q < L
            · have hqo : q < x.length := by rw [HL.out]; exact hqt
              have hqm : q < (x.map (mv next t)).length := by rw [List.length_map]; exact hqo
              have hx := hr1.wf hqo
              have hy := hs1.wf hqm
              obtain ⟨b3, off3, rfl, _, hc3⟩ := hr1.2 (by omega)
              have hc4 := hc3 q hqo
              obtain ⟨b5, off5, rfl, _, hc5⟩ := hs1.2 (by omega)
              have hd4 := hc5 q hqm
              rw [map_at _ _ _ hqo] at hd4 hy
              clear hc3 hc5 hqo hqm hr1 hs1
              have hM := fun W => moved_any (x[q]?.getD 0) next t W hx hy h1 h2 ht
              generalize mv next t (x[q]?.getD 0) = y at hd4 hM hy
              generalize x[q]?.getD 0 = z at hc4 hM hx
              have hM := Lib.hid hM
              go_wp2
              go_quiet ((go_at_call 20; exact quiet_still (hM.out _)))
              go_wp2
              go_roundw
              case rel => exact ⟨q + 1, _, by omega, by go_num, rfl⟩
              case measure => simp [intOf]; omega
            · obtain rfl : q = L := by omega
              clear hr1 hs1 hq hqt
              go_wp2
              go_roundw
              case rel => exact ⟨i + 1, _, by omega, by go_num, rfl⟩
              case measure => simp [intOf]; omega
        · obtain rfl : i = C := by omega
          go_wp2
          go_ret
          exact ⟨rfl, below_drewN hb13 k2⟩

set_option maxHeartbeats 4000000 in
theorem shift_out (A : Option Addr) (n c : Nat) (most next : Int) (t : Nat) (w : World) (h : 20 < n ∨ next < 1 ∨ 2000 < next) :
    Calls Try.prog 8 #[.slice A n c, .int .i64 most, .int .i64 next, .int .u8 (t : Int)] w fun e w' => e = .returned (.bool true) ∧ Below w.heap.size w w' := by
  by_cases h0 : 20 < n
  · clear h
    go_enter Try.func8, Try.ntmps8
    go_wp2_with fail
    refine (live_any w).mono ?_
    rintro e w1 ⟨rfl, hb1⟩
    go_wp2_with fail
    go_ret
    exact ⟨rfl, hb1⟩
  · by_cases h1 : next < 1
    · clear h
      go_enter Try.func8, Try.ntmps8
      go_wp2_with fail
      refine (live_any w).mono ?_
      rintro e w1 ⟨rfl, hb1⟩
      go_wp2_with fail
      go_ret
      exact ⟨rfl, hb1⟩
    · have h2 : 2000 < next := by omega
      clear h
      go_enter Try.func8, Try.ntmps8
      go_wp2_with fail
      refine (live_any w).mono ?_
      rintro e w1 ⟨rfl, hb1⟩
      go_wp2_with fail
      go_ret
      exact ⟨rfl, hb1⟩

theorem shift_any (A : Option Addr) (n c : Nat) (most next : Int) (t : Nat) (zs : List Int) (w : World) (hr : RdI w.heap.size w A zs) (hl : zs.length = n) (hnc : n ≤ c) (hc : c ≤ maxLen) (ht : t ≤ 255) :
    Calls Try.prog 8 #[.slice A n c, .int .i64 most, .int .i64 next, .int .u8 (t : Int)] w fun e w' => e = .returned (.bool true) ∧ Below w.heap.size w w' := by
  by_cases h : 20 < n ∨ next < 1 ∨ 2000 < next
  · exact shift_out A n c most next t w h
  · have hn : n ≤ 20 := by omega
    rcases Total_ways A n c most next zs hl (by omega) with ⟨k, hk, hT⟩ | ⟨M, m, rfl, rfl, h1, h2, hM, hd, hz, hs⟩
    · exact shift_err A n c most next k t zs w hr hl hnc hc hn (by omega) (by omega) ht hk hT
    · have hsz : Tot.size M n ≤ 400 := Nat.le_trans (size_le M n n (Nat.le_refl _)) (Nat.mul_le_mul hn hn)
      have hdt : Tot.dist ((m + t : Nat) : Int) [] zs = true := dist_mono (by omega) zs [] hd
      have hmv := cnt_mv (most := M) m t h1 n zs m (by omega) (Nat.le_refl _) (dist_bound zs [] hd)
      have hcl := cnt_clauses (most := M) n zs m (by omega) (by omega)
      have hou := cnt_small (most := M) zs m
      refine shift_ok A n c _ _ (m + Tot.size M n) M m t zs (Tot.cnt M zs m).1 (Tot.cnt M zs m).2 w hr hl hn (by omega) (by omega) ht
        (fun W hW => Total_ok A n c M m zs W hW hl hnc hc (by omega) h1 h2 hM hz hd hs) (fun W hW => ?_) hs rfl rfl (by omega) (by omega)
      have q := Total_ok A n c M (m + t) zs W hW hl hnc hc (by omega) (by omega) (by omega) hM hz hdt (by omega)
      rw [hmv, show m + t + Tot.size M n = m + Tot.size M n + t by omega, Int.natCast_add] at q
      exact q

set_option maxRecDepth 100000 in
theorem totalShift_lifted (os : Os) (started : os.Started) (H : Type) (enc : TypeId × Value → H) :
    ReturnsInHanded {} Try.checked os 8 .any (Rows.totalShiftSpec.pre6 enc Try.prog Try.f8 Rows.totalShiftRow.domain false) (Rows.totalShiftSpec.post enc Try.prog Try.f8 false true false false) := by
  refine returnsInHanded_of_change (C := Try.checked) Try_own started (by kernel_rfl) Try.func8
    (ChangeSpec.witness6 (enc := enc) (C := Try.checked) false ⟨#[], #[.slice Option.none 0 0, .int .i64 0, .int .i64 0, .int .u8 0], []⟩ 8 (by kernel_rfl) (by kernel_rfl) (by kernel_rfl) (by kernel_rfl)) ?_
  intro W base args ds gs before hval0 hW _ _
  have hval : ∀ (j : Nat) t v, Try.f8.params[j]? = some t → args[j]? = some v → Value.okWide Try.prog W .any base t v := hval0
  have hW' := hW
  obtain ⟨p, q, hA0, hV, rfl, _, _⟩ := hW
  have hA : DataW.TrodAll enc Try.prog W 0 (fun _ => true) true Try.f8.params.toList args.toList ds p := hA0
  have hpar : Try.f8.params = #[22, 3, 3, 5] := rfl
  rw [hpar] at hA hval
  have hlt : ∀ x ∈ p, x.block < W.heap.size := fun x hx => hW'.lt x (List.mem_append_left _ hx)
  obtain ⟨rfl, rfl⟩ := trodVars_none hV
  clear hA0 hval0
  obtain ⟨v0, vs0, d0, ds0, p0, q0, hargs0, rfl, rfl, h0, r0⟩ := trodAll_cons hA
  obtain ⟨v1, vs1, d1, ds1, p1, q1, hargs1, rfl, rfl, h1, r1⟩ := trodAll_cons r0
  obtain ⟨v2, vs2, d2, ds2, p2, q2, hargs2, rfl, rfl, h2, r2⟩ := trodAll_cons r1
  obtain ⟨v3, vs3, d3, ds3, p3, q3, hargs3, rfl, rfl, h3, r3⟩ := trodAll_cons r2
  obtain ⟨hlast, rfl, rfl⟩ := trodAll_nil r3
  obtain rfl : args = #[v0, v1, v2, v3] := by
    apply Array.toList_inj.1
    rw [hargs0, hargs1, hargs2, hargs3, hlast]
  obtain ⟨A0, n0, cap0, zs0, rfl, hr0, hl0, hlc0, hm0, _⟩ := open_intlist (hval 0 22 v0 rfl rfl) h0 (fun x hx => hlt x (List.mem_append_left _ hx))
  obtain ⟨n1, rfl, rfl, rfl, wf1⟩ := open_int underlying3' (hval 1 3 v1 rfl rfl) h1
  obtain ⟨n2, rfl, rfl, rfl, wf2⟩ := open_int underlying3' (hval 2 3 v2 rfl rfl) h2
  obtain ⟨n3, rfl, rfl, rfl, wf3⟩ := open_int Try.underlying5 (hval 3 5 v3 rfl rfl) h3
  have w3 : 0 ≤ n3 ∧ n3 ≤ 255 := by simpa [Lit.wf, IntKind.min, IntKind.max, IntKind.signed, IntKind.bits] using wf3
  obtain ⟨t3, rfl⟩ := Int.eq_ofNat_of_zero_le w3.1
  refine (shift_any A0 n0 cap0 n1 n2 t3 zs0 W hr0 hl0 hlc0 hm0 (by omega)).mono fun e W' ⟨he, hb⟩ => ?_
  subst he
  exact ⟨_, rfl, law_post Try_laidOut hW' rfl (by rw [hpar]; decide +kernel) 4 rfl Try.underlying4 rfl hb⟩

theorem totalShift_holds : Rows.TotalShiftSaid :=
  OpenClaim.holds_of_wide 8 Try.f8 rfl rfl rfl rfl rfl rfl rfl ⟨rfl, rfl, rfl, rfl, rfl⟩ rfl rfl rfl rfl rfl (by kernel_rfl) Try.func8 (by kernel_rfl)
    (of_decide_eq_true (by kernel_rfl)) (by unfold Func.isWrapper; first | (rw [if_pos (by decide +kernel)]; kernel_rfl) | (rw [if_neg (by decide +kernel)]; exact ⟨rfl, rfl⟩))
    (fun os started H enc _ => totalShift_lifted os started H enc)
end Go.Proofs.Ytppgpafnifmmfaa
