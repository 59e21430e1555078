/- The builder's each with the division of Cut. -/
import Derived.Test.YtoacfjmefoiflaaSat
namespace Go.Proofs.Ytoacfjmefoiflaa
open Go.RowKit Go.Maps
set_option maxRecDepth 100000

/-- Divided, rounded up. -/
def dv (y x : Int) : Int := (x + y - 1) / y
theorem dv_wf {x y : Int} (hx : 0 ≤ x ∧ x ≤ 1152921504606846976) (hy : 1 ≤ y ∧ y ≤ 1099511627776) : Wf (dv y x) := by
  have hq1 : 0 ≤ (x + y - 1) / y := Int.ediv_nonneg (by omega) (by omega)
  have hq2 : (x + y - 1) / y ≤ x + y - 1 := Int.ediv_le_self _ (by omega)
  unfold dv
  exact ⟨by omega, by omega⟩
theorem dv_any (bx : Nat) (y x : Int) (w : World) (hbx : w.cell? ⟨bx, 0, none⟩ = some (.int .i64 y)) (hx : 0 ≤ x ∧ x ≤ 1152921504606846976) (hy : 1 ≤ y ∧ y ≤ 1099511627776) :
    Calls Try.prog 53 #[.int .i64 x, .pointer (some ⟨bx, 0, none⟩)] w fun e w' => e = .returned (.int .i64 (dv y x)) ∧ w = w' := by
  obtain ⟨h1, h2⟩ := hx
  obtain ⟨h3, h4⟩ := hy
  have hq : dv y x = (x + y - 1) / y := rfl
  have hq1 : 0 ≤ (x + y - 1) / y := Int.ediv_nonneg (by omega) (by omega)
  have hq2 : (x + y - 1) / y ≤ x + y - 1 := Int.ediv_le_self _ (by omega)
  go_enter Try.func53, Try.ntmps53
  go_wp2_with fail
  go_ret
  exact ⟨rfl, rfl⟩
/-- All coefficients divided, rounded up. -/
def dn (y : Int) (cs : List Int) : List Int := cs.map (dv y)
theorem dn_set (cs : List Int) (y : Int) (j : Nat) (h : j < cs.length) : (dn y (cs.take j) ++ cs.drop j).set j (dv y (cs[j]?.getD 0)) = dn y (cs.take (j + 1)) ++ cs.drop (j + 1) := by
  have e1 : cs.drop j = cs[j] :: cs.drop (j + 1) := List.drop_eq_getElem_cons h
  have e2 : cs.take (j + 1) = cs.take j ++ [cs[j]] := by rw [List.take_add_one, List.getElem?_eq_getElem h]; rfl
  rw [e1, e2, List.getElem?_eq_getElem h]
  unfold dn
  rw [List.map_append, List.set_append_right _ _ (by simp; omega), List.length_map, List.length_take, Nat.min_eq_left (Nat.le_of_lt h), Nat.sub_self, List.set_cons_zero, List.append_assoc]
  rfl
theorem dn_at (cs : List Int) (y : Int) (j : Nat) (h : j < cs.length) : (dn y (cs.take j) ++ cs.drop j)[j]?.getD 0 = cs[j]?.getD 0 := by
  unfold dn
  rw [List.getElem?_append_right (by simp; omega), List.length_map, List.length_take, Nat.min_eq_left (Nat.le_of_lt h), Nat.sub_self, List.getElem?_drop, Nat.add_zero]
theorem dn_len (cs : List Int) (y : Int) (j : Nat) : (dn y (cs.take j) ++ cs.drop j).length = cs.length := by
  unfold dn; rw [List.length_append, List.length_map, List.length_take, List.length_drop]; omega

/-- A builder in block g whose rows lie in other blocks from base on. -/
def BldC (w : World) (g base : Nat) (v1 v2 : Value) (cs ls : List Int) (k : Int) : Prop := LinAt w g v1 v2 k 52 ∧ QI w base v1 cs ∧ QI w base v2 ls ∧ Dis2 v1 v2 ∧ v1.ownBlock ≠ some g ∧ v2.ownBlock ≠ some g ∧ base ≤ g
theorem QI.setOff {w : World} {base g j : Nat} {v u : Value} {zs : List Int} (h : QI w base v zs) (hg : v.ownBlock ≠ some g) : QI (w.setCell ⟨g, j, none⟩ u) base v zs := h.same fun k hk => heap_setCell_other w ⟨g, j, none⟩ k u (fun e => hg (by rw [hk]; exact congrArg some e))
structure EDt (w W : World) (g base bx : Nat) (y : Int) (v1 v2 : Value) (k : Int) (zs ls : List Int) : Prop where
  at' : LinAt W g v1 v2 k 52
  q1 : QI W base v1 zs
  q2 : QI W base v2 ls
  bx : Boxed W bx 3 (.int .i64 y)
  bs : base ≤ W.heap.size
  low : Below base w W

set_option maxHeartbeats 8000000 in
theorem eachd_any (g base bx : Nat) (cs ls : List Int) (k y : Int) (w : World) (v1 v2 : Value) (B : BldC w g base v1 v2 cs ls k) (hbx : Boxed w bx 3 (.int .i64 y)) (hbg : bx ≠ g) (hbn : v1.ownBlock ≠ some bx) (hk : 0 ≤ k ∧ k ≤ 1152921504606846976) (hn : cs.length ≤ 4096) (hcs : ∀ c ∈ cs, 0 ≤ c ∧ c ≤ 1152921504606846976) (hy : 1 ≤ y ∧ y ≤ 1099511627776) :
    Calls Try.prog 52 #[.pointer (some ⟨g, 0, none⟩), .func (.func 53) #[] #[.pointer (some ⟨bx, 0, none⟩)]] w fun e w' => e = .returned (.tuple #[]) ∧ BldC w' g base v1 v2 (dn y cs) ls (dv y k) ∧ Below base w w' := by
  obtain ⟨hat, q1, q2, dis, ho1, ho2, hgb⟩ := B
  have hne := hbn
  have hbs : base ≤ w.heap.size := by have := hat.lt; omega
  obtain ⟨A1, c1, rfl, hc1, _⟩ := q1.shape
  obtain ⟨n, hL1⟩ : ∃ n, cs.length = n := ⟨_, rfl⟩
  rw [hL1] at hat q1 dis hc1 hn hne ho1 ⊢
  have S0 : Hid (EDt w w g base bx y (.slice A1 n c1) v2 k (dn y (cs.take 0) ++ cs.drop 0) ls) := Lib.hid ⟨hat, q1, q2, hbx, hbs, Below.refl _ _⟩
  have HCS := Lib.hid hcs
  have HL := Lib.hid hL1
  have HD := Lib.hid (And.intro dis (And.intro hgb (And.intro hne (And.intro hbg (And.intro ho1 ho2)))))
  obtain ⟨cc0, _, _⟩ := hat.cells
  clear hcs hat q1 q2 dis hbs hbx hL1 hne hbg hbn hgb ho1 ho2
  go_enter Try.func52, Try.ntmps52
  go_wp2_with fail
  go_loopw [12] (fun i wr => ∃ j : Nat, j ≤ n ∧ i = .int .i64 j ∧ Hid (EDt w wr g base bx y (.slice A1 n c1) v2 k (dn y (cs.take j) ++ cs.drop j) ls)) (fun i _ => n - (intOf i).toNat)
  case atStart => exact ⟨0, by omega, rfl, S0⟩
  case round =>
    clear S0 cc0
    obtain ⟨j, hj, rfl, S⟩ := hrel
    by_cases hlt : j < n
    · have hjc : j < cs.length := by rw [HL.out]; exact hlt
      have hwz := S.out.q1.1 (cs[j]?.getD 0) (by
        rw [← dn_at cs y j hjc, List.getElem?_eq_getElem (by rw [dn_len]; exact hjc)]
        exact List.getElem_mem _)
      obtain ⟨A', c', e', _, rd⟩ := S.out.q1.shape
      injection e' with e1 e2 e3
      clear e2 e3
      subst e1
      obtain ⟨b, o, hA, hbl, hcz⟩ := rd.2 (by rw [dn_len, HL.out]; omega)
      have hc := hcz j (by rw [dn_len]; exact hjc)
      rw [dn_at cs y j hjc] at hc
      cases hA
      have hxb := HCS.out (cs[j]?.getD 0) (by rw [List.getElem?_eq_getElem hjc]; exact List.getElem_mem _)
      have hmw : Wf (dv y (cs[j]?.getD 0)) := dv_wf hxb hy
      obtain ⟨s1, s2, s3, s4⟩ := S.out.q1.setAt (by rw [dn_len, HL.out]) (by rw [dn_len]; exact hjc) hmw
      rw [dn_set cs y j hjc] at s1
      have hM := dv_any bx y (cs[j]?.getD 0) (World.drew wr) (Boxed.cell S.out.bx) hxb hy
      have hnext : Hid (EDt w ((World.drew wr).setCell ⟨b, o + j, none⟩ (.int .i64 (dv y (cs[j]?.getD 0)))) g base bx y (.slice (some ⟨b, o, none⟩) n c1) v2 k (dn y (cs.take (j + 1)) ++ cs.drop (j + 1)) ls) := by
        have hbg := HD.out.2.1
        have hs := fun i (hi : i ≠ b) => heap_setCell_other wr ⟨b, o + j, none⟩ i (.int .i64 (dv y (cs[j]?.getD 0))) hi
        refine Lib.hid ⟨(hs g (fun e => HD.out.2.2.2.2.1 (by rw [e]; rfl))).trans S.out.at', s1, S.out.q2.same fun i hi => hs i (fun e => HD.out.1 i ⟨by rw [e]; rfl, hi⟩), ?_, by have := S.out.bs; simp; omega, (S.out.low.trans (below_drewN (Below.refl _ _) 1)).setCell (p := ⟨b, o + j, none⟩) s2 _⟩
        have hb2 : bx ≠ b := fun e => HD.out.2.2.1 (by rw [e]; rfl)
        exact (hs bx hb2).trans S.out.bx
      have cC := S.out.at'.cells.1
      have cF := s4 (o + j)
      have HM := Lib.hid hM
      clear hxb hcz rd s1 s2 s3 s4 hmw hwz hbl hM hjc S
      generalize cs[j]?.getD 0 = x at *
      generalize dv y x = m at *
      go_wp2_with fail
      refine wp_region_any (by kernel_rfl) ?_
      change wpAny _ _ _ _ _ _ _ (World.drew wr)
      have cC' : (World.drew wr).cell? ⟨g, 0, none⟩ = some (.slice (some ⟨b, o, none⟩) n c1) := cC
      have cF' : (World.drew wr).frozen? ⟨b, o + j, none⟩ = false := cF
      have cX' : (World.drew wr).cell? ⟨b, o + j, none⟩ = some (.int .i64 x) := hc
      clear cC cF hc
      generalize World.drew wr = W0 at *
      refine take_now (i := 0) (some 17) (v := ?_) rfl (by kernel_rfl) (by kernel_rfl) (by kernel_rfl) (fun _ _ _ h => h) (Or.inl ⟨by rfl, ?_⟩) rfl ?_
      rotate_left
      focus (intro w; go_simp; try with_reducible rfl)
      try simp only [Act.put, List.setIfInBounds_toArray, List.set_cons_zero, List.set_cons_succ]
      refine take_now (i := 1) (some 18) (v := ?_) rfl (by kernel_rfl) (by kernel_rfl) (by kernel_rfl) (fun _ _ _ h => h) (Or.inl ⟨by rfl, ?_⟩) rfl ?_
      rotate_left
      focus (intro w; go_simp; try with_reducible rfl)
      try simp only [Act.put, List.setIfInBounds_toArray, List.set_cons_zero, List.set_cons_succ]
      refine take_now (i := 2) (some 19) (v := ?_) rfl (by kernel_rfl) (by kernel_rfl) (by kernel_rfl) (fun _ _ _ h => h) (Or.inl ⟨by rfl, ?_⟩) rfl ?_
      rotate_left
      focus (intro w; go_simp; try with_reducible rfl)
      try simp only [Act.put, List.setIfInBounds_toArray, List.set_cons_zero, List.set_cons_succ]
      refine take_now (i := 3) (some 20) (v := ?_) rfl (by kernel_rfl) (by kernel_rfl) (by kernel_rfl) (fun _ _ _ h => h) (Or.inl ⟨by rfl, ?_⟩) rfl ?_
      rotate_left
      focus (intro w; go_simp; try with_reducible rfl)
      try simp only [Act.put, List.setIfInBounds_toArray, List.set_cons_zero, List.set_cons_succ]
      refine take_now (i := 5) (some 22) (v := ?_) rfl (by kernel_rfl) (by kernel_rfl) (by kernel_rfl) (fun _ _ _ h => h) (Or.inl ⟨by rfl, ?_⟩) rfl ?_
      rotate_left
      focus (intro w; go_simp; try with_reducible rfl)
      try simp only [Act.put, List.setIfInBounds_toArray, List.set_cons_zero, List.set_cons_succ]
      refine take_now (i := 6) (some 23) (v := ?_) rfl (by kernel_rfl) (by kernel_rfl) (by kernel_rfl) (fun _ _ _ h => h) (Or.inl ⟨by rfl, ?_⟩) rfl ?_
      rotate_left
      focus (intro w; go_simp; try with_reducible rfl)
      try simp only [Act.put, List.setIfInBounds_toArray, List.set_cons_zero, List.set_cons_succ]
      refine take_now (i := 7) (some 24) (v := ?_) rfl (by kernel_rfl) (by kernel_rfl) (by kernel_rfl) (fun _ _ _ h => h) (Or.inl ⟨by rfl, ?_⟩) rfl ?_
      rotate_left
      focus (intro w; go_simp; try with_reducible rfl)
      try simp only [Act.put, List.setIfInBounds_toArray, List.set_cons_zero, List.set_cons_succ]
      refine wpAny_ready (rs := [4, 8]) (by kernel_rfl) (by simp) (AllReady.cons rfl (fun K hK => ?_) (AllReady.cons rfl (fun K hK => ?_) AllReady.nil))
      · go_simp
        refine hK _ _ ?_
        clear hK K
        refine wpAny_ready (rs := [8]) (by kernel_rfl) (by simp) (AllReady.cons rfl (fun K hK => ?_) AllReady.nil)
        go_simp
        refine HM.out.mono ?_
        rintro e w' ⟨rfl, rfl⟩
        go_simp
        refine hK _ _ ?_
        clear hK K
        refine take_now (i := 9) (some 26) (v := ?_) rfl (by kernel_rfl) (by kernel_rfl) (by kernel_rfl) (fun _ _ _ h => h) (Or.inl ⟨by rfl, ?_⟩) rfl ?_
        rotate_left
        focus (intro w; go_simp; try with_reducible rfl)
        refine wpAny_ready (rs := [10]) (by kernel_rfl) (by simp) (AllReady.cons rfl (fun K hK => ?_) AllReady.nil)
        go_simp
        refine hK _ _ ?_
        clear hK K
        refine wpAny_done (by kernel_rfl) ?_ _
        clear cC' cF' cX' HM
        go_wp2_with fail
        go_roundw
        case rel => exact ⟨j + 1, by omega, by go_num, hnext⟩
        case measure => simp [intOf]; omega
      · go_simp
        refine HM.out.mono ?_
        rintro e w' ⟨rfl, rfl⟩
        go_simp
        refine hK _ _ ?_
        clear hK K
        refine wpAny_ready (rs := [4]) (by kernel_rfl) (by simp) (AllReady.cons rfl (fun K hK => ?_) AllReady.nil)
        go_simp
        refine hK _ _ ?_
        clear hK K
        refine take_now (i := 9) (some 26) (v := ?_) rfl (by kernel_rfl) (by kernel_rfl) (by kernel_rfl) (fun _ _ _ h => h) (Or.inl ⟨by rfl, ?_⟩) rfl ?_
        rotate_left
        focus (intro w; go_simp; try with_reducible rfl)
        refine wpAny_ready (rs := [10]) (by kernel_rfl) (by simp) (AllReady.cons rfl (fun K hK => ?_) AllReady.nil)
        go_simp
        refine hK _ _ ?_
        clear hK K
        refine wpAny_done (by kernel_rfl) ?_ _
        clear cC' cF' cX' HM
        go_wp2_with fail
        go_roundw
        case rel => exact ⟨j + 1, by omega, by go_num, hnext⟩
        case measure => simp [intOf]; omega
    · obtain rfl : j = n := by omega
      have e1 : dn y (cs.take j) ++ cs.drop j = dn y cs := by rw [← HL.out, List.take_length, List.drop_length, List.append_nil]
      rw [e1] at S
      have hM := Lib.hid (dv_any bx y k wr (Boxed.cell S.out.bx) hk hy)
      have cK := S.out.at'.cells.2.2
      have cF := S.out.at'.frozen 2
      have fin : Hid (BldC (wr.setCell ⟨g, 2, none⟩ (.int .i64 (dv y k))) g base (.slice A1 j c1) v2 (dn y cs) ls (dv y k) ∧ Below base w (wr.setCell ⟨g, 2, none⟩ (.int .i64 (dv y k)))) :=
        Lib.hid ⟨⟨S.out.at'.set2 (dv y k), S.out.q1.setOff HD.out.2.2.2.2.1, S.out.q2.setOff HD.out.2.2.2.2.2, HD.out.1, HD.out.2.2.2.2.1, HD.out.2.2.2.2.2, HD.out.2.1⟩, S.out.low.setCell (p := ⟨g, 2, none⟩) HD.out.2.1 _⟩
      clear e1 S
      go_wp2_with fail
      refine hM.out.mono ?_
      rintro e w' ⟨rfl, rfl⟩
      go_wp2_with fail
      refine bodyPost_end (results_none rfl _ _ _) rfl ?_
      exact ⟨rfl, fin.out⟩
end Go.Proofs.Ytoacfjmefoiflaa
