/- The walk of each. -/
import Derived.Test.YtoacfjmefoiflaaLinB
namespace Go.Proofs.Ytoacfjmefoiflaa
open Go.RowKit Go.Maps
set_option maxRecDepth 100000

theorem QI.setAt {w : World} {base g o n c j : Nat} {zs : List Int} (h : QI w base (.slice (some ⟨g, o, none⟩) n c) zs) (hn : n = zs.length) (hj : j < zs.length) {x : Int} (hx : Wf x) : QI (w.setCell ⟨g, o + j, none⟩ (.int .i64 x)) base (.slice (some ⟨g, o, none⟩) n c) (zs.set j x) ∧ base ≤ g ∧ g < w.heap.size ∧ ∀ i, w.frozen? ⟨g, i, none⟩ = false := by
  subst hn
  obtain ⟨h1, ⟨e, _⟩ | ⟨g', o', c', cs, e, hbase, hg, h3, h3', h3'', h4⟩⟩ := h
  · cases e
  · injection e with e1 _ e3
    injection e1 with e1
    injection e1 with e1 e2
    subst e1; subst e2; subst e3
    refine ⟨⟨fun z hz => ?_, .inr ⟨g, o, c, cs.setIfInBounds (o + j) (.int .i64 x), by rw [List.length_set], hbase, heap_setCell_same w g (o + j) cs 3 _ hg, by rw [List.length_set]; exact h3, h3', by simpa using h3'', fun i hi => ?_⟩⟩, hbase, (Array.getElem?_eq_some_iff.1 hg).1, fun i => frozen_of_row w g i cs 3 hg⟩
    · rcases List.mem_or_eq_of_mem_set hz with q | q
      · exact h1 z q
      · rw [q]; exact hx
    · rw [List.length_set] at hi
      rw [Array.getElem?_setIfInBounds]
      by_cases e : i = j
      · subst e
        rw [if_pos rfl, if_pos (by omega)]
        simp [hj]
      · rw [if_neg (by omega), h4 i hi, List.getElem?_set_ne (by omega)]
/-- The first j reduced to the bound. -/
def mn (cs : List Int) (k : Int) : List Int := cs.map fun c => min c k
theorem mn_set (cs : List Int) (k : Int) (j : Nat) (h : j < cs.length) : (mn (cs.take j) k ++ cs.drop j).set j (min (cs[j]?.getD 0) k) = mn (cs.take (j + 1)) k ++ cs.drop (j + 1) := by
  have e1 : cs.drop j = cs[j] :: cs.drop (j + 1) := List.drop_eq_getElem_cons h
  have e2 : cs.take (j + 1) = cs.take j ++ [cs[j]] := by rw [List.take_add_one, List.getElem?_eq_getElem h]; rfl
  rw [e1, e2, List.getElem?_eq_getElem h]
  unfold mn
  rw [List.map_append, List.set_append_right _ _ (by simp; omega), List.length_map, List.length_take, Nat.min_eq_left (Nat.le_of_lt h), Nat.sub_self, List.set_cons_zero, List.append_assoc]
  rfl
theorem mn_at (cs : List Int) (k : Int) (j : Nat) (h : j < cs.length) : (mn (cs.take j) k ++ cs.drop j)[j]?.getD 0 = cs[j]?.getD 0 := by
  unfold mn
  rw [List.getElem?_append_right (by simp; omega), List.length_map, List.length_take, Nat.min_eq_left (Nat.le_of_lt h), Nat.sub_self, List.getElem?_drop, Nat.add_zero]
theorem mn_len (cs : List Int) (k : Int) (j : Nat) : (mn (cs.take j) k ++ cs.drop j).length = cs.length := by
  unfold mn; rw [List.length_append, List.length_map, List.length_take, List.length_drop]; omega

structure ESt (w W : World) (g base bx : Nat) (v1 v2 : Value) (k : Int) (zs ls : List Int) : Prop where
  at' : LinAt W g v1 v2 k 52
  q1 : QI W base v1 zs
  q2 : QI W base v2 ls
  bx : Boxed W bx 70 (.pointer (some ⟨g, 0, none⟩))
  bs : base ≤ W.heap.size
  low : Below g w W

set_option maxHeartbeats 8000000 in
theorem each_any (g base bx : Nat) (cs ls : List Int) (k : Int) (w : World) (B : Bld w g base cs ls k) (hbx : Boxed w bx 70 (.pointer (some ⟨g, 0, none⟩))) (hbg : bx ≠ g) (hbn : ∀ v1 v2, LinAt w g v1 v2 k 52 → v1.ownBlock ≠ some bx) (hk : Wf k) (hn : cs.length ≤ 4096) :
    Calls Try.prog 52 #[.pointer (some ⟨g, 0, none⟩), .func (.func 58) #[] #[.pointer (some ⟨bx, 0, none⟩)]] w fun e w' => e = .returned (.tuple #[]) ∧ Bld w' g base (mn cs k) ls k ∧ Below g w w' := by
  obtain ⟨v1, v2, hat, q1, q2, dis, hgb, hbs⟩ := B
  have hne := hbn v1 v2 hat
  obtain ⟨A1, c1, rfl, hc1, _⟩ := q1.shape
  obtain ⟨n, hL1⟩ : ∃ n, cs.length = n := ⟨_, rfl⟩
  rw [hL1] at hat q1 dis hc1 hn hne
  have S0 : Hid (ESt w w g base bx (.slice A1 n c1) v2 k (mn (cs.take 0) k ++ cs.drop 0) ls) := Lib.hid ⟨hat, q1, q2, hbx, hbs, Below.refl _ _⟩
  have HL := Lib.hid hL1
  have HD := Lib.hid (And.intro dis (And.intro hgb (And.intro hne hbg)))
  obtain ⟨cc0, _, _⟩ := hat.cells
  clear hat q1 q2 dis hbs hbx hL1 hne hbg hbn hgb
  go_enter Try.func52, Try.ntmps52
  go_wp2_with fail
  go_loopw [12] (fun i wr => ∃ j : Nat, j ≤ n ∧ i = .int .i64 j ∧ Hid (ESt w wr g base bx (.slice A1 n c1) v2 k (mn (cs.take j) k ++ cs.drop j) ls)) (fun i _ => n - (intOf i).toNat)
  case atStart => exact ⟨0, by omega, rfl, S0⟩
  case round =>
    clear S0 cc0
    obtain ⟨j, hj, rfl, S⟩ := hrel
    by_cases hlt : j < n
    · have hjc : j < cs.length := by rw [HL.out]; exact hlt
      have hwz := S.out.q1.1 (cs[j]?.getD 0) (by
        rw [← mn_at cs k j hjc, List.getElem?_eq_getElem (by rw [mn_len]; exact hjc)]
        exact List.getElem_mem _)
      obtain ⟨A', c', e', _, rd⟩ := S.out.q1.shape
      injection e' with e1 e2 e3
      clear e2 e3
      subst e1
      obtain ⟨b, o, hA, hbl, hcz⟩ := rd.2 (by rw [mn_len, HL.out]; omega)
      have hc := hcz j (by rw [mn_len]; exact hjc)
      rw [mn_at cs k j hjc] at hc
      cases hA
      have hmw : Wf (min (cs[j]?.getD 0) k) := by obtain ⟨a1, a2⟩ := hwz; obtain ⟨b1, b2⟩ := hk; exact ⟨by omega, by omega⟩
      obtain ⟨s1, s2, s3, s4⟩ := S.out.q1.setAt (by rw [mn_len, HL.out]) (by rw [mn_len]; exact hjc) hmw
      rw [mn_set cs k j hjc] at s1
      have hM := min_any bx g (.slice (some ⟨b, o, none⟩) n c1) v2 (cs[j]?.getD 0) k (World.drew wr) (Boxed.cell S.out.bx) S.out.at'
      have hnext : Hid (ESt w ((World.drew wr).setCell ⟨b, o + j, none⟩ (.int .i64 (min (cs[j]?.getD 0) k))) g base bx (.slice (some ⟨b, o, none⟩) n c1) v2 k (mn (cs.take (j + 1)) k ++ cs.drop (j + 1)) ls) := by
        have hbg := HD.out.2.1
        have hs := fun i (hi : i ≠ b) => heap_setCell_other wr ⟨b, o + j, none⟩ i (.int .i64 (min (cs[j]?.getD 0) k)) hi
        refine Lib.hid ⟨(hs g (by omega)).trans S.out.at', s1, S.out.q2.same fun i hi => hs i (fun e => HD.out.1 i ⟨by rw [e]; rfl, hi⟩), ?_, by have := S.out.bs; simpa using this, (S.out.low.trans (below_drewN (Below.refl _ _) 1)).setCell (p := ⟨b, o + j, none⟩) (by show g ≤ b; omega) _⟩
        have hb2 : bx ≠ b := fun e => HD.out.2.2.1 (by rw [e]; rfl)
        exact (hs bx hb2).trans S.out.bx
      have cC := S.out.at'.cells.1
      have cF := s4 (o + j)
      have HM := Lib.hid hM
      clear hcz rd s1 s2 s3 s4 hmw hwz hbl hM hjc S
      generalize cs[j]?.getD 0 = x at *
      generalize min x k = m at *
      go_wp2_with fail
      refine wp_region_any (by kernel_rfl) ?_
      change wpAny _ _ _ _ _ _ _ (World.drew wr)
      have cC' : (World.drew wr).cell? ⟨g, 0, none⟩ = some (.slice (some ⟨b, o, none⟩) n c1) := cC
      have cF' : (World.drew wr).frozen? ⟨b, o + j, none⟩ = false := cF
      have cX' : (World.drew wr).cell? ⟨b, o + j, none⟩ = some (.int .i64 x) := hc
      clear cC cF hc
      generalize World.drew wr = W0 at *
      refine take_now (i := 0) (some 17) (v := ?_) rfl (by kernel_rfl) (by kernel_rfl) (by kernel_rfl) (fun _ _ _ h => h) (Or.inl ⟨by rfl, ?_⟩) rfl ?_
      rotate_left
      focus (intro w; go_simp; try with_reducible rfl)
      try simp only [Act.put, List.setIfInBounds_toArray, List.set_cons_zero, List.set_cons_succ]
      refine take_now (i := 1) (some 18) (v := ?_) rfl (by kernel_rfl) (by kernel_rfl) (by kernel_rfl) (fun _ _ _ h => h) (Or.inl ⟨by rfl, ?_⟩) rfl ?_
      rotate_left
      focus (intro w; go_simp; try with_reducible rfl)
      try simp only [Act.put, List.setIfInBounds_toArray, List.set_cons_zero, List.set_cons_succ]
      refine take_now (i := 2) (some 19) (v := ?_) rfl (by kernel_rfl) (by kernel_rfl) (by kernel_rfl) (fun _ _ _ h => h) (Or.inl ⟨by rfl, ?_⟩) rfl ?_
      rotate_left
      focus (intro w; go_simp; try with_reducible rfl)
      try simp only [Act.put, List.setIfInBounds_toArray, List.set_cons_zero, List.set_cons_succ]
      refine take_now (i := 3) (some 20) (v := ?_) rfl (by kernel_rfl) (by kernel_rfl) (by kernel_rfl) (fun _ _ _ h => h) (Or.inl ⟨by rfl, ?_⟩) rfl ?_
      rotate_left
      focus (intro w; go_simp; try with_reducible rfl)
      try simp only [Act.put, List.setIfInBounds_toArray, List.set_cons_zero, List.set_cons_succ]
      refine take_now (i := 5) (some 22) (v := ?_) rfl (by kernel_rfl) (by kernel_rfl) (by kernel_rfl) (fun _ _ _ h => h) (Or.inl ⟨by rfl, ?_⟩) rfl ?_
      rotate_left
      focus (intro w; go_simp; try with_reducible rfl)
      try simp only [Act.put, List.setIfInBounds_toArray, List.set_cons_zero, List.set_cons_succ]
      refine take_now (i := 6) (some 23) (v := ?_) rfl (by kernel_rfl) (by kernel_rfl) (by kernel_rfl) (fun _ _ _ h => h) (Or.inl ⟨by rfl, ?_⟩) rfl ?_
      rotate_left
      focus (intro w; go_simp; try with_reducible rfl)
      try simp only [Act.put, List.setIfInBounds_toArray, List.set_cons_zero, List.set_cons_succ]
      refine take_now (i := 7) (some 24) (v := ?_) rfl (by kernel_rfl) (by kernel_rfl) (by kernel_rfl) (fun _ _ _ h => h) (Or.inl ⟨by rfl, ?_⟩) rfl ?_
      rotate_left
      focus (intro w; go_simp; try with_reducible rfl)
      try simp only [Act.put, List.setIfInBounds_toArray, List.set_cons_zero, List.set_cons_succ]
      refine wpAny_ready (rs := [4, 8]) (by kernel_rfl) (by simp) (AllReady.cons rfl (fun K hK => ?_) (AllReady.cons rfl (fun K hK => ?_) AllReady.nil))
      · go_simp
        refine hK _ _ ?_
        clear hK K
        refine wpAny_ready (rs := [8]) (by kernel_rfl) (by simp) (AllReady.cons rfl (fun K hK => ?_) AllReady.nil)
        go_simp
        refine HM.out.mono ?_
        rintro e w' ⟨rfl, rfl⟩
        go_simp
        refine hK _ _ ?_
        clear hK K
        refine take_now (i := 9) (some 26) (v := ?_) rfl (by kernel_rfl) (by kernel_rfl) (by kernel_rfl) (fun _ _ _ h => h) (Or.inl ⟨by rfl, ?_⟩) rfl ?_
        rotate_left
        focus (intro w; go_simp; try with_reducible rfl)
        refine wpAny_ready (rs := [10]) (by kernel_rfl) (by simp) (AllReady.cons rfl (fun K hK => ?_) AllReady.nil)
        go_simp
        refine hK _ _ ?_
        clear hK K
        refine wpAny_done (by kernel_rfl) ?_ _
        clear cC' cF' cX' HM
        go_wp2_with fail
        go_roundw
        case rel => exact ⟨j + 1, by omega, by go_num, hnext⟩
        case measure => simp [intOf]; omega
      · go_simp
        refine HM.out.mono ?_
        rintro e w' ⟨rfl, rfl⟩
        go_simp
        refine hK _ _ ?_
        clear hK K
        refine wpAny_ready (rs := [4]) (by kernel_rfl) (by simp) (AllReady.cons rfl (fun K hK => ?_) AllReady.nil)
        go_simp
        refine hK _ _ ?_
        clear hK K
        refine take_now (i := 9) (some 26) (v := ?_) rfl (by kernel_rfl) (by kernel_rfl) (by kernel_rfl) (fun _ _ _ h => h) (Or.inl ⟨by rfl, ?_⟩) rfl ?_
        rotate_left
        focus (intro w; go_simp; try with_reducible rfl)
        refine wpAny_ready (rs := [10]) (by kernel_rfl) (by simp) (AllReady.cons rfl (fun K hK => ?_) AllReady.nil)
        go_simp
        refine hK _ _ ?_
        clear hK K
        refine wpAny_done (by kernel_rfl) ?_ _
        clear cC' cF' cX' HM
        go_wp2_with fail
        go_roundw
        case rel => exact ⟨j + 1, by omega, by go_num, hnext⟩
        case measure => simp [intOf]; omega
    · obtain rfl : j = n := by omega
      have e1 : mn (cs.take j) k ++ cs.drop j = mn cs k := by rw [← HL.out, List.take_length, List.drop_length, List.append_nil]
      rw [e1] at S
      have hM := Lib.hid (min_any bx g (.slice A1 j c1) v2 k k wr (Boxed.cell S.out.bx) S.out.at')
      rw [show min k k = k by omega] at hM
      have cK := S.out.at'.cells.2.2
      have cF := S.out.at'.frozen 2
      have fin : Hid (Bld (wr.setCell ⟨g, 2, none⟩ (.int .i64 k)) g base (mn cs k) ls k ∧ Below g w (wr.setCell ⟨g, 2, none⟩ (.int .i64 k))) :=
        Lib.hid ⟨⟨_, _, S.out.at'.set2 k, S.out.q1.set HD.out.2.1, S.out.q2.set HD.out.2.1, HD.out.1, HD.out.2.1, by have := S.out.bs; simpa using this⟩, S.out.low.setCell (p := ⟨g, 2, none⟩) (Nat.le_refl _) _⟩
      clear e1 S
      go_wp2_with fail
      refine hM.out.mono ?_
      rintro e w' ⟨rfl, rfl⟩
      go_wp2_with fail
      refine bodyPost_end (results_none rfl _ _ _) rfl ?_
      exact ⟨rfl, fin.out⟩
end Go.Proofs.Ytoacfjmefoiflaa
