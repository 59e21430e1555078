/- The walk of reduce. -/
import Derived.Test.YtpeklcbjhkchlaaRedM
import Derived.Deep.LoopGhost
namespace Go.Proofs.Ytpeklcbjhkchlaa
open Go.RowKit Go.Maps
set_option maxRecDepth 30000

theorem adder_any (s gm base n p B gi o c m : Nat) (val : Nat → Value) (Q : Nat → List Int) (top : Int) (cl : List (List Int)) (next : Nat) (ins : List Int) (w : World) (hm : ins.length = m) (hm2 : m = 2 ∨ m = 3) (gv : Value) (hgv : val 1000001 = gv) (S : SmC w s gm base n val Q top cl next) (hr : RdI B w (some ⟨gi, o, none⟩) ins) (hgi : gi ≠ s ∧ ∃ cs, w.heap[gi]? = some (.cells cs 3 (0, 0))) (hB : B ≤ w.heap.size) (hw : ∀ x ∈ ins, -65537 ≤ x ∧ x ≤ 65537)
    (hn : n ≤ 900000) (hp : p ≤ 90000) (hlen1 : (Q p).length ≤ 900000) (hlen2 : (Q (p + 1)).length ≤ 900000) (hbase : base ≤ w.heap.size) (ht : -1 ≤ top ∧ top ≤ 90000) (hnx : next ≤ 65536) (hnx1 : 1 ≤ next) (hcl : cl.length ≤ 900000) :
    Calls Try.prog 55 #[.pointer (some ⟨s, 0, none⟩), .int .i64 (p : Int), .slice (some ⟨gi, o, none⟩) m c] w fun e w' => e = .returned (.tuple #[]) ∧ Addered gv w s gm base n Q top cl next p ins w' := by
  rcases hm2 with e | e
  · match ins, hm with
    | [x, y], _ => exact adder2_any s gm base n p B gi o c m e val Q top cl next x y w gv hgv S hr hgi hB (hw x (by simp)) (hw y (by simp)) hn hp hlen1 hlen2 hbase ht hnx hnx1 hcl
    | [], h => simp at h; omega
    | [_], h => simp at h; omega
    | _ :: _ :: _ :: _, h => simp at h; omega
  · match ins, hm with
    | [x, y, z], _ => exact adder3_any s gm base n p B gi o c m e val Q top cl next x y z w gv hgv S hr hgi hB (hw x (by simp)) (hw y (by simp)) (hw z (by simp)) hn hp hlen1 hlen2 hbase ht hnx hnx1 hcl
    | [], h => simp at h; omega
    | [_], h => simp at h; omega
    | [_, _], h => simp at h; omega
    | _ :: _ :: _ :: _ :: _, h => simp at h; omega

set_option maxRecDepth 400000 in
set_option maxHeartbeats 8000000 in
theorem reduce_any (s gm base n p : Nat) (val : Nat → Value) (Q : Nat → List Int) (top : Int) (cl : List (List Int)) (next : Nat) (w : World) (gv : Value) (hgv : val 1000001 = gv) (S : SmC w s gm base n val Q top cl next) (hn : n ≤ 500000) (hp : p ≤ 80000) (hq : (Q p).length ≤ 200000) (hq1 : (Q (p + 1)).length ≤ 400000) (ht : -1 ≤ top ∧ top ≤ 80000) (hnx : 1 ≤ next ∧ next ≤ 65537) (hcl : cl.length ≤ 7 * next) (hlit : ∀ x ∈ Q p, -65537 ≤ x ∧ x ≤ 65537) :
    Calls Try.prog 31 #[.pointer (some ⟨s, 0, none⟩), .int .i64 (p : Int)] w (Reduced gv w s gm base n Q top cl next p) := by
  have R0 : RedSt gv w w s gm base n Q top cl next p (Q p) [] [] next := by
    refine ⟨⟨val, Q, n, top, hgv, by simpa using S, rfl, by simp, fun _ _ _ => rfl, fun _ => ⟨rfl, rfl⟩, fun h => absurd rfl h, by omega⟩, fun lo _ _ _ => Below.refl _ _, Nat.le_refl _, ?_, ⟨Nat.le_refl _, hnx.2⟩, by simp, hlit⟩
    cases red (Q p) next with
    | none => rfl
    | some r => simp
  have R0 := Lib.hid R0
  have Hb := Lib.hid (And.intro hn (And.intro hq (And.intro hq1 (And.intro ht (And.intro hnx hcl)))))
  clear S hlit hgv hn hq hq1 ht hnx hcl
  go_enter Try.func31, Try.ntmps31
  go_wp2_with fail
  go_loopg [6] ((Q p).length) (fun gk _ wr => ∃ (q1 cs1 : List Int) (c1 : List (List Int)) (nx1 : Nat), gk = q1.length ∧ Hid (RedSt gv w wr s gm base n Q top cl next p q1 cs1 c1 nx1))
  case atStart => exact ⟨_, _, _, _, rfl, R0⟩
  case round =>
    obtain ⟨q1, cs1, c1, nx1, hgk, R⟩ := hrel
    obtain ⟨hn, hq, hq1, ht, hnx, hcl⟩ := Hb.out
    obtain ⟨val1, Q1, n1, top1, g1, ⟨cv1, vs1, S1⟩, h0, h1, h2, h3, h4, h5⟩ := R.out.sm
    have hnx1 := R.out.nx
    have hfew := R.out.few
    have hrs := R.out.size
    have c0 := S1.cell.1
    have c3 := S1.cell.2.2.2
    have hlk := S1.qm.look (p := p) (by omega)
    have hQI := S1.q p
    rw [h0] at hQI
    obtain ⟨A, cq, hV, hcq, rdq⟩ := hQI.shape
    rw [hV] at hlk hQI
    obtain ⟨L, hL⟩ : ∃ L, q1.length = L := ⟨_, rfl⟩
    rw [hL] at hlk hV hcq
    have HL := Lib.hid hL
    have hLq : L ≤ 200000 := by omega
    by_cases hle : L ≤ 1
    · have hres : Reduced gv w s gm base n Q top cl next p (.returned (.bool true)) wr := by
        refine ⟨R.out.low, R.out.size, ?_⟩
        have hm := R.out.more
        rw [red_done nx1 (by omega)] at hm
        rw [hm]
        refine ⟨rfl, by show q1.length ≤ 1; omega, ?_⟩
        show RedSt gv w wr s gm base n Q top cl next p q1 (cs1 ++ []) (c1 ++ []) nx1
        rw [List.append_nil, List.append_nil]
        exact R.out
      have Hres := Lib.hid hres
      clear hres g1 S1 R h0 h1 h2 h3 h4 h5 hV hQI rdq hgk hL hn hq hq1 ht hnx hcl hnx1 hfew R0 Hb hrs
      go_wp2_with fail
      go_ret
      exact Hres.out
    · by_cases hbig : 65535 < nx1
      · have hres : Reduced gv w s gm base n Q top cl next p (.returned (.bool false)) wr := by
          refine ⟨R.out.low, R.out.size, ?_⟩
          have hm := R.out.more
          rw [red_none (by omega) hbig] at hm
          rw [hm]
          rfl
        have Hres := Lib.hid hres
        have hnb := hnx1.2
        clear hres g1 S1 R h0 h1 h2 h3 h4 h5 hV hQI rdq hgk hL hn hq hq1 ht hnx hcl hnx1 hfew R0 Hb hrs
        go_wp2_with fail
        go_ret
        exact Hres.out
      · have hnb : nx1 ≤ 65535 := by omega
        obtain ⟨mn, hmn⟩ : ∃ mn, min 3 L = mn := ⟨_, rfl⟩
        have m1 : (if (L : Int) < 3 then (L : Int) else 3) = (mn : Int) := by split <;> omega
        have m1' : (if L < 3 then (L : Int) else 3) = (mn : Int) := by split <;> omega
        have m2 : min 3 (L : Int) = (mn : Int) := by omega
        have hmnl : mn ≤ L := by omega
        have hmc : mn ≤ cq := by omega
        have hcut := fun W => run_cut W A L cq mn hmnl
        have hhead := fun W => run_head W A L cq mn hmc
        have hne : 0 < q1.length := by omega
        obtain ⟨gi, o, hA, _, _⟩ := rdq.2 hne
        subst hA
        have hst := hnx1.1
        -- behind the region
        have key : Hid (∀ W2 : World, QM W2 gm (n1 + 1) (updV val1 p (.slice (cutA cq mn (some ⟨gi, o, none⟩)) (L - mn) (cq - mn))) → wr.drew.grownBy W2 (some gm) →
            Calls Try.prog 55 #[.pointer (some ⟨s, 0, none⟩), .int .i64 (p : Int), .slice (some ⟨gi, o, none⟩) mn cq] W2 fun e w' => e = .returned (.tuple #[]) ∧ RedSt gv w w' s gm base n Q top cl next p (q1.drop mn ++ [(nx1 : Int)]) (cs1 ++ [((nx1 + 1 : Nat) : Int)]) (c1 ++ adC (q1.take mn) nx1) (nx1 + 2)) := by
          refine Lib.hid fun W2 hQM hg => ?_
          have Sd : Sm wr.drew s gm base n1 val1 Q1 top1 cv1 vs1 (cl ++ c1) nx1 := S1.below (below_drewN (Below.refl _ _) 1)
          obtain ⟨hc1, _⟩ := hQI.cut mn (by omega)
          have hcd : QI wr.drew base (.slice (cutA cq mn (some ⟨gi, o, none⟩)) (q1.length - mn) (cq - mn)) (q1.drop mn) := hc1
          rw [hL] at hcd
          have hP := Sd.pushed (p := p) (l := q1.drop mn) hcd (World.grownBy.refl _ _) (.inl (by rw [hV]; exact ownBlock_cut _ L cq mn _ _)) hQM hg
          have hgiB : (val1 p).ownBlock = some gi := by rw [hV]; rfl
          have hgl := hQI.lt (k := gi) rfl
          obtain ⟨csi, hcsi⟩ := hQI.block (k := gi) rfl
          have hgb := S1.gb
          have hsb := S1.sb
          have hgi2 : W2.heap[gi]? = some (.cells csi 3 (0, 0)) := (hg.block gi hgl.2 (fun e => by injection e with e; omega)).trans hcsi
          have hszW : wr.heap.size ≤ W2.heap.size := hg.size
          have hrd2 : RdI W2.heap.size W2 (some ⟨gi, o, none⟩) (q1.take mn) := by
            have hrt := rdq.take mn
            refine ⟨hrt.1, fun h => ?_⟩
            obtain ⟨b, of, e, hb, hc⟩ := hrt.2 h
            injection e with e; injection e with e e' _; subst e; subst e'
            refine ⟨gi, o, rfl, by omega, fun j hj => ?_⟩
            have := hc j hj
            rw [cell_of_row wr gi (o + j) csi 3 (0, 0) hcsi] at this
            rw [cell_of_row W2 gi (o + j) csi 3 (0, 0) hgi2]
            exact this
          have htop : -1 ≤ top1 ∧ top1 ≤ 90000 := by
            by_cases hcs : cs1 = []
            · rw [(h3 hcs).1]; omega
            · rw [h4 hcs]; omega
          refine (adder_any s gm base (n1 + 1) p W2.heap.size gi o cq mn _ _ top1 (cl ++ c1) nx1 (q1.take mn) W2 (by rw [List.length_take]; omega) (by omega) gv (by unfold updV; rw [if_neg (by omega)]; exact g1) ⟨_, _, hP.1⟩ hrd2 ⟨by omega, csi, hgi2⟩ (Nat.le_refl _) (fun x hx => R.out.lits x (List.mem_of_mem_take hx)) (by omega) (by omega) (by rw [updQ_same, List.length_drop]; omega) (by rw [updQ_other _ _ (by omega), h1, List.length_append]; omega) (by omega) htop (by omega) (by omega) (by rw [List.length_append]; omega)).mono ?_
          rintro e w' ⟨he, hA⟩
          refine ⟨he, ?_⟩
          have e3 : min 3 q1.length = mn := by rw [hL]; exact hmn
          rw [← e3] at hA ⊢
          exact R.out.next (w' := W2) (by omega) hbig h1 h2 h3 h4 h5 (fun lo a b c => (below_drewN (Below.refl lo wr) 1).trans <| hP.2.low a b (fun k hk => by have := ((S1.q p).lt hk).1; omega) (by show lo ≤ wr.heap.size; omega)) hszW hA
        have Hq := Lib.hid (And.intro hgk (And.intro hL hmn))
        have S1d : Sm wr.drew s gm base n1 val1 Q1 top1 cv1 vs1 (cl ++ c1) nx1 := S1.below (below_drewN (Below.refl _ _) 1)
        have hqm := S1d.qm
        have hcd := S1d.cell.1
        have hn1b : n1 ≤ 1000000 := by omega
        clear g1 S1 S1d R h0 h1 h2 h3 h4 h5 hQI rdq hgk hL hmn hne hn hq hq1 ht hnx hcl hnx1 hfew R0 Hb hrs hV
        go_wp2_with fail
        refine wp_region_any (by kernel_rfl) ?_
        change wpAny _ _ _ _ _ _ _ (World.drew wr)
        generalize World.drew wr = Wd at *
        refine take_now (i := 0) (some 30) (v := ?_) rfl (by kernel_rfl) (by kernel_rfl) (by kernel_rfl) (fun _ _ _ h => h) (Or.inl ⟨by rfl, ?_⟩) rfl ?_
        rotate_left
        focus (intro w; go_simp; try with_reducible rfl)
        try simp only [Act.put, List.setIfInBounds_toArray, List.set_cons_zero, List.set_cons_succ]
        refine take_now (i := 1) (some 31) (v := ?_) rfl (by kernel_rfl) (by kernel_rfl) (by kernel_rfl) (fun _ _ _ h => h) (Or.inl ⟨by rfl, ?_⟩) rfl ?_
        rotate_left
        focus (intro w; go_simp; try with_reducible rfl)
        try simp only [Act.put, List.setIfInBounds_toArray, List.set_cons_zero, List.set_cons_succ]
        refine take_now (i := 2) (some 32) (v := ?_) rfl (by kernel_rfl) (by kernel_rfl) (by kernel_rfl) (fun _ _ _ h => h) (Or.inl ⟨by rfl, ?_⟩) rfl ?_
        rotate_left
        focus (intro w; go_simp; try with_reducible rfl)
        try simp only [Act.put, List.setIfInBounds_toArray, List.set_cons_zero, List.set_cons_succ]
        refine take_now (i := 4) (some 34) (v := ?_) rfl (by kernel_rfl) (by kernel_rfl) (by kernel_rfl) (fun _ _ _ h => h) (Or.inl ⟨by rfl, ?_⟩) rfl ?_
        rotate_left
        focus (intro w; go_simp; try with_reducible rfl)
        try simp only [Act.put, List.setIfInBounds_toArray, List.set_cons_zero, List.set_cons_succ]
        refine take_now (i := 5) (some 35) (v := ?_) rfl (by kernel_rfl) (by kernel_rfl) (by kernel_rfl) (fun _ _ _ h => h) (Or.inl ⟨by rfl, ?_⟩) rfl ?_
        rotate_left
        focus (intro w; go_simp; try with_reducible rfl)
        try simp only [Act.put, List.setIfInBounds_toArray, List.set_cons_zero, List.set_cons_succ]
        refine take_now (i := 6) (some 36) (v := ?_) rfl (by kernel_rfl) (by kernel_rfl) (by kernel_rfl) (fun _ _ _ h => h) (Or.inl ⟨by rfl, ?_⟩) rfl ?_
        rotate_left
        focus (intro w; go_simp; try with_reducible rfl)
        try simp only [Act.put, List.setIfInBounds_toArray, List.set_cons_zero, List.set_cons_succ]
        refine wpAny_ready (rs := [3, 7]) (by kernel_rfl) (by simp) (AllReady.cons rfl (fun K hK => ?_) (AllReady.cons rfl (fun K hK => ?_) AllReady.nil))
        · go_simp
          refine hK _ _ ?_
          clear hK K
          refine wpAny_ready (rs := [7]) (by kernel_rfl) (by simp) (AllReady.cons rfl (fun K hK => ?_) AllReady.nil)
          go_simp
          refine hK _ _ ?_
          clear hK K
          refine wpAny_ready (rs := [8]) (by kernel_rfl) (by simp) (AllReady.cons rfl (fun K hK => ?_) AllReady.nil)
          refine step_put rfl (.tmp 33) (.tmp 34) (.tmp 37) rfl gm n1 val1 p (.slice (cutA cq mn (some ⟨gi, o, none⟩)) (L - mn) (cq - mn)) (by simp [Act.eval] <;> rfl) (by simp [Act.eval] <;> rfl) (by simp [Act.eval] <;> rfl) hqm hn1b (by omega) ?_
          intro W2 hm2 hg2
          refine hK _ _ ?_
          clear hK K
          refine wpAny_done (by kernel_rfl) ?_ _
          have hC := Lib.hid (key.out W2 hm2 hg2)
          clear key hm2 hg2 hqm
          go_wp2_with fail
          refine hC.out.mono ?_
          rintro e w5 ⟨rfl, R5⟩
          have R5 := Lib.hid R5
          clear hC
          go_wp2_with fail
          go_roundg (q1.drop mn ++ [(nx1 : Int)]).length
          case measure => obtain ⟨a1, a2, a3⟩ := Hq.out; rw [a1, List.length_append, List.length_drop]; simp only [List.length_singleton]; omega
          case rel => exact ⟨_, _, _, _, rfl, R5⟩
        · go_simp
          refine hK _ _ ?_
          clear hK K
          refine wpAny_ready (rs := [3]) (by kernel_rfl) (by simp) (AllReady.cons rfl (fun K hK => ?_) AllReady.nil)
          go_simp
          refine hK _ _ ?_
          clear hK K
          refine wpAny_ready (rs := [8]) (by kernel_rfl) (by simp) (AllReady.cons rfl (fun K hK => ?_) AllReady.nil)
          refine step_put rfl (.tmp 33) (.tmp 34) (.tmp 37) rfl gm n1 val1 p (.slice (cutA cq mn (some ⟨gi, o, none⟩)) (L - mn) (cq - mn)) (by simp [Act.eval] <;> rfl) (by simp [Act.eval] <;> rfl) (by simp [Act.eval] <;> rfl) hqm hn1b (by omega) ?_
          intro W2 hm2 hg2
          refine hK _ _ ?_
          clear hK K
          refine wpAny_done (by kernel_rfl) ?_ _
          have hC := Lib.hid (key.out W2 hm2 hg2)
          clear key hm2 hg2 hqm
          go_wp2_with fail
          refine hC.out.mono ?_
          rintro e w5 ⟨rfl, R5⟩
          have R5 := Lib.hid R5
          clear hC
          go_wp2_with fail
          go_roundg (q1.drop mn ++ [(nx1 : Int)]).length
          case measure => obtain ⟨a1, a2, a3⟩ := Hq.out; rw [a1, List.length_append, List.length_drop]; simp only [List.length_singleton]; omega
          case rel => exact ⟨_, _, _, _, rfl, R5⟩
end Go.Proofs.Ytpeklcbjhkchlaa
