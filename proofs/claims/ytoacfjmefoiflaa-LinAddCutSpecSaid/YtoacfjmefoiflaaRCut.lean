/- What the reference's Cut answers. -/
import Derived.Test.YtoacfjmefoiflaaRNormQ
import Derived.Test.YtoacfjmefoiflaaCut
namespace Go.Proofs.Ytoacfjmefoiflaa
open Go.RowKit Go.Maps
set_option maxRecDepth 100000

/-- Two blocks at the start of the reference's Cut. -/
theorem rcut_world (AC AL : Option Addr) (n1 n2 cc lc : Nat) (k : Int) (w W1 : World) (hW1 : W1 = ((w.alloc (.cells #[.slice AC n1 cc, .slice AL n2 lc, .int .i64 k] 24)).alloc (.cells #[.slice Option.none 0 0, .slice Option.none 0 0, .int .i64 0] 24))) :
    W1.heap.size = w.heap.size + 2 ∧ Below w.heap.size w W1 ∧ LinAt W1 w.heap.size (.slice AC n1 cc) (.slice AL n2 lc) k 24 ∧ LinAt W1 (w.heap.size + 1) (.slice Option.none 0 0) (.slice Option.none 0 0) 0 24 := by
  refine ⟨by rw [hW1]; simp, by rw [hW1]; exact ((Below.refl _ _).alloc (Nat.le_refl _) _).alloc (by simp) _, ?_, ?_⟩
  · rw [hW1]; exact (heap_alloc_old _ _ (by simp)).trans (heap_alloc_new _ _)
  · have h := heap_alloc_new (w.alloc (.cells #[.slice AC n1 cc, .slice AL n2 lc, .int .i64 k] 24)) (.cells #[.slice Option.none 0 0, .slice Option.none 0 0, .int .i64 0] 24)
    rw [World.size_alloc] at h
    rw [hW1]
    exact h
set_option maxHeartbeats 4000000 in
theorem RCut_no (B : Nat) (AC AL : Option Addr) (n1 n2 cc lc : Nat) (k y : Int) (cs ls : List Int) (w : World) (hc : RdI B w AC cs) (hr : RdI B w AL ls) (hB : B ≤ w.heap.size) (hcl : cs.length = n1) (hl : ls.length = n2) (hn : n2 ≤ 64) (hok : ¬ OkL cs ls k 65536) :
    Calls Try.prog 28 #[.agg #[.slice AC n1 cc, .slice AL n2 lc, .int .i64 k], .int .i64 y] w (NoLin 1 w) := by
  obtain ⟨W1, hW1⟩ : ∃ W, W = _ := ⟨_, rfl⟩
  obtain ⟨hs1, hb1, hat, hres⟩ := rcut_world AC AL n1 n2 cc lc k w W1 hW1
  have hCk := (RCheck_any B AC AL n1 n2 cc lc k 65536 cs ls W1 (hc.below hb1 hB) (hr.below hb1 hB) (by omega) hcl hl (by omega)).2 hok
  have HCk := Lib.hid hCk
  have HW := Lib.hid hW1
  have H1 := Lib.hid hres
  obtain ⟨cC, cL, cK⟩ := hat.cells
  rw [hW1] at cC cL cK
  clear hW1 hat hres hc hr hCk hcl hl hok
  go_enter Try.func28, Try.ntmps28
  go_wp2_with fail
  rw [← HW.out]
  clear HW
  refine HCk.out.mono ?_
  rintro e w2 ⟨rfl, hb2⟩
  have hres2 := H1.out.below hb2
  obtain ⟨s0, s1, s2, f0, f1, f2, hfin⟩ := lin_store hres2 (.slice Option.none 0 0) (.slice Option.none 0 0) 0
  obtain ⟨r0, r1, r2⟩ := hfin.cells
  have lowf := low_store (hb1.trans (hb2.mono hb1.size)) (show w.heap.size ≤ w.heap.size + 1 by omega) (.slice Option.none 0 0) (.slice Option.none 0 0) (.int .i64 0)
  have HFI := Lib.hid hfin
  have HLow := Lib.hid lowf
  clear HCk hb2 hres2 hfin lowf H1
  go_wp2_with fail
  refine bodyPost_ret (results_row_tmp rfl _ _ (w.heap.size + 1) 24 _ (0, 0) _ _ rfl HFI.out rfl rfl rfl rfl) rfl ?_
  exact ⟨rfl, HLow.out⟩
set_option maxHeartbeats 4000000 in
theorem RCut_by (B : Nat) (AC AL : Option Addr) (n1 n2 cc lc : Nat) (k y : Int) (cs ls : List Int) (w : World) (hc : RdI B w AC cs) (hr : RdI B w AL ls) (hB : B ≤ w.heap.size) (hcl : cs.length = n1) (hl : ls.length = n2) (hn : n2 ≤ 64) (hok : OkL cs ls k 65536) (hy : ¬ (1 ≤ y ∧ y ≤ 1099511627776)) :
    Calls Try.prog 28 #[.agg #[.slice AC n1 cc, .slice AL n2 lc, .int .i64 k], .int .i64 y] w (NoLin 1 w) := by
  obtain ⟨W1, hW1⟩ : ∃ W, W = _ := ⟨_, rfl⟩
  obtain ⟨hs1, hb1, hat, hres⟩ := rcut_world AC AL n1 n2 cc lc k w W1 hW1
  have hCk := (RCheck_any B AC AL n1 n2 cc lc k 65536 cs ls W1 (hc.below hb1 hB) (hr.below hb1 hB) (by omega) hcl hl (by omega)).1 hok
  have HCk := Lib.hid hCk
  have HW := Lib.hid hW1
  have H1 := Lib.hid hres
  obtain ⟨cC, cL, cK⟩ := hat.cells
  rw [hW1] at cC cL cK
  clear hW1 hat hres hc hr hCk hcl hl hok
  by_cases h1 : y < 1
  · have d1 : decide (y < 1) = true := decide_eq_true h1
    clear hy
    go_enter Try.func28, Try.ntmps28
    go_wp2_with fail
    rw [← HW.out]
    clear HW
    refine HCk.out.mono ?_
    rintro e w2 ⟨rfl, hb2⟩
    have hres2 := H1.out.below hb2
    obtain ⟨s0, s1, s2, f0, f1, f2, hfin⟩ := lin_store hres2 (.slice Option.none 0 0) (.slice Option.none 0 0) 0
    obtain ⟨r0, r1, r2⟩ := hfin.cells
    have lowf := low_store (hb1.trans (hb2.mono hb1.size)) (show w.heap.size ≤ w.heap.size + 1 by omega) (.slice Option.none 0 0) (.slice Option.none 0 0) (.int .i64 0)
    have HFI := Lib.hid hfin
    have HLow := Lib.hid lowf
    clear HCk hb2 hres2 hfin lowf H1
    go_wp2_with fail
    refine bodyPost_ret (results_row_tmp rfl _ _ (w.heap.size + 1) 24 _ (0, 0) _ _ rfl HFI.out rfl rfl rfl rfl) rfl ?_
    exact ⟨rfl, HLow.out⟩
  · have d1 : decide (y < 1) = false := decide_eq_false h1
    have d2 : decide (y > 1099511627776) = true := decide_eq_true (by omega)
    have d3 : decide (1099511627776 < y) = true := decide_eq_true (by omega)
    clear hy
    go_enter Try.func28, Try.ntmps28
    go_wp2_with fail
    rw [← HW.out]
    clear HW
    refine HCk.out.mono ?_
    rintro e w2 ⟨rfl, hb2⟩
    have hres2 := H1.out.below hb2
    obtain ⟨s0, s1, s2, f0, f1, f2, hfin⟩ := lin_store hres2 (.slice Option.none 0 0) (.slice Option.none 0 0) 0
    obtain ⟨r0, r1, r2⟩ := hfin.cells
    have lowf := low_store (hb1.trans (hb2.mono hb1.size)) (show w.heap.size ≤ w.heap.size + 1 by omega) (.slice Option.none 0 0) (.slice Option.none 0 0) (.int .i64 0)
    have HFI := Lib.hid hfin
    have HLow := Lib.hid lowf
    clear HCk hb2 hres2 hfin lowf H1
    go_wp2_with fail
    refine bodyPost_ret (results_row_tmp rfl _ _ (w.heap.size + 1) 24 _ (0, 0) _ _ rfl HFI.out rfl rfl rfl rfl) rfl ?_
    exact ⟨rfl, HLow.out⟩


structure CSt (w W : World) (g base : Nat) (v1 v2 : Value) (k : Int) (zs ls : List Int) : Prop where
  at' : LinAt W g v1 v2 k 24
  q1 : QI W base v1 zs
  q2 : QI W base v2 ls
  bs : base ≤ W.heap.size
  low : Below base w W
set_option maxHeartbeats 16000000 in
theorem RCut_ok (B : Nat) (AC AL : Option Addr) (n cc lc : Nat) (k y : Int) (cs ls : List Int) (w : World) (hc : RdI B w AC cs) (hr : RdI B w AL ls) (hB : B ≤ w.heap.size) (hcl : cs.length = n) (hl : ls.length = n) (hn : n ≤ 64) (hok : OkL cs ls k 65536) (hy : 1 ≤ y ∧ y ≤ 1099511627776) :
    Calls Try.prog 28 #[.agg #[.slice AC n cc, .slice AL n lc, .int .i64 k], .int .i64 y] w (GivesL (dn y (nC cs ls k)) (nL cs ls k) (dv y (nK cs ls k)) w) := by
  obtain ⟨W1, hW1⟩ : ∃ W, W = _ := ⟨_, rfl⟩
  obtain ⟨hs1, hb1, hat, hres⟩ := rcut_world AC AL n n cc lc k w W1 hW1
  have hCk := (RCheck_any B AC AL n n cc lc k 65536 cs ls W1 (hc.below hb1 hB) (hr.below hb1 hB) (by omega) hcl hl (by omega)).1 hok
  have HCk := Lib.hid hCk
  have HW := Lib.hid hW1
  have HNm := Lib.hid (fun W (h : Below w.heap.size W1 W) => RNorm_ok B n cc lc AC AL k cs ls W ((hc.below hb1 hB).below h hB) ((hr.below hb1 hB).below h hB) (by have := h.size; omega) hcl hl (by omega) hok)
  have hCan := canon cs ls k 65536 (by omega) (by omega) hok.cs hok.ls
  have hCl : (nC cs ls k).length ≤ n := by have := norm_len cs ls k; omega
  have HC := Lib.hid (And.intro hCan hCl)
  have H1 := Lib.hid (And.intro hres hat)
  obtain ⟨cC, cL, cK⟩ := hat.cells
  rw [hW1] at cC cL cK
  clear hW1 hat hres hc hr hCk hcl hl hok hCan hCl
  obtain ⟨hy1, hy2⟩ := hy
  have d1 : decide (y < 1) = false := decide_eq_false (by omega)
  have d2 : decide (y > 1099511627776) = false := decide_eq_false (by omega)
  have d3 : decide (1099511627776 < y) = false := decide_eq_false (by omega)
  go_enter Try.func28, Try.ntmps28
  go_wp2_with fail
  rw [← HW.out]
  clear HW
  refine HCk.out.mono ?_
  rintro e w2 ⟨rfl, hb2⟩
  have hs2 := hb2.size
  have hres2 := H1.out.1.below hb2
  have hat2 := H1.out.2.below hb2
  obtain ⟨cC, cL, cK⟩ := hat2.cells
  have hN2 := Lib.hid (HNm.out w2 (hb2.mono (by omega)))
  have H2 := Lib.hid (And.intro hres2 (hb1.trans (hb2.mono hb1.size)))
  clear HCk H1 HNm hres2 hat2 hb2
  go_wp2_with fail
  refine hN2.out.mono ?_
  rintro e w3 ⟨A1, c1, A2, c2, rfl, q1, q2, dis, hb3⟩
  clear hN2 cC cL cK d1 d2 d3
  obtain ⟨C, hC⟩ : ∃ C, nC cs ls k = C := ⟨_, rfl⟩
  obtain ⟨L, hL⟩ : ∃ L, nL cs ls k = L := ⟨_, rfl⟩
  obtain ⟨K, hK⟩ : ∃ K, nK cs ls k = K := ⟨_, rfl⟩
  have HCL := Lib.hid (And.intro hC (And.intro hL hK))
  rw [hC, hL, hK] at HC ⊢
  rw [hC] at q1 dis
  rw [hL] at q2 dis
  obtain ⟨M, hM⟩ : ∃ M, C.length = M := ⟨_, rfl⟩
  obtain ⟨M2, hM2⟩ : ∃ M2, L.length = M2 := ⟨_, rfl⟩
  rw [hM] at q1 dis ⊢
  rw [hM2] at q2 dis ⊢
  have hMn : M ≤ n := by rw [← hM]; exact HC.out.2
  have hs3 := hb3.size
  obtain ⟨g, hg⟩ : ∃ g, w3.heap.size = g := ⟨_, rfl⟩
  obtain ⟨base, hbase⟩ : ∃ base, w2.heap.size = base := ⟨_, rfl⟩
  rw [hbase] at q1 q2 hb3
  obtain ⟨W4, hW4⟩ : ∃ W4, W4 = w3.alloc (.cells #[.slice A1 M c1, .slice A2 M2 c2, .int .i64 K] 24) := ⟨_, rfl⟩
  have hs4 : W4.heap.size = g + 1 := by rw [hW4]; simp [hg]
  have hb4 : Below w3.heap.size w3 W4 := by rw [hW4]; exact (Below.refl _ _).alloc (Nat.le_refl _) _
  have hat4 : LinAt W4 g (.slice A1 M c1) (.slice A2 M2 c2) K 24 := by rw [hW4, ← hg]; exact heap_alloc_new _ _
  have hbg : base ≤ g := by omega
  have hwb : w.heap.size + 2 ≤ base := by omega
  have hres4 : LinAt W4 (w.heap.size + 1) (.slice Option.none 0 0) (.slice Option.none 0 0) 0 24 := (hb4.block _ (by omega)).trans ((hb3.block _ (by omega)).trans H2.out.1)
  have S0 := Lib.hid (show CSt W4 W4 g base (.slice A1 M c1) (.slice A2 M2 c2) K (dn y (C.take 0) ++ C.drop 0) L from ⟨hat4, q1.same fun i hi => hb4.block i (q1.lt hi).2, q2.same fun i hi => hb4.block i (q2.lt hi).2, by omega, Below.refl _ _⟩)
  have ho1 : (Value.slice A1 M c1).ownBlock ≠ some g := fun e => by have := (q1.lt e).2; omega
  have ho2 : (Value.slice A2 M2 c2).ownBlock ≠ some g := fun e => by have := (q2.lt e).2; omega
  have hKb : 0 ≤ K ∧ K ≤ 1152921504606846976 := by
    have hcan := HC.out.1
    by_cases hC0 : C = []
    · have := hcan.none hC0; omega
    · have h1 := hcan.some hC0
      have h2 := su_bound 140737488355328 (by omega) C fun c hc => by have := hcan.pos c hc; have := hcan.big c hc; omega
      rw [hM] at h2
      omega
  have hlow4 : Below w.heap.size w W4 := (H2.out.2.trans (hb3.mono (by omega))).trans (hb4.mono (by omega))
  have HD := Lib.hid (And.intro dis (And.intro ho1 (And.intro ho2 (And.intro hres4 hlow4))))
  have HM := Lib.hid (And.intro hM hM2)
  have HW := Lib.hid hW4
  clear hW4 hb3 hb4 q1 q2 dis hM hM2 hC hL hK hat4 hres4 hlow4 ho1 ho2 H2 hbase
  go_wp2_with fail
  rw [← HW.out]
  clear HW
  obtain ⟨w4, hw4⟩ : ∃ w4, W4 = w4 := ⟨_, rfl⟩
  rw [hw4] at S0 HD hs4 ⊢
  clear hw4
  obtain ⟨cC0, _, _⟩ := S0.out.at'.cells
  go_loopw [8] (fun i wr => ∃ j : Nat, j ≤ M ∧ i = .int .i64 j ∧ Hid (CSt w4 wr g base (.slice A1 M c1) (.slice A2 M2 c2) K (dn y (C.take j) ++ C.drop j) L)) (fun i _ => M - (intOf i).toNat)
  case atStart => exact ⟨0, by omega, rfl, S0⟩
  case round =>
    clear S0 cC0
    obtain ⟨j, hj, rfl, S⟩ := hrel
    obtain ⟨xC, xL, xK⟩ := S.out.at'.cells
    by_cases hlt : j < M
    · have hjc : j < C.length := by rw [HM.out.1]; exact hlt
      have hjm : j < (dn y (C.take j) ++ C.drop j).length := by rw [dn_len]; exact hjc
      obtain ⟨_, _, e', _, rd⟩ := S.out.q1.shape
      injection e' with e1 e2 e3
      clear e2 e3
      subst e1
      obtain ⟨b1, o1, hA1, _, hcz⟩ := rd.2 (by omega)
      have hc1 := hcz j hjm
      rw [dn_at C y j hjc] at hc1
      have hxp := HC.out.1.pos (C[j]?.getD 0) (by rw [List.getElem?_eq_getElem hjc]; exact List.getElem_mem _)
      have hxb := HC.out.1.big (C[j]?.getD 0) (by rw [List.getElem?_eq_getElem hjc]; exact List.getElem_mem _)
      cases hA1
      have hwm : Wf (dv y (C[j]?.getD 0)) := dv_wf ⟨by omega, by omega⟩ ⟨hy1, hy2⟩
      obtain ⟨t1, t2, _, t4⟩ := S.out.q1.setAt (by rw [dn_len]; exact HM.out.1.symm) hjm hwm
      rw [dn_set C y j hjc] at t1
      have hbs := S.out.bs
      have hgb1 : b1 ≠ g := fun e => HD.out.2.1 (by rw [e]; rfl)
      have hNew : CSt w4 (wr.setCell ⟨b1, o1 + j, none⟩ (.int .i64 (dv y (C[j]?.getD 0)))) g base (.slice (some ⟨b1, o1, none⟩) M c1) (.slice A2 M2 c2) K (dn y (C.take (j + 1)) ++ C.drop (j + 1)) L :=
        ⟨(heap_setCell_other wr ⟨b1, o1 + j, none⟩ g _ (by show g ≠ b1; omega)).trans S.out.at', t1, S.out.q2.same fun i hi => heap_setCell_other wr ⟨b1, o1 + j, none⟩ i _ (fun e => HD.out.1 i ⟨by rw [e]; rfl, hi⟩), by simpa using hbs, S.out.low.setCell (p := ⟨b1, o1 + j, none⟩) t2 _⟩
      rw [show dv y (C[j]?.getD 0) = (C[j]?.getD 0 + y - 1) / y from rfl] at hNew
      have hF := t4 (o1 + j)
      have HNew := Lib.hid hNew
      have HE := Lib.hid (And.intro (show (World.drew wr).cell? ⟨b1, o1 + j, none⟩ = some (.int .i64 (C[j]?.getD 0)) from hc1) (show (World.drew wr).frozen? ⟨b1, o1 + j, none⟩ = false from hF))
      have hstart : Below base wr (World.drew wr) ∧ LinAt (World.drew wr) g (.slice (some ⟨b1, o1, none⟩) M c1) (.slice A2 M2 c2) K 24 := ⟨(Below.refl _ _).drew, S.out.at'⟩
      have hbb : base ≤ b1 := t2
      have HS := Lib.hid hwm
      clear hNew t1 t2 t4 hcz rd hjm hjc hc1 hF hbs hwm
      generalize C[j]?.getD 0 = x at *
      obtain ⟨hxp1, _⟩ := hxp
      have hq1 : 0 ≤ (x + y - 1) / y := Int.ediv_nonneg (by omega) (by omega)
      have hq2 : (x + y - 1) / y ≤ x + y - 1 := Int.ediv_le_self _ (by omega)
      have hy0 : y ≠ 0 := by omega
      have ht : (x + y - 1).tdiv y = (x + y - 1) / y := Int.tdiv_eq_ediv_of_nonneg (by omega)
      have hy0' : (y == 0) = false := by simpa using hy0
      have hw4 : wrap64 ((x + y - 1) / y) = (x + y - 1) / y := IntWalk.wrap64_in _ (by omega)
      have hw1 : IntKind.i64.wrap (x + y) = x + y := by rw [IntWalk.i64_left]; exact IntWalk.wrap64_in _ (by omega)
      have hw2 : IntKind.i64.wrap (x + y - 1) = x + y - 1 := by rw [IntWalk.i64_left]; exact IntWalk.wrap64_in _ (by omega)
      have hw3 : IntKind.i64.wrap ((x + y - 1) / y) = (x + y - 1) / y := by rw [IntWalk.i64_left]; exact IntWalk.wrap64_in _ (by omega)
      go_wp2_with fail
      refine wp_region_held_drew (S := fun W => Below base wr W ∧ LinAt W g (.slice (some ⟨b1, o1, none⟩) M c1) (.slice A2 M2 c2) K 24) (by kernel_rfl) hstart (fun hHeld => ?_)
      clear hstart xC xL xK
      refine takeH_now (i := 0) (some 31) (v := ?_) rfl (by kernel_rfl) (by kernel_rfl) (by kernel_rfl) (fun _ _ _ h => h) (Or.inl ⟨by rfl, ?_⟩) rfl (by assumption) ?_
      rotate_left
      focus (intro w9 hS9; go_simp; try with_reducible rfl)
      try simp only [Act.put, List.setIfInBounds_toArray, List.set_cons_zero, List.set_cons_succ]
      refine takeH_now (i := 1) (some 32) (v := ?_) rfl (by kernel_rfl) (by kernel_rfl) (by kernel_rfl) (fun _ _ _ h => h) (Or.inl ⟨by rfl, ?_⟩) rfl (by assumption) ?_
      rotate_left
      focus (intro w9 hS9; obtain ⟨xC, xL, xK⟩ := hS9.2.cells; clear hS9; go_simp; try with_reducible rfl)
      try simp only [Act.put, List.setIfInBounds_toArray, List.set_cons_zero, List.set_cons_succ]
      refine takeH_now (i := 2) (some 33) (v := ?_) rfl (by kernel_rfl) (by kernel_rfl) (by kernel_rfl) (fun _ _ _ h => h) (Or.inl ⟨by rfl, ?_⟩) rfl (by assumption) ?_
      rotate_left
      focus (intro w9 hS9; go_simp; try with_reducible rfl)
      try simp only [Act.put, List.setIfInBounds_toArray, List.set_cons_zero, List.set_cons_succ]
      refine takeH_now (i := 3) (some 34) (v := ?_) rfl (by kernel_rfl) (by kernel_rfl) (by kernel_rfl) (fun _ _ _ h => h) (Or.inl ⟨by rfl, ?_⟩) rfl (by assumption) ?_
      rotate_left
      focus (intro w9 hS9; go_simp; try with_reducible rfl)
      try simp only [Act.put, List.setIfInBounds_toArray, List.set_cons_zero, List.set_cons_succ]
      refine takeH_now (i := 4) (some 35) (v := ?_) rfl (by kernel_rfl) (by kernel_rfl) (by kernel_rfl) (fun _ _ _ h => h) (Or.inl ⟨by rfl, ?_⟩) rfl (by assumption) ?_
      rotate_left
      focus (intro w9 hS9; obtain ⟨xC, xL, xK⟩ := hS9.2.cells; clear hS9; go_simp; try with_reducible rfl)
      try simp only [Act.put, List.setIfInBounds_toArray, List.set_cons_zero, List.set_cons_succ]
      refine takeH_now (i := 5) (some 36) (v := ?_) rfl (by kernel_rfl) (by kernel_rfl) (by kernel_rfl) (fun _ _ _ h => h) (Or.inl ⟨by rfl, ?_⟩) rfl (by assumption) ?_
      rotate_left
      focus (intro w9 hS9; go_simp; try with_reducible rfl)
      try simp only [Act.put, List.setIfInBounds_toArray, List.set_cons_zero, List.set_cons_succ]
      refine takeH_now (i := 6) (some 37) (v := ?_) rfl (by kernel_rfl) (by kernel_rfl) (by kernel_rfl) (fun _ _ _ h => h) (Or.inl ⟨by rfl, ?_⟩) rfl (by assumption) ?_
      rotate_left
      focus (intro w9 hS9; go_simp; try with_reducible rfl)
      try simp only [Act.put, List.setIfInBounds_toArray, List.set_cons_zero, List.set_cons_succ]
      refine takeH_now (i := 8) (some 39) (v := ?_) rfl (by kernel_rfl) (by kernel_rfl) (by kernel_rfl) (fun _ _ _ h => h) (Or.inl ⟨by rfl, ?_⟩) rfl (by assumption) ?_
      rotate_left
      focus (intro w9 hS9; go_simp; try with_reducible rfl)
      try simp only [Act.put, List.setIfInBounds_toArray, List.set_cons_zero, List.set_cons_succ]
      refine takeH_now (i := 11) (some 42) (v := ?_) rfl (by kernel_rfl) (by kernel_rfl) (by kernel_rfl) (fun _ _ _ h => h) (Or.inl ⟨by rfl, ?_⟩) rfl (by assumption) ?_
      rotate_left
      focus (intro w9 hS9; go_simp; try with_reducible rfl)
      try simp only [Act.put, List.setIfInBounds_toArray, List.set_cons_zero, List.set_cons_succ]
      refine wpAnyH_ready (rs := [7]) (by kernel_rfl) (by simp) ?_
      refine AllReadyH.cons (o := { dst := some 38, op := Op.load 3 (Operand.tmp 37), type := 3, pos := "ref.go:215", after := #[{ on := 6, ground := Ground.data }], guard := none }) rfl (fun K' hK' => ?_) AllReadyH.nil
      rw [if_pos (by kernel_rfl)]
      have eC := HE.out.1
      go_simp
      clear eC
      have hHa := hHeld
      clear hHeld
      refine hK'.out _ _ hHa (fun hHeld => ?_)
      clear hK' hHa
      try simp only [Act.put, List.setIfInBounds_toArray, List.set_cons_zero, List.set_cons_succ]
      refine takeH_now (i := 9) (some 40) (v := ?_) rfl (by kernel_rfl) (by kernel_rfl) (by kernel_rfl) (fun _ _ _ h => h) (Or.inl ⟨by rfl, ?_⟩) rfl (by assumption) ?_
      rotate_left
      focus (intro w9 hS9; go_simp; try with_reducible rfl)
      try simp only [Act.put, List.setIfInBounds_toArray, List.set_cons_zero, List.set_cons_succ]
      refine takeH_now (i := 10) (some 41) (v := ?_) rfl (by kernel_rfl) (by kernel_rfl) (by kernel_rfl) (fun _ _ _ h => h) (Or.inl ⟨by rfl, ?_⟩) rfl (by assumption) ?_
      rotate_left
      focus (intro w9 hS9; go_simp; try with_reducible rfl)
      try simp only [Act.put, List.setIfInBounds_toArray, List.set_cons_zero, List.set_cons_succ]
      refine wpAnyH_ready (rs := [12]) (by kernel_rfl) (by simp) ?_
      refine AllReadyH.cons (o := { dst := some 43, op := Op.binOp BinOp.quo 3 (Operand.tmp 41) (Operand.tmp 42) 3, type := 3, pos := "ref.go:215", after := #[{ on := 10, ground := Ground.data }, { on := 11, ground := Ground.data }], guard := none }) rfl (fun K' hK' => ?_) AllReadyH.nil
      rw [if_pos (by kernel_rfl)]
      go_simp
      have hHa := hHeld
      clear hHeld
      refine hK'.out _ _ hHa (fun hHeld => ?_)
      clear hK' hHa
      try simp only [Act.put, List.setIfInBounds_toArray, List.set_cons_zero, List.set_cons_succ]
      refine takeH_now (i := 13) (some 44) (v := ?_) rfl (by kernel_rfl) (by kernel_rfl) (by kernel_rfl) (fun _ _ _ h => h) (Or.inl ⟨by rfl, ?_⟩) rfl (by assumption) ?_
      rotate_left
      focus (intro w9 hS9; go_simp; try with_reducible rfl)
      try simp only [Act.put, List.setIfInBounds_toArray, List.set_cons_zero, List.set_cons_succ]
      refine wpAnyH_ready (rs := [14]) (by kernel_rfl) (by simp) ?_
      refine AllReadyH.cons (o := { dst := none, op := Op.store 3 (Operand.tmp 44) (Operand.tmp 43), type := 0, pos := "ref.go:215", after := #[{ on := 13, ground := Ground.data }, { on := 12, ground := Ground.data }, { on := 0, ground := Ground.phase }, { on := 1, ground := Ground.phase }, { on := 2, ground := Ground.phase }, { on := 3, ground := Ground.phase }, { on := 4, ground := Ground.phase }, { on := 5, ground := Ground.phase }, { on := 6, ground := Ground.phase }, { on := 7, ground := Ground.phase }, { on := 8, ground := Ground.phase }, { on := 9, ground := Ground.phase }, { on := 10, ground := Ground.phase }, { on := 11, ground := Ground.phase }, { on := 12, ground := Ground.phase }], guard := none }) rfl (fun K' hK' => ?_) AllReadyH.nil
      rw [if_pos (by kernel_rfl)]
      have eC := HE.out.1
      have eF := HE.out.2
      go_simp
      clear eC eF
      have hHa : Below base wr ((World.drew wr).setCell ⟨b1, o1 + j, none⟩ (.int .i64 ((x + y - 1) / y))) ∧ LinAt ((World.drew wr).setCell ⟨b1, o1 + j, none⟩ (.int .i64 ((x + y - 1) / y))) g (.slice (some ⟨b1, o1, none⟩) M c1) (.slice A2 M2 c2) K 24 := ⟨hHeld.1.setCell (p := ⟨b1, o1 + j, none⟩) hbb _, (heap_setCell_other (World.drew wr) ⟨b1, o1 + j, none⟩ g _ (by show g ≠ b1; omega)).trans hHeld.2⟩
      clear hHeld
      refine hK'.out _ _ hHa (fun hHeld => ?_)
      clear hK' hHa
      try simp only [Act.put, List.setIfInBounds_toArray, List.set_cons_zero, List.set_cons_succ]
      refine wpAnyH_done (by kernel_rfl) ?_ _
      have HNew2 := Lib.hid (show CSt w4 ((World.drew wr).setCell ⟨b1, o1 + j, none⟩ (.int .i64 ((x + y - 1) / y))) g base (.slice (some ⟨b1, o1, none⟩) M c1) (.slice A2 M2 c2) K (dn y (C.take (j + 1)) ++ C.drop (j + 1)) L from ⟨HNew.out.at', HNew.out.q1, HNew.out.q2, HNew.out.bs, HNew.out.low.trans (show Below base (wr.setCell ⟨b1, o1 + j, none⟩ (.int .i64 ((x + y - 1) / y))) ((World.drew wr).setCell ⟨b1, o1 + j, none⟩ (.int .i64 ((x + y - 1) / y))) from (Below.refl _ _).drew)⟩)
      clear hHeld HE HNew HS
      go_wp2_with fail
      go_roundw
      case rel => exact ⟨j + 1, by omega, by go_num, HNew2⟩
      case measure => simp [intOf]; omega
    · obtain rfl : j = M := by omega
      have hall : dn y (C.take j) ++ C.drop j = dn y C := by rw [← HM.out.1, List.take_length, List.drop_length, List.append_nil]
      rw [hall] at S
      have hq1 : 0 ≤ (K + y - 1) / y := Int.ediv_nonneg (by omega) (by omega)
      have hq2 : (K + y - 1) / y ≤ K + y - 1 := Int.ediv_le_self _ (by omega)
      have xF := S.out.at'.frozen 2
      have hres5 : LinAt wr (w.heap.size + 1) (.slice Option.none 0 0) (.slice Option.none 0 0) 0 24 := (S.out.low.block _ (by omega)).trans HD.out.2.2.2.1
      have hlow5 : Below w.heap.size w wr := HD.out.2.2.2.2.trans (S.out.low.mono (by omega))
      have hat6 := S.out.at'.set2 ((K + y - 1) / y)
      have hres6 : LinAt (wr.setCell ⟨g, 2, none⟩ (.int .i64 ((K + y - 1) / y))) (w.heap.size + 1) (.slice Option.none 0 0) (.slice Option.none 0 0) 0 24 := (heap_setCell_other wr ⟨g, 2, none⟩ (w.heap.size + 1) _ (by show w.heap.size + 1 ≠ g; omega)).trans hres5
      have hlow6 := hlow5.setCell (p := ⟨g, 2, none⟩) (by show w.heap.size ≤ g; omega) (.int .i64 ((K + y - 1) / y))
      have q16 := S.out.q1.setOff (j := 2) (u := .int .i64 ((K + y - 1) / y)) HD.out.2.1
      have q26 := S.out.q2.setOff (j := 2) (u := .int .i64 ((K + y - 1) / y)) HD.out.2.2.1
      obtain ⟨W6, hW6⟩ : ∃ W6, wr.setCell ⟨g, 2, none⟩ (.int .i64 ((K + y - 1) / y)) = W6 := ⟨_, rfl⟩
      obtain ⟨yC, yL, yK⟩ := hat6.cells
      rw [hW6] at hat6 hres6 hlow6 q16 q26
      obtain ⟨s0, s1, s2, f0, f1, f2, hfin⟩ := lin_store hres6 (.slice A1 j c1) (.slice A2 M2 c2) ((K + y - 1) / y)
      have lowf := low_store hlow6 (show w.heap.size ≤ w.heap.size + 1 by omega) (.slice A1 j c1) (.slice A2 M2 c2) (.int .i64 ((K + y - 1) / y))
      have q1f := ((q16.set (j := 0) (u := .slice A1 j c1) (g := w.heap.size + 1) (by omega)).set (j := 1) (u := .slice A2 M2 c2) (g := w.heap.size + 1) (by omega)).set (j := 2) (u := .int .i64 ((K + y - 1) / y)) (g := w.heap.size + 1) (by omega)
      have q2f := ((q26.set (j := 0) (u := .slice A1 j c1) (g := w.heap.size + 1) (by omega)).set (j := 1) (u := .slice A2 M2 c2) (g := w.heap.size + 1) (by omega)).set (j := 2) (u := .int .i64 ((K + y - 1) / y)) (g := w.heap.size + 1) (by omega)
      obtain ⟨_, _, x1, _, rd1⟩ := q1f.shape
      obtain ⟨_, _, x2, _, rd2⟩ := q2f.shape
      injection x1 with x1 xn1 xc1
      injection x2 with x2 xn2 xc2
      clear xn1 xc1 xn2 xc2
      subst x1
      subst x2
      have hl1 : (dn y C).length = j := by rw [dn_len']; exact HM.out.1
      have FIN : Hid (GivesL (dn y (nC cs ls k)) (nL cs ls k) (dv y (nK cs ls k)) w (.returned (.tuple #[.agg #[.slice A1 j c1, .slice A2 M2 c2, .int .i64 ((K + y - 1) / y)], .int .i64 0])) (((W6.setCell ⟨w.heap.size + 1, 0, none⟩ (.slice A1 j c1)).setCell ⟨w.heap.size + 1, 1, none⟩ (.slice A2 M2 c2)).setCell ⟨w.heap.size + 1, 2, none⟩ (.int .i64 ((K + y - 1) / y)))) := Lib.hid (by
        obtain ⟨z1, z2, z3⟩ := HCL.out
        rw [z1, z2, z3]
        exact ⟨A1, c1, A2, c2, by rw [hl1, HM.out.2]; rfl, rd1, rd2, q1f.nocap, q2f.nocap, lowf⟩)
      have HFI := Lib.hid hfin
      rw [← hW6] at s0 s1 s2 f0 f1 f2 FIN HFI
      clear hfin lowf q1f q2f rd1 rd2 q16 q26 hat6 hres6 hlow6 hres5 hlow5 hall S HD HC hl1 hW6
      go_wp2_with fail
      refine bodyPost_ret (results_row_tmp rfl _ _ (w.heap.size + 1) 24 _ (0, 0) _ _ rfl HFI.out rfl rfl rfl rfl) rfl ?_
      exact FIN.out
end Go.Proofs.Ytoacfjmefoiflaa
