/- What lin.Cut answers. -/
import Derived.Test.YtoacfjmefoiflaaNormF
import Derived.Test.YtoacfjmefoiflaaEachD
import Derived.Test.YtoacfjmefoiflaaForce
namespace Go.Proofs.Ytoacfjmefoiflaa
open Go.RowKit Go.Maps
set_option maxRecDepth 100000

theorem results_row_tmp {P : Program} {fn : Func} {p u : Tmp} {ty : TypeId} (h : fn.results = #[.cell p ty, .tmp u]) (tmps : Array Value) (w : World) (g : Nat) (t : TypeId) (cs : Array Value) (fr : Nat × Nat) (d : TypeDesc) (x : Value)
    (hp : tmps.getD p undef = .pointer (some ⟨g, 0, none⟩)) (hg : w.heap[g]? = some (.cells cs t fr))
    (hu : P.underlying ty = some d) (hd : (match d with | .struct _ | .array _ _ => true | _ => false) = true) (hi : (P.info? ty).map (·.size) = some cs.size) (hx : tmps.getD u undef = x) :
    (results fn tmps).run P w = .ok (.tuple #[.agg cs, x]) w := by
  rw [results_cell_tmp h, hp]
  simp [asAddr, run_loadVar_row w g t ty cs fr d hg hu hd hi, Result.andThen, ← hx]

/-- Three blocks at the start of Cut. -/
theorem cut_world (AC AL : Option Addr) (n1 n2 cc lc : Nat) (k y : Int) (w W1 : World) (hW1 : W1 = (((w.alloc (.cells #[.slice AC n1 cc, .slice AL n2 lc, .int .i64 k] 24)).alloc (.cells #[.int .i64 y] 3)).alloc (.cells #[.slice Option.none 0 0, .slice Option.none 0 0, .int .i64 0] 24))) :
    W1.heap.size = w.heap.size + 3 ∧ Below w.heap.size w W1 ∧ LinAt W1 w.heap.size (.slice AC n1 cc) (.slice AL n2 lc) k 24 ∧ Boxed W1 (w.heap.size + 1) 3 (.int .i64 y) ∧ LinAt W1 (w.heap.size + 2) (.slice Option.none 0 0) (.slice Option.none 0 0) 0 24 := by
  refine ⟨by rw [hW1]; simp, by rw [hW1]; exact (((Below.refl _ _).alloc (Nat.le_refl _) _).alloc (by simp) _).alloc (by simp; omega) _, ?_, ?_, ?_⟩
  · rw [hW1]; exact (heap_alloc_old _ _ (by simp; omega)).trans ((heap_alloc_old _ _ (by simp)).trans (heap_alloc_new _ _))
  · have h := Boxed.new (w.alloc (.cells #[.slice AC n1 cc, .slice AL n2 lc, .int .i64 k] 24)) 3 (.int .i64 y)
    rw [World.size_alloc] at h
    rw [hW1]
    exact (heap_alloc_old _ _ (by simp)).trans h
  · have h := heap_alloc_new ((w.alloc (.cells #[.slice AC n1 cc, .slice AL n2 lc, .int .i64 k] 24)).alloc (.cells #[.int .i64 y] 3)) (.cells #[.slice Option.none 0 0, .slice Option.none 0 0, .int .i64 0] 24)
    rw [World.size_alloc, World.size_alloc] at h
    rw [hW1]
    exact h

/-- A struct of nothing is stored into the result's cells. -/
theorem lin_store {w : World} {g : Nat} {u1 u2 : Value} {k0 : Int} (h : LinAt w g u1 u2 k0 24) (v1 v2 : Value) (k : Int) :
    w.cell? ⟨g, 0, none⟩ = some u1 ∧ (w.setCell ⟨g, 0, none⟩ v1).cell? ⟨g, 1, none⟩ = some u2 ∧ ((w.setCell ⟨g, 0, none⟩ v1).setCell ⟨g, 1, none⟩ v2).cell? ⟨g, 2, none⟩ = some (.int .i64 k0) ∧
    w.frozen? ⟨g, 0, none⟩ = false ∧ (w.setCell ⟨g, 0, none⟩ v1).frozen? ⟨g, 1, none⟩ = false ∧ ((w.setCell ⟨g, 0, none⟩ v1).setCell ⟨g, 1, none⟩ v2).frozen? ⟨g, 2, none⟩ = false ∧
    LinAt (((w.setCell ⟨g, 0, none⟩ v1).setCell ⟨g, 1, none⟩ v2).setCell ⟨g, 2, none⟩ (.int .i64 k)) g v1 v2 k 24 :=
  ⟨h.cells.1, (h.set0 v1).cells.2.1, ((h.set0 v1).set1 v2).cells.2.2, h.frozen 0, (h.set0 v1).frozen 1, ((h.set0 v1).set1 v2).frozen 2, ((h.set0 v1).set1 v2).set2 k⟩
theorem low_store {w0 w : World} {lo g : Nat} (hb : Below lo w0 w) (hg : lo ≤ g) (v1 v2 v3 : Value) : Below lo w0 (((w.setCell ⟨g, 0, none⟩ v1).setCell ⟨g, 1, none⟩ v2).setCell ⟨g, 2, none⟩ v3) :=
  ((hb.setCell (p := ⟨g, 0, none⟩) hg v1).setCell (p := ⟨g, 1, none⟩) hg v2).setCell (p := ⟨g, 2, none⟩) hg v3

/-- What Cut answers where it refuses. -/
def NoLin (E : Int) (w : World) (e : Ending) (w' : World) : Prop := e = .returned (.tuple #[.agg #[.slice Option.none 0 0, .slice Option.none 0 0, .int .i64 0], .int .i64 E]) ∧ Below w.heap.size w w'
set_option maxHeartbeats 4000000 in
theorem Cut_no (B : Nat) (AC AL : Option Addr) (n1 n2 cc lc : Nat) (k y : Int) (cs ls : List Int) (w : World) (hc : RdI B w AC cs) (hr : RdI B w AL ls) (hB : B ≤ w.heap.size) (hcl : cs.length = n1) (hl : ls.length = n2) (hn : n2 ≤ 64) (hok : ¬ OkL cs ls k 65536) :
    Calls Try.prog 27 #[.agg #[.slice AC n1 cc, .slice AL n2 lc, .int .i64 k], .int .i64 y] w (NoLin 1 w) := by
  obtain ⟨W1, hW1⟩ : ∃ W, W = _ := ⟨_, rfl⟩
  obtain ⟨hs1, hb1, hat, _, hres⟩ := cut_world AC AL n1 n2 cc lc k y w W1 hW1
  have hCk := (LinCheck_any B AC AL n1 n2 cc lc k 65536 cs ls W1 (hc.below hb1 hB) (hr.below hb1 hB) (by omega) hcl hl (by omega) (by omega) (by omega)).2 hok
  have HCk := Lib.hid hCk
  have HW := Lib.hid hW1
  have H1 := Lib.hid hres
  obtain ⟨cC, cL, cK⟩ := hat.cells
  rw [hW1] at cC cL cK
  clear hW1 hat hres hc hr hCk hcl hl hok
  go_enter Try.func27, Try.ntmps27
  go_wp2_with fail
  rw [← HW.out]
  clear HW
  refine HCk.out.mono ?_
  rintro e w2 ⟨rfl, hb2⟩
  have hres2 := H1.out.below hb2
  obtain ⟨s0, s1, s2, f0, f1, f2, hfin⟩ := lin_store hres2 (.slice Option.none 0 0) (.slice Option.none 0 0) 0
  obtain ⟨r0, r1, r2⟩ := hfin.cells
  have lowf := low_store (hb1.trans (hb2.mono hb1.size)) (show w.heap.size ≤ w.heap.size + 2 by omega) (.slice Option.none 0 0) (.slice Option.none 0 0) (.int .i64 0)
  have HFI := Lib.hid hfin
  have HLow := Lib.hid lowf
  clear HCk hb2 hres2 hfin lowf H1
  go_wp2_with fail
  refine bodyPost_ret (results_row_tmp rfl _ _ (w.heap.size + 2) 24 _ (0, 0) _ _ rfl HFI.out rfl rfl rfl rfl) rfl ?_
  exact ⟨rfl, HLow.out⟩
set_option maxHeartbeats 4000000 in
theorem Cut_by (B : Nat) (AC AL : Option Addr) (n1 n2 cc lc : Nat) (k y : Int) (cs ls : List Int) (w : World) (hc : RdI B w AC cs) (hr : RdI B w AL ls) (hB : B ≤ w.heap.size) (hcl : cs.length = n1) (hl : ls.length = n2) (hn : n2 ≤ 64) (hok : OkL cs ls k 65536) (hy : ¬ (1 ≤ y ∧ y ≤ 1099511627776)) :
    Calls Try.prog 27 #[.agg #[.slice AC n1 cc, .slice AL n2 lc, .int .i64 k], .int .i64 y] w (NoLin 1 w) := by
  obtain ⟨W1, hW1⟩ : ∃ W, W = _ := ⟨_, rfl⟩
  obtain ⟨hs1, hb1, hat, hbx, hres⟩ := cut_world AC AL n1 n2 cc lc k y w W1 hW1
  have hCk := (LinCheck_any B AC AL n1 n2 cc lc k 65536 cs ls W1 (hc.below hb1 hB) (hr.below hb1 hB) (by omega) hcl hl (by omega) (by omega) (by omega)).1 hok
  have HCk := Lib.hid hCk
  have HW := Lib.hid hW1
  have H1 := Lib.hid (And.intro hres hbx)
  obtain ⟨cC, cL, cK⟩ := hat.cells
  rw [hW1] at cC cL cK
  clear hW1 hat hres hc hr hCk hcl hl hok hbx
  by_cases h1 : y < 1
  · have d1 : decide (y < 1) = true := decide_eq_true h1
    clear hy
    go_enter Try.func27, Try.ntmps27
    go_wp2_with fail
    rw [← HW.out]
    clear HW
    refine HCk.out.mono ?_
    rintro e w2 ⟨rfl, hb2⟩
    have hres2 := H1.out.1.below hb2
    have hy2 : w2.cell? ⟨w.heap.size + 1, 0, none⟩ = some (.int .i64 y) := Boxed.cell ((hb2.block _ (by omega)).trans H1.out.2)
    obtain ⟨s0, s1, s2, f0, f1, f2, hfin⟩ := lin_store hres2 (.slice Option.none 0 0) (.slice Option.none 0 0) 0
    obtain ⟨r0, r1, r2⟩ := hfin.cells
    have lowf := low_store (hb1.trans (hb2.mono hb1.size)) (show w.heap.size ≤ w.heap.size + 2 by omega) (.slice Option.none 0 0) (.slice Option.none 0 0) (.int .i64 0)
    have HFI := Lib.hid hfin
    have HLow := Lib.hid lowf
    clear HCk hb2 hres2 hfin lowf H1
    go_wp2_with fail
    refine bodyPost_ret (results_row_tmp rfl _ _ (w.heap.size + 2) 24 _ (0, 0) _ _ rfl HFI.out rfl rfl rfl rfl) rfl ?_
    exact ⟨rfl, HLow.out⟩
  · have d1 : decide (y < 1) = false := decide_eq_false h1
    have d2 : decide (y > 1099511627776) = true := decide_eq_true (by omega)
    have d3 : decide (1099511627776 < y) = true := decide_eq_true (by omega)
    clear hy
    go_enter Try.func27, Try.ntmps27
    go_wp2_with fail
    rw [← HW.out]
    clear HW
    refine HCk.out.mono ?_
    rintro e w2 ⟨rfl, hb2⟩
    have hres2 := H1.out.1.below hb2
    have hy2 : w2.cell? ⟨w.heap.size + 1, 0, none⟩ = some (.int .i64 y) := Boxed.cell ((hb2.block _ (by omega)).trans H1.out.2)
    obtain ⟨s0, s1, s2, f0, f1, f2, hfin⟩ := lin_store hres2 (.slice Option.none 0 0) (.slice Option.none 0 0) 0
    obtain ⟨r0, r1, r2⟩ := hfin.cells
    have lowf := low_store (hb1.trans (hb2.mono hb1.size)) (show w.heap.size ≤ w.heap.size + 2 by omega) (.slice Option.none 0 0) (.slice Option.none 0 0) (.int .i64 0)
    have HFI := Lib.hid hfin
    have HLow := Lib.hid lowf
    clear HCk hb2 hres2 hfin lowf H1
    go_wp2_with fail
    refine bodyPost_ret (results_row_tmp rfl _ _ (w.heap.size + 2) 24 _ (0, 0) _ _ rfl HFI.out rfl rfl rfl rfl) rfl ?_
    exact ⟨rfl, HLow.out⟩

/-- What a constraint reads as that a call has made. -/
def GivesL (cs ls : List Int) (k : Int) (w : World) (e : Ending) (w' : World) : Prop :=
  ∃ A1 c1 A2 c2, e = .returned (.tuple #[.agg #[.slice A1 cs.length c1, .slice A2 ls.length c2, .int .i64 k], .int .i64 0]) ∧ RdI w'.heap.size w' A1 cs ∧ RdI w'.heap.size w' A2 ls ∧ (A1 = Option.none → c1 = 0) ∧ (A2 = Option.none → c2 = 0) ∧ Below w.heap.size w w'
theorem dn_len' (y : Int) (cs : List Int) : (dn y cs).length = cs.length := by unfold dn; rw [List.length_map]
theorem QI.nocap {w : World} {base : Nat} {A : Option Addr} {n c : Nat} {zs : List Int} (h : QI w base (.slice A n c) zs) : A = Option.none → c = 0 := by
  intro hA
  subst hA
  rcases h.2 with ⟨e, _⟩ | ⟨g, o, c', cs, e, _⟩
  · injection e
  · injection e with e; cases e
set_option maxHeartbeats 8000000 in
theorem Cut_ok (B : Nat) (AC AL : Option Addr) (n cc lc : Nat) (k y : Int) (cs ls : List Int) (w : World) (hc : RdI B w AC cs) (hr : RdI B w AL ls) (hB : B ≤ w.heap.size) (hcl : cs.length = n) (hl : ls.length = n) (hn : n ≤ 64) (hok : OkL cs ls k 65536) (hy : 1 ≤ y ∧ y ≤ 1099511627776) :
    Calls Try.prog 27 #[.agg #[.slice AC n cc, .slice AL n lc, .int .i64 k], .int .i64 y] w (GivesL (dn y (nC cs ls k)) (nL cs ls k) (dv y (nK cs ls k)) w) := by
  obtain ⟨W1, hW1⟩ : ∃ W, W = _ := ⟨_, rfl⟩
  obtain ⟨hs1, hb1, hat, hbx, hres⟩ := cut_world AC AL n n cc lc k y w W1 hW1
  have hCk := (LinCheck_any B AC AL n n cc lc k 65536 cs ls W1 (hc.below hb1 hB) (hr.below hb1 hB) (by omega) hcl hl (by omega) (by omega) (by omega)).1 hok
  have HCk := Lib.hid hCk
  have HW := Lib.hid hW1
  have HNm := Lib.hid (fun W (h : Below w.heap.size W1 W) => norm_fn B n cc lc AC AL k cs ls W ((hc.below hb1 hB).below h hB) ((hr.below hb1 hB).below h hB) (by have := h.size; omega) hcl hl (by omega) hok)
  have hcs : ∀ c ∈ cs, -1099511627776 ≤ c ∧ c ≤ 1099511627776 := fun c hc => by
    obtain ⟨j, hj, rfl⟩ := List.mem_iff_getElem.1 hc
    have := (hok.2.2.2.2 j (by omega)).1
    rw [List.getElem?_eq_getElem hj, Option.getD_some] at this
    unfold numB at this
    simpa using this
  have hlit : ∀ z ∈ ls, z ≠ 0 ∧ -65536 ≤ z ∧ z ≤ 65536 := fun z hz => by
    obtain ⟨j, hj, rfl⟩ := List.mem_iff_getElem.1 hz
    have := (hok.2.2.2.2 j hj).2
    rw [List.getElem?_eq_getElem hj, Option.getD_some] at this
    exact litB_bound this
  have hCan := canon cs ls k 65536 (by omega) (by omega) hcs hlit
  have hCl : (nC cs ls k).length ≤ n := by have := norm_len cs ls k; omega
  have HC := Lib.hid (And.intro hCan hCl)
  have H1 := Lib.hid (And.intro hres (And.intro hbx hat))
  obtain ⟨cC, cL, cK⟩ := hat.cells
  rw [hW1] at cC cL cK
  clear hW1 hat hres hc hr hCk hcl hl hok hbx hcs hlit hCan hCl
  have d1 : decide (y < 1) = false := decide_eq_false (by omega)
  have d2 : decide (y > 1099511627776) = false := decide_eq_false (by omega)
  have d3 : decide (1099511627776 < y) = false := decide_eq_false (by omega)
  have HY := Lib.hid hy
  clear hy
  go_enter Try.func27, Try.ntmps27
  go_wp2_with fail
  rw [← HW.out]
  clear HW
  refine HCk.out.mono ?_
  rintro e w2 ⟨rfl, hb2⟩
  have hs2 := hb2.size
  have hres2 := H1.out.1.below hb2
  have hat2 := H1.out.2.2.below hb2
  have hbx2 : Boxed w2 (w.heap.size + 1) 3 (.int .i64 y) := (hb2.block _ (by omega)).trans H1.out.2.1
  have hy2 := Boxed.cell hbx2
  obtain ⟨cC, cL, cK⟩ := hat2.cells
  have hN2 := Lib.hid (HNm.out w2 (hb2.mono (by omega)))
  have H2 := Lib.hid (And.intro hres2 (And.intro hbx2 (hb1.trans (hb2.mono hb1.size))))
  clear HCk H1 HNm hres2 hbx2 hat2 hb2
  go_wp2_with fail
  refine hN2.out.mono ?_
  rintro e w3 ⟨A1, c1, A2, c2, rfl, q1, q2, dis, hb3⟩
  clear hN2 cC cL cK hy2
  obtain ⟨C, hC⟩ : ∃ C, nC cs ls k = C := ⟨_, rfl⟩
  obtain ⟨L, hL⟩ : ∃ L, nL cs ls k = L := ⟨_, rfl⟩
  obtain ⟨K, hK⟩ : ∃ K, nK cs ls k = K := ⟨_, rfl⟩
  have HCL := Lib.hid (And.intro hC (And.intro hL hK))
  rw [hC, hL, hK] at HC ⊢
  rw [hC] at q1 dis
  rw [hL] at q2 dis
  obtain ⟨M, hM⟩ : ∃ M, C.length = M := ⟨_, rfl⟩
  have hM' : L.length = M := by rw [← HC.out.1.len]; exact hM
  rw [hM] at q1 dis ⊢
  rw [hM'] at q2 dis ⊢
  have hMn : M ≤ n := by rw [← hM]; exact HC.out.2
  have hs3 := hb3.size
  obtain ⟨W4, hW4⟩ : ∃ W4, W4 = w3.alloc (.cells #[.slice A1 M c1, .slice A2 M c2, .int .i64 K] 52) := ⟨_, rfl⟩
  have hs4 : W4.heap.size = w3.heap.size + 1 := by rw [hW4]; simp
  have hb4 : Below w3.heap.size w3 W4 := by rw [hW4]; exact (Below.refl _ _).alloc (Nat.le_refl _) _
  have hat4 : LinAt W4 w3.heap.size (.slice A1 M c1) (.slice A2 M c2) K 52 := by rw [hW4]; exact heap_alloc_new _ _
  have hbx4 : Boxed W4 (w.heap.size + 1) 3 (.int .i64 y) := (hb4.block _ (by omega)).trans ((hb3.block _ (by omega)).trans H2.out.2.1)
  have hres4 : LinAt W4 (w.heap.size + 2) (.slice Option.none 0 0) (.slice Option.none 0 0) 0 24 := (hb4.block _ (by omega)).trans ((hb3.block _ (by omega)).trans H2.out.1)
  have q14 := q1.same (w' := W4) fun i hi => hb4.block i (q1.lt hi).2
  have q24 := q2.same (w' := W4) fun i hi => hb4.block i (q2.lt hi).2
  have hKb : 0 ≤ K ∧ K ≤ 1152921504606846976 := by
    have hcan := HC.out.1
    by_cases hC0 : C = []
    · have := hcan.none hC0; omega
    · have h1 := hcan.some hC0
      have h2 := su_bound 140737488355328 (by omega) C fun c hc => by have := hcan.pos c hc; have := hcan.big c hc; omega
      rw [hM] at h2
      omega
  have hE := eachd_any w3.heap.size w2.heap.size (w.heap.size + 1) C L K y W4 (.slice A1 M c1) (.slice A2 M c2) ⟨hat4, q14, q24, dis, fun e => by have := (q1.lt e).2; omega, fun e => by have := (q2.lt e).2; omega, by omega⟩ hbx4 (by omega) (fun e => by have := (q1.lt e).1; omega) hKb (by omega) (fun c hc => by have := HC.out.1.pos c hc; have := HC.out.1.big c hc; omega) HY.out
  have HE := Lib.hid hE
  have HW := Lib.hid hW4
  have H4 := Lib.hid (And.intro hres4 (And.intro H2.out.2.2 (And.intro hb3 hb4)))
  have HM := Lib.hid (And.intro hM hM')
  obtain ⟨cC, cL, cK⟩ := hat4.cells
  rw [hW4] at cC cL cK
  clear hE hW4 hat4 hbx4 hres4 q14 q24 q1 q2 dis hb3 hb4 H2 hKb hM hM' hC hL hK
  go_wp2_with fail
  rw [← HW.out]
  clear HW
  refine HE.out.mono ?_
  rintro e w5 ⟨rfl, ⟨hat5, q15, q25, _, _, _, _⟩, hb5⟩
  clear HE cC cL cK
  have hs5 := hb5.size
  have hres5 : LinAt w5 (w.heap.size + 2) (.slice Option.none 0 0) (.slice Option.none 0 0) 0 24 := (hb5.block _ (by omega)).trans H4.out.1
  have hlow5 : Below w.heap.size w w5 := ((H4.out.2.1.trans (H4.out.2.2.1.mono (by omega))).trans (H4.out.2.2.2.mono (by omega))).trans (hb5.mono (by omega))
  obtain ⟨p0, p1, p2⟩ := hat5.cells
  obtain ⟨s0, s1, s2, f0, f1, f2, hfin⟩ := lin_store hres5 (.slice A1 M c1) (.slice A2 M c2) (dv y K)
  obtain ⟨r0, r1, r2⟩ := hfin.cells
  have lowf := low_store hlow5 (show w.heap.size ≤ w.heap.size + 2 by omega) (.slice A1 M c1) (.slice A2 M c2) (.int .i64 (dv y K))
  have q1f := ((q15.set (j := 0) (u := .slice A1 M c1) (g := w.heap.size + 2) (by omega)).set (j := 1) (u := .slice A2 M c2) (g := w.heap.size + 2) (by omega)).set (j := 2) (u := .int .i64 (dv y K)) (g := w.heap.size + 2) (by omega)
  have q2f := ((q25.set (j := 0) (u := .slice A1 M c1) (g := w.heap.size + 2) (by omega)).set (j := 1) (u := .slice A2 M c2) (g := w.heap.size + 2) (by omega)).set (j := 2) (u := .int .i64 (dv y K)) (g := w.heap.size + 2) (by omega)
  obtain ⟨_, _, x1, _, rd1⟩ := q1f.shape
  obtain ⟨_, _, x2, _, rd2⟩ := q2f.shape
  injection x1 with x1 xn1 xc1
  injection x2 with x2 xn2 xc2
  clear xn1 xc1 xn2 xc2
  subst x1
  subst x2
  have fin : GivesL (dn y C) L (dv y K) w (.returned (.tuple #[.agg #[.slice A1 M c1, .slice A2 M c2, .int .i64 (dv y K)], .int .i64 0])) (((w5.setCell ⟨w.heap.size + 2, 0, none⟩ (.slice A1 M c1)).setCell ⟨w.heap.size + 2, 1, none⟩ (.slice A2 M c2)).setCell ⟨w.heap.size + 2, 2, none⟩ (.int .i64 (dv y K))) :=
    ⟨A1, c1, A2, c2, by rw [dn_len', HM.out.1, HM.out.2], rd1, rd2, q1f.nocap, q2f.nocap, lowf⟩
  have FIN : Hid (GivesL (dn y (nC cs ls k)) (nL cs ls k) (dv y (nK cs ls k)) w (.returned (.tuple #[.agg #[.slice A1 M c1, .slice A2 M c2, .int .i64 (dv y K)], .int .i64 0])) (((w5.setCell ⟨w.heap.size + 2, 0, none⟩ (.slice A1 M c1)).setCell ⟨w.heap.size + 2, 1, none⟩ (.slice A2 M c2)).setCell ⟨w.heap.size + 2, 2, none⟩ (.int .i64 (dv y K)))) := Lib.hid (by
    obtain ⟨z1, z2, z3⟩ := HCL.out
    rw [z1, z2, z3]
    exact fin)
  have HFI := Lib.hid hfin
  clear fin q1f q2f rd1 rd2 lowf hfin hat5 hres5 hlow5 hb5 q15 q25 H4
  generalize dv y K = D at *
  go_wp2_with fail
  refine bodyPost_ret (results_row_tmp rfl _ _ (w.heap.size + 2) 24 _ (0, 0) _ _ rfl HFI.out rfl rfl rfl rfl) rfl ?_
  exact FIN.out
end Go.Proofs.Ytoacfjmefoiflaa
