/- What the reference's Norm answers. -/
import Derived.Test.YtoacfjmefoiflaaRVars
import Derived.Test.YtoacfjmefoiflaaRBoth
import Derived.Test.YtoacfjmefoiflaaRSame
import Derived.Test.YtoacfjmefoiflaaRChk
import Derived.Deep.RegionHeld
namespace Go.Proofs.Ytoacfjmefoiflaa
open Go.RowKit
set_option maxRecDepth 100000

/-- Between these worlds only block g and what lies from base on has turned. -/
def KG (g base : Nat) (a b : World) : Prop := Below g a b ∧ ∀ i, i < base → i ≠ g → b.heap[i]? = a.heap[i]?
theorem KG.refl (g base : Nat) (a : World) : KG g base a a := ⟨Below.refl _ _, fun _ _ _ => rfl⟩
theorem KG.trans {g base : Nat} {a b c : World} (h : KG g base a b) (k : KG g base b c) : KG g base a c := ⟨h.1.trans k.1, fun i h1 h2 => (k.2 i h1 h2).trans (h.2 i h1 h2)⟩
theorem KG.of {g base : Nat} {a b : World} (hb : Below a.heap.size a b) (hs : base ≤ a.heap.size) (hg : g < base) : KG g base a b := ⟨hb.mono (by omega), fun i h1 _ => hb.block i (by omega)⟩
theorem KG.drew {g base : Nat} {a : World} : KG g base a (World.drew a) := ⟨(Below.refl _ _).drew, fun _ _ _ => rfl⟩
theorem KG.grown {g base : Nat} {a b : World} {row : Option Nat} (hg : a.grownBy b row) (hs : base ≤ a.heap.size) (hgb : g < base) (hr : ∀ k, row = some k → base ≤ k) : KG g base a b :=
  ⟨(Below.refl _ _).grown hg (by omega) (fun k hk => by have := hr k hk; omega), fun i h1 _ => hg.block i (by omega) (fun e => by have := hr i e.symm; omega)⟩
theorem KG.set {g base : Nat} {a : World} (o : Nat) (v : Value) : KG g base a (a.setCell ⟨g, o, none⟩ v) :=
  ⟨(Below.refl _ _).setCell (p := ⟨g, o, none⟩) (Nat.le_refl _) _, fun i _ h2 => heap_setCell_other a ⟨g, o, none⟩ i v h2⟩
theorem KG.setRow {g base b : Nat} {a : World} (o : Nat) (v : Value) (hb : base ≤ b) (hg : g < base) : KG g base a (a.setCell ⟨b, o, none⟩ v) :=
  ⟨(Below.refl _ _).setCell (p := ⟨b, o, none⟩) (by show g ≤ b; omega) _, fun i h1 _ => heap_setCell_other a ⟨b, o, none⟩ i v (by show i ≠ b; omega)⟩
theorem KG.cell {g base : Nat} {a b : World} (h : KG g base a b) {i o : Nat} {v : Value} (h1 : i < base) (h2 : i ≠ g) (hc : a.cell? ⟨i, o, none⟩ = some v) : b.cell? ⟨i, o, none⟩ = some v := by
  have e := h.2 i h1 h2
  have : b.cell? ⟨i, o, none⟩ = a.cell? ⟨i, o, none⟩ := by
    unfold World.cell?
    simp only [e]
  rw [this]; exact hc
/-- The constraint in the making: a struct in block g, its rows in blocks of their own from base on. -/
structure NSt (W wr : World) (g base : Nat) (v1 v2 : Value) (C L : List Int) (K : Int) : Prop where
  at' : LinAt wr g v1 v2 K 24
  q1 : QI wr base v1 C
  q2 : QI wr base v2 L
  dis : Dis2 v1 v2
  kg : KG g base W wr
  bs : base ≤ wr.heap.size
  gb : g < base
theorem NSt.step {W wr w' : World} {g base : Nat} {v1 v2 : Value} {C L : List Int} {K : Int} (S : NSt W wr g base v1 v2 C L K) (hb : Below wr.heap.size wr w') : NSt W w' g base v1 v2 C L K :=
  ⟨S.at'.below hb, S.q1.same fun i hi => hb.block i (S.q1.lt hi).2, S.q2.same fun i hi => hb.block i (S.q2.lt hi).2, S.dis, S.kg.trans (KG.of hb S.bs S.gb), by have := S.bs; have := hb.size; omega, S.gb⟩
theorem NSt.setk {W wr : World} {g base : Nat} {v1 v2 : Value} {C L : List Int} {K : Int} (S : NSt W wr g base v1 v2 C L K) (x : Int) : NSt W (wr.setCell ⟨g, 2, none⟩ (.int .i64 x)) g base v1 v2 C L x :=
  ⟨S.at'.set2 x, S.q1.set S.gb, S.q2.set S.gb, S.dis, S.kg.trans (KG.set 2 _), by have := S.bs; simpa using this, S.gb⟩
/-- Behind an append to the first row and its store. -/
theorem NSt.push1 {W wr w' : World} {g base : Nat} {v1 v2 v' : Value} {C L C' : List Int} {K : Int} (S : NSt W wr g base v1 v2 C L K) (hq : QI w' base v' C') (hq2 : QI w' base v2 L) (hd : Dis2 v' v2) (hb : Below base wr w') (hs : wr.heap.size ≤ w'.heap.size) :
    NSt W (w'.setCell ⟨g, 0, none⟩ v') g base v' v2 C' L K :=
  ⟨(show LinAt w' g v1 v2 K 24 from (hb.block g S.gb).trans S.at').set0 v', hq.set S.gb, hq2.set S.gb, hd, (S.kg.trans ⟨hb.mono (by have := S.gb; omega), fun i h1 _ => hb.block i h1⟩).trans (KG.set 0 _), by have := S.bs; simp; omega, S.gb⟩

/-- An append to a row, in a region that draws its order. -/
theorem LinAt.set0' {w : World} {g : Nat} {v1 v2 : Value} {k : Int} {t : TypeId} (h : LinAt w g v1 v2 k t) (u : Value) : LinAt (w.setCell ⟨g, 1, none⟩ u) g v1 u k t := h.set1 u
theorem su_append : ∀ a b : List Int, su (a ++ b) = su a + su b
  | [], b => by simp [su]
  | x :: a, b => by
    have ih := su_append a b
    show x + su (a ++ b) = x + su a + su b
    rw [ih]; omega
theorem ncs_su (cs ls vs : List Int) (j : Nat) (h : j < vs.length) : su (ncs cs ls (vs.take (j + 1))) = su (ncs cs ls (vs.take j)) + su (vC (tot cs ls (vs[j]?.getD 0)) (tot cs ls (-(vs[j]?.getD 0)))) := by
  rw [List.take_add_one, List.getElem?_eq_getElem h]
  show su (ncs cs ls (vs.take j ++ [vs[j]])) = _
  rw [ncs_snoc, su_append]
  rfl

set_option maxHeartbeats 4000000 in
theorem RNorm_bad (B n1 n2 cc lc : Nat) (AC AL : Option Addr) (k : Int) (cs ls : List Int) (w : World) (hc : RdI B w AC cs) (hr : RdI B w AL ls) (hB : B ≤ w.heap.size) (hcl : cs.length = n1) (hl : ls.length = n2) (hn : n2 ≤ 64) (hok : ¬ OkL cs ls k 65536) :
    Calls Try.prog 16 #[.agg #[.slice AC n1 cc, .slice AL n2 lc, .int .i64 k]] w fun e w' => e = .returned (.agg #[.slice Option.none 0 0, .slice Option.none 0 0, .int .i64 0]) ∧ Below w.heap.size w w' := by
  obtain ⟨W1, hW1⟩ : ∃ W1, W1 = (w.alloc (.cells #[.slice AC n1 cc, .slice AL n2 lc, .int .i64 k] 24)).alloc (.cells #[.slice Option.none 0 0, .slice Option.none 0 0, .int .i64 0] 24) := ⟨_, rfl⟩
  have hs1 : W1.heap.size = w.heap.size + 2 := by rw [hW1]; simp
  have hb1 : Below w.heap.size w W1 := by rw [hW1]; exact ((Below.refl _ _).alloc (Nat.le_refl _) _).alloc (by simp) _
  have hat : LinAt W1 w.heap.size (.slice AC n1 cc) (.slice AL n2 lc) k 24 := by rw [hW1]; exact (heap_alloc_old _ _ (by simp)).trans (heap_alloc_new _ _)
  have hres : LinAt W1 (w.heap.size + 1) (.slice Option.none 0 0) (.slice Option.none 0 0) 0 24 := by
    have := heap_alloc_new (w.alloc (.cells #[.slice AC n1 cc, .slice AL n2 lc, .int .i64 k] 24)) (.cells #[.slice Option.none 0 0, .slice Option.none 0 0, .int .i64 0] 24)
    rw [World.size_alloc] at this
    rw [hW1]; exact this
  obtain ⟨cC, cL, cK⟩ := hat.cells
  rw [hW1] at cC cL cK
  have hCk := (RCheck_any B AC AL n1 n2 cc lc k 65536 cs ls W1 (hc.below hb1 hB) (hr.below hb1 hB) (by omega) hcl hl (by omega)).2 hok
  have HCk := Lib.hid hCk
  have HW := Lib.hid hW1
  have H1 := Lib.hid hres
  clear hW1 hat hres hc hr hCk hcl hl hok
  go_enter Try.func16, Try.ntmps16
  go_wp2_with fail
  rw [← HW.out]
  clear HW
  refine HCk.out.mono ?_
  rintro e w2 ⟨rfl, hb2⟩
  have hres2 := H1.out.below hb2
  have s0 := hres2.cells.1
  have s1 := (hres2.set0 (.slice Option.none 0 0)).cells.2.1
  have s2 := ((hres2.set0 (.slice Option.none 0 0)).set1 (.slice Option.none 0 0)).cells.2.2
  have f0 := hres2.frozen 0
  have f1 := (hres2.set0 (.slice Option.none 0 0)).frozen 1
  have f2 := ((hres2.set0 (.slice Option.none 0 0)).set1 (.slice Option.none 0 0)).frozen 2
  have hfin := ((hres2.set0 (.slice Option.none 0 0)).set1 (.slice Option.none 0 0)).set2 0
  obtain ⟨r0, r1, r2⟩ := hfin.cells
  have hb12 := hb1.trans (hb2.mono hb1.size)
  have lowf : Below w.heap.size w (((w2.setCell ⟨w.heap.size + 1, 0, none⟩ (.slice Option.none 0 0)).setCell ⟨w.heap.size + 1, 1, none⟩ (.slice Option.none 0 0)).setCell ⟨w.heap.size + 1, 2, none⟩ (.int .i64 0)) := (((hb12.setCell (p := ⟨w.heap.size + 1, 0, none⟩) (by show w.heap.size ≤ w.heap.size + 1; omega) _).setCell (p := ⟨w.heap.size + 1, 1, none⟩) (by show w.heap.size ≤ w.heap.size + 1; omega) _).setCell (p := ⟨w.heap.size + 1, 2, none⟩) (by show w.heap.size ≤ w.heap.size + 1; omega) _)
  have HFI := Lib.hid hfin
  have HLow := Lib.hid lowf
  clear HCk hb2 hres2 hfin lowf hb12 H1
  go_wp2_with fail
  refine bodyPost_ret (results_cell_row rfl _ _ (w.heap.size + 1) 24 _ (0, 0) _ rfl HFI.out rfl rfl rfl) rfl ?_
  exact ⟨rfl, HLow.out⟩
theorem vsOf_len : ∀ l : List Int, (vsOf l).length ≤ l.length := by
  intro l
  induction l with
  | nil => simp [vsOf]
  | cons z r ih =>
    have h3 : ∀ (x : Int) (l : List Int), (insU x l).length ≤ l.length + 1 := by
      intro x l
      induction l with
      | nil => simp [insU]
      | cons y r ih =>
        unfold insU
        split
        · simp
        · split
          · simp
          · simp; omega
    have := h3 (max z (-z)) (vsOf r)
    show (insU _ _).length ≤ r.length + 1
    omega

/-- An append to one of two rows, the world under a name of its own. -/
theorem push_q2' {ops : Array Oper} {rest : List Oper} {o : Oper} {a : Act} {Q : Exit → Act → World → Prop} {w : World} (hgd : o.guard = none) (s x : Operand)
    (ho : o.op = .call { callee := .builtin .append, args := #[s, x], argTypes := #[22, 22] }) (base : Nat) (v u : Value) (zs ys : List Int) (hs : a.eval s = v) (hv : QI w base v zs) (hu : QI w base u ys) (hd : Dis2 v u) (z : Int) (hz : Wf z)
    (hx : a.eval x = .slice (some ⟨w.heap.size, 0, none⟩) 1 1) (hlen : zs.length ≤ 1000000) (hbase : base ≤ w.heap.size)
    (h : ∀ v' w', QI w' base v' (zs ++ [z]) → QI w' base u ys → Dis2 v' u → Below base w w' → w.heap.size ≤ w'.heap.size → wpList Try.prog ops Q rest (a.put o.dst v') w') : wpList Try.prog ops Q (o :: rest) a (w.alloc (.cells #[.int .i64 z] 3)) :=
  push_q2 hgd s x ho base v u zs ys hs hv hu hd z hz hx hlen hbase h

set_option maxHeartbeats 32000000 in
theorem RNorm_ok (B n cc lc : Nat) (AC AL : Option Addr) (k : Int) (cs ls : List Int) (w : World) (hc : RdI B w AC cs) (hr : RdI B w AL ls) (hB : B ≤ w.heap.size) (hcl : cs.length = n) (hl : ls.length = n) (hn : n ≤ 64) (hok : OkL cs ls k 65536) :
    Calls Try.prog 16 #[.agg #[.slice AC n cc, .slice AL n lc, .int .i64 k]] w fun e w' => ∃ A1 c1 A2 c2, e = .returned (.agg #[.slice A1 (nC cs ls k).length c1, .slice A2 (nL cs ls k).length c2, .int .i64 (nK cs ls k)]) ∧
      RdI w'.heap.size w' A1 (nC cs ls k) ∧ RdI w'.heap.size w' A2 (nL cs ls k) ∧ (A1 = Option.none → c1 = 0) ∧ (A2 = Option.none → c2 = 0) ∧ Below w.heap.size w w' := by
  obtain ⟨W1, hW1⟩ : ∃ W1, W1 = (w.alloc (.cells #[.slice AC n cc, .slice AL n lc, .int .i64 k] 24)).alloc (.cells #[.slice Option.none 0 0, .slice Option.none 0 0, .int .i64 0] 24) := ⟨_, rfl⟩
  have hs1 : W1.heap.size = w.heap.size + 2 := by rw [hW1]; simp
  have hb1 : Below w.heap.size w W1 := by rw [hW1]; exact ((Below.refl _ _).alloc (Nat.le_refl _) _).alloc (by simp) _
  have hat : LinAt W1 w.heap.size (.slice AC n cc) (.slice AL n lc) k 24 := by rw [hW1]; exact (heap_alloc_old _ _ (by simp)).trans (heap_alloc_new _ _)
  have hres : LinAt W1 (w.heap.size + 1) (.slice Option.none 0 0) (.slice Option.none 0 0) 0 24 := by
    have := heap_alloc_new (w.alloc (.cells #[.slice AC n cc, .slice AL n lc, .int .i64 k] 24)) (.cells #[.slice Option.none 0 0, .slice Option.none 0 0, .int .i64 0] 24)
    rw [World.size_alloc] at this
    rw [hW1]; exact this
  obtain ⟨cC, cL, cK⟩ := hat.cells
  rw [hW1] at cC cL cK
  have HCk := Lib.hid ((RCheck_any B AC AL n n cc lc k 65536 cs ls W1 (hc.below hb1 hB) (hr.below hb1 hB) (by omega) hcl hl (by omega)).1 hok)
  have HW := Lib.hid hW1
  have H1 := Lib.hid (And.intro hat hres)
  have HL := Lib.hid (And.intro (And.intro hc hr) (And.intro hcl (And.intro hl hok)))
  clear hW1 hat hres hc hr hcl hl hok
  go_enter Try.func16, Try.ntmps16
  go_wp2_with fail
  rw [← HW.out]
  clear HW
  refine HCk.out.mono ?_
  rintro e w2 ⟨rfl, hb2⟩
  have hs2 := hb2.size
  have hb12 := hb1.trans (hb2.mono hb1.size)
  obtain ⟨g, hg⟩ : ∃ g, w2.heap.size = g := ⟨_, rfl⟩
  obtain ⟨W3, hW3⟩ : ∃ W3, W3 = w2.alloc (.cells #[.slice Option.none 0 0, .slice Option.none 0 0, .int .i64 k] 24) := ⟨_, rfl⟩
  have hs3 : W3.heap.size = g + 1 := by rw [hW3]; simp [hg]
  have hb3 : Below w2.heap.size w2 W3 := by rw [hW3]; exact (Below.refl _ _).alloc (Nat.le_refl _) _
  have hat3 : LinAt W3 g (.slice Option.none 0 0) (.slice Option.none 0 0) k 24 := by rw [hW3, ← hg]; exact heap_alloc_new _ _
  have hb13 := hb12.trans (hb3.mono hb12.size)
  have H3 := Lib.hid (And.intro ((H1.out.1.below hb2).below hb3) (And.intro ((H1.out.2.below hb2).below hb3) (And.intro hat3 hb13)))
  have hV := RVars_any B n n cc lc AC AL k ls W3 (HL.out.1.2.below hb13 hB) (by omega) HL.out.2.2.1 (by omega) HL.out.2.2.2.ls
  have HV := Lib.hid hV
  have HW := Lib.hid hW3
  obtain ⟨cC, cL, cK⟩ := (H1.out.1.below hb2).cells
  obtain ⟨dC, dL, dK⟩ := H3.out.1.cells
  rw [hW3] at dC dL dK
  clear HCk H1 hV hW3 hat3 hb13 hb12 hb2
  have hwg : w.heap.size + 2 ≤ g := by omega
  go_wp2_with fail
  rw [← HW.out]
  clear HW cC cL cK dC dL dK
  refine HV.out.mono ?_
  rintro e w4 ⟨vv, rfl, rowv, hb4⟩
  have hs4 := hb4.size
  obtain ⟨AV, cV, hvv, _, _, rdv⟩ := rowv.shape
  obtain ⟨vs, hvs⟩ : ∃ vs, vsOf ls = vs := ⟨_, rfl⟩
  rw [hvs] at hvv rowv rdv
  obtain ⟨LV, hLV⟩ : ∃ LV, vs.length = LV := ⟨_, rfl⟩
  rw [hLV] at hvv
  have hblk : ∀ b o, AV = some ⟨b, o, none⟩ → g + 2 ≤ b ∧ b < w4.heap.size := fun b o e => by
    have := rowv.2.lt b (by rw [hvv, e]; rfl)
    omega
  obtain ⟨base, hbase⟩ : ∃ base, w4.heap.size = base := ⟨_, rfl⟩
  have hLVn : LV ≤ n := by
    rw [← hLV, ← hvs]
    exact Nat.le_trans (vsOf_len ls) (Nat.le_of_eq HL.out.2.2.1)
  have H4 := Lib.hid (And.intro (H3.out.1.below hb4) (And.intro (H3.out.2.1.below hb4) (And.intro (H3.out.2.2.1.below hb4) (H3.out.2.2.2.trans (hb4.mono (by omega))))))
  have HV4 := Lib.hid (And.intro rdv (And.intro hLV (And.intro hvs hblk)))
  rw [hbase] at hblk
  subst hvv
  clear HV H3 rowv rdv hb4 hvs hblk hLV
  go_wp2_with fail
  obtain ⟨W4, hW4⟩ : ∃ W4, w4 = W4 := ⟨_, rfl⟩
  rw [hW4] at H4 HV4 hs4 hbase ⊢
  clear hW4
  go_loopw [4, 6] (fun a i wr => ∃ (j : Nat) (v1 v2 : Value), j ≤ LV ∧ a = .int .i64 (su (ncs cs ls (vs.take j))) ∧ i = .int .i64 j ∧ Hid (NSt W4 wr g base v1 v2 (ncs cs ls (vs.take j)) (nls cs ls (vs.take j)) (k - nk cs ls (vs.take j)))) (fun _ i _ => LV - (intOf i).toNat)
  case atStart => exact ⟨0, _, _, by omega, rfl, rfl, Lib.hid ⟨by simpa [nk] using H4.out.2.2.1, QI.nil _ _, QI.nil _ _, Dis2.nil _, KG.refl _ _ _, by omega, by omega⟩⟩
  case round =>
    obtain ⟨j, v1, v2, hj, rfl, rfl, HN⟩ := hrel
    have hwr := HN.out.bs
    have hatr : LinAt wr w.heap.size (.slice AC n cc) (.slice AL n lc) k 24 := (HN.out.kg.2 _ (by omega) (by omega)).trans H4.out.1
    have htb : ∀ q, -70368744177664 ≤ tot cs ls q ∧ tot cs ls q ≤ 70368744177664 := fun q => by
      have h1 := tot_bound 1099511627776 (by omega) cs ls q HL.out.2.2.2.cs
      have h2 := HL.out.2.1
      omega
    have hkb := nk_bound cs ls 70368744177664 (by omega) htb (vs.take j)
    rw [List.length_take] at hkb
    have hk0 := HL.out.2.2.2.kb
    have hsub := su_bound 140737488355328 (by omega) (ncs cs ls (vs.take j)) (fun c hc => by have := ncs_bound cs ls 70368744177664 htb (vs.take j) c hc; omega)
    have hnl := n_len cs ls (vs.take j)
    rw [List.length_take] at hnl
    by_cases hlt : j < LV
    · have hjv : j < vs.length := by rw [HV4.out.2.1]; exact hlt
      obtain ⟨b2, o2, hA2, hb2s, q2⟩ := HV4.out.1.2 (by omega)
      have hx1 := q2 j hjv
      have hb2g : b2 ≠ g := by have := (HV4.out.2.2.2 b2 o2 hA2).1; omega
      rw [hbase] at hb2s
      have hxm : vs[j]?.getD 0 ∈ vsOf ls := by rw [HV4.out.2.2.1, List.getElem?_eq_getElem hjv]; exact List.getElem_mem _
      obtain ⟨z, hz, hzx⟩ := (vsOf_mem _ ls).1 hxm
      have hzb := HL.out.2.2.2.ls z hz
      have hxb : 0 < vs[j]?.getD 0 ∧ vs[j]?.getD 0 ≤ 65536 := by omega
      have htk : vs.take (j + 1) = vs.take j ++ [vs[j]?.getD 0] := by rw [List.take_add_one, List.getElem?_eq_getElem hjv]; rfl
      have e1 := ncs_snoc cs ls (vs[j]?.getD 0) (vs.take j)
      have e2 := nls_snoc cs ls (vs[j]?.getD 0) (vs.take j)
      have e3 := nk_snoc cs ls (vs[j]?.getD 0) (vs.take j)
      rw [← htk] at e1 e2 e3
      have hsu := ncs_su cs ls vs j hjv
      have hp1 := htb (vs[j]?.getD 0)
      have hq1 := htb (-(vs[j]?.getD 0))
      obtain ⟨K, hK⟩ : ∃ K, k - nk cs ls (vs.take j) = K := ⟨_, rfl⟩
      have hKb : -9007199254740992 ≤ K ∧ K ≤ 9007199254740992 := by omega
      rw [hK] at HN
      have HK := Lib.hid hK
      have hlw : Below w.heap.size w wr := H4.out.2.2.2.trans (HN.out.kg.1.mono (by omega))
      have HBo := Lib.hid (fun W (h : Below wr.heap.size wr W) => RBoth_any B n cc lc AC AL k (vs[j]?.getD 0) cs ls W ((HL.out.1.1.below hlw hB).below (h.mono (Nat.le_refl _)) (by have := hlw.size; omega)) ((HL.out.1.2.below hlw hB).below (h.mono (Nat.le_refl _)) (by have := hlw.size; omega)) (by have := hlw.size; have := h.size; omega) HL.out.2.1 HL.out.2.2.1 (by omega) HL.out.2.2.2.cs (by omega))
      obtain ⟨aC, aL, aK⟩ := hatr.cells
      have hx1r := HN.out.kg.cell hb2s hb2g hx1
      have hcell : ∀ W, Below wr.heap.size wr W → W.cell? ⟨w.heap.size, 0, none⟩ = some (.slice AC n cc) ∧ W.cell? ⟨w.heap.size, 1, none⟩ = some (.slice AL n lc) ∧ W.cell? ⟨w.heap.size, 2, none⟩ = some (.int .i64 k) ∧ W.cell? ⟨b2, o2 + j, none⟩ = some (.int .i64 (vs[j]?.getD 0)) := fun W hb => by
        obtain ⟨u1, u2, u3⟩ := (hatr.below hb).cells
        exact ⟨u1, u2, u3, (hb.cell (p := ⟨b2, o2 + j, none⟩) (by show b2 < wr.heap.size; omega)).trans hx1r⟩
      have HCell := Lib.hid hcell
      have hstart : Below wr.heap.size wr (World.drew wr) := (Below.refl _ _).drew
      clear hcell hlw hkb hk0 hnl hjv hxm hz hzx hzb htk hp1 hq1 htb hK q2 hatr
      cases hA2
      generalize vs[j]?.getD 0 = x at *
      obtain ⟨p, hp⟩ : ∃ p, tot cs ls x = p := ⟨_, rfl⟩
      obtain ⟨q, hq⟩ : ∃ q, tot cs ls (-x) = q := ⟨_, rfl⟩
      have hpb : -70368744177664 ≤ p ∧ p ≤ 70368744177664 := by rw [← hp]; have h1 := tot_bound 1099511627776 (by omega) cs ls x HL.out.2.2.2.cs; have h2 := HL.out.2.1; omega
      have hqb : -70368744177664 ≤ q ∧ q ≤ 70368744177664 := by rw [← hq]; have h1 := tot_bound 1099511627776 (by omega) cs ls (-x) HL.out.2.2.2.cs; have h2 := HL.out.2.1; omega
      rw [hp, hq] at e1 e2 e3 hsu
      simp only [hp, hq] at HBo
      obtain ⟨U, hU⟩ : ∃ U, su (ncs cs ls (vs.take j)) = U := ⟨_, rfl⟩
      rw [hU] at hsub hsu ⊢
      have hUb : -9007199254740992 ≤ U ∧ U ≤ 9007199254740992 := by have h1 := (n_len cs ls (vs.take j)).2; rw [List.length_take] at h1; omega
      have Heq := Lib.hid (And.intro e1 (And.intro e2 (And.intro e3 hsu)))
      clear hsub hU hp hq e1 e2 e3 hsu aC aL aK
      go_wp2_with fail
      refine wp_region_held_drew (S := fun W => Below wr.heap.size wr W) (by kernel_rfl) hstart (fun hHeld => ?_)
      clear hstart
      refine takeH_now (i := 0) (some 26) (v := ?_) rfl (by kernel_rfl) (by kernel_rfl) (by kernel_rfl) (fun _ _ _ h => h) (Or.inl ⟨by rfl, ?_⟩) rfl (by assumption) ?_
      rotate_left
      focus (intro w9 hS9; obtain ⟨aC, aL, aK, eC⟩ := HCell.out w9 hS9; clear hS9; go_simp; try with_reducible rfl)
      try simp only [Act.put, List.setIfInBounds_toArray, List.set_cons_zero, List.set_cons_succ]
      refine takeH_now (i := 1) (some 27) (v := ?_) rfl (by kernel_rfl) (by kernel_rfl) (by kernel_rfl) (fun _ _ _ h => h) (Or.inl ⟨by rfl, ?_⟩) rfl (by assumption) ?_
      rotate_left
      focus (intro w9 hS9; go_simp; try with_reducible rfl)
      try simp only [Act.put, List.setIfInBounds_toArray, List.set_cons_zero, List.set_cons_succ]
      refine takeH_now (i := 2) (some 28) (v := ?_) rfl (by kernel_rfl) (by kernel_rfl) (by kernel_rfl) (fun _ _ _ h => h) (Or.inl ⟨by rfl, ?_⟩) rfl (by assumption) ?_
      rotate_left
      focus (intro w9 hS9; go_simp; try with_reducible rfl)
      try simp only [Act.put, List.setIfInBounds_toArray, List.set_cons_zero, List.set_cons_succ]
      refine takeH_now (i := 3) (some 29) (v := ?_) rfl (by kernel_rfl) (by kernel_rfl) (by kernel_rfl) (fun _ _ _ h => h) (Or.inl ⟨by rfl, ?_⟩) rfl (by assumption) ?_
      rotate_left
      focus (intro w9 hS9; go_simp; try with_reducible rfl)
      try simp only [Act.put, List.setIfInBounds_toArray, List.set_cons_zero, List.set_cons_succ]
      refine takeH_now (i := 4) (some 30) (v := ?_) rfl (by kernel_rfl) (by kernel_rfl) (by kernel_rfl) (fun _ _ _ h => h) (Or.inl ⟨by rfl, ?_⟩) rfl (by assumption) ?_
      rotate_left
      focus (intro w9 hS9; obtain ⟨aC, aL, aK, eC⟩ := HCell.out w9 hS9; clear hS9; go_simp; try with_reducible rfl)
      try simp only [Act.put, List.setIfInBounds_toArray, List.set_cons_zero, List.set_cons_succ]
      refine wpAnyH_ready (rs := [5]) (by kernel_rfl) (by simp) ?_
      refine AllReadyH.cons (o := { dst := some 31, op := Op.call { callee := Callee.value (Operand.func 41), args := #[Operand.tmp 26, Operand.tmp 30], argTypes := #[24, 3] }, type := 56, pos := "ref.go:101", after := #[{ on := 0, ground := Ground.data }, { on := 4, ground := Ground.data }], guard := none }) rfl (fun K' hK' => ?_) AllReadyH.nil
      rw [if_pos (by kernel_rfl)]
      go_simp
      refine (HBo.out _ hHeld).mono ?_
      rintro e wa ⟨rfl, hba⟩
      have hHa : Below wr.heap.size wr wa := hHeld.trans (hba.mono hHeld.size)
      clear hHeld hba
      refine hK'.out _ _ hHa (fun hHeld => ?_)
      clear hK' hHa
      try simp only [Act.put, List.setIfInBounds_toArray, List.set_cons_zero, List.set_cons_succ]
      refine takeH_now (i := 6) (some 25) (v := ?_) rfl (by kernel_rfl) (by kernel_rfl) (by kernel_rfl) (fun _ _ _ h => h) (Or.inl ⟨by rfl, ?_⟩) rfl (by assumption) ?_
      rotate_left
      focus (intro w9 hS9; go_simp; try with_reducible rfl)
      try simp only [Act.put, List.setIfInBounds_toArray, List.set_cons_zero, List.set_cons_succ]
      refine takeH_now (i := 7) (some 32) (v := ?_) rfl (by kernel_rfl) (by kernel_rfl) (by kernel_rfl) (fun _ _ _ h => h) (Or.inl ⟨by rfl, ?_⟩) rfl (by assumption) ?_
      rotate_left
      focus (intro w9 hS9; go_simp; try with_reducible rfl)
      try simp only [Act.put, List.setIfInBounds_toArray, List.set_cons_zero, List.set_cons_succ]
      refine takeH_now (i := 8) (some 33) (v := ?_) rfl (by kernel_rfl) (by kernel_rfl) (by kernel_rfl) (fun _ _ _ h => h) (Or.inl ⟨by rfl, ?_⟩) rfl (by assumption) ?_
      rotate_left
      focus (intro w9 hS9; go_simp; try with_reducible rfl)
      try simp only [Act.put, List.setIfInBounds_toArray, List.set_cons_zero, List.set_cons_succ]
      refine takeH_now (i := 9) (some 7) (v := ?_) rfl (by kernel_rfl) (by kernel_rfl) (by kernel_rfl) (fun _ _ _ h => h) (Or.inl ⟨by rfl, ?_⟩) rfl (by assumption) ?_
      rotate_left
      focus (intro w9 hS9; go_simp; try with_reducible rfl)
      try simp only [Act.put, List.setIfInBounds_toArray, List.set_cons_zero, List.set_cons_succ]
      refine takeH_now (i := 10) (some 8) (v := ?_) rfl (by kernel_rfl) (by kernel_rfl) (by kernel_rfl) (fun _ _ _ h => h) (Or.inl ⟨by rfl, ?_⟩) rfl (by assumption) ?_
      rotate_left
      focus (intro w9 hS9; go_simp; try with_reducible rfl)
      try simp only [Act.put, List.setIfInBounds_toArray, List.set_cons_zero, List.set_cons_succ]
      refine wpAnyH_done (by kernel_rfl) ?_ _
      have HN := Lib.hid (HN.out.step hHeld)
      have hx1a := (HCell.out _ hHeld).2.2.2
      clear hHeld HBo HCell
      obtain ⟨e1, e2, e3, hsu⟩ := Heq.out
      clear Heq
      rcases Int.lt_trichotomy q p with h | h | h
      · have HN0 := HN
        -- a term is added
        have eC : vC p q = [p - q] := by unfold vC; rw [if_pos h]
        have eL : vL x p q = [x] := by unfold vL; rw [if_pos h]
        rw [eC] at e1
        rw [eL] at e2
        rw [eC] at hsu
        have HE := Lib.hid (And.intro e1 (And.intro e2 (And.intro e3 hsu)))
        have HN := Lib.hid (HN.out.setk (K - min p q))
        obtain ⟨xC, xL, xK⟩ := HN0.out.at'.cells
        have xF := HN0.out.at'.frozen 2
        obtain ⟨yC, yL, yK⟩ := HN.out.at'.cells
        obtain ⟨A1, c1, hv1, _, _⟩ := HN.out.q1.shape
        obtain ⟨Cq0, hCq0⟩ : ∃ Cq0, ncs cs ls (vs.take j) = Cq0 := ⟨_, rfl⟩
        rw [hCq0] at HN hv1 HE
        obtain ⟨L1, hL1⟩ : ∃ L1, Cq0.length = L1 := ⟨_, rfl⟩
        rw [hL1] at hv1
        have hL1b : Cq0.length ≤ 1000000 := by have h1 := (n_len cs ls (vs.take j)); rw [hCq0, List.length_take] at h1; omega
        have hd1 : Wf (p - q) := ⟨by omega, by omega⟩
        subst hv1
        clear e1 e2 e3 hsu eC eL hCq0 hL1 HN0
        obtain ⟨Wb, hWb⟩ : ∃ Wb, wa.setCell ⟨g, 2, none⟩ (.int .i64 (K - min p q)) = Wb := ⟨_, rfl⟩
        rw [hWb] at HN
        have HWb := Lib.hid hWb
        have HWbs := Lib.hid (show Wb.heap.size = wa.heap.size by rw [← hWb]; simp)
        have hsb := HN.out.bs
        rw [hWb] at yC yL yK
        rw [← HWb.out] at yC yL yK
        have g5 : decide (q > p) = false := decide_eq_false (by omega)
        have g6 : decide (p < q) = false := decide_eq_false (by omega)
        have g7 : decide (q < p) = true := decide_eq_true (by omega)
        clear hWb
        go_wp2_with (at_builtin; rw [HWb.out]; refine push_q2' rfl _ _ rfl base (.slice A1 L1 c1) v2 Cq0 (nls cs ls (vs.take j)) rfl HN.out.q1 HN.out.q2 HN.out.dis (p - q) hd1 (by rw [HWbs.out]; rfl) hL1b hsb ?_)
        intro v1 w5 hq1 hq2 hd12 low5 hs5
        obtain ⟨A1', c1', hv1', _, _⟩ := hq1.shape
        obtain ⟨L1', hL1'⟩ : ∃ L1', (Cq0 ++ [p - q]).length = L1' := ⟨_, rfl⟩
        rw [hL1'] at hv1'
        subst hv1'
        have hat5 := (low5.block g HN.out.gb).trans HN.out.at'
        have hat5 : LinAt w5 g (.slice A1 L1 c1) v2 (K - min p q) 24 := hat5
        obtain ⟨zC, zL, zK⟩ := hat5.cells
        have zF := hat5.frozen 0
        have HN := Lib.hid (HN.out.push1 hq1 hq2 hd12 low5 hs5)
        clear hq1 hq2 hd12 low5 hs5 hat5 hL1' xC xL xK xF yC yL yK hsb hd1 hL1b HWb HWbs
        obtain ⟨v1, hv1e⟩ : ∃ v1, Value.slice A1' L1' c1' = v1 := ⟨_, rfl⟩
        obtain ⟨Wc, hWc⟩ : ∃ Wc, w5.setCell ⟨g, 0, none⟩ (.slice A1' L1' c1') = Wc := ⟨_, rfl⟩
        have HWc := Lib.hid hWc
        rw [hWc, hv1e] at HN
        obtain ⟨Cq, hCq⟩ : ∃ Cq, Cq0 ++ [p - q] = Cq := ⟨_, rfl⟩
        obtain ⟨Kq, hKq⟩ : ∃ Kq, K - min p q = Kq := ⟨_, rfl⟩
        rw [hCq, hKq] at HN
        have HQQ := Lib.hid (And.intro hCq hKq)
        clear hWc hCq hKq hv1e
        go_wp2_with fail
        rw [HWc.out]
        clear HWc zC zL zK zF
        -- the second row
        obtain ⟨Av, cv, hv2, _, _⟩ := HN.out.q2.shape
        obtain ⟨Lq, hLqe⟩ : ∃ Lq, nls cs ls (vs.take j) = Lq := ⟨_, rfl⟩
        rw [hLqe] at HN hv2
        have HLq := Lib.hid hLqe
        obtain ⟨Lv, hLv⟩ : ∃ Lv, Lq.length = Lv := ⟨_, rfl⟩
        rw [hLv] at hv2
        have hLq : Lq.length ≤ 1000000 := by have h1 := (n_len cs ls (vs.take j)); rw [hLqe, List.length_take] at h1; omega
        clear hLqe hLv
        subst hv2
        have hcell : ∀ W, KG g base Wc W → W.cell? ⟨b2, o2 + j, none⟩ = some (.int .i64 x) := fun W hW => hW.cell hb2s hb2g (HN.out.kg.cell hb2s hb2g hx1)
        have HCell := Lib.hid hcell
        have hstart : KG g base Wc (World.drew Wc) := KG.drew
        have HN := Lib.hid (show NSt W4 (World.drew Wc) g base v1 (.slice Av Lv cv) Cq Lq Kq from ⟨HN.out.at', HN.out.q1, HN.out.q2, HN.out.dis, HN.out.kg.trans KG.drew, HN.out.bs, HN.out.gb⟩)
        have hwz : Wf (x) := ⟨by omega, by omega⟩
        clear hcell
        go_wp2_with fail
        refine wp_region_held_drew (S := fun W => KG g base Wc W) (by kernel_rfl) hstart (fun hHeld => ?_)
        clear hstart
        obtain ⟨Wd, hWd⟩ : ∃ Wd, World.drew Wc = Wd := ⟨_, rfl⟩
        rw [hWd] at hHeld HN ⊢
        clear hWd
        refine takeH_now (i := 0) (some 52) (v := ?_) rfl (by kernel_rfl) (by kernel_rfl) (by kernel_rfl) (fun _ _ _ h => h) (Or.inl ⟨by rfl, ?_⟩) rfl (by assumption) ?_
        rotate_left
        focus (intro w9 hS9; go_simp; try with_reducible rfl)
        try simp only [Act.put, List.setIfInBounds_toArray, List.set_cons_zero, List.set_cons_succ]
        refine takeH_now (i := 2) (some 54) (v := ?_) rfl (by kernel_rfl) (by kernel_rfl) (by kernel_rfl) (fun _ _ _ h => h) (Or.inl ⟨by rfl, ?_⟩) rfl (by assumption) ?_
        rotate_left
        focus (intro w9 hS9; go_simp; try with_reducible rfl)
        try simp only [Act.put, List.setIfInBounds_toArray, List.set_cons_zero, List.set_cons_succ]
        refine takeH_now (i := 3) (some 55) (v := ?_) rfl (by kernel_rfl) (by kernel_rfl) (by kernel_rfl) (fun _ _ _ h => h) (Or.inl ⟨by rfl, ?_⟩) rfl (by assumption) ?_
        rotate_left
        focus (intro w9 hS9; go_simp; try with_reducible rfl)
        try simp only [Act.put, List.setIfInBounds_toArray, List.set_cons_zero, List.set_cons_succ]
        refine takeH_now (i := 4) (some 56) (v := ?_) rfl (by kernel_rfl) (by kernel_rfl) (by kernel_rfl) (fun _ _ _ h => h) (Or.inl ⟨by rfl, ?_⟩) rfl (by assumption) ?_
        rotate_left
        focus (intro w9 hS9; go_simp; try with_reducible rfl)
        try simp only [Act.put, List.setIfInBounds_toArray, List.set_cons_zero, List.set_cons_succ]
        refine takeH_now (i := 5) (some 57) (v := ?_) rfl (by kernel_rfl) (by kernel_rfl) (by kernel_rfl) (fun _ _ _ h => h) (Or.inl ⟨by rfl, ?_⟩) rfl (by assumption) ?_
        rotate_left
        focus (intro w9 hS9; have eC := HCell.out w9 hS9; clear hS9; go_simp; try with_reducible rfl)
        try simp only [Act.put, List.setIfInBounds_toArray, List.set_cons_zero, List.set_cons_succ]
        refine wpAnyH_ready (rs := [1, 6]) (by kernel_rfl) (by simp) ?_
        refine AllReadyH.cons (o := { dst := some 53, op := Op.load 22 (Operand.tmp 52), type := 22, pos := "ref.go:105", after := #[{ on := 0, ground := Ground.data }], guard := none }) rfl (fun K' hK' => ?_) (AllReadyH.cons (o := { dst := some 58, op := Op.buildSlice 22 1 #[(0, Operand.tmp 57)], type := 22, pos := "ref.go:105", after := #[{ on := 5, ground := Ground.data }], guard := none }) rfl (fun K' hK' => ?_) AllReadyH.nil)
        · rw [if_pos (by kernel_rfl)]
          obtain ⟨_, xL, _⟩ := HN.out.at'.cells
          go_simp
          clear xL
          have hHa := hHeld
          clear hHeld
          refine hK'.out _ _ hHa (fun hHeld => ?_)
          clear hK' hHa
          try simp only [Act.put, List.setIfInBounds_toArray, List.set_cons_zero, List.set_cons_succ]
          refine wpAnyH_ready (rs := [6]) (by kernel_rfl) (by simp) ?_
          refine AllReadyH.cons (o := { dst := some 58, op := Op.buildSlice 22 1 #[(0, Operand.tmp 57)], type := 22, pos := "ref.go:105", after := #[{ on := 5, ground := Ground.data }], guard := none }) rfl (fun K' hK' => ?_) AllReadyH.nil
          rw [if_pos (by kernel_rfl)]
          go_simp
          obtain ⟨WA, hWA⟩ : ∃ X, X = World.alloc Wd (.cells #[.int .i64 (x)] 3) := ⟨_, rfl⟩
          have hcellA : WA.cell? ⟨Wd.heap.size, 0, none⟩ = some (.int .i64 (x)) := by rw [hWA, cell_of_row _ Wd.heap.size 0 _ 3 (0, 0) (heap_alloc_new Wd _)]; rfl
          have hb : Below Wd.heap.size Wd WA := by rw [hWA]; exact (Below.refl _ _).alloc (Nat.le_refl _) _
          have hszA : WA.heap.size = Wd.heap.size + 1 := by rw [hWA]; simp
          rw [← hWA]
          clear hWA
          have hHa : KG g base Wc WA := hHeld.trans (KG.of hb HN.out.bs HN.out.gb)
          have HN := Lib.hid (HN.out.step hb)
          clear hHeld
          refine hK'.out _ _ hHa (fun hHeld => ?_)
          clear hK' hHa
          try simp only [Act.put, List.setIfInBounds_toArray, List.set_cons_zero, List.set_cons_succ]
          refine wpAnyH_ready (rs := [7]) (by kernel_rfl) (by simp) ?_
          refine AllReadyH.cons (o := { dst := some 59, op := Op.call { callee := Callee.builtin Builtin.append, args := #[Operand.tmp 53, Operand.tmp 58], argTypes := #[22, 22] }, type := 22, pos := "ref.go:105", after := #[{ on := 1, ground := Ground.data }, { on := 6, ground := Ground.data }], guard := none }) rfl (fun K' hK' => ?_) AllReadyH.nil
          have hbA := HN.out.bs
          refine step_push rfl _ _ rfl base (.slice Av Lv cv) Lq rfl HN.out.q2 (x) hwz Wd.heap.size rfl hcellA hLq hbA ?_
          intro v9 w9 hq9 hg9 ho9
          obtain ⟨A9q, c9q, e9, _, _⟩ := hq9.shape
          obtain ⟨L9, hL9⟩ : ∃ L9, (Lq ++ [x]).length = L9 := ⟨_, rfl⟩
          rw [hL9] at e9
          clear hL9
          subst e9
          have hrow : ∀ k, (Value.slice Av Lv cv).ownBlock = some k → base ≤ k := fun k hk => (HN.out.q2.lt hk).1
          have hHa : KG g base Wc w9 := hHeld.trans (KG.grown hg9 hbA HN.out.gb (fun k hk => hrow k hk))
          have HP : Hid (LinAt w9 g v1 (.slice Av Lv cv) Kq 24 ∧ QI w9 base v1 Cq ∧ Dis2 v1 (.slice A9q L9 c9q) ∧ base ≤ w9.heap.size ∧ KG g base W4 w9 ∧ g < base) := Lib.hid (by
            have hgb := HN.out.gb
            have hsz := hg9.size
            refine ⟨(hg9.block g (by omega) (fun e => by have := hrow g e.symm; omega)).trans HN.out.at', HN.out.q1.same fun i hi => hg9.block i (HN.out.q1.lt hi).2 (fun e => HN.out.dis i ⟨hi, e.symm⟩), fun i hi => ?_, by omega, HN.out.kg.trans (KG.grown hg9 hbA hgb (fun k hk => hrow k hk)), hgb⟩
            rcases ho9 with q | q
            · exact HN.out.dis i ⟨hi.1, by rw [← q]; exact hi.2⟩
            · have a1 := q i hi.2
              have a2 := (HN.out.q1.lt hi.1).2
              omega)
          have HQ := Lib.hid hq9
          clear hHeld hq9 hg9 ho9 hbA hcellA hrow
          refine hK'.out _ _ hHa (fun hHeld => ?_)
          clear hK' hHa
          try simp only [Act.put, List.setIfInBounds_toArray, List.set_cons_zero, List.set_cons_succ]
          refine takeH_now (i := 8) (some 60) (v := ?_) rfl (by kernel_rfl) (by kernel_rfl) (by kernel_rfl) (fun _ _ _ h => h) (Or.inl ⟨by rfl, ?_⟩) rfl (by assumption) ?_
          rotate_left
          focus (intro w9 hS9; go_simp; try with_reducible rfl)
          try simp only [Act.put, List.setIfInBounds_toArray, List.set_cons_zero, List.set_cons_succ]
          refine wpAnyH_ready (rs := [9]) (by kernel_rfl) (by simp) ?_
          refine AllReadyH.cons (o := { dst := none, op := Op.store 22 (Operand.tmp 60) (Operand.tmp 59), type := 0, pos := "ref.go:105", after := #[{ on := 8, ground := Ground.data }, { on := 7, ground := Ground.data }, { on := 7, ground := Ground.chain }, { on := 0, ground := Ground.phase }, { on := 1, ground := Ground.phase }, { on := 2, ground := Ground.phase }, { on := 3, ground := Ground.phase }, { on := 4, ground := Ground.phase }, { on := 5, ground := Ground.phase }, { on := 6, ground := Ground.phase }, { on := 7, ground := Ground.phase }], guard := none }) rfl (fun K' hK' => ?_) AllReadyH.nil
          rw [if_pos (by kernel_rfl)]
          obtain ⟨_, xL, _⟩ := HP.out.1.cells
          have xF := HP.out.1.frozen 1
          go_simp
          clear xL xF
          have hHa : KG g base Wc (w9.setCell ⟨g, 1, none⟩ (.slice A9q L9 c9q)) := hHeld.trans (KG.set 1 _)
          clear hHeld
          refine hK'.out _ _ hHa (fun hHeld => ?_)
          clear hK' hHa
          try simp only [Act.put, List.setIfInBounds_toArray, List.set_cons_zero, List.set_cons_succ]
          refine wpAnyH_done (by kernel_rfl) ?_ _
          have HNew : Hid (NSt W4 (w9.setCell ⟨g, 1, none⟩ (.slice A9q L9 c9q)) g base v1 (.slice A9q L9 c9q) Cq (Lq ++ [x]) Kq) := Lib.hid ⟨HP.out.1.set1 _, HP.out.2.1.set HP.out.2.2.2.2.2, HQ.out.set HP.out.2.2.2.2.2, HP.out.2.2.1, HP.out.2.2.2.2.1.trans (KG.set 1 _), by have := HP.out.2.2.2.1; simpa using this, HP.out.2.2.2.2.2⟩
          clear hHeld HP HQ HN HCell
          obtain ⟨Wz, hWz⟩ : ∃ Wz, w9.setCell ⟨g, 1, none⟩ (.slice A9q L9 c9q) = Wz := ⟨_, rfl⟩
          rw [hWz] at HNew ⊢
          clear hWz
          have fin : Hid (NSt W4 Wz g base v1 (.slice A9q L9 c9q) (ncs cs ls (vs.take (j + 1))) (nls cs ls (vs.take (j + 1))) (k - nk cs ls (vs.take (j + 1)))) := Lib.hid (by
            have h := HNew.out
            rw [HE.out.1, HE.out.2.1, show k - nk cs ls (vs.take (j + 1)) = Kq by rw [HE.out.2.2.1, ← HQQ.out.2, ← HK.out]; omega, HQQ.out.1, HLq.out]
            exact h)
          have hsu : su (ncs cs ls (vs.take (j + 1))) = U + (p - q) := by rw [HE.out.2.2.2]; simp [su]
          have HSu := Lib.hid hsu
          clear HNew HE HQQ HLq hsu
          go_wp2_with fail
          go_roundw
          case rel => exact ⟨j + 1, _, _, by omega, by rw [HSu.out]; go_num, by go_num, fin⟩
          case measure => simp [intOf]; omega
        · rw [if_pos (by kernel_rfl)]
          go_simp
          obtain ⟨WA, hWA⟩ : ∃ X, X = World.alloc Wd (.cells #[.int .i64 (x)] 3) := ⟨_, rfl⟩
          have hcellA : WA.cell? ⟨Wd.heap.size, 0, none⟩ = some (.int .i64 (x)) := by rw [hWA, cell_of_row _ Wd.heap.size 0 _ 3 (0, 0) (heap_alloc_new Wd _)]; rfl
          have hb : Below Wd.heap.size Wd WA := by rw [hWA]; exact (Below.refl _ _).alloc (Nat.le_refl _) _
          have hszA : WA.heap.size = Wd.heap.size + 1 := by rw [hWA]; simp
          rw [← hWA]
          clear hWA
          have hHa : KG g base Wc WA := hHeld.trans (KG.of hb HN.out.bs HN.out.gb)
          have HN := Lib.hid (HN.out.step hb)
          clear hHeld
          refine hK'.out _ _ hHa (fun hHeld => ?_)
          clear hK' hHa
          try simp only [Act.put, List.setIfInBounds_toArray, List.set_cons_zero, List.set_cons_succ]
          refine wpAnyH_ready (rs := [1]) (by kernel_rfl) (by simp) ?_
          refine AllReadyH.cons (o := { dst := some 53, op := Op.load 22 (Operand.tmp 52), type := 22, pos := "ref.go:105", after := #[{ on := 0, ground := Ground.data }], guard := none }) rfl (fun K' hK' => ?_) AllReadyH.nil
          rw [if_pos (by kernel_rfl)]
          obtain ⟨_, xL, _⟩ := HN.out.at'.cells
          go_simp
          clear xL
          have hHa := hHeld
          clear hHeld
          refine hK'.out _ _ hHa (fun hHeld => ?_)
          clear hK' hHa
          try simp only [Act.put, List.setIfInBounds_toArray, List.set_cons_zero, List.set_cons_succ]
          refine wpAnyH_ready (rs := [7]) (by kernel_rfl) (by simp) ?_
          refine AllReadyH.cons (o := { dst := some 59, op := Op.call { callee := Callee.builtin Builtin.append, args := #[Operand.tmp 53, Operand.tmp 58], argTypes := #[22, 22] }, type := 22, pos := "ref.go:105", after := #[{ on := 1, ground := Ground.data }, { on := 6, ground := Ground.data }], guard := none }) rfl (fun K' hK' => ?_) AllReadyH.nil
          have hbA := HN.out.bs
          refine step_push rfl _ _ rfl base (.slice Av Lv cv) Lq rfl HN.out.q2 (x) hwz Wd.heap.size rfl hcellA hLq hbA ?_
          intro v9 w9 hq9 hg9 ho9
          obtain ⟨A9q, c9q, e9, _, _⟩ := hq9.shape
          obtain ⟨L9, hL9⟩ : ∃ L9, (Lq ++ [x]).length = L9 := ⟨_, rfl⟩
          rw [hL9] at e9
          clear hL9
          subst e9
          have hrow : ∀ k, (Value.slice Av Lv cv).ownBlock = some k → base ≤ k := fun k hk => (HN.out.q2.lt hk).1
          have hHa : KG g base Wc w9 := hHeld.trans (KG.grown hg9 hbA HN.out.gb (fun k hk => hrow k hk))
          have HP : Hid (LinAt w9 g v1 (.slice Av Lv cv) Kq 24 ∧ QI w9 base v1 Cq ∧ Dis2 v1 (.slice A9q L9 c9q) ∧ base ≤ w9.heap.size ∧ KG g base W4 w9 ∧ g < base) := Lib.hid (by
            have hgb := HN.out.gb
            have hsz := hg9.size
            refine ⟨(hg9.block g (by omega) (fun e => by have := hrow g e.symm; omega)).trans HN.out.at', HN.out.q1.same fun i hi => hg9.block i (HN.out.q1.lt hi).2 (fun e => HN.out.dis i ⟨hi, e.symm⟩), fun i hi => ?_, by omega, HN.out.kg.trans (KG.grown hg9 hbA hgb (fun k hk => hrow k hk)), hgb⟩
            rcases ho9 with q | q
            · exact HN.out.dis i ⟨hi.1, by rw [← q]; exact hi.2⟩
            · have a1 := q i hi.2
              have a2 := (HN.out.q1.lt hi.1).2
              omega)
          have HQ := Lib.hid hq9
          clear hHeld hq9 hg9 ho9 hbA hcellA hrow
          refine hK'.out _ _ hHa (fun hHeld => ?_)
          clear hK' hHa
          try simp only [Act.put, List.setIfInBounds_toArray, List.set_cons_zero, List.set_cons_succ]
          refine takeH_now (i := 8) (some 60) (v := ?_) rfl (by kernel_rfl) (by kernel_rfl) (by kernel_rfl) (fun _ _ _ h => h) (Or.inl ⟨by rfl, ?_⟩) rfl (by assumption) ?_
          rotate_left
          focus (intro w9 hS9; go_simp; try with_reducible rfl)
          try simp only [Act.put, List.setIfInBounds_toArray, List.set_cons_zero, List.set_cons_succ]
          refine wpAnyH_ready (rs := [9]) (by kernel_rfl) (by simp) ?_
          refine AllReadyH.cons (o := { dst := none, op := Op.store 22 (Operand.tmp 60) (Operand.tmp 59), type := 0, pos := "ref.go:105", after := #[{ on := 8, ground := Ground.data }, { on := 7, ground := Ground.data }, { on := 7, ground := Ground.chain }, { on := 0, ground := Ground.phase }, { on := 1, ground := Ground.phase }, { on := 2, ground := Ground.phase }, { on := 3, ground := Ground.phase }, { on := 4, ground := Ground.phase }, { on := 5, ground := Ground.phase }, { on := 6, ground := Ground.phase }, { on := 7, ground := Ground.phase }], guard := none }) rfl (fun K' hK' => ?_) AllReadyH.nil
          rw [if_pos (by kernel_rfl)]
          obtain ⟨_, xL, _⟩ := HP.out.1.cells
          have xF := HP.out.1.frozen 1
          go_simp
          clear xL xF
          have hHa : KG g base Wc (w9.setCell ⟨g, 1, none⟩ (.slice A9q L9 c9q)) := hHeld.trans (KG.set 1 _)
          clear hHeld
          refine hK'.out _ _ hHa (fun hHeld => ?_)
          clear hK' hHa
          try simp only [Act.put, List.setIfInBounds_toArray, List.set_cons_zero, List.set_cons_succ]
          refine wpAnyH_done (by kernel_rfl) ?_ _
          have HNew : Hid (NSt W4 (w9.setCell ⟨g, 1, none⟩ (.slice A9q L9 c9q)) g base v1 (.slice A9q L9 c9q) Cq (Lq ++ [x]) Kq) := Lib.hid ⟨HP.out.1.set1 _, HP.out.2.1.set HP.out.2.2.2.2.2, HQ.out.set HP.out.2.2.2.2.2, HP.out.2.2.1, HP.out.2.2.2.2.1.trans (KG.set 1 _), by have := HP.out.2.2.2.1; simpa using this, HP.out.2.2.2.2.2⟩
          clear hHeld HP HQ HN HCell
          obtain ⟨Wz, hWz⟩ : ∃ Wz, w9.setCell ⟨g, 1, none⟩ (.slice A9q L9 c9q) = Wz := ⟨_, rfl⟩
          rw [hWz] at HNew ⊢
          clear hWz
          have fin : Hid (NSt W4 Wz g base v1 (.slice A9q L9 c9q) (ncs cs ls (vs.take (j + 1))) (nls cs ls (vs.take (j + 1))) (k - nk cs ls (vs.take (j + 1)))) := Lib.hid (by
            have h := HNew.out
            rw [HE.out.1, HE.out.2.1, show k - nk cs ls (vs.take (j + 1)) = Kq by rw [HE.out.2.2.1, ← HQQ.out.2, ← HK.out]; omega, HQQ.out.1, HLq.out]
            exact h)
          have hsu : su (ncs cs ls (vs.take (j + 1))) = U + (p - q) := by rw [HE.out.2.2.2]; simp [su]
          have HSu := Lib.hid hsu
          clear HNew HE HQQ HLq hsu
          go_wp2_with fail
          go_roundw
          case rel => exact ⟨j + 1, _, _, by omega, by rw [HSu.out]; go_num, by go_num, fin⟩
          case measure => simp [intOf]; omega
      · -- nothing is added
        have eC : vC p q = [] := by unfold vC; rw [if_neg (by omega), if_neg (by omega)]
        have eL : vL x p q = [] := by unfold vL; rw [if_neg (by omega), if_neg (by omega)]
        have hpq : q = p := h
        rw [eC, List.append_nil] at e1
        rw [eL, List.append_nil] at e2
        rw [eC] at hsu
        have hmm : min p q = p := by omega
        rw [hmm] at e3
        have HE := Lib.hid (And.intro e1 (And.intro e2 (And.intro e3 hsu)))
        subst hpq
        have HNew := Lib.hid (HN.out.setk (K - q))
        obtain ⟨xC, xL, xK⟩ := HN.out.at'.cells
        have xF := HN.out.at'.frozen 2
        clear e1 e2 e3 hsu eC eL hmm HN
        go_wp2_with fail
        go_roundw
        case rel => exact ⟨j + 1, _, _, by omega, by rw [HE.out.2.2.2]; simp [su], by go_num, Lib.hid (by
          have h := HNew.out
          rw [HE.out.1, HE.out.2.1, show k - nk cs ls (vs.take (j + 1)) = K - q by rw [HE.out.2.2.1, ← HK.out]; omega]
          exact h)⟩
        case measure => simp [intOf]; omega
      · have HN0 := HN
        -- a term is added
        have eC : vC p q = [q - p] := by unfold vC; rw [if_neg (by omega), if_pos h]
        have eL : vL x p q = [-x] := by unfold vL; rw [if_neg (by omega), if_pos h]
        rw [eC] at e1
        rw [eL] at e2
        rw [eC] at hsu
        have HE := Lib.hid (And.intro e1 (And.intro e2 (And.intro e3 hsu)))
        have HN := Lib.hid (HN.out.setk (K - min p q))
        obtain ⟨xC, xL, xK⟩ := HN0.out.at'.cells
        have xF := HN0.out.at'.frozen 2
        obtain ⟨yC, yL, yK⟩ := HN.out.at'.cells
        obtain ⟨A1, c1, hv1, _, _⟩ := HN.out.q1.shape
        obtain ⟨Cq0, hCq0⟩ : ∃ Cq0, ncs cs ls (vs.take j) = Cq0 := ⟨_, rfl⟩
        rw [hCq0] at HN hv1 HE
        obtain ⟨L1, hL1⟩ : ∃ L1, Cq0.length = L1 := ⟨_, rfl⟩
        rw [hL1] at hv1
        have hL1b : Cq0.length ≤ 1000000 := by have h1 := (n_len cs ls (vs.take j)); rw [hCq0, List.length_take] at h1; omega
        have hd1 : Wf (q - p) := ⟨by omega, by omega⟩
        subst hv1
        clear e1 e2 e3 hsu eC eL hCq0 hL1 HN0
        obtain ⟨Wb, hWb⟩ : ∃ Wb, wa.setCell ⟨g, 2, none⟩ (.int .i64 (K - min p q)) = Wb := ⟨_, rfl⟩
        rw [hWb] at HN
        have HWb := Lib.hid hWb
        have HWbs := Lib.hid (show Wb.heap.size = wa.heap.size by rw [← hWb]; simp)
        have hsb := HN.out.bs
        rw [hWb] at yC yL yK
        rw [← HWb.out] at yC yL yK
        have g5 : decide (q > p) = true := decide_eq_true (by omega)
        have g6 : decide (p < q) = true := decide_eq_true (by omega)
        have g7 : decide (q < p) = false := decide_eq_false (by omega)
        clear hWb
        go_wp2_with (at_builtin; rw [HWb.out]; refine push_q2' rfl _ _ rfl base (.slice A1 L1 c1) v2 Cq0 (nls cs ls (vs.take j)) rfl HN.out.q1 HN.out.q2 HN.out.dis (q - p) hd1 (by rw [HWbs.out]; rfl) hL1b hsb ?_)
        intro v1 w5 hq1 hq2 hd12 low5 hs5
        obtain ⟨A1', c1', hv1', _, _⟩ := hq1.shape
        obtain ⟨L1', hL1'⟩ : ∃ L1', (Cq0 ++ [q - p]).length = L1' := ⟨_, rfl⟩
        rw [hL1'] at hv1'
        subst hv1'
        have hat5 := (low5.block g HN.out.gb).trans HN.out.at'
        have hat5 : LinAt w5 g (.slice A1 L1 c1) v2 (K - min p q) 24 := hat5
        obtain ⟨zC, zL, zK⟩ := hat5.cells
        have zF := hat5.frozen 0
        have HN := Lib.hid (HN.out.push1 hq1 hq2 hd12 low5 hs5)
        clear hq1 hq2 hd12 low5 hs5 hat5 hL1' xC xL xK xF yC yL yK hsb hd1 hL1b HWb HWbs
        obtain ⟨v1, hv1e⟩ : ∃ v1, Value.slice A1' L1' c1' = v1 := ⟨_, rfl⟩
        obtain ⟨Wc, hWc⟩ : ∃ Wc, w5.setCell ⟨g, 0, none⟩ (.slice A1' L1' c1') = Wc := ⟨_, rfl⟩
        have HWc := Lib.hid hWc
        rw [hWc, hv1e] at HN
        obtain ⟨Cq, hCq⟩ : ∃ Cq, Cq0 ++ [q - p] = Cq := ⟨_, rfl⟩
        obtain ⟨Kq, hKq⟩ : ∃ Kq, K - min p q = Kq := ⟨_, rfl⟩
        rw [hCq, hKq] at HN
        have HQQ := Lib.hid (And.intro hCq hKq)
        clear hWc hCq hKq hv1e
        go_wp2_with fail
        rw [HWc.out]
        clear HWc zC zL zK zF
        -- the second row
        obtain ⟨Av, cv, hv2, _, _⟩ := HN.out.q2.shape
        obtain ⟨Lq, hLqe⟩ : ∃ Lq, nls cs ls (vs.take j) = Lq := ⟨_, rfl⟩
        rw [hLqe] at HN hv2
        have HLq := Lib.hid hLqe
        obtain ⟨Lv, hLv⟩ : ∃ Lv, Lq.length = Lv := ⟨_, rfl⟩
        rw [hLv] at hv2
        have hLq : Lq.length ≤ 1000000 := by have h1 := (n_len cs ls (vs.take j)); rw [hLqe, List.length_take] at h1; omega
        clear hLqe hLv
        subst hv2
        have hcell : ∀ W, KG g base Wc W → W.cell? ⟨b2, o2 + j, none⟩ = some (.int .i64 x) := fun W hW => hW.cell hb2s hb2g (HN.out.kg.cell hb2s hb2g hx1)
        have HCell := Lib.hid hcell
        have hstart : KG g base Wc (World.drew Wc) := KG.drew
        have HN := Lib.hid (show NSt W4 (World.drew Wc) g base v1 (.slice Av Lv cv) Cq Lq Kq from ⟨HN.out.at', HN.out.q1, HN.out.q2, HN.out.dis, HN.out.kg.trans KG.drew, HN.out.bs, HN.out.gb⟩)
        have hwz : Wf (-x) := ⟨by omega, by omega⟩
        have hneg : wrap64 (-x) = -x := IntWalk.wrap64_in _ (by omega)
        have hneg2 : IntKind.i64.wrap (-x) = -x := by rw [IntWalk.i64_left]; exact hneg
        have hneg3 : (0 : Int) - x = -x := by omega
        clear hcell
        go_wp2_with fail
        refine wp_region_held_drew (S := fun W => KG g base Wc W) (by kernel_rfl) hstart (fun hHeld => ?_)
        clear hstart
        obtain ⟨Wd, hWd⟩ : ∃ Wd, World.drew Wc = Wd := ⟨_, rfl⟩
        rw [hWd] at hHeld HN ⊢
        clear hWd
        refine takeH_now (i := 0) (some 72) (v := ?_) rfl (by kernel_rfl) (by kernel_rfl) (by kernel_rfl) (fun _ _ _ h => h) (Or.inl ⟨by rfl, ?_⟩) rfl (by assumption) ?_
        rotate_left
        focus (intro w9 hS9; go_simp; try with_reducible rfl)
        try simp only [Act.put, List.setIfInBounds_toArray, List.set_cons_zero, List.set_cons_succ]
        refine takeH_now (i := 2) (some 74) (v := ?_) rfl (by kernel_rfl) (by kernel_rfl) (by kernel_rfl) (fun _ _ _ h => h) (Or.inl ⟨by rfl, ?_⟩) rfl (by assumption) ?_
        rotate_left
        focus (intro w9 hS9; go_simp; try with_reducible rfl)
        try simp only [Act.put, List.setIfInBounds_toArray, List.set_cons_zero, List.set_cons_succ]
        refine takeH_now (i := 3) (some 75) (v := ?_) rfl (by kernel_rfl) (by kernel_rfl) (by kernel_rfl) (fun _ _ _ h => h) (Or.inl ⟨by rfl, ?_⟩) rfl (by assumption) ?_
        rotate_left
        focus (intro w9 hS9; go_simp; try with_reducible rfl)
        try simp only [Act.put, List.setIfInBounds_toArray, List.set_cons_zero, List.set_cons_succ]
        refine takeH_now (i := 4) (some 76) (v := ?_) rfl (by kernel_rfl) (by kernel_rfl) (by kernel_rfl) (fun _ _ _ h => h) (Or.inl ⟨by rfl, ?_⟩) rfl (by assumption) ?_
        rotate_left
        focus (intro w9 hS9; go_simp; try with_reducible rfl)
        try simp only [Act.put, List.setIfInBounds_toArray, List.set_cons_zero, List.set_cons_succ]
        refine takeH_now (i := 5) (some 77) (v := ?_) rfl (by kernel_rfl) (by kernel_rfl) (by kernel_rfl) (fun _ _ _ h => h) (Or.inl ⟨by rfl, ?_⟩) rfl (by assumption) ?_
        rotate_left
        focus (intro w9 hS9; have eC := HCell.out w9 hS9; clear hS9; go_simp; try with_reducible rfl)
        try simp only [Act.put, List.setIfInBounds_toArray, List.set_cons_zero, List.set_cons_succ]
        refine takeH_now (i := 6) (some 78) (v := ?_) rfl (by kernel_rfl) (by kernel_rfl) (by kernel_rfl) (fun _ _ _ h => h) (Or.inl ⟨by rfl, ?_⟩) rfl (by assumption) ?_
        rotate_left
        focus (intro w9 hS9; go_simp; try with_reducible rfl)
        try simp only [Act.put, List.setIfInBounds_toArray, List.set_cons_zero, List.set_cons_succ]
        refine wpAnyH_ready (rs := [1, 7]) (by kernel_rfl) (by simp) ?_
        refine AllReadyH.cons (o := { dst := some 73, op := Op.load 22 (Operand.tmp 72), type := 22, pos := "ref.go:109", after := #[{ on := 0, ground := Ground.data }], guard := none }) rfl (fun K' hK' => ?_) (AllReadyH.cons (o := { dst := some 79, op := Op.buildSlice 22 1 #[(0, Operand.tmp 78)], type := 22, pos := "ref.go:109", after := #[{ on := 6, ground := Ground.data }], guard := none }) rfl (fun K' hK' => ?_) AllReadyH.nil)
        · rw [if_pos (by kernel_rfl)]
          obtain ⟨_, xL, _⟩ := HN.out.at'.cells
          go_simp
          clear xL
          have hHa := hHeld
          clear hHeld
          refine hK'.out _ _ hHa (fun hHeld => ?_)
          clear hK' hHa
          try simp only [Act.put, List.setIfInBounds_toArray, List.set_cons_zero, List.set_cons_succ]
          refine wpAnyH_ready (rs := [7]) (by kernel_rfl) (by simp) ?_
          refine AllReadyH.cons (o := { dst := some 79, op := Op.buildSlice 22 1 #[(0, Operand.tmp 78)], type := 22, pos := "ref.go:109", after := #[{ on := 6, ground := Ground.data }], guard := none }) rfl (fun K' hK' => ?_) AllReadyH.nil
          rw [if_pos (by kernel_rfl)]
          go_simp
          obtain ⟨WA, hWA⟩ : ∃ X, X = World.alloc Wd (.cells #[.int .i64 (-x)] 3) := ⟨_, rfl⟩
          have hcellA : WA.cell? ⟨Wd.heap.size, 0, none⟩ = some (.int .i64 (-x)) := by rw [hWA, cell_of_row _ Wd.heap.size 0 _ 3 (0, 0) (heap_alloc_new Wd _)]; rfl
          have hb : Below Wd.heap.size Wd WA := by rw [hWA]; exact (Below.refl _ _).alloc (Nat.le_refl _) _
          have hszA : WA.heap.size = Wd.heap.size + 1 := by rw [hWA]; simp
          rw [← hWA]
          clear hWA
          have hHa : KG g base Wc WA := hHeld.trans (KG.of hb HN.out.bs HN.out.gb)
          have HN := Lib.hid (HN.out.step hb)
          clear hHeld
          refine hK'.out _ _ hHa (fun hHeld => ?_)
          clear hK' hHa
          try simp only [Act.put, List.setIfInBounds_toArray, List.set_cons_zero, List.set_cons_succ]
          refine wpAnyH_ready (rs := [8]) (by kernel_rfl) (by simp) ?_
          refine AllReadyH.cons (o := { dst := some 80, op := Op.call { callee := Callee.builtin Builtin.append, args := #[Operand.tmp 73, Operand.tmp 79], argTypes := #[22, 22] }, type := 22, pos := "ref.go:109", after := #[{ on := 1, ground := Ground.data }, { on := 7, ground := Ground.data }], guard := none }) rfl (fun K' hK' => ?_) AllReadyH.nil
          have hbA := HN.out.bs
          refine step_push rfl _ _ rfl base (.slice Av Lv cv) Lq rfl HN.out.q2 (-x) hwz Wd.heap.size rfl hcellA hLq hbA ?_
          intro v9 w9 hq9 hg9 ho9
          obtain ⟨A9q, c9q, e9, _, _⟩ := hq9.shape
          obtain ⟨L9, hL9⟩ : ∃ L9, (Lq ++ [-x]).length = L9 := ⟨_, rfl⟩
          rw [hL9] at e9
          clear hL9
          subst e9
          have hrow : ∀ k, (Value.slice Av Lv cv).ownBlock = some k → base ≤ k := fun k hk => (HN.out.q2.lt hk).1
          have hHa : KG g base Wc w9 := hHeld.trans (KG.grown hg9 hbA HN.out.gb (fun k hk => hrow k hk))
          have HP : Hid (LinAt w9 g v1 (.slice Av Lv cv) Kq 24 ∧ QI w9 base v1 Cq ∧ Dis2 v1 (.slice A9q L9 c9q) ∧ base ≤ w9.heap.size ∧ KG g base W4 w9 ∧ g < base) := Lib.hid (by
            have hgb := HN.out.gb
            have hsz := hg9.size
            refine ⟨(hg9.block g (by omega) (fun e => by have := hrow g e.symm; omega)).trans HN.out.at', HN.out.q1.same fun i hi => hg9.block i (HN.out.q1.lt hi).2 (fun e => HN.out.dis i ⟨hi, e.symm⟩), fun i hi => ?_, by omega, HN.out.kg.trans (KG.grown hg9 hbA hgb (fun k hk => hrow k hk)), hgb⟩
            rcases ho9 with q | q
            · exact HN.out.dis i ⟨hi.1, by rw [← q]; exact hi.2⟩
            · have a1 := q i hi.2
              have a2 := (HN.out.q1.lt hi.1).2
              omega)
          have HQ := Lib.hid hq9
          clear hHeld hq9 hg9 ho9 hbA hcellA hrow
          refine hK'.out _ _ hHa (fun hHeld => ?_)
          clear hK' hHa
          try simp only [Act.put, List.setIfInBounds_toArray, List.set_cons_zero, List.set_cons_succ]
          refine takeH_now (i := 9) (some 81) (v := ?_) rfl (by kernel_rfl) (by kernel_rfl) (by kernel_rfl) (fun _ _ _ h => h) (Or.inl ⟨by rfl, ?_⟩) rfl (by assumption) ?_
          rotate_left
          focus (intro w9 hS9; go_simp; try with_reducible rfl)
          try simp only [Act.put, List.setIfInBounds_toArray, List.set_cons_zero, List.set_cons_succ]
          refine wpAnyH_ready (rs := [10]) (by kernel_rfl) (by simp) ?_
          refine AllReadyH.cons (o := { dst := none, op := Op.store 22 (Operand.tmp 81) (Operand.tmp 80), type := 0, pos := "ref.go:109", after := #[{ on := 9, ground := Ground.data }, { on := 8, ground := Ground.data }, { on := 8, ground := Ground.chain }, { on := 0, ground := Ground.phase }, { on := 1, ground := Ground.phase }, { on := 2, ground := Ground.phase }, { on := 3, ground := Ground.phase }, { on := 4, ground := Ground.phase }, { on := 5, ground := Ground.phase }, { on := 6, ground := Ground.phase }, { on := 7, ground := Ground.phase }, { on := 8, ground := Ground.phase }], guard := none }) rfl (fun K' hK' => ?_) AllReadyH.nil
          rw [if_pos (by kernel_rfl)]
          obtain ⟨_, xL, _⟩ := HP.out.1.cells
          have xF := HP.out.1.frozen 1
          go_simp
          clear xL xF
          have hHa : KG g base Wc (w9.setCell ⟨g, 1, none⟩ (.slice A9q L9 c9q)) := hHeld.trans (KG.set 1 _)
          clear hHeld
          refine hK'.out _ _ hHa (fun hHeld => ?_)
          clear hK' hHa
          try simp only [Act.put, List.setIfInBounds_toArray, List.set_cons_zero, List.set_cons_succ]
          refine wpAnyH_done (by kernel_rfl) ?_ _
          have HNew : Hid (NSt W4 (w9.setCell ⟨g, 1, none⟩ (.slice A9q L9 c9q)) g base v1 (.slice A9q L9 c9q) Cq (Lq ++ [-x]) Kq) := Lib.hid ⟨HP.out.1.set1 _, HP.out.2.1.set HP.out.2.2.2.2.2, HQ.out.set HP.out.2.2.2.2.2, HP.out.2.2.1, HP.out.2.2.2.2.1.trans (KG.set 1 _), by have := HP.out.2.2.2.1; simpa using this, HP.out.2.2.2.2.2⟩
          clear hHeld HP HQ HN HCell
          obtain ⟨Wz, hWz⟩ : ∃ Wz, w9.setCell ⟨g, 1, none⟩ (.slice A9q L9 c9q) = Wz := ⟨_, rfl⟩
          rw [hWz] at HNew ⊢
          clear hWz
          have fin : Hid (NSt W4 Wz g base v1 (.slice A9q L9 c9q) (ncs cs ls (vs.take (j + 1))) (nls cs ls (vs.take (j + 1))) (k - nk cs ls (vs.take (j + 1)))) := Lib.hid (by
            have h := HNew.out
            rw [HE.out.1, HE.out.2.1, show k - nk cs ls (vs.take (j + 1)) = Kq by rw [HE.out.2.2.1, ← HQQ.out.2, ← HK.out]; omega, HQQ.out.1, HLq.out]
            exact h)
          have hsu : su (ncs cs ls (vs.take (j + 1))) = U + (q - p) := by rw [HE.out.2.2.2]; simp [su]
          have HSu := Lib.hid hsu
          clear HNew HE HQQ HLq hsu
          go_wp2_with fail
          go_roundw
          case rel => exact ⟨j + 1, _, _, by omega, by rw [HSu.out]; go_num, by go_num, fin⟩
          case measure => simp [intOf]; omega
        · rw [if_pos (by kernel_rfl)]
          go_simp
          obtain ⟨WA, hWA⟩ : ∃ X, X = World.alloc Wd (.cells #[.int .i64 (-x)] 3) := ⟨_, rfl⟩
          have hcellA : WA.cell? ⟨Wd.heap.size, 0, none⟩ = some (.int .i64 (-x)) := by rw [hWA, cell_of_row _ Wd.heap.size 0 _ 3 (0, 0) (heap_alloc_new Wd _)]; rfl
          have hb : Below Wd.heap.size Wd WA := by rw [hWA]; exact (Below.refl _ _).alloc (Nat.le_refl _) _
          have hszA : WA.heap.size = Wd.heap.size + 1 := by rw [hWA]; simp
          rw [← hWA]
          clear hWA
          have hHa : KG g base Wc WA := hHeld.trans (KG.of hb HN.out.bs HN.out.gb)
          have HN := Lib.hid (HN.out.step hb)
          clear hHeld
          refine hK'.out _ _ hHa (fun hHeld => ?_)
          clear hK' hHa
          try simp only [Act.put, List.setIfInBounds_toArray, List.set_cons_zero, List.set_cons_succ]
          refine wpAnyH_ready (rs := [1]) (by kernel_rfl) (by simp) ?_
          refine AllReadyH.cons (o := { dst := some 73, op := Op.load 22 (Operand.tmp 72), type := 22, pos := "ref.go:109", after := #[{ on := 0, ground := Ground.data }], guard := none }) rfl (fun K' hK' => ?_) AllReadyH.nil
          rw [if_pos (by kernel_rfl)]
          obtain ⟨_, xL, _⟩ := HN.out.at'.cells
          go_simp
          clear xL
          have hHa := hHeld
          clear hHeld
          refine hK'.out _ _ hHa (fun hHeld => ?_)
          clear hK' hHa
          try simp only [Act.put, List.setIfInBounds_toArray, List.set_cons_zero, List.set_cons_succ]
          refine wpAnyH_ready (rs := [8]) (by kernel_rfl) (by simp) ?_
          refine AllReadyH.cons (o := { dst := some 80, op := Op.call { callee := Callee.builtin Builtin.append, args := #[Operand.tmp 73, Operand.tmp 79], argTypes := #[22, 22] }, type := 22, pos := "ref.go:109", after := #[{ on := 1, ground := Ground.data }, { on := 7, ground := Ground.data }], guard := none }) rfl (fun K' hK' => ?_) AllReadyH.nil
          have hbA := HN.out.bs
          refine step_push rfl _ _ rfl base (.slice Av Lv cv) Lq rfl HN.out.q2 (-x) hwz Wd.heap.size rfl hcellA hLq hbA ?_
          intro v9 w9 hq9 hg9 ho9
          obtain ⟨A9q, c9q, e9, _, _⟩ := hq9.shape
          obtain ⟨L9, hL9⟩ : ∃ L9, (Lq ++ [-x]).length = L9 := ⟨_, rfl⟩
          rw [hL9] at e9
          clear hL9
          subst e9
          have hrow : ∀ k, (Value.slice Av Lv cv).ownBlock = some k → base ≤ k := fun k hk => (HN.out.q2.lt hk).1
          have hHa : KG g base Wc w9 := hHeld.trans (KG.grown hg9 hbA HN.out.gb (fun k hk => hrow k hk))
          have HP : Hid (LinAt w9 g v1 (.slice Av Lv cv) Kq 24 ∧ QI w9 base v1 Cq ∧ Dis2 v1 (.slice A9q L9 c9q) ∧ base ≤ w9.heap.size ∧ KG g base W4 w9 ∧ g < base) := Lib.hid (by
            have hgb := HN.out.gb
            have hsz := hg9.size
            refine ⟨(hg9.block g (by omega) (fun e => by have := hrow g e.symm; omega)).trans HN.out.at', HN.out.q1.same fun i hi => hg9.block i (HN.out.q1.lt hi).2 (fun e => HN.out.dis i ⟨hi, e.symm⟩), fun i hi => ?_, by omega, HN.out.kg.trans (KG.grown hg9 hbA hgb (fun k hk => hrow k hk)), hgb⟩
            rcases ho9 with q | q
            · exact HN.out.dis i ⟨hi.1, by rw [← q]; exact hi.2⟩
            · have a1 := q i hi.2
              have a2 := (HN.out.q1.lt hi.1).2
              omega)
          have HQ := Lib.hid hq9
          clear hHeld hq9 hg9 ho9 hbA hcellA hrow
          refine hK'.out _ _ hHa (fun hHeld => ?_)
          clear hK' hHa
          try simp only [Act.put, List.setIfInBounds_toArray, List.set_cons_zero, List.set_cons_succ]
          refine takeH_now (i := 9) (some 81) (v := ?_) rfl (by kernel_rfl) (by kernel_rfl) (by kernel_rfl) (fun _ _ _ h => h) (Or.inl ⟨by rfl, ?_⟩) rfl (by assumption) ?_
          rotate_left
          focus (intro w9 hS9; go_simp; try with_reducible rfl)
          try simp only [Act.put, List.setIfInBounds_toArray, List.set_cons_zero, List.set_cons_succ]
          refine wpAnyH_ready (rs := [10]) (by kernel_rfl) (by simp) ?_
          refine AllReadyH.cons (o := { dst := none, op := Op.store 22 (Operand.tmp 81) (Operand.tmp 80), type := 0, pos := "ref.go:109", after := #[{ on := 9, ground := Ground.data }, { on := 8, ground := Ground.data }, { on := 8, ground := Ground.chain }, { on := 0, ground := Ground.phase }, { on := 1, ground := Ground.phase }, { on := 2, ground := Ground.phase }, { on := 3, ground := Ground.phase }, { on := 4, ground := Ground.phase }, { on := 5, ground := Ground.phase }, { on := 6, ground := Ground.phase }, { on := 7, ground := Ground.phase }, { on := 8, ground := Ground.phase }], guard := none }) rfl (fun K' hK' => ?_) AllReadyH.nil
          rw [if_pos (by kernel_rfl)]
          obtain ⟨_, xL, _⟩ := HP.out.1.cells
          have xF := HP.out.1.frozen 1
          go_simp
          clear xL xF
          have hHa : KG g base Wc (w9.setCell ⟨g, 1, none⟩ (.slice A9q L9 c9q)) := hHeld.trans (KG.set 1 _)
          clear hHeld
          refine hK'.out _ _ hHa (fun hHeld => ?_)
          clear hK' hHa
          try simp only [Act.put, List.setIfInBounds_toArray, List.set_cons_zero, List.set_cons_succ]
          refine wpAnyH_done (by kernel_rfl) ?_ _
          have HNew : Hid (NSt W4 (w9.setCell ⟨g, 1, none⟩ (.slice A9q L9 c9q)) g base v1 (.slice A9q L9 c9q) Cq (Lq ++ [-x]) Kq) := Lib.hid ⟨HP.out.1.set1 _, HP.out.2.1.set HP.out.2.2.2.2.2, HQ.out.set HP.out.2.2.2.2.2, HP.out.2.2.1, HP.out.2.2.2.2.1.trans (KG.set 1 _), by have := HP.out.2.2.2.1; simpa using this, HP.out.2.2.2.2.2⟩
          clear hHeld HP HQ HN HCell
          obtain ⟨Wz, hWz⟩ : ∃ Wz, w9.setCell ⟨g, 1, none⟩ (.slice A9q L9 c9q) = Wz := ⟨_, rfl⟩
          rw [hWz] at HNew ⊢
          clear hWz
          have fin : Hid (NSt W4 Wz g base v1 (.slice A9q L9 c9q) (ncs cs ls (vs.take (j + 1))) (nls cs ls (vs.take (j + 1))) (k - nk cs ls (vs.take (j + 1)))) := Lib.hid (by
            have h := HNew.out
            rw [HE.out.1, HE.out.2.1, show k - nk cs ls (vs.take (j + 1)) = Kq by rw [HE.out.2.2.1, ← HQQ.out.2, ← HK.out]; omega, HQQ.out.1, HLq.out]
            exact h)
          have hsu : su (ncs cs ls (vs.take (j + 1))) = U + (q - p) := by rw [HE.out.2.2.2]; simp [su]
          have HSu := Lib.hid hsu
          clear HNew HE HQQ HLq hsu
          go_wp2_with fail
          go_roundw
          case rel => exact ⟨j + 1, _, _, by omega, by rw [HSu.out]; go_num, by go_num, fin⟩
          case measure => simp [intOf]; omega
    · obtain rfl : j = LV := by omega
      have hall : vs.take j = vs := List.take_of_length_le (by have := HV4.out.2.1; omega)
      rw [hall] at HN hkb hsub hnl ⊢
      have hcb := ncs_bound cs ls 70368744177664 htb vs
      obtain ⟨C, hC⟩ : ∃ C, ncs cs ls vs = C := ⟨_, rfl⟩
      obtain ⟨L, hL⟩ : ∃ L, nls cs ls vs = L := ⟨_, rfl⟩
      obtain ⟨K, hK⟩ : ∃ K, k - nk cs ls vs = K := ⟨_, rfl⟩
      obtain ⟨U, hU⟩ : ∃ U, su C = U := ⟨_, rfl⟩
      have hKb : -9007199254740992 ≤ K ∧ K ≤ 9007199254740992 := by omega
      rw [hC, hL, hK] at HN
      rw [hC] at hcb hsub hnl ⊢
      rw [hL] at hnl
      rw [hU] at hsub ⊢
      have HD := Lib.hid (show nC cs ls k = satC C K ∧ nL cs ls k = satL C L K ∧ nK cs ls k = satK C K by unfold nC nL nK; rw [HV4.out.2.2.1, hC, hL, hK]; exact ⟨rfl, rfl, rfl⟩)
      have HCb := Lib.hid (And.intro hcb (And.intro hnl hU))
      have hres : LinAt wr (w.heap.size + 1) (.slice Option.none 0 0) (.slice Option.none 0 0) 0 24 := (HN.out.kg.2 _ (by omega) (by omega)).trans H4.out.2.1
      have hloww : Below w.heap.size w wr := H4.out.2.2.2.trans (HN.out.kg.1.mono (by omega))
      obtain ⟨xC, xL, xK⟩ := HN.out.at'.cells
      have hMn : C.length ≤ 64 := by omega
      clear hall hC hL hK hU hcb hkb hsub hnl hk0 htb hatr
      by_cases hK0 : K ≤ 0
      · obtain ⟨s0, s1, s2, f0, f1, f2, hfin⟩ := lin_store hres (.slice Option.none 0 0) (.slice Option.none 0 0) 0
        have lowf := low_store hloww (show w.heap.size ≤ w.heap.size + 1 by omega) (.slice Option.none 0 0) (.slice Option.none 0 0) (.int .i64 0)
        have f5 : decide (K ≤ 0) = true := decide_eq_true hK0
        have HFI := Lib.hid hfin
        have hz : nC cs ls k = [] ∧ nL cs ls k = [] ∧ nK cs ls k = 0 := by
          obtain ⟨d1, d2, d3⟩ := HD.out
          rw [d1, d2, d3]
          unfold satC satL satK
          rw [if_pos hK0, if_pos hK0, if_pos hK0]
          exact ⟨rfl, rfl, rfl⟩
        have HZ := Lib.hid (And.intro hz lowf)
        clear hfin hres hloww lowf hz HN HD HCb
        go_wp2_with fail
        refine bodyPost_ret (results_cell_row rfl _ _ (w.heap.size + 1) 24 _ (0, 0) _ rfl HFI.out rfl rfl rfl) rfl ?_
        obtain ⟨⟨z1, z2, z3⟩, hl⟩ := HZ.out
        exact ⟨Option.none, 0, Option.none, 0, by rw [z1, z2, z3]; rfl, by rw [z1]; exact RdI.nil _ _ _, by rw [z2]; exact RdI.nil _ _ _, fun _ => rfl, fun _ => rfl, hl⟩
      · have f5 : decide (K ≤ 0) = false := decide_eq_false hK0
        by_cases hU0 : U < K
        · obtain ⟨s0, s1, s2, f0, f1, f2, hfin⟩ := lin_store hres (.slice Option.none 0 0) (.slice Option.none 0 0) 1
          have lowf := low_store hloww (show w.heap.size ≤ w.heap.size + 1 by omega) (.slice Option.none 0 0) (.slice Option.none 0 0) (.int .i64 1)
          have f6 : decide (U < K) = true := decide_eq_true hU0
          have HFI := Lib.hid hfin
          have hz : nC cs ls k = [] ∧ nL cs ls k = [] ∧ nK cs ls k = 1 := by
            obtain ⟨d1, d2, d3⟩ := HD.out
            have hU := HCb.out.2.2
            rw [d1, d2, d3]
            unfold satC satL satK
            rw [if_neg hK0, if_neg hK0, if_neg hK0, if_pos (by omega), if_pos (by omega), if_pos (by omega)]
            exact ⟨rfl, rfl, rfl⟩
          have HZ := Lib.hid (And.intro hz lowf)
          clear hfin hres hloww lowf hz HN HD HCb
          go_wp2_with fail
          refine bodyPost_ret (results_cell_row rfl _ _ (w.heap.size + 1) 24 _ (0, 0) _ rfl HFI.out rfl rfl rfl) rfl ?_
          obtain ⟨⟨z1, z2, z3⟩, hl⟩ := HZ.out
          exact ⟨Option.none, 0, Option.none, 0, by rw [z1, z2, z3]; rfl, by rw [z1]; exact RdI.nil _ _ _, by rw [z2]; exact RdI.nil _ _ _, fun _ => rfl, fun _ => rfl, hl⟩
        · have f6 : decide (U < K) = false := decide_eq_false hU0
          have hz : nC cs ls k = mn C K ∧ nL cs ls k = L ∧ nK cs ls k = K := by
            obtain ⟨d1, d2, d3⟩ := HD.out
            have hU := HCb.out.2.2
            rw [d1, d2, d3]
            unfold satC satL satK
            rw [if_neg hK0, if_neg hK0, if_neg hK0, if_neg (by omega), if_neg (by omega), if_neg (by omega)]
            exact ⟨rfl, rfl, rfl⟩
          have HZ := Lib.hid hz
          obtain ⟨A1, c1, hv1, hcap1, _⟩ := HN.out.q1.shape
          obtain ⟨A2, c2, hv2, _, _⟩ := HN.out.q2.shape
          obtain ⟨M, hM⟩ : ∃ M, C.length = M := ⟨_, rfl⟩
          obtain ⟨M2, hM2⟩ : ∃ M2, L.length = M2 := ⟨_, rfl⟩
          rw [hM] at hv1 hMn
          rw [hM2] at hv2
          have HM := Lib.hid (And.intro hM hM2)
          subst hv1
          subst hv2
          have HR0 := Lib.hid (show LinAt W4 (w.heap.size + 1) (.slice Option.none 0 0) (.slice Option.none 0 0) 0 24 from H4.out.2.1)
          clear hz hM hM2 hres hloww HD
          go_wp2_with fail
          clear f5 f6
          obtain ⟨Wr, hWr⟩ : ∃ Wr, wr = Wr := ⟨_, rfl⟩
          rw [hWr] at HN xC xL xK hwr ⊢
          clear hWr
          go_loopw [9] (fun i wr => ∃ j : Nat, j ≤ M ∧ i = .int .i64 j ∧ Hid (NSt W4 wr g base (.slice A1 M c1) (.slice A2 M2 c2) (mn (C.take j) K ++ C.drop j) L K)) (fun i _ => M - (intOf i).toNat)
          case atStart => exact ⟨0, by omega, rfl, Lib.hid (by have := HN.out; simpa [mn] using this)⟩
          case round =>
            clear xC xL xK hwr HN
            obtain ⟨j2, hj2, rfl, HN⟩ := hrel
            obtain ⟨xC, xL, xK⟩ := HN.out.at'.cells
            by_cases hlt2 : j2 < M
            · have hjc : j2 < C.length := by rw [HM.out.1]; exact hlt2
              have hjm : j2 < (mn (C.take j2) K ++ C.drop j2).length := by rw [mn_len]; exact hjc
              obtain ⟨_, _, e', _, rd⟩ := HN.out.q1.shape
              injection e' with e1 e2 e3
              clear e2 e3
              subst e1
              obtain ⟨b1, o1, hA1, _, hcz⟩ := rd.2 (by omega)
              have hc1 := hcz j2 hjm
              rw [mn_at C K j2 hjc] at hc1
              have hxb := HCb.out.1 (C[j2]?.getD 0) (by rw [List.getElem?_eq_getElem hjc]; exact List.getElem_mem _)
              have hwm : Wf (min (C[j2]?.getD 0) K) := ⟨by omega, by omega⟩
              cases hA1
              obtain ⟨t1, t2, _, t4⟩ := HN.out.q1.setAt (by rw [mn_len]; exact HM.out.1.symm) hjm hwm
              rw [mn_set C K j2 hjc] at t1
              have hgb := HN.out.gb
              have hbs := HN.out.bs
              have hNew : NSt W4 (wr.setCell ⟨b1, o1 + j2, none⟩ (.int .i64 (min (C[j2]?.getD 0) K))) g base (.slice (some ⟨b1, o1, none⟩) M c1) (.slice A2 M2 c2) (mn (C.take (j2 + 1)) K ++ C.drop (j2 + 1)) L K :=
                ⟨(heap_setCell_other wr ⟨b1, o1 + j2, none⟩ g _ (by show g ≠ b1; omega)).trans HN.out.at', t1, HN.out.q2.same fun i hi => heap_setCell_other wr ⟨b1, o1 + j2, none⟩ i _ (fun e => HN.out.dis i ⟨by rw [e]; rfl, hi⟩), HN.out.dis, HN.out.kg.trans (KG.setRow _ _ t2 hgb), by simpa using hbs, hgb⟩
              have hF := t4 (o1 + j2)
              have HNew := Lib.hid hNew
              have HE := Lib.hid (And.intro (show (World.drew wr).cell? ⟨b1, o1 + j2, none⟩ = some (.int .i64 (C[j2]?.getD 0)) from hc1) (show (World.drew wr).frozen? ⟨b1, o1 + j2, none⟩ = false from hF))
              have hstart : Below g wr (World.drew wr) ∧ LinAt (World.drew wr) g (.slice (some ⟨b1, o1, none⟩) M c1) (.slice A2 M2 c2) K 24 := ⟨(Below.refl _ _).drew, HN.out.at'⟩
              have hgb1 : g < b1 := by omega
              clear hNew t1 t2 t4 hcz rd hjm hjc hwm hc1 hF hbs hgb
              generalize C[j2]?.getD 0 = x at *
              obtain ⟨hxb1, hxb2⟩ := hxb
              go_wp2_with fail
              refine wp_region_held_drew (S := fun W => Below g wr W ∧ LinAt W g (.slice (some ⟨b1, o1, none⟩) M c1) (.slice A2 M2 c2) K 24) (by kernel_rfl) hstart (fun hHeld => ?_)
              clear hstart xC xL xK
              have hsetw : (World.drew wr).setCell ⟨b1, o1 + j2, none⟩ (.int .i64 (min x K)) = World.drew (wr.setCell ⟨b1, o1 + j2, none⟩ (.int .i64 (min x K))) := rfl
              have HSW := Lib.hid hsetw
              clear hsetw
              refine takeH_now (i := 0) (some 107) (v := ?_) rfl (by kernel_rfl) (by kernel_rfl) (by kernel_rfl) (fun _ _ _ h => h) (Or.inl ⟨by rfl, ?_⟩) rfl (by assumption) ?_
              rotate_left
              focus (intro w9 hS9; go_simp; try with_reducible rfl)
              try simp only [Act.put, List.setIfInBounds_toArray, List.set_cons_zero, List.set_cons_succ]
              refine takeH_now (i := 1) (some 108) (v := ?_) rfl (by kernel_rfl) (by kernel_rfl) (by kernel_rfl) (fun _ _ _ h => h) (Or.inl ⟨by rfl, ?_⟩) rfl (by assumption) ?_
              rotate_left
              focus (intro w9 hS9; obtain ⟨xC, xL, xK⟩ := hS9.2.cells; clear hS9; go_simp; try with_reducible rfl)
              try simp only [Act.put, List.setIfInBounds_toArray, List.set_cons_zero, List.set_cons_succ]
              refine takeH_now (i := 2) (some 109) (v := ?_) rfl (by kernel_rfl) (by kernel_rfl) (by kernel_rfl) (fun _ _ _ h => h) (Or.inl ⟨by rfl, ?_⟩) rfl (by assumption) ?_
              rotate_left
              focus (intro w9 hS9; go_simp; try with_reducible rfl)
              try simp only [Act.put, List.setIfInBounds_toArray, List.set_cons_zero, List.set_cons_succ]
              refine takeH_now (i := 3) (some 110) (v := ?_) rfl (by kernel_rfl) (by kernel_rfl) (by kernel_rfl) (fun _ _ _ h => h) (Or.inl ⟨by rfl, ?_⟩) rfl (by assumption) ?_
              rotate_left
              focus (intro w9 hS9; go_simp; try with_reducible rfl)
              try simp only [Act.put, List.setIfInBounds_toArray, List.set_cons_zero, List.set_cons_succ]
              refine takeH_now (i := 4) (some 111) (v := ?_) rfl (by kernel_rfl) (by kernel_rfl) (by kernel_rfl) (fun _ _ _ h => h) (Or.inl ⟨by rfl, ?_⟩) rfl (by assumption) ?_
              rotate_left
              focus (intro w9 hS9; obtain ⟨xC, xL, xK⟩ := hS9.2.cells; clear hS9; go_simp; try with_reducible rfl)
              try simp only [Act.put, List.setIfInBounds_toArray, List.set_cons_zero, List.set_cons_succ]
              refine takeH_now (i := 5) (some 112) (v := ?_) rfl (by kernel_rfl) (by kernel_rfl) (by kernel_rfl) (fun _ _ _ h => h) (Or.inl ⟨by rfl, ?_⟩) rfl (by assumption) ?_
              rotate_left
              focus (intro w9 hS9; go_simp; try with_reducible rfl)
              try simp only [Act.put, List.setIfInBounds_toArray, List.set_cons_zero, List.set_cons_succ]
              refine takeH_now (i := 6) (some 113) (v := ?_) rfl (by kernel_rfl) (by kernel_rfl) (by kernel_rfl) (fun _ _ _ h => h) (Or.inl ⟨by rfl, ?_⟩) rfl (by assumption) ?_
              rotate_left
              focus (intro w9 hS9; go_simp; try with_reducible rfl)
              try simp only [Act.put, List.setIfInBounds_toArray, List.set_cons_zero, List.set_cons_succ]
              refine takeH_now (i := 8) (some 115) (v := ?_) rfl (by kernel_rfl) (by kernel_rfl) (by kernel_rfl) (fun _ _ _ h => h) (Or.inl ⟨by rfl, ?_⟩) rfl (by assumption) ?_
              rotate_left
              focus (intro w9 hS9; go_simp; try with_reducible rfl)
              try simp only [Act.put, List.setIfInBounds_toArray, List.set_cons_zero, List.set_cons_succ]
              refine takeH_now (i := 9) (some 116) (v := ?_) rfl (by kernel_rfl) (by kernel_rfl) (by kernel_rfl) (fun _ _ _ h => h) (Or.inl ⟨by rfl, ?_⟩) rfl (by assumption) ?_
              rotate_left
              focus (intro w9 hS9; obtain ⟨xC, xL, xK⟩ := hS9.2.cells; clear hS9; go_simp; try with_reducible rfl)
              try simp only [Act.put, List.setIfInBounds_toArray, List.set_cons_zero, List.set_cons_succ]
              refine wpAnyH_ready (rs := [7]) (by kernel_rfl) (by simp) ?_
              refine AllReadyH.cons (o := { dst := some 114, op := Op.load 3 (Operand.tmp 113), type := 3, pos := "ref.go:120", after := #[{ on := 6, ground := Ground.data }], guard := none }) rfl (fun K' hK' => ?_) AllReadyH.nil
              rw [if_pos (by kernel_rfl)]
              have eC := HE.out.1
              go_simp
              clear eC
              have hHa := hHeld
              clear hHeld
              refine hK'.out _ _ hHa (fun hHeld => ?_)
              clear hK' hHa
              try simp only [Act.put, List.setIfInBounds_toArray, List.set_cons_zero, List.set_cons_succ]
              refine takeH_now (i := 10) (some 117) (v := ?_) rfl (by kernel_rfl) (by kernel_rfl) (by kernel_rfl) (fun _ _ _ h => h) (Or.inl ⟨by rfl, ?_⟩) rfl (by assumption) ?_
              rotate_left
              focus (intro w9 hS9; go_simp; try with_reducible rfl)
              try simp only [Act.put, List.setIfInBounds_toArray, List.set_cons_zero, List.set_cons_succ]
              refine takeH_now (i := 11) (some 118) (v := ?_) rfl (by kernel_rfl) (by kernel_rfl) (by kernel_rfl) (fun _ _ _ h => h) (Or.inl ⟨by rfl, ?_⟩) rfl (by assumption) ?_
              rotate_left
              focus (intro w9 hS9; go_simp; try with_reducible rfl)
              try simp only [Act.put, List.setIfInBounds_toArray, List.set_cons_zero, List.set_cons_succ]
              refine wpAnyH_ready (rs := [12]) (by kernel_rfl) (by simp) ?_
              refine AllReadyH.cons (o := { dst := none, op := Op.store 3 (Operand.tmp 118) (Operand.tmp 117), type := 0, pos := "ref.go:120", after := #[{ on := 11, ground := Ground.data }, { on := 10, ground := Ground.data }, { on := 0, ground := Ground.phase }, { on := 1, ground := Ground.phase }, { on := 2, ground := Ground.phase }, { on := 3, ground := Ground.phase }, { on := 4, ground := Ground.phase }, { on := 5, ground := Ground.phase }, { on := 6, ground := Ground.phase }, { on := 7, ground := Ground.phase }, { on := 8, ground := Ground.phase }, { on := 9, ground := Ground.phase }, { on := 10, ground := Ground.phase }], guard := none }) rfl (fun K' hK' => ?_) AllReadyH.nil
              rw [if_pos (by kernel_rfl)]
              have eC := HE.out.1
              have eF := HE.out.2
              go_simp
              clear eC eF
              have hHa : Below g wr ((World.drew wr).setCell ⟨b1, o1 + j2, none⟩ (.int .i64 (min x K))) ∧ LinAt ((World.drew wr).setCell ⟨b1, o1 + j2, none⟩ (.int .i64 (min x K))) g (.slice (some ⟨b1, o1, none⟩) M c1) (.slice A2 M2 c2) K 24 := ⟨hHeld.1.setCell (p := ⟨b1, o1 + j2, none⟩) (by show g ≤ b1; omega) _, (heap_setCell_other (World.drew wr) ⟨b1, o1 + j2, none⟩ g _ (by show g ≠ b1; omega)).trans hHeld.2⟩
              clear hHeld
              refine hK'.out _ _ hHa (fun hHeld => ?_)
              clear hK' hHa
              try simp only [Act.put, List.setIfInBounds_toArray, List.set_cons_zero, List.set_cons_succ]
              refine wpAnyH_done (by kernel_rfl) ?_ _
              have HNew2 : Hid (NSt W4 ((World.drew wr).setCell ⟨b1, o1 + j2, none⟩ (.int .i64 (min x K))) g base (.slice (some ⟨b1, o1, none⟩) M c1) (.slice A2 M2 c2) (mn (C.take (j2 + 1)) K ++ C.drop (j2 + 1)) L K) := Lib.hid ⟨HNew.out.at', HNew.out.q1, HNew.out.q2, HNew.out.dis, HNew.out.kg.trans KG.drew, HNew.out.bs, HNew.out.gb⟩
              clear hHeld HE HNew HSW HN
              go_wp2_with fail
              go_roundw
              case rel => exact ⟨j2 + 1, by omega, by go_num, HNew2⟩
              case measure => simp [intOf]; omega
            · obtain rfl : j2 = M := by omega
              have hall : mn (C.take j2) K ++ C.drop j2 = mn C K := by rw [← HM.out.1, List.take_length, List.drop_length, List.append_nil]
              rw [hall] at HN
              have hgb := HN.out.gb
              have hres : LinAt wr (w.heap.size + 1) (.slice Option.none 0 0) (.slice Option.none 0 0) 0 24 := (HN.out.kg.2 _ (by omega) (by omega)).trans HR0.out
              have hloww : Below w.heap.size w wr := H4.out.2.2.2.trans (HN.out.kg.1.mono (by omega))
              obtain ⟨s0, s1, s2, f0, f1, f2, hfin⟩ := lin_store hres (.slice A1 j2 c1) (.slice A2 M2 c2) K
              have lowf := low_store hloww (show w.heap.size ≤ w.heap.size + 1 by omega) (.slice A1 j2 c1) (.slice A2 M2 c2) (.int .i64 K)
              have q1f := ((HN.out.q1.set (j := 0) (u := .slice A1 j2 c1) (g := w.heap.size + 1) (by omega)).set (j := 1) (u := .slice A2 M2 c2) (g := w.heap.size + 1) (by omega)).set (j := 2) (u := .int .i64 K) (g := w.heap.size + 1) (by omega)
              have q2f := ((HN.out.q2.set (j := 0) (u := .slice A1 j2 c1) (g := w.heap.size + 1) (by omega)).set (j := 1) (u := .slice A2 M2 c2) (g := w.heap.size + 1) (by omega)).set (j := 2) (u := .int .i64 K) (g := w.heap.size + 1) (by omega)
              obtain ⟨_, _, y1, _, rd1⟩ := q1f.shape
              obtain ⟨_, _, y2, _, rd2⟩ := q2f.shape
              injection y1 with y1 yn1 yc1
              injection y2 with y2 yn2 yc2
              clear yn1 yc1 yn2 yc2
              subst y1
              subst y2
              have HFI := Lib.hid hfin
              have HFin := Lib.hid (And.intro rd1 (And.intro rd2 (And.intro q1f.nocap (And.intro q2f.nocap lowf))))
              clear hfin hres hloww lowf q1f q2f rd1 rd2 hall HN HR0
              go_wp2_with fail
              refine bodyPost_ret (results_cell_row rfl _ _ (w.heap.size + 1) 24 _ (0, 0) _ rfl HFI.out rfl rfl rfl) rfl ?_
              obtain ⟨z1, z2, z3⟩ := HZ.out
              obtain ⟨u1, u2, u3, u4, u5⟩ := HFin.out
              refine ⟨A1, c1, A2, c2, ?_, by rw [z1]; exact u1, by rw [z2]; exact u2, u3, u4, u5⟩
              rw [z1, z2, z3]
              unfold mn
              rw [List.length_map, HM.out.1, HM.out.2]
/-- What the reference's Norm answers: the same as Norm. -/
theorem RNorm_all (B n1 n2 cc lc : Nat) (AC AL : Option Addr) (k : Int) (cs ls : List Int) (w : World) (hc : RdI B w AC cs) (hr : RdI B w AL ls) (hB : B ≤ w.heap.size) (hcl : cs.length = n1) (hl : ls.length = n2) (hn : n2 ≤ 64) :
    Calls Try.prog 16 #[.agg #[.slice AC n1 cc, .slice AL n2 lc, .int .i64 k]] w fun e w' => ∃ A1 c1 A2 c2, e = .returned (.agg #[.slice A1 (mC cs ls k).length c1, .slice A2 (mL cs ls k).length c2, .int .i64 (mK cs ls k)]) ∧
      RdI w'.heap.size w' A1 (mC cs ls k) ∧ RdI w'.heap.size w' A2 (mL cs ls k) ∧ (A1 = Option.none → c1 = 0) ∧ (A2 = Option.none → c2 = 0) ∧ Below w.heap.size w w' := by
  unfold mC mL mK
  by_cases h : OkL cs ls k 65536
  · rw [if_pos h, if_pos h, if_pos h]
    obtain rfl : n1 = n2 := by have := h.2.2.1; omega
    exact RNorm_ok B n1 cc lc AC AL k cs ls w hc hr hB hcl hl hn h
  · rw [if_neg h, if_neg h, if_neg h]
    refine (RNorm_bad B n1 n2 cc lc AC AL k cs ls w hc hr hB hcl hl hn h).mono ?_
    rintro e w' ⟨rfl, hb⟩
    exact ⟨_, 0, _, 0, rfl, RdI.nil _ _ _, RdI.nil _ _ _, fun _ => rfl, fun _ => rfl, hb⟩
end Go.Proofs.Ytoacfjmefoiflaa
