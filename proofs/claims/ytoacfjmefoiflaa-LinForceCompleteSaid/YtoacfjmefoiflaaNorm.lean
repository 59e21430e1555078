/- The walk of lin.Norm. -/
import Derived.Test.YtoacfjmefoiflaaSrt
namespace Go.Proofs.Ytoacfjmefoiflaa
open Go.RowKit Go.Maps
set_option maxRecDepth 100000

def ncs (cs ls : List Int) : List Int → List Int
  | [] => []
  | v :: r => vC (tot cs ls v) (tot cs ls (-v)) ++ ncs cs ls r
def nls (cs ls : List Int) : List Int → List Int
  | [] => []
  | v :: r => vL v (tot cs ls v) (tot cs ls (-v)) ++ nls cs ls r
def nk (cs ls : List Int) : List Int → Int
  | [] => 0
  | v :: r => min (tot cs ls v) (tot cs ls (-v)) + nk cs ls r
theorem ncs_snoc (cs ls : List Int) (v : Int) : ∀ r, ncs cs ls (r ++ [v]) = ncs cs ls r ++ vC (tot cs ls v) (tot cs ls (-v))
  | [] => by simp [ncs]
  | u :: r => by show _ ++ ncs cs ls (r ++ [v]) = _ ++ ncs cs ls r ++ _; rw [ncs_snoc cs ls v r, List.append_assoc]
theorem nls_snoc (cs ls : List Int) (v : Int) : ∀ r, nls cs ls (r ++ [v]) = nls cs ls r ++ vL v (tot cs ls v) (tot cs ls (-v))
  | [] => by simp [nls]
  | u :: r => by show _ ++ nls cs ls (r ++ [v]) = _ ++ nls cs ls r ++ _; rw [nls_snoc cs ls v r, List.append_assoc]
theorem nk_snoc (cs ls : List Int) (v : Int) : ∀ r, nk cs ls (r ++ [v]) = nk cs ls r + min (tot cs ls v) (tot cs ls (-v))
  | [] => by simp [nk]
  | u :: r => by show _ + nk cs ls (r ++ [v]) = _ + nk cs ls r + _; rw [nk_snoc cs ls v r]; omega
theorem v_len (p q v : Int) : (vC p q).length = (vL v p q).length ∧ (vC p q).length ≤ 1 := by
  unfold vC vL
  split
  · simp
  · split <;> simp
theorem n_len (cs ls : List Int) : ∀ r, (ncs cs ls r).length = (nls cs ls r).length ∧ (ncs cs ls r).length ≤ r.length
  | [] => by simp [ncs, nls]
  | v :: r => by
    have h1 := n_len cs ls r
    have h2 := v_len (tot cs ls v) (tot cs ls (-v)) v
    simp only [ncs, nls, List.length_append, List.length_cons]
    omega
theorem nk_bound (cs ls : List Int) (M : Int) (hM : 0 ≤ M) (h : ∀ z, -M ≤ tot cs ls z ∧ tot cs ls z ≤ M) : ∀ r : List Int, -(M * r.length) ≤ nk cs ls r ∧ nk cs ls r ≤ M * r.length
  | [] => by simp [nk]
  | v :: r => by
    have ih := nk_bound cs ls M hM h r
    have h1 := h v
    have h2 := h (-v)
    have e : M * ((v :: r).length : Int) = M * (r.length : Int) + M := by
      rw [List.length_cons, Int.natCast_add, Int.mul_add]; simp
    rw [e]
    simp only [nk]
    omega
theorem ncs_bound (cs ls : List Int) (M : Int) (h : ∀ z, -M ≤ tot cs ls z ∧ tot cs ls z ≤ M) : ∀ r : List Int, ∀ c ∈ ncs cs ls r, 0 < c ∧ c ≤ 2 * M
  | [], c, hc => by simp [ncs] at hc
  | v :: r, c, hc => by
    rcases List.mem_append.1 hc with q | q
    · have h1 := h v
      have h2 := h (-v)
      unfold vC at q
      split at q
      · rw [List.mem_singleton.1 q]; omega
      · split at q
        · rw [List.mem_singleton.1 q]; omega
        · simp at q
    · exact ncs_bound cs ls M h r c q

theorem QI.base {w : World} {base base' : Nat} {v : Value} {zs : List Int} (h : QI w base v zs) (hb : base' ≤ base) : QI w base' v zs := by
  refine ⟨h.1, ?_⟩
  rcases h.2 with h2 | ⟨g, o, c, cs, h1, h2, h3⟩
  · exact .inl h2
  · exact .inr ⟨g, o, c, cs, h1, by omega, h3⟩
/-- What Norm answers. -/
def Normed (cs ls : List Int) (k : Int) (w : World) (e : Ending) (w' : World) : Prop :=
  ∃ vs : List Int, vs.Pairwise (· < ·) ∧ (∀ x, x ∈ vs ↔ ∃ z ∈ ls, x = max z (-z)) ∧ vs.length ≤ ls.length ∧
    ∃ A1 c1 A2 c2, e = .returned (.agg #[.slice A1 (satC (ncs cs ls vs) (k - nk cs ls vs)).length c1, .slice A2 (satL (ncs cs ls vs) (nls cs ls vs) (k - nk cs ls vs)).length c2, .int .i64 (satK (ncs cs ls vs) (k - nk cs ls vs))]) ∧
      QI w' w.heap.size (.slice A1 (satC (ncs cs ls vs) (k - nk cs ls vs)).length c1) (satC (ncs cs ls vs) (k - nk cs ls vs)) ∧ QI w' w.heap.size (.slice A2 (satL (ncs cs ls vs) (nls cs ls vs) (k - nk cs ls vs)).length c2) (satL (ncs cs ls vs) (nls cs ls vs) (k - nk cs ls vs)) ∧
      Dis2 (.slice A1 (satC (ncs cs ls vs) (k - nk cs ls vs)).length c1) (.slice A2 (satL (ncs cs ls vs) (nls cs ls vs) (k - nk cs ls vs)).length c2) ∧ Below w.heap.size w w'

set_option maxHeartbeats 16000000 in
theorem norm_any (B n cc lc : Nat) (AC AL : Option Addr) (k : Int) (cs ls : List Int) (w : World) (hc : RdI B w AC cs) (hr : RdI B w AL ls) (hB : B ≤ w.heap.size) (hcl : cs.length = n) (hl : ls.length = n) (hn : n ≤ 64) (hok : OkL cs ls k 65536) :
    Calls Try.prog 15 #[.agg #[.slice AC n cc, .slice AL n lc, .int .i64 k]] w (Normed cs ls k w) := by
  obtain ⟨W1, hW1⟩ : ∃ W1, W1 = (w.alloc (.cells #[.slice AC n cc, .slice AL n lc, .int .i64 k] 24)).alloc (.cells #[.slice Option.none 0 0, .slice Option.none 0 0, .int .i64 0] 24) := ⟨_, rfl⟩
  have hs1 : W1.heap.size = w.heap.size + 2 := by rw [hW1]; simp
  have hb1 : Below w.heap.size w W1 := by rw [hW1]; exact ((Below.refl _ _).alloc (Nat.le_refl _) _).alloc (by simp) _
  have hat : LinAt W1 w.heap.size (.slice AC n cc) (.slice AL n lc) k 24 := by rw [hW1]; exact (heap_alloc_old _ _ (by simp)).trans (heap_alloc_new _ _)
  have hres : LinAt W1 (w.heap.size + 1) (.slice Option.none 0 0) (.slice Option.none 0 0) 0 24 := by
    have := heap_alloc_new (w.alloc (.cells #[.slice AC n cc, .slice AL n lc, .int .i64 k] 24)) (.cells #[.slice Option.none 0 0, .slice Option.none 0 0, .int .i64 0] 24)
    rw [World.size_alloc] at this
    rw [hW1]; exact this
  obtain ⟨cC, cL, cK⟩ := hat.cells
  rw [hW1] at cC cL cK
  have hCk := (LinCheck_any B AC AL n n cc lc k 65536 cs ls W1 (hc.below hb1 hB) (hr.below hb1 hB) (by omega) hcl hl (by omega) (by omega) (by omega)).1 hok
  have hcs : ∀ c ∈ cs, -1099511627776 ≤ c ∧ c ≤ 1099511627776 := fun c hc => by
    obtain ⟨j, hj, rfl⟩ := List.mem_iff_getElem.1 hc
    have := (hok.2.2.2.2 j (by omega)).1
    rw [List.getElem?_eq_getElem hj, Option.getD_some] at this
    unfold numB at this
    simpa using this
  have hlit : ∀ z ∈ ls, -65536 ≤ z ∧ z ≤ 65536 ∧ z ≠ 0 := fun z hz => by
    obtain ⟨j, hj, rfl⟩ := List.mem_iff_getElem.1 hz
    have := (hok.2.2.2.2 j hj).2
    rw [List.getElem?_eq_getElem hj, Option.getD_some] at this
    unfold litB at this
    simp at this
    omega
  have hk : -1099511627776 ≤ k ∧ k ≤ 1099511627776 := by
    have := hok.2.2.2.1
    unfold numB at this
    simpa using this
  have HCk := Lib.hid hCk
  have HW := Lib.hid hW1
  have H1 := Lib.hid (And.intro hat (And.intro hres (And.intro (hc.below hb1 hB) (hr.below hb1 hB))))
  have HL := Lib.hid (And.intro hcl (And.intro hl (And.intro hcs hlit)))
  clear hW1 hat hres hc hr hCk hcl hl hcs hlit hok
  have hmm := @run_makeMap Try.prog
  go_enter Try.func15, Try.ntmps15
  go_wp2_with fail
  rw [← HW.out]
  clear HW
  refine HCk.out.mono ?_
  rintro e w2 ⟨rfl, hb2⟩
  have hat2 := H1.out.1.below hb2
  have hres2 := H1.out.2.1.below hb2
  have hs2 := hb2.size
  have hb12 := hb1.trans (hb2.mono hb1.size)
  obtain ⟨cC, cL, cK⟩ := hat2.cells
  have R2 := Lib.hid (And.intro (H1.out.2.2.1.below hb2 (by omega)) (H1.out.2.2.2.below hb2 (by omega)))
  -- the map
  obtain ⟨W3, hW3⟩ : ∃ W3, W3 = w2.alloc (.map #[] 0) := ⟨_, rfl⟩
  have hM3 : MI W3 w2.heap.size 0 [] [] := by rw [hW3]; exact MI.made w2
  have hb3 : Below w2.heap.size w2 W3 := by rw [hW3]; exact (Below.refl _ _).alloc (Nat.le_refl _) _
  have HW := Lib.hid hW3
  have hF := foldM_any B w2.heap.size AC AL n cc lc k cs ls W3 hM3 (R2.out.1.below hb3 (by omega)) (R2.out.2.below hb3 (by omega)) (by omega) HL.out.1 HL.out.2.1 (by omega) HL.out.2.2.1
  have HF := Lib.hid hF
  have H2 := Lib.hid (And.intro hat2 hres2)
  clear hat2 hres2 hW3 hF hM3 HCk H1 hb2
  go_wp2_with fail
  rw [← HW.out]
  clear HW
  refine HF.out.mono ?_
  rintro e w4 ⟨rfl, hMI, hb4, hs4⟩
  have hsW3 := hb3.size
  have hb34 : Below w2.heap.size w2 w4 := hb3.trans hb4
  have hat4 := H2.out.1.below hb34
  have hres4 := H2.out.2.below hb34
  have hb14 := hb12.trans (hb34.mono (by omega))
  obtain ⟨D, hown, hmap, hget, hhas⟩ := id hMI
  have hMlt := hMI.lt
  obtain ⟨m, hm⟩ : ∃ m, w2.heap.size = m := ⟨_, rfl⟩
  rw [hm] at hown hMI hMlt ⊢
  have hms : w.heap.size + 2 ≤ m := by omega
  have H4 := Lib.hid (And.intro hat4 (And.intro hres4 (And.intro hMI (And.intro hhas hb14))))
  clear HF hMI hb4 hb34 hat4 hres4 hb14 H2 R2 hb3 hget hhas hmap hb12 hs2 hsW3 hm hs4 cC cL cK
  go_wp2_with (at_range; refine wpList_range_own _ rfl _ 47 rfl 3 3 keyed3 underlying47 (plainElem Try.prog 3) m n D rfl hown ?_; intro w5 hrg hg5 hs5)
  go_frame
  have hcnt : Maps.size D ≤ n := hown.size_le
  go_loopw [4] (fun v4 wr => ∃ (left : Go.Lit → Bool) (cnt : Nat) (ks : List Int), wr.ranges Try.prog 3 (plainElem Try.prog 3) m w4.heap.size n D left cnt ∧ (∀ z, z ∈ ks ↔ (z ∈ ls ∧ left (.int .i64 z) = false)) ∧ ks.length + cnt ≤ n ∧ QI wr w5.heap.size v4 (ks.map fun z => max z (-z)) ∧ Below w4.heap.size w4 wr ∧ w5.heap.size ≤ wr.heap.size)
    (fun _ wr => wr.rangeLeft m w4.heap.size)
  case atStart =>
    refine ⟨_, _, [], hrg, fun z => ?_, by simpa using hcnt, QI.nil _ _, ?_, Nat.le_refl _⟩
    · constructor
      · intro h; cases h
      · rintro ⟨h1, h2⟩
        have hb := HL.out.2.2.2 z h1
        rw [H4.out.2.2.2.1 z ⟨by omega, by omega⟩] at h2
        exact absurd h1 (of_decide_eq_false h2)
    · exact (Below.refl _ _).grown hg5 (Nat.le_refl _) (fun k hk => by cases hk)
  case round =>
    obtain ⟨left, cnt, ks, hrg, hks, hcn, row, low, hsz⟩ := hrel
    obtain ⟨A4, c4, hv4, _, _⟩ := row.shape
    obtain ⟨L4, hL4⟩ : ∃ L4, (ks.map fun z => max z (-z)).length = L4 := ⟨_, rfl⟩
    rw [hL4] at hv4
    subst hv4
    have HK := Lib.hid (And.intro hks (And.intro row low))
    clear hks row low hL4
    go_wp2_with (at_next; refine wpList_next_ranges_ii _ rfl _ rfl 3 3 .i64 .i64 keyed3 underlying3' underlying3' m w4.heap.size n _ _ _ rfl hrg ?_ ?_)
    · intro hcnt0 hl0
      have hmem : ∀ z, z ∈ ks ↔ z ∈ ls := fun z => by rw [HK.out.1 z]; simp [hl0]
      have Hmem := Lib.hid hmem
      clear hl0 hmem hrg hown
      obtain ⟨zs, hzs⟩ : ∃ zs, (ks.map fun z => max z (-z)) = zs := ⟨_, rfl⟩
      have hzl : zs.length ≤ n := by rw [← hzs, List.length_map]; omega
      have hzm : ∀ x, x ∈ zs ↔ ∃ z ∈ ls, x = max z (-z) := fun x => by
        rw [← hzs, List.mem_map]
        constructor
        · rintro ⟨z, hz, rfl⟩
          exact ⟨z, ((HK.out.1 z).1 hz).1, rfl⟩
        · rintro ⟨z, hz, rfl⟩
          exact ⟨z, (Hmem.out z).2 hz, rfl⟩
      have hrow := HK.out.2.1
      have hlow := HK.out.2.2
      rw [hzs] at hrow
      have hsr := sort_q hrow (by omega) hsz
      have h5 : w5.heap.size = w4.heap.size + 1 := hs5
      obtain ⟨b5, hb5⟩ : ∃ b5, w5.heap.size = b5 := ⟨_, rfl⟩
      rw [hb5] at hsr hsz h5
      have HS := Lib.hid hsr
      have HR := Lib.hid (And.intro hlow (And.intro hzm hzl))
      clear hrow hlow HK hzs hzl hzm hsr Hmem hb5 hs5 hg5
      go_wp2_with fail
      refine HS.out.mono ?_
      rintro e w6 ⟨rfl, hq6, low6, hs6⟩
      have hlow6 : Below w4.heap.size w4 w6 := HR.out.1.trans (low6.mono (by omega))
      have hat6 : LinAt w6 w.heap.size (.slice AC n cc) (.slice AL n lc) k 24 := (hlow6.block _ (by omega)).trans H4.out.1
      have hres6 : LinAt w6 (w.heap.size + 1) (.slice Option.none 0 0) (.slice Option.none 0 0) 0 24 := (hlow6.block _ (by omega)).trans H4.out.2.1
      have hMI6 : MI w6 m n cs ls := H4.out.2.2.1.below (hlow6.block _ (by omega))
      have hb16 : Below w.heap.size w w6 := H4.out.2.2.2.2.trans (hlow6.mono (by omega))
      obtain ⟨cC, cL, cK⟩ := hat6.cells
      have H6 := Lib.hid (And.intro hat6 (And.intro hres6 (And.intro hMI6 (And.intro hb16 hq6))))
      clear HS hq6 low6 hlow6 hat6 hres6 hMI6 hb16 H4
      have hs56 : b5 ≤ w6.heap.size := by omega
      clear hs6
      obtain ⟨g, hg⟩ : ∃ g, w6.heap.size = g := ⟨_, rfl⟩
      obtain ⟨W7, hW7⟩ : ∃ W7, W7 = w6.alloc (.cells #[.slice Option.none 0 0, .slice Option.none 0 0, .int .i64 k] 52) := ⟨_, rfl⟩
      have hs7 : W7.heap.size = g + 1 := by rw [hW7]; simp [hg]
      have hb7 : Below g w6 W7 := by rw [hW7]; exact (Below.refl _ _).alloc (by omega) _
      have hat7 : LinAt W7 g (.slice Option.none 0 0) (.slice Option.none 0 0) k 52 := by rw [hW7, ← hg]; exact heap_alloc_new _ _
      have hq7 : QI W7 b5 (.slice A4 L4 c4) (srtd zs) := H6.out.2.2.2.2.same fun i hi => hb7.block i (by have := (H6.out.2.2.2.2.lt hi).2; omega)
      have hrl : ∀ i, (Value.slice A4 L4 c4).ownBlock = some i → b5 ≤ i ∧ i < g := fun i hi => by have := H6.out.2.2.2.2.lt hi; omega
      have hC7 := compact_q hq7 (by rw [srtd_len]; have := HR.out.2.2; omega) (by omega)
      obtain ⟨hsorted, hcm, hclen⟩ := compact_sorted zs
      obtain ⟨ys, hys⟩ : ∃ ys, Lib.compact (zs.mergeSort fun x y => decide (x ≤ y)) = ys := ⟨_, rfl⟩
      have hys' : Lib.compact (srtd zs) = ys := hys
      rw [hys'] at hC7
      simp only [hys] at hsorted hcm hclen
      have hym : ∀ x, x ∈ ys ↔ ∃ z ∈ ls, x = max z (-z) := fun x => (hcm x).trans (HR.out.2.1 x)
      have hyl : ys.length ≤ n := by have := HR.out.2.2; omega
      have HC := Lib.hid hC7
      have HY := Lib.hid (And.intro hsorted (And.intro hym hyl))
      have H7 := Lib.hid (And.intro hat7 (And.intro hb7 hrl))
      have HW := Lib.hid hW7
      clear hW7 hb7 hat7 hq7 hrl hC7 hsorted hcm hclen hym hyl hys hys' HR
      go_wp2_with fail
      rw [← HW.out]
      clear HW
      refine HC.out.mono ?_
      rintro e w8 ⟨A, c, rfl, hrd, low8, hs8, hk8⟩
      have hat8 : LinAt w8 g (.slice Option.none 0 0) (.slice Option.none 0 0) k 52 := (hk8 g (by omega) (fun e => by have := H7.out.2.2 g e; omega)).trans H7.out.1
      have hB8 : Bld w8 g (g + 1) [] [] k := ⟨_, _, hat8, QI.nil _ _, QI.nil _ _, Dis2.nil _, by omega, by omega⟩
      have hrd8 : RdI g w8 A ys := hrd g fun i hi => (H7.out.2.2 i hi).2
      have hlow8 : Below b5 w6 w8 := (H7.out.2.1.mono (by omega)).trans low8
      have hat18 : LinAt w8 (w.heap.size + 1) (.slice Option.none 0 0) (.slice Option.none 0 0) 0 24 := (hlow8.block _ (by omega)).trans H6.out.2.1
      have hMI8 : MI w8 m n cs ls := H6.out.2.2.1.below (hlow8.block _ (by omega))
      have hb18 : Below w.heap.size w w8 := H6.out.2.2.2.1.trans (hlow8.mono (by omega))
      have hs58 : g + 1 ≤ w8.heap.size := by omega
      obtain ⟨L, hL⟩ : ∃ L, ys.length = L := ⟨_, rfl⟩
      rw [hL]
      have hLn : L ≤ n := by rw [← hL]; exact HY.out.2.2
      have H8 := Lib.hid (And.intro hB8 (And.intro hrd8 (And.intro hat18 (And.intro hMI8 (And.intro hb18 hL)))))
      clear HC H7 H6 hat8 hB8 hrd8 hlow8 hat18 hMI8 hb18 hL hrd low8 hk8 cC cL cK
      go_wp2_with fail
      go_loopw [38] (fun v wr => ∃ j : Nat, j ≤ L ∧ v = .int .i64 j ∧ Bld wr g (g + 1) (ncs cs ls (ys.take j)) (nls cs ls (ys.take j)) (k - nk cs ls (ys.take j)) ∧ Below g w8 wr)
        (fun v _ => L - (intOf v).toNat)
      case atStart => exact ⟨0, by omega, rfl, by simpa [ncs, nls, nk] using H8.out.1, Below.refl _ _⟩
      case round =>
        obtain ⟨j, hj, rfl, hB, low⟩ := hrel
        by_cases hlt : j < L
        · have hjl : j < ys.length := by rw [H8.out.2.2.2.2.2]; exact hlt
          obtain ⟨b, off, hA, hbg, hc⟩ := (H8.out.2.1.below low (Nat.le_refl _)).2 (by omega)
          have hc1 := hc j hjl
          have htk : ys.take (j + 1) = ys.take j ++ [ys[j]?.getD 0] := by rw [List.take_add_one, List.getElem?_eq_getElem hjl]; rfl
          have hmem : ys[j]?.getD 0 ∈ ys := by rw [List.getElem?_eq_getElem hjl]; exact List.getElem_mem hjl
          obtain ⟨z, hz, hzx⟩ := (HY.out.2.1 _).1 hmem
          have hzb := HL.out.2.2.2 z hz
          generalize ys[j]?.getD 0 = x at *
          have hxb : 0 < x ∧ x ≤ 65536 := by omega
          have hMIw : MI wr m n cs ls := H8.out.2.2.2.1.below (low.block _ (by omega))
          have hl1 := hMIw.look (z := x) ⟨by omega, by omega⟩
          have hl2 := hMIw.look (z := -x) ⟨by omega, by omega⟩
          have hneg : wrap64 (-x) = -x := IntWalk.wrap64_in _ (by omega)
          have hcl0 : cs.length ≤ 64 := by rw [HL.out.1]; exact hn
          have htb : ∀ q, -70368744177664 ≤ tot cs ls q ∧ tot cs ls q ≤ 70368744177664 := fun q => by
            have := tot_bound 1099511627776 (by omega) cs ls q HL.out.2.2.1
            omega
          have hkb := nk_bound cs ls 70368744177664 (by omega) htb (ys.take j)
          have hnl := n_len cs ls (ys.take j)
          rw [List.length_take, Nat.min_eq_left (by omega)] at hkb hnl
          have hV := variable_any g (g + 1) _ _ _ x (tot cs ls x) (tot cs ls (-x)) wr hB (by omega) (by have := htb x; omega) (by have := htb (-x); omega) (by omega) (by omega) (by omega)
          have e1 := ncs_snoc cs ls x (ys.take j)
          have e2 := nls_snoc cs ls x (ys.take j)
          have e3 := nk_snoc cs ls x (ys.take j)
          rw [← htk] at e1 e2 e3
          rw [← e1, ← e2, show k - nk cs ls (ys.take j) - min (tot cs ls x) (tot cs ls (-x)) = k - nk cs ls (ys.take (j + 1)) by omega] at hV
          have HV := Lib.hid hV
          cases hA
          have low' := Lib.hid low
          clear hV e1 e2 e3 hkb hnl htb hB hc hjl htk hmem hz hzx hzb hMIw low
          generalize tot cs ls x = p at *
          generalize tot cs ls (-x) = q at *
          go_wp2_with fail
          refine HV.out.mono ?_
          rintro e w9 ⟨rfl, B9, low9⟩
          have H9 := Lib.hid (And.intro B9 (low'.out.trans low9))
          clear HV B9 low9
          go_wp2_with fail
          go_roundw
          case rel => exact ⟨j + 1, by omega, by go_num, H9.out⟩
          case measure => simp [intOf]; omega
        · obtain rfl : j = L := by omega
          have hcl0 : cs.length ≤ 64 := by rw [HL.out.1]; exact hn
          have htb : ∀ q, -70368744177664 ≤ tot cs ls q ∧ tot cs ls q ≤ 70368744177664 := fun q => by
            have := tot_bound 1099511627776 (by omega) cs ls q HL.out.2.2.1
            omega
          have hall : ys.take j = ys := List.take_of_length_le (by have := H8.out.2.2.2.2.2; omega)
          rw [hall] at hB
          have hkb := nk_bound cs ls 70368744177664 (by omega) htb ys
          have hnl := n_len cs ls ys
          have hcb := ncs_bound cs ls 70368744177664 htb ys
          rw [H8.out.2.2.2.2.2] at hkb hnl
          have hS := saturate_any g (g + 1) _ _ _ wr hB ⟨by omega, by omega⟩ (by omega) hnl.1 (fun c hc => by have := hcb c hc; omega)
          have HS := Lib.hid hS
          clear hS hcb hnl hkb hall htb hB
          go_wp2_with fail
          refine HS.out.mono ?_
          rintro e w9 ⟨rfl, ⟨v1, v2, hat9, q91, q92, dis9, _, _⟩, low9⟩
          have hres9 : LinAt w9 (w.heap.size + 1) (.slice Option.none 0 0) (.slice Option.none 0 0) 0 24 := ((low.trans low9).block _ (by omega)).trans H8.out.2.2.1
          obtain ⟨sk, hsk⟩ : ∃ sk, satK (ncs cs ls ys) (k - nk cs ls ys) = sk := ⟨_, rfl⟩
          obtain ⟨sc, hsc⟩ : ∃ sc, satC (ncs cs ls ys) (k - nk cs ls ys) = sc := ⟨_, rfl⟩
          obtain ⟨sl, hsl⟩ : ∃ sl, satL (ncs cs ls ys) (nls cs ls ys) (k - nk cs ls ys) = sl := ⟨_, rfl⟩
          rw [hsk] at hat9
          rw [hsc] at q91
          rw [hsl] at q92
          obtain ⟨p0, p1, p2⟩ := hat9.cells
          have s0 := hres9.cells.1
          have s1 := (hres9.set0 v1).cells.2.1
          have s2 := ((hres9.set0 v1).set1 v2).cells.2.2
          have f0 := hres9.frozen 0
          have f1 := (hres9.set0 v1).frozen 1
          have f2 := ((hres9.set0 v1).set1 v2).frozen 2
          have hfin := ((hres9.set0 v1).set1 v2).set2 sk
          obtain ⟨r0, r1, r2⟩ := hfin.cells
          have q1f := ((q91.set (j := 0) (u := v1) (g := w.heap.size + 1) (by omega)).set (j := 1) (u := v2) (g := w.heap.size + 1) (by omega)).set (j := 2) (u := .int .i64 sk) (g := w.heap.size + 1) (by omega)
          have q2f := ((q92.set (j := 0) (u := v1) (g := w.heap.size + 1) (by omega)).set (j := 1) (u := v2) (g := w.heap.size + 1) (by omega)).set (j := 2) (u := .int .i64 sk) (g := w.heap.size + 1) (by omega)
          have lowf : Below w.heap.size w (((w9.setCell ⟨w.heap.size + 1, 0, none⟩ v1).setCell ⟨w.heap.size + 1, 1, none⟩ v2).setCell ⟨w.heap.size + 1, 2, none⟩ (.int .i64 sk)) := ((((H8.out.2.2.2.2.1.trans ((low.trans low9).mono (by omega))).setCell (p := ⟨w.heap.size + 1, 0, none⟩) (by show w.heap.size ≤ w.heap.size + 1; omega) _).setCell (p := ⟨w.heap.size + 1, 1, none⟩) (by show w.heap.size ≤ w.heap.size + 1; omega) _).setCell (p := ⟨w.heap.size + 1, 2, none⟩) (by show w.heap.size ≤ w.heap.size + 1; omega) _)
          obtain ⟨A1, c1, rfl, _, rd1⟩ := q1f.shape
          obtain ⟨A2, c2, rfl, _, rd2⟩ := q2f.shape
          have fin : Normed cs ls k w (.returned (.agg #[.slice A1 sc.length c1, .slice A2 sl.length c2, .int .i64 sk])) (((w9.setCell ⟨w.heap.size + 1, 0, none⟩ (.slice A1 sc.length c1)).setCell ⟨w.heap.size + 1, 1, none⟩ (.slice A2 sl.length c2)).setCell ⟨w.heap.size + 1, 2, none⟩ (.int .i64 sk)) := by
            refine ⟨ys, HY.out.1, HY.out.2.1, by have := HY.out.2.2; have := HL.out.2.1; omega, A1, c1, A2, c2, ?_, ?_, ?_, ?_, lowf⟩
            · rw [hsc, hsl, hsk]
            · rw [hsc]; exact q1f.base (by omega)
            · rw [hsl]; exact q2f.base (by omega)
            · rw [hsc, hsl]; exact dis9
          have FIN := Lib.hid fin
          have HFI := Lib.hid hfin
          clear fin HS hsk hsc hsl q91 q92 q1f q2f lowf rd1 rd2 dis9 hat9 hres9 hfin low low9 H8
          generalize sc.length = l1 at *
          generalize sl.length = l2 at *
          go_wp2_with fail
          refine bodyPost_ret (results_cell_row rfl _ _ (w.heap.size + 1) 24 _ (0, 0) _ rfl HFI.out rfl rfl rfl) rfl ?_
          exact FIN.out
    · intro x c w6 cnt6 hwx hwc hlx hatx hrg6 hlt6 hg6 hs6 hen
      have hwfx : Wf x := bounds_i64 hwx
      have hhx : Maps.has D (.int .i64 x) = true := has_true_of_atKey hatx
      rw [H4.out.2.2.2.1 x hwfx] at hhx
      have hxl := of_decide_eq_true hhx
      obtain ⟨hx1, hx2, hx3⟩ := HL.out.2.2.2 x hxl
      obtain ⟨Z, hZ⟩ : ∃ Z, max x (-x) = Z := ⟨_, rfl⟩
      have hZb : 0 < Z ∧ Z ≤ 65536 := by omega
      have eZ1 : (if x < -x then -x else x) = Z := by split <;> omega
      have eZ2 : (if -x < x then x else -x) = Z := by split <;> omega
      have hrow6 : QI w6 w5.heap.size (.slice A4 L4 c4) (ks.map fun z => max z (-z)) := HK.out.2.1.same fun i hi => hg6.block i (HK.out.2.1.lt hi).2 (fun e => by have := (HK.out.2.1.lt hi).1; injection e with e; omega)
      have hal : Below w6.heap.size w6 (w6.alloc (.cells #[.int .i64 Z] 3)) := (Below.refl _ _).alloc (Nat.le_refl _) _
      have hrow7 : QI (w6.alloc (.cells #[.int .i64 Z] 3)) w5.heap.size (.slice A4 L4 c4) (ks.map fun z => max z (-z)) := hrow6.same fun i hi => hal.block i (hrow6.lt hi).2
      have hcx : (w6.alloc (.cells #[.int .i64 Z] 3)).cell? ⟨w6.heap.size, 0, none⟩ = some (.int .i64 Z) := by
        rw [cell_of_row _ w6.heap.size 0 _ 3 (0, 0) (heap_alloc_new w6 _)]; rfl
      have hlow6 : Below w4.heap.size w4 w6 := HK.out.2.2.trans ((Below.refl _ _).grown hg6 (by omega) (fun i hi => by injection hi with hi; omega))
      have hwZ : Wf Z := ⟨by omega, by omega⟩
      have hrng7 := hrg6.alloc (.cells #[.int .i64 Z] 3)
      have Hmore := Lib.hid (And.intro hxl (And.intro hwfx (And.intro hrow7 (And.intro hrng7 (And.intro hlow6 (And.intro hcx hlx))))))
      have hsz6 : w5.heap.size ≤ w6.heap.size := by omega
      have hlen : (ks.map fun z => max z (-z)).length ≤ 1000000 := by rw [List.length_map]; omega
      have HZ := Lib.hid hZ
      have HLen := Lib.hid hlen
      have HS6 := Lib.hid hs6
      clear hhx hxl hwfx hrow6 hrow7 hrng7 hlow6 hal hcx hlx hatx hlen hwx hwc hs6
      go_wp2_with (at_builtin; refine push_q rfl _ _ rfl w5.heap.size (.slice A4 L4 c4) (ks.map fun z => max z (-z)) rfl Hmore.out.2.2.1 Z hwZ w6.heap.size rfl Hmore.out.2.2.2.2.2.1 HLen.out (by simp; omega) ?_)
      intro v' w8 hq8 hg8 ho8
      have h5 : w5.heap.size = w4.heap.size + 1 := hs5
      have hrow := HK.out.2.1
      have hg9 := Hmore.out.2.2.2.1.kept hg8 (fun e => by have := (hrow.lt e.symm).1; omega) (fun e => by have := (hrow.lt e.symm).1; omega)
      have hlow8 : Below w4.heap.size w4 w8 := (Hmore.out.2.2.2.2.1.alloc (by omega) _).grown hg8 (by simp; omega) (fun k hk => by have := (hrow.lt hk).1; omega)
      have hs8 : w5.heap.size ≤ w8.heap.size := by have := hg8.size; rw [World.size_alloc] at this; omega
      have hm9 : ∀ z, z ∈ ks ++ [x] ↔ z ∈ ls ∧ (left (.int .i64 z) && !(Go.Lit.int .i64 z).sameKey (.int .i64 x)) = false := fun z => by
        by_cases e : z = x
        · subst e
          have h1 : (Go.Lit.int .i64 z).sameKey (.int .i64 z) = true := by simp [Go.Lit.sameKey]
          rw [h1]
          simp [Hmore.out.1]
        · have h1 : (Go.Lit.int .i64 z).sameKey (.int .i64 x) = false := by simp [Go.Lit.sameKey, e]
          rw [h1]
          simp only [List.mem_append, List.mem_singleton, Bool.not_false, Bool.and_true, e, or_false]
          exact HK.out.1 z
      have hq9 : QI w8 w5.heap.size v' ((ks ++ [x]).map fun z => max z (-z)) := by
        rw [List.map_append, List.map_cons, List.map_nil, HZ.out, h5]; exact hq8
      have hms : wr.rangeLeft m w4.heap.size = cnt := hrg.left_eq
      have hms8 : w8.rangeLeft m w4.heap.size = cnt6 := hg9.left_eq
      have hcn8 : (ks ++ [x]).length + cnt6 ≤ n := by rw [List.length_append]; simp; omega
      have HF := Lib.hid (And.intro hg9 (And.intro hm9 (And.intro hcn8 (And.intro hq9 (And.intro hlow8 hs8)))))
      clear hg9 hm9 hcn8 hq9 hlow8 hs8 hq8 hg8 ho8 hrow h5
      go_wp2_with fail
      go_roundw
      · exact ⟨_, _, _, HF.out.1, HF.out.2.1, HF.out.2.2.1, HF.out.2.2.2.1, HF.out.2.2.2.2.1, HF.out.2.2.2.2.2⟩
      · omega
end Go.Proofs.Ytoacfjmefoiflaa
