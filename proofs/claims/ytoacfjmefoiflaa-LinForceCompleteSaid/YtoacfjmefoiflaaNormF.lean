/- The normal form as a function; what is known of it. -/
import Derived.Test.YtoacfjmefoiflaaNormM
namespace Go.Proofs.Ytoacfjmefoiflaa
open Go.RowKit
set_option maxRecDepth 30000

def insU (x : Int) : List Int → List Int
  | [] => [x]
  | y :: r => if x < y then x :: y :: r else if x = y then y :: r else y :: insU x r
theorem insU_mem (x z : Int) : ∀ l, z ∈ insU x l ↔ z = x ∨ z ∈ l
  | [] => by simp [insU]
  | y :: r => by
    have ih := insU_mem x z r
    unfold insU
    split
    · simp
    · split
      · rename_i h; subst h; simp
      · rw [List.mem_cons, ih, List.mem_cons]
        constructor
        · rintro (h | h | h)
          · exact .inr (.inl h)
          · exact .inl h
          · exact .inr (.inr h)
        · rintro (h | h | h)
          · exact .inr (.inl h)
          · exact .inl h
          · exact .inr (.inr h)
theorem insU_pw (x : Int) : ∀ l : List Int, l.Pairwise (· < ·) → (insU x l).Pairwise (· < ·)
  | [], _ => by simp [insU]
  | y :: r, h => by
    have hc := List.pairwise_cons.1 h
    unfold insU
    split
    · rename_i hx
      refine List.pairwise_cons.2 ⟨fun a ha => ?_, h⟩
      rcases List.mem_cons.1 ha with q | q
      · omega
      · have := hc.1 a q; omega
    · split
      · exact h
      · refine List.pairwise_cons.2 ⟨fun a ha => ?_, insU_pw x r hc.2⟩
        rcases (insU_mem x a r).1 ha with q | q
        · omega
        · exact hc.1 a q
/-- The variables of a list of literals, in order. -/
def vsOf : List Int → List Int
  | [] => []
  | z :: r => insU (max z (-z)) (vsOf r)
theorem vsOf_pw : ∀ l, (vsOf l).Pairwise (· < ·)
  | [] => by simp [vsOf]
  | z :: r => insU_pw _ _ (vsOf_pw r)
theorem vsOf_mem (x : Int) : ∀ l, x ∈ vsOf l ↔ ∃ z ∈ l, x = max z (-z)
  | [] => by simp [vsOf]
  | z :: r => by
    show x ∈ insU _ _ ↔ _
    rw [insU_mem, vsOf_mem x r]
    simp
theorem pw_uniq : ∀ a b : List Int, a.Pairwise (· < ·) → b.Pairwise (· < ·) → (∀ x, x ∈ a ↔ x ∈ b) → a = b
  | [], [], _, _, _ => rfl
  | [], y :: b, _, _, h => absurd ((h y).2 (by simp)) (by simp)
  | x :: a, [], _, _, h => absurd ((h x).1 (by simp)) (by simp)
  | x :: a, y :: b, h1, h2, h => by
    have c1 := List.pairwise_cons.1 h1
    have c2 := List.pairwise_cons.1 h2
    have e : x = y := by
      have m1 := (h x).1 (by simp)
      have m2 := (h y).2 (by simp)
      rcases List.mem_cons.1 m1 with q | q
      · exact q
      · rcases List.mem_cons.1 m2 with q2 | q2
        · exact q2.symm
        · have := c2.1 x q; have := c1.1 y q2; omega
    subst e
    rw [pw_uniq a b c1.2 c2.2 fun z => ?_]
    have hz := h z
    constructor
    · intro hm
      have hlt := c1.1 z hm
      rcases List.mem_cons.1 (hz.1 (List.mem_cons_of_mem _ hm)) with q | q
      · omega
      · exact q
    · intro hm
      have hlt := c2.1 z hm
      rcases List.mem_cons.1 (hz.2 (List.mem_cons_of_mem _ hm)) with q | q
      · omega
      · exact q
theorem vsOf_uniq (l vs : List Int) (hp : vs.Pairwise (· < ·)) (hm : ∀ x, x ∈ vs ↔ ∃ z ∈ l, x = max z (-z)) : vs = vsOf l :=
  pw_uniq _ _ hp (vsOf_pw l) fun x => (hm x).trans (vsOf_mem x l).symm

def nC (cs ls : List Int) (k : Int) : List Int := satC (ncs cs ls (vsOf ls)) (k - nk cs ls (vsOf ls))
def nL (cs ls : List Int) (k : Int) : List Int := satL (ncs cs ls (vsOf ls)) (nls cs ls (vsOf ls)) (k - nk cs ls (vsOf ls))
def nK (cs ls : List Int) (k : Int) : Int := satK (ncs cs ls (vsOf ls)) (k - nk cs ls (vsOf ls))

/-- What lin.Norm answers at a constraint that is well-formed. -/
theorem norm_fn (B n cc lc : Nat) (AC AL : Option Addr) (k : Int) (cs ls : List Int) (w : World) (hc : RdI B w AC cs) (hr : RdI B w AL ls) (hB : B ≤ w.heap.size) (hcl : cs.length = n) (hl : ls.length = n) (hn : n ≤ 64) (hok : OkL cs ls k 65536) :
    Calls Try.prog 15 #[.agg #[.slice AC n cc, .slice AL n lc, .int .i64 k]] w fun e w' => ∃ A1 c1 A2 c2, e = .returned (.agg #[.slice A1 (nC cs ls k).length c1, .slice A2 (nL cs ls k).length c2, .int .i64 (nK cs ls k)]) ∧
      QI w' w.heap.size (.slice A1 (nC cs ls k).length c1) (nC cs ls k) ∧ QI w' w.heap.size (.slice A2 (nL cs ls k).length c2) (nL cs ls k) ∧ Dis2 (.slice A1 (nC cs ls k).length c1) (.slice A2 (nL cs ls k).length c2) ∧ Below w.heap.size w w' := by
  refine (norm_any B n cc lc AC AL k cs ls w hc hr hB hcl hl hn hok).mono ?_
  rintro e w' ⟨vs, h1, h2, _, A1, c1, A2, c2, h3, h4, h5, h6, h7⟩
  have := vsOf_uniq ls vs h1 h2
  subst this
  exact ⟨A1, c1, A2, c2, h3, h4, h5, h6, h7⟩

/-- A constraint in normal form, over variables up to N. -/
structure Canon (C L : List Int) (K N M : Int) : Prop where
  len : C.length = L.length
  pos : ∀ c ∈ C, 1 ≤ c ∧ c ≤ K
  vs : (L.map fun z => max z (-z)).Pairwise (· < ·)
  lit : ∀ z ∈ L, z ≠ 0 ∧ -N ≤ z ∧ z ≤ N
  none : C = [] → K = 0 ∨ K = 1
  some : C ≠ [] → 1 ≤ K ∧ K ≤ su C
  big : ∀ c ∈ C, c ≤ M
theorem nls_sub (cs ls : List Int) : ∀ vs : List Int, (∀ v ∈ vs, 0 < v) → List.Sublist ((nls cs ls vs).map fun z => max z (-z)) vs
  | [], _ => by simp [nls]
  | v :: r, h => by
    have ih := nls_sub cs ls r fun x hx => h x (List.mem_cons_of_mem _ hx)
    have hv := h v (by simp)
    show List.Sublist (List.map _ (vL v (tot cs ls v) (tot cs ls (-v)) ++ nls cs ls r)) (v :: r)
    rw [List.map_append]
    unfold vL
    split
    · have : max v (-v) = v := by omega
      simp only [List.map_cons, List.map_nil, this]
      exact List.Sublist.cons_cons v ih
    · split
      · have : max (-v) (-(-v)) = v := by omega
        simp only [List.map_cons, List.map_nil, this]
        exact List.Sublist.cons_cons v ih
      · exact List.Sublist.cons v ih
theorem nls_ne (cs ls : List Int) : ∀ vs : List Int, (∀ v ∈ vs, 0 < v) → ∀ z ∈ nls cs ls vs, z ≠ 0 ∧ max z (-z) ∈ vs
  | [], _, z, hz => by simp [nls] at hz
  | v :: r, h, z, hz => by
    have hv := h v (by simp)
    rcases List.mem_append.1 hz with q | q
    · unfold vL at q
      split at q
      · rw [List.mem_singleton.1 q]
        exact ⟨by omega, by rw [show max v (-v) = v by omega]; simp⟩
      · split at q
        · rw [List.mem_singleton.1 q]
          exact ⟨by omega, by rw [show max (-v) (-(-v)) = v by omega]; simp⟩
        · simp at q
    · obtain ⟨h1, h2⟩ := nls_ne cs ls r (fun x hx => h x (List.mem_cons_of_mem _ hx)) z q
      exact ⟨h1, List.mem_cons_of_mem _ h2⟩
theorem su_mn (k : Int) (hk : 0 ≤ k) : ∀ cs : List Int, (∀ c ∈ cs, 0 < c) → min (su cs) k ≤ su (mn cs k) ∧ 0 ≤ su cs ∧ 0 ≤ su (mn cs k)
  | [], _ => by simp [su, mn]; omega
  | c :: cs, h => by
    have ih := su_mn k hk cs fun x hx => h x (List.mem_cons_of_mem _ hx)
    have h1 := h c (by simp)
    show min (c + su cs) k ≤ min c k + su (mn cs k) ∧ 0 ≤ c + su cs ∧ 0 ≤ min c k + su (mn cs k)
    omega
theorem canon (cs ls : List Int) (k N : Int) (hl : cs.length = ls.length) (hn : ls.length ≤ 64) (hcs : ∀ c ∈ cs, -1099511627776 ≤ c ∧ c ≤ 1099511627776) (hz : ∀ z ∈ ls, z ≠ 0 ∧ -N ≤ z ∧ z ≤ N) : Canon (nC cs ls k) (nL cs ls k) (nK cs ls k) N 140737488355328 := by
  have hpos : ∀ v ∈ vsOf ls, 0 < v := fun v hv => by
    obtain ⟨z, h1, h2⟩ := (vsOf_mem v ls).1 hv
    have := (hz z h1).1
    omega
  have hM : ∀ z, -70368744177664 ≤ tot cs ls z ∧ tot cs ls z ≤ 70368744177664 := fun z => by
    have := tot_bound 1099511627776 (by omega) cs ls z hcs
    omega
  have hb := ncs_bound cs ls 70368744177664 hM (vsOf ls)
  have hlen := (n_len cs ls (vsOf ls)).1
  have hvs : ((nls cs ls (vsOf ls)).map fun z => max z (-z)).Pairwise (· < ·) := (vsOf_pw ls).sublist (nls_sub cs ls _ hpos)
  have hne := nls_ne cs ls (vsOf ls) hpos
  have hlit : ∀ z ∈ nls cs ls (vsOf ls), z ≠ 0 ∧ -N ≤ z ∧ z ≤ N := fun z hz1 => by
    obtain ⟨h1, h2⟩ := hne z hz1
    obtain ⟨y, h3, h4⟩ := (vsOf_mem _ ls).1 h2
    have := hz y h3
    omega
  unfold nC nL nK
  generalize k - nk cs ls (vsOf ls) = K
  generalize ncs cs ls (vsOf ls) = C at *
  generalize nls cs ls (vsOf ls) = L at *
  unfold satC satL satK
  by_cases h1 : K ≤ 0
  · simp only [if_pos h1]
    exact ⟨rfl, by simp, by simp, by simp, fun _ => .inl rfl, fun h => absurd rfl h, by simp⟩
  · simp only [if_neg h1]
    by_cases h2 : su C < K
    · simp only [if_pos h2]
      exact ⟨rfl, by simp, by simp, by simp, fun _ => .inr rfl, fun h => absurd rfl h, by simp⟩
    · simp only [if_neg h2]
      have h3 := su_mn K (by omega) C fun c hc => (hb c hc).1
      refine ⟨by unfold mn; rw [List.length_map]; exact hlen, fun c hc => ?_, hvs, hlit, fun h => ?_, fun _ => ⟨by omega, by omega⟩, fun c hc => ?_⟩
      · obtain ⟨y, hy, rfl⟩ := List.mem_map.1 hc
        have := hb y hy
        omega
      · have h4 : C = [] := by unfold mn at h; exact List.map_eq_nil_iff.1 h
        subst h4
        simp [su] at h2; omega
      · obtain ⟨y, hy, rfl⟩ := List.mem_map.1 hc
        have := hb y hy
        omega

theorem tot_append (z : Int) : ∀ c1 l1 c2 l2 : List Int, c1.length = l1.length → tot (c1 ++ c2) (l1 ++ l2) z = tot c1 l1 z + tot c2 l2 z
  | [], [], c2, l2, _ => by simp [tot]
  | x :: c1, y :: l1, c2, l2, h => by
    have ih := tot_append z c1 l1 c2 l2 (by simpa using h)
    show _ + tot (c1 ++ c2) (l1 ++ l2) z = _ + tot c1 l1 z + _
    rw [ih]; omega
  | [], y :: l1, _, _, h => by simp at h
  | x :: c1, [], _, _, h => by simp at h
theorem tot_none (z : Int) : ∀ c l : List Int, z ∉ l → tot c l z = 0
  | [], l, _ => by cases l <;> rfl
  | x :: c, [], _ => rfl
  | x :: c, y :: l, h => by
    have h1 : ¬ y = z := fun e => h (by rw [e]; simp)
    simp only [tot, if_neg h1]
    rw [tot_none z c l fun e => h (List.mem_cons_of_mem _ e)]
    omega
/-- A list in normal form is left as it is. -/
theorem self_norm (C L : List Int) (hp : (L.map fun z => max z (-z)).Pairwise (· < ·)) (h0 : ∀ z ∈ L, z ≠ 0) (hc : ∀ c ∈ C, 1 ≤ c) : ∀ Cs Ls Cp Lp : List Int, C = Cp ++ Cs → L = Lp ++ Ls → Cp.length = Lp.length → Cs.length = Ls.length →
    ncs C L (Ls.map fun z => max z (-z)) = Cs ∧ nls C L (Ls.map fun z => max z (-z)) = Ls ∧ nk C L (Ls.map fun z => max z (-z)) = 0
  | [], [], Cp, Lp, _, _, _, _ => by simp [ncs, nls, nk]
  | c :: Cs, l :: Ls, Cp, Lp, e1, e2, hl, hs => by
    obtain ⟨i1, i2, i3⟩ := self_norm C L hp h0 hc Cs Ls (Cp ++ [c]) (Lp ++ [l]) (by rw [e1]; simp) (by rw [e2]; simp) (by simp [hl]) (by simpa using hs)
    have hl0 := h0 l (by rw [e2]; simp)
    have hc1 := hc c (by rw [e1]; simp)
    rw [e2, List.map_append, List.map_cons] at hp
    obtain ⟨_, p2, p3⟩ := List.pairwise_append.1 hp
    have p4 := (List.pairwise_cons.1 p2).1
    have n1 : l ∉ Lp := fun h => by
      have := p3 (max l (-l)) (List.mem_map.2 ⟨l, h, rfl⟩) (max l (-l)) (by simp)
      omega
    have n2 : -l ∉ Lp := fun h => by
      have := p3 (max (-l) (-(-l))) (List.mem_map.2 ⟨-l, h, rfl⟩) (max l (-l)) (by simp)
      omega
    have n3 : l ∉ Ls := fun h => by
      have := p4 (max l (-l)) (List.mem_map.2 ⟨l, h, rfl⟩)
      omega
    have n4 : -l ∉ Ls := fun h => by
      have := p4 (max (-l) (-(-l))) (List.mem_map.2 ⟨-l, h, rfl⟩)
      omega
    have t1 : tot C L l = c := by
      rw [e1, e2, tot_append l _ _ _ _ hl, tot_none l _ _ n1]
      simp only [tot, if_true]
      rw [tot_none l _ _ n3]; omega
    have t2 : tot C L (-l) = 0 := by
      rw [e1, e2, tot_append (-l) _ _ _ _ hl, tot_none (-l) _ _ n2]
      have : ¬ l = -l := by omega
      simp only [tot, if_neg this]
      rw [tot_none (-l) _ _ n4]; omega
    rcases (show 0 < l ∨ l < 0 by omega) with q | q
    · have em : max l (-l) = l := by omega
      rw [List.map_cons, em]
      simp only [ncs, nls, nk, i1, i2, i3, t1, t2]
      unfold vC vL
      rw [if_pos (by omega), if_pos (by omega)]
      exact ⟨by simp, by simp, by omega⟩
    · have em : max l (-l) = -l := by omega
      rw [List.map_cons, em]
      simp only [ncs, nls, nk, i1, i2, i3, t2, Int.neg_neg, t1]
      unfold vC vL
      rw [if_neg (by omega), if_pos (by omega), if_neg (by omega), if_pos (by omega)]
      exact ⟨by simp, by simp, by omega⟩
  | [], l :: Ls, _, _, _, _, _, hs => by simp at hs
  | c :: Cs, [], _, _, _, _, _, hs => by simp at hs
theorem mn_self (K : Int) : ∀ C : List Int, (∀ c ∈ C, c ≤ K) → mn C K = C
  | [], _ => rfl
  | c :: C, h => by
    show min c K :: mn C K = c :: C
    rw [mn_self K C fun x hx => h x (List.mem_cons_of_mem _ hx), show min c K = c by have := h c (by simp); omega]
theorem norm_self {C L : List Int} {K N M : Int} (h : Canon C L K N M) : nC C L K = C ∧ nL C L K = L ∧ nK C L K = K := by
  have hv : L.map (fun z => max z (-z)) = vsOf L := vsOf_uniq L _ h.vs fun x => by
    rw [List.mem_map]
    exact ⟨fun ⟨z, h1, h2⟩ => ⟨z, h1, h2.symm⟩, fun ⟨z, h1, h2⟩ => ⟨z, h1, h2.symm⟩⟩
  obtain ⟨e1, e2, e3⟩ := self_norm C L h.vs (fun z hz => (h.lit z hz).1) (fun c hc => (h.pos c hc).1) C L [] [] rfl rfl rfl h.len
  rw [hv] at e1 e2 e3
  unfold nC nL nK
  rw [e1, e2, e3, Int.sub_zero]
  unfold satC satL satK
  by_cases hC : C = []
  · have hL : L = [] := List.eq_nil_of_length_eq_zero (by rw [← h.len, hC]; rfl)
    subst hC; subst hL
    rcases h.none rfl with q | q
    · subst q; simp
    · subst q; simp [su]
  · have hs := h.some hC
    rw [if_neg (by omega), if_neg (by omega), if_neg (by omega), if_neg (by omega), if_neg (by omega), if_neg (by omega)]
    exact ⟨mn_self K C fun c hc => (h.pos c hc).2, rfl, rfl⟩

/-- What lin.Norm answers at a constraint that is not well-formed. -/
theorem norm_bad (B n1 n2 cc lc : Nat) (AC AL : Option Addr) (k : Int) (cs ls : List Int) (w : World) (hc : RdI B w AC cs) (hr : RdI B w AL ls) (hB : B ≤ w.heap.size) (hcl : cs.length = n1) (hl : ls.length = n2) (hn : n2 ≤ 64) (hok : ¬ OkL cs ls k 65536) :
    Calls Try.prog 15 #[.agg #[.slice AC n1 cc, .slice AL n2 lc, .int .i64 k]] w fun e w' => e = .returned (.agg #[.slice Option.none 0 0, .slice Option.none 0 0, .int .i64 0]) ∧ Below w.heap.size w w' := by
  obtain ⟨W1, hW1⟩ : ∃ W1, W1 = (w.alloc (.cells #[.slice AC n1 cc, .slice AL n2 lc, .int .i64 k] 24)).alloc (.cells #[.slice Option.none 0 0, .slice Option.none 0 0, .int .i64 0] 24) := ⟨_, rfl⟩
  have hs1 : W1.heap.size = w.heap.size + 2 := by rw [hW1]; simp
  have hb1 : Below w.heap.size w W1 := by rw [hW1]; exact ((Below.refl _ _).alloc (Nat.le_refl _) _).alloc (by simp) _
  have hat : LinAt W1 w.heap.size (.slice AC n1 cc) (.slice AL n2 lc) k 24 := by rw [hW1]; exact (heap_alloc_old _ _ (by simp)).trans (heap_alloc_new _ _)
  have hres : LinAt W1 (w.heap.size + 1) (.slice Option.none 0 0) (.slice Option.none 0 0) 0 24 := by
    have := heap_alloc_new (w.alloc (.cells #[.slice AC n1 cc, .slice AL n2 lc, .int .i64 k] 24)) (.cells #[.slice Option.none 0 0, .slice Option.none 0 0, .int .i64 0] 24)
    rw [World.size_alloc] at this
    rw [hW1]; exact this
  obtain ⟨cC, cL, cK⟩ := hat.cells
  rw [hW1] at cC cL cK
  have hCk := (LinCheck_any B AC AL n1 n2 cc lc k 65536 cs ls W1 (hc.below hb1 hB) (hr.below hb1 hB) (by omega) hcl hl (by omega) (by omega) (by omega)).2 hok
  have HCk := Lib.hid hCk
  have HW := Lib.hid hW1
  have H1 := Lib.hid hres
  clear hW1 hat hres hc hr hCk hcl hl hok
  go_enter Try.func15, Try.ntmps15
  go_wp2_with fail
  rw [← HW.out]
  clear HW
  refine HCk.out.mono ?_
  rintro e w2 ⟨rfl, hb2⟩
  have hres2 := H1.out.below hb2
  have s0 := hres2.cells.1
  have s1 := (hres2.set0 (.slice Option.none 0 0)).cells.2.1
  have s2 := ((hres2.set0 (.slice Option.none 0 0)).set1 (.slice Option.none 0 0)).cells.2.2
  have f0 := hres2.frozen 0
  have f1 := (hres2.set0 (.slice Option.none 0 0)).frozen 1
  have f2 := ((hres2.set0 (.slice Option.none 0 0)).set1 (.slice Option.none 0 0)).frozen 2
  have hfin := ((hres2.set0 (.slice Option.none 0 0)).set1 (.slice Option.none 0 0)).set2 0
  obtain ⟨r0, r1, r2⟩ := hfin.cells
  have hb12 := hb1.trans (hb2.mono hb1.size)
  have lowf : Below w.heap.size w (((w2.setCell ⟨w.heap.size + 1, 0, none⟩ (.slice Option.none 0 0)).setCell ⟨w.heap.size + 1, 1, none⟩ (.slice Option.none 0 0)).setCell ⟨w.heap.size + 1, 2, none⟩ (.int .i64 0)) := (((hb12.setCell (p := ⟨w.heap.size + 1, 0, none⟩) (by show w.heap.size ≤ w.heap.size + 1; omega) _).setCell (p := ⟨w.heap.size + 1, 1, none⟩) (by show w.heap.size ≤ w.heap.size + 1; omega) _).setCell (p := ⟨w.heap.size + 1, 2, none⟩) (by show w.heap.size ≤ w.heap.size + 1; omega) _)
  have HFI := Lib.hid hfin
  have HLow := Lib.hid lowf
  clear HCk hb2 hres2 hfin lowf hb12 H1
  go_wp2_with fail
  refine bodyPost_ret (results_cell_row rfl _ _ (w.heap.size + 1) 24 _ (0, 0) _ rfl HFI.out rfl rfl rfl) rfl ?_
  exact ⟨rfl, HLow.out⟩
end Go.Proofs.Ytoacfjmefoiflaa
