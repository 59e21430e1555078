/- The walks of element, size and the closure that adds a clause. -/
import Derived.Test.YtpiomdnkemoanaaMem
import Derived.Test.YtpiomdnkemoanaaMath
namespace Go.Proofs.Ytpiomdnkemoanaa.Ttl
open Go.RowKit

theorem element_in (B : Nat) (A : Option Addr) (n c k : Nat) (zs : List Int) (w : World) (hr : RdI B w A zs) (hl : zs.length = n) (hk : k < n) :
    Calls Try.prog 46 #[.slice A n c, .int .i64 (k : Int)] w fun e w' => e = .returned (.tuple #[.int .i64 (zs[k]?.getD 0), .bool true]) ∧ w = w' := by
  obtain ⟨b, off, rfl, _, hc⟩ := hr.2 (by omega)
  have hck := hc k (by omega)
  clear hc hl
  generalize zs[k]?.getD 0 = z at *
  go_enter Try.func46, Try.ntmps46
  go_wp2
  go_ret2
  exact ⟨rfl, rfl⟩
theorem element_out (A : Option Addr) (n c : Nat) (i : Int) (w : World) (hi : i < 0 ∨ (n : Int) ≤ i) :
    Calls Try.prog 46 #[.slice A n c, .int .i64 i] w fun e w' => e = .returned (.tuple #[.int .i64 0, .bool false]) ∧ w = w' := by
  by_cases h0 : i < 0
  · go_enter Try.func46, Try.ntmps46
    go_wp2
    go_ret2
    exact ⟨rfl, rfl⟩
  · have h1 : (n : Int) ≤ i := by omega
    clear hi
    go_enter Try.func46, Try.ntmps46
    go_wp2
    go_ret2
    exact ⟨rfl, rfl⟩
/-- The element at i as element answers it. -/
def elV (zs : List Int) (i : Int) : Int := if 0 ≤ i ∧ i < zs.length then zs[i.toNat]?.getD 0 else 0
def elB (zs : List Int) (i : Int) : Bool := decide (0 ≤ i ∧ i < zs.length)
theorem element_any (B : Nat) (A : Option Addr) (n c : Nat) (i : Int) (zs : List Int) (w : World) (hr : RdI B w A zs) (hl : zs.length = n) :
    Calls Try.prog 46 #[.slice A n c, .int .i64 i] w fun e w' => e = .returned (.tuple #[.int .i64 (elV zs i), .bool (elB zs i)]) ∧ w = w' := by
  by_cases h : 0 ≤ i ∧ i < n
  · obtain ⟨k, rfl⟩ := Int.eq_ofNat_of_zero_le h.1
    have e1 : elV zs (k : Int) = zs[k]?.getD 0 := by rw [elV, if_pos (by omega), Int.toNat_natCast]
    have e2 : elB zs (k : Int) = true := decide_eq_true (by omega)
    rw [e1, e2]
    exact element_in B A n c k zs w hr hl (by omega)
  · have e1 : elV zs i = 0 := by rw [elV, if_neg (by omega)]
    have e2 : elB zs i = false := decide_eq_false (by omega)
    rw [e1, e2]
    exact element_out A n c i w (by omega)
theorem elV_opt {zs : List Int} {i : Int} (h : elB zs i = true) : Tot.opt zs i = [elV zs i] := by
  have h1 := of_decide_eq_true h
  rw [Tot.opt, if_pos h1, elV, if_pos h1]
theorem elV_none {zs : List Int} {i : Int} (h : elB zs i = false) : Tot.opt zs i = [] := by
  have h1 := of_decide_eq_false h
  rw [Tot.opt, if_neg h1]
theorem elV_mem {zs : List Int} {i : Int} (h : elB zs i = true) : elV zs i ∈ zs := by
  have h1 := of_decide_eq_true h
  rw [elV, if_pos h1, List.getElem?_eq_getElem (by omega)]
  exact List.getElem_mem _

theorem ret_int {k : IntKind} {a b : Int} (h : a = b) : Ending.returned (.int k a) = .returned (.int k b) := by rw [h]
theorem size_le (most : Nat) : ∀ (k n : Nat), n ≤ k → Tot.size most n ≤ n * n
  | k, n, hk => by
    by_cases h0 : n < 2
    · rw [Tot.size_small h0]; omega
    · cases k with
      | zero => omega
      | succ k =>
        rw [Tot.size_big h0]
        have h1 := size_le most k (n / 2) (by omega)
        have h2 := size_le most k (n - n / 2) (by omega)
        obtain ⟨a, b, ha, hb, hn, ha1, hb1⟩ : ∃ a b, n / 2 = a ∧ n - n / 2 = b ∧ n = a + b ∧ 1 ≤ a ∧ 1 ≤ b := ⟨_, _, rfl, rfl, by omega, by omega, by omega⟩
        rw [ha] at h1 h2 hb ⊢
        rw [hb] at h2 ⊢
        have e1 : a ≤ a * b := Nat.le_mul_of_pos_right a hb1
        have e2 : b ≤ a * b := Nat.le_mul_of_pos_left b ha1
        have e3 : n * n = a * a + b * b + 2 * (a * b) := by rw [hn, Nat.add_mul, Nat.mul_add, Nat.mul_add, Nat.mul_comm b a]; omega
        have e4 : min n most ≤ a + b := by omega
        omega
theorem size_small_le (most n : Nat) (h : n ≤ 4096) : Tot.size most n ≤ 16777216 :=
  Nat.le_trans (size_le most n n (Nat.le_refl _)) (by have := Nat.mul_le_mul h h; omega)

set_option maxHeartbeats 1000000 in
theorem size_any : ∀ (k n most : Nat) (w : World), n ≤ k → n ≤ 4096 → most ≤ 1099511627776 → Calls Try.prog 35 #[.int .i64 (n : Int), .int .i64 (most : Int)] w fun e w' => e = .returned (.int .i64 (Tot.size most n : Nat)) ∧ w = w' := by
  intro k
  induction k with
  | zero =>
    intro n most w h1 h2 h3
    have h0 : n < 2 := by omega
    have hs := Tot.size_small (most := most) h0
    rw [hs]
    go_enter Try.func35, Try.ntmps35
    go_wp2
    go_ret
    exact ⟨rfl, rfl⟩
  | succ k ih =>
    intro n most w h1 h2 h3
    by_cases h0 : n < 2
    · have hs := Tot.size_small (most := most) h0
      rw [hs]
      go_enter Try.func35, Try.ntmps35
      go_wp2
      go_ret
      exact ⟨rfl, rfl⟩
    · have hs := Tot.size_big (most := most) h0
      have i1 := ih (n / 2) most w (by omega) (by omega) h3
      have i2 := ih (n - n / 2) most w (by omega) (by omega) h3
      rw [hs]
      have b1 := size_small_le most (n / 2) (by omega)
      have b2 := size_small_le most (n - n / 2) (by omega)
      clear hs ih
      have d1 : ((n / 2 : Nat) : Int) = (n : Int) / 2 := by omega
      have d2 : ((n - n / 2 : Nat) : Int) = (n : Int) - (n : Int) / 2 := by omega
      rw [d1] at i1
      rw [d2] at i2
      generalize Tot.size most (n / 2) = s1 at *
      generalize Tot.size most (n - n / 2) = s2 at *
      clear d1 d2
      go_enter Try.func35, Try.ntmps35
      go_wp2_with fail
      refine i1.mono ?_
      rintro e w' ⟨rfl, rfl⟩
      go_wp2_with fail
      refine i2.mono ?_
      rintro e w' ⟨rfl, rfl⟩
      go_wp2
      all_goals
        go_ret
        exact ⟨ret_int (by omega), rfl⟩

/-- What the closure that adds a clause reads and writes: the two halves' outputs, the list of clauses. -/
structure AddIn (w : World) (B base Ba Bb Bc : Nat) (a b : List Int) (cl : List (List Int)) : Prop where
  a : ∃ A c, Boxed w Ba 22 (.slice A a.length c) ∧ RdI B w A a
  b : ∃ A c, Boxed w Bb 22 (.slice A b.length c) ∧ RdI B w A b
  c : CellR w base Bc cl
def AddOut (w : World) (B base Ba Bb Bc : Nat) (a b : List Int) (cl : List (List Int)) (e : Ending) (w' : World) : Prop :=
  (∃ v, e = .returned v) ∧ AddIn w' B base Ba Bb Bc a b cl ∧ Below Bc w w'

theorem step_append_own {P : Program} {ops : Array Oper} {o : Oper} {a : Act} {w : World} {K : Act → World → Prop} {Q : Exit → Act → World → Prop} {E : Prop}
    (hg : o.guard = Option.none) (s x : Operand) (t : TypeId) (hop : o.op = Op.call { callee := Callee.builtin Builtin.append, args := #[s, x], argTypes := #[t, t] })
    (base : Nat) (e : TypeId) (i : TypeInfo) (z : Value) (size bytes : Nat) (h1 : P.underlying t = some (.slice e)) (h2 : P.info? e = some i) (h3 : i.zero = some z) (h4 : i.size = size) (h5 : i.bytes = bytes) (h6 : z.cells.size = size) (h7 : 0 < size)
    (v : Value) (k : Nat) (xs : List Value) (hs : a.eval s = v) (hown : w.ownsRow base e size v k xs) (ad : Addr) (m c : Nat) (news : List Value) (hx : a.eval x = .slice (some ad) m c) (hn : news.length = m * size)
    (hc : ∀ j u, news[j]? = some u → w.cell? (ad.add j) = some u) (h1c : ∀ u ∈ news, u.oneCell' = true) (b1 : k + m ≤ maxLen) (b2 : (k + m) * bytes ≤ 140737488355328) (b3 : base ≤ w.heap.size)
    (hK : ∀ v' w', w'.ownsRow base e size v' (k + m) (xs ++ news) → w.grownBy w' v.ownBlock → K (a.put o.dst v') w') :
    if Region.wanted o (yielded ops a.tmps) = true then Oper.wp P o a w K Q else E := by
  have hw : Region.wanted o (yielded ops a.tmps) = true := by simp [Region.wanted, hg]
  rw [if_pos hw]
  obtain ⟨v', w', hrun, r1, r2, _⟩ := run_append_own (P := P) w base t o.type e i z size bytes h1 h2 h3 h4 h5 h6 h7 v k xs hown ad m c news hn hc h1c b1 b2 b3
  unfold Oper.wp
  simp [execOp, hop, resolve, invoke, builtin, hs, hx, hrun, Result.andThen]
  exact hK v' w' r1 r2
theorem take_now {P : Program} {md : Region.Mode} {ops : Array Oper} {Q : Exit → Act → World → Prop} {i : Nat} (d : Option Tmp) {oi : Oper} {v : Value} {fuel : Nat} {listed : Array Bool} {a : Act} {w : World} (hi : ops[i]? = some oi)
    (hs : Region.noSelect ops = true) (hf : Region.free md ops listed i = true) (hr : (Region.ready md ops listed).contains i = true)
    (hQ : ∀ c a w, Q (.panic c) (a.put oi.dst v) w → Q (.panic c) a w) (hy : Yields P ops oi v a) (hd : oi.dst = d)
    (h : wpAny P md ops Q fuel (listed.setIfInBounds i true) (a.put d v) w) : wpAny P md ops Q (fuel + 1) listed a w := by
  subst hd
  exact wpAny_take hi hs hf hr hQ hy h
theorem wpList_push {ops : Array Oper} {rest : List Oper} {o : Oper} {a : Act} {Q : Exit → Act → World → Prop} {w : World} (hgd : o.guard = none) (s x : Operand)
    (ho : o.op = .call { callee := .builtin .append, args := #[s, x], argTypes := #[22, 22] }) (base : Nat) (v : Value) (zs : List Int) (hs : a.eval s = v) (hrow : RowI w base v zs) (z : Int) (hz : Wf z)
    (hx : a.eval x = .slice (some ⟨w.heap.size, 0, none⟩) 1 1) (hlen : zs.length ≤ 1000000) (hbase : base ≤ w.heap.size)
    (h : ∀ v' w', RowI w' base v' (zs ++ [z]) → Below base w w' → wpList Try.prog ops Q rest (a.put o.dst v') w') : wpList Try.prog ops Q (o :: rest) a (w.alloc (.cells #[.int .i64 z] 3)) := by
  obtain ⟨i0, hi, hz0, hz1, hz2⟩ := info_parts info3
  have hown := hrow.2.alloc (.cells #[.int .i64 z] 3)
  refine wpList_append_own _ hgd s x 22 ho base 3 i0 (.int .i64 0) 1 8 underlying22 hi hz0 hz1 hz2 rfl (by decide) v zs.length _ hs hown ⟨w.heap.size, 0, none⟩ 1 1 [.int .i64 z] hx rfl (cell_one_new _ _ _) (by simp [Value.oneCell']) (by unfold maxLen; omega) (by omega) (by simp; omega) ?_
  intro v' w' hown' hg _
  exact h v' w' (RowI.snoc hz hrow.1 hown') (((Below.refl base w).alloc hbase _).grown hg (by simp; omega) (fun k hk => (hown.lt k hk).1))

/-- Behind the region that adds the clause. -/
theorem add_end {w w3 w4 w5 : World} {B base Ba Bb Bc : Nat} {a b zs : List Int} {cl : List (List Int)} {v v' u : Value} {vs : List Value} (h : AddIn w B base Ba Bb Bc a b cl) (hB : B ≤ Ba) (hab : Ba < Bb) (hbc : Bb < Bc) (hbase : base = Bc + 1)
    (hbc0 : Boxed w Bc 24 v) (hown : w.ownsRow base 22 1 v vs.length vs) (hels : Els w base vs cl) (h3 : Below w.heap.size w w3) (hu : RowI w3 w.heap.size u zs) (h4 : w4 = w3.alloc (.cells #[u] 22))
    (hown5 : w5.ownsRow base 22 1 v' (vs.length + 1) (vs ++ [u])) (hgr : w4.grownBy w5 v.ownBlock) :
    Boxed w5 Bc 24 v ∧ AddIn (w5.setCell ⟨Bc, 0, none⟩ v') B base Ba Bb Bc a b (cl ++ [zs]) ∧ Below Bc w (w5.setCell ⟨Bc, 0, none⟩ v') := by
  subst h4
  obtain ⟨⟨A1, c1, hba, hra⟩, ⟨A2, c2, hbb, hrb⟩, _⟩ := h
  have lc := Boxed.lt hbc0
  have k1 : some Ba ≠ v.ownBlock := fun e => by have := (hown.lt _ e.symm).1; omega
  have k2 : some Bb ≠ v.ownBlock := fun e => by have := (hown.lt _ e.symm).1; omega
  have k3 : some Bc ≠ v.ownBlock := fun e => by have := (hown.lt _ e.symm).1; omega
  have b4 := (Boxed.lower hbc0 h3 lc).alloc (.cells #[u] 22)
  have a4 := (Boxed.lower hba h3 (Boxed.lt hba)).alloc (.cells #[u] 22)
  have bb4 := (Boxed.lower hbb h3 (Boxed.lt hbb)).alloc (.cells #[u] 22)
  have own4 := (own_below hown h3).alloc (.cells #[u] 22)
  have e4 : Els (w3.alloc (.cells #[u] 22)) base (vs ++ [u]) (cl ++ [zs]) := ((hels.below h3).append (Els.one' (hu.base (by omega)))).alloc _
  have hlow : Below Bc w w5 := ((h3.mono (by omega)).alloc (by have := h3.size; omega) _).grown hgr (by have := h3.size; simp; omega) (fun k hk => by have := (own4.lt _ hk).1; omega)
  have hl : (vs ++ [u]).length = vs.length + 1 := by simp
  refine ⟨b4.kept hgr k3, ⟨⟨A1, c1, (a4.kept hgr k1).other (by omega) _, ?_⟩, ⟨A2, c2, (bb4.kept hgr k2).other (by omega) _, ?_⟩, v', vs ++ [u], (b4.kept hgr k3).set v', ?_, (e4.apart hgr (off_own own4 (by decide))).stored (by omega)⟩, hlow.setCell (p := ⟨Bc, 0, none⟩) (Nat.le_refl _) _⟩
  · exact hra.below (hlow.setCell (p := ⟨Bc, 0, none⟩) (Nat.le_refl _) _) (by omega)
  · exact hrb.below (hlow.setCell (p := ⟨Bc, 0, none⟩) (Nat.le_refl _) _) (by omega)
  · rw [hl]
    exact hown5.kept (grownBy_setCell' w5 Bc v') (.inr fun e => by have := (hown5.lt _ e).1; omega)

set_option maxRecDepth 20000 in
set_option maxHeartbeats 8000000 in
theorem add_any (w : World) (B base Ba Bb Bc : Nat) (a b : List Int) (cl : List (List Int)) (sign i k out : Int) (h : AddIn w B base Ba Bb Bc a b cl) (hB : B ≤ Ba) (hab : Ba < Bb) (hbc : Bb < Bc) (hbase : base = Bc + 1)
    (hsa : ∀ x ∈ a, -65537 ≤ sign * x ∧ sign * x ≤ 65537) (hsb : ∀ x ∈ b, -65537 ≤ sign * x ∧ sign * x ≤ 65537) (hout : Wf out) (hcl : cl.length ≤ 100000000) :
    Calls Try.prog 45 #[.int .i64 sign, .int .i64 i, .int .i64 k, .int .i64 out, .pointer (some ⟨Ba, 0, none⟩), .pointer (some ⟨Bb, 0, none⟩), .pointer (some ⟨Bc, 0, none⟩)] w (AddOut w B base Ba Bb Bc a b (cl ++ [Tot.clause a b sign i k out])) := by
  have hAdd := h
  obtain ⟨⟨A1, c1, hba, hra⟩, ⟨A2, c2, hbb, hrb⟩, v, vs, hbc0, hown, hels⟩ := h
  obtain ⟨i0, hi, hz0, hz1, hz2⟩ := info_parts info3
  obtain ⟨j0, hj, hy0, hy1, hy2⟩ := info_parts info22
  have hvl : vs.length ≤ 100000000 := by rw [hels.1]; exact hcl
  obtain ⟨Av, cv, rfl⟩ := own_shape hown
  have e1 := element_any B A1 a.length c1 i a w hra rfl
  have E2 := Lib.hid (fun w' (hw : Below w.heap.size w w') (hz : B ≤ w.heap.size) => element_any B A2 b.length c2 k b w' (hrb.below hw hz) rfl)
  have hca := hba.cell
  have lb := Boxed.lt hbb
  have lc := Boxed.lt hbc0
  have hclause : Hid (((Tot.opt a i).map (sign * ·) ++ (Tot.opt b k).map (sign * ·)) ++ [out] = Tot.clause a b sign i k out) := rfl
  have key : Hid (∀ (w3 w4 w5 : World) (u v' : Value), Below w.heap.size w w3 → RowI w3 w.heap.size u (Tot.clause a b sign i k out) → w4 = w3.alloc (.cells #[u] 22) → w5.ownsRow base 22 1 v' (vs.length + 1) (vs ++ [u]) → w4.grownBy w5 (Value.slice Av vs.length cv).ownBlock →
      Boxed w5 Bc 24 (Value.slice Av vs.length cv) ∧ AddIn (w5.setCell ⟨Bc, 0, none⟩ v') B base Ba Bb Bc a b (cl ++ [Tot.clause a b sign i k out]) ∧ Below Bc w (w5.setCell ⟨Bc, 0, none⟩ v')) :=
    fun w3 w4 w5 u v' q1 q2 q3 q4 q5 => add_end hAdd hB hab hbc hbase hbc0 hown hels q1 q2 q3 q4 q5
  obtain ⟨cl2, hcl2⟩ : ∃ c, Tot.clause a b sign i k out = c := ⟨_, rfl⟩
  rw [hcl2] at key hclause ⊢
  have hpost : ∀ w', AddIn w' B base Ba Bb Bc a b (cl ++ [cl2]) → Below Bc w w' → AddOut w B base Ba Bb Bc a b (cl ++ [cl2]) (.returned (.tuple #[])) w' := fun w' q1 q2 => ⟨⟨_, rfl⟩, q1, q2⟩
  have Hpost := Lib.hid hpost
  have p1 : elB a i = true → Wf (sign * elV a i) := fun q => by have := hsa _ (elV_mem q); exact ⟨by omega, by omega⟩
  have p2 : elB b k = true → Wf (sign * elV b k) := fun q => by have := hsb _ (elV_mem q); exact ⟨by omega, by omega⟩
  have o1 : (Tot.opt a i).map (sign * ·) = if elB a i then [sign * elV a i] else [] := by
    cases q : elB a i
    · rw [elV_none q]; rfl
    · rw [elV_opt q]; rfl
  have o2 : (Tot.opt b k).map (sign * ·) = if elB b k then [sign * elV b k] else [] := by
    cases q : elB b k
    · rw [elV_none q]; rfl
    · rw [elV_opt q]; rfl
  rw [o1, o2] at hclause
  have HBB := Lib.hid hbb
  have HBC := Lib.hid hbc0
  have HOWN := Lib.hid hown
  have hOut := Lib.hid hout
  clear hcl2 hpost o1 o2 hAdd hba hra hbb hrb hbc0 hown hels hcl hsa hsb hout
  generalize elV a i = x at *
  generalize elB a i = bx at *
  generalize elV b k = y at *
  generalize elB b k = by_ at *
  generalize hp : sign * x = p at *
  generalize hq : sign * y = q at *
  have P1 := Lib.hid p1
  have P2 := Lib.hid p2
  clear p1 p2
  cases bx <;> cases by_
  · have Hp := Lib.hid hp
    have Hq := Lib.hid hq
    clear hp hq P1 P2
    go_enter Try.func45, Try.ntmps45
    go_wp2_with fail
    refine e1.mono ?_
    rintro e w' ⟨rfl, rfl⟩
    have hl0 := Below.refl w.heap.size w
    have hcb := (Boxed.lower HBB.out hl0 lb).cell
    go_wp2_with fail
    refine (E2.out w hl0 (by omega)).mono ?_
    rintro e w' ⟨rfl, rfl⟩
    have hcc := (Boxed.lower HBC.out hl0 lc).cell
    go_wp2_with fail
    refine wp_region_any (by kernel_rfl) ?_
    have hrD : RowI (World.drew w) w.heap.size (.slice none 0 0) [] := RowI.empty _ _
    have hlD : Below w.heap.size w (World.drew w) := below_drewN hl0 1
    change wpAny _ _ _ _ _ _ _ (World.drew w)
    generalize World.drew w = wd at *
    refine take_now (i := 1) (some 43) (v := ?_) rfl (by kernel_rfl) (by kernel_rfl) (by kernel_rfl) (fun _ _ _ h => h) (Or.inl ⟨by rfl, ?_⟩) rfl ?_
    rotate_left
    focus (intro w; go_simp; try with_reducible rfl)
    try simp only [Act.put, List.setIfInBounds_toArray, List.set_cons_zero, List.set_cons_succ]
    refine take_now (i := 2) (some 44) (v := ?_) rfl (by kernel_rfl) (by kernel_rfl) (by kernel_rfl) (fun _ _ _ h => h) (Or.inl ⟨by rfl, ?_⟩) rfl ?_
    rotate_left
    focus (intro w; go_simp; try with_reducible rfl)
    try simp only [Act.put, List.setIfInBounds_toArray, List.set_cons_zero, List.set_cons_succ]
    have hB0 := Boxed.lower HBC.out hlD lc
    have hc0 := hB0.cell
    have hc1 := (hB0.alloc (.cells #[.int .i64 out] 3)).cell
    have hszD := hlD.size
    have hrA := hrD.2.alloc (.cells #[.int .i64 out] 3)
    refine wpAny_ready (rs := [0, 3]) (by kernel_rfl) (by simp) (AllReady.cons rfl (fun K hK => ?_) (AllReady.cons rfl (fun K hK => ?_) AllReady.nil))
    · go_simp
      refine hK _ _ ?_
      clear hK K
      refine wpAny_ready (rs := [3]) (by kernel_rfl) (by simp) (AllReady.cons rfl (fun K hK => ?_) AllReady.nil)
      go_simp
      refine hK _ _ ?_
      clear hK K
      refine wpAny_ready (rs := [4]) (by kernel_rfl) (by simp) (AllReady.cons rfl (fun K hK => ?_) AllReady.nil)
      refine step_append_own rfl (.tmp 43) (.tmp 45) 22 rfl w.heap.size 3 i0 (.int .i64 0) 1 8 underlying22 hi hz0 hz1 hz2 rfl (by decide) (.slice none 0 0) [].length _ (by simp [Act.eval]) hrA ⟨wd.heap.size, 0, none⟩ 1 1 [.int .i64 out] (by simp [Act.eval]) rfl (cell_one_new _ _ _) (by simp [Value.oneCell']) (by unfold maxLen; simp) (by simp) (by simp; omega) ?_
      intro vB wB hownB hgB
      have hrB := RowI.snoc hOut.out hrD.1 hownB
      have hlB := (hlD.alloc hszD (.cells #[.int .i64 out] 3)).grown hgB (by simp; omega) (fun k hk => (hrA.lt k hk).1)
      have hcB : RowI wB w.heap.size vB cl2 := by rw [← hclause.out]; exact hrB
      obtain ⟨AB, cB, rfl, _⟩ := hrB.shape
      have hB2 := Boxed.lower HBC.out hlB lc
      have hc2 := hB2.cell
      have hownC := own_below HOWN.out hlB
      have hszB := hlB.size
      refine hK _ _ ?_
      clear hK K
      refine wpAny_ready (rs := [5]) (by kernel_rfl) (by simp) (AllReady.cons rfl (fun K hK => ?_) AllReady.nil)
      go_simp
      refine hK _ _ ?_
      clear hK K
      refine wpAny_ready (rs := [6]) (by kernel_rfl) (by simp) (AllReady.cons rfl (fun K hK => ?_) AllReady.nil)
      refine step_append_own rfl (.tmp 42) (.tmp 47) 24 rfl base 22 j0 (.slice Option.none 0 0) 1 24 underlying24 hj hy0 hy1 hy2 rfl (by decide) _ vs.length vs (by simp [Act.eval] <;> rfl) (hownC.alloc _) ⟨wB.heap.size, 0, none⟩ 1 1 [_] (by simp [Act.eval]) rfl (cell_one_new _ _ _) (by simp [Value.oneCell']) (by unfold maxLen; omega) (by omega) (by simp; omega) ?_
      intro v' w5 hown5 hgr5
      have hfin := key.out wB _ w5 _ v' hlB hcB rfl hown5 hgr5
      obtain ⟨A5, c5, rfl⟩ := own_shape hown5
      have hcs := hfin.1.cell
      have hfs := hfin.1.frozen
      refine hK _ _ ?_
      clear hK K
      refine wpAny_ready (rs := [7]) (by kernel_rfl) (by simp) (AllReady.cons rfl (fun K hK => ?_) AllReady.nil)
      go_simp
      refine hK _ _ ?_
      clear hK K
      refine wpAny_done (by kernel_rfl) ?_ _
      refine bodyPost_end (results_none rfl _ _ _) rfl ?_
      exact Hpost.out _ hfin.2.1 hfin.2.2
    · go_simp
      refine hK _ _ ?_
      clear hK K
      refine wpAny_ready (rs := [0, 4]) (by kernel_rfl) (by simp) (AllReady.cons rfl (fun K hK => ?_) (AllReady.cons rfl (fun K hK => ?_) AllReady.nil))
      · go_simp
        refine hK _ _ ?_
        clear hK K
        refine wpAny_ready (rs := [4]) (by kernel_rfl) (by simp) (AllReady.cons rfl (fun K hK => ?_) AllReady.nil)
        refine step_append_own rfl (.tmp 43) (.tmp 45) 22 rfl w.heap.size 3 i0 (.int .i64 0) 1 8 underlying22 hi hz0 hz1 hz2 rfl (by decide) (.slice none 0 0) [].length _ (by simp [Act.eval]) hrA ⟨wd.heap.size, 0, none⟩ 1 1 [.int .i64 out] (by simp [Act.eval]) rfl (cell_one_new _ _ _) (by simp [Value.oneCell']) (by unfold maxLen; simp) (by simp) (by simp; omega) ?_
        intro vB wB hownB hgB
        have hrB := RowI.snoc hOut.out hrD.1 hownB
        have hlB := (hlD.alloc hszD (.cells #[.int .i64 out] 3)).grown hgB (by simp; omega) (fun k hk => (hrA.lt k hk).1)
        have hcB : RowI wB w.heap.size vB cl2 := by rw [← hclause.out]; exact hrB
        obtain ⟨AB, cB, rfl, _⟩ := hrB.shape
        have hB2 := Boxed.lower HBC.out hlB lc
        have hc2 := hB2.cell
        have hownC := own_below HOWN.out hlB
        have hszB := hlB.size
        refine hK _ _ ?_
        clear hK K
        refine wpAny_ready (rs := [5]) (by kernel_rfl) (by simp) (AllReady.cons rfl (fun K hK => ?_) AllReady.nil)
        go_simp
        refine hK _ _ ?_
        clear hK K
        refine wpAny_ready (rs := [6]) (by kernel_rfl) (by simp) (AllReady.cons rfl (fun K hK => ?_) AllReady.nil)
        refine step_append_own rfl (.tmp 42) (.tmp 47) 24 rfl base 22 j0 (.slice Option.none 0 0) 1 24 underlying24 hj hy0 hy1 hy2 rfl (by decide) _ vs.length vs (by simp [Act.eval] <;> rfl) (hownC.alloc _) ⟨wB.heap.size, 0, none⟩ 1 1 [_] (by simp [Act.eval]) rfl (cell_one_new _ _ _) (by simp [Value.oneCell']) (by unfold maxLen; omega) (by omega) (by simp; omega) ?_
        intro v' w5 hown5 hgr5
        have hfin := key.out wB _ w5 _ v' hlB hcB rfl hown5 hgr5
        obtain ⟨A5, c5, rfl⟩ := own_shape hown5
        have hcs := hfin.1.cell
        have hfs := hfin.1.frozen
        refine hK _ _ ?_
        clear hK K
        refine wpAny_ready (rs := [7]) (by kernel_rfl) (by simp) (AllReady.cons rfl (fun K hK => ?_) AllReady.nil)
        go_simp
        refine hK _ _ ?_
        clear hK K
        refine wpAny_done (by kernel_rfl) ?_ _
        refine bodyPost_end (results_none rfl _ _ _) rfl ?_
        exact Hpost.out _ hfin.2.1 hfin.2.2
      · refine step_append_own rfl (.tmp 43) (.tmp 45) 22 rfl w.heap.size 3 i0 (.int .i64 0) 1 8 underlying22 hi hz0 hz1 hz2 rfl (by decide) (.slice none 0 0) [].length _ (by simp [Act.eval]) hrA ⟨wd.heap.size, 0, none⟩ 1 1 [.int .i64 out] (by simp [Act.eval]) rfl (cell_one_new _ _ _) (by simp [Value.oneCell']) (by unfold maxLen; simp) (by simp) (by simp; omega) ?_
        intro vB wB hownB hgB
        have hrB := RowI.snoc hOut.out hrD.1 hownB
        have hlB := (hlD.alloc hszD (.cells #[.int .i64 out] 3)).grown hgB (by simp; omega) (fun k hk => (hrA.lt k hk).1)
        have hcB : RowI wB w.heap.size vB cl2 := by rw [← hclause.out]; exact hrB
        obtain ⟨AB, cB, rfl, _⟩ := hrB.shape
        have hB2 := Boxed.lower HBC.out hlB lc
        have hc2 := hB2.cell
        have hownC := own_below HOWN.out hlB
        have hszB := hlB.size
        refine hK _ _ ?_
        clear hK K
        refine wpAny_ready (rs := [0, 5]) (by kernel_rfl) (by simp) (AllReady.cons rfl (fun K hK => ?_) (AllReady.cons rfl (fun K hK => ?_) AllReady.nil))
        · go_simp
          refine hK _ _ ?_
          clear hK K
          refine wpAny_ready (rs := [5]) (by kernel_rfl) (by simp) (AllReady.cons rfl (fun K hK => ?_) AllReady.nil)
          go_simp
          refine hK _ _ ?_
          clear hK K
          refine wpAny_ready (rs := [6]) (by kernel_rfl) (by simp) (AllReady.cons rfl (fun K hK => ?_) AllReady.nil)
          refine step_append_own rfl (.tmp 42) (.tmp 47) 24 rfl base 22 j0 (.slice Option.none 0 0) 1 24 underlying24 hj hy0 hy1 hy2 rfl (by decide) _ vs.length vs (by simp [Act.eval] <;> rfl) (hownC.alloc _) ⟨wB.heap.size, 0, none⟩ 1 1 [_] (by simp [Act.eval]) rfl (cell_one_new _ _ _) (by simp [Value.oneCell']) (by unfold maxLen; omega) (by omega) (by simp; omega) ?_
          intro v' w5 hown5 hgr5
          have hfin := key.out wB _ w5 _ v' hlB hcB rfl hown5 hgr5
          obtain ⟨A5, c5, rfl⟩ := own_shape hown5
          have hcs := hfin.1.cell
          have hfs := hfin.1.frozen
          refine hK _ _ ?_
          clear hK K
          refine wpAny_ready (rs := [7]) (by kernel_rfl) (by simp) (AllReady.cons rfl (fun K hK => ?_) AllReady.nil)
          go_simp
          refine hK _ _ ?_
          clear hK K
          refine wpAny_done (by kernel_rfl) ?_ _
          refine bodyPost_end (results_none rfl _ _ _) rfl ?_
          exact Hpost.out _ hfin.2.1 hfin.2.2
        · go_simp
          have hc3 := (hB2.alloc (.cells #[.slice AB 1 cB] 22)).cell
          refine hK _ _ ?_
          clear hK K
          refine wpAny_ready (rs := [0]) (by kernel_rfl) (by simp) (AllReady.cons rfl (fun K hK => ?_) AllReady.nil)
          go_simp
          refine hK _ _ ?_
          clear hK K
          refine wpAny_ready (rs := [6]) (by kernel_rfl) (by simp) (AllReady.cons rfl (fun K hK => ?_) AllReady.nil)
          refine step_append_own rfl (.tmp 42) (.tmp 47) 24 rfl base 22 j0 (.slice Option.none 0 0) 1 24 underlying24 hj hy0 hy1 hy2 rfl (by decide) _ vs.length vs (by simp [Act.eval] <;> rfl) (hownC.alloc _) ⟨wB.heap.size, 0, none⟩ 1 1 [_] (by simp [Act.eval]) rfl (cell_one_new _ _ _) (by simp [Value.oneCell']) (by unfold maxLen; omega) (by omega) (by simp; omega) ?_
          intro v' w5 hown5 hgr5
          have hfin := key.out wB _ w5 _ v' hlB hcB rfl hown5 hgr5
          obtain ⟨A5, c5, rfl⟩ := own_shape hown5
          have hcs := hfin.1.cell
          have hfs := hfin.1.frozen
          refine hK _ _ ?_
          clear hK K
          refine wpAny_ready (rs := [7]) (by kernel_rfl) (by simp) (AllReady.cons rfl (fun K hK => ?_) AllReady.nil)
          go_simp
          refine hK _ _ ?_
          clear hK K
          refine wpAny_done (by kernel_rfl) ?_ _
          refine bodyPost_end (results_none rfl _ _ _) rfl ?_
          exact Hpost.out _ hfin.2.1 hfin.2.2
  · have hwq := P2.out rfl
    have hq1 : -9223372036854775808 ≤ sign * y := by rw [hq]; exact hwq.1
    have hq2 : sign * y ≤ 9223372036854775807 := by rw [hq]; exact hwq.2
    have Hp := Lib.hid hp
    have Hq := Lib.hid hq
    clear hp hq P1 P2
    go_enter Try.func45, Try.ntmps45
    go_wp2_with fail
    refine e1.mono ?_
    rintro e w' ⟨rfl, rfl⟩
    have hl0 := Below.refl w.heap.size w
    have hcb := (Boxed.lower HBB.out hl0 lb).cell
    go_wp2_with fail
    refine (E2.out w hl0 (by omega)).mono ?_
    rintro e w' ⟨rfl, rfl⟩
    go_wp2_with (at_builtin; rw [Hq.out]; refine wpList_push rfl _ _ rfl w.heap.size (.slice none 0 0) [] rfl (RowI.empty w w.heap.size) q hwq rfl (by simp) hl0.size ?_)
    intro v2 w2 hr2 hl2'
    have hl2 := hl0.trans hl2'
    have hcc := (Boxed.lower HBC.out hl2 lc).cell
    go_wp2_with fail
    refine wp_region_any (by kernel_rfl) ?_
    have hrD : RowI (World.drew w2) w.heap.size v2 [q] := hr2
    have hlD : Below w.heap.size w (World.drew w2) := below_drewN hl2 1
    change wpAny _ _ _ _ _ _ _ (World.drew w2)
    generalize World.drew w2 = wd at *
    refine take_now (i := 1) (some 43) (v := ?_) rfl (by kernel_rfl) (by kernel_rfl) (by kernel_rfl) (fun _ _ _ h => h) (Or.inl ⟨by rfl, ?_⟩) rfl ?_
    rotate_left
    focus (intro w; go_simp; try with_reducible rfl)
    try simp only [Act.put, List.setIfInBounds_toArray, List.set_cons_zero, List.set_cons_succ]
    refine take_now (i := 2) (some 44) (v := ?_) rfl (by kernel_rfl) (by kernel_rfl) (by kernel_rfl) (fun _ _ _ h => h) (Or.inl ⟨by rfl, ?_⟩) rfl ?_
    rotate_left
    focus (intro w; go_simp; try with_reducible rfl)
    try simp only [Act.put, List.setIfInBounds_toArray, List.set_cons_zero, List.set_cons_succ]
    have hB0 := Boxed.lower HBC.out hlD lc
    have hc0 := hB0.cell
    have hc1 := (hB0.alloc (.cells #[.int .i64 out] 3)).cell
    have hszD := hlD.size
    have hrA := hrD.2.alloc (.cells #[.int .i64 out] 3)
    refine wpAny_ready (rs := [0, 3]) (by kernel_rfl) (by simp) (AllReady.cons rfl (fun K hK => ?_) (AllReady.cons rfl (fun K hK => ?_) AllReady.nil))
    · go_simp
      refine hK _ _ ?_
      clear hK K
      refine wpAny_ready (rs := [3]) (by kernel_rfl) (by simp) (AllReady.cons rfl (fun K hK => ?_) AllReady.nil)
      go_simp
      refine hK _ _ ?_
      clear hK K
      refine wpAny_ready (rs := [4]) (by kernel_rfl) (by simp) (AllReady.cons rfl (fun K hK => ?_) AllReady.nil)
      refine step_append_own rfl (.tmp 43) (.tmp 45) 22 rfl w.heap.size 3 i0 (.int .i64 0) 1 8 underlying22 hi hz0 hz1 hz2 rfl (by decide) v2 [q].length _ (by simp [Act.eval]) hrA ⟨wd.heap.size, 0, none⟩ 1 1 [.int .i64 out] (by simp [Act.eval]) rfl (cell_one_new _ _ _) (by simp [Value.oneCell']) (by unfold maxLen; simp) (by simp) (by simp; omega) ?_
      intro vB wB hownB hgB
      have hrB := RowI.snoc hOut.out hrD.1 hownB
      have hlB := (hlD.alloc hszD (.cells #[.int .i64 out] 3)).grown hgB (by simp; omega) (fun k hk => (hrA.lt k hk).1)
      have hcB : RowI wB w.heap.size vB cl2 := by rw [← hclause.out]; exact hrB
      obtain ⟨AB, cB, rfl, _⟩ := hrB.shape
      have hB2 := Boxed.lower HBC.out hlB lc
      have hc2 := hB2.cell
      have hownC := own_below HOWN.out hlB
      have hszB := hlB.size
      refine hK _ _ ?_
      clear hK K
      refine wpAny_ready (rs := [5]) (by kernel_rfl) (by simp) (AllReady.cons rfl (fun K hK => ?_) AllReady.nil)
      go_simp
      refine hK _ _ ?_
      clear hK K
      refine wpAny_ready (rs := [6]) (by kernel_rfl) (by simp) (AllReady.cons rfl (fun K hK => ?_) AllReady.nil)
      refine step_append_own rfl (.tmp 42) (.tmp 47) 24 rfl base 22 j0 (.slice Option.none 0 0) 1 24 underlying24 hj hy0 hy1 hy2 rfl (by decide) _ vs.length vs (by simp [Act.eval] <;> rfl) (hownC.alloc _) ⟨wB.heap.size, 0, none⟩ 1 1 [_] (by simp [Act.eval]) rfl (cell_one_new _ _ _) (by simp [Value.oneCell']) (by unfold maxLen; omega) (by omega) (by simp; omega) ?_
      intro v' w5 hown5 hgr5
      have hfin := key.out wB _ w5 _ v' hlB hcB rfl hown5 hgr5
      obtain ⟨A5, c5, rfl⟩ := own_shape hown5
      have hcs := hfin.1.cell
      have hfs := hfin.1.frozen
      refine hK _ _ ?_
      clear hK K
      refine wpAny_ready (rs := [7]) (by kernel_rfl) (by simp) (AllReady.cons rfl (fun K hK => ?_) AllReady.nil)
      go_simp
      refine hK _ _ ?_
      clear hK K
      refine wpAny_done (by kernel_rfl) ?_ _
      refine bodyPost_end (results_none rfl _ _ _) rfl ?_
      exact Hpost.out _ hfin.2.1 hfin.2.2
    · go_simp
      refine hK _ _ ?_
      clear hK K
      refine wpAny_ready (rs := [0, 4]) (by kernel_rfl) (by simp) (AllReady.cons rfl (fun K hK => ?_) (AllReady.cons rfl (fun K hK => ?_) AllReady.nil))
      · go_simp
        refine hK _ _ ?_
        clear hK K
        refine wpAny_ready (rs := [4]) (by kernel_rfl) (by simp) (AllReady.cons rfl (fun K hK => ?_) AllReady.nil)
        refine step_append_own rfl (.tmp 43) (.tmp 45) 22 rfl w.heap.size 3 i0 (.int .i64 0) 1 8 underlying22 hi hz0 hz1 hz2 rfl (by decide) v2 [q].length _ (by simp [Act.eval]) hrA ⟨wd.heap.size, 0, none⟩ 1 1 [.int .i64 out] (by simp [Act.eval]) rfl (cell_one_new _ _ _) (by simp [Value.oneCell']) (by unfold maxLen; simp) (by simp) (by simp; omega) ?_
        intro vB wB hownB hgB
        have hrB := RowI.snoc hOut.out hrD.1 hownB
        have hlB := (hlD.alloc hszD (.cells #[.int .i64 out] 3)).grown hgB (by simp; omega) (fun k hk => (hrA.lt k hk).1)
        have hcB : RowI wB w.heap.size vB cl2 := by rw [← hclause.out]; exact hrB
        obtain ⟨AB, cB, rfl, _⟩ := hrB.shape
        have hB2 := Boxed.lower HBC.out hlB lc
        have hc2 := hB2.cell
        have hownC := own_below HOWN.out hlB
        have hszB := hlB.size
        refine hK _ _ ?_
        clear hK K
        refine wpAny_ready (rs := [5]) (by kernel_rfl) (by simp) (AllReady.cons rfl (fun K hK => ?_) AllReady.nil)
        go_simp
        refine hK _ _ ?_
        clear hK K
        refine wpAny_ready (rs := [6]) (by kernel_rfl) (by simp) (AllReady.cons rfl (fun K hK => ?_) AllReady.nil)
        refine step_append_own rfl (.tmp 42) (.tmp 47) 24 rfl base 22 j0 (.slice Option.none 0 0) 1 24 underlying24 hj hy0 hy1 hy2 rfl (by decide) _ vs.length vs (by simp [Act.eval] <;> rfl) (hownC.alloc _) ⟨wB.heap.size, 0, none⟩ 1 1 [_] (by simp [Act.eval]) rfl (cell_one_new _ _ _) (by simp [Value.oneCell']) (by unfold maxLen; omega) (by omega) (by simp; omega) ?_
        intro v' w5 hown5 hgr5
        have hfin := key.out wB _ w5 _ v' hlB hcB rfl hown5 hgr5
        obtain ⟨A5, c5, rfl⟩ := own_shape hown5
        have hcs := hfin.1.cell
        have hfs := hfin.1.frozen
        refine hK _ _ ?_
        clear hK K
        refine wpAny_ready (rs := [7]) (by kernel_rfl) (by simp) (AllReady.cons rfl (fun K hK => ?_) AllReady.nil)
        go_simp
        refine hK _ _ ?_
        clear hK K
        refine wpAny_done (by kernel_rfl) ?_ _
        refine bodyPost_end (results_none rfl _ _ _) rfl ?_
        exact Hpost.out _ hfin.2.1 hfin.2.2
      · refine step_append_own rfl (.tmp 43) (.tmp 45) 22 rfl w.heap.size 3 i0 (.int .i64 0) 1 8 underlying22 hi hz0 hz1 hz2 rfl (by decide) v2 [q].length _ (by simp [Act.eval]) hrA ⟨wd.heap.size, 0, none⟩ 1 1 [.int .i64 out] (by simp [Act.eval]) rfl (cell_one_new _ _ _) (by simp [Value.oneCell']) (by unfold maxLen; simp) (by simp) (by simp; omega) ?_
        intro vB wB hownB hgB
        have hrB := RowI.snoc hOut.out hrD.1 hownB
        have hlB := (hlD.alloc hszD (.cells #[.int .i64 out] 3)).grown hgB (by simp; omega) (fun k hk => (hrA.lt k hk).1)
        have hcB : RowI wB w.heap.size vB cl2 := by rw [← hclause.out]; exact hrB
        obtain ⟨AB, cB, rfl, _⟩ := hrB.shape
        have hB2 := Boxed.lower HBC.out hlB lc
        have hc2 := hB2.cell
        have hownC := own_below HOWN.out hlB
        have hszB := hlB.size
        refine hK _ _ ?_
        clear hK K
        refine wpAny_ready (rs := [0, 5]) (by kernel_rfl) (by simp) (AllReady.cons rfl (fun K hK => ?_) (AllReady.cons rfl (fun K hK => ?_) AllReady.nil))
        · go_simp
          refine hK _ _ ?_
          clear hK K
          refine wpAny_ready (rs := [5]) (by kernel_rfl) (by simp) (AllReady.cons rfl (fun K hK => ?_) AllReady.nil)
          go_simp
          refine hK _ _ ?_
          clear hK K
          refine wpAny_ready (rs := [6]) (by kernel_rfl) (by simp) (AllReady.cons rfl (fun K hK => ?_) AllReady.nil)
          refine step_append_own rfl (.tmp 42) (.tmp 47) 24 rfl base 22 j0 (.slice Option.none 0 0) 1 24 underlying24 hj hy0 hy1 hy2 rfl (by decide) _ vs.length vs (by simp [Act.eval] <;> rfl) (hownC.alloc _) ⟨wB.heap.size, 0, none⟩ 1 1 [_] (by simp [Act.eval]) rfl (cell_one_new _ _ _) (by simp [Value.oneCell']) (by unfold maxLen; omega) (by omega) (by simp; omega) ?_
          intro v' w5 hown5 hgr5
          have hfin := key.out wB _ w5 _ v' hlB hcB rfl hown5 hgr5
          obtain ⟨A5, c5, rfl⟩ := own_shape hown5
          have hcs := hfin.1.cell
          have hfs := hfin.1.frozen
          refine hK _ _ ?_
          clear hK K
          refine wpAny_ready (rs := [7]) (by kernel_rfl) (by simp) (AllReady.cons rfl (fun K hK => ?_) AllReady.nil)
          go_simp
          refine hK _ _ ?_
          clear hK K
          refine wpAny_done (by kernel_rfl) ?_ _
          refine bodyPost_end (results_none rfl _ _ _) rfl ?_
          exact Hpost.out _ hfin.2.1 hfin.2.2
        · go_simp
          have hc3 := (hB2.alloc (.cells #[.slice AB 2 cB] 22)).cell
          refine hK _ _ ?_
          clear hK K
          refine wpAny_ready (rs := [0]) (by kernel_rfl) (by simp) (AllReady.cons rfl (fun K hK => ?_) AllReady.nil)
          go_simp
          refine hK _ _ ?_
          clear hK K
          refine wpAny_ready (rs := [6]) (by kernel_rfl) (by simp) (AllReady.cons rfl (fun K hK => ?_) AllReady.nil)
          refine step_append_own rfl (.tmp 42) (.tmp 47) 24 rfl base 22 j0 (.slice Option.none 0 0) 1 24 underlying24 hj hy0 hy1 hy2 rfl (by decide) _ vs.length vs (by simp [Act.eval] <;> rfl) (hownC.alloc _) ⟨wB.heap.size, 0, none⟩ 1 1 [_] (by simp [Act.eval]) rfl (cell_one_new _ _ _) (by simp [Value.oneCell']) (by unfold maxLen; omega) (by omega) (by simp; omega) ?_
          intro v' w5 hown5 hgr5
          have hfin := key.out wB _ w5 _ v' hlB hcB rfl hown5 hgr5
          obtain ⟨A5, c5, rfl⟩ := own_shape hown5
          have hcs := hfin.1.cell
          have hfs := hfin.1.frozen
          refine hK _ _ ?_
          clear hK K
          refine wpAny_ready (rs := [7]) (by kernel_rfl) (by simp) (AllReady.cons rfl (fun K hK => ?_) AllReady.nil)
          go_simp
          refine hK _ _ ?_
          clear hK K
          refine wpAny_done (by kernel_rfl) ?_ _
          refine bodyPost_end (results_none rfl _ _ _) rfl ?_
          exact Hpost.out _ hfin.2.1 hfin.2.2
  · have hwp := P1.out rfl
    have hp1 : -9223372036854775808 ≤ sign * x := by rw [hp]; exact hwp.1
    have hp2 : sign * x ≤ 9223372036854775807 := by rw [hp]; exact hwp.2
    have Hp := Lib.hid hp
    have Hq := Lib.hid hq
    clear hp hq P1 P2
    go_enter Try.func45, Try.ntmps45
    go_wp2_with fail
    refine e1.mono ?_
    rintro e w' ⟨rfl, rfl⟩
    go_wp2_with (at_builtin; rw [Hp.out]; refine wpList_push rfl _ _ rfl w.heap.size (.slice none 0 0) [] rfl (RowI.empty w w.heap.size) p hwp rfl (by simp) (Nat.le_refl _) ?_)
    intro v1 w1 hr1 hl1
    have hcb := (Boxed.lower HBB.out hl1 lb).cell
    go_wp2_with fail
    refine (E2.out w1 hl1 (by omega)).mono ?_
    rintro e w' ⟨rfl, rfl⟩
    have hcc := (Boxed.lower HBC.out hl1 lc).cell
    go_wp2_with fail
    refine wp_region_any (by kernel_rfl) ?_
    have hrD : RowI (World.drew w1) w.heap.size v1 [p] := hr1
    have hlD : Below w.heap.size w (World.drew w1) := below_drewN hl1 1
    change wpAny _ _ _ _ _ _ _ (World.drew w1)
    generalize World.drew w1 = wd at *
    refine take_now (i := 1) (some 43) (v := ?_) rfl (by kernel_rfl) (by kernel_rfl) (by kernel_rfl) (fun _ _ _ h => h) (Or.inl ⟨by rfl, ?_⟩) rfl ?_
    rotate_left
    focus (intro w; go_simp; try with_reducible rfl)
    try simp only [Act.put, List.setIfInBounds_toArray, List.set_cons_zero, List.set_cons_succ]
    refine take_now (i := 2) (some 44) (v := ?_) rfl (by kernel_rfl) (by kernel_rfl) (by kernel_rfl) (fun _ _ _ h => h) (Or.inl ⟨by rfl, ?_⟩) rfl ?_
    rotate_left
    focus (intro w; go_simp; try with_reducible rfl)
    try simp only [Act.put, List.setIfInBounds_toArray, List.set_cons_zero, List.set_cons_succ]
    have hB0 := Boxed.lower HBC.out hlD lc
    have hc0 := hB0.cell
    have hc1 := (hB0.alloc (.cells #[.int .i64 out] 3)).cell
    have hszD := hlD.size
    have hrA := hrD.2.alloc (.cells #[.int .i64 out] 3)
    refine wpAny_ready (rs := [0, 3]) (by kernel_rfl) (by simp) (AllReady.cons rfl (fun K hK => ?_) (AllReady.cons rfl (fun K hK => ?_) AllReady.nil))
    · go_simp
      refine hK _ _ ?_
      clear hK K
      refine wpAny_ready (rs := [3]) (by kernel_rfl) (by simp) (AllReady.cons rfl (fun K hK => ?_) AllReady.nil)
      go_simp
      refine hK _ _ ?_
      clear hK K
      refine wpAny_ready (rs := [4]) (by kernel_rfl) (by simp) (AllReady.cons rfl (fun K hK => ?_) AllReady.nil)
      refine step_append_own rfl (.tmp 43) (.tmp 45) 22 rfl w.heap.size 3 i0 (.int .i64 0) 1 8 underlying22 hi hz0 hz1 hz2 rfl (by decide) v1 [p].length _ (by simp [Act.eval]) hrA ⟨wd.heap.size, 0, none⟩ 1 1 [.int .i64 out] (by simp [Act.eval]) rfl (cell_one_new _ _ _) (by simp [Value.oneCell']) (by unfold maxLen; simp) (by simp) (by simp; omega) ?_
      intro vB wB hownB hgB
      have hrB := RowI.snoc hOut.out hrD.1 hownB
      have hlB := (hlD.alloc hszD (.cells #[.int .i64 out] 3)).grown hgB (by simp; omega) (fun k hk => (hrA.lt k hk).1)
      have hcB : RowI wB w.heap.size vB cl2 := by rw [← hclause.out]; exact hrB
      obtain ⟨AB, cB, rfl, _⟩ := hrB.shape
      have hB2 := Boxed.lower HBC.out hlB lc
      have hc2 := hB2.cell
      have hownC := own_below HOWN.out hlB
      have hszB := hlB.size
      refine hK _ _ ?_
      clear hK K
      refine wpAny_ready (rs := [5]) (by kernel_rfl) (by simp) (AllReady.cons rfl (fun K hK => ?_) AllReady.nil)
      go_simp
      refine hK _ _ ?_
      clear hK K
      refine wpAny_ready (rs := [6]) (by kernel_rfl) (by simp) (AllReady.cons rfl (fun K hK => ?_) AllReady.nil)
      refine step_append_own rfl (.tmp 42) (.tmp 47) 24 rfl base 22 j0 (.slice Option.none 0 0) 1 24 underlying24 hj hy0 hy1 hy2 rfl (by decide) _ vs.length vs (by simp [Act.eval] <;> rfl) (hownC.alloc _) ⟨wB.heap.size, 0, none⟩ 1 1 [_] (by simp [Act.eval]) rfl (cell_one_new _ _ _) (by simp [Value.oneCell']) (by unfold maxLen; omega) (by omega) (by simp; omega) ?_
      intro v' w5 hown5 hgr5
      have hfin := key.out wB _ w5 _ v' hlB hcB rfl hown5 hgr5
      obtain ⟨A5, c5, rfl⟩ := own_shape hown5
      have hcs := hfin.1.cell
      have hfs := hfin.1.frozen
      refine hK _ _ ?_
      clear hK K
      refine wpAny_ready (rs := [7]) (by kernel_rfl) (by simp) (AllReady.cons rfl (fun K hK => ?_) AllReady.nil)
      go_simp
      refine hK _ _ ?_
      clear hK K
      refine wpAny_done (by kernel_rfl) ?_ _
      refine bodyPost_end (results_none rfl _ _ _) rfl ?_
      exact Hpost.out _ hfin.2.1 hfin.2.2
    · go_simp
      refine hK _ _ ?_
      clear hK K
      refine wpAny_ready (rs := [0, 4]) (by kernel_rfl) (by simp) (AllReady.cons rfl (fun K hK => ?_) (AllReady.cons rfl (fun K hK => ?_) AllReady.nil))
      · go_simp
        refine hK _ _ ?_
        clear hK K
        refine wpAny_ready (rs := [4]) (by kernel_rfl) (by simp) (AllReady.cons rfl (fun K hK => ?_) AllReady.nil)
        refine step_append_own rfl (.tmp 43) (.tmp 45) 22 rfl w.heap.size 3 i0 (.int .i64 0) 1 8 underlying22 hi hz0 hz1 hz2 rfl (by decide) v1 [p].length _ (by simp [Act.eval]) hrA ⟨wd.heap.size, 0, none⟩ 1 1 [.int .i64 out] (by simp [Act.eval]) rfl (cell_one_new _ _ _) (by simp [Value.oneCell']) (by unfold maxLen; simp) (by simp) (by simp; omega) ?_
        intro vB wB hownB hgB
        have hrB := RowI.snoc hOut.out hrD.1 hownB
        have hlB := (hlD.alloc hszD (.cells #[.int .i64 out] 3)).grown hgB (by simp; omega) (fun k hk => (hrA.lt k hk).1)
        have hcB : RowI wB w.heap.size vB cl2 := by rw [← hclause.out]; exact hrB
        obtain ⟨AB, cB, rfl, _⟩ := hrB.shape
        have hB2 := Boxed.lower HBC.out hlB lc
        have hc2 := hB2.cell
        have hownC := own_below HOWN.out hlB
        have hszB := hlB.size
        refine hK _ _ ?_
        clear hK K
        refine wpAny_ready (rs := [5]) (by kernel_rfl) (by simp) (AllReady.cons rfl (fun K hK => ?_) AllReady.nil)
        go_simp
        refine hK _ _ ?_
        clear hK K
        refine wpAny_ready (rs := [6]) (by kernel_rfl) (by simp) (AllReady.cons rfl (fun K hK => ?_) AllReady.nil)
        refine step_append_own rfl (.tmp 42) (.tmp 47) 24 rfl base 22 j0 (.slice Option.none 0 0) 1 24 underlying24 hj hy0 hy1 hy2 rfl (by decide) _ vs.length vs (by simp [Act.eval] <;> rfl) (hownC.alloc _) ⟨wB.heap.size, 0, none⟩ 1 1 [_] (by simp [Act.eval]) rfl (cell_one_new _ _ _) (by simp [Value.oneCell']) (by unfold maxLen; omega) (by omega) (by simp; omega) ?_
        intro v' w5 hown5 hgr5
        have hfin := key.out wB _ w5 _ v' hlB hcB rfl hown5 hgr5
        obtain ⟨A5, c5, rfl⟩ := own_shape hown5
        have hcs := hfin.1.cell
        have hfs := hfin.1.frozen
        refine hK _ _ ?_
        clear hK K
        refine wpAny_ready (rs := [7]) (by kernel_rfl) (by simp) (AllReady.cons rfl (fun K hK => ?_) AllReady.nil)
        go_simp
        refine hK _ _ ?_
        clear hK K
        refine wpAny_done (by kernel_rfl) ?_ _
        refine bodyPost_end (results_none rfl _ _ _) rfl ?_
        exact Hpost.out _ hfin.2.1 hfin.2.2
      · refine step_append_own rfl (.tmp 43) (.tmp 45) 22 rfl w.heap.size 3 i0 (.int .i64 0) 1 8 underlying22 hi hz0 hz1 hz2 rfl (by decide) v1 [p].length _ (by simp [Act.eval]) hrA ⟨wd.heap.size, 0, none⟩ 1 1 [.int .i64 out] (by simp [Act.eval]) rfl (cell_one_new _ _ _) (by simp [Value.oneCell']) (by unfold maxLen; simp) (by simp) (by simp; omega) ?_
        intro vB wB hownB hgB
        have hrB := RowI.snoc hOut.out hrD.1 hownB
        have hlB := (hlD.alloc hszD (.cells #[.int .i64 out] 3)).grown hgB (by simp; omega) (fun k hk => (hrA.lt k hk).1)
        have hcB : RowI wB w.heap.size vB cl2 := by rw [← hclause.out]; exact hrB
        obtain ⟨AB, cB, rfl, _⟩ := hrB.shape
        have hB2 := Boxed.lower HBC.out hlB lc
        have hc2 := hB2.cell
        have hownC := own_below HOWN.out hlB
        have hszB := hlB.size
        refine hK _ _ ?_
        clear hK K
        refine wpAny_ready (rs := [0, 5]) (by kernel_rfl) (by simp) (AllReady.cons rfl (fun K hK => ?_) (AllReady.cons rfl (fun K hK => ?_) AllReady.nil))
        · go_simp
          refine hK _ _ ?_
          clear hK K
          refine wpAny_ready (rs := [5]) (by kernel_rfl) (by simp) (AllReady.cons rfl (fun K hK => ?_) AllReady.nil)
          go_simp
          refine hK _ _ ?_
          clear hK K
          refine wpAny_ready (rs := [6]) (by kernel_rfl) (by simp) (AllReady.cons rfl (fun K hK => ?_) AllReady.nil)
          refine step_append_own rfl (.tmp 42) (.tmp 47) 24 rfl base 22 j0 (.slice Option.none 0 0) 1 24 underlying24 hj hy0 hy1 hy2 rfl (by decide) _ vs.length vs (by simp [Act.eval] <;> rfl) (hownC.alloc _) ⟨wB.heap.size, 0, none⟩ 1 1 [_] (by simp [Act.eval]) rfl (cell_one_new _ _ _) (by simp [Value.oneCell']) (by unfold maxLen; omega) (by omega) (by simp; omega) ?_
          intro v' w5 hown5 hgr5
          have hfin := key.out wB _ w5 _ v' hlB hcB rfl hown5 hgr5
          obtain ⟨A5, c5, rfl⟩ := own_shape hown5
          have hcs := hfin.1.cell
          have hfs := hfin.1.frozen
          refine hK _ _ ?_
          clear hK K
          refine wpAny_ready (rs := [7]) (by kernel_rfl) (by simp) (AllReady.cons rfl (fun K hK => ?_) AllReady.nil)
          go_simp
          refine hK _ _ ?_
          clear hK K
          refine wpAny_done (by kernel_rfl) ?_ _
          refine bodyPost_end (results_none rfl _ _ _) rfl ?_
          exact Hpost.out _ hfin.2.1 hfin.2.2
        · go_simp
          have hc3 := (hB2.alloc (.cells #[.slice AB 2 cB] 22)).cell
          refine hK _ _ ?_
          clear hK K
          refine wpAny_ready (rs := [0]) (by kernel_rfl) (by simp) (AllReady.cons rfl (fun K hK => ?_) AllReady.nil)
          go_simp
          refine hK _ _ ?_
          clear hK K
          refine wpAny_ready (rs := [6]) (by kernel_rfl) (by simp) (AllReady.cons rfl (fun K hK => ?_) AllReady.nil)
          refine step_append_own rfl (.tmp 42) (.tmp 47) 24 rfl base 22 j0 (.slice Option.none 0 0) 1 24 underlying24 hj hy0 hy1 hy2 rfl (by decide) _ vs.length vs (by simp [Act.eval] <;> rfl) (hownC.alloc _) ⟨wB.heap.size, 0, none⟩ 1 1 [_] (by simp [Act.eval]) rfl (cell_one_new _ _ _) (by simp [Value.oneCell']) (by unfold maxLen; omega) (by omega) (by simp; omega) ?_
          intro v' w5 hown5 hgr5
          have hfin := key.out wB _ w5 _ v' hlB hcB rfl hown5 hgr5
          obtain ⟨A5, c5, rfl⟩ := own_shape hown5
          have hcs := hfin.1.cell
          have hfs := hfin.1.frozen
          refine hK _ _ ?_
          clear hK K
          refine wpAny_ready (rs := [7]) (by kernel_rfl) (by simp) (AllReady.cons rfl (fun K hK => ?_) AllReady.nil)
          go_simp
          refine hK _ _ ?_
          clear hK K
          refine wpAny_done (by kernel_rfl) ?_ _
          refine bodyPost_end (results_none rfl _ _ _) rfl ?_
          exact Hpost.out _ hfin.2.1 hfin.2.2
  · have hwp := P1.out rfl
    have hp1 : -9223372036854775808 ≤ sign * x := by rw [hp]; exact hwp.1
    have hp2 : sign * x ≤ 9223372036854775807 := by rw [hp]; exact hwp.2
    have hwq := P2.out rfl
    have hq1 : -9223372036854775808 ≤ sign * y := by rw [hq]; exact hwq.1
    have hq2 : sign * y ≤ 9223372036854775807 := by rw [hq]; exact hwq.2
    have Hp := Lib.hid hp
    have Hq := Lib.hid hq
    clear hp hq P1 P2
    go_enter Try.func45, Try.ntmps45
    go_wp2_with fail
    refine e1.mono ?_
    rintro e w' ⟨rfl, rfl⟩
    go_wp2_with (at_builtin; rw [Hp.out]; refine wpList_push rfl _ _ rfl w.heap.size (.slice none 0 0) [] rfl (RowI.empty w w.heap.size) p hwp rfl (by simp) (Nat.le_refl _) ?_)
    intro v1 w1 hr1 hl1
    have hcb := (Boxed.lower HBB.out hl1 lb).cell
    go_wp2_with fail
    refine (E2.out w1 hl1 (by omega)).mono ?_
    rintro e w' ⟨rfl, rfl⟩
    go_wp2_with (at_builtin; rw [Hq.out]; refine wpList_push rfl _ _ rfl w.heap.size v1 [p] rfl hr1 q hwq rfl (by simp) hl1.size ?_)
    intro v2 w2 hr2 hl2'
    have hl2 := hl1.trans hl2'
    have hcc := (Boxed.lower HBC.out hl2 lc).cell
    go_wp2_with fail
    refine wp_region_any (by kernel_rfl) ?_
    have hrD : RowI (World.drew w2) w.heap.size v2 [p, q] := hr2
    have hlD : Below w.heap.size w (World.drew w2) := below_drewN hl2 1
    change wpAny _ _ _ _ _ _ _ (World.drew w2)
    generalize World.drew w2 = wd at *
    refine take_now (i := 1) (some 43) (v := ?_) rfl (by kernel_rfl) (by kernel_rfl) (by kernel_rfl) (fun _ _ _ h => h) (Or.inl ⟨by rfl, ?_⟩) rfl ?_
    rotate_left
    focus (intro w; go_simp; try with_reducible rfl)
    try simp only [Act.put, List.setIfInBounds_toArray, List.set_cons_zero, List.set_cons_succ]
    refine take_now (i := 2) (some 44) (v := ?_) rfl (by kernel_rfl) (by kernel_rfl) (by kernel_rfl) (fun _ _ _ h => h) (Or.inl ⟨by rfl, ?_⟩) rfl ?_
    rotate_left
    focus (intro w; go_simp; try with_reducible rfl)
    try simp only [Act.put, List.setIfInBounds_toArray, List.set_cons_zero, List.set_cons_succ]
    have hB0 := Boxed.lower HBC.out hlD lc
    have hc0 := hB0.cell
    have hc1 := (hB0.alloc (.cells #[.int .i64 out] 3)).cell
    have hszD := hlD.size
    have hrA := hrD.2.alloc (.cells #[.int .i64 out] 3)
    refine wpAny_ready (rs := [0, 3]) (by kernel_rfl) (by simp) (AllReady.cons rfl (fun K hK => ?_) (AllReady.cons rfl (fun K hK => ?_) AllReady.nil))
    · go_simp
      refine hK _ _ ?_
      clear hK K
      refine wpAny_ready (rs := [3]) (by kernel_rfl) (by simp) (AllReady.cons rfl (fun K hK => ?_) AllReady.nil)
      go_simp
      refine hK _ _ ?_
      clear hK K
      refine wpAny_ready (rs := [4]) (by kernel_rfl) (by simp) (AllReady.cons rfl (fun K hK => ?_) AllReady.nil)
      refine step_append_own rfl (.tmp 43) (.tmp 45) 22 rfl w.heap.size 3 i0 (.int .i64 0) 1 8 underlying22 hi hz0 hz1 hz2 rfl (by decide) v2 [p, q].length _ (by simp [Act.eval]) hrA ⟨wd.heap.size, 0, none⟩ 1 1 [.int .i64 out] (by simp [Act.eval]) rfl (cell_one_new _ _ _) (by simp [Value.oneCell']) (by unfold maxLen; simp) (by simp) (by simp; omega) ?_
      intro vB wB hownB hgB
      have hrB := RowI.snoc hOut.out hrD.1 hownB
      have hlB := (hlD.alloc hszD (.cells #[.int .i64 out] 3)).grown hgB (by simp; omega) (fun k hk => (hrA.lt k hk).1)
      have hcB : RowI wB w.heap.size vB cl2 := by rw [← hclause.out]; exact hrB
      obtain ⟨AB, cB, rfl, _⟩ := hrB.shape
      have hB2 := Boxed.lower HBC.out hlB lc
      have hc2 := hB2.cell
      have hownC := own_below HOWN.out hlB
      have hszB := hlB.size
      refine hK _ _ ?_
      clear hK K
      refine wpAny_ready (rs := [5]) (by kernel_rfl) (by simp) (AllReady.cons rfl (fun K hK => ?_) AllReady.nil)
      go_simp
      refine hK _ _ ?_
      clear hK K
      refine wpAny_ready (rs := [6]) (by kernel_rfl) (by simp) (AllReady.cons rfl (fun K hK => ?_) AllReady.nil)
      refine step_append_own rfl (.tmp 42) (.tmp 47) 24 rfl base 22 j0 (.slice Option.none 0 0) 1 24 underlying24 hj hy0 hy1 hy2 rfl (by decide) _ vs.length vs (by simp [Act.eval] <;> rfl) (hownC.alloc _) ⟨wB.heap.size, 0, none⟩ 1 1 [_] (by simp [Act.eval]) rfl (cell_one_new _ _ _) (by simp [Value.oneCell']) (by unfold maxLen; omega) (by omega) (by simp; omega) ?_
      intro v' w5 hown5 hgr5
      have hfin := key.out wB _ w5 _ v' hlB hcB rfl hown5 hgr5
      obtain ⟨A5, c5, rfl⟩ := own_shape hown5
      have hcs := hfin.1.cell
      have hfs := hfin.1.frozen
      refine hK _ _ ?_
      clear hK K
      refine wpAny_ready (rs := [7]) (by kernel_rfl) (by simp) (AllReady.cons rfl (fun K hK => ?_) AllReady.nil)
      go_simp
      refine hK _ _ ?_
      clear hK K
      refine wpAny_done (by kernel_rfl) ?_ _
      refine bodyPost_end (results_none rfl _ _ _) rfl ?_
      exact Hpost.out _ hfin.2.1 hfin.2.2
    · go_simp
      refine hK _ _ ?_
      clear hK K
      refine wpAny_ready (rs := [0, 4]) (by kernel_rfl) (by simp) (AllReady.cons rfl (fun K hK => ?_) (AllReady.cons rfl (fun K hK => ?_) AllReady.nil))
      · go_simp
        refine hK _ _ ?_
        clear hK K
        refine wpAny_ready (rs := [4]) (by kernel_rfl) (by simp) (AllReady.cons rfl (fun K hK => ?_) AllReady.nil)
        refine step_append_own rfl (.tmp 43) (.tmp 45) 22 rfl w.heap.size 3 i0 (.int .i64 0) 1 8 underlying22 hi hz0 hz1 hz2 rfl (by decide) v2 [p, q].length _ (by simp [Act.eval]) hrA ⟨wd.heap.size, 0, none⟩ 1 1 [.int .i64 out] (by simp [Act.eval]) rfl (cell_one_new _ _ _) (by simp [Value.oneCell']) (by unfold maxLen; simp) (by simp) (by simp; omega) ?_
        intro vB wB hownB hgB
        have hrB := RowI.snoc hOut.out hrD.1 hownB
        have hlB := (hlD.alloc hszD (.cells #[.int .i64 out] 3)).grown hgB (by simp; omega) (fun k hk => (hrA.lt k hk).1)
        have hcB : RowI wB w.heap.size vB cl2 := by rw [← hclause.out]; exact hrB
        obtain ⟨AB, cB, rfl, _⟩ := hrB.shape
        have hB2 := Boxed.lower HBC.out hlB lc
        have hc2 := hB2.cell
        have hownC := own_below HOWN.out hlB
        have hszB := hlB.size
        refine hK _ _ ?_
        clear hK K
        refine wpAny_ready (rs := [5]) (by kernel_rfl) (by simp) (AllReady.cons rfl (fun K hK => ?_) AllReady.nil)
        go_simp
        refine hK _ _ ?_
        clear hK K
        refine wpAny_ready (rs := [6]) (by kernel_rfl) (by simp) (AllReady.cons rfl (fun K hK => ?_) AllReady.nil)
        refine step_append_own rfl (.tmp 42) (.tmp 47) 24 rfl base 22 j0 (.slice Option.none 0 0) 1 24 underlying24 hj hy0 hy1 hy2 rfl (by decide) _ vs.length vs (by simp [Act.eval] <;> rfl) (hownC.alloc _) ⟨wB.heap.size, 0, none⟩ 1 1 [_] (by simp [Act.eval]) rfl (cell_one_new _ _ _) (by simp [Value.oneCell']) (by unfold maxLen; omega) (by omega) (by simp; omega) ?_
        intro v' w5 hown5 hgr5
        have hfin := key.out wB _ w5 _ v' hlB hcB rfl hown5 hgr5
        obtain ⟨A5, c5, rfl⟩ := own_shape hown5
        have hcs := hfin.1.cell
        have hfs := hfin.1.frozen
        refine hK _ _ ?_
        clear hK K
        refine wpAny_ready (rs := [7]) (by kernel_rfl) (by simp) (AllReady.cons rfl (fun K hK => ?_) AllReady.nil)
        go_simp
        refine hK _ _ ?_
        clear hK K
        refine wpAny_done (by kernel_rfl) ?_ _
        refine bodyPost_end (results_none rfl _ _ _) rfl ?_
        exact Hpost.out _ hfin.2.1 hfin.2.2
      · refine step_append_own rfl (.tmp 43) (.tmp 45) 22 rfl w.heap.size 3 i0 (.int .i64 0) 1 8 underlying22 hi hz0 hz1 hz2 rfl (by decide) v2 [p, q].length _ (by simp [Act.eval]) hrA ⟨wd.heap.size, 0, none⟩ 1 1 [.int .i64 out] (by simp [Act.eval]) rfl (cell_one_new _ _ _) (by simp [Value.oneCell']) (by unfold maxLen; simp) (by simp) (by simp; omega) ?_
        intro vB wB hownB hgB
        have hrB := RowI.snoc hOut.out hrD.1 hownB
        have hlB := (hlD.alloc hszD (.cells #[.int .i64 out] 3)).grown hgB (by simp; omega) (fun k hk => (hrA.lt k hk).1)
        have hcB : RowI wB w.heap.size vB cl2 := by rw [← hclause.out]; exact hrB
        obtain ⟨AB, cB, rfl, _⟩ := hrB.shape
        have hB2 := Boxed.lower HBC.out hlB lc
        have hc2 := hB2.cell
        have hownC := own_below HOWN.out hlB
        have hszB := hlB.size
        refine hK _ _ ?_
        clear hK K
        refine wpAny_ready (rs := [0, 5]) (by kernel_rfl) (by simp) (AllReady.cons rfl (fun K hK => ?_) (AllReady.cons rfl (fun K hK => ?_) AllReady.nil))
        · go_simp
          refine hK _ _ ?_
          clear hK K
          refine wpAny_ready (rs := [5]) (by kernel_rfl) (by simp) (AllReady.cons rfl (fun K hK => ?_) AllReady.nil)
          go_simp
          refine hK _ _ ?_
          clear hK K
          refine wpAny_ready (rs := [6]) (by kernel_rfl) (by simp) (AllReady.cons rfl (fun K hK => ?_) AllReady.nil)
          refine step_append_own rfl (.tmp 42) (.tmp 47) 24 rfl base 22 j0 (.slice Option.none 0 0) 1 24 underlying24 hj hy0 hy1 hy2 rfl (by decide) _ vs.length vs (by simp [Act.eval] <;> rfl) (hownC.alloc _) ⟨wB.heap.size, 0, none⟩ 1 1 [_] (by simp [Act.eval]) rfl (cell_one_new _ _ _) (by simp [Value.oneCell']) (by unfold maxLen; omega) (by omega) (by simp; omega) ?_
          intro v' w5 hown5 hgr5
          have hfin := key.out wB _ w5 _ v' hlB hcB rfl hown5 hgr5
          obtain ⟨A5, c5, rfl⟩ := own_shape hown5
          have hcs := hfin.1.cell
          have hfs := hfin.1.frozen
          refine hK _ _ ?_
          clear hK K
          refine wpAny_ready (rs := [7]) (by kernel_rfl) (by simp) (AllReady.cons rfl (fun K hK => ?_) AllReady.nil)
          go_simp
          refine hK _ _ ?_
          clear hK K
          refine wpAny_done (by kernel_rfl) ?_ _
          refine bodyPost_end (results_none rfl _ _ _) rfl ?_
          exact Hpost.out _ hfin.2.1 hfin.2.2
        · go_simp
          have hc3 := (hB2.alloc (.cells #[.slice AB 3 cB] 22)).cell
          refine hK _ _ ?_
          clear hK K
          refine wpAny_ready (rs := [0]) (by kernel_rfl) (by simp) (AllReady.cons rfl (fun K hK => ?_) AllReady.nil)
          go_simp
          refine hK _ _ ?_
          clear hK K
          refine wpAny_ready (rs := [6]) (by kernel_rfl) (by simp) (AllReady.cons rfl (fun K hK => ?_) AllReady.nil)
          refine step_append_own rfl (.tmp 42) (.tmp 47) 24 rfl base 22 j0 (.slice Option.none 0 0) 1 24 underlying24 hj hy0 hy1 hy2 rfl (by decide) _ vs.length vs (by simp [Act.eval] <;> rfl) (hownC.alloc _) ⟨wB.heap.size, 0, none⟩ 1 1 [_] (by simp [Act.eval]) rfl (cell_one_new _ _ _) (by simp [Value.oneCell']) (by unfold maxLen; omega) (by omega) (by simp; omega) ?_
          intro v' w5 hown5 hgr5
          have hfin := key.out wB _ w5 _ v' hlB hcB rfl hown5 hgr5
          obtain ⟨A5, c5, rfl⟩ := own_shape hown5
          have hcs := hfin.1.cell
          have hfs := hfin.1.frozen
          refine hK _ _ ?_
          clear hK K
          refine wpAny_ready (rs := [7]) (by kernel_rfl) (by simp) (AllReady.cons rfl (fun K hK => ?_) AllReady.nil)
          go_simp
          refine hK _ _ ?_
          clear hK K
          refine wpAny_done (by kernel_rfl) ?_ _
          refine bodyPost_end (results_none rfl _ _ _) rfl ?_
          exact Hpost.out _ hfin.2.1 hfin.2.2
end Go.Proofs.Ytpiomdnkemoanaa.Ttl
