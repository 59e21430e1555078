/- The walk of the recursive closure of Total. -/
import Derived.Test.YtpiomdnkemoanaaTCntM
import Derived.IntWalk
namespace Go.Proofs.Ytpiomdnkemoanaa.Ttl
open Go.RowKit

def CntHyp (d s most k : Nat) : Prop := ∀ (B : Nat) (A : Option Addr) (m c : Nat) (zs : List Int) (cl : List (List Int)) (w : World), zs.length ≤ k → zs.length ≤ 4096 → zs.length ≤ c → c ≤ maxLen → RdI B w A zs → B ≤ s → (∀ x ∈ zs, -65537 ≤ x ∧ x ≤ 65537) →
  CI d w s most m cl → m + Tot.size most zs.length ≤ 65537 → cl.length + 33570818 * zs.length ≤ 200000000000 →
  Calls Try.prog 36 #[.slice A zs.length c, .pointer (some ⟨s, 0, none⟩), .pointer (some ⟨s + 3 + d, 0, none⟩), .pointer (some ⟨s + 2, 0, none⟩), .pointer (some ⟨s + 1, 0, none⟩)] w (CntAns d w s most zs m cl)

/-- The world behind so many variables and clauses more, since w. -/
structure St (d : Nat) (w : World) (s most m : Nat) (cl : List (List Int)) (W : World) : Prop where
  ci : CI d W s most m cl
  kp : Kp d s w W

theorem grown_then {w wr w' : World} {r : Option Nat} (h : w.grownBy wr r) (hb : Below w.heap.size wr w') : w.grownBy w' r :=
  ⟨hb.os.trans h.os, hb.tape.trans h.tape, hb.output.trans h.output, Nat.le_trans h.size hb.size, fun k hk hr => (hb.block k hk).trans (h.block k hk hr)⟩
theorem grown_store {w wr : World} {g : Nat} (h : w.grownBy wr (some g)) (u : Value) : w.grownBy (wr.setCell ⟨g, 0, none⟩ u) (some g) := by
  have q := grownBy_setCell' wr g u
  exact ⟨q.os.trans h.os, q.tape.trans h.tape, q.output.trans h.output, Nat.le_trans h.size q.size, fun k hk hr => (q.block k (Nat.lt_of_lt_of_le hk h.size) hr).trans (h.block k hk hr)⟩
theorem els_kept2 {w wr : World} {base g : Nat} {vs : List Value} {xss : List (List Int)} (h : Els w base vs xss) (hg : w.grownBy wr (some g)) (hlt : g < base) : Els wr base vs xss :=
  ⟨h.1, fun j hj => (h.2 j hj).imp fun _ ⟨h1, h2⟩ => ⟨h1, h2.kept hg (.inr fun e => by have := (h2.2.lt _ e).1; omega)⟩⟩
theorem CI.grown {w wr : World} {d s most m m' : Nat} {cl : List (List Int)} (h : CI d w s most m cl) (hg : w.grownBy wr (some (s + 2))) (hb : Boxed wr (s + 2) 3 (.int .i64 (m' : Int))) : CI d wr s most m' cl := by
  obtain ⟨h1, ⟨v, vs, h2, h3, h4⟩, _, h5⟩ := h
  exact ⟨h1.kept hg (by intro e; injection e with e; omega), ⟨v, vs, h2.kept hg (by intro e; injection e with e; omega), h3.kept hg (.inr fun e => by have := (h3.lt _ e).1; omega), els_kept2 h4 hg (by omega)⟩, hb, h5.kept hg (by intro e; injection e with e; omega)⟩
theorem Kp.grown {w wr : World} {d s : Nat} (hs : s ≤ w.heap.size) (hg : w.grownBy wr (some (s + 2))) : Kp d s w wr :=
  ⟨(Below.refl s w).grown hg hs (fun k hk => by injection hk with hk; omega), fun v zs q => q.kept hg (.inr fun e => by have := (q.2.lt _ e).1; omega)⟩
theorem wpList_push' {ops : Array Oper} {rest : List Oper} {o : Oper} {a : Act} {Q : Exit → Act → World → Prop} {w : World} (hgd : o.guard = none) (s x : Operand)
    (ho : o.op = .call { callee := .builtin .append, args := #[s, x], argTypes := #[22, 22] }) (base : Nat) (v : Value) (zs : List Int) (hs : a.eval s = v) (hrow : RowI w base v zs) (z : Int) (hz : Wf z)
    (hx : a.eval x = .slice (some ⟨w.heap.size, 0, none⟩) 1 1) (hlen : zs.length ≤ 1000000) (hbase : base ≤ w.heap.size)
    (h : ∀ A c w', RowI w' base (.slice A (zs ++ [z]).length c) (zs ++ [z]) → Below base w w' → wpList Try.prog ops Q rest (a.put o.dst (.slice A (zs ++ [z]).length c)) w') : wpList Try.prog ops Q (o :: rest) a (w.alloc (.cells #[.int .i64 z] 3)) :=
  wpList_push hgd s x ho base v zs hs hrow z hz hx hlen hbase fun v' w' h1 h2 => by
    obtain ⟨A, c, rfl, _⟩ := h1.shape
    exact h A c w' h1 h2
theorem step_append_rows {ops : Array Oper} {o : Oper} {a : Act} {w : World} {K : Act → World → Prop} {Q : Exit → Act → World → Prop} {E : Prop}
    (hg : o.guard = Option.none) (s x : Operand) (hop : o.op = Op.call { callee := Callee.builtin Builtin.append, args := #[s, x], argTypes := #[24, 24] })
    (base : Nat) (v : Value) (vs : List Value) (hs : a.eval s = v) (hown : w.ownsRow base 22 1 v vs.length vs) (lo : Nat) (u : Value) (us : List Value) (hx : a.eval x = u) (hsrc : w.ownsRow lo 22 1 u us.length us) (hone : ∀ u ∈ us, u.oneCell' = true)
    (hbound : vs.length + us.length ≤ 1000000000000) (hbase : base ≤ w.heap.size)
    (hK : ∀ v' w', w'.ownsRow base 22 1 v' (vs ++ us).length (vs ++ us) → w.grownBy w' v.ownBlock → K (a.put o.dst v') w') :
    if Region.wanted o (yielded ops a.tmps) = true then Oper.wp Try.prog o a w K Q else E := by
  obtain ⟨i0, hi, hz0, hz1, hz2⟩ := info_parts info22
  rcases hsrc.2 with ⟨e, h0⟩ | ⟨g, cap, cur, e, _⟩
  · have hu : us = [] := List.eq_nil_of_length_eq_zero h0
    subst hu
    subst e
    have hw : Region.wanted o (yielded ops a.tmps) = true := by simp [Region.wanted, hg]
    rw [if_pos hw]
    have hrun := run_append_owned_none (P := Try.prog) (w := w) base 24 o.type 22 i0 1 underlying24 hi v vs.length vs hown
    unfold Oper.wp
    simp [execOp, hop, resolve, invoke, builtin, hs, hx, hrun, Result.andThen]
    exact hK v w (by simpa using hown) (World.grownBy.refl w _)
  · subst e
    refine step_append_own hg s x 24 hop base 22 i0 (.slice Option.none 0 0) 1 24 underlying24 hi hz0 hz1 hz2 rfl (by decide) v vs.length vs hs hown ⟨g, 0, none⟩ us.length cap us hx (by simp) ?_ hone (by unfold maxLen; omega) (by omega) hbase ?_
    · intro j u hj
      have hlt : j < us.length := (List.getElem?_eq_some_iff.1 hj).1
      rw [add_plain, Nat.zero_add, World.ownsRow.cellAt (w := w) (base := lo) (e := 22) (size := 1) (g := g) (n := us.length) (cap := cap) (xs := us) hsrc j (by omega)]
      exact hj
    · intro v' w' hown' hgr
      exact hK v' w' (by rw [List.length_append]; exact hown') hgr

/-- Behind the append of a merge's clauses. -/
theorem cnt_end {w wd w7 w8 : World} {d s most m : Nat} {cl ms : List (List Int)} {v v' : Value} {vs us : List Value} {out : Value} {os : List Int} (hst : St d w s most m cl wd) (hbc : Boxed wd (s + 1) 24 v) (hown : wd.ownsRow (s + 4 + d) 22 1 v vs.length vs) (hels : Els wd (s + 4 + d) vs cl)
    (hout : RowI wd (s + 4 + d) out os) (h7 : Below wd.heap.size wd w7) (hems : Els w7 wd.heap.size us ms)
    (hown8 : w8.ownsRow (s + 4 + d) 22 1 v' (vs ++ us).length (vs ++ us)) (hgr : w7.grownBy w8 v.ownBlock) :
    Boxed w8 (s + 1) 24 v ∧ RowI (w8.setCell ⟨s + 1, 0, none⟩ v') (s + 4 + d) out os ∧ St d w s most m (cl ++ ms) (w8.setCell ⟨s + 1, 0, none⟩ v') := by
  have hsz := hst.ci.size
  have own7 := own_below hown h7
  have k1 : some (s + 1) ≠ v.ownBlock := fun e => by have := (hown.lt _ e.symm).1; omega
  have k0 : some s ≠ v.ownBlock := fun e => by have := (hown.lt _ e.symm).1; omega
  have k2 : some (s + 2) ≠ v.ownBlock := fun e => by have := (hown.lt _ e.symm).1; omega
  have k3 : some (s + 3 + d) ≠ v.ownBlock := fun e => by have := (hown.lt _ e.symm).1; omega
  have c7 := hst.ci.below h7
  have b8 := (Boxed.lower hbc h7 (Boxed.lt hbc)).kept hgr k1
  have e8 : Els w8 (s + 4 + d) (vs ++ us) (cl ++ ms) := ((hels.below h7).append (hems.base (by omega))).apart hgr (off_own own7 (by decide))
  have o8 := ((hout.below h7).apart hgr (off_own own7 (by decide)))
  refine ⟨b8, o8.stored (by omega), ⟨⟨(c7.bm.kept hgr k0).other (by omega) _, ⟨v', vs ++ us, b8.set v', hown8.kept (grownBy_setCell' w8 (s + 1) v') (.inr fun e => by have := (hown8.lt _ e).1; omega), e8.stored (by omega)⟩, (c7.ba.kept hgr k2).other (by omega) _, (c7.bf.kept hgr k3).other (by omega) _⟩, ?_, ?_⟩⟩
  · exact ((hst.kp.low.trans (h7.mono (by omega))).grown hgr (by have := h7.size; omega) (fun k hk => by have := (own7.lt _ hk).1; omega)).setCell (p := ⟨s + 1, 0, none⟩) (by simp) _
  · intro v2 zs q
    exact (((hst.kp.row v2 zs q).below h7).apart hgr (off_own own7 (by decide))).stored (by omega)

set_option maxRecDepth 20000 in
set_option maxHeartbeats 8000000 in
theorem cnt_more_any (d s most : Nat) (hmost : most ≤ 1099511627776) (k : Nat) (ih : CntHyp d s most k) (B : Nat) (A : Option Addr) (m c n : Nat) (zs : List Int) (cl : List (List Int)) (w : World) (hl : zs.length = n) (hk : n ≤ k + 1) (hn : n ≤ 4096) (hc : n ≤ c) (hcm : c ≤ maxLen) (hr : RdI B w A zs) (hB : B ≤ s) (hz : ∀ x ∈ zs, -65537 ≤ x ∧ x ≤ 65537)
    (h : CI d w s most m cl) (hm : m + Tot.size most n ≤ 65537) (hcl : cl.length + 33570818 * n ≤ 200000000000) (h2 : 2 ≤ n) (h0 : 1 ≤ most) :
    Calls Try.prog 36 #[.slice A n c, .pointer (some ⟨s, 0, none⟩), .pointer (some ⟨s + 3 + d, 0, none⟩), .pointer (some ⟨s + 2, 0, none⟩), .pointer (some ⟨s + 1, 0, none⟩)] w (CntAns d w s most zs m cl) := by
  have hsb := Tot.size_big (most := most) (n := n) (by omega)
  have hmore := Tot.cnt_more (most := most) (l := zs) (m := m) (by omega) (by omega)
  rw [hl] at hmore
  have t1 : (zs.take (n / 2)).length = n / 2 := by rw [List.length_take]; omega
  have t2 : (zs.drop (n / 2)).length = n - n / 2 := by rw [List.length_drop]; omega
  have hbit : s + 4 + d ≤ w.heap.size := h.size
  -- the first call
  have C1 : ∀ W, St d w s most m cl W → Calls Try.prog 36 #[.slice A (n / 2) c, .pointer (some ⟨s, 0, none⟩), .pointer (some ⟨s + 3 + d, 0, none⟩), .pointer (some ⟨s + 2, 0, none⟩), .pointer (some ⟨s + 1, 0, none⟩)] W
      (fun e W' => ∃ v, e = .returned v ∧ RowI W' (s + 4 + d) v (Tot.cnt most (zs.take (n / 2)) m).1 ∧ St d w s most (m + Tot.size most (n / 2)) (cl ++ (Tot.cnt most (zs.take (n / 2)) m).2) W' ∧ Kp d s W W') := fun W hW => by
    have q := ih B A m c (zs.take (n / 2)) cl W (by omega) (by omega) (by omega) hcm ((hr.below hW.kp.low hB).take _) hB (fun x hx => hz x (List.mem_of_mem_take hx)) hW.ci (by rw [t1]; omega) (by rw [t1]; omega)
    rw [t1] at q
    refine q.mono ?_
    rintro e W' ⟨v, he, hrow, hci, hkp⟩
    rw [t1] at hci
    exact ⟨v, he, hrow, ⟨hci, hW.kp.trans hkp⟩, hkp⟩
  have c1len := cnt_clauses (most := most) _ (zs.take (n / 2)) m (Nat.le_refl _) (by omega)
  have c2len := cnt_clauses (most := most) _ (zs.drop (n / 2)) (m + Tot.size most (n / 2)) (Nat.le_refl _) (by omega)
  rw [t1] at c1len
  rw [t2] at c2len
  have C2 : ∀ W, St d w s most (m + Tot.size most (n / 2)) (cl ++ (Tot.cnt most (zs.take (n / 2)) m).2) W → Calls Try.prog 36 #[.slice (cutA c (n / 2) A) (n - n / 2) (c - n / 2), .pointer (some ⟨s, 0, none⟩), .pointer (some ⟨s + 3 + d, 0, none⟩), .pointer (some ⟨s + 2, 0, none⟩), .pointer (some ⟨s + 1, 0, none⟩)] W
      (fun e W' => ∃ v, e = .returned v ∧ RowI W' (s + 4 + d) v (Tot.cnt most (zs.drop (n / 2)) (m + Tot.size most (n / 2))).1 ∧ St d w s most (m + Tot.size most (n / 2) + Tot.size most (n - n / 2)) ((cl ++ (Tot.cnt most (zs.take (n / 2)) m).2) ++ (Tot.cnt most (zs.drop (n / 2)) (m + Tot.size most (n / 2))).2) W' ∧ Kp d s W W') := fun W hW => by
    have q := ih B (cutA c (n / 2) A) (m + Tot.size most (n / 2)) (c - n / 2) (zs.drop (n / 2)) (cl ++ (Tot.cnt most (zs.take (n / 2)) m).2) W (by omega) (by omega) (by omega) (by omega) ((hr.below hW.kp.low hB).cut (by omega)) hB (fun x hx => hz x (List.mem_of_mem_drop hx)) hW.ci (by rw [t2]; omega) (by rw [t2, List.length_append]; omega)
    rw [t2] at q
    refine q.mono ?_
    rintro e W' ⟨v, he, hrow, hci, hkp⟩
    rw [t2] at hci
    exact ⟨v, he, hrow, ⟨hci, hW.kp.trans hkp⟩, hkp⟩
  have l1 := cnt_small (most := most) (zs.take (n / 2)) m
  have l2 := cnt_small (most := most) (zs.drop (n / 2)) (m + Tot.size most (n / 2))
  have z1 := cnt_lits (most := most) (zs.take (n / 2)) m (fun x hx => hz x (List.mem_of_mem_take hx)) (by rw [t1]; omega)
  have z2 := cnt_lits (most := most) (zs.drop (n / 2)) (m + Tot.size most (n / 2)) (fun x hx => hz x (List.mem_of_mem_drop hx)) (by rw [t2]; omega)
  rw [t1] at l1
  rw [t2] at l2
  have hst : St d w s most m cl w := ⟨h, Kp.refl _ _ _⟩
  have hfin : Hid (∀ v w', RowI w' (s + 4 + d) v (Tot.from_ (m + Tot.size most (n / 2) + Tot.size most (n - n / 2)) (min n most)) →
      St d w s most (m + Tot.size most (n / 2) + Tot.size most (n - n / 2) + min n most) (((cl ++ (Tot.cnt most (zs.take (n / 2)) m).2) ++ (Tot.cnt most (zs.drop (n / 2)) (m + Tot.size most (n / 2))).2) ++
        Tot.merge (Tot.cnt most (zs.take (n / 2)) m).1 (Tot.cnt most (zs.drop (n / 2)) (m + Tot.size most (n / 2))).1 (Tot.from_ (m + Tot.size most (n / 2) + Tot.size most (n - n / 2)) (min n most))) w' → CntAns d w s most zs m cl (.returned v) w') := fun v w' hv hw => by
    unfold CntAns
    rw [hmore, hl, hsb]
    refine ⟨v, rfl, hv, ?_, hw.kp⟩
    have e := hw.ci
    rw [show m + (Tot.size most (n / 2) + Tot.size most (n - n / 2) + min n most) = m + Tot.size most (n / 2) + Tot.size most (n - n / 2) + min n most by omega]
    simpa [List.append_assoc] using e
  have hm2 : m + Tot.size most (n / 2) + Tot.size most (n - n / 2) + min n most ≤ 65537 := by omega
  have hcl2 : ((cl ++ (Tot.cnt most (zs.take (n / 2)) m).2) ++ (Tot.cnt most (zs.drop (n / 2)) (m + Tot.size most (n / 2))).2).length ≤ 200000000000 := by
    rw [List.length_append, List.length_append]; omega
  have hh := fun w => run_head w A n c (n / 2) (by omega)
  have hcu := fun w => run_cut w A n c (n / 2) (by omega)
  have hdiv : ((n / 2 : Nat) : Int) = (n : Int) / 2 := by omega
  clear hmore hsb t1 t2 hm hcl c1len c2len hdiv hl hz hr ih
  generalize Tot.cnt most (zs.drop (n / 2)) (m + Tot.size most (n / 2)) = R2 at *
  generalize Tot.cnt most (zs.take (n / 2)) m = R1 at *
  generalize m + Tot.size most (n / 2) + Tot.size most (n - n / 2) = m2 at *
  generalize m + Tot.size most (n / 2) = m1 at *
  obtain ⟨o1, q1⟩ := R1
  obtain ⟨o2, q2⟩ := R2
  simp only at *
  generalize (cl ++ q1) ++ q2 = cl2 at *
  generalize cl ++ q1 = cl1 at *
  generalize hh2 : n / 2 = half at *
  have hlo1 : o1.length ≤ 4096 := by omega
  have hlo2 : o2.length ≤ 4096 := by omega
  have hcm0 := h.bm.cell
  have hcf0 := h.bf.cell
  have HC1 := Lib.hid C1
  have HC2 := Lib.hid C2
  have Z1 := Lib.hid z1
  have Z2 := Lib.hid z2
  have hN : Hid (min n most = min n most) := rfl
  obtain ⟨N, hNe⟩ : ∃ N, min n most = N := ⟨_, rfl⟩
  rw [hNe] at hfin hm2
  have hNb : N ≤ n := by omega
  have hN1 : 1 ≤ N := by omega
  have hmin : min (n : Int) (most : Int) = (N : Int) := by omega
  have Hmin := Lib.hid hNe
  have Hh2 := Lib.hid hh2
  clear hNe hN hh2 C1 C2 z1 z2 h
  have b1 : ((most : Int) == 0) = false := by rw [beq_eq_false_iff_ne]; omega
  have b2 : ((n : Int) == 0) = false := by rw [beq_eq_false_iff_ne]; omega
  have hstd : St d w s most m cl w.drew := ⟨hst.ci.drewN 1, hst.kp.drewN 1⟩
  clear hmin
  have hcase : N = most ∨ N = n := by have := Hmin.out; omega
  have hcase2 : N ≤ most := by have := Hmin.out; omega
  rcases Nat.lt_or_ge most n with hlt | hle
  · obtain rfl : N = most := by omega
    go_enter Try.func36, Try.ntmps36
    go_wp2
    refine wp_region_any (by kernel_rfl) ?_
    change wpAny _ _ _ _ _ _ _ (World.drew _)
    have hq3 : IntKind.i64.wrap ((n : Int) / 2) = (half : Int) := by rw [IntWalk.i64_in _ (by omega)]; have := Hh2.out; omega
    have hcfd : (World.drew w).cell? ⟨s + 3 + d, 0, none⟩ = _ := hcf0
    refine take_now (i := 1) (some 25) (v := (.slice A n c)) rfl (by kernel_rfl) (by kernel_rfl) (by kernel_rfl) (fun _ _ _ h => h) (Or.inl ⟨by rfl, ?_⟩) rfl ?_
    · intro w; go_simp; try exact hq3
    try simp only [Act.put, List.setIfInBounds_toArray, List.set_cons_zero, List.set_cons_succ]
    refine take_now (i := 2) (some 26) (v := (.slice A n c)) rfl (by kernel_rfl) (by kernel_rfl) (by kernel_rfl) (fun _ _ _ h => h) (Or.inl ⟨by rfl, ?_⟩) rfl ?_
    · intro w; go_simp; try exact hq3
    try simp only [Act.put, List.setIfInBounds_toArray, List.set_cons_zero, List.set_cons_succ]
    refine take_now (i := 3) (some 27) (v := (.int .i64 (n : Int))) rfl (by kernel_rfl) (by kernel_rfl) (by kernel_rfl) (fun _ _ _ h => h) (Or.inl ⟨by rfl, ?_⟩) rfl ?_
    · intro w; go_simp; try exact hq3
    try simp only [Act.put, List.setIfInBounds_toArray, List.set_cons_zero, List.set_cons_succ]
    refine take_now (i := 4) (some 28) (v := (.int .i64 (half : Int))) rfl (by kernel_rfl) (by kernel_rfl) (by kernel_rfl) (fun _ _ _ h => h) (Or.inl ⟨by rfl, ?_⟩) rfl ?_
    · intro w; go_simp; try exact hq3
    try simp only [Act.put, List.setIfInBounds_toArray, List.set_cons_zero, List.set_cons_succ]
    refine take_now (i := 5) (some 29) (v := (.slice A half c)) rfl (by kernel_rfl) (by kernel_rfl) (by kernel_rfl) (fun _ _ _ h => h) (Or.inl ⟨by rfl, ?_⟩) rfl ?_
    · intro w; go_simp; try exact hq3
    try simp only [Act.put, List.setIfInBounds_toArray, List.set_cons_zero, List.set_cons_succ]
    refine take_now (i := 8) (some 32) (v := (.slice A n c)) rfl (by kernel_rfl) (by kernel_rfl) (by kernel_rfl) (fun _ _ _ h => h) (Or.inl ⟨by rfl, ?_⟩) rfl ?_
    · intro w; go_simp; try exact hq3
    try simp only [Act.put, List.setIfInBounds_toArray, List.set_cons_zero, List.set_cons_succ]
    refine take_now (i := 9) (some 33) (v := (.slice A n c)) rfl (by kernel_rfl) (by kernel_rfl) (by kernel_rfl) (fun _ _ _ h => h) (Or.inl ⟨by rfl, ?_⟩) rfl ?_
    · intro w; go_simp; try exact hq3
    try simp only [Act.put, List.setIfInBounds_toArray, List.set_cons_zero, List.set_cons_succ]
    refine take_now (i := 10) (some 34) (v := (.int .i64 (n : Int))) rfl (by kernel_rfl) (by kernel_rfl) (by kernel_rfl) (fun _ _ _ h => h) (Or.inl ⟨by rfl, ?_⟩) rfl ?_
    · intro w; go_simp; try exact hq3
    try simp only [Act.put, List.setIfInBounds_toArray, List.set_cons_zero, List.set_cons_succ]
    refine take_now (i := 11) (some 35) (v := (.int .i64 (half : Int))) rfl (by kernel_rfl) (by kernel_rfl) (by kernel_rfl) (fun _ _ _ h => h) (Or.inl ⟨by rfl, ?_⟩) rfl ?_
    · intro w; go_simp; try exact hq3
    try simp only [Act.put, List.setIfInBounds_toArray, List.set_cons_zero, List.set_cons_succ]
    refine take_now (i := 12) (some 36) (v := (.slice (cutA c half A) (n - half) (c - half))) rfl (by kernel_rfl) (by kernel_rfl) (by kernel_rfl) (fun _ _ _ h => h) (Or.inl ⟨by rfl, ?_⟩) rfl ?_
    · intro w; go_simp; try exact hq3
    try simp only [Act.put, List.setIfInBounds_toArray, List.set_cons_zero, List.set_cons_succ]
    refine wpAny_ready (rs := [0, 7]) (by kernel_rfl) (by simp) (AllReady.cons rfl (fun K hK => ?_) (AllReady.cons rfl (fun K hK => ?_) AllReady.nil))
    · go_simp
      refine hK _ _ ?_
      clear hK K
      refine wpAny_ready (rs := [6, 7]) (by kernel_rfl) (by simp) (AllReady.cons rfl (fun K hK => ?_) (AllReady.cons rfl (fun K hK => ?_) AllReady.nil))
      · go_simp
        with_reducible refine (HC1.out _ (by assumption)).mono ?_
        rintro e w5 ⟨v5, rfl, hrow5, hst5, hkp5⟩
        refine hK _ _ ?_
        clear hK K
        have hcf5 := hst5.ci.bf.cell
        refine wpAny_ready (rs := [7]) (by kernel_rfl) (by simp) (AllReady.cons rfl (fun K hK => ?_) AllReady.nil)
        go_simp
        refine hK _ _ ?_
        clear hK K
        refine wpAny_ready (rs := [13]) (by kernel_rfl) (by simp) (AllReady.cons rfl (fun K hK => ?_) AllReady.nil)
        go_simp
        with_reducible refine (HC2.out _ (by assumption)).mono ?_
        rintro e w6 ⟨v6, rfl, hrow6, hst6, hkp6⟩
        refine hK _ _ ?_
        clear hK K
        refine wpAny_ready (rs := [14]) (by kernel_rfl) (by simp) (AllReady.cons rfl (fun K hK => ?_) AllReady.nil)
        go_simp
        refine hK _ _ ?_
        clear hK K
        refine wpAny_ready (rs := [15]) (by kernel_rfl) (by simp) (AllReady.cons rfl (fun K hK => ?_) AllReady.nil)
        go_simp
        refine hK _ _ ?_
        clear hK K
        refine wpAny_done (by kernel_rfl) ?_ _
        have hrow5' := hkp6.row _ _ hrow5
        clear hrow5 hkp5 hkp6 hst5 hcf5 hq3
        obtain ⟨A5, c5, rfl, _⟩ := hrow5'.shape
        obtain ⟨A6, c6, rfl, _⟩ := hrow6.shape
        have hsz6 := hst6.ci.size
        have hba6 := hst6.ci.ba
        go_wp2
        go_loopw [10, 39] (fun v i wr => ∃ j q : Nat, j ≤ N ∧ i = .int .i64 j ∧ RowI wr w6.heap.size v (Tot.from_ m2 j) ∧ w6.grownBy wr (some (s + 2)) ∧ Boxed wr (s + 2) 3 (.int .i64 (q : Int)) ∧ Hid (q = m2 + j)) (fun _ i _ => N - (intOf i).toNat)
        case atStart => exact ⟨0, m2, by omega, rfl, RowI.empty _ _, World.grownBy.refl _ _, hba6, by show _ = _; omega⟩
        case round =>
          obtain ⟨j, q, hj, rfl, hrow, hgr, hba, hq⟩ := hrel
          have hszr := hgr.size
          by_cases hlt2 : j < N
          · have hcb := Boxed.cell hba
            have hqb : q ≤ 65537 := by have := hq.out; omega
            have hnext : Hid (Tot.from_ m2 (j + 1) = Tot.from_ m2 j ++ [(q : Int)]) := by show _ = _; rw [Tot.from_, hq.out]
            have hfl : (Tot.from_ m2 j).length ≤ 1000000 := by rw [Tot.from_length]; omega
            have hls6 : s + 2 < w6.heap.size := by omega
            generalize Tot.from_ m2 j = os at *
            obtain ⟨A9, c9, rfl, _⟩ := hrow.shape
            go_wp2_with (at_builtin; refine wpList_push' rfl _ _ rfl w6.heap.size _ os rfl hrow (q : Int) ⟨by omega, by omega⟩ rfl hfl hszr ?_)
            intro A7 c7 w7 hrow7 hb7
            have hba7 := Boxed.lower hba hb7 hls6
            have hcb7 := Boxed.cell hba7
            have hfb7 := Boxed.frozen hba7
            have hrow8 := hrow7.stored (u := .int .i64 ((q : Int) + 1)) hls6
            have hgr8 := grown_store (grown_then hgr hb7) (.int .i64 ((q : Int) + 1))
            have hba8 : Boxed (w7.setCell ⟨s + 2, 0, none⟩ (.int .i64 ((q : Int) + 1))) (s + 2) 3 (.int .i64 ((q + 1 : Nat) : Int)) := hba7.set _
            have e1 := hnext.out
            rw [← e1] at hrow8
            clear e1 hrow7 hrow hba hgr
            go_wp2
            go_roundw
            case rel => exact ⟨j + 1, q + 1, by omega, by go_num, by simpa using hrow8, hgr8, hba8, by show _ = _; have := hq.out; omega⟩
            case measure => simp [intOf]; omega
          · obtain rfl : j = N := by omega
            have hqe := hq.out
            subst hqe
            have hkg : Kp d s w6 wr := Kp.grown (by omega) hgr
            have hstD : St d w s _ (m2 + j) cl2 wr := ⟨hst6.ci.grown hgr hba, hst6.kp.trans hkg⟩
            have r5 := hkg.row _ _ hrow5'
            have r6 := hkg.row _ _ hrow6
            have houtD : RowI wr (s + 4 + d) _ (Tot.from_ m2 j) := hrow.base (by omega)
            have hob : ∀ x ∈ Tot.from_ m2 j, -65537 ≤ x ∧ x ≤ 65537 := fun x hx => by have := from_mem m2 j x hx; omega
            have HML := merge_length o1 o2 (Tot.from_ m2 j) hlo1 hlo2
            clear hlt2 hst6 hrow5' hrow6 hba6 hgr hba hrow hkg hsz6
            generalize Tot.from_ m2 j = outs at *
            obtain ⟨A5', c5', hv5, _, _, rd5⟩ := r5.shape
            obtain ⟨A6', c6', hv6, _, _, rd6⟩ := r6.shape
            obtain ⟨A10, c10, rfl, _, _, rd10⟩ := houtD.shape
            injection hv5 with e1 _ e3
            injection hv6 with e4 _ e6
            subst e1; subst e3; subst e4; subst e6
            have HM := fun (wd : World) (q5 : RdI wr.heap.size wd A5 o1) (q6 : RdI wr.heap.size wd A6 o2) (q10 : RdI wr.heap.size wd A10 outs) (hz : wr.heap.size ≤ wd.heap.size) => merge_any wr.heap.size A5 A6 A10 c5 c6 c10 o1 o2 outs wd q5 q6 q10 hz hlo1 hlo2 Z1.out Z2.out hob
            have hm1 := HM (World.drew wr) rd5 rd6 rd10 (Nat.le_refl _)
            have hstD1 : St d w s _ (m2 + j) cl2 (World.drew wr) := ⟨hstD.ci.drewN 1, hstD.kp.drewN 1⟩
            have houtD1 : RowI (World.drew wr) (s + 4 + d) _ outs := houtD
            clear HM hstD houtD r5 r6 rd5 rd6 rd10 hob
            go_wp2
            refine wp_region_any (by kernel_rfl) ?_
            change wpAny _ _ _ _ _ _ _ (World.drew _)
            generalize World.drew wr = wd at *
            obtain ⟨vc, vs, hbc, hown, hels⟩ := hstD1.ci.bc
            obtain ⟨Av, cv, rfl⟩ := own_shape hown
            have hcc := hbc.cell
            have hvl : vs.length ≤ 200000000000 := by rw [hels.1]; exact hcl2
            refine take_now (i := 1) (some 49) (v := (.slice A5 o1.length c5)) rfl (by kernel_rfl) (by kernel_rfl) (by kernel_rfl) (fun _ _ _ h => h) (Or.inl ⟨by rfl, ?_⟩) rfl ?_
            · intro w; go_simp; try exact hq3
            try simp only [Act.put, List.setIfInBounds_toArray, List.set_cons_zero, List.set_cons_succ]
            refine take_now (i := 2) (some 50) (v := (.slice A6 o2.length c6)) rfl (by kernel_rfl) (by kernel_rfl) (by kernel_rfl) (fun _ _ _ h => h) (Or.inl ⟨by rfl, ?_⟩) rfl ?_
            · intro w; go_simp; try exact hq3
            try simp only [Act.put, List.setIfInBounds_toArray, List.set_cons_zero, List.set_cons_succ]
            refine take_now (i := 3) (some 51) (v := (.slice A10 outs.length c10)) rfl (by kernel_rfl) (by kernel_rfl) (by kernel_rfl) (fun _ _ _ h => h) (Or.inl ⟨by rfl, ?_⟩) rfl ?_
            · intro w; go_simp; try exact hq3
            try simp only [Act.put, List.setIfInBounds_toArray, List.set_cons_zero, List.set_cons_succ]
            refine wpAny_ready (rs := [0, 4]) (by kernel_rfl) (by simp) (AllReady.cons rfl (fun K hK => ?_) (AllReady.cons rfl (fun K hK => ?_) AllReady.nil))
            · go_simp
              refine hK _ _ ?_
              clear hK K
              refine wpAny_ready (rs := [4]) (by kernel_rfl) (by simp) (AllReady.cons rfl (fun K hK => ?_) AllReady.nil)
              go_simp
              with_reducible refine hm1.mono ?_
              rintro e w7 ⟨u, us, rfl, hownu, helsu, hb7⟩
              refine hK _ _ ?_
              clear hK K
              have hul : us.length ≤ 33570818 := by rw [helsu.1]; exact HML
              have hcc7 := (Boxed.lower hbc hb7 (Boxed.lt hbc)).cell
              have hsz7 := hb7.size
              have hszd := hstD1.ci.size
              refine wpAny_ready (rs := [5]) (by kernel_rfl) (by simp) (AllReady.cons rfl (fun K hK => ?_) AllReady.nil)
              refine step_append_rows rfl (.tmp 48) (.tmp 52) rfl (s + 4 + d) _ vs (by simp [Act.eval] <;> rfl) (own_below hown hb7) _ u us (by simp [Act.eval]) hownu helsu.one (by omega) (by omega) ?_
              intro v' w8 hown8 hgr8
              have hend := cnt_end hstD1 hbc hown hels houtD1 hb7 helsu hown8 hgr8
              obtain ⟨A8, c8, rfl⟩ := own_shape hown8
              rw [List.length_append] at hend
              have hc8 := hend.1.cell
              have hf8 := hend.1.frozen
              refine hK _ _ ?_
              clear hK K
              refine wpAny_ready (rs := [6]) (by kernel_rfl) (by simp) (AllReady.cons rfl (fun K hK => ?_) AllReady.nil)
              go_simp
              refine hK _ _ ?_
              clear hK K
              refine wpAny_done (by kernel_rfl) ?_ _
              have Hend := Lib.hid hend
              clear hend
              go_wp2
              go_ret
              exact hfin.out _ _ Hend.out.2.1 Hend.out.2.2
            · go_simp
              with_reducible refine hm1.mono ?_
              rintro e w7 ⟨u, us, rfl, hownu, helsu, hb7⟩
              refine hK _ _ ?_
              clear hK K
              have hul : us.length ≤ 33570818 := by rw [helsu.1]; exact HML
              have hcc7 := (Boxed.lower hbc hb7 (Boxed.lt hbc)).cell
              have hsz7 := hb7.size
              have hszd := hstD1.ci.size
              refine wpAny_ready (rs := [0]) (by kernel_rfl) (by simp) (AllReady.cons rfl (fun K hK => ?_) AllReady.nil)
              go_simp
              refine hK _ _ ?_
              clear hK K
              refine wpAny_ready (rs := [5]) (by kernel_rfl) (by simp) (AllReady.cons rfl (fun K hK => ?_) AllReady.nil)
              refine step_append_rows rfl (.tmp 48) (.tmp 52) rfl (s + 4 + d) _ vs (by simp [Act.eval] <;> rfl) (own_below hown hb7) _ u us (by simp [Act.eval]) hownu helsu.one (by omega) (by omega) ?_
              intro v' w8 hown8 hgr8
              have hend := cnt_end hstD1 hbc hown hels houtD1 hb7 helsu hown8 hgr8
              obtain ⟨A8, c8, rfl⟩ := own_shape hown8
              rw [List.length_append] at hend
              have hc8 := hend.1.cell
              have hf8 := hend.1.frozen
              refine hK _ _ ?_
              clear hK K
              refine wpAny_ready (rs := [6]) (by kernel_rfl) (by simp) (AllReady.cons rfl (fun K hK => ?_) AllReady.nil)
              go_simp
              refine hK _ _ ?_
              clear hK K
              refine wpAny_done (by kernel_rfl) ?_ _
              have Hend := Lib.hid hend
              clear hend
              go_wp2
              go_ret
              exact hfin.out _ _ Hend.out.2.1 Hend.out.2.2
      · go_simp
        refine hK _ _ ?_
        clear hK K
        refine wpAny_ready (rs := [6]) (by kernel_rfl) (by simp) (AllReady.cons rfl (fun K hK => ?_) AllReady.nil)
        go_simp
        with_reducible refine (HC1.out _ (by assumption)).mono ?_
        rintro e w5 ⟨v5, rfl, hrow5, hst5, hkp5⟩
        refine hK _ _ ?_
        clear hK K
        have hcf5 := hst5.ci.bf.cell
        refine wpAny_ready (rs := [13]) (by kernel_rfl) (by simp) (AllReady.cons rfl (fun K hK => ?_) AllReady.nil)
        go_simp
        with_reducible refine (HC2.out _ (by assumption)).mono ?_
        rintro e w6 ⟨v6, rfl, hrow6, hst6, hkp6⟩
        refine hK _ _ ?_
        clear hK K
        refine wpAny_ready (rs := [14]) (by kernel_rfl) (by simp) (AllReady.cons rfl (fun K hK => ?_) AllReady.nil)
        go_simp
        refine hK _ _ ?_
        clear hK K
        refine wpAny_ready (rs := [15]) (by kernel_rfl) (by simp) (AllReady.cons rfl (fun K hK => ?_) AllReady.nil)
        go_simp
        refine hK _ _ ?_
        clear hK K
        refine wpAny_done (by kernel_rfl) ?_ _
        have hrow5' := hkp6.row _ _ hrow5
        clear hrow5 hkp5 hkp6 hst5 hcf5 hq3
        obtain ⟨A5, c5, rfl, _⟩ := hrow5'.shape
        obtain ⟨A6, c6, rfl, _⟩ := hrow6.shape
        have hsz6 := hst6.ci.size
        have hba6 := hst6.ci.ba
        go_wp2
        go_loopw [10, 39] (fun v i wr => ∃ j q : Nat, j ≤ N ∧ i = .int .i64 j ∧ RowI wr w6.heap.size v (Tot.from_ m2 j) ∧ w6.grownBy wr (some (s + 2)) ∧ Boxed wr (s + 2) 3 (.int .i64 (q : Int)) ∧ Hid (q = m2 + j)) (fun _ i _ => N - (intOf i).toNat)
        case atStart => exact ⟨0, m2, by omega, rfl, RowI.empty _ _, World.grownBy.refl _ _, hba6, by show _ = _; omega⟩
        case round =>
          obtain ⟨j, q, hj, rfl, hrow, hgr, hba, hq⟩ := hrel
          have hszr := hgr.size
          by_cases hlt2 : j < N
          · have hcb := Boxed.cell hba
            have hqb : q ≤ 65537 := by have := hq.out; omega
            have hnext : Hid (Tot.from_ m2 (j + 1) = Tot.from_ m2 j ++ [(q : Int)]) := by show _ = _; rw [Tot.from_, hq.out]
            have hfl : (Tot.from_ m2 j).length ≤ 1000000 := by rw [Tot.from_length]; omega
            have hls6 : s + 2 < w6.heap.size := by omega
            generalize Tot.from_ m2 j = os at *
            obtain ⟨A9, c9, rfl, _⟩ := hrow.shape
            go_wp2_with (at_builtin; refine wpList_push' rfl _ _ rfl w6.heap.size _ os rfl hrow (q : Int) ⟨by omega, by omega⟩ rfl hfl hszr ?_)
            intro A7 c7 w7 hrow7 hb7
            have hba7 := Boxed.lower hba hb7 hls6
            have hcb7 := Boxed.cell hba7
            have hfb7 := Boxed.frozen hba7
            have hrow8 := hrow7.stored (u := .int .i64 ((q : Int) + 1)) hls6
            have hgr8 := grown_store (grown_then hgr hb7) (.int .i64 ((q : Int) + 1))
            have hba8 : Boxed (w7.setCell ⟨s + 2, 0, none⟩ (.int .i64 ((q : Int) + 1))) (s + 2) 3 (.int .i64 ((q + 1 : Nat) : Int)) := hba7.set _
            have e1 := hnext.out
            rw [← e1] at hrow8
            clear e1 hrow7 hrow hba hgr
            go_wp2
            go_roundw
            case rel => exact ⟨j + 1, q + 1, by omega, by go_num, by simpa using hrow8, hgr8, hba8, by show _ = _; have := hq.out; omega⟩
            case measure => simp [intOf]; omega
          · obtain rfl : j = N := by omega
            have hqe := hq.out
            subst hqe
            have hkg : Kp d s w6 wr := Kp.grown (by omega) hgr
            have hstD : St d w s _ (m2 + j) cl2 wr := ⟨hst6.ci.grown hgr hba, hst6.kp.trans hkg⟩
            have r5 := hkg.row _ _ hrow5'
            have r6 := hkg.row _ _ hrow6
            have houtD : RowI wr (s + 4 + d) _ (Tot.from_ m2 j) := hrow.base (by omega)
            have hob : ∀ x ∈ Tot.from_ m2 j, -65537 ≤ x ∧ x ≤ 65537 := fun x hx => by have := from_mem m2 j x hx; omega
            have HML := merge_length o1 o2 (Tot.from_ m2 j) hlo1 hlo2
            clear hlt2 hst6 hrow5' hrow6 hba6 hgr hba hrow hkg hsz6
            generalize Tot.from_ m2 j = outs at *
            obtain ⟨A5', c5', hv5, _, _, rd5⟩ := r5.shape
            obtain ⟨A6', c6', hv6, _, _, rd6⟩ := r6.shape
            obtain ⟨A10, c10, rfl, _, _, rd10⟩ := houtD.shape
            injection hv5 with e1 _ e3
            injection hv6 with e4 _ e6
            subst e1; subst e3; subst e4; subst e6
            have HM := fun (wd : World) (q5 : RdI wr.heap.size wd A5 o1) (q6 : RdI wr.heap.size wd A6 o2) (q10 : RdI wr.heap.size wd A10 outs) (hz : wr.heap.size ≤ wd.heap.size) => merge_any wr.heap.size A5 A6 A10 c5 c6 c10 o1 o2 outs wd q5 q6 q10 hz hlo1 hlo2 Z1.out Z2.out hob
            have hm1 := HM (World.drew wr) rd5 rd6 rd10 (Nat.le_refl _)
            have hstD1 : St d w s _ (m2 + j) cl2 (World.drew wr) := ⟨hstD.ci.drewN 1, hstD.kp.drewN 1⟩
            have houtD1 : RowI (World.drew wr) (s + 4 + d) _ outs := houtD
            clear HM hstD houtD r5 r6 rd5 rd6 rd10 hob
            go_wp2
            refine wp_region_any (by kernel_rfl) ?_
            change wpAny _ _ _ _ _ _ _ (World.drew _)
            generalize World.drew wr = wd at *
            obtain ⟨vc, vs, hbc, hown, hels⟩ := hstD1.ci.bc
            obtain ⟨Av, cv, rfl⟩ := own_shape hown
            have hcc := hbc.cell
            have hvl : vs.length ≤ 200000000000 := by rw [hels.1]; exact hcl2
            refine take_now (i := 1) (some 49) (v := (.slice A5 o1.length c5)) rfl (by kernel_rfl) (by kernel_rfl) (by kernel_rfl) (fun _ _ _ h => h) (Or.inl ⟨by rfl, ?_⟩) rfl ?_
            · intro w; go_simp; try exact hq3
            try simp only [Act.put, List.setIfInBounds_toArray, List.set_cons_zero, List.set_cons_succ]
            refine take_now (i := 2) (some 50) (v := (.slice A6 o2.length c6)) rfl (by kernel_rfl) (by kernel_rfl) (by kernel_rfl) (fun _ _ _ h => h) (Or.inl ⟨by rfl, ?_⟩) rfl ?_
            · intro w; go_simp; try exact hq3
            try simp only [Act.put, List.setIfInBounds_toArray, List.set_cons_zero, List.set_cons_succ]
            refine take_now (i := 3) (some 51) (v := (.slice A10 outs.length c10)) rfl (by kernel_rfl) (by kernel_rfl) (by kernel_rfl) (fun _ _ _ h => h) (Or.inl ⟨by rfl, ?_⟩) rfl ?_
            · intro w; go_simp; try exact hq3
            try simp only [Act.put, List.setIfInBounds_toArray, List.set_cons_zero, List.set_cons_succ]
            refine wpAny_ready (rs := [0, 4]) (by kernel_rfl) (by simp) (AllReady.cons rfl (fun K hK => ?_) (AllReady.cons rfl (fun K hK => ?_) AllReady.nil))
            · go_simp
              refine hK _ _ ?_
              clear hK K
              refine wpAny_ready (rs := [4]) (by kernel_rfl) (by simp) (AllReady.cons rfl (fun K hK => ?_) AllReady.nil)
              go_simp
              with_reducible refine hm1.mono ?_
              rintro e w7 ⟨u, us, rfl, hownu, helsu, hb7⟩
              refine hK _ _ ?_
              clear hK K
              have hul : us.length ≤ 33570818 := by rw [helsu.1]; exact HML
              have hcc7 := (Boxed.lower hbc hb7 (Boxed.lt hbc)).cell
              have hsz7 := hb7.size
              have hszd := hstD1.ci.size
              refine wpAny_ready (rs := [5]) (by kernel_rfl) (by simp) (AllReady.cons rfl (fun K hK => ?_) AllReady.nil)
              refine step_append_rows rfl (.tmp 48) (.tmp 52) rfl (s + 4 + d) _ vs (by simp [Act.eval] <;> rfl) (own_below hown hb7) _ u us (by simp [Act.eval]) hownu helsu.one (by omega) (by omega) ?_
              intro v' w8 hown8 hgr8
              have hend := cnt_end hstD1 hbc hown hels houtD1 hb7 helsu hown8 hgr8
              obtain ⟨A8, c8, rfl⟩ := own_shape hown8
              rw [List.length_append] at hend
              have hc8 := hend.1.cell
              have hf8 := hend.1.frozen
              refine hK _ _ ?_
              clear hK K
              refine wpAny_ready (rs := [6]) (by kernel_rfl) (by simp) (AllReady.cons rfl (fun K hK => ?_) AllReady.nil)
              go_simp
              refine hK _ _ ?_
              clear hK K
              refine wpAny_done (by kernel_rfl) ?_ _
              have Hend := Lib.hid hend
              clear hend
              go_wp2
              go_ret
              exact hfin.out _ _ Hend.out.2.1 Hend.out.2.2
            · go_simp
              with_reducible refine hm1.mono ?_
              rintro e w7 ⟨u, us, rfl, hownu, helsu, hb7⟩
              refine hK _ _ ?_
              clear hK K
              have hul : us.length ≤ 33570818 := by rw [helsu.1]; exact HML
              have hcc7 := (Boxed.lower hbc hb7 (Boxed.lt hbc)).cell
              have hsz7 := hb7.size
              have hszd := hstD1.ci.size
              refine wpAny_ready (rs := [0]) (by kernel_rfl) (by simp) (AllReady.cons rfl (fun K hK => ?_) AllReady.nil)
              go_simp
              refine hK _ _ ?_
              clear hK K
              refine wpAny_ready (rs := [5]) (by kernel_rfl) (by simp) (AllReady.cons rfl (fun K hK => ?_) AllReady.nil)
              refine step_append_rows rfl (.tmp 48) (.tmp 52) rfl (s + 4 + d) _ vs (by simp [Act.eval] <;> rfl) (own_below hown hb7) _ u us (by simp [Act.eval]) hownu helsu.one (by omega) (by omega) ?_
              intro v' w8 hown8 hgr8
              have hend := cnt_end hstD1 hbc hown hels houtD1 hb7 helsu hown8 hgr8
              obtain ⟨A8, c8, rfl⟩ := own_shape hown8
              rw [List.length_append] at hend
              have hc8 := hend.1.cell
              have hf8 := hend.1.frozen
              refine hK _ _ ?_
              clear hK K
              refine wpAny_ready (rs := [6]) (by kernel_rfl) (by simp) (AllReady.cons rfl (fun K hK => ?_) AllReady.nil)
              go_simp
              refine hK _ _ ?_
              clear hK K
              refine wpAny_done (by kernel_rfl) ?_ _
              have Hend := Lib.hid hend
              clear hend
              go_wp2
              go_ret
              exact hfin.out _ _ Hend.out.2.1 Hend.out.2.2
    · go_simp
      refine hK _ _ ?_
      clear hK K
      refine wpAny_ready (rs := [0]) (by kernel_rfl) (by simp) (AllReady.cons rfl (fun K hK => ?_) AllReady.nil)
      go_simp
      refine hK _ _ ?_
      clear hK K
      refine wpAny_ready (rs := [6]) (by kernel_rfl) (by simp) (AllReady.cons rfl (fun K hK => ?_) AllReady.nil)
      go_simp
      with_reducible refine (HC1.out _ (by assumption)).mono ?_
      rintro e w5 ⟨v5, rfl, hrow5, hst5, hkp5⟩
      refine hK _ _ ?_
      clear hK K
      have hcf5 := hst5.ci.bf.cell
      refine wpAny_ready (rs := [13]) (by kernel_rfl) (by simp) (AllReady.cons rfl (fun K hK => ?_) AllReady.nil)
      go_simp
      with_reducible refine (HC2.out _ (by assumption)).mono ?_
      rintro e w6 ⟨v6, rfl, hrow6, hst6, hkp6⟩
      refine hK _ _ ?_
      clear hK K
      refine wpAny_ready (rs := [14]) (by kernel_rfl) (by simp) (AllReady.cons rfl (fun K hK => ?_) AllReady.nil)
      go_simp
      refine hK _ _ ?_
      clear hK K
      refine wpAny_ready (rs := [15]) (by kernel_rfl) (by simp) (AllReady.cons rfl (fun K hK => ?_) AllReady.nil)
      go_simp
      refine hK _ _ ?_
      clear hK K
      refine wpAny_done (by kernel_rfl) ?_ _
      have hrow5' := hkp6.row _ _ hrow5
      clear hrow5 hkp5 hkp6 hst5 hcf5 hq3
      obtain ⟨A5, c5, rfl, _⟩ := hrow5'.shape
      obtain ⟨A6, c6, rfl, _⟩ := hrow6.shape
      have hsz6 := hst6.ci.size
      have hba6 := hst6.ci.ba
      go_wp2
      go_loopw [10, 39] (fun v i wr => ∃ j q : Nat, j ≤ N ∧ i = .int .i64 j ∧ RowI wr w6.heap.size v (Tot.from_ m2 j) ∧ w6.grownBy wr (some (s + 2)) ∧ Boxed wr (s + 2) 3 (.int .i64 (q : Int)) ∧ Hid (q = m2 + j)) (fun _ i _ => N - (intOf i).toNat)
      case atStart => exact ⟨0, m2, by omega, rfl, RowI.empty _ _, World.grownBy.refl _ _, hba6, by show _ = _; omega⟩
      case round =>
        obtain ⟨j, q, hj, rfl, hrow, hgr, hba, hq⟩ := hrel
        have hszr := hgr.size
        by_cases hlt2 : j < N
        · have hcb := Boxed.cell hba
          have hqb : q ≤ 65537 := by have := hq.out; omega
          have hnext : Hid (Tot.from_ m2 (j + 1) = Tot.from_ m2 j ++ [(q : Int)]) := by show _ = _; rw [Tot.from_, hq.out]
          have hfl : (Tot.from_ m2 j).length ≤ 1000000 := by rw [Tot.from_length]; omega
          have hls6 : s + 2 < w6.heap.size := by omega
          generalize Tot.from_ m2 j = os at *
          obtain ⟨A9, c9, rfl, _⟩ := hrow.shape
          go_wp2_with (at_builtin; refine wpList_push' rfl _ _ rfl w6.heap.size _ os rfl hrow (q : Int) ⟨by omega, by omega⟩ rfl hfl hszr ?_)
          intro A7 c7 w7 hrow7 hb7
          have hba7 := Boxed.lower hba hb7 hls6
          have hcb7 := Boxed.cell hba7
          have hfb7 := Boxed.frozen hba7
          have hrow8 := hrow7.stored (u := .int .i64 ((q : Int) + 1)) hls6
          have hgr8 := grown_store (grown_then hgr hb7) (.int .i64 ((q : Int) + 1))
          have hba8 : Boxed (w7.setCell ⟨s + 2, 0, none⟩ (.int .i64 ((q : Int) + 1))) (s + 2) 3 (.int .i64 ((q + 1 : Nat) : Int)) := hba7.set _
          have e1 := hnext.out
          rw [← e1] at hrow8
          clear e1 hrow7 hrow hba hgr
          go_wp2
          go_roundw
          case rel => exact ⟨j + 1, q + 1, by omega, by go_num, by simpa using hrow8, hgr8, hba8, by show _ = _; have := hq.out; omega⟩
          case measure => simp [intOf]; omega
        · obtain rfl : j = N := by omega
          have hqe := hq.out
          subst hqe
          have hkg : Kp d s w6 wr := Kp.grown (by omega) hgr
          have hstD : St d w s _ (m2 + j) cl2 wr := ⟨hst6.ci.grown hgr hba, hst6.kp.trans hkg⟩
          have r5 := hkg.row _ _ hrow5'
          have r6 := hkg.row _ _ hrow6
          have houtD : RowI wr (s + 4 + d) _ (Tot.from_ m2 j) := hrow.base (by omega)
          have hob : ∀ x ∈ Tot.from_ m2 j, -65537 ≤ x ∧ x ≤ 65537 := fun x hx => by have := from_mem m2 j x hx; omega
          have HML := merge_length o1 o2 (Tot.from_ m2 j) hlo1 hlo2
          clear hlt2 hst6 hrow5' hrow6 hba6 hgr hba hrow hkg hsz6
          generalize Tot.from_ m2 j = outs at *
          obtain ⟨A5', c5', hv5, _, _, rd5⟩ := r5.shape
          obtain ⟨A6', c6', hv6, _, _, rd6⟩ := r6.shape
          obtain ⟨A10, c10, rfl, _, _, rd10⟩ := houtD.shape
          injection hv5 with e1 _ e3
          injection hv6 with e4 _ e6
          subst e1; subst e3; subst e4; subst e6
          have HM := fun (wd : World) (q5 : RdI wr.heap.size wd A5 o1) (q6 : RdI wr.heap.size wd A6 o2) (q10 : RdI wr.heap.size wd A10 outs) (hz : wr.heap.size ≤ wd.heap.size) => merge_any wr.heap.size A5 A6 A10 c5 c6 c10 o1 o2 outs wd q5 q6 q10 hz hlo1 hlo2 Z1.out Z2.out hob
          have hm1 := HM (World.drew wr) rd5 rd6 rd10 (Nat.le_refl _)
          have hstD1 : St d w s _ (m2 + j) cl2 (World.drew wr) := ⟨hstD.ci.drewN 1, hstD.kp.drewN 1⟩
          have houtD1 : RowI (World.drew wr) (s + 4 + d) _ outs := houtD
          clear HM hstD houtD r5 r6 rd5 rd6 rd10 hob
          go_wp2
          refine wp_region_any (by kernel_rfl) ?_
          change wpAny _ _ _ _ _ _ _ (World.drew _)
          generalize World.drew wr = wd at *
          obtain ⟨vc, vs, hbc, hown, hels⟩ := hstD1.ci.bc
          obtain ⟨Av, cv, rfl⟩ := own_shape hown
          have hcc := hbc.cell
          have hvl : vs.length ≤ 200000000000 := by rw [hels.1]; exact hcl2
          refine take_now (i := 1) (some 49) (v := (.slice A5 o1.length c5)) rfl (by kernel_rfl) (by kernel_rfl) (by kernel_rfl) (fun _ _ _ h => h) (Or.inl ⟨by rfl, ?_⟩) rfl ?_
          · intro w; go_simp; try exact hq3
          try simp only [Act.put, List.setIfInBounds_toArray, List.set_cons_zero, List.set_cons_succ]
          refine take_now (i := 2) (some 50) (v := (.slice A6 o2.length c6)) rfl (by kernel_rfl) (by kernel_rfl) (by kernel_rfl) (fun _ _ _ h => h) (Or.inl ⟨by rfl, ?_⟩) rfl ?_
          · intro w; go_simp; try exact hq3
          try simp only [Act.put, List.setIfInBounds_toArray, List.set_cons_zero, List.set_cons_succ]
          refine take_now (i := 3) (some 51) (v := (.slice A10 outs.length c10)) rfl (by kernel_rfl) (by kernel_rfl) (by kernel_rfl) (fun _ _ _ h => h) (Or.inl ⟨by rfl, ?_⟩) rfl ?_
          · intro w; go_simp; try exact hq3
          try simp only [Act.put, List.setIfInBounds_toArray, List.set_cons_zero, List.set_cons_succ]
          refine wpAny_ready (rs := [0, 4]) (by kernel_rfl) (by simp) (AllReady.cons rfl (fun K hK => ?_) (AllReady.cons rfl (fun K hK => ?_) AllReady.nil))
          · go_simp
            refine hK _ _ ?_
            clear hK K
            refine wpAny_ready (rs := [4]) (by kernel_rfl) (by simp) (AllReady.cons rfl (fun K hK => ?_) AllReady.nil)
            go_simp
            with_reducible refine hm1.mono ?_
            rintro e w7 ⟨u, us, rfl, hownu, helsu, hb7⟩
            refine hK _ _ ?_
            clear hK K
            have hul : us.length ≤ 33570818 := by rw [helsu.1]; exact HML
            have hcc7 := (Boxed.lower hbc hb7 (Boxed.lt hbc)).cell
            have hsz7 := hb7.size
            have hszd := hstD1.ci.size
            refine wpAny_ready (rs := [5]) (by kernel_rfl) (by simp) (AllReady.cons rfl (fun K hK => ?_) AllReady.nil)
            refine step_append_rows rfl (.tmp 48) (.tmp 52) rfl (s + 4 + d) _ vs (by simp [Act.eval] <;> rfl) (own_below hown hb7) _ u us (by simp [Act.eval]) hownu helsu.one (by omega) (by omega) ?_
            intro v' w8 hown8 hgr8
            have hend := cnt_end hstD1 hbc hown hels houtD1 hb7 helsu hown8 hgr8
            obtain ⟨A8, c8, rfl⟩ := own_shape hown8
            rw [List.length_append] at hend
            have hc8 := hend.1.cell
            have hf8 := hend.1.frozen
            refine hK _ _ ?_
            clear hK K
            refine wpAny_ready (rs := [6]) (by kernel_rfl) (by simp) (AllReady.cons rfl (fun K hK => ?_) AllReady.nil)
            go_simp
            refine hK _ _ ?_
            clear hK K
            refine wpAny_done (by kernel_rfl) ?_ _
            have Hend := Lib.hid hend
            clear hend
            go_wp2
            go_ret
            exact hfin.out _ _ Hend.out.2.1 Hend.out.2.2
          · go_simp
            with_reducible refine hm1.mono ?_
            rintro e w7 ⟨u, us, rfl, hownu, helsu, hb7⟩
            refine hK _ _ ?_
            clear hK K
            have hul : us.length ≤ 33570818 := by rw [helsu.1]; exact HML
            have hcc7 := (Boxed.lower hbc hb7 (Boxed.lt hbc)).cell
            have hsz7 := hb7.size
            have hszd := hstD1.ci.size
            refine wpAny_ready (rs := [0]) (by kernel_rfl) (by simp) (AllReady.cons rfl (fun K hK => ?_) AllReady.nil)
            go_simp
            refine hK _ _ ?_
            clear hK K
            refine wpAny_ready (rs := [5]) (by kernel_rfl) (by simp) (AllReady.cons rfl (fun K hK => ?_) AllReady.nil)
            refine step_append_rows rfl (.tmp 48) (.tmp 52) rfl (s + 4 + d) _ vs (by simp [Act.eval] <;> rfl) (own_below hown hb7) _ u us (by simp [Act.eval]) hownu helsu.one (by omega) (by omega) ?_
            intro v' w8 hown8 hgr8
            have hend := cnt_end hstD1 hbc hown hels houtD1 hb7 helsu hown8 hgr8
            obtain ⟨A8, c8, rfl⟩ := own_shape hown8
            rw [List.length_append] at hend
            have hc8 := hend.1.cell
            have hf8 := hend.1.frozen
            refine hK _ _ ?_
            clear hK K
            refine wpAny_ready (rs := [6]) (by kernel_rfl) (by simp) (AllReady.cons rfl (fun K hK => ?_) AllReady.nil)
            go_simp
            refine hK _ _ ?_
            clear hK K
            refine wpAny_done (by kernel_rfl) ?_ _
            have Hend := Lib.hid hend
            clear hend
            go_wp2
            go_ret
            exact hfin.out _ _ Hend.out.2.1 Hend.out.2.2
  · obtain rfl : N = n := by omega
    go_enter Try.func36, Try.ntmps36
    go_wp2
    refine wp_region_any (by kernel_rfl) ?_
    change wpAny _ _ _ _ _ _ _ (World.drew _)
    have hq3 : IntKind.i64.wrap ((N : Int) / 2) = (half : Int) := by rw [IntWalk.i64_in _ (by omega)]; have := Hh2.out; omega
    have hcfd : (World.drew w).cell? ⟨s + 3 + d, 0, none⟩ = _ := hcf0
    refine take_now (i := 1) (some 25) (v := (.slice A N c)) rfl (by kernel_rfl) (by kernel_rfl) (by kernel_rfl) (fun _ _ _ h => h) (Or.inl ⟨by rfl, ?_⟩) rfl ?_
    · intro w; go_simp; try exact hq3
    try simp only [Act.put, List.setIfInBounds_toArray, List.set_cons_zero, List.set_cons_succ]
    refine take_now (i := 2) (some 26) (v := (.slice A N c)) rfl (by kernel_rfl) (by kernel_rfl) (by kernel_rfl) (fun _ _ _ h => h) (Or.inl ⟨by rfl, ?_⟩) rfl ?_
    · intro w; go_simp; try exact hq3
    try simp only [Act.put, List.setIfInBounds_toArray, List.set_cons_zero, List.set_cons_succ]
    refine take_now (i := 3) (some 27) (v := (.int .i64 (N : Int))) rfl (by kernel_rfl) (by kernel_rfl) (by kernel_rfl) (fun _ _ _ h => h) (Or.inl ⟨by rfl, ?_⟩) rfl ?_
    · intro w; go_simp; try exact hq3
    try simp only [Act.put, List.setIfInBounds_toArray, List.set_cons_zero, List.set_cons_succ]
    refine take_now (i := 4) (some 28) (v := (.int .i64 (half : Int))) rfl (by kernel_rfl) (by kernel_rfl) (by kernel_rfl) (fun _ _ _ h => h) (Or.inl ⟨by rfl, ?_⟩) rfl ?_
    · intro w; go_simp; try exact hq3
    try simp only [Act.put, List.setIfInBounds_toArray, List.set_cons_zero, List.set_cons_succ]
    refine take_now (i := 5) (some 29) (v := (.slice A half c)) rfl (by kernel_rfl) (by kernel_rfl) (by kernel_rfl) (fun _ _ _ h => h) (Or.inl ⟨by rfl, ?_⟩) rfl ?_
    · intro w; go_simp; try exact hq3
    try simp only [Act.put, List.setIfInBounds_toArray, List.set_cons_zero, List.set_cons_succ]
    refine take_now (i := 8) (some 32) (v := (.slice A N c)) rfl (by kernel_rfl) (by kernel_rfl) (by kernel_rfl) (fun _ _ _ h => h) (Or.inl ⟨by rfl, ?_⟩) rfl ?_
    · intro w; go_simp; try exact hq3
    try simp only [Act.put, List.setIfInBounds_toArray, List.set_cons_zero, List.set_cons_succ]
    refine take_now (i := 9) (some 33) (v := (.slice A N c)) rfl (by kernel_rfl) (by kernel_rfl) (by kernel_rfl) (fun _ _ _ h => h) (Or.inl ⟨by rfl, ?_⟩) rfl ?_
    · intro w; go_simp; try exact hq3
    try simp only [Act.put, List.setIfInBounds_toArray, List.set_cons_zero, List.set_cons_succ]
    refine take_now (i := 10) (some 34) (v := (.int .i64 (N : Int))) rfl (by kernel_rfl) (by kernel_rfl) (by kernel_rfl) (fun _ _ _ h => h) (Or.inl ⟨by rfl, ?_⟩) rfl ?_
    · intro w; go_simp; try exact hq3
    try simp only [Act.put, List.setIfInBounds_toArray, List.set_cons_zero, List.set_cons_succ]
    refine take_now (i := 11) (some 35) (v := (.int .i64 (half : Int))) rfl (by kernel_rfl) (by kernel_rfl) (by kernel_rfl) (fun _ _ _ h => h) (Or.inl ⟨by rfl, ?_⟩) rfl ?_
    · intro w; go_simp; try exact hq3
    try simp only [Act.put, List.setIfInBounds_toArray, List.set_cons_zero, List.set_cons_succ]
    refine take_now (i := 12) (some 36) (v := (.slice (cutA c half A) (N - half) (c - half))) rfl (by kernel_rfl) (by kernel_rfl) (by kernel_rfl) (fun _ _ _ h => h) (Or.inl ⟨by rfl, ?_⟩) rfl ?_
    · intro w; go_simp; try exact hq3
    try simp only [Act.put, List.setIfInBounds_toArray, List.set_cons_zero, List.set_cons_succ]
    refine wpAny_ready (rs := [0, 7]) (by kernel_rfl) (by simp) (AllReady.cons rfl (fun K hK => ?_) (AllReady.cons rfl (fun K hK => ?_) AllReady.nil))
    · go_simp
      refine hK _ _ ?_
      clear hK K
      refine wpAny_ready (rs := [6, 7]) (by kernel_rfl) (by simp) (AllReady.cons rfl (fun K hK => ?_) (AllReady.cons rfl (fun K hK => ?_) AllReady.nil))
      · go_simp
        with_reducible refine (HC1.out _ (by assumption)).mono ?_
        rintro e w5 ⟨v5, rfl, hrow5, hst5, hkp5⟩
        refine hK _ _ ?_
        clear hK K
        have hcf5 := hst5.ci.bf.cell
        refine wpAny_ready (rs := [7]) (by kernel_rfl) (by simp) (AllReady.cons rfl (fun K hK => ?_) AllReady.nil)
        go_simp
        refine hK _ _ ?_
        clear hK K
        refine wpAny_ready (rs := [13]) (by kernel_rfl) (by simp) (AllReady.cons rfl (fun K hK => ?_) AllReady.nil)
        go_simp
        with_reducible refine (HC2.out _ (by assumption)).mono ?_
        rintro e w6 ⟨v6, rfl, hrow6, hst6, hkp6⟩
        refine hK _ _ ?_
        clear hK K
        refine wpAny_ready (rs := [14]) (by kernel_rfl) (by simp) (AllReady.cons rfl (fun K hK => ?_) AllReady.nil)
        go_simp
        refine hK _ _ ?_
        clear hK K
        refine wpAny_ready (rs := [15]) (by kernel_rfl) (by simp) (AllReady.cons rfl (fun K hK => ?_) AllReady.nil)
        go_simp
        refine hK _ _ ?_
        clear hK K
        refine wpAny_done (by kernel_rfl) ?_ _
        have hrow5' := hkp6.row _ _ hrow5
        clear hrow5 hkp5 hkp6 hst5 hcf5 hq3
        obtain ⟨A5, c5, rfl, _⟩ := hrow5'.shape
        obtain ⟨A6, c6, rfl, _⟩ := hrow6.shape
        have hsz6 := hst6.ci.size
        have hba6 := hst6.ci.ba
        go_wp2
        go_loopw [10, 39] (fun v i wr => ∃ j q : Nat, j ≤ N ∧ i = .int .i64 j ∧ RowI wr w6.heap.size v (Tot.from_ m2 j) ∧ w6.grownBy wr (some (s + 2)) ∧ Boxed wr (s + 2) 3 (.int .i64 (q : Int)) ∧ Hid (q = m2 + j)) (fun _ i _ => N - (intOf i).toNat)
        case atStart => exact ⟨0, m2, by omega, rfl, RowI.empty _ _, World.grownBy.refl _ _, hba6, by show _ = _; omega⟩
        case round =>
          obtain ⟨j, q, hj, rfl, hrow, hgr, hba, hq⟩ := hrel
          have hszr := hgr.size
          by_cases hlt2 : j < N
          · have hcb := Boxed.cell hba
            have hqb : q ≤ 65537 := by have := hq.out; omega
            have hnext : Hid (Tot.from_ m2 (j + 1) = Tot.from_ m2 j ++ [(q : Int)]) := by show _ = _; rw [Tot.from_, hq.out]
            have hfl : (Tot.from_ m2 j).length ≤ 1000000 := by rw [Tot.from_length]; omega
            have hls6 : s + 2 < w6.heap.size := by omega
            generalize Tot.from_ m2 j = os at *
            obtain ⟨A9, c9, rfl, _⟩ := hrow.shape
            go_wp2_with (at_builtin; refine wpList_push' rfl _ _ rfl w6.heap.size _ os rfl hrow (q : Int) ⟨by omega, by omega⟩ rfl hfl hszr ?_)
            intro A7 c7 w7 hrow7 hb7
            have hba7 := Boxed.lower hba hb7 hls6
            have hcb7 := Boxed.cell hba7
            have hfb7 := Boxed.frozen hba7
            have hrow8 := hrow7.stored (u := .int .i64 ((q : Int) + 1)) hls6
            have hgr8 := grown_store (grown_then hgr hb7) (.int .i64 ((q : Int) + 1))
            have hba8 : Boxed (w7.setCell ⟨s + 2, 0, none⟩ (.int .i64 ((q : Int) + 1))) (s + 2) 3 (.int .i64 ((q + 1 : Nat) : Int)) := hba7.set _
            have e1 := hnext.out
            rw [← e1] at hrow8
            clear e1 hrow7 hrow hba hgr
            go_wp2
            go_roundw
            case rel => exact ⟨j + 1, q + 1, by omega, by go_num, by simpa using hrow8, hgr8, hba8, by show _ = _; have := hq.out; omega⟩
            case measure => simp [intOf]; omega
          · obtain rfl : j = N := by omega
            have hqe := hq.out
            subst hqe
            have hkg : Kp d s w6 wr := Kp.grown (by omega) hgr
            have hstD : St d w s _ (m2 + j) cl2 wr := ⟨hst6.ci.grown hgr hba, hst6.kp.trans hkg⟩
            have r5 := hkg.row _ _ hrow5'
            have r6 := hkg.row _ _ hrow6
            have houtD : RowI wr (s + 4 + d) _ (Tot.from_ m2 j) := hrow.base (by omega)
            have hob : ∀ x ∈ Tot.from_ m2 j, -65537 ≤ x ∧ x ≤ 65537 := fun x hx => by have := from_mem m2 j x hx; omega
            have HML := merge_length o1 o2 (Tot.from_ m2 j) hlo1 hlo2
            clear hlt2 hst6 hrow5' hrow6 hba6 hgr hba hrow hkg hsz6
            generalize Tot.from_ m2 j = outs at *
            obtain ⟨A5', c5', hv5, _, _, rd5⟩ := r5.shape
            obtain ⟨A6', c6', hv6, _, _, rd6⟩ := r6.shape
            obtain ⟨A10, c10, rfl, _, _, rd10⟩ := houtD.shape
            injection hv5 with e1 _ e3
            injection hv6 with e4 _ e6
            subst e1; subst e3; subst e4; subst e6
            have HM := fun (wd : World) (q5 : RdI wr.heap.size wd A5 o1) (q6 : RdI wr.heap.size wd A6 o2) (q10 : RdI wr.heap.size wd A10 outs) (hz : wr.heap.size ≤ wd.heap.size) => merge_any wr.heap.size A5 A6 A10 c5 c6 c10 o1 o2 outs wd q5 q6 q10 hz hlo1 hlo2 Z1.out Z2.out hob
            have hm1 := HM (World.drew wr) rd5 rd6 rd10 (Nat.le_refl _)
            have hstD1 : St d w s _ (m2 + j) cl2 (World.drew wr) := ⟨hstD.ci.drewN 1, hstD.kp.drewN 1⟩
            have houtD1 : RowI (World.drew wr) (s + 4 + d) _ outs := houtD
            clear HM hstD houtD r5 r6 rd5 rd6 rd10 hob
            go_wp2
            refine wp_region_any (by kernel_rfl) ?_
            change wpAny _ _ _ _ _ _ _ (World.drew _)
            generalize World.drew wr = wd at *
            obtain ⟨vc, vs, hbc, hown, hels⟩ := hstD1.ci.bc
            obtain ⟨Av, cv, rfl⟩ := own_shape hown
            have hcc := hbc.cell
            have hvl : vs.length ≤ 200000000000 := by rw [hels.1]; exact hcl2
            refine take_now (i := 1) (some 49) (v := (.slice A5 o1.length c5)) rfl (by kernel_rfl) (by kernel_rfl) (by kernel_rfl) (fun _ _ _ h => h) (Or.inl ⟨by rfl, ?_⟩) rfl ?_
            · intro w; go_simp; try exact hq3
            try simp only [Act.put, List.setIfInBounds_toArray, List.set_cons_zero, List.set_cons_succ]
            refine take_now (i := 2) (some 50) (v := (.slice A6 o2.length c6)) rfl (by kernel_rfl) (by kernel_rfl) (by kernel_rfl) (fun _ _ _ h => h) (Or.inl ⟨by rfl, ?_⟩) rfl ?_
            · intro w; go_simp; try exact hq3
            try simp only [Act.put, List.setIfInBounds_toArray, List.set_cons_zero, List.set_cons_succ]
            refine take_now (i := 3) (some 51) (v := (.slice A10 outs.length c10)) rfl (by kernel_rfl) (by kernel_rfl) (by kernel_rfl) (fun _ _ _ h => h) (Or.inl ⟨by rfl, ?_⟩) rfl ?_
            · intro w; go_simp; try exact hq3
            try simp only [Act.put, List.setIfInBounds_toArray, List.set_cons_zero, List.set_cons_succ]
            refine wpAny_ready (rs := [0, 4]) (by kernel_rfl) (by simp) (AllReady.cons rfl (fun K hK => ?_) (AllReady.cons rfl (fun K hK => ?_) AllReady.nil))
            · go_simp
              refine hK _ _ ?_
              clear hK K
              refine wpAny_ready (rs := [4]) (by kernel_rfl) (by simp) (AllReady.cons rfl (fun K hK => ?_) AllReady.nil)
              go_simp
              with_reducible refine hm1.mono ?_
              rintro e w7 ⟨u, us, rfl, hownu, helsu, hb7⟩
              refine hK _ _ ?_
              clear hK K
              have hul : us.length ≤ 33570818 := by rw [helsu.1]; exact HML
              have hcc7 := (Boxed.lower hbc hb7 (Boxed.lt hbc)).cell
              have hsz7 := hb7.size
              have hszd := hstD1.ci.size
              refine wpAny_ready (rs := [5]) (by kernel_rfl) (by simp) (AllReady.cons rfl (fun K hK => ?_) AllReady.nil)
              refine step_append_rows rfl (.tmp 48) (.tmp 52) rfl (s + 4 + d) _ vs (by simp [Act.eval] <;> rfl) (own_below hown hb7) _ u us (by simp [Act.eval]) hownu helsu.one (by omega) (by omega) ?_
              intro v' w8 hown8 hgr8
              have hend := cnt_end hstD1 hbc hown hels houtD1 hb7 helsu hown8 hgr8
              obtain ⟨A8, c8, rfl⟩ := own_shape hown8
              rw [List.length_append] at hend
              have hc8 := hend.1.cell
              have hf8 := hend.1.frozen
              refine hK _ _ ?_
              clear hK K
              refine wpAny_ready (rs := [6]) (by kernel_rfl) (by simp) (AllReady.cons rfl (fun K hK => ?_) AllReady.nil)
              go_simp
              refine hK _ _ ?_
              clear hK K
              refine wpAny_done (by kernel_rfl) ?_ _
              have Hend := Lib.hid hend
              clear hend
              go_wp2
              go_ret
              exact hfin.out _ _ Hend.out.2.1 Hend.out.2.2
            · go_simp
              with_reducible refine hm1.mono ?_
              rintro e w7 ⟨u, us, rfl, hownu, helsu, hb7⟩
              refine hK _ _ ?_
              clear hK K
              have hul : us.length ≤ 33570818 := by rw [helsu.1]; exact HML
              have hcc7 := (Boxed.lower hbc hb7 (Boxed.lt hbc)).cell
              have hsz7 := hb7.size
              have hszd := hstD1.ci.size
              refine wpAny_ready (rs := [0]) (by kernel_rfl) (by simp) (AllReady.cons rfl (fun K hK => ?_) AllReady.nil)
              go_simp
              refine hK _ _ ?_
              clear hK K
              refine wpAny_ready (rs := [5]) (by kernel_rfl) (by simp) (AllReady.cons rfl (fun K hK => ?_) AllReady.nil)
              refine step_append_rows rfl (.tmp 48) (.tmp 52) rfl (s + 4 + d) _ vs (by simp [Act.eval] <;> rfl) (own_below hown hb7) _ u us (by simp [Act.eval]) hownu helsu.one (by omega) (by omega) ?_
              intro v' w8 hown8 hgr8
              have hend := cnt_end hstD1 hbc hown hels houtD1 hb7 helsu hown8 hgr8
              obtain ⟨A8, c8, rfl⟩ := own_shape hown8
              rw [List.length_append] at hend
              have hc8 := hend.1.cell
              have hf8 := hend.1.frozen
              refine hK _ _ ?_
              clear hK K
              refine wpAny_ready (rs := [6]) (by kernel_rfl) (by simp) (AllReady.cons rfl (fun K hK => ?_) AllReady.nil)
              go_simp
              refine hK _ _ ?_
              clear hK K
              refine wpAny_done (by kernel_rfl) ?_ _
              have Hend := Lib.hid hend
              clear hend
              go_wp2
              go_ret
              exact hfin.out _ _ Hend.out.2.1 Hend.out.2.2
      · go_simp
        refine hK _ _ ?_
        clear hK K
        refine wpAny_ready (rs := [6]) (by kernel_rfl) (by simp) (AllReady.cons rfl (fun K hK => ?_) AllReady.nil)
        go_simp
        with_reducible refine (HC1.out _ (by assumption)).mono ?_
        rintro e w5 ⟨v5, rfl, hrow5, hst5, hkp5⟩
        refine hK _ _ ?_
        clear hK K
        have hcf5 := hst5.ci.bf.cell
        refine wpAny_ready (rs := [13]) (by kernel_rfl) (by simp) (AllReady.cons rfl (fun K hK => ?_) AllReady.nil)
        go_simp
        with_reducible refine (HC2.out _ (by assumption)).mono ?_
        rintro e w6 ⟨v6, rfl, hrow6, hst6, hkp6⟩
        refine hK _ _ ?_
        clear hK K
        refine wpAny_ready (rs := [14]) (by kernel_rfl) (by simp) (AllReady.cons rfl (fun K hK => ?_) AllReady.nil)
        go_simp
        refine hK _ _ ?_
        clear hK K
        refine wpAny_ready (rs := [15]) (by kernel_rfl) (by simp) (AllReady.cons rfl (fun K hK => ?_) AllReady.nil)
        go_simp
        refine hK _ _ ?_
        clear hK K
        refine wpAny_done (by kernel_rfl) ?_ _
        have hrow5' := hkp6.row _ _ hrow5
        clear hrow5 hkp5 hkp6 hst5 hcf5 hq3
        obtain ⟨A5, c5, rfl, _⟩ := hrow5'.shape
        obtain ⟨A6, c6, rfl, _⟩ := hrow6.shape
        have hsz6 := hst6.ci.size
        have hba6 := hst6.ci.ba
        go_wp2
        go_loopw [10, 39] (fun v i wr => ∃ j q : Nat, j ≤ N ∧ i = .int .i64 j ∧ RowI wr w6.heap.size v (Tot.from_ m2 j) ∧ w6.grownBy wr (some (s + 2)) ∧ Boxed wr (s + 2) 3 (.int .i64 (q : Int)) ∧ Hid (q = m2 + j)) (fun _ i _ => N - (intOf i).toNat)
        case atStart => exact ⟨0, m2, by omega, rfl, RowI.empty _ _, World.grownBy.refl _ _, hba6, by show _ = _; omega⟩
        case round =>
          obtain ⟨j, q, hj, rfl, hrow, hgr, hba, hq⟩ := hrel
          have hszr := hgr.size
          by_cases hlt2 : j < N
          · have hcb := Boxed.cell hba
            have hqb : q ≤ 65537 := by have := hq.out; omega
            have hnext : Hid (Tot.from_ m2 (j + 1) = Tot.from_ m2 j ++ [(q : Int)]) := by show _ = _; rw [Tot.from_, hq.out]
            have hfl : (Tot.from_ m2 j).length ≤ 1000000 := by rw [Tot.from_length]; omega
            have hls6 : s + 2 < w6.heap.size := by omega
            generalize Tot.from_ m2 j = os at *
            obtain ⟨A9, c9, rfl, _⟩ := hrow.shape
            go_wp2_with (at_builtin; refine wpList_push' rfl _ _ rfl w6.heap.size _ os rfl hrow (q : Int) ⟨by omega, by omega⟩ rfl hfl hszr ?_)
            intro A7 c7 w7 hrow7 hb7
            have hba7 := Boxed.lower hba hb7 hls6
            have hcb7 := Boxed.cell hba7
            have hfb7 := Boxed.frozen hba7
            have hrow8 := hrow7.stored (u := .int .i64 ((q : Int) + 1)) hls6
            have hgr8 := grown_store (grown_then hgr hb7) (.int .i64 ((q : Int) + 1))
            have hba8 : Boxed (w7.setCell ⟨s + 2, 0, none⟩ (.int .i64 ((q : Int) + 1))) (s + 2) 3 (.int .i64 ((q + 1 : Nat) : Int)) := hba7.set _
            have e1 := hnext.out
            rw [← e1] at hrow8
            clear e1 hrow7 hrow hba hgr
            go_wp2
            go_roundw
            case rel => exact ⟨j + 1, q + 1, by omega, by go_num, by simpa using hrow8, hgr8, hba8, by show _ = _; have := hq.out; omega⟩
            case measure => simp [intOf]; omega
          · obtain rfl : j = N := by omega
            have hqe := hq.out
            subst hqe
            have hkg : Kp d s w6 wr := Kp.grown (by omega) hgr
            have hstD : St d w s _ (m2 + j) cl2 wr := ⟨hst6.ci.grown hgr hba, hst6.kp.trans hkg⟩
            have r5 := hkg.row _ _ hrow5'
            have r6 := hkg.row _ _ hrow6
            have houtD : RowI wr (s + 4 + d) _ (Tot.from_ m2 j) := hrow.base (by omega)
            have hob : ∀ x ∈ Tot.from_ m2 j, -65537 ≤ x ∧ x ≤ 65537 := fun x hx => by have := from_mem m2 j x hx; omega
            have HML := merge_length o1 o2 (Tot.from_ m2 j) hlo1 hlo2
            clear hlt2 hst6 hrow5' hrow6 hba6 hgr hba hrow hkg hsz6
            generalize Tot.from_ m2 j = outs at *
            obtain ⟨A5', c5', hv5, _, _, rd5⟩ := r5.shape
            obtain ⟨A6', c6', hv6, _, _, rd6⟩ := r6.shape
            obtain ⟨A10, c10, rfl, _, _, rd10⟩ := houtD.shape
            injection hv5 with e1 _ e3
            injection hv6 with e4 _ e6
            subst e1; subst e3; subst e4; subst e6
            have HM := fun (wd : World) (q5 : RdI wr.heap.size wd A5 o1) (q6 : RdI wr.heap.size wd A6 o2) (q10 : RdI wr.heap.size wd A10 outs) (hz : wr.heap.size ≤ wd.heap.size) => merge_any wr.heap.size A5 A6 A10 c5 c6 c10 o1 o2 outs wd q5 q6 q10 hz hlo1 hlo2 Z1.out Z2.out hob
            have hm1 := HM (World.drew wr) rd5 rd6 rd10 (Nat.le_refl _)
            have hstD1 : St d w s _ (m2 + j) cl2 (World.drew wr) := ⟨hstD.ci.drewN 1, hstD.kp.drewN 1⟩
            have houtD1 : RowI (World.drew wr) (s + 4 + d) _ outs := houtD
            clear HM hstD houtD r5 r6 rd5 rd6 rd10 hob
            go_wp2
            refine wp_region_any (by kernel_rfl) ?_
            change wpAny _ _ _ _ _ _ _ (World.drew _)
            generalize World.drew wr = wd at *
            obtain ⟨vc, vs, hbc, hown, hels⟩ := hstD1.ci.bc
            obtain ⟨Av, cv, rfl⟩ := own_shape hown
            have hcc := hbc.cell
            have hvl : vs.length ≤ 200000000000 := by rw [hels.1]; exact hcl2
            refine take_now (i := 1) (some 49) (v := (.slice A5 o1.length c5)) rfl (by kernel_rfl) (by kernel_rfl) (by kernel_rfl) (fun _ _ _ h => h) (Or.inl ⟨by rfl, ?_⟩) rfl ?_
            · intro w; go_simp; try exact hq3
            try simp only [Act.put, List.setIfInBounds_toArray, List.set_cons_zero, List.set_cons_succ]
            refine take_now (i := 2) (some 50) (v := (.slice A6 o2.length c6)) rfl (by kernel_rfl) (by kernel_rfl) (by kernel_rfl) (fun _ _ _ h => h) (Or.inl ⟨by rfl, ?_⟩) rfl ?_
            · intro w; go_simp; try exact hq3
            try simp only [Act.put, List.setIfInBounds_toArray, List.set_cons_zero, List.set_cons_succ]
            refine take_now (i := 3) (some 51) (v := (.slice A10 outs.length c10)) rfl (by kernel_rfl) (by kernel_rfl) (by kernel_rfl) (fun _ _ _ h => h) (Or.inl ⟨by rfl, ?_⟩) rfl ?_
            · intro w; go_simp; try exact hq3
            try simp only [Act.put, List.setIfInBounds_toArray, List.set_cons_zero, List.set_cons_succ]
            refine wpAny_ready (rs := [0, 4]) (by kernel_rfl) (by simp) (AllReady.cons rfl (fun K hK => ?_) (AllReady.cons rfl (fun K hK => ?_) AllReady.nil))
            · go_simp
              refine hK _ _ ?_
              clear hK K
              refine wpAny_ready (rs := [4]) (by kernel_rfl) (by simp) (AllReady.cons rfl (fun K hK => ?_) AllReady.nil)
              go_simp
              with_reducible refine hm1.mono ?_
              rintro e w7 ⟨u, us, rfl, hownu, helsu, hb7⟩
              refine hK _ _ ?_
              clear hK K
              have hul : us.length ≤ 33570818 := by rw [helsu.1]; exact HML
              have hcc7 := (Boxed.lower hbc hb7 (Boxed.lt hbc)).cell
              have hsz7 := hb7.size
              have hszd := hstD1.ci.size
              refine wpAny_ready (rs := [5]) (by kernel_rfl) (by simp) (AllReady.cons rfl (fun K hK => ?_) AllReady.nil)
              refine step_append_rows rfl (.tmp 48) (.tmp 52) rfl (s + 4 + d) _ vs (by simp [Act.eval] <;> rfl) (own_below hown hb7) _ u us (by simp [Act.eval]) hownu helsu.one (by omega) (by omega) ?_
              intro v' w8 hown8 hgr8
              have hend := cnt_end hstD1 hbc hown hels houtD1 hb7 helsu hown8 hgr8
              obtain ⟨A8, c8, rfl⟩ := own_shape hown8
              rw [List.length_append] at hend
              have hc8 := hend.1.cell
              have hf8 := hend.1.frozen
              refine hK _ _ ?_
              clear hK K
              refine wpAny_ready (rs := [6]) (by kernel_rfl) (by simp) (AllReady.cons rfl (fun K hK => ?_) AllReady.nil)
              go_simp
              refine hK _ _ ?_
              clear hK K
              refine wpAny_done (by kernel_rfl) ?_ _
              have Hend := Lib.hid hend
              clear hend
              go_wp2
              go_ret
              exact hfin.out _ _ Hend.out.2.1 Hend.out.2.2
            · go_simp
              with_reducible refine hm1.mono ?_
              rintro e w7 ⟨u, us, rfl, hownu, helsu, hb7⟩
              refine hK _ _ ?_
              clear hK K
              have hul : us.length ≤ 33570818 := by rw [helsu.1]; exact HML
              have hcc7 := (Boxed.lower hbc hb7 (Boxed.lt hbc)).cell
              have hsz7 := hb7.size
              have hszd := hstD1.ci.size
              refine wpAny_ready (rs := [0]) (by kernel_rfl) (by simp) (AllReady.cons rfl (fun K hK => ?_) AllReady.nil)
              go_simp
              refine hK _ _ ?_
              clear hK K
              refine wpAny_ready (rs := [5]) (by kernel_rfl) (by simp) (AllReady.cons rfl (fun K hK => ?_) AllReady.nil)
              refine step_append_rows rfl (.tmp 48) (.tmp 52) rfl (s + 4 + d) _ vs (by simp [Act.eval] <;> rfl) (own_below hown hb7) _ u us (by simp [Act.eval]) hownu helsu.one (by omega) (by omega) ?_
              intro v' w8 hown8 hgr8
              have hend := cnt_end hstD1 hbc hown hels houtD1 hb7 helsu hown8 hgr8
              obtain ⟨A8, c8, rfl⟩ := own_shape hown8
              rw [List.length_append] at hend
              have hc8 := hend.1.cell
              have hf8 := hend.1.frozen
              refine hK _ _ ?_
              clear hK K
              refine wpAny_ready (rs := [6]) (by kernel_rfl) (by simp) (AllReady.cons rfl (fun K hK => ?_) AllReady.nil)
              go_simp
              refine hK _ _ ?_
              clear hK K
              refine wpAny_done (by kernel_rfl) ?_ _
              have Hend := Lib.hid hend
              clear hend
              go_wp2
              go_ret
              exact hfin.out _ _ Hend.out.2.1 Hend.out.2.2
    · go_simp
      refine hK _ _ ?_
      clear hK K
      refine wpAny_ready (rs := [0]) (by kernel_rfl) (by simp) (AllReady.cons rfl (fun K hK => ?_) AllReady.nil)
      go_simp
      refine hK _ _ ?_
      clear hK K
      refine wpAny_ready (rs := [6]) (by kernel_rfl) (by simp) (AllReady.cons rfl (fun K hK => ?_) AllReady.nil)
      go_simp
      with_reducible refine (HC1.out _ (by assumption)).mono ?_
      rintro e w5 ⟨v5, rfl, hrow5, hst5, hkp5⟩
      refine hK _ _ ?_
      clear hK K
      have hcf5 := hst5.ci.bf.cell
      refine wpAny_ready (rs := [13]) (by kernel_rfl) (by simp) (AllReady.cons rfl (fun K hK => ?_) AllReady.nil)
      go_simp
      with_reducible refine (HC2.out _ (by assumption)).mono ?_
      rintro e w6 ⟨v6, rfl, hrow6, hst6, hkp6⟩
      refine hK _ _ ?_
      clear hK K
      refine wpAny_ready (rs := [14]) (by kernel_rfl) (by simp) (AllReady.cons rfl (fun K hK => ?_) AllReady.nil)
      go_simp
      refine hK _ _ ?_
      clear hK K
      refine wpAny_ready (rs := [15]) (by kernel_rfl) (by simp) (AllReady.cons rfl (fun K hK => ?_) AllReady.nil)
      go_simp
      refine hK _ _ ?_
      clear hK K
      refine wpAny_done (by kernel_rfl) ?_ _
      have hrow5' := hkp6.row _ _ hrow5
      clear hrow5 hkp5 hkp6 hst5 hcf5 hq3
      obtain ⟨A5, c5, rfl, _⟩ := hrow5'.shape
      obtain ⟨A6, c6, rfl, _⟩ := hrow6.shape
      have hsz6 := hst6.ci.size
      have hba6 := hst6.ci.ba
      go_wp2
      go_loopw [10, 39] (fun v i wr => ∃ j q : Nat, j ≤ N ∧ i = .int .i64 j ∧ RowI wr w6.heap.size v (Tot.from_ m2 j) ∧ w6.grownBy wr (some (s + 2)) ∧ Boxed wr (s + 2) 3 (.int .i64 (q : Int)) ∧ Hid (q = m2 + j)) (fun _ i _ => N - (intOf i).toNat)
      case atStart => exact ⟨0, m2, by omega, rfl, RowI.empty _ _, World.grownBy.refl _ _, hba6, by show _ = _; omega⟩
      case round =>
        obtain ⟨j, q, hj, rfl, hrow, hgr, hba, hq⟩ := hrel
        have hszr := hgr.size
        by_cases hlt2 : j < N
        · have hcb := Boxed.cell hba
          have hqb : q ≤ 65537 := by have := hq.out; omega
          have hnext : Hid (Tot.from_ m2 (j + 1) = Tot.from_ m2 j ++ [(q : Int)]) := by show _ = _; rw [Tot.from_, hq.out]
          have hfl : (Tot.from_ m2 j).length ≤ 1000000 := by rw [Tot.from_length]; omega
          have hls6 : s + 2 < w6.heap.size := by omega
          generalize Tot.from_ m2 j = os at *
          obtain ⟨A9, c9, rfl, _⟩ := hrow.shape
          go_wp2_with (at_builtin; refine wpList_push' rfl _ _ rfl w6.heap.size _ os rfl hrow (q : Int) ⟨by omega, by omega⟩ rfl hfl hszr ?_)
          intro A7 c7 w7 hrow7 hb7
          have hba7 := Boxed.lower hba hb7 hls6
          have hcb7 := Boxed.cell hba7
          have hfb7 := Boxed.frozen hba7
          have hrow8 := hrow7.stored (u := .int .i64 ((q : Int) + 1)) hls6
          have hgr8 := grown_store (grown_then hgr hb7) (.int .i64 ((q : Int) + 1))
          have hba8 : Boxed (w7.setCell ⟨s + 2, 0, none⟩ (.int .i64 ((q : Int) + 1))) (s + 2) 3 (.int .i64 ((q + 1 : Nat) : Int)) := hba7.set _
          have e1 := hnext.out
          rw [← e1] at hrow8
          clear e1 hrow7 hrow hba hgr
          go_wp2
          go_roundw
          case rel => exact ⟨j + 1, q + 1, by omega, by go_num, by simpa using hrow8, hgr8, hba8, by show _ = _; have := hq.out; omega⟩
          case measure => simp [intOf]; omega
        · obtain rfl : j = N := by omega
          have hqe := hq.out
          subst hqe
          have hkg : Kp d s w6 wr := Kp.grown (by omega) hgr
          have hstD : St d w s _ (m2 + j) cl2 wr := ⟨hst6.ci.grown hgr hba, hst6.kp.trans hkg⟩
          have r5 := hkg.row _ _ hrow5'
          have r6 := hkg.row _ _ hrow6
          have houtD : RowI wr (s + 4 + d) _ (Tot.from_ m2 j) := hrow.base (by omega)
          have hob : ∀ x ∈ Tot.from_ m2 j, -65537 ≤ x ∧ x ≤ 65537 := fun x hx => by have := from_mem m2 j x hx; omega
          have HML := merge_length o1 o2 (Tot.from_ m2 j) hlo1 hlo2
          clear hlt2 hst6 hrow5' hrow6 hba6 hgr hba hrow hkg hsz6
          generalize Tot.from_ m2 j = outs at *
          obtain ⟨A5', c5', hv5, _, _, rd5⟩ := r5.shape
          obtain ⟨A6', c6', hv6, _, _, rd6⟩ := r6.shape
          obtain ⟨A10, c10, rfl, _, _, rd10⟩ := houtD.shape
          injection hv5 with e1 _ e3
          injection hv6 with e4 _ e6
          subst e1; subst e3; subst e4; subst e6
          have HM := fun (wd : World) (q5 : RdI wr.heap.size wd A5 o1) (q6 : RdI wr.heap.size wd A6 o2) (q10 : RdI wr.heap.size wd A10 outs) (hz : wr.heap.size ≤ wd.heap.size) => merge_any wr.heap.size A5 A6 A10 c5 c6 c10 o1 o2 outs wd q5 q6 q10 hz hlo1 hlo2 Z1.out Z2.out hob
          have hm1 := HM (World.drew wr) rd5 rd6 rd10 (Nat.le_refl _)
          have hstD1 : St d w s _ (m2 + j) cl2 (World.drew wr) := ⟨hstD.ci.drewN 1, hstD.kp.drewN 1⟩
          have houtD1 : RowI (World.drew wr) (s + 4 + d) _ outs := houtD
          clear HM hstD houtD r5 r6 rd5 rd6 rd10 hob
          go_wp2
          refine wp_region_any (by kernel_rfl) ?_
          change wpAny _ _ _ _ _ _ _ (World.drew _)
          generalize World.drew wr = wd at *
          obtain ⟨vc, vs, hbc, hown, hels⟩ := hstD1.ci.bc
          obtain ⟨Av, cv, rfl⟩ := own_shape hown
          have hcc := hbc.cell
          have hvl : vs.length ≤ 200000000000 := by rw [hels.1]; exact hcl2
          refine take_now (i := 1) (some 49) (v := (.slice A5 o1.length c5)) rfl (by kernel_rfl) (by kernel_rfl) (by kernel_rfl) (fun _ _ _ h => h) (Or.inl ⟨by rfl, ?_⟩) rfl ?_
          · intro w; go_simp; try exact hq3
          try simp only [Act.put, List.setIfInBounds_toArray, List.set_cons_zero, List.set_cons_succ]
          refine take_now (i := 2) (some 50) (v := (.slice A6 o2.length c6)) rfl (by kernel_rfl) (by kernel_rfl) (by kernel_rfl) (fun _ _ _ h => h) (Or.inl ⟨by rfl, ?_⟩) rfl ?_
          · intro w; go_simp; try exact hq3
          try simp only [Act.put, List.setIfInBounds_toArray, List.set_cons_zero, List.set_cons_succ]
          refine take_now (i := 3) (some 51) (v := (.slice A10 outs.length c10)) rfl (by kernel_rfl) (by kernel_rfl) (by kernel_rfl) (fun _ _ _ h => h) (Or.inl ⟨by rfl, ?_⟩) rfl ?_
          · intro w; go_simp; try exact hq3
          try simp only [Act.put, List.setIfInBounds_toArray, List.set_cons_zero, List.set_cons_succ]
          refine wpAny_ready (rs := [0, 4]) (by kernel_rfl) (by simp) (AllReady.cons rfl (fun K hK => ?_) (AllReady.cons rfl (fun K hK => ?_) AllReady.nil))
          · go_simp
            refine hK _ _ ?_
            clear hK K
            refine wpAny_ready (rs := [4]) (by kernel_rfl) (by simp) (AllReady.cons rfl (fun K hK => ?_) AllReady.nil)
            go_simp
            with_reducible refine hm1.mono ?_
            rintro e w7 ⟨u, us, rfl, hownu, helsu, hb7⟩
            refine hK _ _ ?_
            clear hK K
            have hul : us.length ≤ 33570818 := by rw [helsu.1]; exact HML
            have hcc7 := (Boxed.lower hbc hb7 (Boxed.lt hbc)).cell
            have hsz7 := hb7.size
            have hszd := hstD1.ci.size
            refine wpAny_ready (rs := [5]) (by kernel_rfl) (by simp) (AllReady.cons rfl (fun K hK => ?_) AllReady.nil)
            refine step_append_rows rfl (.tmp 48) (.tmp 52) rfl (s + 4 + d) _ vs (by simp [Act.eval] <;> rfl) (own_below hown hb7) _ u us (by simp [Act.eval]) hownu helsu.one (by omega) (by omega) ?_
            intro v' w8 hown8 hgr8
            have hend := cnt_end hstD1 hbc hown hels houtD1 hb7 helsu hown8 hgr8
            obtain ⟨A8, c8, rfl⟩ := own_shape hown8
            rw [List.length_append] at hend
            have hc8 := hend.1.cell
            have hf8 := hend.1.frozen
            refine hK _ _ ?_
            clear hK K
            refine wpAny_ready (rs := [6]) (by kernel_rfl) (by simp) (AllReady.cons rfl (fun K hK => ?_) AllReady.nil)
            go_simp
            refine hK _ _ ?_
            clear hK K
            refine wpAny_done (by kernel_rfl) ?_ _
            have Hend := Lib.hid hend
            clear hend
            go_wp2
            go_ret
            exact hfin.out _ _ Hend.out.2.1 Hend.out.2.2
          · go_simp
            with_reducible refine hm1.mono ?_
            rintro e w7 ⟨u, us, rfl, hownu, helsu, hb7⟩
            refine hK _ _ ?_
            clear hK K
            have hul : us.length ≤ 33570818 := by rw [helsu.1]; exact HML
            have hcc7 := (Boxed.lower hbc hb7 (Boxed.lt hbc)).cell
            have hsz7 := hb7.size
            have hszd := hstD1.ci.size
            refine wpAny_ready (rs := [0]) (by kernel_rfl) (by simp) (AllReady.cons rfl (fun K hK => ?_) AllReady.nil)
            go_simp
            refine hK _ _ ?_
            clear hK K
            refine wpAny_ready (rs := [5]) (by kernel_rfl) (by simp) (AllReady.cons rfl (fun K hK => ?_) AllReady.nil)
            refine step_append_rows rfl (.tmp 48) (.tmp 52) rfl (s + 4 + d) _ vs (by simp [Act.eval] <;> rfl) (own_below hown hb7) _ u us (by simp [Act.eval]) hownu helsu.one (by omega) (by omega) ?_
            intro v' w8 hown8 hgr8
            have hend := cnt_end hstD1 hbc hown hels houtD1 hb7 helsu hown8 hgr8
            obtain ⟨A8, c8, rfl⟩ := own_shape hown8
            rw [List.length_append] at hend
            have hc8 := hend.1.cell
            have hf8 := hend.1.frozen
            refine hK _ _ ?_
            clear hK K
            refine wpAny_ready (rs := [6]) (by kernel_rfl) (by simp) (AllReady.cons rfl (fun K hK => ?_) AllReady.nil)
            go_simp
            refine hK _ _ ?_
            clear hK K
            refine wpAny_done (by kernel_rfl) ?_ _
            have Hend := Lib.hid hend
            clear hend
            go_wp2
            go_ret
            exact hfin.out _ _ Hend.out.2.1 Hend.out.2.2

theorem cnt_any (d s most : Nat) (hmost : most ≤ 1099511627776) : ∀ k, CntHyp d s most k
  | 0 => fun B A m c zs cl w h1 h2 h3 h4 hr hB hz h hm hcl => cnt_none_any A d s most m zs.length c zs cl w h rfl h2 (by omega) hmost
  | k + 1 => fun B A m c zs cl w h1 h2 h3 h4 hr hB hz h hm hcl => by
    by_cases h0 : min zs.length most = 0
    · exact cnt_none_any A d s most m zs.length c zs cl w h rfl h2 h0 hmost
    · by_cases hone : zs.length = 1
      · rw [hone]
        exact cnt_one_any B A d s most m c zs cl w h hr hone (by omega) hmost
      · exact cnt_more_any d s most hmost k (cnt_any d s most hmost k) B A m c zs.length zs cl w rfl h1 h2 h3 h4 hr hB hz h hm hcl (by omega) (by omega)
end Go.Proofs.Ytpiomdnkemoanaa.Ttl
