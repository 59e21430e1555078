/- The walks of Clone, add and the closure that adds a clause. -/
import Derived.Test.YtpeklcbjhkchlaaPush
namespace Go.Proofs.Ytpeklcbjhkchlaa
open Go.RowKit Go.Maps
set_option maxRecDepth 30000

theorem step_append_own {P : Program} {ops : Array Oper} {o : Oper} {a : Act} {w : World} {K : Act → World → Prop} {Q : Exit → Act → World → Prop} {E : Prop}
    (hg : o.guard = Option.none) (s x : Operand) (t : TypeId) (hop : o.op = Op.call { callee := Callee.builtin Builtin.append, args := #[s, x], argTypes := #[t, t] })
    (base : Nat) (e : TypeId) (i : TypeInfo) (z : Value) (size bytes : Nat) (h1 : P.underlying t = some (.slice e)) (h2 : P.info? e = some i) (h3 : i.zero = some z) (h4 : i.size = size) (h5 : i.bytes = bytes) (h6 : z.cells.size = size) (h7 : 0 < size)
    (v : Value) (k : Nat) (xs : List Value) (hs : a.eval s = v) (hown : w.ownsRow base e size v k xs) (ad : Addr) (m c : Nat) (news : List Value) (hx : a.eval x = .slice (some ad) m c) (hn : news.length = m * size)
    (hc : ∀ j u, news[j]? = some u → w.cell? (ad.add j) = some u) (h1c : ∀ u ∈ news, u.oneCell' = true) (b1 : k + m ≤ maxLen) (b2 : (k + m) * bytes ≤ 140737488355328) (b3 : base ≤ w.heap.size)
    (hK : ∀ v' w', w'.ownsRow base e size v' (k + m) (xs ++ news) → w.grownBy w' v.ownBlock → K (a.put o.dst v') w') :
    if Region.wanted o (yielded ops a.tmps) = true then Oper.wp P o a w K Q else E := by
  have hw : Region.wanted o (yielded ops a.tmps) = true := by simp [Region.wanted, hg]
  rw [if_pos hw]
  obtain ⟨v', w', hrun, r1, r2, _⟩ := run_append_own (P := P) w base t o.type e i z size bytes h1 h2 h3 h4 h5 h6 h7 v k xs hown ad m c news hn hc h1c b1 b2 b3
  unfold Oper.wp
  simp [execOp, hop, resolve, invoke, builtin, hs, hx, hrun, Result.andThen]
  exact hK v' w' r1 r2
theorem one_news {w : World} {g : Nat} {z : Value} (h : w.cell? ⟨g, 0, none⟩ = some z) : ∀ j u, ([z] : List Value)[j]? = some u → w.cell? ((⟨g, 0, none⟩ : Addr).add j) = some u := by
  intro j u hj
  have hj0 : j = 0 := by
    have := (List.getElem?_eq_some_iff.1 hj).1
    simp at this; omega
  subst hj0
  have hj : some z = some u := hj
  rw [add_plain, ← hj]; exact h
theorem RdI.cellAdd {B : Nat} {w : World} {a : Addr} {zs : List Int} (h : RdI B w (some a) zs) : ∀ j u, (zs.map (Value.int .i64))[j]? = some u → w.cell? (a.add j) = some u := by
  intro j u hj
  have hjl : j < zs.length := by
    have := (List.getElem?_eq_some_iff.1 hj).1
    simpa using this
  obtain ⟨b, off, e, _, hc⟩ := h.2 (by omega)
  injection e with e
  subst e
  rw [intsAt zs j hjl] at hj
  injection hj with hj
  rw [add_plain, ← hj]
  exact hc j hjl
theorem Clone_any (B : Nat) (A : Option Addr) (n c : Nat) (zs : List Int) (w : World) (hr : RdI B w A zs) (hB : B ≤ w.heap.size) (hl : zs.length = n) (h0 : 0 < n) (hn : n ≤ 100000) :
    Calls Try.prog 68 #[.slice A n c] w fun e w' => ∃ v, e = .returned v ∧ RowI w' w.heap.size v zs ∧ Below w.heap.size w w' := by
  obtain ⟨b, off, rfl, _, _⟩ := hr.2 (by omega)
  obtain ⟨i0, hi, hz0, hz1, hz2⟩ := info_parts info3
  have hal := (Below.refl w.heap.size w).alloc (Nat.le_refl _) (.cells #[] 3)
  have hr1 := hr.below hal hB
  have hown : (w.alloc (.cells #[] 3)).ownsRow w.heap.size 3 1 (.slice (some ⟨w.heap.size, 0, none⟩) 0 0) 0 [] := by
    have := World.ownsRow_lit (base := w.heap.size) (e := 3) (size := 1) w (#[] : Array Value) 0 (Nat.le_refl _) (by unfold maxLen; omega) (by simp)
    simpa using this
  have hcell := hr1.cellAdd
  have hwf := hr.1
  have hnil : ∀ W : World, (binOp BinOp.eql 22 (Value.slice (some ⟨b, off, Option.none⟩) n c) (Value.slice Option.none 0 0)).run Try.prog W = .ok (.bool false) W := fun W => by kernel_rfl
  go_enter Try.func68, Try.ntmps68
  go_wp2_with (at_builtin; refine wpList_append_own _ rfl _ _ 22 rfl w.heap.size 3 i0 (.int .i64 0) 1 8 underlying22 hi hz0 hz1 hz2 rfl (by decide) _ 0 [] rfl hown ⟨b, off, none⟩ n c (zs.map (Value.int .i64)) rfl (by rw [List.length_map, hl, Nat.mul_one]) hcell (by intro u hu; obtain ⟨z, _, rfl⟩ := List.mem_map.1 hu; rfl) (by unfold maxLen; omega) (by omega) (by simp) ?_)
  intro v' w' hown' hg _
  have hlow := hal.grown hg (by simp) (fun k hk => (hown.lt k hk).1)
  go_wp2
  go_ret
  refine ⟨v', rfl, ⟨hwf, ?_⟩, hlow⟩
  rw [hl]
  simpa using hown'

/-- The words that are no row of clauses and not the summer's own stay. -/
structure Ke (s base : Nat) (w w' : World) : Prop where
  low : ∀ lo, lo ≤ s → lo ≤ base → Below lo w w'
  keep : ∀ (b : Nat) (cs : Array Value) (t : TypeId), t ≠ 22 → b ≠ s → w.heap[b]? = some (.cells cs t (0, 0)) → w'.heap[b]? = some (.cells cs t (0, 0))
theorem Ke.refl (s base : Nat) (w : World) : Ke s base w w := ⟨fun _ _ _ => Below.refl _ _, fun _ _ _ _ _ h => h⟩
theorem Ke.trans {s base : Nat} {a b c : World} (h : Ke s base a b) (k : Ke s base b c) : Ke s base a c :=
  ⟨fun lo h1 h2 => (h.low lo h1 h2).trans (k.low lo h1 h2), fun b cs t h1 h2 h3 => k.keep b cs t h1 h2 (h.keep b cs t h1 h2 h3)⟩
theorem Ke.below {s base : Nat} {a b : World} (h : Below a.heap.size a b) (hb : base ≤ a.heap.size) : Ke s base a b :=
  ⟨fun lo _ h2 => h.mono (by omega), fun b _ _ _ _ h3 => (h.block b (Array.getElem?_eq_some_iff.1 h3).1).trans h3⟩
theorem Ke.size {s base : Nat} {a b : World} (h : Ke s base a b) : a.heap.size ≤ b.heap.size := (h.low 0 (Nat.zero_le _) (Nat.zero_le _)).size
theorem Ke.rd {s base B : Nat} {a b : World} (h : Ke s base a b) {A : Option Addr} {zs : List Int} (hs : ∀ g o, A = some ⟨g, o, none⟩ → g ≠ s ∧ ∃ cs, a.heap[g]? = some (.cells cs 3 (0, 0))) (hr : RdI B a A zs) : RdI B b A zs := by
  refine ⟨hr.1, fun hn => ?_⟩
  obtain ⟨g, o, rfl, hb, hc⟩ := hr.2 hn
  obtain ⟨h1, cs, h2⟩ := hs g o rfl
  refine ⟨g, o, rfl, hb, fun j hj => ?_⟩
  have := hc j hj
  rw [cell_of_row a g (o + j) cs 3 (0, 0) h2] at this
  rw [cell_of_row b g (o + j) cs 3 (0, 0) (h.keep g cs 3 (by decide) h1 h2)]
  exact this
/-- The summer with clauses. -/
def SmC (w : World) (s gm base n : Nat) (val : Nat → Value) (Q : Nat → List Int) (top : Int) (cl : List (List Int)) (next : Nat) : Prop :=
  ∃ cv vs, Sm w s gm base n val Q top cv vs cl next
theorem Sm.clause {w w1 w2 : World} {s gm base n : Nat} {val : Nat → Value} {Q : Nat → List Int} {top : Int} {cv v' u : Value} {vs : List Value} {cl : List (List Int)} {next : Nat} {zs : List Int} (S : Sm w s gm base n val Q top cv vs cl next)
    (hu2 : ∀ p : Nat, (val p).ownBlock = none ∨ (val p).ownBlock ≠ u.ownBlock) (hown : w1.ownsRow base 22 1 v' (vs ++ [u]).length (vs ++ [u])) (hels : Els w1 base (vs ++ [u]) (cl ++ [zs])) (hlow : Below base w w1)
    (hkeep : ∀ (b : Nat) (cs : Array Value) (t : TypeId), t ≠ 22 → w.heap[b]? = some (.cells cs t (0, 0)) → w1.heap[b]? = some (.cells cs t (0, 0))) (hw2 : w2 = w1.setCell ⟨s, 2, none⟩ v') :
    Sm w2 s gm base n val Q top v' (vs ++ [u]) (cl ++ [zs]) next ∧ Ke s base w w2 := by
  subst hw2
  have hs1 := hkeep s _ 58 (by decide) S.cells
  have hsame := heap_setCell_same w1 s 2 _ 58 v' hs1
  have hoth : ∀ k, k ≠ s → (w1.setCell ⟨s, 2, none⟩ v').heap[k]? = w1.heap[k]? := fun k hk => heap_setCell_other w1 ⟨s, 2, none⟩ k v' hk
  have hg : w1.grownBy (w1.setCell ⟨s, 2, none⟩ v') (some s) := ⟨rfl, rfl, rfl, by simp [World.setCell], fun k _ hk => hoth k (fun e => hk (by rw [e]))⟩
  have hsb := S.sb
  refine ⟨⟨hsame, ?_, fun p => ?_, S.apart, hown.kept hg ?_, hels.kept3 hg fun y hy => ?_, fun y hy p => ?_, S.sb, S.gb, S.ne⟩, ⟨fun lo h1 h2 => ?_, fun b cs t h1 h2 h3 => (hoth b h2).trans (hkeep b cs t h1 h3)⟩⟩
  · exact S.qm.same ((hoth gm (Ne.symm S.ne)).trans (hlow.block gm S.gb))
  · refine (S.q p).same fun k hk => ?_
    obtain ⟨cs, hc⟩ := (S.q p).block hk
    have hk2 := ((S.q p).lt hk).1
    rw [hoth k (by omega), hkeep k cs 3 (by decide) hc, hc]
  · rcases hk : v'.ownBlock with _ | k
    · exact .inl rfl
    · right; intro e; injection e with e
      have := (hown.lt k hk).1; omega
  · rcases hk : y.ownBlock with _ | k
    · exact .inl rfl
    · right; intro e; injection e with e
      have := (hels.ltB hy hk).1; omega
  · rcases List.mem_append.1 hy with hy | hy
    · exact S.away y hy p
    · rw [List.mem_singleton.1 hy]; exact hu2 p
  · exact (hlow.mono h2).trans ((Below.refl lo w1).setCell (p := ⟨s, 2, none⟩) h1 v')

set_option maxHeartbeats 4000000 in
theorem add_any (s gm base n : Nat) (val : Nat → Value) (Q : Nat → List Int) (top : Int) (cv : Value) (vs : List Value) (cl : List (List Int)) (next : Nat) (A : Option Addr) (m c : Nat) (zs : List Int) (w : World) (S : Sm w s gm base n val Q top cv vs cl next) (hu : RowI w base (.slice A m c) zs) (hu2 : ∀ p : Nat, (val p).ownBlock = none ∨ (val p).ownBlock ≠ (Value.slice A m c).ownBlock) (hcl : cl.length ≤ 1000000) (hbase : base ≤ w.heap.size) :
    Calls Try.prog 67 #[.pointer (some ⟨s, 0, none⟩), .slice A m c] w fun e w' => e = .returned (.tuple #[]) ∧ SmC w' s gm base n val Q top (cl ++ [zs]) next ∧ Ke s base w w' := by
  obtain ⟨c0, c1, c2, c3⟩ := S.cell
  have hown := S.own
  have hels := S.els
  obtain ⟨Av, cvc, hcv⟩ := own_shape hown
  subst hcv
  have key : Hid (∀ (w1 : World) (v' : Value), w1.ownsRow base 22 1 v' (vs ++ [Value.slice A m c]).length (vs ++ [Value.slice A m c]) → Els w1 base (vs ++ [Value.slice A m c]) (cl ++ [zs]) → Below base w w1 → (∀ (b : Nat) (cs : Array Value) (t : TypeId), t ≠ 22 → w.heap[b]? = some (.cells cs t (0, 0)) → w1.heap[b]? = some (.cells cs t (0, 0))) →
      w1.cell? ⟨s, 2, none⟩ = some (.slice Av vs.length cvc) ∧ w1.frozen? ⟨s, 2, none⟩ = false ∧ SmC (w1.setCell ⟨s, 2, none⟩ v') s gm base n val Q top (cl ++ [zs]) next ∧ Ke s base w (w1.setCell ⟨s, 2, none⟩ v')) := by
    refine Lib.hid fun w1 v' h1 h2 h3 h4 => ?_
    have hs1 := h4 s _ 58 (by decide) S.cells
    have := S.clause hu2 h1 h2 h3 h4 rfl
    exact ⟨by rw [cell_of_row w1 s 2 _ 58 (0, 0) hs1]; rfl, frozen_of_row w1 s 2 _ 58 hs1, ⟨_, _, this.1⟩, this.2⟩
  clear S hu2
  go_enter Try.func67, Try.ntmps67
  go_wp2_with (at_builtin; refine push_row_ex rfl _ _ rfl base _ vs cl rfl hown hels _ zs hu rfl hcl hbase ?_)
  intro v' w1 hown1 hels1 hlow1 _ hkeep1
  obtain ⟨A1, c1', hv1⟩ := own_shape hown1
  subst hv1
  have hf := key.out w1 _ (by rw [List.length_append]; exact hown1) hels1 hlow1 hkeep1
  have Hf := Lib.hid hf
  obtain ⟨d1, d2, _⟩ := hf
  clear key hown1 hels1 hlow1 hkeep1 hown hels hu
  go_wp2_with fail
  refine bodyPost_end (results_none rfl _ _ _) rfl ?_
  exact ⟨rfl, Hf.out.2.2.1, Hf.out.2.2.2⟩

/-- What the closure leaves. -/
def Emitted (w : World) (s gm base n : Nat) (val : Nat → Value) (Q : Nat → List Int) (top : Int) (cl : List (List Int)) (next : Nat) (zs : List Int) (e : Ending) (w' : World) : Prop :=
  e = .returned (.tuple #[]) ∧ SmC w' s gm base n val Q top (cl ++ [zs]) next ∧ Ke s base w w'
set_option maxHeartbeats 8000000 in
theorem emit_any (s gm base n bx B : Nat) (val : Nat → Value) (Q : Nat → List Int) (top out : Int) (cl : List (List Int)) (next : Nat) (A : Option Addr) (m c : Nat) (zs : List Int) (w : World) (S : SmC w s gm base n val Q top cl next) (hbx : Boxed w bx 54 (.pointer (some ⟨s, 0, none⟩))) (hr : RdI B w A zs) (hB : B ≤ w.heap.size) (hl : zs.length = m) (h0 : 0 < m) (hm : m ≤ 1000) (ho : Wf out) (hcl : cl.length ≤ 1000000) (hbase : base ≤ w.heap.size) :
    Calls Try.prog 66 #[.int .i64 out, .slice A m c, .pointer (some ⟨bx, 0, none⟩)] w (Emitted w s gm base n val Q top cl next (zs ++ [out])) := by
  obtain ⟨cv, vs, S⟩ := S
  obtain ⟨i0, hi, hz0, hz1, hz2⟩ := info_parts info3
  have S0 : Sm (World.drew w) s gm base n val Q top cv vs cl next := S.below (below_drewN (Below.refl _ _) 1)
  have hb0 : Below w.heap.size w (World.drew w) := below_drewN (Below.refl _ _) 1
  have hbase0 : base ≤ (World.drew w).heap.size := hbase
  have hbxl := Boxed.lt hbx
  have hws : w.heap.size ≤ (World.drew w).heap.size := Nat.le_refl _
  -- what add is called with
  have key : Hid (∀ (W : World) (A2 : Option Addr) (c2 : Nat), Below w.heap.size w W → RowI W w.heap.size (.slice A2 (m + 1) c2) (zs ++ [out]) → Calls Try.prog 67 #[.pointer (some ⟨s, 0, none⟩), .slice A2 (m + 1) c2] W (Emitted w s gm base n val Q top cl next (zs ++ [out]))) := by
    refine Lib.hid fun W A2 c2 hW hrow => ?_
    have hsW := hW.size
    refine (add_any s gm base n val Q top cv vs cl next A2 (m + 1) c2 (zs ++ [out]) W (S.below hW) (hrow.base hbase) (fun p => ?_) hcl (by omega)).mono ?_
    · rcases hk : (val p).ownBlock with _ | k
      · exact .inl rfl
      · right; intro e
        have h1 := ((S.q p).lt hk).2
        have h2 := (hrow.2.lt k e.symm).1
        omega
    · rintro e w' ⟨h1, h2, h3⟩
      exact ⟨h1, h2, (Ke.below hW hbase).trans h3⟩
  clear S S0
  go_enter Try.func66, Try.ntmps66
  go_wp2_with fail
  refine wp_region_any (by kernel_rfl) ?_
  change wpAny _ _ _ _ _ _ _ (World.drew w)
  generalize World.drew w = W0 at *
  refine take_now (i := 1) (some 6) (v := ?_) rfl (by kernel_rfl) (by kernel_rfl) (by kernel_rfl) (fun _ _ _ h => h) (Or.inl ⟨by rfl, ?_⟩) rfl ?_
  rotate_left
  focus (intro w; go_simp; try with_reducible rfl)
  try simp only [Act.put, List.setIfInBounds_toArray, List.set_cons_zero, List.set_cons_succ]
  refine take_now (i := 3) (some 8) (v := ?_) rfl (by kernel_rfl) (by kernel_rfl) (by kernel_rfl) (fun _ _ _ h => h) (Or.inl ⟨by rfl, ?_⟩) rfl ?_
  rotate_left
  focus (intro w; go_simp; try with_reducible rfl)
  try simp only [Act.put, List.setIfInBounds_toArray, List.set_cons_zero, List.set_cons_succ]
  refine wpAny_ready (rs := [0, 2, 4]) (by kernel_rfl) (by simp) (AllReady.cons rfl (fun K hK => ?_) (AllReady.cons rfl (fun K hK => ?_) (AllReady.cons rfl (fun K hK => ?_) AllReady.nil)))
  · have c0 := (Boxed.lower hbx hb0 hbxl).cell
    go_simp
    refine hK _ _ ?_
    clear hK K c0
    refine wpAny_ready (rs := [2, 4]) (by kernel_rfl) (by simp) (AllReady.cons rfl (fun K hK => ?_) (AllReady.cons rfl (fun K hK => ?_) AllReady.nil))
    · have hC := Clone_any B A m c zs W0 (hr.below hb0 hB) (by have := hb0.size; omega) hl h0 (by omega)
      go_simp
      with_reducible refine hC.mono ?_
      rintro e W0c ⟨vC, rfl, rowC, lowC⟩
      obtain ⟨AC, cC, hvC, _, _, _⟩ := rowC.shape
      rw [hl] at hvC
      subst hvC
      have hb0c := hb0.trans (lowC.mono hb0.size)
      have rowC := rowC.base hb0.size
      refine hK _ _ ?_
      clear hK K hC
      refine wpAny_ready (rs := [4]) (by kernel_rfl) (by simp) (AllReady.cons rfl (fun K hK => ?_) AllReady.nil)
      go_simp
      refine hK _ _ ?_
      clear hK K
      have hal := (Below.refl W0c.heap.size W0c).alloc (Nat.le_refl _) (.cells #[.int .i64 out] 3)
      have hb0ca := hb0c.trans (hal.mono hb0c.size)
      have cellx : (W0c.alloc (.cells #[.int .i64 out] 3)).cell? ⟨W0c.heap.size, 0, none⟩ = some (.int .i64 out) := (Boxed.new W0c 3 _).cell
      have hgx : W0c.heap.size < (W0c.alloc (.cells #[.int .i64 out] 3)).heap.size := by simp
      have rowC := rowC.alloc (.cells #[.int .i64 out] 3)
      generalize W0c.alloc (.cells #[.int .i64 out] 3) = W0ca at *
      generalize hgxe : W0c.heap.size = gx at *
      refine wpAny_ready (rs := [5]) (by kernel_rfl) (by simp) (AllReady.cons rfl (fun K hK => ?_) AllReady.nil)
      refine step_append_own rfl (.tmp 7) (.tmp 9) 22 rfl w.heap.size 3 i0 (.int .i64 0) 1 8 underlying22 hi hz0 hz1 hz2 rfl (by decide) _ zs.length (zs.map (Value.int .i64)) (by simp [Act.eval] <;> rfl) rowC.2 ⟨gx, 0, none⟩ 1 1 [.int .i64 out] (by simp [Act.eval] <;> rfl) rfl (one_news cellx) (by simp [Value.oneCell']) (by unfold maxLen; omega) (by omega) hb0ca.size ?_
      intro v2 W5 hown2 hg2
      have row2 : RowI W5 w.heap.size v2 (zs ++ [out]) := RowI.snoc ho rowC.1 hown2
      obtain ⟨A2, c2, hv2, _, _, _⟩ := row2.shape
      have hlen2 : (zs ++ [out]).length = m + 1 := by rw [List.length_append, hl]; rfl
      rw [hlen2] at hv2
      subst hv2
      have hb0cas := hb0ca.grown hg2 hb0ca.size (fun k hk => (rowC.2.lt k hk).1)
      refine hK _ _ ?_
      clear hK K
      refine wpAny_ready (rs := [6]) (by kernel_rfl) (by simp) (AllReady.cons rfl (fun K hK => ?_) AllReady.nil)
      have hE := key.out W5 A2 c2 hb0cas row2
      go_simp
      with_reducible refine hE.mono ?_
      rintro e W6 hfin
      have he := hfin.1
      subst he
      refine hK _ _ ?_
      clear hK K hE
      refine wpAny_done (by kernel_rfl) ?_ _
      clear key
      go_wp2_with fail
      refine bodyPost_end (results_none rfl _ _ _) rfl ?_
      exact hfin
    · go_simp
      refine hK _ _ ?_
      clear hK K
      have hal := (Below.refl W0.heap.size W0).alloc (Nat.le_refl _) (.cells #[.int .i64 out] 3)
      have hb0a := hb0.trans (hal.mono hb0.size)
      have cellx : (W0.alloc (.cells #[.int .i64 out] 3)).cell? ⟨W0.heap.size, 0, none⟩ = some (.int .i64 out) := (Boxed.new W0 3 _).cell
      have hgx : W0.heap.size < (W0.alloc (.cells #[.int .i64 out] 3)).heap.size := by simp
      generalize W0.alloc (.cells #[.int .i64 out] 3) = W0a at *
      generalize hgxe : W0.heap.size = gx at *
      refine wpAny_ready (rs := [2]) (by kernel_rfl) (by simp) (AllReady.cons rfl (fun K hK => ?_) AllReady.nil)
      have hC := Clone_any B A m c zs W0a (hr.below hb0a hB) (by have := hb0a.size; omega) hl h0 (by omega)
      go_simp
      with_reducible refine hC.mono ?_
      rintro e W0ac ⟨vC, rfl, rowC, lowC⟩
      obtain ⟨AC, cC, hvC, _, _, _⟩ := rowC.shape
      rw [hl] at hvC
      subst hvC
      have hb0ac := hb0a.trans (lowC.mono hb0a.size)
      have rowC := rowC.base hb0a.size
      have cellx := (lowC.cell (p := ⟨gx, 0, none⟩) hgx).trans cellx
      refine hK _ _ ?_
      clear hK K hC
      refine wpAny_ready (rs := [5]) (by kernel_rfl) (by simp) (AllReady.cons rfl (fun K hK => ?_) AllReady.nil)
      refine step_append_own rfl (.tmp 7) (.tmp 9) 22 rfl w.heap.size 3 i0 (.int .i64 0) 1 8 underlying22 hi hz0 hz1 hz2 rfl (by decide) _ zs.length (zs.map (Value.int .i64)) (by simp [Act.eval] <;> rfl) rowC.2 ⟨gx, 0, none⟩ 1 1 [.int .i64 out] (by simp [Act.eval] <;> rfl) rfl (one_news cellx) (by simp [Value.oneCell']) (by unfold maxLen; omega) (by omega) hb0ac.size ?_
      intro v2 W5 hown2 hg2
      have row2 : RowI W5 w.heap.size v2 (zs ++ [out]) := RowI.snoc ho rowC.1 hown2
      obtain ⟨A2, c2, hv2, _, _, _⟩ := row2.shape
      have hlen2 : (zs ++ [out]).length = m + 1 := by rw [List.length_append, hl]; rfl
      rw [hlen2] at hv2
      subst hv2
      have hb0acs := hb0ac.grown hg2 hb0ac.size (fun k hk => (rowC.2.lt k hk).1)
      refine hK _ _ ?_
      clear hK K
      refine wpAny_ready (rs := [6]) (by kernel_rfl) (by simp) (AllReady.cons rfl (fun K hK => ?_) AllReady.nil)
      have hE := key.out W5 A2 c2 hb0acs row2
      go_simp
      with_reducible refine hE.mono ?_
      rintro e W6 hfin
      have he := hfin.1
      subst he
      refine hK _ _ ?_
      clear hK K hE
      refine wpAny_done (by kernel_rfl) ?_ _
      clear key
      go_wp2_with fail
      refine bodyPost_end (results_none rfl _ _ _) rfl ?_
      exact hfin
  · have hC := Clone_any B A m c zs W0 (hr.below hb0 hB) (by have := hb0.size; omega) hl h0 (by omega)
    go_simp
    with_reducible refine hC.mono ?_
    rintro e W0c ⟨vC, rfl, rowC, lowC⟩
    obtain ⟨AC, cC, hvC, _, _, _⟩ := rowC.shape
    rw [hl] at hvC
    subst hvC
    have hb0c := hb0.trans (lowC.mono hb0.size)
    have rowC := rowC.base hb0.size
    refine hK _ _ ?_
    clear hK K hC
    refine wpAny_ready (rs := [0, 4]) (by kernel_rfl) (by simp) (AllReady.cons rfl (fun K hK => ?_) (AllReady.cons rfl (fun K hK => ?_) AllReady.nil))
    · have c0 := (Boxed.lower hbx hb0c hbxl).cell
      go_simp
      refine hK _ _ ?_
      clear hK K c0
      refine wpAny_ready (rs := [4]) (by kernel_rfl) (by simp) (AllReady.cons rfl (fun K hK => ?_) AllReady.nil)
      go_simp
      refine hK _ _ ?_
      clear hK K
      have hal := (Below.refl W0c.heap.size W0c).alloc (Nat.le_refl _) (.cells #[.int .i64 out] 3)
      have hb0ca := hb0c.trans (hal.mono hb0c.size)
      have cellx : (W0c.alloc (.cells #[.int .i64 out] 3)).cell? ⟨W0c.heap.size, 0, none⟩ = some (.int .i64 out) := (Boxed.new W0c 3 _).cell
      have hgx : W0c.heap.size < (W0c.alloc (.cells #[.int .i64 out] 3)).heap.size := by simp
      have rowC := rowC.alloc (.cells #[.int .i64 out] 3)
      generalize W0c.alloc (.cells #[.int .i64 out] 3) = W0ca at *
      generalize hgxe : W0c.heap.size = gx at *
      refine wpAny_ready (rs := [5]) (by kernel_rfl) (by simp) (AllReady.cons rfl (fun K hK => ?_) AllReady.nil)
      refine step_append_own rfl (.tmp 7) (.tmp 9) 22 rfl w.heap.size 3 i0 (.int .i64 0) 1 8 underlying22 hi hz0 hz1 hz2 rfl (by decide) _ zs.length (zs.map (Value.int .i64)) (by simp [Act.eval] <;> rfl) rowC.2 ⟨gx, 0, none⟩ 1 1 [.int .i64 out] (by simp [Act.eval] <;> rfl) rfl (one_news cellx) (by simp [Value.oneCell']) (by unfold maxLen; omega) (by omega) hb0ca.size ?_
      intro v2 W5 hown2 hg2
      have row2 : RowI W5 w.heap.size v2 (zs ++ [out]) := RowI.snoc ho rowC.1 hown2
      obtain ⟨A2, c2, hv2, _, _, _⟩ := row2.shape
      have hlen2 : (zs ++ [out]).length = m + 1 := by rw [List.length_append, hl]; rfl
      rw [hlen2] at hv2
      subst hv2
      have hb0cas := hb0ca.grown hg2 hb0ca.size (fun k hk => (rowC.2.lt k hk).1)
      refine hK _ _ ?_
      clear hK K
      refine wpAny_ready (rs := [6]) (by kernel_rfl) (by simp) (AllReady.cons rfl (fun K hK => ?_) AllReady.nil)
      have hE := key.out W5 A2 c2 hb0cas row2
      go_simp
      with_reducible refine hE.mono ?_
      rintro e W6 hfin
      have he := hfin.1
      subst he
      refine hK _ _ ?_
      clear hK K hE
      refine wpAny_done (by kernel_rfl) ?_ _
      clear key
      go_wp2_with fail
      refine bodyPost_end (results_none rfl _ _ _) rfl ?_
      exact hfin
    · go_simp
      refine hK _ _ ?_
      clear hK K
      have hal := (Below.refl W0c.heap.size W0c).alloc (Nat.le_refl _) (.cells #[.int .i64 out] 3)
      have hb0ca := hb0c.trans (hal.mono hb0c.size)
      have cellx : (W0c.alloc (.cells #[.int .i64 out] 3)).cell? ⟨W0c.heap.size, 0, none⟩ = some (.int .i64 out) := (Boxed.new W0c 3 _).cell
      have hgx : W0c.heap.size < (W0c.alloc (.cells #[.int .i64 out] 3)).heap.size := by simp
      have rowC := rowC.alloc (.cells #[.int .i64 out] 3)
      generalize W0c.alloc (.cells #[.int .i64 out] 3) = W0ca at *
      generalize hgxe : W0c.heap.size = gx at *
      refine wpAny_ready (rs := [0, 5]) (by kernel_rfl) (by simp) (AllReady.cons rfl (fun K hK => ?_) (AllReady.cons rfl (fun K hK => ?_) AllReady.nil))
      · have c0 := (Boxed.lower hbx hb0ca hbxl).cell
        go_simp
        refine hK _ _ ?_
        clear hK K c0
        refine wpAny_ready (rs := [5]) (by kernel_rfl) (by simp) (AllReady.cons rfl (fun K hK => ?_) AllReady.nil)
        refine step_append_own rfl (.tmp 7) (.tmp 9) 22 rfl w.heap.size 3 i0 (.int .i64 0) 1 8 underlying22 hi hz0 hz1 hz2 rfl (by decide) _ zs.length (zs.map (Value.int .i64)) (by simp [Act.eval] <;> rfl) rowC.2 ⟨gx, 0, none⟩ 1 1 [.int .i64 out] (by simp [Act.eval] <;> rfl) rfl (one_news cellx) (by simp [Value.oneCell']) (by unfold maxLen; omega) (by omega) hb0ca.size ?_
        intro v2 W5 hown2 hg2
        have row2 : RowI W5 w.heap.size v2 (zs ++ [out]) := RowI.snoc ho rowC.1 hown2
        obtain ⟨A2, c2, hv2, _, _, _⟩ := row2.shape
        have hlen2 : (zs ++ [out]).length = m + 1 := by rw [List.length_append, hl]; rfl
        rw [hlen2] at hv2
        subst hv2
        have hb0cas := hb0ca.grown hg2 hb0ca.size (fun k hk => (rowC.2.lt k hk).1)
        refine hK _ _ ?_
        clear hK K
        refine wpAny_ready (rs := [6]) (by kernel_rfl) (by simp) (AllReady.cons rfl (fun K hK => ?_) AllReady.nil)
        have hE := key.out W5 A2 c2 hb0cas row2
        go_simp
        with_reducible refine hE.mono ?_
        rintro e W6 hfin
        have he := hfin.1
        subst he
        refine hK _ _ ?_
        clear hK K hE
        refine wpAny_done (by kernel_rfl) ?_ _
        clear key
        go_wp2_with fail
        refine bodyPost_end (results_none rfl _ _ _) rfl ?_
        exact hfin
      · refine step_append_own rfl (.tmp 7) (.tmp 9) 22 rfl w.heap.size 3 i0 (.int .i64 0) 1 8 underlying22 hi hz0 hz1 hz2 rfl (by decide) _ zs.length (zs.map (Value.int .i64)) (by simp [Act.eval] <;> rfl) rowC.2 ⟨gx, 0, none⟩ 1 1 [.int .i64 out] (by simp [Act.eval] <;> rfl) rfl (one_news cellx) (by simp [Value.oneCell']) (by unfold maxLen; omega) (by omega) hb0ca.size ?_
        intro v2 W5 hown2 hg2
        have row2 : RowI W5 w.heap.size v2 (zs ++ [out]) := RowI.snoc ho rowC.1 hown2
        obtain ⟨A2, c2, hv2, _, _, _⟩ := row2.shape
        have hlen2 : (zs ++ [out]).length = m + 1 := by rw [List.length_append, hl]; rfl
        rw [hlen2] at hv2
        subst hv2
        have hb0cas := hb0ca.grown hg2 hb0ca.size (fun k hk => (rowC.2.lt k hk).1)
        refine hK _ _ ?_
        clear hK K
        refine wpAny_ready (rs := [0]) (by kernel_rfl) (by simp) (AllReady.cons rfl (fun K hK => ?_) AllReady.nil)
        have c0 := (Boxed.lower hbx hb0cas hbxl).cell
        go_simp
        refine hK _ _ ?_
        clear hK K c0
        refine wpAny_ready (rs := [6]) (by kernel_rfl) (by simp) (AllReady.cons rfl (fun K hK => ?_) AllReady.nil)
        have hE := key.out W5 A2 c2 hb0cas row2
        go_simp
        with_reducible refine hE.mono ?_
        rintro e W6 hfin
        have he := hfin.1
        subst he
        refine hK _ _ ?_
        clear hK K hE
        refine wpAny_done (by kernel_rfl) ?_ _
        clear key
        go_wp2_with fail
        refine bodyPost_end (results_none rfl _ _ _) rfl ?_
        exact hfin
  · go_simp
    refine hK _ _ ?_
    clear hK K
    have hal := (Below.refl W0.heap.size W0).alloc (Nat.le_refl _) (.cells #[.int .i64 out] 3)
    have hb0a := hb0.trans (hal.mono hb0.size)
    have cellx : (W0.alloc (.cells #[.int .i64 out] 3)).cell? ⟨W0.heap.size, 0, none⟩ = some (.int .i64 out) := (Boxed.new W0 3 _).cell
    have hgx : W0.heap.size < (W0.alloc (.cells #[.int .i64 out] 3)).heap.size := by simp
    generalize W0.alloc (.cells #[.int .i64 out] 3) = W0a at *
    generalize hgxe : W0.heap.size = gx at *
    refine wpAny_ready (rs := [0, 2]) (by kernel_rfl) (by simp) (AllReady.cons rfl (fun K hK => ?_) (AllReady.cons rfl (fun K hK => ?_) AllReady.nil))
    · have c0 := (Boxed.lower hbx hb0a hbxl).cell
      go_simp
      refine hK _ _ ?_
      clear hK K c0
      refine wpAny_ready (rs := [2]) (by kernel_rfl) (by simp) (AllReady.cons rfl (fun K hK => ?_) AllReady.nil)
      have hC := Clone_any B A m c zs W0a (hr.below hb0a hB) (by have := hb0a.size; omega) hl h0 (by omega)
      go_simp
      with_reducible refine hC.mono ?_
      rintro e W0ac ⟨vC, rfl, rowC, lowC⟩
      obtain ⟨AC, cC, hvC, _, _, _⟩ := rowC.shape
      rw [hl] at hvC
      subst hvC
      have hb0ac := hb0a.trans (lowC.mono hb0a.size)
      have rowC := rowC.base hb0a.size
      have cellx := (lowC.cell (p := ⟨gx, 0, none⟩) hgx).trans cellx
      refine hK _ _ ?_
      clear hK K hC
      refine wpAny_ready (rs := [5]) (by kernel_rfl) (by simp) (AllReady.cons rfl (fun K hK => ?_) AllReady.nil)
      refine step_append_own rfl (.tmp 7) (.tmp 9) 22 rfl w.heap.size 3 i0 (.int .i64 0) 1 8 underlying22 hi hz0 hz1 hz2 rfl (by decide) _ zs.length (zs.map (Value.int .i64)) (by simp [Act.eval] <;> rfl) rowC.2 ⟨gx, 0, none⟩ 1 1 [.int .i64 out] (by simp [Act.eval] <;> rfl) rfl (one_news cellx) (by simp [Value.oneCell']) (by unfold maxLen; omega) (by omega) hb0ac.size ?_
      intro v2 W5 hown2 hg2
      have row2 : RowI W5 w.heap.size v2 (zs ++ [out]) := RowI.snoc ho rowC.1 hown2
      obtain ⟨A2, c2, hv2, _, _, _⟩ := row2.shape
      have hlen2 : (zs ++ [out]).length = m + 1 := by rw [List.length_append, hl]; rfl
      rw [hlen2] at hv2
      subst hv2
      have hb0acs := hb0ac.grown hg2 hb0ac.size (fun k hk => (rowC.2.lt k hk).1)
      refine hK _ _ ?_
      clear hK K
      refine wpAny_ready (rs := [6]) (by kernel_rfl) (by simp) (AllReady.cons rfl (fun K hK => ?_) AllReady.nil)
      have hE := key.out W5 A2 c2 hb0acs row2
      go_simp
      with_reducible refine hE.mono ?_
      rintro e W6 hfin
      have he := hfin.1
      subst he
      refine hK _ _ ?_
      clear hK K hE
      refine wpAny_done (by kernel_rfl) ?_ _
      clear key
      go_wp2_with fail
      refine bodyPost_end (results_none rfl _ _ _) rfl ?_
      exact hfin
    · have hC := Clone_any B A m c zs W0a (hr.below hb0a hB) (by have := hb0a.size; omega) hl h0 (by omega)
      go_simp
      with_reducible refine hC.mono ?_
      rintro e W0ac ⟨vC, rfl, rowC, lowC⟩
      obtain ⟨AC, cC, hvC, _, _, _⟩ := rowC.shape
      rw [hl] at hvC
      subst hvC
      have hb0ac := hb0a.trans (lowC.mono hb0a.size)
      have rowC := rowC.base hb0a.size
      have cellx := (lowC.cell (p := ⟨gx, 0, none⟩) hgx).trans cellx
      refine hK _ _ ?_
      clear hK K hC
      refine wpAny_ready (rs := [0, 5]) (by kernel_rfl) (by simp) (AllReady.cons rfl (fun K hK => ?_) (AllReady.cons rfl (fun K hK => ?_) AllReady.nil))
      · have c0 := (Boxed.lower hbx hb0ac hbxl).cell
        go_simp
        refine hK _ _ ?_
        clear hK K c0
        refine wpAny_ready (rs := [5]) (by kernel_rfl) (by simp) (AllReady.cons rfl (fun K hK => ?_) AllReady.nil)
        refine step_append_own rfl (.tmp 7) (.tmp 9) 22 rfl w.heap.size 3 i0 (.int .i64 0) 1 8 underlying22 hi hz0 hz1 hz2 rfl (by decide) _ zs.length (zs.map (Value.int .i64)) (by simp [Act.eval] <;> rfl) rowC.2 ⟨gx, 0, none⟩ 1 1 [.int .i64 out] (by simp [Act.eval] <;> rfl) rfl (one_news cellx) (by simp [Value.oneCell']) (by unfold maxLen; omega) (by omega) hb0ac.size ?_
        intro v2 W5 hown2 hg2
        have row2 : RowI W5 w.heap.size v2 (zs ++ [out]) := RowI.snoc ho rowC.1 hown2
        obtain ⟨A2, c2, hv2, _, _, _⟩ := row2.shape
        have hlen2 : (zs ++ [out]).length = m + 1 := by rw [List.length_append, hl]; rfl
        rw [hlen2] at hv2
        subst hv2
        have hb0acs := hb0ac.grown hg2 hb0ac.size (fun k hk => (rowC.2.lt k hk).1)
        refine hK _ _ ?_
        clear hK K
        refine wpAny_ready (rs := [6]) (by kernel_rfl) (by simp) (AllReady.cons rfl (fun K hK => ?_) AllReady.nil)
        have hE := key.out W5 A2 c2 hb0acs row2
        go_simp
        with_reducible refine hE.mono ?_
        rintro e W6 hfin
        have he := hfin.1
        subst he
        refine hK _ _ ?_
        clear hK K hE
        refine wpAny_done (by kernel_rfl) ?_ _
        clear key
        go_wp2_with fail
        refine bodyPost_end (results_none rfl _ _ _) rfl ?_
        exact hfin
      · refine step_append_own rfl (.tmp 7) (.tmp 9) 22 rfl w.heap.size 3 i0 (.int .i64 0) 1 8 underlying22 hi hz0 hz1 hz2 rfl (by decide) _ zs.length (zs.map (Value.int .i64)) (by simp [Act.eval] <;> rfl) rowC.2 ⟨gx, 0, none⟩ 1 1 [.int .i64 out] (by simp [Act.eval] <;> rfl) rfl (one_news cellx) (by simp [Value.oneCell']) (by unfold maxLen; omega) (by omega) hb0ac.size ?_
        intro v2 W5 hown2 hg2
        have row2 : RowI W5 w.heap.size v2 (zs ++ [out]) := RowI.snoc ho rowC.1 hown2
        obtain ⟨A2, c2, hv2, _, _, _⟩ := row2.shape
        have hlen2 : (zs ++ [out]).length = m + 1 := by rw [List.length_append, hl]; rfl
        rw [hlen2] at hv2
        subst hv2
        have hb0acs := hb0ac.grown hg2 hb0ac.size (fun k hk => (rowC.2.lt k hk).1)
        refine hK _ _ ?_
        clear hK K
        refine wpAny_ready (rs := [0]) (by kernel_rfl) (by simp) (AllReady.cons rfl (fun K hK => ?_) AllReady.nil)
        have c0 := (Boxed.lower hbx hb0acs hbxl).cell
        go_simp
        refine hK _ _ ?_
        clear hK K c0
        refine wpAny_ready (rs := [6]) (by kernel_rfl) (by simp) (AllReady.cons rfl (fun K hK => ?_) AllReady.nil)
        have hE := key.out W5 A2 c2 hb0acs row2
        go_simp
        with_reducible refine hE.mono ?_
        rintro e W6 hfin
        have he := hfin.1
        subst he
        refine hK _ _ ?_
        clear hK K hE
        refine wpAny_done (by kernel_rfl) ?_ _
        clear key
        go_wp2_with fail
        refine bodyPost_end (results_none rfl _ _ _) rfl ?_
        exact hfin
end Go.Proofs.Ytpeklcbjhkchlaa
