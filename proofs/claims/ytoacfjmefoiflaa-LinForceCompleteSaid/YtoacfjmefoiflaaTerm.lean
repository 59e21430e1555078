/- The walk of term: a builder's two rows grow by one each. -/
import Derived.Test.YtoacfjmefoiflaaLinF
namespace Go.Proofs.Ytoacfjmefoiflaa
open Go.RowKit Go.Maps
set_option maxRecDepth 30000

/-- Two rows in blocks of their own. -/
def Dis2 (v u : Value) : Prop := ∀ k, ¬ (v.ownBlock = some k ∧ u.ownBlock = some k)
theorem Dis2.symm {v u : Value} (h : Dis2 v u) : Dis2 u v := fun k ⟨a, b⟩ => h k ⟨b, a⟩
theorem Dis2.nil (u : Value) : Dis2 (.slice Option.none 0 0) u := fun k ⟨a, _⟩ => by simp [Value.ownBlock] at a
/-- A builder in block g, its rows in blocks from base on. -/
def Bld (w : World) (g base : Nat) (cs ls : List Int) (k : Int) : Prop := ∃ v1 v2, LinAt w g v1 v2 k 52 ∧ QI w base v1 cs ∧ QI w base v2 ls ∧ Dis2 v1 v2 ∧ g < base ∧ base ≤ w.heap.size
/-- In the middle of term. -/
structure TSt (w W : World) (g base : Nat) (u1 u2 : Value) (k : Int) (v1 v2 : Value) (zs1 zs2 : List Int) (c z : Int) (l1 l2 : Option Nat) : Prop where
  at' : LinAt W g u1 u2 k 52
  q1 : QI W base v1 zs1
  q2 : QI W base v2 zs2
  dis : Dis2 v1 v2
  f1 : ∀ b, l1 = some b → W.heap[b]? = some (.cells #[.int .i64 c] 3 (0, 0)) ∧ v1.ownBlock ≠ some b ∧ v2.ownBlock ≠ some b
  f2 : ∀ b, l2 = some b → W.heap[b]? = some (.cells #[.int .i64 z] 3 (0, 0)) ∧ v1.ownBlock ≠ some b ∧ v2.ownBlock ≠ some b
  gb : g < base
  bs : base ≤ W.heap.size
  low : Below g w W
theorem TSt.al {w W : World} {g base : Nat} {u1 u2 : Value} {k : Int} {v1 v2 : Value} {zs1 zs2 : List Int} {c z : Int} {l1 l2 : Option Nat} (S : TSt w W g base u1 u2 k v1 v2 zs1 zs2 c z l1 l2) (o : Obj) :
    LinAt (W.alloc o) g u1 u2 k 52 ∧ QI (W.alloc o) base v1 zs1 ∧ QI (W.alloc o) base v2 zs2 ∧ base ≤ (W.alloc o).heap.size ∧ Below g w (W.alloc o) :=
  ⟨(heap_alloc_old W _ S.at'.lt).trans S.at', S.q1.same fun k hk => heap_alloc_old W _ (S.q1.lt hk).2, S.q2.same fun k hk => heap_alloc_old W _ (S.q2.lt hk).2, by have := S.bs; simp; omega, S.low.trans ((Below.refl g W).alloc (by have := S.gb; have := S.bs; omega) _)⟩
theorem TSt.alloc1 {w W : World} {g base : Nat} {u1 u2 : Value} {k : Int} {v1 v2 : Value} {zs1 zs2 : List Int} {c z : Int} {l1 l2 : Option Nat} (S : TSt w W g base u1 u2 k v1 v2 zs1 zs2 c z l1 l2) :
    TSt w (W.alloc (.cells #[.int .i64 c] 3)) g base u1 u2 k v1 v2 zs1 zs2 c z (some W.heap.size) l2 := by
  obtain ⟨a, b, d, e, f⟩ := S.al (.cells #[.int .i64 c] 3)
  refine ⟨a, b, d, S.dis, fun q hq => ?_, fun q hq => ?_, S.gb, e, f⟩
  · injection hq with hq
    subst hq
    exact ⟨heap_alloc_new _ _, fun e => by have := (S.q1.lt e).2; omega, fun e => by have := (S.q2.lt e).2; omega⟩
  · obtain ⟨h1, h2, h3⟩ := S.f2 q hq
    exact ⟨(heap_alloc_old W _ (Array.getElem?_eq_some_iff.1 h1).1).trans h1, h2, h3⟩
theorem TSt.alloc2 {w W : World} {g base : Nat} {u1 u2 : Value} {k : Int} {v1 v2 : Value} {zs1 zs2 : List Int} {c z : Int} {l1 l2 : Option Nat} (S : TSt w W g base u1 u2 k v1 v2 zs1 zs2 c z l1 l2) :
    TSt w (W.alloc (.cells #[.int .i64 z] 3)) g base u1 u2 k v1 v2 zs1 zs2 c z l1 (some W.heap.size) := by
  obtain ⟨a, b, d, e, f⟩ := S.al (.cells #[.int .i64 z] 3)
  refine ⟨a, b, d, S.dis, fun q hq => ?_, fun q hq => ?_, S.gb, e, f⟩
  · obtain ⟨h1, h2, h3⟩ := S.f1 q hq
    exact ⟨(heap_alloc_old W _ (Array.getElem?_eq_some_iff.1 h1).1).trans h1, h2, h3⟩
  · injection hq with hq
    subst hq
    exact ⟨heap_alloc_new _ _, fun e => by have := (S.q1.lt e).2; omega, fun e => by have := (S.q2.lt e).2; omega⟩
theorem TSt.push1 {w W W' : World} {g base : Nat} {u1 u2 : Value} {k : Int} {v1 v2 v' : Value} {zs1 zs2 zs' : List Int} {c z : Int} {l1 l2 : Option Nat} (S : TSt w W g base u1 u2 k v1 v2 zs1 zs2 c z l1 l2)
    (hq : QI W' base v' zs') (hg : W.grownBy W' v1.ownBlock) (hb : v'.ownBlock = v1.ownBlock ∨ ∀ k, v'.ownBlock = some k → W.heap.size ≤ k) : TSt w W' g base u1 u2 k v' v2 zs' zs2 c z l1 l2 := by
  have hgW : ∀ i, i < W.heap.size → v1.ownBlock ≠ some i → W'.heap[i]? = W.heap[i]? := fun i hi hne => hg.block i hi (fun e => hne e.symm)
  have hnew : ∀ b, b < W.heap.size → v1.ownBlock ≠ some b → v'.ownBlock ≠ some b := fun b hb1 hb2 e => by
    rcases hb with q | q
    · exact hb2 (by rw [← q]; exact e)
    · have := q b e; omega
  refine ⟨(hgW g S.at'.lt (fun e => by have := (S.q1.lt e).1; have := S.gb; omega)).trans S.at', hq, S.q2.same fun i hi => hgW i (S.q2.lt hi).2 (fun e => S.dis i ⟨e, hi⟩), fun i ⟨a, b⟩ => ?_, fun q hq => ?_, fun q hq => ?_, S.gb, by have := hg.size; have := S.bs; omega, S.low.trans ((Below.refl g W).grown hg (by have := S.gb; have := S.bs; omega) (fun i hi => by have := (S.q1.lt hi).1; have := S.gb; omega))⟩
  · exact hnew i (S.q2.lt b).2 (fun e => S.dis i ⟨e, b⟩) a
  · obtain ⟨h1, h2, h3⟩ := S.f1 q hq
    have hl := (Array.getElem?_eq_some_iff.1 h1).1
    exact ⟨(hgW q hl h2).trans h1, hnew q hl h2, h3⟩
  · obtain ⟨h1, h2, h3⟩ := S.f2 q hq
    have hl := (Array.getElem?_eq_some_iff.1 h1).1
    exact ⟨(hgW q hl h2).trans h1, hnew q hl h2, h3⟩
theorem TSt.swap {w W : World} {g base : Nat} {u1 u2 : Value} {k : Int} {v1 v2 : Value} {zs1 zs2 : List Int} {c z : Int} {l1 l2 : Option Nat} (S : TSt w W g base u1 u2 k v1 v2 zs1 zs2 c z l1 l2) : TSt w W g base u1 u2 k v2 v1 zs2 zs1 z c l2 l1 :=
  ⟨S.at', S.q2, S.q1, S.dis.symm, fun b hb => ⟨(S.f2 b hb).1, (S.f2 b hb).2.2, (S.f2 b hb).2.1⟩, fun b hb => ⟨(S.f1 b hb).1, (S.f1 b hb).2.2, (S.f1 b hb).2.1⟩, S.gb, S.bs, S.low⟩
theorem TSt.push2 {w W W' : World} {g base : Nat} {u1 u2 : Value} {k : Int} {v1 v2 v' : Value} {zs1 zs2 zs' : List Int} {c z : Int} {l1 l2 : Option Nat} (S : TSt w W g base u1 u2 k v1 v2 zs1 zs2 c z l1 l2)
    (hq : QI W' base v' zs') (hg : W.grownBy W' v2.ownBlock) (hb : v'.ownBlock = v2.ownBlock ∨ ∀ k, v'.ownBlock = some k → W.heap.size ≤ k) : TSt w W' g base u1 u2 k v1 v' zs1 zs' c z l1 l2 := (S.swap.push1 hq hg hb).swap
theorem LinAt.frozen {w : World} {g : Nat} {vc vl : Value} {k : Int} {t : TypeId} (h : LinAt w g vc vl k t) (j : Nat) : w.frozen? ⟨g, j, none⟩ = false := frozen_of_row w g j _ t h
theorem LinAt.set0 {w : World} {g : Nat} {vc vl : Value} {k : Int} {t : TypeId} (h : LinAt w g vc vl k t) (v : Value) : LinAt (w.setCell ⟨g, 0, none⟩ v) g v vl k t := heap_setCell_same w g 0 _ t v h
theorem LinAt.set1 {w : World} {g : Nat} {vc vl : Value} {k : Int} {t : TypeId} (h : LinAt w g vc vl k t) (v : Value) : LinAt (w.setCell ⟨g, 1, none⟩ v) g vc v k t := heap_setCell_same w g 1 _ t v h
theorem LinAt.set2 {w : World} {g : Nat} {vc vl : Value} {k : Int} {t : TypeId} (h : LinAt w g vc vl k t) (x : Int) : LinAt (w.setCell ⟨g, 2, none⟩ (.int .i64 x)) g vc vl x t := heap_setCell_same w g 2 _ t (.int .i64 x) h
theorem QI.set {w : World} {base g j : Nat} {v u : Value} {zs : List Int} (h : QI w base v zs) (hg : g < base) : QI (w.setCell ⟨g, j, none⟩ u) base v zs := h.same fun k hk => heap_setCell_other w ⟨g, j, none⟩ k u (fun e => by have := (h.lt hk).1; have e : k = g := e; omega)

set_option maxHeartbeats 16000000 in
theorem term_any (g base : Nat) (cs ls : List Int) (k c z : Int) (w : World) (B : Bld w g base cs ls k) (hc : Wf c) (hz : Wf z) (hn1 : cs.length ≤ 1000000) (hn2 : ls.length ≤ 1000000) :
    Calls Try.prog 56 #[.pointer (some ⟨g, 0, none⟩), .int .i64 c, .int .i64 z] w fun e w' => e = .returned (.tuple #[]) ∧ Bld w' g base (cs ++ [c]) (ls ++ [z]) k ∧ Below g w w' := by
  obtain ⟨v1, v2, hat, q1, q2, dis, hgb, hbs⟩ := B
  obtain ⟨A1, c1, rfl, _, _⟩ := q1.shape
  obtain ⟨A2, c2, rfl, _, _⟩ := q2.shape
  obtain ⟨L1, hL1⟩ : ∃ L1, cs.length = L1 := ⟨_, rfl⟩
  obtain ⟨L2, hL2⟩ : ∃ L2, ls.length = L2 := ⟨_, rfl⟩
  rw [hL1] at hat q1 dis
  rw [hL2] at hat q2 dis
  have S : TSt w (World.drew w) g base (.slice A1 L1 c1) (.slice A2 L2 c2) k (.slice A1 L1 c1) (.slice A2 L2 c2) cs ls c z Option.none Option.none :=
    ⟨hat, q1, q2, dis, fun b h => (by cases h), fun b h => (by cases h), hgb, hbs, below_drewN (Below.refl _ _) 1⟩
  clear hat q1 q2 dis hL1 hL2
  have fin : Hid (∀ (W W1 W2 : World) (u1 u2 v1 v2 : Value) (l1 l2 : Option Nat), TSt w W g base u1 u2 k v1 v2 (cs ++ [c]) (ls ++ [z]) c z l1 l2 → Bld ((W.setCell ⟨g, 0, none⟩ v1).setCell ⟨g, 1, none⟩ v2) g base (cs ++ [c]) (ls ++ [z]) k ∧ Below g w ((W.setCell ⟨g, 0, none⟩ v1).setCell ⟨g, 1, none⟩ v2)) := by
    refine Lib.hid fun W W1 W2 u1 u2 v1 v2 l1 l2 S => ⟨⟨v1, v2, (S.at'.set0 v1).set1 v2, (S.q1.set S.gb).set S.gb, (S.q2.set S.gb).set S.gb, S.dis, S.gb, by have := S.bs; simpa using this⟩, (S.low.setCell (p := ⟨g, 0, none⟩) (Nat.le_refl _) _).setCell (p := ⟨g, 1, none⟩) (Nat.le_refl _) _⟩
  go_enter Try.func56, Try.ntmps56
  go_wp2_with fail
  refine wp_region_any (by kernel_rfl) ?_
  change wpAny _ _ _ _ _ _ _ (World.drew w)
  generalize World.drew w = W0 at *
  refine take_now (i := 0) (some 6) (v := ?_) rfl (by kernel_rfl) (by kernel_rfl) (by kernel_rfl) (fun _ _ _ h => h) (Or.inl ⟨by rfl, ?_⟩) rfl ?_
  rotate_left
  focus (intro w; go_simp; try with_reducible rfl)
  try simp only [Act.put, List.setIfInBounds_toArray, List.set_cons_zero, List.set_cons_succ]
  refine take_now (i := 1) (some 7) (v := ?_) rfl (by kernel_rfl) (by kernel_rfl) (by kernel_rfl) (fun _ _ _ h => h) (Or.inl ⟨by rfl, ?_⟩) rfl ?_
  rotate_left
  focus (intro w; go_simp; try with_reducible rfl)
  try simp only [Act.put, List.setIfInBounds_toArray, List.set_cons_zero, List.set_cons_succ]
  refine take_now (i := 2) (some 8) (v := ?_) rfl (by kernel_rfl) (by kernel_rfl) (by kernel_rfl) (fun _ _ _ h => h) (Or.inl ⟨by rfl, ?_⟩) rfl ?_
  rotate_left
  focus (intro w; go_simp; try with_reducible rfl)
  try simp only [Act.put, List.setIfInBounds_toArray, List.set_cons_zero, List.set_cons_succ]
  refine take_now (i := 3) (some 9) (v := ?_) rfl (by kernel_rfl) (by kernel_rfl) (by kernel_rfl) (fun _ _ _ h => h) (Or.inl ⟨by rfl, ?_⟩) rfl ?_
  rotate_left
  focus (intro w; go_simp; try with_reducible rfl)
  try simp only [Act.put, List.setIfInBounds_toArray, List.set_cons_zero, List.set_cons_succ]
  refine take_now (i := 4) (some 10) (v := ?_) rfl (by kernel_rfl) (by kernel_rfl) (by kernel_rfl) (fun _ _ _ h => h) (Or.inl ⟨by rfl, ?_⟩) rfl ?_
  rotate_left
  focus (intro w; go_simp; try with_reducible rfl)
  try simp only [Act.put, List.setIfInBounds_toArray, List.set_cons_zero, List.set_cons_succ]
  refine take_now (i := 5) (some 11) (v := ?_) rfl (by kernel_rfl) (by kernel_rfl) (by kernel_rfl) (fun _ _ _ h => h) (Or.inl ⟨by rfl, ?_⟩) rfl ?_
  rotate_left
  focus (intro w; go_simp; try with_reducible rfl)
  try simp only [Act.put, List.setIfInBounds_toArray, List.set_cons_zero, List.set_cons_succ]
  refine take_now (i := 7) (some 13) (v := ?_) rfl (by kernel_rfl) (by kernel_rfl) (by kernel_rfl) (fun _ _ _ h => h) (Or.inl ⟨by rfl, ?_⟩) rfl ?_
  rotate_left
  focus (intro w; go_simp; try with_reducible rfl)
  try simp only [Act.put, List.setIfInBounds_toArray, List.set_cons_zero, List.set_cons_succ]
  refine take_now (i := 10) (some 16) (v := ?_) rfl (by kernel_rfl) (by kernel_rfl) (by kernel_rfl) (fun _ _ _ h => h) (Or.inl ⟨by rfl, ?_⟩) rfl ?_
  rotate_left
  focus (intro w; go_simp; try with_reducible rfl)
  try simp only [Act.put, List.setIfInBounds_toArray, List.set_cons_zero, List.set_cons_succ]
  refine take_now (i := 11) (some 17) (v := ?_) rfl (by kernel_rfl) (by kernel_rfl) (by kernel_rfl) (fun _ _ _ h => h) (Or.inl ⟨by rfl, ?_⟩) rfl ?_
  rotate_left
  focus (intro w; go_simp; try with_reducible rfl)
  try simp only [Act.put, List.setIfInBounds_toArray, List.set_cons_zero, List.set_cons_succ]
  refine take_now (i := 12) (some 18) (v := ?_) rfl (by kernel_rfl) (by kernel_rfl) (by kernel_rfl) (fun _ _ _ h => h) (Or.inl ⟨by rfl, ?_⟩) rfl ?_
  rotate_left
  focus (intro w; go_simp; try with_reducible rfl)
  try simp only [Act.put, List.setIfInBounds_toArray, List.set_cons_zero, List.set_cons_succ]
  refine take_now (i := 13) (some 19) (v := ?_) rfl (by kernel_rfl) (by kernel_rfl) (by kernel_rfl) (fun _ _ _ h => h) (Or.inl ⟨by rfl, ?_⟩) rfl ?_
  rotate_left
  focus (intro w; go_simp; try with_reducible rfl)
  try simp only [Act.put, List.setIfInBounds_toArray, List.set_cons_zero, List.set_cons_succ]
  refine take_now (i := 15) (some 21) (v := ?_) rfl (by kernel_rfl) (by kernel_rfl) (by kernel_rfl) (fun _ _ _ h => h) (Or.inl ⟨by rfl, ?_⟩) rfl ?_
  rotate_left
  focus (intro w; go_simp; try with_reducible rfl)
  try simp only [Act.put, List.setIfInBounds_toArray, List.set_cons_zero, List.set_cons_succ]
  refine wpAny_ready (rs := [6, 8, 14, 16]) (by kernel_rfl) (by simp) (AllReady.cons rfl (fun K hK => ?_) (AllReady.cons rfl (fun K hK => ?_) (AllReady.cons rfl (fun K hK => ?_) (AllReady.cons rfl (fun K hK => ?_) AllReady.nil))))
  · have c0 := S.at'.cells.1
    go_simp
    refine hK _ _ ?_
    clear hK K c0
    refine wpAny_ready (rs := [8, 14, 16]) (by kernel_rfl) (by simp) (AllReady.cons rfl (fun K hK => ?_) (AllReady.cons rfl (fun K hK => ?_) (AllReady.cons rfl (fun K hK => ?_) AllReady.nil)))
    · go_simp
      refine hK _ _ ?_
      clear hK K
      replace S := S.alloc1
      obtain ⟨N1, hN1⟩ : ∃ N1, N1 = W0.heap.size := ⟨_, rfl⟩
      rw [← hN1] at S ⊢
      clear hN1
      generalize W0.alloc (.cells #[.int .i64 c] 3) = V2 at *
      refine wpAny_ready (rs := [9, 14, 16]) (by kernel_rfl) (by simp) (AllReady.cons rfl (fun K hK => ?_) (AllReady.cons rfl (fun K hK => ?_) (AllReady.cons rfl (fun K hK => ?_) AllReady.nil)))
      · have cx := cell_of_row V2 N1 0 #[.int .i64 c] 3 (0, 0) (S.f1 N1 rfl).1
        refine step_push rfl (.tmp 12) (.tmp 14) rfl base (.slice A1 L1 c1) cs (by simp [Act.eval] <;> rfl) S.q1 c hc N1 (by simp [Act.eval] <;> rfl) (cx.trans rfl) hn1 S.bs ?_
        intro v' V3 hq hg ho
        replace S := S.push1 hq hg ho
        clear cx
        obtain ⟨A1', c1', hv', _, _⟩ := hq.shape
        obtain ⟨L1', hL'⟩ : ∃ L', (cs ++ [c]).length = L' := ⟨_, rfl⟩
        rw [hL'] at hv'
        subst hv'
        clear hL' hq hg ho
        refine hK _ _ ?_
        clear hK K
        refine wpAny_ready (rs := [14, 16]) (by kernel_rfl) (by simp) (AllReady.cons rfl (fun K hK => ?_) (AllReady.cons rfl (fun K hK => ?_) AllReady.nil))
        · have c0 := S.at'.cells.2.1
          go_simp
          refine hK _ _ ?_
          clear hK K c0
          refine wpAny_ready (rs := [16]) (by kernel_rfl) (by simp) (AllReady.cons rfl (fun K hK => ?_) AllReady.nil)
          go_simp
          refine hK _ _ ?_
          clear hK K
          replace S := S.alloc2
          obtain ⟨N2, hN2⟩ : ∃ N2, N2 = V3.heap.size := ⟨_, rfl⟩
          rw [← hN2] at S ⊢
          clear hN2
          generalize V3.alloc (.cells #[.int .i64 z] 3) = V5 at *
          refine wpAny_ready (rs := [17]) (by kernel_rfl) (by simp) (AllReady.cons rfl (fun K hK => ?_) AllReady.nil)
          have cx := cell_of_row V5 N2 0 #[.int .i64 z] 3 (0, 0) (S.f2 N2 rfl).1
          refine step_push rfl (.tmp 20) (.tmp 22) rfl base (.slice A2 L2 c2) ls (by simp [Act.eval] <;> rfl) S.q2 z hz N2 (by simp [Act.eval] <;> rfl) (cx.trans rfl) hn2 S.bs ?_
          intro v' V6 hq hg ho
          replace S := S.push2 hq hg ho
          clear cx
          obtain ⟨A2', c2', hv', _, _⟩ := hq.shape
          obtain ⟨L2', hL'⟩ : ∃ L', (ls ++ [z]).length = L' := ⟨_, rfl⟩
          rw [hL'] at hv'
          subst hv'
          clear hL' hq hg ho
          refine hK _ _ ?_
          clear hK K
          refine take_now (i := 18) (some 24) (v := ?_) rfl (by kernel_rfl) (by kernel_rfl) (by kernel_rfl) (fun _ _ _ h => h) (Or.inl ⟨by rfl, ?_⟩) rfl ?_
          rotate_left
          focus (intro w; go_simp; try with_reducible rfl)
          refine take_now (i := 19) (some 25) (v := ?_) rfl (by kernel_rfl) (by kernel_rfl) (by kernel_rfl) (fun _ _ _ h => h) (Or.inl ⟨by rfl, ?_⟩) rfl ?_
          rotate_left
          focus (intro w; go_simp; try with_reducible rfl)
          refine take_now (i := 20) (some 26) (v := ?_) rfl (by kernel_rfl) (by kernel_rfl) (by kernel_rfl) (fun _ _ _ h => h) (Or.inl ⟨by rfl, ?_⟩) rfl ?_
          rotate_left
          focus (intro w; go_simp; try with_reducible rfl)
          have Hf := Lib.hid (fin.out _ V6 V6 _ _ _ _ _ _ S)
          have p0 := S.at'.cells.1
          have f0 := S.at'.frozen 0
          have p1 := (S.at'.set0 (.slice A1' L1' c1')).cells.2.1
          have f1 := (S.at'.set0 (.slice A1' L1' c1')).frozen 1
          have P1 := Lib.hid (And.intro p1 f1)
          clear fin S p1 f1
          refine wpAny_ready (rs := [21]) (by kernel_rfl) (by simp) (AllReady.cons rfl (fun K hK => ?_) AllReady.nil)
          go_simp
          refine hK _ _ ?_
          clear hK K p0 f0
          refine take_now (i := 22) (some 27) (v := ?_) rfl (by kernel_rfl) (by kernel_rfl) (by kernel_rfl) (fun _ _ _ h => h) (Or.inl ⟨by rfl, ?_⟩) rfl ?_
          rotate_left
          focus (intro w; go_simp; try with_reducible rfl)
          refine take_now (i := 23) (some 28) (v := ?_) rfl (by kernel_rfl) (by kernel_rfl) (by kernel_rfl) (fun _ _ _ h => h) (Or.inl ⟨by rfl, ?_⟩) rfl ?_
          rotate_left
          focus (intro w; go_simp; try with_reducible rfl)
          refine take_now (i := 24) (some 29) (v := ?_) rfl (by kernel_rfl) (by kernel_rfl) (by kernel_rfl) (fun _ _ _ h => h) (Or.inl ⟨by rfl, ?_⟩) rfl ?_
          rotate_left
          focus (intro w; go_simp; try with_reducible rfl)
          obtain ⟨p1, f1⟩ := P1.out
          refine wpAny_ready (rs := [25]) (by kernel_rfl) (by simp) (AllReady.cons rfl (fun K hK => ?_) AllReady.nil)
          go_simp
          refine hK _ _ ?_
          clear hK K p1 f1 P1
          refine wpAny_done (by kernel_rfl) ?_ _
          go_wp2_with fail
          refine bodyPost_end (results_none rfl _ _ _) rfl ?_
          exact ⟨rfl, Hf.out⟩
        · go_simp
          refine hK _ _ ?_
          clear hK K
          replace S := S.alloc2
          obtain ⟨N2, hN2⟩ : ∃ N2, N2 = V3.heap.size := ⟨_, rfl⟩
          rw [← hN2] at S ⊢
          clear hN2
          generalize V3.alloc (.cells #[.int .i64 z] 3) = V7 at *
          refine wpAny_ready (rs := [14]) (by kernel_rfl) (by simp) (AllReady.cons rfl (fun K hK => ?_) AllReady.nil)
          have c0 := S.at'.cells.2.1
          go_simp
          refine hK _ _ ?_
          clear hK K c0
          refine wpAny_ready (rs := [17]) (by kernel_rfl) (by simp) (AllReady.cons rfl (fun K hK => ?_) AllReady.nil)
          have cx := cell_of_row V7 N2 0 #[.int .i64 z] 3 (0, 0) (S.f2 N2 rfl).1
          refine step_push rfl (.tmp 20) (.tmp 22) rfl base (.slice A2 L2 c2) ls (by simp [Act.eval] <;> rfl) S.q2 z hz N2 (by simp [Act.eval] <;> rfl) (cx.trans rfl) hn2 S.bs ?_
          intro v' V9 hq hg ho
          replace S := S.push2 hq hg ho
          clear cx
          obtain ⟨A2', c2', hv', _, _⟩ := hq.shape
          obtain ⟨L2', hL'⟩ : ∃ L', (ls ++ [z]).length = L' := ⟨_, rfl⟩
          rw [hL'] at hv'
          subst hv'
          clear hL' hq hg ho
          refine hK _ _ ?_
          clear hK K
          refine take_now (i := 18) (some 24) (v := ?_) rfl (by kernel_rfl) (by kernel_rfl) (by kernel_rfl) (fun _ _ _ h => h) (Or.inl ⟨by rfl, ?_⟩) rfl ?_
          rotate_left
          focus (intro w; go_simp; try with_reducible rfl)
          refine take_now (i := 19) (some 25) (v := ?_) rfl (by kernel_rfl) (by kernel_rfl) (by kernel_rfl) (fun _ _ _ h => h) (Or.inl ⟨by rfl, ?_⟩) rfl ?_
          rotate_left
          focus (intro w; go_simp; try with_reducible rfl)
          refine take_now (i := 20) (some 26) (v := ?_) rfl (by kernel_rfl) (by kernel_rfl) (by kernel_rfl) (fun _ _ _ h => h) (Or.inl ⟨by rfl, ?_⟩) rfl ?_
          rotate_left
          focus (intro w; go_simp; try with_reducible rfl)
          have Hf := Lib.hid (fin.out _ V9 V9 _ _ _ _ _ _ S)
          have p0 := S.at'.cells.1
          have f0 := S.at'.frozen 0
          have p1 := (S.at'.set0 (.slice A1' L1' c1')).cells.2.1
          have f1 := (S.at'.set0 (.slice A1' L1' c1')).frozen 1
          have P1 := Lib.hid (And.intro p1 f1)
          clear fin S p1 f1
          refine wpAny_ready (rs := [21]) (by kernel_rfl) (by simp) (AllReady.cons rfl (fun K hK => ?_) AllReady.nil)
          go_simp
          refine hK _ _ ?_
          clear hK K p0 f0
          refine take_now (i := 22) (some 27) (v := ?_) rfl (by kernel_rfl) (by kernel_rfl) (by kernel_rfl) (fun _ _ _ h => h) (Or.inl ⟨by rfl, ?_⟩) rfl ?_
          rotate_left
          focus (intro w; go_simp; try with_reducible rfl)
          refine take_now (i := 23) (some 28) (v := ?_) rfl (by kernel_rfl) (by kernel_rfl) (by kernel_rfl) (fun _ _ _ h => h) (Or.inl ⟨by rfl, ?_⟩) rfl ?_
          rotate_left
          focus (intro w; go_simp; try with_reducible rfl)
          refine take_now (i := 24) (some 29) (v := ?_) rfl (by kernel_rfl) (by kernel_rfl) (by kernel_rfl) (fun _ _ _ h => h) (Or.inl ⟨by rfl, ?_⟩) rfl ?_
          rotate_left
          focus (intro w; go_simp; try with_reducible rfl)
          obtain ⟨p1, f1⟩ := P1.out
          refine wpAny_ready (rs := [25]) (by kernel_rfl) (by simp) (AllReady.cons rfl (fun K hK => ?_) AllReady.nil)
          go_simp
          refine hK _ _ ?_
          clear hK K p1 f1 P1
          refine wpAny_done (by kernel_rfl) ?_ _
          go_wp2_with fail
          refine bodyPost_end (results_none rfl _ _ _) rfl ?_
          exact ⟨rfl, Hf.out⟩
      · have c0 := S.at'.cells.2.1
        go_simp
        refine hK _ _ ?_
        clear hK K c0
        refine wpAny_ready (rs := [9, 16]) (by kernel_rfl) (by simp) (AllReady.cons rfl (fun K hK => ?_) (AllReady.cons rfl (fun K hK => ?_) AllReady.nil))
        · have cx := cell_of_row V2 N1 0 #[.int .i64 c] 3 (0, 0) (S.f1 N1 rfl).1
          refine step_push rfl (.tmp 12) (.tmp 14) rfl base (.slice A1 L1 c1) cs (by simp [Act.eval] <;> rfl) S.q1 c hc N1 (by simp [Act.eval] <;> rfl) (cx.trans rfl) hn1 S.bs ?_
          intro v' V11 hq hg ho
          replace S := S.push1 hq hg ho
          clear cx
          obtain ⟨A1', c1', hv', _, _⟩ := hq.shape
          obtain ⟨L1', hL'⟩ : ∃ L', (cs ++ [c]).length = L' := ⟨_, rfl⟩
          rw [hL'] at hv'
          subst hv'
          clear hL' hq hg ho
          refine hK _ _ ?_
          clear hK K
          refine wpAny_ready (rs := [16]) (by kernel_rfl) (by simp) (AllReady.cons rfl (fun K hK => ?_) AllReady.nil)
          go_simp
          refine hK _ _ ?_
          clear hK K
          replace S := S.alloc2
          obtain ⟨N2, hN2⟩ : ∃ N2, N2 = V11.heap.size := ⟨_, rfl⟩
          rw [← hN2] at S ⊢
          clear hN2
          generalize V11.alloc (.cells #[.int .i64 z] 3) = V12 at *
          refine wpAny_ready (rs := [17]) (by kernel_rfl) (by simp) (AllReady.cons rfl (fun K hK => ?_) AllReady.nil)
          have cx := cell_of_row V12 N2 0 #[.int .i64 z] 3 (0, 0) (S.f2 N2 rfl).1
          refine step_push rfl (.tmp 20) (.tmp 22) rfl base (.slice A2 L2 c2) ls (by simp [Act.eval] <;> rfl) S.q2 z hz N2 (by simp [Act.eval] <;> rfl) (cx.trans rfl) hn2 S.bs ?_
          intro v' V13 hq hg ho
          replace S := S.push2 hq hg ho
          clear cx
          obtain ⟨A2', c2', hv', _, _⟩ := hq.shape
          obtain ⟨L2', hL'⟩ : ∃ L', (ls ++ [z]).length = L' := ⟨_, rfl⟩
          rw [hL'] at hv'
          subst hv'
          clear hL' hq hg ho
          refine hK _ _ ?_
          clear hK K
          refine take_now (i := 18) (some 24) (v := ?_) rfl (by kernel_rfl) (by kernel_rfl) (by kernel_rfl) (fun _ _ _ h => h) (Or.inl ⟨by rfl, ?_⟩) rfl ?_
          rotate_left
          focus (intro w; go_simp; try with_reducible rfl)
          refine take_now (i := 19) (some 25) (v := ?_) rfl (by kernel_rfl) (by kernel_rfl) (by kernel_rfl) (fun _ _ _ h => h) (Or.inl ⟨by rfl, ?_⟩) rfl ?_
          rotate_left
          focus (intro w; go_simp; try with_reducible rfl)
          refine take_now (i := 20) (some 26) (v := ?_) rfl (by kernel_rfl) (by kernel_rfl) (by kernel_rfl) (fun _ _ _ h => h) (Or.inl ⟨by rfl, ?_⟩) rfl ?_
          rotate_left
          focus (intro w; go_simp; try with_reducible rfl)
          have Hf := Lib.hid (fin.out _ V13 V13 _ _ _ _ _ _ S)
          have p0 := S.at'.cells.1
          have f0 := S.at'.frozen 0
          have p1 := (S.at'.set0 (.slice A1' L1' c1')).cells.2.1
          have f1 := (S.at'.set0 (.slice A1' L1' c1')).frozen 1
          have P1 := Lib.hid (And.intro p1 f1)
          clear fin S p1 f1
          refine wpAny_ready (rs := [21]) (by kernel_rfl) (by simp) (AllReady.cons rfl (fun K hK => ?_) AllReady.nil)
          go_simp
          refine hK _ _ ?_
          clear hK K p0 f0
          refine take_now (i := 22) (some 27) (v := ?_) rfl (by kernel_rfl) (by kernel_rfl) (by kernel_rfl) (fun _ _ _ h => h) (Or.inl ⟨by rfl, ?_⟩) rfl ?_
          rotate_left
          focus (intro w; go_simp; try with_reducible rfl)
          refine take_now (i := 23) (some 28) (v := ?_) rfl (by kernel_rfl) (by kernel_rfl) (by kernel_rfl) (fun _ _ _ h => h) (Or.inl ⟨by rfl, ?_⟩) rfl ?_
          rotate_left
          focus (intro w; go_simp; try with_reducible rfl)
          refine take_now (i := 24) (some 29) (v := ?_) rfl (by kernel_rfl) (by kernel_rfl) (by kernel_rfl) (fun _ _ _ h => h) (Or.inl ⟨by rfl, ?_⟩) rfl ?_
          rotate_left
          focus (intro w; go_simp; try with_reducible rfl)
          obtain ⟨p1, f1⟩ := P1.out
          refine wpAny_ready (rs := [25]) (by kernel_rfl) (by simp) (AllReady.cons rfl (fun K hK => ?_) AllReady.nil)
          go_simp
          refine hK _ _ ?_
          clear hK K p1 f1 P1
          refine wpAny_done (by kernel_rfl) ?_ _
          go_wp2_with fail
          refine bodyPost_end (results_none rfl _ _ _) rfl ?_
          exact ⟨rfl, Hf.out⟩
        · go_simp
          refine hK _ _ ?_
          clear hK K
          replace S := S.alloc2
          obtain ⟨N2, hN2⟩ : ∃ N2, N2 = V2.heap.size := ⟨_, rfl⟩
          rw [← hN2] at S ⊢
          clear hN2
          generalize V2.alloc (.cells #[.int .i64 z] 3) = V14 at *
          refine wpAny_ready (rs := [9]) (by kernel_rfl) (by simp) (AllReady.cons rfl (fun K hK => ?_) AllReady.nil)
          have cx := cell_of_row V14 N1 0 #[.int .i64 c] 3 (0, 0) (S.f1 N1 rfl).1
          refine step_push rfl (.tmp 12) (.tmp 14) rfl base (.slice A1 L1 c1) cs (by simp [Act.eval] <;> rfl) S.q1 c hc N1 (by simp [Act.eval] <;> rfl) (cx.trans rfl) hn1 S.bs ?_
          intro v' V15 hq hg ho
          replace S := S.push1 hq hg ho
          clear cx
          obtain ⟨A1', c1', hv', _, _⟩ := hq.shape
          obtain ⟨L1', hL'⟩ : ∃ L', (cs ++ [c]).length = L' := ⟨_, rfl⟩
          rw [hL'] at hv'
          subst hv'
          clear hL' hq hg ho
          refine hK _ _ ?_
          clear hK K
          refine wpAny_ready (rs := [17]) (by kernel_rfl) (by simp) (AllReady.cons rfl (fun K hK => ?_) AllReady.nil)
          have cx := cell_of_row V15 N2 0 #[.int .i64 z] 3 (0, 0) (S.f2 N2 rfl).1
          refine step_push rfl (.tmp 20) (.tmp 22) rfl base (.slice A2 L2 c2) ls (by simp [Act.eval] <;> rfl) S.q2 z hz N2 (by simp [Act.eval] <;> rfl) (cx.trans rfl) hn2 S.bs ?_
          intro v' V16 hq hg ho
          replace S := S.push2 hq hg ho
          clear cx
          obtain ⟨A2', c2', hv', _, _⟩ := hq.shape
          obtain ⟨L2', hL'⟩ : ∃ L', (ls ++ [z]).length = L' := ⟨_, rfl⟩
          rw [hL'] at hv'
          subst hv'
          clear hL' hq hg ho
          refine hK _ _ ?_
          clear hK K
          refine take_now (i := 18) (some 24) (v := ?_) rfl (by kernel_rfl) (by kernel_rfl) (by kernel_rfl) (fun _ _ _ h => h) (Or.inl ⟨by rfl, ?_⟩) rfl ?_
          rotate_left
          focus (intro w; go_simp; try with_reducible rfl)
          refine take_now (i := 19) (some 25) (v := ?_) rfl (by kernel_rfl) (by kernel_rfl) (by kernel_rfl) (fun _ _ _ h => h) (Or.inl ⟨by rfl, ?_⟩) rfl ?_
          rotate_left
          focus (intro w; go_simp; try with_reducible rfl)
          refine take_now (i := 20) (some 26) (v := ?_) rfl (by kernel_rfl) (by kernel_rfl) (by kernel_rfl) (fun _ _ _ h => h) (Or.inl ⟨by rfl, ?_⟩) rfl ?_
          rotate_left
          focus (intro w; go_simp; try with_reducible rfl)
          have Hf := Lib.hid (fin.out _ V16 V16 _ _ _ _ _ _ S)
          have p0 := S.at'.cells.1
          have f0 := S.at'.frozen 0
          have p1 := (S.at'.set0 (.slice A1' L1' c1')).cells.2.1
          have f1 := (S.at'.set0 (.slice A1' L1' c1')).frozen 1
          have P1 := Lib.hid (And.intro p1 f1)
          clear fin S p1 f1
          refine wpAny_ready (rs := [21]) (by kernel_rfl) (by simp) (AllReady.cons rfl (fun K hK => ?_) AllReady.nil)
          go_simp
          refine hK _ _ ?_
          clear hK K p0 f0
          refine take_now (i := 22) (some 27) (v := ?_) rfl (by kernel_rfl) (by kernel_rfl) (by kernel_rfl) (fun _ _ _ h => h) (Or.inl ⟨by rfl, ?_⟩) rfl ?_
          rotate_left
          focus (intro w; go_simp; try with_reducible rfl)
          refine take_now (i := 23) (some 28) (v := ?_) rfl (by kernel_rfl) (by kernel_rfl) (by kernel_rfl) (fun _ _ _ h => h) (Or.inl ⟨by rfl, ?_⟩) rfl ?_
          rotate_left
          focus (intro w; go_simp; try with_reducible rfl)
          refine take_now (i := 24) (some 29) (v := ?_) rfl (by kernel_rfl) (by kernel_rfl) (by kernel_rfl) (fun _ _ _ h => h) (Or.inl ⟨by rfl, ?_⟩) rfl ?_
          rotate_left
          focus (intro w; go_simp; try with_reducible rfl)
          obtain ⟨p1, f1⟩ := P1.out
          refine wpAny_ready (rs := [25]) (by kernel_rfl) (by simp) (AllReady.cons rfl (fun K hK => ?_) AllReady.nil)
          go_simp
          refine hK _ _ ?_
          clear hK K p1 f1 P1
          refine wpAny_done (by kernel_rfl) ?_ _
          go_wp2_with fail
          refine bodyPost_end (results_none rfl _ _ _) rfl ?_
          exact ⟨rfl, Hf.out⟩
      · go_simp
        refine hK _ _ ?_
        clear hK K
        replace S := S.alloc2
        obtain ⟨N2, hN2⟩ : ∃ N2, N2 = V2.heap.size := ⟨_, rfl⟩
        rw [← hN2] at S ⊢
        clear hN2
        generalize V2.alloc (.cells #[.int .i64 z] 3) = V17 at *
        refine wpAny_ready (rs := [9, 14]) (by kernel_rfl) (by simp) (AllReady.cons rfl (fun K hK => ?_) (AllReady.cons rfl (fun K hK => ?_) AllReady.nil))
        · have cx := cell_of_row V17 N1 0 #[.int .i64 c] 3 (0, 0) (S.f1 N1 rfl).1
          refine step_push rfl (.tmp 12) (.tmp 14) rfl base (.slice A1 L1 c1) cs (by simp [Act.eval] <;> rfl) S.q1 c hc N1 (by simp [Act.eval] <;> rfl) (cx.trans rfl) hn1 S.bs ?_
          intro v' V18 hq hg ho
          replace S := S.push1 hq hg ho
          clear cx
          obtain ⟨A1', c1', hv', _, _⟩ := hq.shape
          obtain ⟨L1', hL'⟩ : ∃ L', (cs ++ [c]).length = L' := ⟨_, rfl⟩
          rw [hL'] at hv'
          subst hv'
          clear hL' hq hg ho
          refine hK _ _ ?_
          clear hK K
          refine wpAny_ready (rs := [14]) (by kernel_rfl) (by simp) (AllReady.cons rfl (fun K hK => ?_) AllReady.nil)
          have c0 := S.at'.cells.2.1
          go_simp
          refine hK _ _ ?_
          clear hK K c0
          refine wpAny_ready (rs := [17]) (by kernel_rfl) (by simp) (AllReady.cons rfl (fun K hK => ?_) AllReady.nil)
          have cx := cell_of_row V18 N2 0 #[.int .i64 z] 3 (0, 0) (S.f2 N2 rfl).1
          refine step_push rfl (.tmp 20) (.tmp 22) rfl base (.slice A2 L2 c2) ls (by simp [Act.eval] <;> rfl) S.q2 z hz N2 (by simp [Act.eval] <;> rfl) (cx.trans rfl) hn2 S.bs ?_
          intro v' V20 hq hg ho
          replace S := S.push2 hq hg ho
          clear cx
          obtain ⟨A2', c2', hv', _, _⟩ := hq.shape
          obtain ⟨L2', hL'⟩ : ∃ L', (ls ++ [z]).length = L' := ⟨_, rfl⟩
          rw [hL'] at hv'
          subst hv'
          clear hL' hq hg ho
          refine hK _ _ ?_
          clear hK K
          refine take_now (i := 18) (some 24) (v := ?_) rfl (by kernel_rfl) (by kernel_rfl) (by kernel_rfl) (fun _ _ _ h => h) (Or.inl ⟨by rfl, ?_⟩) rfl ?_
          rotate_left
          focus (intro w; go_simp; try with_reducible rfl)
          refine take_now (i := 19) (some 25) (v := ?_) rfl (by kernel_rfl) (by kernel_rfl) (by kernel_rfl) (fun _ _ _ h => h) (Or.inl ⟨by rfl, ?_⟩) rfl ?_
          rotate_left
          focus (intro w; go_simp; try with_reducible rfl)
          refine take_now (i := 20) (some 26) (v := ?_) rfl (by kernel_rfl) (by kernel_rfl) (by kernel_rfl) (fun _ _ _ h => h) (Or.inl ⟨by rfl, ?_⟩) rfl ?_
          rotate_left
          focus (intro w; go_simp; try with_reducible rfl)
          have Hf := Lib.hid (fin.out _ V20 V20 _ _ _ _ _ _ S)
          have p0 := S.at'.cells.1
          have f0 := S.at'.frozen 0
          have p1 := (S.at'.set0 (.slice A1' L1' c1')).cells.2.1
          have f1 := (S.at'.set0 (.slice A1' L1' c1')).frozen 1
          have P1 := Lib.hid (And.intro p1 f1)
          clear fin S p1 f1
          refine wpAny_ready (rs := [21]) (by kernel_rfl) (by simp) (AllReady.cons rfl (fun K hK => ?_) AllReady.nil)
          go_simp
          refine hK _ _ ?_
          clear hK K p0 f0
          refine take_now (i := 22) (some 27) (v := ?_) rfl (by kernel_rfl) (by kernel_rfl) (by kernel_rfl) (fun _ _ _ h => h) (Or.inl ⟨by rfl, ?_⟩) rfl ?_
          rotate_left
          focus (intro w; go_simp; try with_reducible rfl)
          refine take_now (i := 23) (some 28) (v := ?_) rfl (by kernel_rfl) (by kernel_rfl) (by kernel_rfl) (fun _ _ _ h => h) (Or.inl ⟨by rfl, ?_⟩) rfl ?_
          rotate_left
          focus (intro w; go_simp; try with_reducible rfl)
          refine take_now (i := 24) (some 29) (v := ?_) rfl (by kernel_rfl) (by kernel_rfl) (by kernel_rfl) (fun _ _ _ h => h) (Or.inl ⟨by rfl, ?_⟩) rfl ?_
          rotate_left
          focus (intro w; go_simp; try with_reducible rfl)
          obtain ⟨p1, f1⟩ := P1.out
          refine wpAny_ready (rs := [25]) (by kernel_rfl) (by simp) (AllReady.cons rfl (fun K hK => ?_) AllReady.nil)
          go_simp
          refine hK _ _ ?_
          clear hK K p1 f1 P1
          refine wpAny_done (by kernel_rfl) ?_ _
          go_wp2_with fail
          refine bodyPost_end (results_none rfl _ _ _) rfl ?_
          exact ⟨rfl, Hf.out⟩
        · have c0 := S.at'.cells.2.1
          go_simp
          refine hK _ _ ?_
          clear hK K c0
          refine wpAny_ready (rs := [9]) (by kernel_rfl) (by simp) (AllReady.cons rfl (fun K hK => ?_) AllReady.nil)
          have cx := cell_of_row V17 N1 0 #[.int .i64 c] 3 (0, 0) (S.f1 N1 rfl).1
          refine step_push rfl (.tmp 12) (.tmp 14) rfl base (.slice A1 L1 c1) cs (by simp [Act.eval] <;> rfl) S.q1 c hc N1 (by simp [Act.eval] <;> rfl) (cx.trans rfl) hn1 S.bs ?_
          intro v' V22 hq hg ho
          replace S := S.push1 hq hg ho
          clear cx
          obtain ⟨A1', c1', hv', _, _⟩ := hq.shape
          obtain ⟨L1', hL'⟩ : ∃ L', (cs ++ [c]).length = L' := ⟨_, rfl⟩
          rw [hL'] at hv'
          subst hv'
          clear hL' hq hg ho
          refine hK _ _ ?_
          clear hK K
          refine wpAny_ready (rs := [17]) (by kernel_rfl) (by simp) (AllReady.cons rfl (fun K hK => ?_) AllReady.nil)
          have cx := cell_of_row V22 N2 0 #[.int .i64 z] 3 (0, 0) (S.f2 N2 rfl).1
          refine step_push rfl (.tmp 20) (.tmp 22) rfl base (.slice A2 L2 c2) ls (by simp [Act.eval] <;> rfl) S.q2 z hz N2 (by simp [Act.eval] <;> rfl) (cx.trans rfl) hn2 S.bs ?_
          intro v' V23 hq hg ho
          replace S := S.push2 hq hg ho
          clear cx
          obtain ⟨A2', c2', hv', _, _⟩ := hq.shape
          obtain ⟨L2', hL'⟩ : ∃ L', (ls ++ [z]).length = L' := ⟨_, rfl⟩
          rw [hL'] at hv'
          subst hv'
          clear hL' hq hg ho
          refine hK _ _ ?_
          clear hK K
          refine take_now (i := 18) (some 24) (v := ?_) rfl (by kernel_rfl) (by kernel_rfl) (by kernel_rfl) (fun _ _ _ h => h) (Or.inl ⟨by rfl, ?_⟩) rfl ?_
          rotate_left
          focus (intro w; go_simp; try with_reducible rfl)
          refine take_now (i := 19) (some 25) (v := ?_) rfl (by kernel_rfl) (by kernel_rfl) (by kernel_rfl) (fun _ _ _ h => h) (Or.inl ⟨by rfl, ?_⟩) rfl ?_
          rotate_left
          focus (intro w; go_simp; try with_reducible rfl)
          refine take_now (i := 20) (some 26) (v := ?_) rfl (by kernel_rfl) (by kernel_rfl) (by kernel_rfl) (fun _ _ _ h => h) (Or.inl ⟨by rfl, ?_⟩) rfl ?_
          rotate_left
          focus (intro w; go_simp; try with_reducible rfl)
          have Hf := Lib.hid (fin.out _ V23 V23 _ _ _ _ _ _ S)
          have p0 := S.at'.cells.1
          have f0 := S.at'.frozen 0
          have p1 := (S.at'.set0 (.slice A1' L1' c1')).cells.2.1
          have f1 := (S.at'.set0 (.slice A1' L1' c1')).frozen 1
          have P1 := Lib.hid (And.intro p1 f1)
          clear fin S p1 f1
          refine wpAny_ready (rs := [21]) (by kernel_rfl) (by simp) (AllReady.cons rfl (fun K hK => ?_) AllReady.nil)
          go_simp
          refine hK _ _ ?_
          clear hK K p0 f0
          refine take_now (i := 22) (some 27) (v := ?_) rfl (by kernel_rfl) (by kernel_rfl) (by kernel_rfl) (fun _ _ _ h => h) (Or.inl ⟨by rfl, ?_⟩) rfl ?_
          rotate_left
          focus (intro w; go_simp; try with_reducible rfl)
          refine take_now (i := 23) (some 28) (v := ?_) rfl (by kernel_rfl) (by kernel_rfl) (by kernel_rfl) (fun _ _ _ h => h) (Or.inl ⟨by rfl, ?_⟩) rfl ?_
          rotate_left
          focus (intro w; go_simp; try with_reducible rfl)
          refine take_now (i := 24) (some 29) (v := ?_) rfl (by kernel_rfl) (by kernel_rfl) (by kernel_rfl) (fun _ _ _ h => h) (Or.inl ⟨by rfl, ?_⟩) rfl ?_
          rotate_left
          focus (intro w; go_simp; try with_reducible rfl)
          obtain ⟨p1, f1⟩ := P1.out
          refine wpAny_ready (rs := [25]) (by kernel_rfl) (by simp) (AllReady.cons rfl (fun K hK => ?_) AllReady.nil)
          go_simp
          refine hK _ _ ?_
          clear hK K p1 f1 P1
          refine wpAny_done (by kernel_rfl) ?_ _
          go_wp2_with fail
          refine bodyPost_end (results_none rfl _ _ _) rfl ?_
          exact ⟨rfl, Hf.out⟩
    · have c0 := S.at'.cells.2.1
      go_simp
      refine hK _ _ ?_
      clear hK K c0
      refine wpAny_ready (rs := [8, 16]) (by kernel_rfl) (by simp) (AllReady.cons rfl (fun K hK => ?_) (AllReady.cons rfl (fun K hK => ?_) AllReady.nil))
      · go_simp
        refine hK _ _ ?_
        clear hK K
        replace S := S.alloc1
        obtain ⟨N1, hN1⟩ : ∃ N1, N1 = W0.heap.size := ⟨_, rfl⟩
        rw [← hN1] at S ⊢
        clear hN1
        generalize W0.alloc (.cells #[.int .i64 c] 3) = V25 at *
        refine wpAny_ready (rs := [9, 16]) (by kernel_rfl) (by simp) (AllReady.cons rfl (fun K hK => ?_) (AllReady.cons rfl (fun K hK => ?_) AllReady.nil))
        · have cx := cell_of_row V25 N1 0 #[.int .i64 c] 3 (0, 0) (S.f1 N1 rfl).1
          refine step_push rfl (.tmp 12) (.tmp 14) rfl base (.slice A1 L1 c1) cs (by simp [Act.eval] <;> rfl) S.q1 c hc N1 (by simp [Act.eval] <;> rfl) (cx.trans rfl) hn1 S.bs ?_
          intro v' V26 hq hg ho
          replace S := S.push1 hq hg ho
          clear cx
          obtain ⟨A1', c1', hv', _, _⟩ := hq.shape
          obtain ⟨L1', hL'⟩ : ∃ L', (cs ++ [c]).length = L' := ⟨_, rfl⟩
          rw [hL'] at hv'
          subst hv'
          clear hL' hq hg ho
          refine hK _ _ ?_
          clear hK K
          refine wpAny_ready (rs := [16]) (by kernel_rfl) (by simp) (AllReady.cons rfl (fun K hK => ?_) AllReady.nil)
          go_simp
          refine hK _ _ ?_
          clear hK K
          replace S := S.alloc2
          obtain ⟨N2, hN2⟩ : ∃ N2, N2 = V26.heap.size := ⟨_, rfl⟩
          rw [← hN2] at S ⊢
          clear hN2
          generalize V26.alloc (.cells #[.int .i64 z] 3) = V27 at *
          refine wpAny_ready (rs := [17]) (by kernel_rfl) (by simp) (AllReady.cons rfl (fun K hK => ?_) AllReady.nil)
          have cx := cell_of_row V27 N2 0 #[.int .i64 z] 3 (0, 0) (S.f2 N2 rfl).1
          refine step_push rfl (.tmp 20) (.tmp 22) rfl base (.slice A2 L2 c2) ls (by simp [Act.eval] <;> rfl) S.q2 z hz N2 (by simp [Act.eval] <;> rfl) (cx.trans rfl) hn2 S.bs ?_
          intro v' V28 hq hg ho
          replace S := S.push2 hq hg ho
          clear cx
          obtain ⟨A2', c2', hv', _, _⟩ := hq.shape
          obtain ⟨L2', hL'⟩ : ∃ L', (ls ++ [z]).length = L' := ⟨_, rfl⟩
          rw [hL'] at hv'
          subst hv'
          clear hL' hq hg ho
          refine hK _ _ ?_
          clear hK K
          refine take_now (i := 18) (some 24) (v := ?_) rfl (by kernel_rfl) (by kernel_rfl) (by kernel_rfl) (fun _ _ _ h => h) (Or.inl ⟨by rfl, ?_⟩) rfl ?_
          rotate_left
          focus (intro w; go_simp; try with_reducible rfl)
          refine take_now (i := 19) (some 25) (v := ?_) rfl (by kernel_rfl) (by kernel_rfl) (by kernel_rfl) (fun _ _ _ h => h) (Or.inl ⟨by rfl, ?_⟩) rfl ?_
          rotate_left
          focus (intro w; go_simp; try with_reducible rfl)
          refine take_now (i := 20) (some 26) (v := ?_) rfl (by kernel_rfl) (by kernel_rfl) (by kernel_rfl) (fun _ _ _ h => h) (Or.inl ⟨by rfl, ?_⟩) rfl ?_
          rotate_left
          focus (intro w; go_simp; try with_reducible rfl)
          have Hf := Lib.hid (fin.out _ V28 V28 _ _ _ _ _ _ S)
          have p0 := S.at'.cells.1
          have f0 := S.at'.frozen 0
          have p1 := (S.at'.set0 (.slice A1' L1' c1')).cells.2.1
          have f1 := (S.at'.set0 (.slice A1' L1' c1')).frozen 1
          have P1 := Lib.hid (And.intro p1 f1)
          clear fin S p1 f1
          refine wpAny_ready (rs := [21]) (by kernel_rfl) (by simp) (AllReady.cons rfl (fun K hK => ?_) AllReady.nil)
          go_simp
          refine hK _ _ ?_
          clear hK K p0 f0
          refine take_now (i := 22) (some 27) (v := ?_) rfl (by kernel_rfl) (by kernel_rfl) (by kernel_rfl) (fun _ _ _ h => h) (Or.inl ⟨by rfl, ?_⟩) rfl ?_
          rotate_left
          focus (intro w; go_simp; try with_reducible rfl)
          refine take_now (i := 23) (some 28) (v := ?_) rfl (by kernel_rfl) (by kernel_rfl) (by kernel_rfl) (fun _ _ _ h => h) (Or.inl ⟨by rfl, ?_⟩) rfl ?_
          rotate_left
          focus (intro w; go_simp; try with_reducible rfl)
          refine take_now (i := 24) (some 29) (v := ?_) rfl (by kernel_rfl) (by kernel_rfl) (by kernel_rfl) (fun _ _ _ h => h) (Or.inl ⟨by rfl, ?_⟩) rfl ?_
          rotate_left
          focus (intro w; go_simp; try with_reducible rfl)
          obtain ⟨p1, f1⟩ := P1.out
          refine wpAny_ready (rs := [25]) (by kernel_rfl) (by simp) (AllReady.cons rfl (fun K hK => ?_) AllReady.nil)
          go_simp
          refine hK _ _ ?_
          clear hK K p1 f1 P1
          refine wpAny_done (by kernel_rfl) ?_ _
          go_wp2_with fail
          refine bodyPost_end (results_none rfl _ _ _) rfl ?_
          exact ⟨rfl, Hf.out⟩
        · go_simp
          refine hK _ _ ?_
          clear hK K
          replace S := S.alloc2
          obtain ⟨N2, hN2⟩ : ∃ N2, N2 = V25.heap.size := ⟨_, rfl⟩
          rw [← hN2] at S ⊢
          clear hN2
          generalize V25.alloc (.cells #[.int .i64 z] 3) = V29 at *
          refine wpAny_ready (rs := [9]) (by kernel_rfl) (by simp) (AllReady.cons rfl (fun K hK => ?_) AllReady.nil)
          have cx := cell_of_row V29 N1 0 #[.int .i64 c] 3 (0, 0) (S.f1 N1 rfl).1
          refine step_push rfl (.tmp 12) (.tmp 14) rfl base (.slice A1 L1 c1) cs (by simp [Act.eval] <;> rfl) S.q1 c hc N1 (by simp [Act.eval] <;> rfl) (cx.trans rfl) hn1 S.bs ?_
          intro v' V30 hq hg ho
          replace S := S.push1 hq hg ho
          clear cx
          obtain ⟨A1', c1', hv', _, _⟩ := hq.shape
          obtain ⟨L1', hL'⟩ : ∃ L', (cs ++ [c]).length = L' := ⟨_, rfl⟩
          rw [hL'] at hv'
          subst hv'
          clear hL' hq hg ho
          refine hK _ _ ?_
          clear hK K
          refine wpAny_ready (rs := [17]) (by kernel_rfl) (by simp) (AllReady.cons rfl (fun K hK => ?_) AllReady.nil)
          have cx := cell_of_row V30 N2 0 #[.int .i64 z] 3 (0, 0) (S.f2 N2 rfl).1
          refine step_push rfl (.tmp 20) (.tmp 22) rfl base (.slice A2 L2 c2) ls (by simp [Act.eval] <;> rfl) S.q2 z hz N2 (by simp [Act.eval] <;> rfl) (cx.trans rfl) hn2 S.bs ?_
          intro v' V31 hq hg ho
          replace S := S.push2 hq hg ho
          clear cx
          obtain ⟨A2', c2', hv', _, _⟩ := hq.shape
          obtain ⟨L2', hL'⟩ : ∃ L', (ls ++ [z]).length = L' := ⟨_, rfl⟩
          rw [hL'] at hv'
          subst hv'
          clear hL' hq hg ho
          refine hK _ _ ?_
          clear hK K
          refine take_now (i := 18) (some 24) (v := ?_) rfl (by kernel_rfl) (by kernel_rfl) (by kernel_rfl) (fun _ _ _ h => h) (Or.inl ⟨by rfl, ?_⟩) rfl ?_
          rotate_left
          focus (intro w; go_simp; try with_reducible rfl)
          refine take_now (i := 19) (some 25) (v := ?_) rfl (by kernel_rfl) (by kernel_rfl) (by kernel_rfl) (fun _ _ _ h => h) (Or.inl ⟨by rfl, ?_⟩) rfl ?_
          rotate_left
          focus (intro w; go_simp; try with_reducible rfl)
          refine take_now (i := 20) (some 26) (v := ?_) rfl (by kernel_rfl) (by kernel_rfl) (by kernel_rfl) (fun _ _ _ h => h) (Or.inl ⟨by rfl, ?_⟩) rfl ?_
          rotate_left
          focus (intro w; go_simp; try with_reducible rfl)
          have Hf := Lib.hid (fin.out _ V31 V31 _ _ _ _ _ _ S)
          have p0 := S.at'.cells.1
          have f0 := S.at'.frozen 0
          have p1 := (S.at'.set0 (.slice A1' L1' c1')).cells.2.1
          have f1 := (S.at'.set0 (.slice A1' L1' c1')).frozen 1
          have P1 := Lib.hid (And.intro p1 f1)
          clear fin S p1 f1
          refine wpAny_ready (rs := [21]) (by kernel_rfl) (by simp) (AllReady.cons rfl (fun K hK => ?_) AllReady.nil)
          go_simp
          refine hK _ _ ?_
          clear hK K p0 f0
          refine take_now (i := 22) (some 27) (v := ?_) rfl (by kernel_rfl) (by kernel_rfl) (by kernel_rfl) (fun _ _ _ h => h) (Or.inl ⟨by rfl, ?_⟩) rfl ?_
          rotate_left
          focus (intro w; go_simp; try with_reducible rfl)
          refine take_now (i := 23) (some 28) (v := ?_) rfl (by kernel_rfl) (by kernel_rfl) (by kernel_rfl) (fun _ _ _ h => h) (Or.inl ⟨by rfl, ?_⟩) rfl ?_
          rotate_left
          focus (intro w; go_simp; try with_reducible rfl)
          refine take_now (i := 24) (some 29) (v := ?_) rfl (by kernel_rfl) (by kernel_rfl) (by kernel_rfl) (fun _ _ _ h => h) (Or.inl ⟨by rfl, ?_⟩) rfl ?_
          rotate_left
          focus (intro w; go_simp; try with_reducible rfl)
          obtain ⟨p1, f1⟩ := P1.out
          refine wpAny_ready (rs := [25]) (by kernel_rfl) (by simp) (AllReady.cons rfl (fun K hK => ?_) AllReady.nil)
          go_simp
          refine hK _ _ ?_
          clear hK K p1 f1 P1
          refine wpAny_done (by kernel_rfl) ?_ _
          go_wp2_with fail
          refine bodyPost_end (results_none rfl _ _ _) rfl ?_
          exact ⟨rfl, Hf.out⟩
      · go_simp
        refine hK _ _ ?_
        clear hK K
        replace S := S.alloc2
        obtain ⟨N2, hN2⟩ : ∃ N2, N2 = W0.heap.size := ⟨_, rfl⟩
        rw [← hN2] at S ⊢
        clear hN2
        generalize W0.alloc (.cells #[.int .i64 z] 3) = V32 at *
        refine wpAny_ready (rs := [8]) (by kernel_rfl) (by simp) (AllReady.cons rfl (fun K hK => ?_) AllReady.nil)
        go_simp
        refine hK _ _ ?_
        clear hK K
        replace S := S.alloc1
        obtain ⟨N1, hN1⟩ : ∃ N1, N1 = V32.heap.size := ⟨_, rfl⟩
        rw [← hN1] at S ⊢
        clear hN1
        generalize V32.alloc (.cells #[.int .i64 c] 3) = V33 at *
        refine wpAny_ready (rs := [9]) (by kernel_rfl) (by simp) (AllReady.cons rfl (fun K hK => ?_) AllReady.nil)
        have cx := cell_of_row V33 N1 0 #[.int .i64 c] 3 (0, 0) (S.f1 N1 rfl).1
        refine step_push rfl (.tmp 12) (.tmp 14) rfl base (.slice A1 L1 c1) cs (by simp [Act.eval] <;> rfl) S.q1 c hc N1 (by simp [Act.eval] <;> rfl) (cx.trans rfl) hn1 S.bs ?_
        intro v' V34 hq hg ho
        replace S := S.push1 hq hg ho
        clear cx
        obtain ⟨A1', c1', hv', _, _⟩ := hq.shape
        obtain ⟨L1', hL'⟩ : ∃ L', (cs ++ [c]).length = L' := ⟨_, rfl⟩
        rw [hL'] at hv'
        subst hv'
        clear hL' hq hg ho
        refine hK _ _ ?_
        clear hK K
        refine wpAny_ready (rs := [17]) (by kernel_rfl) (by simp) (AllReady.cons rfl (fun K hK => ?_) AllReady.nil)
        have cx := cell_of_row V34 N2 0 #[.int .i64 z] 3 (0, 0) (S.f2 N2 rfl).1
        refine step_push rfl (.tmp 20) (.tmp 22) rfl base (.slice A2 L2 c2) ls (by simp [Act.eval] <;> rfl) S.q2 z hz N2 (by simp [Act.eval] <;> rfl) (cx.trans rfl) hn2 S.bs ?_
        intro v' V35 hq hg ho
        replace S := S.push2 hq hg ho
        clear cx
        obtain ⟨A2', c2', hv', _, _⟩ := hq.shape
        obtain ⟨L2', hL'⟩ : ∃ L', (ls ++ [z]).length = L' := ⟨_, rfl⟩
        rw [hL'] at hv'
        subst hv'
        clear hL' hq hg ho
        refine hK _ _ ?_
        clear hK K
        refine take_now (i := 18) (some 24) (v := ?_) rfl (by kernel_rfl) (by kernel_rfl) (by kernel_rfl) (fun _ _ _ h => h) (Or.inl ⟨by rfl, ?_⟩) rfl ?_
        rotate_left
        focus (intro w; go_simp; try with_reducible rfl)
        refine take_now (i := 19) (some 25) (v := ?_) rfl (by kernel_rfl) (by kernel_rfl) (by kernel_rfl) (fun _ _ _ h => h) (Or.inl ⟨by rfl, ?_⟩) rfl ?_
        rotate_left
        focus (intro w; go_simp; try with_reducible rfl)
        refine take_now (i := 20) (some 26) (v := ?_) rfl (by kernel_rfl) (by kernel_rfl) (by kernel_rfl) (fun _ _ _ h => h) (Or.inl ⟨by rfl, ?_⟩) rfl ?_
        rotate_left
        focus (intro w; go_simp; try with_reducible rfl)
        have Hf := Lib.hid (fin.out _ V35 V35 _ _ _ _ _ _ S)
        have p0 := S.at'.cells.1
        have f0 := S.at'.frozen 0
        have p1 := (S.at'.set0 (.slice A1' L1' c1')).cells.2.1
        have f1 := (S.at'.set0 (.slice A1' L1' c1')).frozen 1
        have P1 := Lib.hid (And.intro p1 f1)
        clear fin S p1 f1
        refine wpAny_ready (rs := [21]) (by kernel_rfl) (by simp) (AllReady.cons rfl (fun K hK => ?_) AllReady.nil)
        go_simp
        refine hK _ _ ?_
        clear hK K p0 f0
        refine take_now (i := 22) (some 27) (v := ?_) rfl (by kernel_rfl) (by kernel_rfl) (by kernel_rfl) (fun _ _ _ h => h) (Or.inl ⟨by rfl, ?_⟩) rfl ?_
        rotate_left
        focus (intro w; go_simp; try with_reducible rfl)
        refine take_now (i := 23) (some 28) (v := ?_) rfl (by kernel_rfl) (by kernel_rfl) (by kernel_rfl) (fun _ _ _ h => h) (Or.inl ⟨by rfl, ?_⟩) rfl ?_
        rotate_left
        focus (intro w; go_simp; try with_reducible rfl)
        refine take_now (i := 24) (some 29) (v := ?_) rfl (by kernel_rfl) (by kernel_rfl) (by kernel_rfl) (fun _ _ _ h => h) (Or.inl ⟨by rfl, ?_⟩) rfl ?_
        rotate_left
        focus (intro w; go_simp; try with_reducible rfl)
        obtain ⟨p1, f1⟩ := P1.out
        refine wpAny_ready (rs := [25]) (by kernel_rfl) (by simp) (AllReady.cons rfl (fun K hK => ?_) AllReady.nil)
        go_simp
        refine hK _ _ ?_
        clear hK K p1 f1 P1
        refine wpAny_done (by kernel_rfl) ?_ _
        go_wp2_with fail
        refine bodyPost_end (results_none rfl _ _ _) rfl ?_
        exact ⟨rfl, Hf.out⟩
    · go_simp
      refine hK _ _ ?_
      clear hK K
      replace S := S.alloc2
      obtain ⟨N2, hN2⟩ : ∃ N2, N2 = W0.heap.size := ⟨_, rfl⟩
      rw [← hN2] at S ⊢
      clear hN2
      generalize W0.alloc (.cells #[.int .i64 z] 3) = V36 at *
      refine wpAny_ready (rs := [8, 14]) (by kernel_rfl) (by simp) (AllReady.cons rfl (fun K hK => ?_) (AllReady.cons rfl (fun K hK => ?_) AllReady.nil))
      · go_simp
        refine hK _ _ ?_
        clear hK K
        replace S := S.alloc1
        obtain ⟨N1, hN1⟩ : ∃ N1, N1 = V36.heap.size := ⟨_, rfl⟩
        rw [← hN1] at S ⊢
        clear hN1
        generalize V36.alloc (.cells #[.int .i64 c] 3) = V37 at *
        refine wpAny_ready (rs := [9, 14]) (by kernel_rfl) (by simp) (AllReady.cons rfl (fun K hK => ?_) (AllReady.cons rfl (fun K hK => ?_) AllReady.nil))
        · have cx := cell_of_row V37 N1 0 #[.int .i64 c] 3 (0, 0) (S.f1 N1 rfl).1
          refine step_push rfl (.tmp 12) (.tmp 14) rfl base (.slice A1 L1 c1) cs (by simp [Act.eval] <;> rfl) S.q1 c hc N1 (by simp [Act.eval] <;> rfl) (cx.trans rfl) hn1 S.bs ?_
          intro v' V38 hq hg ho
          replace S := S.push1 hq hg ho
          clear cx
          obtain ⟨A1', c1', hv', _, _⟩ := hq.shape
          obtain ⟨L1', hL'⟩ : ∃ L', (cs ++ [c]).length = L' := ⟨_, rfl⟩
          rw [hL'] at hv'
          subst hv'
          clear hL' hq hg ho
          refine hK _ _ ?_
          clear hK K
          refine wpAny_ready (rs := [14]) (by kernel_rfl) (by simp) (AllReady.cons rfl (fun K hK => ?_) AllReady.nil)
          have c0 := S.at'.cells.2.1
          go_simp
          refine hK _ _ ?_
          clear hK K c0
          refine wpAny_ready (rs := [17]) (by kernel_rfl) (by simp) (AllReady.cons rfl (fun K hK => ?_) AllReady.nil)
          have cx := cell_of_row V38 N2 0 #[.int .i64 z] 3 (0, 0) (S.f2 N2 rfl).1
          refine step_push rfl (.tmp 20) (.tmp 22) rfl base (.slice A2 L2 c2) ls (by simp [Act.eval] <;> rfl) S.q2 z hz N2 (by simp [Act.eval] <;> rfl) (cx.trans rfl) hn2 S.bs ?_
          intro v' V40 hq hg ho
          replace S := S.push2 hq hg ho
          clear cx
          obtain ⟨A2', c2', hv', _, _⟩ := hq.shape
          obtain ⟨L2', hL'⟩ : ∃ L', (ls ++ [z]).length = L' := ⟨_, rfl⟩
          rw [hL'] at hv'
          subst hv'
          clear hL' hq hg ho
          refine hK _ _ ?_
          clear hK K
          refine take_now (i := 18) (some 24) (v := ?_) rfl (by kernel_rfl) (by kernel_rfl) (by kernel_rfl) (fun _ _ _ h => h) (Or.inl ⟨by rfl, ?_⟩) rfl ?_
          rotate_left
          focus (intro w; go_simp; try with_reducible rfl)
          refine take_now (i := 19) (some 25) (v := ?_) rfl (by kernel_rfl) (by kernel_rfl) (by kernel_rfl) (fun _ _ _ h => h) (Or.inl ⟨by rfl, ?_⟩) rfl ?_
          rotate_left
          focus (intro w; go_simp; try with_reducible rfl)
          refine take_now (i := 20) (some 26) (v := ?_) rfl (by kernel_rfl) (by kernel_rfl) (by kernel_rfl) (fun _ _ _ h => h) (Or.inl ⟨by rfl, ?_⟩) rfl ?_
          rotate_left
          focus (intro w; go_simp; try with_reducible rfl)
          have Hf := Lib.hid (fin.out _ V40 V40 _ _ _ _ _ _ S)
          have p0 := S.at'.cells.1
          have f0 := S.at'.frozen 0
          have p1 := (S.at'.set0 (.slice A1' L1' c1')).cells.2.1
          have f1 := (S.at'.set0 (.slice A1' L1' c1')).frozen 1
          have P1 := Lib.hid (And.intro p1 f1)
          clear fin S p1 f1
          refine wpAny_ready (rs := [21]) (by kernel_rfl) (by simp) (AllReady.cons rfl (fun K hK => ?_) AllReady.nil)
          go_simp
          refine hK _ _ ?_
          clear hK K p0 f0
          refine take_now (i := 22) (some 27) (v := ?_) rfl (by kernel_rfl) (by kernel_rfl) (by kernel_rfl) (fun _ _ _ h => h) (Or.inl ⟨by rfl, ?_⟩) rfl ?_
          rotate_left
          focus (intro w; go_simp; try with_reducible rfl)
          refine take_now (i := 23) (some 28) (v := ?_) rfl (by kernel_rfl) (by kernel_rfl) (by kernel_rfl) (fun _ _ _ h => h) (Or.inl ⟨by rfl, ?_⟩) rfl ?_
          rotate_left
          focus (intro w; go_simp; try with_reducible rfl)
          refine take_now (i := 24) (some 29) (v := ?_) rfl (by kernel_rfl) (by kernel_rfl) (by kernel_rfl) (fun _ _ _ h => h) (Or.inl ⟨by rfl, ?_⟩) rfl ?_
          rotate_left
          focus (intro w; go_simp; try with_reducible rfl)
          obtain ⟨p1, f1⟩ := P1.out
          refine wpAny_ready (rs := [25]) (by kernel_rfl) (by simp) (AllReady.cons rfl (fun K hK => ?_) AllReady.nil)
          go_simp
          refine hK _ _ ?_
          clear hK K p1 f1 P1
          refine wpAny_done (by kernel_rfl) ?_ _
          go_wp2_with fail
          refine bodyPost_end (results_none rfl _ _ _) rfl ?_
          exact ⟨rfl, Hf.out⟩
        · have c0 := S.at'.cells.2.1
          go_simp
          refine hK _ _ ?_
          clear hK K c0
          refine wpAny_ready (rs := [9]) (by kernel_rfl) (by simp) (AllReady.cons rfl (fun K hK => ?_) AllReady.nil)
          have cx := cell_of_row V37 N1 0 #[.int .i64 c] 3 (0, 0) (S.f1 N1 rfl).1
          refine step_push rfl (.tmp 12) (.tmp 14) rfl base (.slice A1 L1 c1) cs (by simp [Act.eval] <;> rfl) S.q1 c hc N1 (by simp [Act.eval] <;> rfl) (cx.trans rfl) hn1 S.bs ?_
          intro v' V42 hq hg ho
          replace S := S.push1 hq hg ho
          clear cx
          obtain ⟨A1', c1', hv', _, _⟩ := hq.shape
          obtain ⟨L1', hL'⟩ : ∃ L', (cs ++ [c]).length = L' := ⟨_, rfl⟩
          rw [hL'] at hv'
          subst hv'
          clear hL' hq hg ho
          refine hK _ _ ?_
          clear hK K
          refine wpAny_ready (rs := [17]) (by kernel_rfl) (by simp) (AllReady.cons rfl (fun K hK => ?_) AllReady.nil)
          have cx := cell_of_row V42 N2 0 #[.int .i64 z] 3 (0, 0) (S.f2 N2 rfl).1
          refine step_push rfl (.tmp 20) (.tmp 22) rfl base (.slice A2 L2 c2) ls (by simp [Act.eval] <;> rfl) S.q2 z hz N2 (by simp [Act.eval] <;> rfl) (cx.trans rfl) hn2 S.bs ?_
          intro v' V43 hq hg ho
          replace S := S.push2 hq hg ho
          clear cx
          obtain ⟨A2', c2', hv', _, _⟩ := hq.shape
          obtain ⟨L2', hL'⟩ : ∃ L', (ls ++ [z]).length = L' := ⟨_, rfl⟩
          rw [hL'] at hv'
          subst hv'
          clear hL' hq hg ho
          refine hK _ _ ?_
          clear hK K
          refine take_now (i := 18) (some 24) (v := ?_) rfl (by kernel_rfl) (by kernel_rfl) (by kernel_rfl) (fun _ _ _ h => h) (Or.inl ⟨by rfl, ?_⟩) rfl ?_
          rotate_left
          focus (intro w; go_simp; try with_reducible rfl)
          refine take_now (i := 19) (some 25) (v := ?_) rfl (by kernel_rfl) (by kernel_rfl) (by kernel_rfl) (fun _ _ _ h => h) (Or.inl ⟨by rfl, ?_⟩) rfl ?_
          rotate_left
          focus (intro w; go_simp; try with_reducible rfl)
          refine take_now (i := 20) (some 26) (v := ?_) rfl (by kernel_rfl) (by kernel_rfl) (by kernel_rfl) (fun _ _ _ h => h) (Or.inl ⟨by rfl, ?_⟩) rfl ?_
          rotate_left
          focus (intro w; go_simp; try with_reducible rfl)
          have Hf := Lib.hid (fin.out _ V43 V43 _ _ _ _ _ _ S)
          have p0 := S.at'.cells.1
          have f0 := S.at'.frozen 0
          have p1 := (S.at'.set0 (.slice A1' L1' c1')).cells.2.1
          have f1 := (S.at'.set0 (.slice A1' L1' c1')).frozen 1
          have P1 := Lib.hid (And.intro p1 f1)
          clear fin S p1 f1
          refine wpAny_ready (rs := [21]) (by kernel_rfl) (by simp) (AllReady.cons rfl (fun K hK => ?_) AllReady.nil)
          go_simp
          refine hK _ _ ?_
          clear hK K p0 f0
          refine take_now (i := 22) (some 27) (v := ?_) rfl (by kernel_rfl) (by kernel_rfl) (by kernel_rfl) (fun _ _ _ h => h) (Or.inl ⟨by rfl, ?_⟩) rfl ?_
          rotate_left
          focus (intro w; go_simp; try with_reducible rfl)
          refine take_now (i := 23) (some 28) (v := ?_) rfl (by kernel_rfl) (by kernel_rfl) (by kernel_rfl) (fun _ _ _ h => h) (Or.inl ⟨by rfl, ?_⟩) rfl ?_
          rotate_left
          focus (intro w; go_simp; try with_reducible rfl)
          refine take_now (i := 24) (some 29) (v := ?_) rfl (by kernel_rfl) (by kernel_rfl) (by kernel_rfl) (fun _ _ _ h => h) (Or.inl ⟨by rfl, ?_⟩) rfl ?_
          rotate_left
          focus (intro w; go_simp; try with_reducible rfl)
          obtain ⟨p1, f1⟩ := P1.out
          refine wpAny_ready (rs := [25]) (by kernel_rfl) (by simp) (AllReady.cons rfl (fun K hK => ?_) AllReady.nil)
          go_simp
          refine hK _ _ ?_
          clear hK K p1 f1 P1
          refine wpAny_done (by kernel_rfl) ?_ _
          go_wp2_with fail
          refine bodyPost_end (results_none rfl _ _ _) rfl ?_
          exact ⟨rfl, Hf.out⟩
      · have c0 := S.at'.cells.2.1
        go_simp
        refine hK _ _ ?_
        clear hK K c0
        refine wpAny_ready (rs := [8]) (by kernel_rfl) (by simp) (AllReady.cons rfl (fun K hK => ?_) AllReady.nil)
        go_simp
        refine hK _ _ ?_
        clear hK K
        replace S := S.alloc1
        obtain ⟨N1, hN1⟩ : ∃ N1, N1 = V36.heap.size := ⟨_, rfl⟩
        rw [← hN1] at S ⊢
        clear hN1
        generalize V36.alloc (.cells #[.int .i64 c] 3) = V45 at *
        refine wpAny_ready (rs := [9]) (by kernel_rfl) (by simp) (AllReady.cons rfl (fun K hK => ?_) AllReady.nil)
        have cx := cell_of_row V45 N1 0 #[.int .i64 c] 3 (0, 0) (S.f1 N1 rfl).1
        refine step_push rfl (.tmp 12) (.tmp 14) rfl base (.slice A1 L1 c1) cs (by simp [Act.eval] <;> rfl) S.q1 c hc N1 (by simp [Act.eval] <;> rfl) (cx.trans rfl) hn1 S.bs ?_
        intro v' V46 hq hg ho
        replace S := S.push1 hq hg ho
        clear cx
        obtain ⟨A1', c1', hv', _, _⟩ := hq.shape
        obtain ⟨L1', hL'⟩ : ∃ L', (cs ++ [c]).length = L' := ⟨_, rfl⟩
        rw [hL'] at hv'
        subst hv'
        clear hL' hq hg ho
        refine hK _ _ ?_
        clear hK K
        refine wpAny_ready (rs := [17]) (by kernel_rfl) (by simp) (AllReady.cons rfl (fun K hK => ?_) AllReady.nil)
        have cx := cell_of_row V46 N2 0 #[.int .i64 z] 3 (0, 0) (S.f2 N2 rfl).1
        refine step_push rfl (.tmp 20) (.tmp 22) rfl base (.slice A2 L2 c2) ls (by simp [Act.eval] <;> rfl) S.q2 z hz N2 (by simp [Act.eval] <;> rfl) (cx.trans rfl) hn2 S.bs ?_
        intro v' V47 hq hg ho
        replace S := S.push2 hq hg ho
        clear cx
        obtain ⟨A2', c2', hv', _, _⟩ := hq.shape
        obtain ⟨L2', hL'⟩ : ∃ L', (ls ++ [z]).length = L' := ⟨_, rfl⟩
        rw [hL'] at hv'
        subst hv'
        clear hL' hq hg ho
        refine hK _ _ ?_
        clear hK K
        refine take_now (i := 18) (some 24) (v := ?_) rfl (by kernel_rfl) (by kernel_rfl) (by kernel_rfl) (fun _ _ _ h => h) (Or.inl ⟨by rfl, ?_⟩) rfl ?_
        rotate_left
        focus (intro w; go_simp; try with_reducible rfl)
        refine take_now (i := 19) (some 25) (v := ?_) rfl (by kernel_rfl) (by kernel_rfl) (by kernel_rfl) (fun _ _ _ h => h) (Or.inl ⟨by rfl, ?_⟩) rfl ?_
        rotate_left
        focus (intro w; go_simp; try with_reducible rfl)
        refine take_now (i := 20) (some 26) (v := ?_) rfl (by kernel_rfl) (by kernel_rfl) (by kernel_rfl) (fun _ _ _ h => h) (Or.inl ⟨by rfl, ?_⟩) rfl ?_
        rotate_left
        focus (intro w; go_simp; try with_reducible rfl)
        have Hf := Lib.hid (fin.out _ V47 V47 _ _ _ _ _ _ S)
        have p0 := S.at'.cells.1
        have f0 := S.at'.frozen 0
        have p1 := (S.at'.set0 (.slice A1' L1' c1')).cells.2.1
        have f1 := (S.at'.set0 (.slice A1' L1' c1')).frozen 1
        have P1 := Lib.hid (And.intro p1 f1)
        clear fin S p1 f1
        refine wpAny_ready (rs := [21]) (by kernel_rfl) (by simp) (AllReady.cons rfl (fun K hK => ?_) AllReady.nil)
        go_simp
        refine hK _ _ ?_
        clear hK K p0 f0
        refine take_now (i := 22) (some 27) (v := ?_) rfl (by kernel_rfl) (by kernel_rfl) (by kernel_rfl) (fun _ _ _ h => h) (Or.inl ⟨by rfl, ?_⟩) rfl ?_
        rotate_left
        focus (intro w; go_simp; try with_reducible rfl)
        refine take_now (i := 23) (some 28) (v := ?_) rfl (by kernel_rfl) (by kernel_rfl) (by kernel_rfl) (fun _ _ _ h => h) (Or.inl ⟨by rfl, ?_⟩) rfl ?_
        rotate_left
        focus (intro w; go_simp; try with_reducible rfl)
        refine take_now (i := 24) (some 29) (v := ?_) rfl (by kernel_rfl) (by kernel_rfl) (by kernel_rfl) (fun _ _ _ h => h) (Or.inl ⟨by rfl, ?_⟩) rfl ?_
        rotate_left
        focus (intro w; go_simp; try with_reducible rfl)
        obtain ⟨p1, f1⟩ := P1.out
        refine wpAny_ready (rs := [25]) (by kernel_rfl) (by simp) (AllReady.cons rfl (fun K hK => ?_) AllReady.nil)
        go_simp
        refine hK _ _ ?_
        clear hK K p1 f1 P1
        refine wpAny_done (by kernel_rfl) ?_ _
        go_wp2_with fail
        refine bodyPost_end (results_none rfl _ _ _) rfl ?_
        exact ⟨rfl, Hf.out⟩
  · go_simp
    refine hK _ _ ?_
    clear hK K
    replace S := S.alloc1
    obtain ⟨N1, hN1⟩ : ∃ N1, N1 = W0.heap.size := ⟨_, rfl⟩
    rw [← hN1] at S ⊢
    clear hN1
    generalize W0.alloc (.cells #[.int .i64 c] 3) = V48 at *
    refine wpAny_ready (rs := [6, 14, 16]) (by kernel_rfl) (by simp) (AllReady.cons rfl (fun K hK => ?_) (AllReady.cons rfl (fun K hK => ?_) (AllReady.cons rfl (fun K hK => ?_) AllReady.nil)))
    · have c0 := S.at'.cells.1
      go_simp
      refine hK _ _ ?_
      clear hK K c0
      refine wpAny_ready (rs := [9, 14, 16]) (by kernel_rfl) (by simp) (AllReady.cons rfl (fun K hK => ?_) (AllReady.cons rfl (fun K hK => ?_) (AllReady.cons rfl (fun K hK => ?_) AllReady.nil)))
      · have cx := cell_of_row V48 N1 0 #[.int .i64 c] 3 (0, 0) (S.f1 N1 rfl).1
        refine step_push rfl (.tmp 12) (.tmp 14) rfl base (.slice A1 L1 c1) cs (by simp [Act.eval] <;> rfl) S.q1 c hc N1 (by simp [Act.eval] <;> rfl) (cx.trans rfl) hn1 S.bs ?_
        intro v' V50 hq hg ho
        replace S := S.push1 hq hg ho
        clear cx
        obtain ⟨A1', c1', hv', _, _⟩ := hq.shape
        obtain ⟨L1', hL'⟩ : ∃ L', (cs ++ [c]).length = L' := ⟨_, rfl⟩
        rw [hL'] at hv'
        subst hv'
        clear hL' hq hg ho
        refine hK _ _ ?_
        clear hK K
        refine wpAny_ready (rs := [14, 16]) (by kernel_rfl) (by simp) (AllReady.cons rfl (fun K hK => ?_) (AllReady.cons rfl (fun K hK => ?_) AllReady.nil))
        · have c0 := S.at'.cells.2.1
          go_simp
          refine hK _ _ ?_
          clear hK K c0
          refine wpAny_ready (rs := [16]) (by kernel_rfl) (by simp) (AllReady.cons rfl (fun K hK => ?_) AllReady.nil)
          go_simp
          refine hK _ _ ?_
          clear hK K
          replace S := S.alloc2
          obtain ⟨N2, hN2⟩ : ∃ N2, N2 = V50.heap.size := ⟨_, rfl⟩
          rw [← hN2] at S ⊢
          clear hN2
          generalize V50.alloc (.cells #[.int .i64 z] 3) = V52 at *
          refine wpAny_ready (rs := [17]) (by kernel_rfl) (by simp) (AllReady.cons rfl (fun K hK => ?_) AllReady.nil)
          have cx := cell_of_row V52 N2 0 #[.int .i64 z] 3 (0, 0) (S.f2 N2 rfl).1
          refine step_push rfl (.tmp 20) (.tmp 22) rfl base (.slice A2 L2 c2) ls (by simp [Act.eval] <;> rfl) S.q2 z hz N2 (by simp [Act.eval] <;> rfl) (cx.trans rfl) hn2 S.bs ?_
          intro v' V53 hq hg ho
          replace S := S.push2 hq hg ho
          clear cx
          obtain ⟨A2', c2', hv', _, _⟩ := hq.shape
          obtain ⟨L2', hL'⟩ : ∃ L', (ls ++ [z]).length = L' := ⟨_, rfl⟩
          rw [hL'] at hv'
          subst hv'
          clear hL' hq hg ho
          refine hK _ _ ?_
          clear hK K
          refine take_now (i := 18) (some 24) (v := ?_) rfl (by kernel_rfl) (by kernel_rfl) (by kernel_rfl) (fun _ _ _ h => h) (Or.inl ⟨by rfl, ?_⟩) rfl ?_
          rotate_left
          focus (intro w; go_simp; try with_reducible rfl)
          refine take_now (i := 19) (some 25) (v := ?_) rfl (by kernel_rfl) (by kernel_rfl) (by kernel_rfl) (fun _ _ _ h => h) (Or.inl ⟨by rfl, ?_⟩) rfl ?_
          rotate_left
          focus (intro w; go_simp; try with_reducible rfl)
          refine take_now (i := 20) (some 26) (v := ?_) rfl (by kernel_rfl) (by kernel_rfl) (by kernel_rfl) (fun _ _ _ h => h) (Or.inl ⟨by rfl, ?_⟩) rfl ?_
          rotate_left
          focus (intro w; go_simp; try with_reducible rfl)
          have Hf := Lib.hid (fin.out _ V53 V53 _ _ _ _ _ _ S)
          have p0 := S.at'.cells.1
          have f0 := S.at'.frozen 0
          have p1 := (S.at'.set0 (.slice A1' L1' c1')).cells.2.1
          have f1 := (S.at'.set0 (.slice A1' L1' c1')).frozen 1
          have P1 := Lib.hid (And.intro p1 f1)
          clear fin S p1 f1
          refine wpAny_ready (rs := [21]) (by kernel_rfl) (by simp) (AllReady.cons rfl (fun K hK => ?_) AllReady.nil)
          go_simp
          refine hK _ _ ?_
          clear hK K p0 f0
          refine take_now (i := 22) (some 27) (v := ?_) rfl (by kernel_rfl) (by kernel_rfl) (by kernel_rfl) (fun _ _ _ h => h) (Or.inl ⟨by rfl, ?_⟩) rfl ?_
          rotate_left
          focus (intro w; go_simp; try with_reducible rfl)
          refine take_now (i := 23) (some 28) (v := ?_) rfl (by kernel_rfl) (by kernel_rfl) (by kernel_rfl) (fun _ _ _ h => h) (Or.inl ⟨by rfl, ?_⟩) rfl ?_
          rotate_left
          focus (intro w; go_simp; try with_reducible rfl)
          refine take_now (i := 24) (some 29) (v := ?_) rfl (by kernel_rfl) (by kernel_rfl) (by kernel_rfl) (fun _ _ _ h => h) (Or.inl ⟨by rfl, ?_⟩) rfl ?_
          rotate_left
          focus (intro w; go_simp; try with_reducible rfl)
          obtain ⟨p1, f1⟩ := P1.out
          refine wpAny_ready (rs := [25]) (by kernel_rfl) (by simp) (AllReady.cons rfl (fun K hK => ?_) AllReady.nil)
          go_simp
          refine hK _ _ ?_
          clear hK K p1 f1 P1
          refine wpAny_done (by kernel_rfl) ?_ _
          go_wp2_with fail
          refine bodyPost_end (results_none rfl _ _ _) rfl ?_
          exact ⟨rfl, Hf.out⟩
        · go_simp
          refine hK _ _ ?_
          clear hK K
          replace S := S.alloc2
          obtain ⟨N2, hN2⟩ : ∃ N2, N2 = V50.heap.size := ⟨_, rfl⟩
          rw [← hN2] at S ⊢
          clear hN2
          generalize V50.alloc (.cells #[.int .i64 z] 3) = V54 at *
          refine wpAny_ready (rs := [14]) (by kernel_rfl) (by simp) (AllReady.cons rfl (fun K hK => ?_) AllReady.nil)
          have c0 := S.at'.cells.2.1
          go_simp
          refine hK _ _ ?_
          clear hK K c0
          refine wpAny_ready (rs := [17]) (by kernel_rfl) (by simp) (AllReady.cons rfl (fun K hK => ?_) AllReady.nil)
          have cx := cell_of_row V54 N2 0 #[.int .i64 z] 3 (0, 0) (S.f2 N2 rfl).1
          refine step_push rfl (.tmp 20) (.tmp 22) rfl base (.slice A2 L2 c2) ls (by simp [Act.eval] <;> rfl) S.q2 z hz N2 (by simp [Act.eval] <;> rfl) (cx.trans rfl) hn2 S.bs ?_
          intro v' V56 hq hg ho
          replace S := S.push2 hq hg ho
          clear cx
          obtain ⟨A2', c2', hv', _, _⟩ := hq.shape
          obtain ⟨L2', hL'⟩ : ∃ L', (ls ++ [z]).length = L' := ⟨_, rfl⟩
          rw [hL'] at hv'
          subst hv'
          clear hL' hq hg ho
          refine hK _ _ ?_
          clear hK K
          refine take_now (i := 18) (some 24) (v := ?_) rfl (by kernel_rfl) (by kernel_rfl) (by kernel_rfl) (fun _ _ _ h => h) (Or.inl ⟨by rfl, ?_⟩) rfl ?_
          rotate_left
          focus (intro w; go_simp; try with_reducible rfl)
          refine take_now (i := 19) (some 25) (v := ?_) rfl (by kernel_rfl) (by kernel_rfl) (by kernel_rfl) (fun _ _ _ h => h) (Or.inl ⟨by rfl, ?_⟩) rfl ?_
          rotate_left
          focus (intro w; go_simp; try with_reducible rfl)
          refine take_now (i := 20) (some 26) (v := ?_) rfl (by kernel_rfl) (by kernel_rfl) (by kernel_rfl) (fun _ _ _ h => h) (Or.inl ⟨by rfl, ?_⟩) rfl ?_
          rotate_left
          focus (intro w; go_simp; try with_reducible rfl)
          have Hf := Lib.hid (fin.out _ V56 V56 _ _ _ _ _ _ S)
          have p0 := S.at'.cells.1
          have f0 := S.at'.frozen 0
          have p1 := (S.at'.set0 (.slice A1' L1' c1')).cells.2.1
          have f1 := (S.at'.set0 (.slice A1' L1' c1')).frozen 1
          have P1 := Lib.hid (And.intro p1 f1)
          clear fin S p1 f1
          refine wpAny_ready (rs := [21]) (by kernel_rfl) (by simp) (AllReady.cons rfl (fun K hK => ?_) AllReady.nil)
          go_simp
          refine hK _ _ ?_
          clear hK K p0 f0
          refine take_now (i := 22) (some 27) (v := ?_) rfl (by kernel_rfl) (by kernel_rfl) (by kernel_rfl) (fun _ _ _ h => h) (Or.inl ⟨by rfl, ?_⟩) rfl ?_
          rotate_left
          focus (intro w; go_simp; try with_reducible rfl)
          refine take_now (i := 23) (some 28) (v := ?_) rfl (by kernel_rfl) (by kernel_rfl) (by kernel_rfl) (fun _ _ _ h => h) (Or.inl ⟨by rfl, ?_⟩) rfl ?_
          rotate_left
          focus (intro w; go_simp; try with_reducible rfl)
          refine take_now (i := 24) (some 29) (v := ?_) rfl (by kernel_rfl) (by kernel_rfl) (by kernel_rfl) (fun _ _ _ h => h) (Or.inl ⟨by rfl, ?_⟩) rfl ?_
          rotate_left
          focus (intro w; go_simp; try with_reducible rfl)
          obtain ⟨p1, f1⟩ := P1.out
          refine wpAny_ready (rs := [25]) (by kernel_rfl) (by simp) (AllReady.cons rfl (fun K hK => ?_) AllReady.nil)
          go_simp
          refine hK _ _ ?_
          clear hK K p1 f1 P1
          refine wpAny_done (by kernel_rfl) ?_ _
          go_wp2_with fail
          refine bodyPost_end (results_none rfl _ _ _) rfl ?_
          exact ⟨rfl, Hf.out⟩
      · have c0 := S.at'.cells.2.1
        go_simp
        refine hK _ _ ?_
        clear hK K c0
        refine wpAny_ready (rs := [9, 16]) (by kernel_rfl) (by simp) (AllReady.cons rfl (fun K hK => ?_) (AllReady.cons rfl (fun K hK => ?_) AllReady.nil))
        · have cx := cell_of_row V48 N1 0 #[.int .i64 c] 3 (0, 0) (S.f1 N1 rfl).1
          refine step_push rfl (.tmp 12) (.tmp 14) rfl base (.slice A1 L1 c1) cs (by simp [Act.eval] <;> rfl) S.q1 c hc N1 (by simp [Act.eval] <;> rfl) (cx.trans rfl) hn1 S.bs ?_
          intro v' V58 hq hg ho
          replace S := S.push1 hq hg ho
          clear cx
          obtain ⟨A1', c1', hv', _, _⟩ := hq.shape
          obtain ⟨L1', hL'⟩ : ∃ L', (cs ++ [c]).length = L' := ⟨_, rfl⟩
          rw [hL'] at hv'
          subst hv'
          clear hL' hq hg ho
          refine hK _ _ ?_
          clear hK K
          refine wpAny_ready (rs := [16]) (by kernel_rfl) (by simp) (AllReady.cons rfl (fun K hK => ?_) AllReady.nil)
          go_simp
          refine hK _ _ ?_
          clear hK K
          replace S := S.alloc2
          obtain ⟨N2, hN2⟩ : ∃ N2, N2 = V58.heap.size := ⟨_, rfl⟩
          rw [← hN2] at S ⊢
          clear hN2
          generalize V58.alloc (.cells #[.int .i64 z] 3) = V59 at *
          refine wpAny_ready (rs := [17]) (by kernel_rfl) (by simp) (AllReady.cons rfl (fun K hK => ?_) AllReady.nil)
          have cx := cell_of_row V59 N2 0 #[.int .i64 z] 3 (0, 0) (S.f2 N2 rfl).1
          refine step_push rfl (.tmp 20) (.tmp 22) rfl base (.slice A2 L2 c2) ls (by simp [Act.eval] <;> rfl) S.q2 z hz N2 (by simp [Act.eval] <;> rfl) (cx.trans rfl) hn2 S.bs ?_
          intro v' V60 hq hg ho
          replace S := S.push2 hq hg ho
          clear cx
          obtain ⟨A2', c2', hv', _, _⟩ := hq.shape
          obtain ⟨L2', hL'⟩ : ∃ L', (ls ++ [z]).length = L' := ⟨_, rfl⟩
          rw [hL'] at hv'
          subst hv'
          clear hL' hq hg ho
          refine hK _ _ ?_
          clear hK K
          refine take_now (i := 18) (some 24) (v := ?_) rfl (by kernel_rfl) (by kernel_rfl) (by kernel_rfl) (fun _ _ _ h => h) (Or.inl ⟨by rfl, ?_⟩) rfl ?_
          rotate_left
          focus (intro w; go_simp; try with_reducible rfl)
          refine take_now (i := 19) (some 25) (v := ?_) rfl (by kernel_rfl) (by kernel_rfl) (by kernel_rfl) (fun _ _ _ h => h) (Or.inl ⟨by rfl, ?_⟩) rfl ?_
          rotate_left
          focus (intro w; go_simp; try with_reducible rfl)
          refine take_now (i := 20) (some 26) (v := ?_) rfl (by kernel_rfl) (by kernel_rfl) (by kernel_rfl) (fun _ _ _ h => h) (Or.inl ⟨by rfl, ?_⟩) rfl ?_
          rotate_left
          focus (intro w; go_simp; try with_reducible rfl)
          have Hf := Lib.hid (fin.out _ V60 V60 _ _ _ _ _ _ S)
          have p0 := S.at'.cells.1
          have f0 := S.at'.frozen 0
          have p1 := (S.at'.set0 (.slice A1' L1' c1')).cells.2.1
          have f1 := (S.at'.set0 (.slice A1' L1' c1')).frozen 1
          have P1 := Lib.hid (And.intro p1 f1)
          clear fin S p1 f1
          refine wpAny_ready (rs := [21]) (by kernel_rfl) (by simp) (AllReady.cons rfl (fun K hK => ?_) AllReady.nil)
          go_simp
          refine hK _ _ ?_
          clear hK K p0 f0
          refine take_now (i := 22) (some 27) (v := ?_) rfl (by kernel_rfl) (by kernel_rfl) (by kernel_rfl) (fun _ _ _ h => h) (Or.inl ⟨by rfl, ?_⟩) rfl ?_
          rotate_left
          focus (intro w; go_simp; try with_reducible rfl)
          refine take_now (i := 23) (some 28) (v := ?_) rfl (by kernel_rfl) (by kernel_rfl) (by kernel_rfl) (fun _ _ _ h => h) (Or.inl ⟨by rfl, ?_⟩) rfl ?_
          rotate_left
          focus (intro w; go_simp; try with_reducible rfl)
          refine take_now (i := 24) (some 29) (v := ?_) rfl (by kernel_rfl) (by kernel_rfl) (by kernel_rfl) (fun _ _ _ h => h) (Or.inl ⟨by rfl, ?_⟩) rfl ?_
          rotate_left
          focus (intro w; go_simp; try with_reducible rfl)
          obtain ⟨p1, f1⟩ := P1.out
          refine wpAny_ready (rs := [25]) (by kernel_rfl) (by simp) (AllReady.cons rfl (fun K hK => ?_) AllReady.nil)
          go_simp
          refine hK _ _ ?_
          clear hK K p1 f1 P1
          refine wpAny_done (by kernel_rfl) ?_ _
          go_wp2_with fail
          refine bodyPost_end (results_none rfl _ _ _) rfl ?_
          exact ⟨rfl, Hf.out⟩
        · go_simp
          refine hK _ _ ?_
          clear hK K
          replace S := S.alloc2
          obtain ⟨N2, hN2⟩ : ∃ N2, N2 = V48.heap.size := ⟨_, rfl⟩
          rw [← hN2] at S ⊢
          clear hN2
          generalize V48.alloc (.cells #[.int .i64 z] 3) = V61 at *
          refine wpAny_ready (rs := [9]) (by kernel_rfl) (by simp) (AllReady.cons rfl (fun K hK => ?_) AllReady.nil)
          have cx := cell_of_row V61 N1 0 #[.int .i64 c] 3 (0, 0) (S.f1 N1 rfl).1
          refine step_push rfl (.tmp 12) (.tmp 14) rfl base (.slice A1 L1 c1) cs (by simp [Act.eval] <;> rfl) S.q1 c hc N1 (by simp [Act.eval] <;> rfl) (cx.trans rfl) hn1 S.bs ?_
          intro v' V62 hq hg ho
          replace S := S.push1 hq hg ho
          clear cx
          obtain ⟨A1', c1', hv', _, _⟩ := hq.shape
          obtain ⟨L1', hL'⟩ : ∃ L', (cs ++ [c]).length = L' := ⟨_, rfl⟩
          rw [hL'] at hv'
          subst hv'
          clear hL' hq hg ho
          refine hK _ _ ?_
          clear hK K
          refine wpAny_ready (rs := [17]) (by kernel_rfl) (by simp) (AllReady.cons rfl (fun K hK => ?_) AllReady.nil)
          have cx := cell_of_row V62 N2 0 #[.int .i64 z] 3 (0, 0) (S.f2 N2 rfl).1
          refine step_push rfl (.tmp 20) (.tmp 22) rfl base (.slice A2 L2 c2) ls (by simp [Act.eval] <;> rfl) S.q2 z hz N2 (by simp [Act.eval] <;> rfl) (cx.trans rfl) hn2 S.bs ?_
          intro v' V63 hq hg ho
          replace S := S.push2 hq hg ho
          clear cx
          obtain ⟨A2', c2', hv', _, _⟩ := hq.shape
          obtain ⟨L2', hL'⟩ : ∃ L', (ls ++ [z]).length = L' := ⟨_, rfl⟩
          rw [hL'] at hv'
          subst hv'
          clear hL' hq hg ho
          refine hK _ _ ?_
          clear hK K
          refine take_now (i := 18) (some 24) (v := ?_) rfl (by kernel_rfl) (by kernel_rfl) (by kernel_rfl) (fun _ _ _ h => h) (Or.inl ⟨by rfl, ?_⟩) rfl ?_
          rotate_left
          focus (intro w; go_simp; try with_reducible rfl)
          refine take_now (i := 19) (some 25) (v := ?_) rfl (by kernel_rfl) (by kernel_rfl) (by kernel_rfl) (fun _ _ _ h => h) (Or.inl ⟨by rfl, ?_⟩) rfl ?_
          rotate_left
          focus (intro w; go_simp; try with_reducible rfl)
          refine take_now (i := 20) (some 26) (v := ?_) rfl (by kernel_rfl) (by kernel_rfl) (by kernel_rfl) (fun _ _ _ h => h) (Or.inl ⟨by rfl, ?_⟩) rfl ?_
          rotate_left
          focus (intro w; go_simp; try with_reducible rfl)
          have Hf := Lib.hid (fin.out _ V63 V63 _ _ _ _ _ _ S)
          have p0 := S.at'.cells.1
          have f0 := S.at'.frozen 0
          have p1 := (S.at'.set0 (.slice A1' L1' c1')).cells.2.1
          have f1 := (S.at'.set0 (.slice A1' L1' c1')).frozen 1
          have P1 := Lib.hid (And.intro p1 f1)
          clear fin S p1 f1
          refine wpAny_ready (rs := [21]) (by kernel_rfl) (by simp) (AllReady.cons rfl (fun K hK => ?_) AllReady.nil)
          go_simp
          refine hK _ _ ?_
          clear hK K p0 f0
          refine take_now (i := 22) (some 27) (v := ?_) rfl (by kernel_rfl) (by kernel_rfl) (by kernel_rfl) (fun _ _ _ h => h) (Or.inl ⟨by rfl, ?_⟩) rfl ?_
          rotate_left
          focus (intro w; go_simp; try with_reducible rfl)
          refine take_now (i := 23) (some 28) (v := ?_) rfl (by kernel_rfl) (by kernel_rfl) (by kernel_rfl) (fun _ _ _ h => h) (Or.inl ⟨by rfl, ?_⟩) rfl ?_
          rotate_left
          focus (intro w; go_simp; try with_reducible rfl)
          refine take_now (i := 24) (some 29) (v := ?_) rfl (by kernel_rfl) (by kernel_rfl) (by kernel_rfl) (fun _ _ _ h => h) (Or.inl ⟨by rfl, ?_⟩) rfl ?_
          rotate_left
          focus (intro w; go_simp; try with_reducible rfl)
          obtain ⟨p1, f1⟩ := P1.out
          refine wpAny_ready (rs := [25]) (by kernel_rfl) (by simp) (AllReady.cons rfl (fun K hK => ?_) AllReady.nil)
          go_simp
          refine hK _ _ ?_
          clear hK K p1 f1 P1
          refine wpAny_done (by kernel_rfl) ?_ _
          go_wp2_with fail
          refine bodyPost_end (results_none rfl _ _ _) rfl ?_
          exact ⟨rfl, Hf.out⟩
      · go_simp
        refine hK _ _ ?_
        clear hK K
        replace S := S.alloc2
        obtain ⟨N2, hN2⟩ : ∃ N2, N2 = V48.heap.size := ⟨_, rfl⟩
        rw [← hN2] at S ⊢
        clear hN2
        generalize V48.alloc (.cells #[.int .i64 z] 3) = V64 at *
        refine wpAny_ready (rs := [9, 14]) (by kernel_rfl) (by simp) (AllReady.cons rfl (fun K hK => ?_) (AllReady.cons rfl (fun K hK => ?_) AllReady.nil))
        · have cx := cell_of_row V64 N1 0 #[.int .i64 c] 3 (0, 0) (S.f1 N1 rfl).1
          refine step_push rfl (.tmp 12) (.tmp 14) rfl base (.slice A1 L1 c1) cs (by simp [Act.eval] <;> rfl) S.q1 c hc N1 (by simp [Act.eval] <;> rfl) (cx.trans rfl) hn1 S.bs ?_
          intro v' V65 hq hg ho
          replace S := S.push1 hq hg ho
          clear cx
          obtain ⟨A1', c1', hv', _, _⟩ := hq.shape
          obtain ⟨L1', hL'⟩ : ∃ L', (cs ++ [c]).length = L' := ⟨_, rfl⟩
          rw [hL'] at hv'
          subst hv'
          clear hL' hq hg ho
          refine hK _ _ ?_
          clear hK K
          refine wpAny_ready (rs := [14]) (by kernel_rfl) (by simp) (AllReady.cons rfl (fun K hK => ?_) AllReady.nil)
          have c0 := S.at'.cells.2.1
          go_simp
          refine hK _ _ ?_
          clear hK K c0
          refine wpAny_ready (rs := [17]) (by kernel_rfl) (by simp) (AllReady.cons rfl (fun K hK => ?_) AllReady.nil)
          have cx := cell_of_row V65 N2 0 #[.int .i64 z] 3 (0, 0) (S.f2 N2 rfl).1
          refine step_push rfl (.tmp 20) (.tmp 22) rfl base (.slice A2 L2 c2) ls (by simp [Act.eval] <;> rfl) S.q2 z hz N2 (by simp [Act.eval] <;> rfl) (cx.trans rfl) hn2 S.bs ?_
          intro v' V67 hq hg ho
          replace S := S.push2 hq hg ho
          clear cx
          obtain ⟨A2', c2', hv', _, _⟩ := hq.shape
          obtain ⟨L2', hL'⟩ : ∃ L', (ls ++ [z]).length = L' := ⟨_, rfl⟩
          rw [hL'] at hv'
          subst hv'
          clear hL' hq hg ho
          refine hK _ _ ?_
          clear hK K
          refine take_now (i := 18) (some 24) (v := ?_) rfl (by kernel_rfl) (by kernel_rfl) (by kernel_rfl) (fun _ _ _ h => h) (Or.inl ⟨by rfl, ?_⟩) rfl ?_
          rotate_left
          focus (intro w; go_simp; try with_reducible rfl)
          refine take_now (i := 19) (some 25) (v := ?_) rfl (by kernel_rfl) (by kernel_rfl) (by kernel_rfl) (fun _ _ _ h => h) (Or.inl ⟨by rfl, ?_⟩) rfl ?_
          rotate_left
          focus (intro w; go_simp; try with_reducible rfl)
          refine take_now (i := 20) (some 26) (v := ?_) rfl (by kernel_rfl) (by kernel_rfl) (by kernel_rfl) (fun _ _ _ h => h) (Or.inl ⟨by rfl, ?_⟩) rfl ?_
          rotate_left
          focus (intro w; go_simp; try with_reducible rfl)
          have Hf := Lib.hid (fin.out _ V67 V67 _ _ _ _ _ _ S)
          have p0 := S.at'.cells.1
          have f0 := S.at'.frozen 0
          have p1 := (S.at'.set0 (.slice A1' L1' c1')).cells.2.1
          have f1 := (S.at'.set0 (.slice A1' L1' c1')).frozen 1
          have P1 := Lib.hid (And.intro p1 f1)
          clear fin S p1 f1
          refine wpAny_ready (rs := [21]) (by kernel_rfl) (by simp) (AllReady.cons rfl (fun K hK => ?_) AllReady.nil)
          go_simp
          refine hK _ _ ?_
          clear hK K p0 f0
          refine take_now (i := 22) (some 27) (v := ?_) rfl (by kernel_rfl) (by kernel_rfl) (by kernel_rfl) (fun _ _ _ h => h) (Or.inl ⟨by rfl, ?_⟩) rfl ?_
          rotate_left
          focus (intro w; go_simp; try with_reducible rfl)
          refine take_now (i := 23) (some 28) (v := ?_) rfl (by kernel_rfl) (by kernel_rfl) (by kernel_rfl) (fun _ _ _ h => h) (Or.inl ⟨by rfl, ?_⟩) rfl ?_
          rotate_left
          focus (intro w; go_simp; try with_reducible rfl)
          refine take_now (i := 24) (some 29) (v := ?_) rfl (by kernel_rfl) (by kernel_rfl) (by kernel_rfl) (fun _ _ _ h => h) (Or.inl ⟨by rfl, ?_⟩) rfl ?_
          rotate_left
          focus (intro w; go_simp; try with_reducible rfl)
          obtain ⟨p1, f1⟩ := P1.out
          refine wpAny_ready (rs := [25]) (by kernel_rfl) (by simp) (AllReady.cons rfl (fun K hK => ?_) AllReady.nil)
          go_simp
          refine hK _ _ ?_
          clear hK K p1 f1 P1
          refine wpAny_done (by kernel_rfl) ?_ _
          go_wp2_with fail
          refine bodyPost_end (results_none rfl _ _ _) rfl ?_
          exact ⟨rfl, Hf.out⟩
        · have c0 := S.at'.cells.2.1
          go_simp
          refine hK _ _ ?_
          clear hK K c0
          refine wpAny_ready (rs := [9]) (by kernel_rfl) (by simp) (AllReady.cons rfl (fun K hK => ?_) AllReady.nil)
          have cx := cell_of_row V64 N1 0 #[.int .i64 c] 3 (0, 0) (S.f1 N1 rfl).1
          refine step_push rfl (.tmp 12) (.tmp 14) rfl base (.slice A1 L1 c1) cs (by simp [Act.eval] <;> rfl) S.q1 c hc N1 (by simp [Act.eval] <;> rfl) (cx.trans rfl) hn1 S.bs ?_
          intro v' V69 hq hg ho
          replace S := S.push1 hq hg ho
          clear cx
          obtain ⟨A1', c1', hv', _, _⟩ := hq.shape
          obtain ⟨L1', hL'⟩ : ∃ L', (cs ++ [c]).length = L' := ⟨_, rfl⟩
          rw [hL'] at hv'
          subst hv'
          clear hL' hq hg ho
          refine hK _ _ ?_
          clear hK K
          refine wpAny_ready (rs := [17]) (by kernel_rfl) (by simp) (AllReady.cons rfl (fun K hK => ?_) AllReady.nil)
          have cx := cell_of_row V69 N2 0 #[.int .i64 z] 3 (0, 0) (S.f2 N2 rfl).1
          refine step_push rfl (.tmp 20) (.tmp 22) rfl base (.slice A2 L2 c2) ls (by simp [Act.eval] <;> rfl) S.q2 z hz N2 (by simp [Act.eval] <;> rfl) (cx.trans rfl) hn2 S.bs ?_
          intro v' V70 hq hg ho
          replace S := S.push2 hq hg ho
          clear cx
          obtain ⟨A2', c2', hv', _, _⟩ := hq.shape
          obtain ⟨L2', hL'⟩ : ∃ L', (ls ++ [z]).length = L' := ⟨_, rfl⟩
          rw [hL'] at hv'
          subst hv'
          clear hL' hq hg ho
          refine hK _ _ ?_
          clear hK K
          refine take_now (i := 18) (some 24) (v := ?_) rfl (by kernel_rfl) (by kernel_rfl) (by kernel_rfl) (fun _ _ _ h => h) (Or.inl ⟨by rfl, ?_⟩) rfl ?_
          rotate_left
          focus (intro w; go_simp; try with_reducible rfl)
          refine take_now (i := 19) (some 25) (v := ?_) rfl (by kernel_rfl) (by kernel_rfl) (by kernel_rfl) (fun _ _ _ h => h) (Or.inl ⟨by rfl, ?_⟩) rfl ?_
          rotate_left
          focus (intro w; go_simp; try with_reducible rfl)
          refine take_now (i := 20) (some 26) (v := ?_) rfl (by kernel_rfl) (by kernel_rfl) (by kernel_rfl) (fun _ _ _ h => h) (Or.inl ⟨by rfl, ?_⟩) rfl ?_
          rotate_left
          focus (intro w; go_simp; try with_reducible rfl)
          have Hf := Lib.hid (fin.out _ V70 V70 _ _ _ _ _ _ S)
          have p0 := S.at'.cells.1
          have f0 := S.at'.frozen 0
          have p1 := (S.at'.set0 (.slice A1' L1' c1')).cells.2.1
          have f1 := (S.at'.set0 (.slice A1' L1' c1')).frozen 1
          have P1 := Lib.hid (And.intro p1 f1)
          clear fin S p1 f1
          refine wpAny_ready (rs := [21]) (by kernel_rfl) (by simp) (AllReady.cons rfl (fun K hK => ?_) AllReady.nil)
          go_simp
          refine hK _ _ ?_
          clear hK K p0 f0
          refine take_now (i := 22) (some 27) (v := ?_) rfl (by kernel_rfl) (by kernel_rfl) (by kernel_rfl) (fun _ _ _ h => h) (Or.inl ⟨by rfl, ?_⟩) rfl ?_
          rotate_left
          focus (intro w; go_simp; try with_reducible rfl)
          refine take_now (i := 23) (some 28) (v := ?_) rfl (by kernel_rfl) (by kernel_rfl) (by kernel_rfl) (fun _ _ _ h => h) (Or.inl ⟨by rfl, ?_⟩) rfl ?_
          rotate_left
          focus (intro w; go_simp; try with_reducible rfl)
          refine take_now (i := 24) (some 29) (v := ?_) rfl (by kernel_rfl) (by kernel_rfl) (by kernel_rfl) (fun _ _ _ h => h) (Or.inl ⟨by rfl, ?_⟩) rfl ?_
          rotate_left
          focus (intro w; go_simp; try with_reducible rfl)
          obtain ⟨p1, f1⟩ := P1.out
          refine wpAny_ready (rs := [25]) (by kernel_rfl) (by simp) (AllReady.cons rfl (fun K hK => ?_) AllReady.nil)
          go_simp
          refine hK _ _ ?_
          clear hK K p1 f1 P1
          refine wpAny_done (by kernel_rfl) ?_ _
          go_wp2_with fail
          refine bodyPost_end (results_none rfl _ _ _) rfl ?_
          exact ⟨rfl, Hf.out⟩
    · have c0 := S.at'.cells.2.1
      go_simp
      refine hK _ _ ?_
      clear hK K c0
      refine wpAny_ready (rs := [6, 16]) (by kernel_rfl) (by simp) (AllReady.cons rfl (fun K hK => ?_) (AllReady.cons rfl (fun K hK => ?_) AllReady.nil))
      · have c0 := S.at'.cells.1
        go_simp
        refine hK _ _ ?_
        clear hK K c0
        refine wpAny_ready (rs := [9, 16]) (by kernel_rfl) (by simp) (AllReady.cons rfl (fun K hK => ?_) (AllReady.cons rfl (fun K hK => ?_) AllReady.nil))
        · have cx := cell_of_row V48 N1 0 #[.int .i64 c] 3 (0, 0) (S.f1 N1 rfl).1
          refine step_push rfl (.tmp 12) (.tmp 14) rfl base (.slice A1 L1 c1) cs (by simp [Act.eval] <;> rfl) S.q1 c hc N1 (by simp [Act.eval] <;> rfl) (cx.trans rfl) hn1 S.bs ?_
          intro v' V73 hq hg ho
          replace S := S.push1 hq hg ho
          clear cx
          obtain ⟨A1', c1', hv', _, _⟩ := hq.shape
          obtain ⟨L1', hL'⟩ : ∃ L', (cs ++ [c]).length = L' := ⟨_, rfl⟩
          rw [hL'] at hv'
          subst hv'
          clear hL' hq hg ho
          refine hK _ _ ?_
          clear hK K
          refine wpAny_ready (rs := [16]) (by kernel_rfl) (by simp) (AllReady.cons rfl (fun K hK => ?_) AllReady.nil)
          go_simp
          refine hK _ _ ?_
          clear hK K
          replace S := S.alloc2
          obtain ⟨N2, hN2⟩ : ∃ N2, N2 = V73.heap.size := ⟨_, rfl⟩
          rw [← hN2] at S ⊢
          clear hN2
          generalize V73.alloc (.cells #[.int .i64 z] 3) = V74 at *
          refine wpAny_ready (rs := [17]) (by kernel_rfl) (by simp) (AllReady.cons rfl (fun K hK => ?_) AllReady.nil)
          have cx := cell_of_row V74 N2 0 #[.int .i64 z] 3 (0, 0) (S.f2 N2 rfl).1
          refine step_push rfl (.tmp 20) (.tmp 22) rfl base (.slice A2 L2 c2) ls (by simp [Act.eval] <;> rfl) S.q2 z hz N2 (by simp [Act.eval] <;> rfl) (cx.trans rfl) hn2 S.bs ?_
          intro v' V75 hq hg ho
          replace S := S.push2 hq hg ho
          clear cx
          obtain ⟨A2', c2', hv', _, _⟩ := hq.shape
          obtain ⟨L2', hL'⟩ : ∃ L', (ls ++ [z]).length = L' := ⟨_, rfl⟩
          rw [hL'] at hv'
          subst hv'
          clear hL' hq hg ho
          refine hK _ _ ?_
          clear hK K
          refine take_now (i := 18) (some 24) (v := ?_) rfl (by kernel_rfl) (by kernel_rfl) (by kernel_rfl) (fun _ _ _ h => h) (Or.inl ⟨by rfl, ?_⟩) rfl ?_
          rotate_left
          focus (intro w; go_simp; try with_reducible rfl)
          refine take_now (i := 19) (some 25) (v := ?_) rfl (by kernel_rfl) (by kernel_rfl) (by kernel_rfl) (fun _ _ _ h => h) (Or.inl ⟨by rfl, ?_⟩) rfl ?_
          rotate_left
          focus (intro w; go_simp; try with_reducible rfl)
          refine take_now (i := 20) (some 26) (v := ?_) rfl (by kernel_rfl) (by kernel_rfl) (by kernel_rfl) (fun _ _ _ h => h) (Or.inl ⟨by rfl, ?_⟩) rfl ?_
          rotate_left
          focus (intro w; go_simp; try with_reducible rfl)
          have Hf := Lib.hid (fin.out _ V75 V75 _ _ _ _ _ _ S)
          have p0 := S.at'.cells.1
          have f0 := S.at'.frozen 0
          have p1 := (S.at'.set0 (.slice A1' L1' c1')).cells.2.1
          have f1 := (S.at'.set0 (.slice A1' L1' c1')).frozen 1
          have P1 := Lib.hid (And.intro p1 f1)
          clear fin S p1 f1
          refine wpAny_ready (rs := [21]) (by kernel_rfl) (by simp) (AllReady.cons rfl (fun K hK => ?_) AllReady.nil)
          go_simp
          refine hK _ _ ?_
          clear hK K p0 f0
          refine take_now (i := 22) (some 27) (v := ?_) rfl (by kernel_rfl) (by kernel_rfl) (by kernel_rfl) (fun _ _ _ h => h) (Or.inl ⟨by rfl, ?_⟩) rfl ?_
          rotate_left
          focus (intro w; go_simp; try with_reducible rfl)
          refine take_now (i := 23) (some 28) (v := ?_) rfl (by kernel_rfl) (by kernel_rfl) (by kernel_rfl) (fun _ _ _ h => h) (Or.inl ⟨by rfl, ?_⟩) rfl ?_
          rotate_left
          focus (intro w; go_simp; try with_reducible rfl)
          refine take_now (i := 24) (some 29) (v := ?_) rfl (by kernel_rfl) (by kernel_rfl) (by kernel_rfl) (fun _ _ _ h => h) (Or.inl ⟨by rfl, ?_⟩) rfl ?_
          rotate_left
          focus (intro w; go_simp; try with_reducible rfl)
          obtain ⟨p1, f1⟩ := P1.out
          refine wpAny_ready (rs := [25]) (by kernel_rfl) (by simp) (AllReady.cons rfl (fun K hK => ?_) AllReady.nil)
          go_simp
          refine hK _ _ ?_
          clear hK K p1 f1 P1
          refine wpAny_done (by kernel_rfl) ?_ _
          go_wp2_with fail
          refine bodyPost_end (results_none rfl _ _ _) rfl ?_
          exact ⟨rfl, Hf.out⟩
        · go_simp
          refine hK _ _ ?_
          clear hK K
          replace S := S.alloc2
          obtain ⟨N2, hN2⟩ : ∃ N2, N2 = V48.heap.size := ⟨_, rfl⟩
          rw [← hN2] at S ⊢
          clear hN2
          generalize V48.alloc (.cells #[.int .i64 z] 3) = V76 at *
          refine wpAny_ready (rs := [9]) (by kernel_rfl) (by simp) (AllReady.cons rfl (fun K hK => ?_) AllReady.nil)
          have cx := cell_of_row V76 N1 0 #[.int .i64 c] 3 (0, 0) (S.f1 N1 rfl).1
          refine step_push rfl (.tmp 12) (.tmp 14) rfl base (.slice A1 L1 c1) cs (by simp [Act.eval] <;> rfl) S.q1 c hc N1 (by simp [Act.eval] <;> rfl) (cx.trans rfl) hn1 S.bs ?_
          intro v' V77 hq hg ho
          replace S := S.push1 hq hg ho
          clear cx
          obtain ⟨A1', c1', hv', _, _⟩ := hq.shape
          obtain ⟨L1', hL'⟩ : ∃ L', (cs ++ [c]).length = L' := ⟨_, rfl⟩
          rw [hL'] at hv'
          subst hv'
          clear hL' hq hg ho
          refine hK _ _ ?_
          clear hK K
          refine wpAny_ready (rs := [17]) (by kernel_rfl) (by simp) (AllReady.cons rfl (fun K hK => ?_) AllReady.nil)
          have cx := cell_of_row V77 N2 0 #[.int .i64 z] 3 (0, 0) (S.f2 N2 rfl).1
          refine step_push rfl (.tmp 20) (.tmp 22) rfl base (.slice A2 L2 c2) ls (by simp [Act.eval] <;> rfl) S.q2 z hz N2 (by simp [Act.eval] <;> rfl) (cx.trans rfl) hn2 S.bs ?_
          intro v' V78 hq hg ho
          replace S := S.push2 hq hg ho
          clear cx
          obtain ⟨A2', c2', hv', _, _⟩ := hq.shape
          obtain ⟨L2', hL'⟩ : ∃ L', (ls ++ [z]).length = L' := ⟨_, rfl⟩
          rw [hL'] at hv'
          subst hv'
          clear hL' hq hg ho
          refine hK _ _ ?_
          clear hK K
          refine take_now (i := 18) (some 24) (v := ?_) rfl (by kernel_rfl) (by kernel_rfl) (by kernel_rfl) (fun _ _ _ h => h) (Or.inl ⟨by rfl, ?_⟩) rfl ?_
          rotate_left
          focus (intro w; go_simp; try with_reducible rfl)
          refine take_now (i := 19) (some 25) (v := ?_) rfl (by kernel_rfl) (by kernel_rfl) (by kernel_rfl) (fun _ _ _ h => h) (Or.inl ⟨by rfl, ?_⟩) rfl ?_
          rotate_left
          focus (intro w; go_simp; try with_reducible rfl)
          refine take_now (i := 20) (some 26) (v := ?_) rfl (by kernel_rfl) (by kernel_rfl) (by kernel_rfl) (fun _ _ _ h => h) (Or.inl ⟨by rfl, ?_⟩) rfl ?_
          rotate_left
          focus (intro w; go_simp; try with_reducible rfl)
          have Hf := Lib.hid (fin.out _ V78 V78 _ _ _ _ _ _ S)
          have p0 := S.at'.cells.1
          have f0 := S.at'.frozen 0
          have p1 := (S.at'.set0 (.slice A1' L1' c1')).cells.2.1
          have f1 := (S.at'.set0 (.slice A1' L1' c1')).frozen 1
          have P1 := Lib.hid (And.intro p1 f1)
          clear fin S p1 f1
          refine wpAny_ready (rs := [21]) (by kernel_rfl) (by simp) (AllReady.cons rfl (fun K hK => ?_) AllReady.nil)
          go_simp
          refine hK _ _ ?_
          clear hK K p0 f0
          refine take_now (i := 22) (some 27) (v := ?_) rfl (by kernel_rfl) (by kernel_rfl) (by kernel_rfl) (fun _ _ _ h => h) (Or.inl ⟨by rfl, ?_⟩) rfl ?_
          rotate_left
          focus (intro w; go_simp; try with_reducible rfl)
          refine take_now (i := 23) (some 28) (v := ?_) rfl (by kernel_rfl) (by kernel_rfl) (by kernel_rfl) (fun _ _ _ h => h) (Or.inl ⟨by rfl, ?_⟩) rfl ?_
          rotate_left
          focus (intro w; go_simp; try with_reducible rfl)
          refine take_now (i := 24) (some 29) (v := ?_) rfl (by kernel_rfl) (by kernel_rfl) (by kernel_rfl) (fun _ _ _ h => h) (Or.inl ⟨by rfl, ?_⟩) rfl ?_
          rotate_left
          focus (intro w; go_simp; try with_reducible rfl)
          obtain ⟨p1, f1⟩ := P1.out
          refine wpAny_ready (rs := [25]) (by kernel_rfl) (by simp) (AllReady.cons rfl (fun K hK => ?_) AllReady.nil)
          go_simp
          refine hK _ _ ?_
          clear hK K p1 f1 P1
          refine wpAny_done (by kernel_rfl) ?_ _
          go_wp2_with fail
          refine bodyPost_end (results_none rfl _ _ _) rfl ?_
          exact ⟨rfl, Hf.out⟩
      · go_simp
        refine hK _ _ ?_
        clear hK K
        replace S := S.alloc2
        obtain ⟨N2, hN2⟩ : ∃ N2, N2 = V48.heap.size := ⟨_, rfl⟩
        rw [← hN2] at S ⊢
        clear hN2
        generalize V48.alloc (.cells #[.int .i64 z] 3) = V79 at *
        refine wpAny_ready (rs := [6]) (by kernel_rfl) (by simp) (AllReady.cons rfl (fun K hK => ?_) AllReady.nil)
        have c0 := S.at'.cells.1
        go_simp
        refine hK _ _ ?_
        clear hK K c0
        refine wpAny_ready (rs := [9]) (by kernel_rfl) (by simp) (AllReady.cons rfl (fun K hK => ?_) AllReady.nil)
        have cx := cell_of_row V79 N1 0 #[.int .i64 c] 3 (0, 0) (S.f1 N1 rfl).1
        refine step_push rfl (.tmp 12) (.tmp 14) rfl base (.slice A1 L1 c1) cs (by simp [Act.eval] <;> rfl) S.q1 c hc N1 (by simp [Act.eval] <;> rfl) (cx.trans rfl) hn1 S.bs ?_
        intro v' V81 hq hg ho
        replace S := S.push1 hq hg ho
        clear cx
        obtain ⟨A1', c1', hv', _, _⟩ := hq.shape
        obtain ⟨L1', hL'⟩ : ∃ L', (cs ++ [c]).length = L' := ⟨_, rfl⟩
        rw [hL'] at hv'
        subst hv'
        clear hL' hq hg ho
        refine hK _ _ ?_
        clear hK K
        refine wpAny_ready (rs := [17]) (by kernel_rfl) (by simp) (AllReady.cons rfl (fun K hK => ?_) AllReady.nil)
        have cx := cell_of_row V81 N2 0 #[.int .i64 z] 3 (0, 0) (S.f2 N2 rfl).1
        refine step_push rfl (.tmp 20) (.tmp 22) rfl base (.slice A2 L2 c2) ls (by simp [Act.eval] <;> rfl) S.q2 z hz N2 (by simp [Act.eval] <;> rfl) (cx.trans rfl) hn2 S.bs ?_
        intro v' V82 hq hg ho
        replace S := S.push2 hq hg ho
        clear cx
        obtain ⟨A2', c2', hv', _, _⟩ := hq.shape
        obtain ⟨L2', hL'⟩ : ∃ L', (ls ++ [z]).length = L' := ⟨_, rfl⟩
        rw [hL'] at hv'
        subst hv'
        clear hL' hq hg ho
        refine hK _ _ ?_
        clear hK K
        refine take_now (i := 18) (some 24) (v := ?_) rfl (by kernel_rfl) (by kernel_rfl) (by kernel_rfl) (fun _ _ _ h => h) (Or.inl ⟨by rfl, ?_⟩) rfl ?_
        rotate_left
        focus (intro w; go_simp; try with_reducible rfl)
        refine take_now (i := 19) (some 25) (v := ?_) rfl (by kernel_rfl) (by kernel_rfl) (by kernel_rfl) (fun _ _ _ h => h) (Or.inl ⟨by rfl, ?_⟩) rfl ?_
        rotate_left
        focus (intro w; go_simp; try with_reducible rfl)
        refine take_now (i := 20) (some 26) (v := ?_) rfl (by kernel_rfl) (by kernel_rfl) (by kernel_rfl) (fun _ _ _ h => h) (Or.inl ⟨by rfl, ?_⟩) rfl ?_
        rotate_left
        focus (intro w; go_simp; try with_reducible rfl)
        have Hf := Lib.hid (fin.out _ V82 V82 _ _ _ _ _ _ S)
        have p0 := S.at'.cells.1
        have f0 := S.at'.frozen 0
        have p1 := (S.at'.set0 (.slice A1' L1' c1')).cells.2.1
        have f1 := (S.at'.set0 (.slice A1' L1' c1')).frozen 1
        have P1 := Lib.hid (And.intro p1 f1)
        clear fin S p1 f1
        refine wpAny_ready (rs := [21]) (by kernel_rfl) (by simp) (AllReady.cons rfl (fun K hK => ?_) AllReady.nil)
        go_simp
        refine hK _ _ ?_
        clear hK K p0 f0
        refine take_now (i := 22) (some 27) (v := ?_) rfl (by kernel_rfl) (by kernel_rfl) (by kernel_rfl) (fun _ _ _ h => h) (Or.inl ⟨by rfl, ?_⟩) rfl ?_
        rotate_left
        focus (intro w; go_simp; try with_reducible rfl)
        refine take_now (i := 23) (some 28) (v := ?_) rfl (by kernel_rfl) (by kernel_rfl) (by kernel_rfl) (fun _ _ _ h => h) (Or.inl ⟨by rfl, ?_⟩) rfl ?_
        rotate_left
        focus (intro w; go_simp; try with_reducible rfl)
        refine take_now (i := 24) (some 29) (v := ?_) rfl (by kernel_rfl) (by kernel_rfl) (by kernel_rfl) (fun _ _ _ h => h) (Or.inl ⟨by rfl, ?_⟩) rfl ?_
        rotate_left
        focus (intro w; go_simp; try with_reducible rfl)
        obtain ⟨p1, f1⟩ := P1.out
        refine wpAny_ready (rs := [25]) (by kernel_rfl) (by simp) (AllReady.cons rfl (fun K hK => ?_) AllReady.nil)
        go_simp
        refine hK _ _ ?_
        clear hK K p1 f1 P1
        refine wpAny_done (by kernel_rfl) ?_ _
        go_wp2_with fail
        refine bodyPost_end (results_none rfl _ _ _) rfl ?_
        exact ⟨rfl, Hf.out⟩
    · go_simp
      refine hK _ _ ?_
      clear hK K
      replace S := S.alloc2
      obtain ⟨N2, hN2⟩ : ∃ N2, N2 = V48.heap.size := ⟨_, rfl⟩
      rw [← hN2] at S ⊢
      clear hN2
      generalize V48.alloc (.cells #[.int .i64 z] 3) = V83 at *
      refine wpAny_ready (rs := [6, 14]) (by kernel_rfl) (by simp) (AllReady.cons rfl (fun K hK => ?_) (AllReady.cons rfl (fun K hK => ?_) AllReady.nil))
      · have c0 := S.at'.cells.1
        go_simp
        refine hK _ _ ?_
        clear hK K c0
        refine wpAny_ready (rs := [9, 14]) (by kernel_rfl) (by simp) (AllReady.cons rfl (fun K hK => ?_) (AllReady.cons rfl (fun K hK => ?_) AllReady.nil))
        · have cx := cell_of_row V83 N1 0 #[.int .i64 c] 3 (0, 0) (S.f1 N1 rfl).1
          refine step_push rfl (.tmp 12) (.tmp 14) rfl base (.slice A1 L1 c1) cs (by simp [Act.eval] <;> rfl) S.q1 c hc N1 (by simp [Act.eval] <;> rfl) (cx.trans rfl) hn1 S.bs ?_
          intro v' V85 hq hg ho
          replace S := S.push1 hq hg ho
          clear cx
          obtain ⟨A1', c1', hv', _, _⟩ := hq.shape
          obtain ⟨L1', hL'⟩ : ∃ L', (cs ++ [c]).length = L' := ⟨_, rfl⟩
          rw [hL'] at hv'
          subst hv'
          clear hL' hq hg ho
          refine hK _ _ ?_
          clear hK K
          refine wpAny_ready (rs := [14]) (by kernel_rfl) (by simp) (AllReady.cons rfl (fun K hK => ?_) AllReady.nil)
          have c0 := S.at'.cells.2.1
          go_simp
          refine hK _ _ ?_
          clear hK K c0
          refine wpAny_ready (rs := [17]) (by kernel_rfl) (by simp) (AllReady.cons rfl (fun K hK => ?_) AllReady.nil)
          have cx := cell_of_row V85 N2 0 #[.int .i64 z] 3 (0, 0) (S.f2 N2 rfl).1
          refine step_push rfl (.tmp 20) (.tmp 22) rfl base (.slice A2 L2 c2) ls (by simp [Act.eval] <;> rfl) S.q2 z hz N2 (by simp [Act.eval] <;> rfl) (cx.trans rfl) hn2 S.bs ?_
          intro v' V87 hq hg ho
          replace S := S.push2 hq hg ho
          clear cx
          obtain ⟨A2', c2', hv', _, _⟩ := hq.shape
          obtain ⟨L2', hL'⟩ : ∃ L', (ls ++ [z]).length = L' := ⟨_, rfl⟩
          rw [hL'] at hv'
          subst hv'
          clear hL' hq hg ho
          refine hK _ _ ?_
          clear hK K
          refine take_now (i := 18) (some 24) (v := ?_) rfl (by kernel_rfl) (by kernel_rfl) (by kernel_rfl) (fun _ _ _ h => h) (Or.inl ⟨by rfl, ?_⟩) rfl ?_
          rotate_left
          focus (intro w; go_simp; try with_reducible rfl)
          refine take_now (i := 19) (some 25) (v := ?_) rfl (by kernel_rfl) (by kernel_rfl) (by kernel_rfl) (fun _ _ _ h => h) (Or.inl ⟨by rfl, ?_⟩) rfl ?_
          rotate_left
          focus (intro w; go_simp; try with_reducible rfl)
          refine take_now (i := 20) (some 26) (v := ?_) rfl (by kernel_rfl) (by kernel_rfl) (by kernel_rfl) (fun _ _ _ h => h) (Or.inl ⟨by rfl, ?_⟩) rfl ?_
          rotate_left
          focus (intro w; go_simp; try with_reducible rfl)
          have Hf := Lib.hid (fin.out _ V87 V87 _ _ _ _ _ _ S)
          have p0 := S.at'.cells.1
          have f0 := S.at'.frozen 0
          have p1 := (S.at'.set0 (.slice A1' L1' c1')).cells.2.1
          have f1 := (S.at'.set0 (.slice A1' L1' c1')).frozen 1
          have P1 := Lib.hid (And.intro p1 f1)
          clear fin S p1 f1
          refine wpAny_ready (rs := [21]) (by kernel_rfl) (by simp) (AllReady.cons rfl (fun K hK => ?_) AllReady.nil)
          go_simp
          refine hK _ _ ?_
          clear hK K p0 f0
          refine take_now (i := 22) (some 27) (v := ?_) rfl (by kernel_rfl) (by kernel_rfl) (by kernel_rfl) (fun _ _ _ h => h) (Or.inl ⟨by rfl, ?_⟩) rfl ?_
          rotate_left
          focus (intro w; go_simp; try with_reducible rfl)
          refine take_now (i := 23) (some 28) (v := ?_) rfl (by kernel_rfl) (by kernel_rfl) (by kernel_rfl) (fun _ _ _ h => h) (Or.inl ⟨by rfl, ?_⟩) rfl ?_
          rotate_left
          focus (intro w; go_simp; try with_reducible rfl)
          refine take_now (i := 24) (some 29) (v := ?_) rfl (by kernel_rfl) (by kernel_rfl) (by kernel_rfl) (fun _ _ _ h => h) (Or.inl ⟨by rfl, ?_⟩) rfl ?_
          rotate_left
          focus (intro w; go_simp; try with_reducible rfl)
          obtain ⟨p1, f1⟩ := P1.out
          refine wpAny_ready (rs := [25]) (by kernel_rfl) (by simp) (AllReady.cons rfl (fun K hK => ?_) AllReady.nil)
          go_simp
          refine hK _ _ ?_
          clear hK K p1 f1 P1
          refine wpAny_done (by kernel_rfl) ?_ _
          go_wp2_with fail
          refine bodyPost_end (results_none rfl _ _ _) rfl ?_
          exact ⟨rfl, Hf.out⟩
        · have c0 := S.at'.cells.2.1
          go_simp
          refine hK _ _ ?_
          clear hK K c0
          refine wpAny_ready (rs := [9]) (by kernel_rfl) (by simp) (AllReady.cons rfl (fun K hK => ?_) AllReady.nil)
          have cx := cell_of_row V83 N1 0 #[.int .i64 c] 3 (0, 0) (S.f1 N1 rfl).1
          refine step_push rfl (.tmp 12) (.tmp 14) rfl base (.slice A1 L1 c1) cs (by simp [Act.eval] <;> rfl) S.q1 c hc N1 (by simp [Act.eval] <;> rfl) (cx.trans rfl) hn1 S.bs ?_
          intro v' V89 hq hg ho
          replace S := S.push1 hq hg ho
          clear cx
          obtain ⟨A1', c1', hv', _, _⟩ := hq.shape
          obtain ⟨L1', hL'⟩ : ∃ L', (cs ++ [c]).length = L' := ⟨_, rfl⟩
          rw [hL'] at hv'
          subst hv'
          clear hL' hq hg ho
          refine hK _ _ ?_
          clear hK K
          refine wpAny_ready (rs := [17]) (by kernel_rfl) (by simp) (AllReady.cons rfl (fun K hK => ?_) AllReady.nil)
          have cx := cell_of_row V89 N2 0 #[.int .i64 z] 3 (0, 0) (S.f2 N2 rfl).1
          refine step_push rfl (.tmp 20) (.tmp 22) rfl base (.slice A2 L2 c2) ls (by simp [Act.eval] <;> rfl) S.q2 z hz N2 (by simp [Act.eval] <;> rfl) (cx.trans rfl) hn2 S.bs ?_
          intro v' V90 hq hg ho
          replace S := S.push2 hq hg ho
          clear cx
          obtain ⟨A2', c2', hv', _, _⟩ := hq.shape
          obtain ⟨L2', hL'⟩ : ∃ L', (ls ++ [z]).length = L' := ⟨_, rfl⟩
          rw [hL'] at hv'
          subst hv'
          clear hL' hq hg ho
          refine hK _ _ ?_
          clear hK K
          refine take_now (i := 18) (some 24) (v := ?_) rfl (by kernel_rfl) (by kernel_rfl) (by kernel_rfl) (fun _ _ _ h => h) (Or.inl ⟨by rfl, ?_⟩) rfl ?_
          rotate_left
          focus (intro w; go_simp; try with_reducible rfl)
          refine take_now (i := 19) (some 25) (v := ?_) rfl (by kernel_rfl) (by kernel_rfl) (by kernel_rfl) (fun _ _ _ h => h) (Or.inl ⟨by rfl, ?_⟩) rfl ?_
          rotate_left
          focus (intro w; go_simp; try with_reducible rfl)
          refine take_now (i := 20) (some 26) (v := ?_) rfl (by kernel_rfl) (by kernel_rfl) (by kernel_rfl) (fun _ _ _ h => h) (Or.inl ⟨by rfl, ?_⟩) rfl ?_
          rotate_left
          focus (intro w; go_simp; try with_reducible rfl)
          have Hf := Lib.hid (fin.out _ V90 V90 _ _ _ _ _ _ S)
          have p0 := S.at'.cells.1
          have f0 := S.at'.frozen 0
          have p1 := (S.at'.set0 (.slice A1' L1' c1')).cells.2.1
          have f1 := (S.at'.set0 (.slice A1' L1' c1')).frozen 1
          have P1 := Lib.hid (And.intro p1 f1)
          clear fin S p1 f1
          refine wpAny_ready (rs := [21]) (by kernel_rfl) (by simp) (AllReady.cons rfl (fun K hK => ?_) AllReady.nil)
          go_simp
          refine hK _ _ ?_
          clear hK K p0 f0
          refine take_now (i := 22) (some 27) (v := ?_) rfl (by kernel_rfl) (by kernel_rfl) (by kernel_rfl) (fun _ _ _ h => h) (Or.inl ⟨by rfl, ?_⟩) rfl ?_
          rotate_left
          focus (intro w; go_simp; try with_reducible rfl)
          refine take_now (i := 23) (some 28) (v := ?_) rfl (by kernel_rfl) (by kernel_rfl) (by kernel_rfl) (fun _ _ _ h => h) (Or.inl ⟨by rfl, ?_⟩) rfl ?_
          rotate_left
          focus (intro w; go_simp; try with_reducible rfl)
          refine take_now (i := 24) (some 29) (v := ?_) rfl (by kernel_rfl) (by kernel_rfl) (by kernel_rfl) (fun _ _ _ h => h) (Or.inl ⟨by rfl, ?_⟩) rfl ?_
          rotate_left
          focus (intro w; go_simp; try with_reducible rfl)
          obtain ⟨p1, f1⟩ := P1.out
          refine wpAny_ready (rs := [25]) (by kernel_rfl) (by simp) (AllReady.cons rfl (fun K hK => ?_) AllReady.nil)
          go_simp
          refine hK _ _ ?_
          clear hK K p1 f1 P1
          refine wpAny_done (by kernel_rfl) ?_ _
          go_wp2_with fail
          refine bodyPost_end (results_none rfl _ _ _) rfl ?_
          exact ⟨rfl, Hf.out⟩
      · have c0 := S.at'.cells.2.1
        go_simp
        refine hK _ _ ?_
        clear hK K c0
        refine wpAny_ready (rs := [6]) (by kernel_rfl) (by simp) (AllReady.cons rfl (fun K hK => ?_) AllReady.nil)
        have c0 := S.at'.cells.1
        go_simp
        refine hK _ _ ?_
        clear hK K c0
        refine wpAny_ready (rs := [9]) (by kernel_rfl) (by simp) (AllReady.cons rfl (fun K hK => ?_) AllReady.nil)
        have cx := cell_of_row V83 N1 0 #[.int .i64 c] 3 (0, 0) (S.f1 N1 rfl).1
        refine step_push rfl (.tmp 12) (.tmp 14) rfl base (.slice A1 L1 c1) cs (by simp [Act.eval] <;> rfl) S.q1 c hc N1 (by simp [Act.eval] <;> rfl) (cx.trans rfl) hn1 S.bs ?_
        intro v' V93 hq hg ho
        replace S := S.push1 hq hg ho
        clear cx
        obtain ⟨A1', c1', hv', _, _⟩ := hq.shape
        obtain ⟨L1', hL'⟩ : ∃ L', (cs ++ [c]).length = L' := ⟨_, rfl⟩
        rw [hL'] at hv'
        subst hv'
        clear hL' hq hg ho
        refine hK _ _ ?_
        clear hK K
        refine wpAny_ready (rs := [17]) (by kernel_rfl) (by simp) (AllReady.cons rfl (fun K hK => ?_) AllReady.nil)
        have cx := cell_of_row V93 N2 0 #[.int .i64 z] 3 (0, 0) (S.f2 N2 rfl).1
        refine step_push rfl (.tmp 20) (.tmp 22) rfl base (.slice A2 L2 c2) ls (by simp [Act.eval] <;> rfl) S.q2 z hz N2 (by simp [Act.eval] <;> rfl) (cx.trans rfl) hn2 S.bs ?_
        intro v' V94 hq hg ho
        replace S := S.push2 hq hg ho
        clear cx
        obtain ⟨A2', c2', hv', _, _⟩ := hq.shape
        obtain ⟨L2', hL'⟩ : ∃ L', (ls ++ [z]).length = L' := ⟨_, rfl⟩
        rw [hL'] at hv'
        subst hv'
        clear hL' hq hg ho
        refine hK _ _ ?_
        clear hK K
        refine take_now (i := 18) (some 24) (v := ?_) rfl (by kernel_rfl) (by kernel_rfl) (by kernel_rfl) (fun _ _ _ h => h) (Or.inl ⟨by rfl, ?_⟩) rfl ?_
        rotate_left
        focus (intro w; go_simp; try with_reducible rfl)
        refine take_now (i := 19) (some 25) (v := ?_) rfl (by kernel_rfl) (by kernel_rfl) (by kernel_rfl) (fun _ _ _ h => h) (Or.inl ⟨by rfl, ?_⟩) rfl ?_
        rotate_left
        focus (intro w; go_simp; try with_reducible rfl)
        refine take_now (i := 20) (some 26) (v := ?_) rfl (by kernel_rfl) (by kernel_rfl) (by kernel_rfl) (fun _ _ _ h => h) (Or.inl ⟨by rfl, ?_⟩) rfl ?_
        rotate_left
        focus (intro w; go_simp; try with_reducible rfl)
        have Hf := Lib.hid (fin.out _ V94 V94 _ _ _ _ _ _ S)
        have p0 := S.at'.cells.1
        have f0 := S.at'.frozen 0
        have p1 := (S.at'.set0 (.slice A1' L1' c1')).cells.2.1
        have f1 := (S.at'.set0 (.slice A1' L1' c1')).frozen 1
        have P1 := Lib.hid (And.intro p1 f1)
        clear fin S p1 f1
        refine wpAny_ready (rs := [21]) (by kernel_rfl) (by simp) (AllReady.cons rfl (fun K hK => ?_) AllReady.nil)
        go_simp
        refine hK _ _ ?_
        clear hK K p0 f0
        refine take_now (i := 22) (some 27) (v := ?_) rfl (by kernel_rfl) (by kernel_rfl) (by kernel_rfl) (fun _ _ _ h => h) (Or.inl ⟨by rfl, ?_⟩) rfl ?_
        rotate_left
        focus (intro w; go_simp; try with_reducible rfl)
        refine take_now (i := 23) (some 28) (v := ?_) rfl (by kernel_rfl) (by kernel_rfl) (by kernel_rfl) (fun _ _ _ h => h) (Or.inl ⟨by rfl, ?_⟩) rfl ?_
        rotate_left
        focus (intro w; go_simp; try with_reducible rfl)
        refine take_now (i := 24) (some 29) (v := ?_) rfl (by kernel_rfl) (by kernel_rfl) (by kernel_rfl) (fun _ _ _ h => h) (Or.inl ⟨by rfl, ?_⟩) rfl ?_
        rotate_left
        focus (intro w; go_simp; try with_reducible rfl)
        obtain ⟨p1, f1⟩ := P1.out
        refine wpAny_ready (rs := [25]) (by kernel_rfl) (by simp) (AllReady.cons rfl (fun K hK => ?_) AllReady.nil)
        go_simp
        refine hK _ _ ?_
        clear hK K p1 f1 P1
        refine wpAny_done (by kernel_rfl) ?_ _
        go_wp2_with fail
        refine bodyPost_end (results_none rfl _ _ _) rfl ?_
        exact ⟨rfl, Hf.out⟩
  · have c0 := S.at'.cells.2.1
    go_simp
    refine hK _ _ ?_
    clear hK K c0
    refine wpAny_ready (rs := [6, 8, 16]) (by kernel_rfl) (by simp) (AllReady.cons rfl (fun K hK => ?_) (AllReady.cons rfl (fun K hK => ?_) (AllReady.cons rfl (fun K hK => ?_) AllReady.nil)))
    · have c0 := S.at'.cells.1
      go_simp
      refine hK _ _ ?_
      clear hK K c0
      refine wpAny_ready (rs := [8, 16]) (by kernel_rfl) (by simp) (AllReady.cons rfl (fun K hK => ?_) (AllReady.cons rfl (fun K hK => ?_) AllReady.nil))
      · go_simp
        refine hK _ _ ?_
        clear hK K
        replace S := S.alloc1
        obtain ⟨N1, hN1⟩ : ∃ N1, N1 = W0.heap.size := ⟨_, rfl⟩
        rw [← hN1] at S ⊢
        clear hN1
        generalize W0.alloc (.cells #[.int .i64 c] 3) = V97 at *
        refine wpAny_ready (rs := [9, 16]) (by kernel_rfl) (by simp) (AllReady.cons rfl (fun K hK => ?_) (AllReady.cons rfl (fun K hK => ?_) AllReady.nil))
        · have cx := cell_of_row V97 N1 0 #[.int .i64 c] 3 (0, 0) (S.f1 N1 rfl).1
          refine step_push rfl (.tmp 12) (.tmp 14) rfl base (.slice A1 L1 c1) cs (by simp [Act.eval] <;> rfl) S.q1 c hc N1 (by simp [Act.eval] <;> rfl) (cx.trans rfl) hn1 S.bs ?_
          intro v' V98 hq hg ho
          replace S := S.push1 hq hg ho
          clear cx
          obtain ⟨A1', c1', hv', _, _⟩ := hq.shape
          obtain ⟨L1', hL'⟩ : ∃ L', (cs ++ [c]).length = L' := ⟨_, rfl⟩
          rw [hL'] at hv'
          subst hv'
          clear hL' hq hg ho
          refine hK _ _ ?_
          clear hK K
          refine wpAny_ready (rs := [16]) (by kernel_rfl) (by simp) (AllReady.cons rfl (fun K hK => ?_) AllReady.nil)
          go_simp
          refine hK _ _ ?_
          clear hK K
          replace S := S.alloc2
          obtain ⟨N2, hN2⟩ : ∃ N2, N2 = V98.heap.size := ⟨_, rfl⟩
          rw [← hN2] at S ⊢
          clear hN2
          generalize V98.alloc (.cells #[.int .i64 z] 3) = V99 at *
          refine wpAny_ready (rs := [17]) (by kernel_rfl) (by simp) (AllReady.cons rfl (fun K hK => ?_) AllReady.nil)
          have cx := cell_of_row V99 N2 0 #[.int .i64 z] 3 (0, 0) (S.f2 N2 rfl).1
          refine step_push rfl (.tmp 20) (.tmp 22) rfl base (.slice A2 L2 c2) ls (by simp [Act.eval] <;> rfl) S.q2 z hz N2 (by simp [Act.eval] <;> rfl) (cx.trans rfl) hn2 S.bs ?_
          intro v' V100 hq hg ho
          replace S := S.push2 hq hg ho
          clear cx
          obtain ⟨A2', c2', hv', _, _⟩ := hq.shape
          obtain ⟨L2', hL'⟩ : ∃ L', (ls ++ [z]).length = L' := ⟨_, rfl⟩
          rw [hL'] at hv'
          subst hv'
          clear hL' hq hg ho
          refine hK _ _ ?_
          clear hK K
          refine take_now (i := 18) (some 24) (v := ?_) rfl (by kernel_rfl) (by kernel_rfl) (by kernel_rfl) (fun _ _ _ h => h) (Or.inl ⟨by rfl, ?_⟩) rfl ?_
          rotate_left
          focus (intro w; go_simp; try with_reducible rfl)
          refine take_now (i := 19) (some 25) (v := ?_) rfl (by kernel_rfl) (by kernel_rfl) (by kernel_rfl) (fun _ _ _ h => h) (Or.inl ⟨by rfl, ?_⟩) rfl ?_
          rotate_left
          focus (intro w; go_simp; try with_reducible rfl)
          refine take_now (i := 20) (some 26) (v := ?_) rfl (by kernel_rfl) (by kernel_rfl) (by kernel_rfl) (fun _ _ _ h => h) (Or.inl ⟨by rfl, ?_⟩) rfl ?_
          rotate_left
          focus (intro w; go_simp; try with_reducible rfl)
          have Hf := Lib.hid (fin.out _ V100 V100 _ _ _ _ _ _ S)
          have p0 := S.at'.cells.1
          have f0 := S.at'.frozen 0
          have p1 := (S.at'.set0 (.slice A1' L1' c1')).cells.2.1
          have f1 := (S.at'.set0 (.slice A1' L1' c1')).frozen 1
          have P1 := Lib.hid (And.intro p1 f1)
          clear fin S p1 f1
          refine wpAny_ready (rs := [21]) (by kernel_rfl) (by simp) (AllReady.cons rfl (fun K hK => ?_) AllReady.nil)
          go_simp
          refine hK _ _ ?_
          clear hK K p0 f0
          refine take_now (i := 22) (some 27) (v := ?_) rfl (by kernel_rfl) (by kernel_rfl) (by kernel_rfl) (fun _ _ _ h => h) (Or.inl ⟨by rfl, ?_⟩) rfl ?_
          rotate_left
          focus (intro w; go_simp; try with_reducible rfl)
          refine take_now (i := 23) (some 28) (v := ?_) rfl (by kernel_rfl) (by kernel_rfl) (by kernel_rfl) (fun _ _ _ h => h) (Or.inl ⟨by rfl, ?_⟩) rfl ?_
          rotate_left
          focus (intro w; go_simp; try with_reducible rfl)
          refine take_now (i := 24) (some 29) (v := ?_) rfl (by kernel_rfl) (by kernel_rfl) (by kernel_rfl) (fun _ _ _ h => h) (Or.inl ⟨by rfl, ?_⟩) rfl ?_
          rotate_left
          focus (intro w; go_simp; try with_reducible rfl)
          obtain ⟨p1, f1⟩ := P1.out
          refine wpAny_ready (rs := [25]) (by kernel_rfl) (by simp) (AllReady.cons rfl (fun K hK => ?_) AllReady.nil)
          go_simp
          refine hK _ _ ?_
          clear hK K p1 f1 P1
          refine wpAny_done (by kernel_rfl) ?_ _
          go_wp2_with fail
          refine bodyPost_end (results_none rfl _ _ _) rfl ?_
          exact ⟨rfl, Hf.out⟩
        · go_simp
          refine hK _ _ ?_
          clear hK K
          replace S := S.alloc2
          obtain ⟨N2, hN2⟩ : ∃ N2, N2 = V97.heap.size := ⟨_, rfl⟩
          rw [← hN2] at S ⊢
          clear hN2
          generalize V97.alloc (.cells #[.int .i64 z] 3) = V101 at *
          refine wpAny_ready (rs := [9]) (by kernel_rfl) (by simp) (AllReady.cons rfl (fun K hK => ?_) AllReady.nil)
          have cx := cell_of_row V101 N1 0 #[.int .i64 c] 3 (0, 0) (S.f1 N1 rfl).1
          refine step_push rfl (.tmp 12) (.tmp 14) rfl base (.slice A1 L1 c1) cs (by simp [Act.eval] <;> rfl) S.q1 c hc N1 (by simp [Act.eval] <;> rfl) (cx.trans rfl) hn1 S.bs ?_
          intro v' V102 hq hg ho
          replace S := S.push1 hq hg ho
          clear cx
          obtain ⟨A1', c1', hv', _, _⟩ := hq.shape
          obtain ⟨L1', hL'⟩ : ∃ L', (cs ++ [c]).length = L' := ⟨_, rfl⟩
          rw [hL'] at hv'
          subst hv'
          clear hL' hq hg ho
          refine hK _ _ ?_
          clear hK K
          refine wpAny_ready (rs := [17]) (by kernel_rfl) (by simp) (AllReady.cons rfl (fun K hK => ?_) AllReady.nil)
          have cx := cell_of_row V102 N2 0 #[.int .i64 z] 3 (0, 0) (S.f2 N2 rfl).1
          refine step_push rfl (.tmp 20) (.tmp 22) rfl base (.slice A2 L2 c2) ls (by simp [Act.eval] <;> rfl) S.q2 z hz N2 (by simp [Act.eval] <;> rfl) (cx.trans rfl) hn2 S.bs ?_
          intro v' V103 hq hg ho
          replace S := S.push2 hq hg ho
          clear cx
          obtain ⟨A2', c2', hv', _, _⟩ := hq.shape
          obtain ⟨L2', hL'⟩ : ∃ L', (ls ++ [z]).length = L' := ⟨_, rfl⟩
          rw [hL'] at hv'
          subst hv'
          clear hL' hq hg ho
          refine hK _ _ ?_
          clear hK K
          refine take_now (i := 18) (some 24) (v := ?_) rfl (by kernel_rfl) (by kernel_rfl) (by kernel_rfl) (fun _ _ _ h => h) (Or.inl ⟨by rfl, ?_⟩) rfl ?_
          rotate_left
          focus (intro w; go_simp; try with_reducible rfl)
          refine take_now (i := 19) (some 25) (v := ?_) rfl (by kernel_rfl) (by kernel_rfl) (by kernel_rfl) (fun _ _ _ h => h) (Or.inl ⟨by rfl, ?_⟩) rfl ?_
          rotate_left
          focus (intro w; go_simp; try with_reducible rfl)
          refine take_now (i := 20) (some 26) (v := ?_) rfl (by kernel_rfl) (by kernel_rfl) (by kernel_rfl) (fun _ _ _ h => h) (Or.inl ⟨by rfl, ?_⟩) rfl ?_
          rotate_left
          focus (intro w; go_simp; try with_reducible rfl)
          have Hf := Lib.hid (fin.out _ V103 V103 _ _ _ _ _ _ S)
          have p0 := S.at'.cells.1
          have f0 := S.at'.frozen 0
          have p1 := (S.at'.set0 (.slice A1' L1' c1')).cells.2.1
          have f1 := (S.at'.set0 (.slice A1' L1' c1')).frozen 1
          have P1 := Lib.hid (And.intro p1 f1)
          clear fin S p1 f1
          refine wpAny_ready (rs := [21]) (by kernel_rfl) (by simp) (AllReady.cons rfl (fun K hK => ?_) AllReady.nil)
          go_simp
          refine hK _ _ ?_
          clear hK K p0 f0
          refine take_now (i := 22) (some 27) (v := ?_) rfl (by kernel_rfl) (by kernel_rfl) (by kernel_rfl) (fun _ _ _ h => h) (Or.inl ⟨by rfl, ?_⟩) rfl ?_
          rotate_left
          focus (intro w; go_simp; try with_reducible rfl)
          refine take_now (i := 23) (some 28) (v := ?_) rfl (by kernel_rfl) (by kernel_rfl) (by kernel_rfl) (fun _ _ _ h => h) (Or.inl ⟨by rfl, ?_⟩) rfl ?_
          rotate_left
          focus (intro w; go_simp; try with_reducible rfl)
          refine take_now (i := 24) (some 29) (v := ?_) rfl (by kernel_rfl) (by kernel_rfl) (by kernel_rfl) (fun _ _ _ h => h) (Or.inl ⟨by rfl, ?_⟩) rfl ?_
          rotate_left
          focus (intro w; go_simp; try with_reducible rfl)
          obtain ⟨p1, f1⟩ := P1.out
          refine wpAny_ready (rs := [25]) (by kernel_rfl) (by simp) (AllReady.cons rfl (fun K hK => ?_) AllReady.nil)
          go_simp
          refine hK _ _ ?_
          clear hK K p1 f1 P1
          refine wpAny_done (by kernel_rfl) ?_ _
          go_wp2_with fail
          refine bodyPost_end (results_none rfl _ _ _) rfl ?_
          exact ⟨rfl, Hf.out⟩
      · go_simp
        refine hK _ _ ?_
        clear hK K
        replace S := S.alloc2
        obtain ⟨N2, hN2⟩ : ∃ N2, N2 = W0.heap.size := ⟨_, rfl⟩
        rw [← hN2] at S ⊢
        clear hN2
        generalize W0.alloc (.cells #[.int .i64 z] 3) = V104 at *
        refine wpAny_ready (rs := [8]) (by kernel_rfl) (by simp) (AllReady.cons rfl (fun K hK => ?_) AllReady.nil)
        go_simp
        refine hK _ _ ?_
        clear hK K
        replace S := S.alloc1
        obtain ⟨N1, hN1⟩ : ∃ N1, N1 = V104.heap.size := ⟨_, rfl⟩
        rw [← hN1] at S ⊢
        clear hN1
        generalize V104.alloc (.cells #[.int .i64 c] 3) = V105 at *
        refine wpAny_ready (rs := [9]) (by kernel_rfl) (by simp) (AllReady.cons rfl (fun K hK => ?_) AllReady.nil)
        have cx := cell_of_row V105 N1 0 #[.int .i64 c] 3 (0, 0) (S.f1 N1 rfl).1
        refine step_push rfl (.tmp 12) (.tmp 14) rfl base (.slice A1 L1 c1) cs (by simp [Act.eval] <;> rfl) S.q1 c hc N1 (by simp [Act.eval] <;> rfl) (cx.trans rfl) hn1 S.bs ?_
        intro v' V106 hq hg ho
        replace S := S.push1 hq hg ho
        clear cx
        obtain ⟨A1', c1', hv', _, _⟩ := hq.shape
        obtain ⟨L1', hL'⟩ : ∃ L', (cs ++ [c]).length = L' := ⟨_, rfl⟩
        rw [hL'] at hv'
        subst hv'
        clear hL' hq hg ho
        refine hK _ _ ?_
        clear hK K
        refine wpAny_ready (rs := [17]) (by kernel_rfl) (by simp) (AllReady.cons rfl (fun K hK => ?_) AllReady.nil)
        have cx := cell_of_row V106 N2 0 #[.int .i64 z] 3 (0, 0) (S.f2 N2 rfl).1
        refine step_push rfl (.tmp 20) (.tmp 22) rfl base (.slice A2 L2 c2) ls (by simp [Act.eval] <;> rfl) S.q2 z hz N2 (by simp [Act.eval] <;> rfl) (cx.trans rfl) hn2 S.bs ?_
        intro v' V107 hq hg ho
        replace S := S.push2 hq hg ho
        clear cx
        obtain ⟨A2', c2', hv', _, _⟩ := hq.shape
        obtain ⟨L2', hL'⟩ : ∃ L', (ls ++ [z]).length = L' := ⟨_, rfl⟩
        rw [hL'] at hv'
        subst hv'
        clear hL' hq hg ho
        refine hK _ _ ?_
        clear hK K
        refine take_now (i := 18) (some 24) (v := ?_) rfl (by kernel_rfl) (by kernel_rfl) (by kernel_rfl) (fun _ _ _ h => h) (Or.inl ⟨by rfl, ?_⟩) rfl ?_
        rotate_left
        focus (intro w; go_simp; try with_reducible rfl)
        refine take_now (i := 19) (some 25) (v := ?_) rfl (by kernel_rfl) (by kernel_rfl) (by kernel_rfl) (fun _ _ _ h => h) (Or.inl ⟨by rfl, ?_⟩) rfl ?_
        rotate_left
        focus (intro w; go_simp; try with_reducible rfl)
        refine take_now (i := 20) (some 26) (v := ?_) rfl (by kernel_rfl) (by kernel_rfl) (by kernel_rfl) (fun _ _ _ h => h) (Or.inl ⟨by rfl, ?_⟩) rfl ?_
        rotate_left
        focus (intro w; go_simp; try with_reducible rfl)
        have Hf := Lib.hid (fin.out _ V107 V107 _ _ _ _ _ _ S)
        have p0 := S.at'.cells.1
        have f0 := S.at'.frozen 0
        have p1 := (S.at'.set0 (.slice A1' L1' c1')).cells.2.1
        have f1 := (S.at'.set0 (.slice A1' L1' c1')).frozen 1
        have P1 := Lib.hid (And.intro p1 f1)
        clear fin S p1 f1
        refine wpAny_ready (rs := [21]) (by kernel_rfl) (by simp) (AllReady.cons rfl (fun K hK => ?_) AllReady.nil)
        go_simp
        refine hK _ _ ?_
        clear hK K p0 f0
        refine take_now (i := 22) (some 27) (v := ?_) rfl (by kernel_rfl) (by kernel_rfl) (by kernel_rfl) (fun _ _ _ h => h) (Or.inl ⟨by rfl, ?_⟩) rfl ?_
        rotate_left
        focus (intro w; go_simp; try with_reducible rfl)
        refine take_now (i := 23) (some 28) (v := ?_) rfl (by kernel_rfl) (by kernel_rfl) (by kernel_rfl) (fun _ _ _ h => h) (Or.inl ⟨by rfl, ?_⟩) rfl ?_
        rotate_left
        focus (intro w; go_simp; try with_reducible rfl)
        refine take_now (i := 24) (some 29) (v := ?_) rfl (by kernel_rfl) (by kernel_rfl) (by kernel_rfl) (fun _ _ _ h => h) (Or.inl ⟨by rfl, ?_⟩) rfl ?_
        rotate_left
        focus (intro w; go_simp; try with_reducible rfl)
        obtain ⟨p1, f1⟩ := P1.out
        refine wpAny_ready (rs := [25]) (by kernel_rfl) (by simp) (AllReady.cons rfl (fun K hK => ?_) AllReady.nil)
        go_simp
        refine hK _ _ ?_
        clear hK K p1 f1 P1
        refine wpAny_done (by kernel_rfl) ?_ _
        go_wp2_with fail
        refine bodyPost_end (results_none rfl _ _ _) rfl ?_
        exact ⟨rfl, Hf.out⟩
    · go_simp
      refine hK _ _ ?_
      clear hK K
      replace S := S.alloc1
      obtain ⟨N1, hN1⟩ : ∃ N1, N1 = W0.heap.size := ⟨_, rfl⟩
      rw [← hN1] at S ⊢
      clear hN1
      generalize W0.alloc (.cells #[.int .i64 c] 3) = V108 at *
      refine wpAny_ready (rs := [6, 16]) (by kernel_rfl) (by simp) (AllReady.cons rfl (fun K hK => ?_) (AllReady.cons rfl (fun K hK => ?_) AllReady.nil))
      · have c0 := S.at'.cells.1
        go_simp
        refine hK _ _ ?_
        clear hK K c0
        refine wpAny_ready (rs := [9, 16]) (by kernel_rfl) (by simp) (AllReady.cons rfl (fun K hK => ?_) (AllReady.cons rfl (fun K hK => ?_) AllReady.nil))
        · have cx := cell_of_row V108 N1 0 #[.int .i64 c] 3 (0, 0) (S.f1 N1 rfl).1
          refine step_push rfl (.tmp 12) (.tmp 14) rfl base (.slice A1 L1 c1) cs (by simp [Act.eval] <;> rfl) S.q1 c hc N1 (by simp [Act.eval] <;> rfl) (cx.trans rfl) hn1 S.bs ?_
          intro v' V110 hq hg ho
          replace S := S.push1 hq hg ho
          clear cx
          obtain ⟨A1', c1', hv', _, _⟩ := hq.shape
          obtain ⟨L1', hL'⟩ : ∃ L', (cs ++ [c]).length = L' := ⟨_, rfl⟩
          rw [hL'] at hv'
          subst hv'
          clear hL' hq hg ho
          refine hK _ _ ?_
          clear hK K
          refine wpAny_ready (rs := [16]) (by kernel_rfl) (by simp) (AllReady.cons rfl (fun K hK => ?_) AllReady.nil)
          go_simp
          refine hK _ _ ?_
          clear hK K
          replace S := S.alloc2
          obtain ⟨N2, hN2⟩ : ∃ N2, N2 = V110.heap.size := ⟨_, rfl⟩
          rw [← hN2] at S ⊢
          clear hN2
          generalize V110.alloc (.cells #[.int .i64 z] 3) = V111 at *
          refine wpAny_ready (rs := [17]) (by kernel_rfl) (by simp) (AllReady.cons rfl (fun K hK => ?_) AllReady.nil)
          have cx := cell_of_row V111 N2 0 #[.int .i64 z] 3 (0, 0) (S.f2 N2 rfl).1
          refine step_push rfl (.tmp 20) (.tmp 22) rfl base (.slice A2 L2 c2) ls (by simp [Act.eval] <;> rfl) S.q2 z hz N2 (by simp [Act.eval] <;> rfl) (cx.trans rfl) hn2 S.bs ?_
          intro v' V112 hq hg ho
          replace S := S.push2 hq hg ho
          clear cx
          obtain ⟨A2', c2', hv', _, _⟩ := hq.shape
          obtain ⟨L2', hL'⟩ : ∃ L', (ls ++ [z]).length = L' := ⟨_, rfl⟩
          rw [hL'] at hv'
          subst hv'
          clear hL' hq hg ho
          refine hK _ _ ?_
          clear hK K
          refine take_now (i := 18) (some 24) (v := ?_) rfl (by kernel_rfl) (by kernel_rfl) (by kernel_rfl) (fun _ _ _ h => h) (Or.inl ⟨by rfl, ?_⟩) rfl ?_
          rotate_left
          focus (intro w; go_simp; try with_reducible rfl)
          refine take_now (i := 19) (some 25) (v := ?_) rfl (by kernel_rfl) (by kernel_rfl) (by kernel_rfl) (fun _ _ _ h => h) (Or.inl ⟨by rfl, ?_⟩) rfl ?_
          rotate_left
          focus (intro w; go_simp; try with_reducible rfl)
          refine take_now (i := 20) (some 26) (v := ?_) rfl (by kernel_rfl) (by kernel_rfl) (by kernel_rfl) (fun _ _ _ h => h) (Or.inl ⟨by rfl, ?_⟩) rfl ?_
          rotate_left
          focus (intro w; go_simp; try with_reducible rfl)
          have Hf := Lib.hid (fin.out _ V112 V112 _ _ _ _ _ _ S)
          have p0 := S.at'.cells.1
          have f0 := S.at'.frozen 0
          have p1 := (S.at'.set0 (.slice A1' L1' c1')).cells.2.1
          have f1 := (S.at'.set0 (.slice A1' L1' c1')).frozen 1
          have P1 := Lib.hid (And.intro p1 f1)
          clear fin S p1 f1
          refine wpAny_ready (rs := [21]) (by kernel_rfl) (by simp) (AllReady.cons rfl (fun K hK => ?_) AllReady.nil)
          go_simp
          refine hK _ _ ?_
          clear hK K p0 f0
          refine take_now (i := 22) (some 27) (v := ?_) rfl (by kernel_rfl) (by kernel_rfl) (by kernel_rfl) (fun _ _ _ h => h) (Or.inl ⟨by rfl, ?_⟩) rfl ?_
          rotate_left
          focus (intro w; go_simp; try with_reducible rfl)
          refine take_now (i := 23) (some 28) (v := ?_) rfl (by kernel_rfl) (by kernel_rfl) (by kernel_rfl) (fun _ _ _ h => h) (Or.inl ⟨by rfl, ?_⟩) rfl ?_
          rotate_left
          focus (intro w; go_simp; try with_reducible rfl)
          refine take_now (i := 24) (some 29) (v := ?_) rfl (by kernel_rfl) (by kernel_rfl) (by kernel_rfl) (fun _ _ _ h => h) (Or.inl ⟨by rfl, ?_⟩) rfl ?_
          rotate_left
          focus (intro w; go_simp; try with_reducible rfl)
          obtain ⟨p1, f1⟩ := P1.out
          refine wpAny_ready (rs := [25]) (by kernel_rfl) (by simp) (AllReady.cons rfl (fun K hK => ?_) AllReady.nil)
          go_simp
          refine hK _ _ ?_
          clear hK K p1 f1 P1
          refine wpAny_done (by kernel_rfl) ?_ _
          go_wp2_with fail
          refine bodyPost_end (results_none rfl _ _ _) rfl ?_
          exact ⟨rfl, Hf.out⟩
        · go_simp
          refine hK _ _ ?_
          clear hK K
          replace S := S.alloc2
          obtain ⟨N2, hN2⟩ : ∃ N2, N2 = V108.heap.size := ⟨_, rfl⟩
          rw [← hN2] at S ⊢
          clear hN2
          generalize V108.alloc (.cells #[.int .i64 z] 3) = V113 at *
          refine wpAny_ready (rs := [9]) (by kernel_rfl) (by simp) (AllReady.cons rfl (fun K hK => ?_) AllReady.nil)
          have cx := cell_of_row V113 N1 0 #[.int .i64 c] 3 (0, 0) (S.f1 N1 rfl).1
          refine step_push rfl (.tmp 12) (.tmp 14) rfl base (.slice A1 L1 c1) cs (by simp [Act.eval] <;> rfl) S.q1 c hc N1 (by simp [Act.eval] <;> rfl) (cx.trans rfl) hn1 S.bs ?_
          intro v' V114 hq hg ho
          replace S := S.push1 hq hg ho
          clear cx
          obtain ⟨A1', c1', hv', _, _⟩ := hq.shape
          obtain ⟨L1', hL'⟩ : ∃ L', (cs ++ [c]).length = L' := ⟨_, rfl⟩
          rw [hL'] at hv'
          subst hv'
          clear hL' hq hg ho
          refine hK _ _ ?_
          clear hK K
          refine wpAny_ready (rs := [17]) (by kernel_rfl) (by simp) (AllReady.cons rfl (fun K hK => ?_) AllReady.nil)
          have cx := cell_of_row V114 N2 0 #[.int .i64 z] 3 (0, 0) (S.f2 N2 rfl).1
          refine step_push rfl (.tmp 20) (.tmp 22) rfl base (.slice A2 L2 c2) ls (by simp [Act.eval] <;> rfl) S.q2 z hz N2 (by simp [Act.eval] <;> rfl) (cx.trans rfl) hn2 S.bs ?_
          intro v' V115 hq hg ho
          replace S := S.push2 hq hg ho
          clear cx
          obtain ⟨A2', c2', hv', _, _⟩ := hq.shape
          obtain ⟨L2', hL'⟩ : ∃ L', (ls ++ [z]).length = L' := ⟨_, rfl⟩
          rw [hL'] at hv'
          subst hv'
          clear hL' hq hg ho
          refine hK _ _ ?_
          clear hK K
          refine take_now (i := 18) (some 24) (v := ?_) rfl (by kernel_rfl) (by kernel_rfl) (by kernel_rfl) (fun _ _ _ h => h) (Or.inl ⟨by rfl, ?_⟩) rfl ?_
          rotate_left
          focus (intro w; go_simp; try with_reducible rfl)
          refine take_now (i := 19) (some 25) (v := ?_) rfl (by kernel_rfl) (by kernel_rfl) (by kernel_rfl) (fun _ _ _ h => h) (Or.inl ⟨by rfl, ?_⟩) rfl ?_
          rotate_left
          focus (intro w; go_simp; try with_reducible rfl)
          refine take_now (i := 20) (some 26) (v := ?_) rfl (by kernel_rfl) (by kernel_rfl) (by kernel_rfl) (fun _ _ _ h => h) (Or.inl ⟨by rfl, ?_⟩) rfl ?_
          rotate_left
          focus (intro w; go_simp; try with_reducible rfl)
          have Hf := Lib.hid (fin.out _ V115 V115 _ _ _ _ _ _ S)
          have p0 := S.at'.cells.1
          have f0 := S.at'.frozen 0
          have p1 := (S.at'.set0 (.slice A1' L1' c1')).cells.2.1
          have f1 := (S.at'.set0 (.slice A1' L1' c1')).frozen 1
          have P1 := Lib.hid (And.intro p1 f1)
          clear fin S p1 f1
          refine wpAny_ready (rs := [21]) (by kernel_rfl) (by simp) (AllReady.cons rfl (fun K hK => ?_) AllReady.nil)
          go_simp
          refine hK _ _ ?_
          clear hK K p0 f0
          refine take_now (i := 22) (some 27) (v := ?_) rfl (by kernel_rfl) (by kernel_rfl) (by kernel_rfl) (fun _ _ _ h => h) (Or.inl ⟨by rfl, ?_⟩) rfl ?_
          rotate_left
          focus (intro w; go_simp; try with_reducible rfl)
          refine take_now (i := 23) (some 28) (v := ?_) rfl (by kernel_rfl) (by kernel_rfl) (by kernel_rfl) (fun _ _ _ h => h) (Or.inl ⟨by rfl, ?_⟩) rfl ?_
          rotate_left
          focus (intro w; go_simp; try with_reducible rfl)
          refine take_now (i := 24) (some 29) (v := ?_) rfl (by kernel_rfl) (by kernel_rfl) (by kernel_rfl) (fun _ _ _ h => h) (Or.inl ⟨by rfl, ?_⟩) rfl ?_
          rotate_left
          focus (intro w; go_simp; try with_reducible rfl)
          obtain ⟨p1, f1⟩ := P1.out
          refine wpAny_ready (rs := [25]) (by kernel_rfl) (by simp) (AllReady.cons rfl (fun K hK => ?_) AllReady.nil)
          go_simp
          refine hK _ _ ?_
          clear hK K p1 f1 P1
          refine wpAny_done (by kernel_rfl) ?_ _
          go_wp2_with fail
          refine bodyPost_end (results_none rfl _ _ _) rfl ?_
          exact ⟨rfl, Hf.out⟩
      · go_simp
        refine hK _ _ ?_
        clear hK K
        replace S := S.alloc2
        obtain ⟨N2, hN2⟩ : ∃ N2, N2 = V108.heap.size := ⟨_, rfl⟩
        rw [← hN2] at S ⊢
        clear hN2
        generalize V108.alloc (.cells #[.int .i64 z] 3) = V116 at *
        refine wpAny_ready (rs := [6]) (by kernel_rfl) (by simp) (AllReady.cons rfl (fun K hK => ?_) AllReady.nil)
        have c0 := S.at'.cells.1
        go_simp
        refine hK _ _ ?_
        clear hK K c0
        refine wpAny_ready (rs := [9]) (by kernel_rfl) (by simp) (AllReady.cons rfl (fun K hK => ?_) AllReady.nil)
        have cx := cell_of_row V116 N1 0 #[.int .i64 c] 3 (0, 0) (S.f1 N1 rfl).1
        refine step_push rfl (.tmp 12) (.tmp 14) rfl base (.slice A1 L1 c1) cs (by simp [Act.eval] <;> rfl) S.q1 c hc N1 (by simp [Act.eval] <;> rfl) (cx.trans rfl) hn1 S.bs ?_
        intro v' V118 hq hg ho
        replace S := S.push1 hq hg ho
        clear cx
        obtain ⟨A1', c1', hv', _, _⟩ := hq.shape
        obtain ⟨L1', hL'⟩ : ∃ L', (cs ++ [c]).length = L' := ⟨_, rfl⟩
        rw [hL'] at hv'
        subst hv'
        clear hL' hq hg ho
        refine hK _ _ ?_
        clear hK K
        refine wpAny_ready (rs := [17]) (by kernel_rfl) (by simp) (AllReady.cons rfl (fun K hK => ?_) AllReady.nil)
        have cx := cell_of_row V118 N2 0 #[.int .i64 z] 3 (0, 0) (S.f2 N2 rfl).1
        refine step_push rfl (.tmp 20) (.tmp 22) rfl base (.slice A2 L2 c2) ls (by simp [Act.eval] <;> rfl) S.q2 z hz N2 (by simp [Act.eval] <;> rfl) (cx.trans rfl) hn2 S.bs ?_
        intro v' V119 hq hg ho
        replace S := S.push2 hq hg ho
        clear cx
        obtain ⟨A2', c2', hv', _, _⟩ := hq.shape
        obtain ⟨L2', hL'⟩ : ∃ L', (ls ++ [z]).length = L' := ⟨_, rfl⟩
        rw [hL'] at hv'
        subst hv'
        clear hL' hq hg ho
        refine hK _ _ ?_
        clear hK K
        refine take_now (i := 18) (some 24) (v := ?_) rfl (by kernel_rfl) (by kernel_rfl) (by kernel_rfl) (fun _ _ _ h => h) (Or.inl ⟨by rfl, ?_⟩) rfl ?_
        rotate_left
        focus (intro w; go_simp; try with_reducible rfl)
        refine take_now (i := 19) (some 25) (v := ?_) rfl (by kernel_rfl) (by kernel_rfl) (by kernel_rfl) (fun _ _ _ h => h) (Or.inl ⟨by rfl, ?_⟩) rfl ?_
        rotate_left
        focus (intro w; go_simp; try with_reducible rfl)
        refine take_now (i := 20) (some 26) (v := ?_) rfl (by kernel_rfl) (by kernel_rfl) (by kernel_rfl) (fun _ _ _ h => h) (Or.inl ⟨by rfl, ?_⟩) rfl ?_
        rotate_left
        focus (intro w; go_simp; try with_reducible rfl)
        have Hf := Lib.hid (fin.out _ V119 V119 _ _ _ _ _ _ S)
        have p0 := S.at'.cells.1
        have f0 := S.at'.frozen 0
        have p1 := (S.at'.set0 (.slice A1' L1' c1')).cells.2.1
        have f1 := (S.at'.set0 (.slice A1' L1' c1')).frozen 1
        have P1 := Lib.hid (And.intro p1 f1)
        clear fin S p1 f1
        refine wpAny_ready (rs := [21]) (by kernel_rfl) (by simp) (AllReady.cons rfl (fun K hK => ?_) AllReady.nil)
        go_simp
        refine hK _ _ ?_
        clear hK K p0 f0
        refine take_now (i := 22) (some 27) (v := ?_) rfl (by kernel_rfl) (by kernel_rfl) (by kernel_rfl) (fun _ _ _ h => h) (Or.inl ⟨by rfl, ?_⟩) rfl ?_
        rotate_left
        focus (intro w; go_simp; try with_reducible rfl)
        refine take_now (i := 23) (some 28) (v := ?_) rfl (by kernel_rfl) (by kernel_rfl) (by kernel_rfl) (fun _ _ _ h => h) (Or.inl ⟨by rfl, ?_⟩) rfl ?_
        rotate_left
        focus (intro w; go_simp; try with_reducible rfl)
        refine take_now (i := 24) (some 29) (v := ?_) rfl (by kernel_rfl) (by kernel_rfl) (by kernel_rfl) (fun _ _ _ h => h) (Or.inl ⟨by rfl, ?_⟩) rfl ?_
        rotate_left
        focus (intro w; go_simp; try with_reducible rfl)
        obtain ⟨p1, f1⟩ := P1.out
        refine wpAny_ready (rs := [25]) (by kernel_rfl) (by simp) (AllReady.cons rfl (fun K hK => ?_) AllReady.nil)
        go_simp
        refine hK _ _ ?_
        clear hK K p1 f1 P1
        refine wpAny_done (by kernel_rfl) ?_ _
        go_wp2_with fail
        refine bodyPost_end (results_none rfl _ _ _) rfl ?_
        exact ⟨rfl, Hf.out⟩
    · go_simp
      refine hK _ _ ?_
      clear hK K
      replace S := S.alloc2
      obtain ⟨N2, hN2⟩ : ∃ N2, N2 = W0.heap.size := ⟨_, rfl⟩
      rw [← hN2] at S ⊢
      clear hN2
      generalize W0.alloc (.cells #[.int .i64 z] 3) = V120 at *
      refine wpAny_ready (rs := [6, 8]) (by kernel_rfl) (by simp) (AllReady.cons rfl (fun K hK => ?_) (AllReady.cons rfl (fun K hK => ?_) AllReady.nil))
      · have c0 := S.at'.cells.1
        go_simp
        refine hK _ _ ?_
        clear hK K c0
        refine wpAny_ready (rs := [8]) (by kernel_rfl) (by simp) (AllReady.cons rfl (fun K hK => ?_) AllReady.nil)
        go_simp
        refine hK _ _ ?_
        clear hK K
        replace S := S.alloc1
        obtain ⟨N1, hN1⟩ : ∃ N1, N1 = V120.heap.size := ⟨_, rfl⟩
        rw [← hN1] at S ⊢
        clear hN1
        generalize V120.alloc (.cells #[.int .i64 c] 3) = V122 at *
        refine wpAny_ready (rs := [9]) (by kernel_rfl) (by simp) (AllReady.cons rfl (fun K hK => ?_) AllReady.nil)
        have cx := cell_of_row V122 N1 0 #[.int .i64 c] 3 (0, 0) (S.f1 N1 rfl).1
        refine step_push rfl (.tmp 12) (.tmp 14) rfl base (.slice A1 L1 c1) cs (by simp [Act.eval] <;> rfl) S.q1 c hc N1 (by simp [Act.eval] <;> rfl) (cx.trans rfl) hn1 S.bs ?_
        intro v' V123 hq hg ho
        replace S := S.push1 hq hg ho
        clear cx
        obtain ⟨A1', c1', hv', _, _⟩ := hq.shape
        obtain ⟨L1', hL'⟩ : ∃ L', (cs ++ [c]).length = L' := ⟨_, rfl⟩
        rw [hL'] at hv'
        subst hv'
        clear hL' hq hg ho
        refine hK _ _ ?_
        clear hK K
        refine wpAny_ready (rs := [17]) (by kernel_rfl) (by simp) (AllReady.cons rfl (fun K hK => ?_) AllReady.nil)
        have cx := cell_of_row V123 N2 0 #[.int .i64 z] 3 (0, 0) (S.f2 N2 rfl).1
        refine step_push rfl (.tmp 20) (.tmp 22) rfl base (.slice A2 L2 c2) ls (by simp [Act.eval] <;> rfl) S.q2 z hz N2 (by simp [Act.eval] <;> rfl) (cx.trans rfl) hn2 S.bs ?_
        intro v' V124 hq hg ho
        replace S := S.push2 hq hg ho
        clear cx
        obtain ⟨A2', c2', hv', _, _⟩ := hq.shape
        obtain ⟨L2', hL'⟩ : ∃ L', (ls ++ [z]).length = L' := ⟨_, rfl⟩
        rw [hL'] at hv'
        subst hv'
        clear hL' hq hg ho
        refine hK _ _ ?_
        clear hK K
        refine take_now (i := 18) (some 24) (v := ?_) rfl (by kernel_rfl) (by kernel_rfl) (by kernel_rfl) (fun _ _ _ h => h) (Or.inl ⟨by rfl, ?_⟩) rfl ?_
        rotate_left
        focus (intro w; go_simp; try with_reducible rfl)
        refine take_now (i := 19) (some 25) (v := ?_) rfl (by kernel_rfl) (by kernel_rfl) (by kernel_rfl) (fun _ _ _ h => h) (Or.inl ⟨by rfl, ?_⟩) rfl ?_
        rotate_left
        focus (intro w; go_simp; try with_reducible rfl)
        refine take_now (i := 20) (some 26) (v := ?_) rfl (by kernel_rfl) (by kernel_rfl) (by kernel_rfl) (fun _ _ _ h => h) (Or.inl ⟨by rfl, ?_⟩) rfl ?_
        rotate_left
        focus (intro w; go_simp; try with_reducible rfl)
        have Hf := Lib.hid (fin.out _ V124 V124 _ _ _ _ _ _ S)
        have p0 := S.at'.cells.1
        have f0 := S.at'.frozen 0
        have p1 := (S.at'.set0 (.slice A1' L1' c1')).cells.2.1
        have f1 := (S.at'.set0 (.slice A1' L1' c1')).frozen 1
        have P1 := Lib.hid (And.intro p1 f1)
        clear fin S p1 f1
        refine wpAny_ready (rs := [21]) (by kernel_rfl) (by simp) (AllReady.cons rfl (fun K hK => ?_) AllReady.nil)
        go_simp
        refine hK _ _ ?_
        clear hK K p0 f0
        refine take_now (i := 22) (some 27) (v := ?_) rfl (by kernel_rfl) (by kernel_rfl) (by kernel_rfl) (fun _ _ _ h => h) (Or.inl ⟨by rfl, ?_⟩) rfl ?_
        rotate_left
        focus (intro w; go_simp; try with_reducible rfl)
        refine take_now (i := 23) (some 28) (v := ?_) rfl (by kernel_rfl) (by kernel_rfl) (by kernel_rfl) (fun _ _ _ h => h) (Or.inl ⟨by rfl, ?_⟩) rfl ?_
        rotate_left
        focus (intro w; go_simp; try with_reducible rfl)
        refine take_now (i := 24) (some 29) (v := ?_) rfl (by kernel_rfl) (by kernel_rfl) (by kernel_rfl) (fun _ _ _ h => h) (Or.inl ⟨by rfl, ?_⟩) rfl ?_
        rotate_left
        focus (intro w; go_simp; try with_reducible rfl)
        obtain ⟨p1, f1⟩ := P1.out
        refine wpAny_ready (rs := [25]) (by kernel_rfl) (by simp) (AllReady.cons rfl (fun K hK => ?_) AllReady.nil)
        go_simp
        refine hK _ _ ?_
        clear hK K p1 f1 P1
        refine wpAny_done (by kernel_rfl) ?_ _
        go_wp2_with fail
        refine bodyPost_end (results_none rfl _ _ _) rfl ?_
        exact ⟨rfl, Hf.out⟩
      · go_simp
        refine hK _ _ ?_
        clear hK K
        replace S := S.alloc1
        obtain ⟨N1, hN1⟩ : ∃ N1, N1 = V120.heap.size := ⟨_, rfl⟩
        rw [← hN1] at S ⊢
        clear hN1
        generalize V120.alloc (.cells #[.int .i64 c] 3) = V125 at *
        refine wpAny_ready (rs := [6]) (by kernel_rfl) (by simp) (AllReady.cons rfl (fun K hK => ?_) AllReady.nil)
        have c0 := S.at'.cells.1
        go_simp
        refine hK _ _ ?_
        clear hK K c0
        refine wpAny_ready (rs := [9]) (by kernel_rfl) (by simp) (AllReady.cons rfl (fun K hK => ?_) AllReady.nil)
        have cx := cell_of_row V125 N1 0 #[.int .i64 c] 3 (0, 0) (S.f1 N1 rfl).1
        refine step_push rfl (.tmp 12) (.tmp 14) rfl base (.slice A1 L1 c1) cs (by simp [Act.eval] <;> rfl) S.q1 c hc N1 (by simp [Act.eval] <;> rfl) (cx.trans rfl) hn1 S.bs ?_
        intro v' V127 hq hg ho
        replace S := S.push1 hq hg ho
        clear cx
        obtain ⟨A1', c1', hv', _, _⟩ := hq.shape
        obtain ⟨L1', hL'⟩ : ∃ L', (cs ++ [c]).length = L' := ⟨_, rfl⟩
        rw [hL'] at hv'
        subst hv'
        clear hL' hq hg ho
        refine hK _ _ ?_
        clear hK K
        refine wpAny_ready (rs := [17]) (by kernel_rfl) (by simp) (AllReady.cons rfl (fun K hK => ?_) AllReady.nil)
        have cx := cell_of_row V127 N2 0 #[.int .i64 z] 3 (0, 0) (S.f2 N2 rfl).1
        refine step_push rfl (.tmp 20) (.tmp 22) rfl base (.slice A2 L2 c2) ls (by simp [Act.eval] <;> rfl) S.q2 z hz N2 (by simp [Act.eval] <;> rfl) (cx.trans rfl) hn2 S.bs ?_
        intro v' V128 hq hg ho
        replace S := S.push2 hq hg ho
        clear cx
        obtain ⟨A2', c2', hv', _, _⟩ := hq.shape
        obtain ⟨L2', hL'⟩ : ∃ L', (ls ++ [z]).length = L' := ⟨_, rfl⟩
        rw [hL'] at hv'
        subst hv'
        clear hL' hq hg ho
        refine hK _ _ ?_
        clear hK K
        refine take_now (i := 18) (some 24) (v := ?_) rfl (by kernel_rfl) (by kernel_rfl) (by kernel_rfl) (fun _ _ _ h => h) (Or.inl ⟨by rfl, ?_⟩) rfl ?_
        rotate_left
        focus (intro w; go_simp; try with_reducible rfl)
        refine take_now (i := 19) (some 25) (v := ?_) rfl (by kernel_rfl) (by kernel_rfl) (by kernel_rfl) (fun _ _ _ h => h) (Or.inl ⟨by rfl, ?_⟩) rfl ?_
        rotate_left
        focus (intro w; go_simp; try with_reducible rfl)
        refine take_now (i := 20) (some 26) (v := ?_) rfl (by kernel_rfl) (by kernel_rfl) (by kernel_rfl) (fun _ _ _ h => h) (Or.inl ⟨by rfl, ?_⟩) rfl ?_
        rotate_left
        focus (intro w; go_simp; try with_reducible rfl)
        have Hf := Lib.hid (fin.out _ V128 V128 _ _ _ _ _ _ S)
        have p0 := S.at'.cells.1
        have f0 := S.at'.frozen 0
        have p1 := (S.at'.set0 (.slice A1' L1' c1')).cells.2.1
        have f1 := (S.at'.set0 (.slice A1' L1' c1')).frozen 1
        have P1 := Lib.hid (And.intro p1 f1)
        clear fin S p1 f1
        refine wpAny_ready (rs := [21]) (by kernel_rfl) (by simp) (AllReady.cons rfl (fun K hK => ?_) AllReady.nil)
        go_simp
        refine hK _ _ ?_
        clear hK K p0 f0
        refine take_now (i := 22) (some 27) (v := ?_) rfl (by kernel_rfl) (by kernel_rfl) (by kernel_rfl) (fun _ _ _ h => h) (Or.inl ⟨by rfl, ?_⟩) rfl ?_
        rotate_left
        focus (intro w; go_simp; try with_reducible rfl)
        refine take_now (i := 23) (some 28) (v := ?_) rfl (by kernel_rfl) (by kernel_rfl) (by kernel_rfl) (fun _ _ _ h => h) (Or.inl ⟨by rfl, ?_⟩) rfl ?_
        rotate_left
        focus (intro w; go_simp; try with_reducible rfl)
        refine take_now (i := 24) (some 29) (v := ?_) rfl (by kernel_rfl) (by kernel_rfl) (by kernel_rfl) (fun _ _ _ h => h) (Or.inl ⟨by rfl, ?_⟩) rfl ?_
        rotate_left
        focus (intro w; go_simp; try with_reducible rfl)
        obtain ⟨p1, f1⟩ := P1.out
        refine wpAny_ready (rs := [25]) (by kernel_rfl) (by simp) (AllReady.cons rfl (fun K hK => ?_) AllReady.nil)
        go_simp
        refine hK _ _ ?_
        clear hK K p1 f1 P1
        refine wpAny_done (by kernel_rfl) ?_ _
        go_wp2_with fail
        refine bodyPost_end (results_none rfl _ _ _) rfl ?_
        exact ⟨rfl, Hf.out⟩
  · go_simp
    refine hK _ _ ?_
    clear hK K
    replace S := S.alloc2
    obtain ⟨N2, hN2⟩ : ∃ N2, N2 = W0.heap.size := ⟨_, rfl⟩
    rw [← hN2] at S ⊢
    clear hN2
    generalize W0.alloc (.cells #[.int .i64 z] 3) = V129 at *
    refine wpAny_ready (rs := [6, 8, 14]) (by kernel_rfl) (by simp) (AllReady.cons rfl (fun K hK => ?_) (AllReady.cons rfl (fun K hK => ?_) (AllReady.cons rfl (fun K hK => ?_) AllReady.nil)))
    · have c0 := S.at'.cells.1
      go_simp
      refine hK _ _ ?_
      clear hK K c0
      refine wpAny_ready (rs := [8, 14]) (by kernel_rfl) (by simp) (AllReady.cons rfl (fun K hK => ?_) (AllReady.cons rfl (fun K hK => ?_) AllReady.nil))
      · go_simp
        refine hK _ _ ?_
        clear hK K
        replace S := S.alloc1
        obtain ⟨N1, hN1⟩ : ∃ N1, N1 = V129.heap.size := ⟨_, rfl⟩
        rw [← hN1] at S ⊢
        clear hN1
        generalize V129.alloc (.cells #[.int .i64 c] 3) = V131 at *
        refine wpAny_ready (rs := [9, 14]) (by kernel_rfl) (by simp) (AllReady.cons rfl (fun K hK => ?_) (AllReady.cons rfl (fun K hK => ?_) AllReady.nil))
        · have cx := cell_of_row V131 N1 0 #[.int .i64 c] 3 (0, 0) (S.f1 N1 rfl).1
          refine step_push rfl (.tmp 12) (.tmp 14) rfl base (.slice A1 L1 c1) cs (by simp [Act.eval] <;> rfl) S.q1 c hc N1 (by simp [Act.eval] <;> rfl) (cx.trans rfl) hn1 S.bs ?_
          intro v' V132 hq hg ho
          replace S := S.push1 hq hg ho
          clear cx
          obtain ⟨A1', c1', hv', _, _⟩ := hq.shape
          obtain ⟨L1', hL'⟩ : ∃ L', (cs ++ [c]).length = L' := ⟨_, rfl⟩
          rw [hL'] at hv'
          subst hv'
          clear hL' hq hg ho
          refine hK _ _ ?_
          clear hK K
          refine wpAny_ready (rs := [14]) (by kernel_rfl) (by simp) (AllReady.cons rfl (fun K hK => ?_) AllReady.nil)
          have c0 := S.at'.cells.2.1
          go_simp
          refine hK _ _ ?_
          clear hK K c0
          refine wpAny_ready (rs := [17]) (by kernel_rfl) (by simp) (AllReady.cons rfl (fun K hK => ?_) AllReady.nil)
          have cx := cell_of_row V132 N2 0 #[.int .i64 z] 3 (0, 0) (S.f2 N2 rfl).1
          refine step_push rfl (.tmp 20) (.tmp 22) rfl base (.slice A2 L2 c2) ls (by simp [Act.eval] <;> rfl) S.q2 z hz N2 (by simp [Act.eval] <;> rfl) (cx.trans rfl) hn2 S.bs ?_
          intro v' V134 hq hg ho
          replace S := S.push2 hq hg ho
          clear cx
          obtain ⟨A2', c2', hv', _, _⟩ := hq.shape
          obtain ⟨L2', hL'⟩ : ∃ L', (ls ++ [z]).length = L' := ⟨_, rfl⟩
          rw [hL'] at hv'
          subst hv'
          clear hL' hq hg ho
          refine hK _ _ ?_
          clear hK K
          refine take_now (i := 18) (some 24) (v := ?_) rfl (by kernel_rfl) (by kernel_rfl) (by kernel_rfl) (fun _ _ _ h => h) (Or.inl ⟨by rfl, ?_⟩) rfl ?_
          rotate_left
          focus (intro w; go_simp; try with_reducible rfl)
          refine take_now (i := 19) (some 25) (v := ?_) rfl (by kernel_rfl) (by kernel_rfl) (by kernel_rfl) (fun _ _ _ h => h) (Or.inl ⟨by rfl, ?_⟩) rfl ?_
          rotate_left
          focus (intro w; go_simp; try with_reducible rfl)
          refine take_now (i := 20) (some 26) (v := ?_) rfl (by kernel_rfl) (by kernel_rfl) (by kernel_rfl) (fun _ _ _ h => h) (Or.inl ⟨by rfl, ?_⟩) rfl ?_
          rotate_left
          focus (intro w; go_simp; try with_reducible rfl)
          have Hf := Lib.hid (fin.out _ V134 V134 _ _ _ _ _ _ S)
          have p0 := S.at'.cells.1
          have f0 := S.at'.frozen 0
          have p1 := (S.at'.set0 (.slice A1' L1' c1')).cells.2.1
          have f1 := (S.at'.set0 (.slice A1' L1' c1')).frozen 1
          have P1 := Lib.hid (And.intro p1 f1)
          clear fin S p1 f1
          refine wpAny_ready (rs := [21]) (by kernel_rfl) (by simp) (AllReady.cons rfl (fun K hK => ?_) AllReady.nil)
          go_simp
          refine hK _ _ ?_
          clear hK K p0 f0
          refine take_now (i := 22) (some 27) (v := ?_) rfl (by kernel_rfl) (by kernel_rfl) (by kernel_rfl) (fun _ _ _ h => h) (Or.inl ⟨by rfl, ?_⟩) rfl ?_
          rotate_left
          focus (intro w; go_simp; try with_reducible rfl)
          refine take_now (i := 23) (some 28) (v := ?_) rfl (by kernel_rfl) (by kernel_rfl) (by kernel_rfl) (fun _ _ _ h => h) (Or.inl ⟨by rfl, ?_⟩) rfl ?_
          rotate_left
          focus (intro w; go_simp; try with_reducible rfl)
          refine take_now (i := 24) (some 29) (v := ?_) rfl (by kernel_rfl) (by kernel_rfl) (by kernel_rfl) (fun _ _ _ h => h) (Or.inl ⟨by rfl, ?_⟩) rfl ?_
          rotate_left
          focus (intro w; go_simp; try with_reducible rfl)
          obtain ⟨p1, f1⟩ := P1.out
          refine wpAny_ready (rs := [25]) (by kernel_rfl) (by simp) (AllReady.cons rfl (fun K hK => ?_) AllReady.nil)
          go_simp
          refine hK _ _ ?_
          clear hK K p1 f1 P1
          refine wpAny_done (by kernel_rfl) ?_ _
          go_wp2_with fail
          refine bodyPost_end (results_none rfl _ _ _) rfl ?_
          exact ⟨rfl, Hf.out⟩
        · have c0 := S.at'.cells.2.1
          go_simp
          refine hK _ _ ?_
          clear hK K c0
          refine wpAny_ready (rs := [9]) (by kernel_rfl) (by simp) (AllReady.cons rfl (fun K hK => ?_) AllReady.nil)
          have cx := cell_of_row V131 N1 0 #[.int .i64 c] 3 (0, 0) (S.f1 N1 rfl).1
          refine step_push rfl (.tmp 12) (.tmp 14) rfl base (.slice A1 L1 c1) cs (by simp [Act.eval] <;> rfl) S.q1 c hc N1 (by simp [Act.eval] <;> rfl) (cx.trans rfl) hn1 S.bs ?_
          intro v' V136 hq hg ho
          replace S := S.push1 hq hg ho
          clear cx
          obtain ⟨A1', c1', hv', _, _⟩ := hq.shape
          obtain ⟨L1', hL'⟩ : ∃ L', (cs ++ [c]).length = L' := ⟨_, rfl⟩
          rw [hL'] at hv'
          subst hv'
          clear hL' hq hg ho
          refine hK _ _ ?_
          clear hK K
          refine wpAny_ready (rs := [17]) (by kernel_rfl) (by simp) (AllReady.cons rfl (fun K hK => ?_) AllReady.nil)
          have cx := cell_of_row V136 N2 0 #[.int .i64 z] 3 (0, 0) (S.f2 N2 rfl).1
          refine step_push rfl (.tmp 20) (.tmp 22) rfl base (.slice A2 L2 c2) ls (by simp [Act.eval] <;> rfl) S.q2 z hz N2 (by simp [Act.eval] <;> rfl) (cx.trans rfl) hn2 S.bs ?_
          intro v' V137 hq hg ho
          replace S := S.push2 hq hg ho
          clear cx
          obtain ⟨A2', c2', hv', _, _⟩ := hq.shape
          obtain ⟨L2', hL'⟩ : ∃ L', (ls ++ [z]).length = L' := ⟨_, rfl⟩
          rw [hL'] at hv'
          subst hv'
          clear hL' hq hg ho
          refine hK _ _ ?_
          clear hK K
          refine take_now (i := 18) (some 24) (v := ?_) rfl (by kernel_rfl) (by kernel_rfl) (by kernel_rfl) (fun _ _ _ h => h) (Or.inl ⟨by rfl, ?_⟩) rfl ?_
          rotate_left
          focus (intro w; go_simp; try with_reducible rfl)
          refine take_now (i := 19) (some 25) (v := ?_) rfl (by kernel_rfl) (by kernel_rfl) (by kernel_rfl) (fun _ _ _ h => h) (Or.inl ⟨by rfl, ?_⟩) rfl ?_
          rotate_left
          focus (intro w; go_simp; try with_reducible rfl)
          refine take_now (i := 20) (some 26) (v := ?_) rfl (by kernel_rfl) (by kernel_rfl) (by kernel_rfl) (fun _ _ _ h => h) (Or.inl ⟨by rfl, ?_⟩) rfl ?_
          rotate_left
          focus (intro w; go_simp; try with_reducible rfl)
          have Hf := Lib.hid (fin.out _ V137 V137 _ _ _ _ _ _ S)
          have p0 := S.at'.cells.1
          have f0 := S.at'.frozen 0
          have p1 := (S.at'.set0 (.slice A1' L1' c1')).cells.2.1
          have f1 := (S.at'.set0 (.slice A1' L1' c1')).frozen 1
          have P1 := Lib.hid (And.intro p1 f1)
          clear fin S p1 f1
          refine wpAny_ready (rs := [21]) (by kernel_rfl) (by simp) (AllReady.cons rfl (fun K hK => ?_) AllReady.nil)
          go_simp
          refine hK _ _ ?_
          clear hK K p0 f0
          refine take_now (i := 22) (some 27) (v := ?_) rfl (by kernel_rfl) (by kernel_rfl) (by kernel_rfl) (fun _ _ _ h => h) (Or.inl ⟨by rfl, ?_⟩) rfl ?_
          rotate_left
          focus (intro w; go_simp; try with_reducible rfl)
          refine take_now (i := 23) (some 28) (v := ?_) rfl (by kernel_rfl) (by kernel_rfl) (by kernel_rfl) (fun _ _ _ h => h) (Or.inl ⟨by rfl, ?_⟩) rfl ?_
          rotate_left
          focus (intro w; go_simp; try with_reducible rfl)
          refine take_now (i := 24) (some 29) (v := ?_) rfl (by kernel_rfl) (by kernel_rfl) (by kernel_rfl) (fun _ _ _ h => h) (Or.inl ⟨by rfl, ?_⟩) rfl ?_
          rotate_left
          focus (intro w; go_simp; try with_reducible rfl)
          obtain ⟨p1, f1⟩ := P1.out
          refine wpAny_ready (rs := [25]) (by kernel_rfl) (by simp) (AllReady.cons rfl (fun K hK => ?_) AllReady.nil)
          go_simp
          refine hK _ _ ?_
          clear hK K p1 f1 P1
          refine wpAny_done (by kernel_rfl) ?_ _
          go_wp2_with fail
          refine bodyPost_end (results_none rfl _ _ _) rfl ?_
          exact ⟨rfl, Hf.out⟩
      · have c0 := S.at'.cells.2.1
        go_simp
        refine hK _ _ ?_
        clear hK K c0
        refine wpAny_ready (rs := [8]) (by kernel_rfl) (by simp) (AllReady.cons rfl (fun K hK => ?_) AllReady.nil)
        go_simp
        refine hK _ _ ?_
        clear hK K
        replace S := S.alloc1
        obtain ⟨N1, hN1⟩ : ∃ N1, N1 = V129.heap.size := ⟨_, rfl⟩
        rw [← hN1] at S ⊢
        clear hN1
        generalize V129.alloc (.cells #[.int .i64 c] 3) = V139 at *
        refine wpAny_ready (rs := [9]) (by kernel_rfl) (by simp) (AllReady.cons rfl (fun K hK => ?_) AllReady.nil)
        have cx := cell_of_row V139 N1 0 #[.int .i64 c] 3 (0, 0) (S.f1 N1 rfl).1
        refine step_push rfl (.tmp 12) (.tmp 14) rfl base (.slice A1 L1 c1) cs (by simp [Act.eval] <;> rfl) S.q1 c hc N1 (by simp [Act.eval] <;> rfl) (cx.trans rfl) hn1 S.bs ?_
        intro v' V140 hq hg ho
        replace S := S.push1 hq hg ho
        clear cx
        obtain ⟨A1', c1', hv', _, _⟩ := hq.shape
        obtain ⟨L1', hL'⟩ : ∃ L', (cs ++ [c]).length = L' := ⟨_, rfl⟩
        rw [hL'] at hv'
        subst hv'
        clear hL' hq hg ho
        refine hK _ _ ?_
        clear hK K
        refine wpAny_ready (rs := [17]) (by kernel_rfl) (by simp) (AllReady.cons rfl (fun K hK => ?_) AllReady.nil)
        have cx := cell_of_row V140 N2 0 #[.int .i64 z] 3 (0, 0) (S.f2 N2 rfl).1
        refine step_push rfl (.tmp 20) (.tmp 22) rfl base (.slice A2 L2 c2) ls (by simp [Act.eval] <;> rfl) S.q2 z hz N2 (by simp [Act.eval] <;> rfl) (cx.trans rfl) hn2 S.bs ?_
        intro v' V141 hq hg ho
        replace S := S.push2 hq hg ho
        clear cx
        obtain ⟨A2', c2', hv', _, _⟩ := hq.shape
        obtain ⟨L2', hL'⟩ : ∃ L', (ls ++ [z]).length = L' := ⟨_, rfl⟩
        rw [hL'] at hv'
        subst hv'
        clear hL' hq hg ho
        refine hK _ _ ?_
        clear hK K
        refine take_now (i := 18) (some 24) (v := ?_) rfl (by kernel_rfl) (by kernel_rfl) (by kernel_rfl) (fun _ _ _ h => h) (Or.inl ⟨by rfl, ?_⟩) rfl ?_
        rotate_left
        focus (intro w; go_simp; try with_reducible rfl)
        refine take_now (i := 19) (some 25) (v := ?_) rfl (by kernel_rfl) (by kernel_rfl) (by kernel_rfl) (fun _ _ _ h => h) (Or.inl ⟨by rfl, ?_⟩) rfl ?_
        rotate_left
        focus (intro w; go_simp; try with_reducible rfl)
        refine take_now (i := 20) (some 26) (v := ?_) rfl (by kernel_rfl) (by kernel_rfl) (by kernel_rfl) (fun _ _ _ h => h) (Or.inl ⟨by rfl, ?_⟩) rfl ?_
        rotate_left
        focus (intro w; go_simp; try with_reducible rfl)
        have Hf := Lib.hid (fin.out _ V141 V141 _ _ _ _ _ _ S)
        have p0 := S.at'.cells.1
        have f0 := S.at'.frozen 0
        have p1 := (S.at'.set0 (.slice A1' L1' c1')).cells.2.1
        have f1 := (S.at'.set0 (.slice A1' L1' c1')).frozen 1
        have P1 := Lib.hid (And.intro p1 f1)
        clear fin S p1 f1
        refine wpAny_ready (rs := [21]) (by kernel_rfl) (by simp) (AllReady.cons rfl (fun K hK => ?_) AllReady.nil)
        go_simp
        refine hK _ _ ?_
        clear hK K p0 f0
        refine take_now (i := 22) (some 27) (v := ?_) rfl (by kernel_rfl) (by kernel_rfl) (by kernel_rfl) (fun _ _ _ h => h) (Or.inl ⟨by rfl, ?_⟩) rfl ?_
        rotate_left
        focus (intro w; go_simp; try with_reducible rfl)
        refine take_now (i := 23) (some 28) (v := ?_) rfl (by kernel_rfl) (by kernel_rfl) (by kernel_rfl) (fun _ _ _ h => h) (Or.inl ⟨by rfl, ?_⟩) rfl ?_
        rotate_left
        focus (intro w; go_simp; try with_reducible rfl)
        refine take_now (i := 24) (some 29) (v := ?_) rfl (by kernel_rfl) (by kernel_rfl) (by kernel_rfl) (fun _ _ _ h => h) (Or.inl ⟨by rfl, ?_⟩) rfl ?_
        rotate_left
        focus (intro w; go_simp; try with_reducible rfl)
        obtain ⟨p1, f1⟩ := P1.out
        refine wpAny_ready (rs := [25]) (by kernel_rfl) (by simp) (AllReady.cons rfl (fun K hK => ?_) AllReady.nil)
        go_simp
        refine hK _ _ ?_
        clear hK K p1 f1 P1
        refine wpAny_done (by kernel_rfl) ?_ _
        go_wp2_with fail
        refine bodyPost_end (results_none rfl _ _ _) rfl ?_
        exact ⟨rfl, Hf.out⟩
    · go_simp
      refine hK _ _ ?_
      clear hK K
      replace S := S.alloc1
      obtain ⟨N1, hN1⟩ : ∃ N1, N1 = V129.heap.size := ⟨_, rfl⟩
      rw [← hN1] at S ⊢
      clear hN1
      generalize V129.alloc (.cells #[.int .i64 c] 3) = V142 at *
      refine wpAny_ready (rs := [6, 14]) (by kernel_rfl) (by simp) (AllReady.cons rfl (fun K hK => ?_) (AllReady.cons rfl (fun K hK => ?_) AllReady.nil))
      · have c0 := S.at'.cells.1
        go_simp
        refine hK _ _ ?_
        clear hK K c0
        refine wpAny_ready (rs := [9, 14]) (by kernel_rfl) (by simp) (AllReady.cons rfl (fun K hK => ?_) (AllReady.cons rfl (fun K hK => ?_) AllReady.nil))
        · have cx := cell_of_row V142 N1 0 #[.int .i64 c] 3 (0, 0) (S.f1 N1 rfl).1
          refine step_push rfl (.tmp 12) (.tmp 14) rfl base (.slice A1 L1 c1) cs (by simp [Act.eval] <;> rfl) S.q1 c hc N1 (by simp [Act.eval] <;> rfl) (cx.trans rfl) hn1 S.bs ?_
          intro v' V144 hq hg ho
          replace S := S.push1 hq hg ho
          clear cx
          obtain ⟨A1', c1', hv', _, _⟩ := hq.shape
          obtain ⟨L1', hL'⟩ : ∃ L', (cs ++ [c]).length = L' := ⟨_, rfl⟩
          rw [hL'] at hv'
          subst hv'
          clear hL' hq hg ho
          refine hK _ _ ?_
          clear hK K
          refine wpAny_ready (rs := [14]) (by kernel_rfl) (by simp) (AllReady.cons rfl (fun K hK => ?_) AllReady.nil)
          have c0 := S.at'.cells.2.1
          go_simp
          refine hK _ _ ?_
          clear hK K c0
          refine wpAny_ready (rs := [17]) (by kernel_rfl) (by simp) (AllReady.cons rfl (fun K hK => ?_) AllReady.nil)
          have cx := cell_of_row V144 N2 0 #[.int .i64 z] 3 (0, 0) (S.f2 N2 rfl).1
          refine step_push rfl (.tmp 20) (.tmp 22) rfl base (.slice A2 L2 c2) ls (by simp [Act.eval] <;> rfl) S.q2 z hz N2 (by simp [Act.eval] <;> rfl) (cx.trans rfl) hn2 S.bs ?_
          intro v' V146 hq hg ho
          replace S := S.push2 hq hg ho
          clear cx
          obtain ⟨A2', c2', hv', _, _⟩ := hq.shape
          obtain ⟨L2', hL'⟩ : ∃ L', (ls ++ [z]).length = L' := ⟨_, rfl⟩
          rw [hL'] at hv'
          subst hv'
          clear hL' hq hg ho
          refine hK _ _ ?_
          clear hK K
          refine take_now (i := 18) (some 24) (v := ?_) rfl (by kernel_rfl) (by kernel_rfl) (by kernel_rfl) (fun _ _ _ h => h) (Or.inl ⟨by rfl, ?_⟩) rfl ?_
          rotate_left
          focus (intro w; go_simp; try with_reducible rfl)
          refine take_now (i := 19) (some 25) (v := ?_) rfl (by kernel_rfl) (by kernel_rfl) (by kernel_rfl) (fun _ _ _ h => h) (Or.inl ⟨by rfl, ?_⟩) rfl ?_
          rotate_left
          focus (intro w; go_simp; try with_reducible rfl)
          refine take_now (i := 20) (some 26) (v := ?_) rfl (by kernel_rfl) (by kernel_rfl) (by kernel_rfl) (fun _ _ _ h => h) (Or.inl ⟨by rfl, ?_⟩) rfl ?_
          rotate_left
          focus (intro w; go_simp; try with_reducible rfl)
          have Hf := Lib.hid (fin.out _ V146 V146 _ _ _ _ _ _ S)
          have p0 := S.at'.cells.1
          have f0 := S.at'.frozen 0
          have p1 := (S.at'.set0 (.slice A1' L1' c1')).cells.2.1
          have f1 := (S.at'.set0 (.slice A1' L1' c1')).frozen 1
          have P1 := Lib.hid (And.intro p1 f1)
          clear fin S p1 f1
          refine wpAny_ready (rs := [21]) (by kernel_rfl) (by simp) (AllReady.cons rfl (fun K hK => ?_) AllReady.nil)
          go_simp
          refine hK _ _ ?_
          clear hK K p0 f0
          refine take_now (i := 22) (some 27) (v := ?_) rfl (by kernel_rfl) (by kernel_rfl) (by kernel_rfl) (fun _ _ _ h => h) (Or.inl ⟨by rfl, ?_⟩) rfl ?_
          rotate_left
          focus (intro w; go_simp; try with_reducible rfl)
          refine take_now (i := 23) (some 28) (v := ?_) rfl (by kernel_rfl) (by kernel_rfl) (by kernel_rfl) (fun _ _ _ h => h) (Or.inl ⟨by rfl, ?_⟩) rfl ?_
          rotate_left
          focus (intro w; go_simp; try with_reducible rfl)
          refine take_now (i := 24) (some 29) (v := ?_) rfl (by kernel_rfl) (by kernel_rfl) (by kernel_rfl) (fun _ _ _ h => h) (Or.inl ⟨by rfl, ?_⟩) rfl ?_
          rotate_left
          focus (intro w; go_simp; try with_reducible rfl)
          obtain ⟨p1, f1⟩ := P1.out
          refine wpAny_ready (rs := [25]) (by kernel_rfl) (by simp) (AllReady.cons rfl (fun K hK => ?_) AllReady.nil)
          go_simp
          refine hK _ _ ?_
          clear hK K p1 f1 P1
          refine wpAny_done (by kernel_rfl) ?_ _
          go_wp2_with fail
          refine bodyPost_end (results_none rfl _ _ _) rfl ?_
          exact ⟨rfl, Hf.out⟩
        · have c0 := S.at'.cells.2.1
          go_simp
          refine hK _ _ ?_
          clear hK K c0
          refine wpAny_ready (rs := [9]) (by kernel_rfl) (by simp) (AllReady.cons rfl (fun K hK => ?_) AllReady.nil)
          have cx := cell_of_row V142 N1 0 #[.int .i64 c] 3 (0, 0) (S.f1 N1 rfl).1
          refine step_push rfl (.tmp 12) (.tmp 14) rfl base (.slice A1 L1 c1) cs (by simp [Act.eval] <;> rfl) S.q1 c hc N1 (by simp [Act.eval] <;> rfl) (cx.trans rfl) hn1 S.bs ?_
          intro v' V148 hq hg ho
          replace S := S.push1 hq hg ho
          clear cx
          obtain ⟨A1', c1', hv', _, _⟩ := hq.shape
          obtain ⟨L1', hL'⟩ : ∃ L', (cs ++ [c]).length = L' := ⟨_, rfl⟩
          rw [hL'] at hv'
          subst hv'
          clear hL' hq hg ho
          refine hK _ _ ?_
          clear hK K
          refine wpAny_ready (rs := [17]) (by kernel_rfl) (by simp) (AllReady.cons rfl (fun K hK => ?_) AllReady.nil)
          have cx := cell_of_row V148 N2 0 #[.int .i64 z] 3 (0, 0) (S.f2 N2 rfl).1
          refine step_push rfl (.tmp 20) (.tmp 22) rfl base (.slice A2 L2 c2) ls (by simp [Act.eval] <;> rfl) S.q2 z hz N2 (by simp [Act.eval] <;> rfl) (cx.trans rfl) hn2 S.bs ?_
          intro v' V149 hq hg ho
          replace S := S.push2 hq hg ho
          clear cx
          obtain ⟨A2', c2', hv', _, _⟩ := hq.shape
          obtain ⟨L2', hL'⟩ : ∃ L', (ls ++ [z]).length = L' := ⟨_, rfl⟩
          rw [hL'] at hv'
          subst hv'
          clear hL' hq hg ho
          refine hK _ _ ?_
          clear hK K
          refine take_now (i := 18) (some 24) (v := ?_) rfl (by kernel_rfl) (by kernel_rfl) (by kernel_rfl) (fun _ _ _ h => h) (Or.inl ⟨by rfl, ?_⟩) rfl ?_
          rotate_left
          focus (intro w; go_simp; try with_reducible rfl)
          refine take_now (i := 19) (some 25) (v := ?_) rfl (by kernel_rfl) (by kernel_rfl) (by kernel_rfl) (fun _ _ _ h => h) (Or.inl ⟨by rfl, ?_⟩) rfl ?_
          rotate_left
          focus (intro w; go_simp; try with_reducible rfl)
          refine take_now (i := 20) (some 26) (v := ?_) rfl (by kernel_rfl) (by kernel_rfl) (by kernel_rfl) (fun _ _ _ h => h) (Or.inl ⟨by rfl, ?_⟩) rfl ?_
          rotate_left
          focus (intro w; go_simp; try with_reducible rfl)
          have Hf := Lib.hid (fin.out _ V149 V149 _ _ _ _ _ _ S)
          have p0 := S.at'.cells.1
          have f0 := S.at'.frozen 0
          have p1 := (S.at'.set0 (.slice A1' L1' c1')).cells.2.1
          have f1 := (S.at'.set0 (.slice A1' L1' c1')).frozen 1
          have P1 := Lib.hid (And.intro p1 f1)
          clear fin S p1 f1
          refine wpAny_ready (rs := [21]) (by kernel_rfl) (by simp) (AllReady.cons rfl (fun K hK => ?_) AllReady.nil)
          go_simp
          refine hK _ _ ?_
          clear hK K p0 f0
          refine take_now (i := 22) (some 27) (v := ?_) rfl (by kernel_rfl) (by kernel_rfl) (by kernel_rfl) (fun _ _ _ h => h) (Or.inl ⟨by rfl, ?_⟩) rfl ?_
          rotate_left
          focus (intro w; go_simp; try with_reducible rfl)
          refine take_now (i := 23) (some 28) (v := ?_) rfl (by kernel_rfl) (by kernel_rfl) (by kernel_rfl) (fun _ _ _ h => h) (Or.inl ⟨by rfl, ?_⟩) rfl ?_
          rotate_left
          focus (intro w; go_simp; try with_reducible rfl)
          refine take_now (i := 24) (some 29) (v := ?_) rfl (by kernel_rfl) (by kernel_rfl) (by kernel_rfl) (fun _ _ _ h => h) (Or.inl ⟨by rfl, ?_⟩) rfl ?_
          rotate_left
          focus (intro w; go_simp; try with_reducible rfl)
          obtain ⟨p1, f1⟩ := P1.out
          refine wpAny_ready (rs := [25]) (by kernel_rfl) (by simp) (AllReady.cons rfl (fun K hK => ?_) AllReady.nil)
          go_simp
          refine hK _ _ ?_
          clear hK K p1 f1 P1
          refine wpAny_done (by kernel_rfl) ?_ _
          go_wp2_with fail
          refine bodyPost_end (results_none rfl _ _ _) rfl ?_
          exact ⟨rfl, Hf.out⟩
      · have c0 := S.at'.cells.2.1
        go_simp
        refine hK _ _ ?_
        clear hK K c0
        refine wpAny_ready (rs := [6]) (by kernel_rfl) (by simp) (AllReady.cons rfl (fun K hK => ?_) AllReady.nil)
        have c0 := S.at'.cells.1
        go_simp
        refine hK _ _ ?_
        clear hK K c0
        refine wpAny_ready (rs := [9]) (by kernel_rfl) (by simp) (AllReady.cons rfl (fun K hK => ?_) AllReady.nil)
        have cx := cell_of_row V142 N1 0 #[.int .i64 c] 3 (0, 0) (S.f1 N1 rfl).1
        refine step_push rfl (.tmp 12) (.tmp 14) rfl base (.slice A1 L1 c1) cs (by simp [Act.eval] <;> rfl) S.q1 c hc N1 (by simp [Act.eval] <;> rfl) (cx.trans rfl) hn1 S.bs ?_
        intro v' V152 hq hg ho
        replace S := S.push1 hq hg ho
        clear cx
        obtain ⟨A1', c1', hv', _, _⟩ := hq.shape
        obtain ⟨L1', hL'⟩ : ∃ L', (cs ++ [c]).length = L' := ⟨_, rfl⟩
        rw [hL'] at hv'
        subst hv'
        clear hL' hq hg ho
        refine hK _ _ ?_
        clear hK K
        refine wpAny_ready (rs := [17]) (by kernel_rfl) (by simp) (AllReady.cons rfl (fun K hK => ?_) AllReady.nil)
        have cx := cell_of_row V152 N2 0 #[.int .i64 z] 3 (0, 0) (S.f2 N2 rfl).1
        refine step_push rfl (.tmp 20) (.tmp 22) rfl base (.slice A2 L2 c2) ls (by simp [Act.eval] <;> rfl) S.q2 z hz N2 (by simp [Act.eval] <;> rfl) (cx.trans rfl) hn2 S.bs ?_
        intro v' V153 hq hg ho
        replace S := S.push2 hq hg ho
        clear cx
        obtain ⟨A2', c2', hv', _, _⟩ := hq.shape
        obtain ⟨L2', hL'⟩ : ∃ L', (ls ++ [z]).length = L' := ⟨_, rfl⟩
        rw [hL'] at hv'
        subst hv'
        clear hL' hq hg ho
        refine hK _ _ ?_
        clear hK K
        refine take_now (i := 18) (some 24) (v := ?_) rfl (by kernel_rfl) (by kernel_rfl) (by kernel_rfl) (fun _ _ _ h => h) (Or.inl ⟨by rfl, ?_⟩) rfl ?_
        rotate_left
        focus (intro w; go_simp; try with_reducible rfl)
        refine take_now (i := 19) (some 25) (v := ?_) rfl (by kernel_rfl) (by kernel_rfl) (by kernel_rfl) (fun _ _ _ h => h) (Or.inl ⟨by rfl, ?_⟩) rfl ?_
        rotate_left
        focus (intro w; go_simp; try with_reducible rfl)
        refine take_now (i := 20) (some 26) (v := ?_) rfl (by kernel_rfl) (by kernel_rfl) (by kernel_rfl) (fun _ _ _ h => h) (Or.inl ⟨by rfl, ?_⟩) rfl ?_
        rotate_left
        focus (intro w; go_simp; try with_reducible rfl)
        have Hf := Lib.hid (fin.out _ V153 V153 _ _ _ _ _ _ S)
        have p0 := S.at'.cells.1
        have f0 := S.at'.frozen 0
        have p1 := (S.at'.set0 (.slice A1' L1' c1')).cells.2.1
        have f1 := (S.at'.set0 (.slice A1' L1' c1')).frozen 1
        have P1 := Lib.hid (And.intro p1 f1)
        clear fin S p1 f1
        refine wpAny_ready (rs := [21]) (by kernel_rfl) (by simp) (AllReady.cons rfl (fun K hK => ?_) AllReady.nil)
        go_simp
        refine hK _ _ ?_
        clear hK K p0 f0
        refine take_now (i := 22) (some 27) (v := ?_) rfl (by kernel_rfl) (by kernel_rfl) (by kernel_rfl) (fun _ _ _ h => h) (Or.inl ⟨by rfl, ?_⟩) rfl ?_
        rotate_left
        focus (intro w; go_simp; try with_reducible rfl)
        refine take_now (i := 23) (some 28) (v := ?_) rfl (by kernel_rfl) (by kernel_rfl) (by kernel_rfl) (fun _ _ _ h => h) (Or.inl ⟨by rfl, ?_⟩) rfl ?_
        rotate_left
        focus (intro w; go_simp; try with_reducible rfl)
        refine take_now (i := 24) (some 29) (v := ?_) rfl (by kernel_rfl) (by kernel_rfl) (by kernel_rfl) (fun _ _ _ h => h) (Or.inl ⟨by rfl, ?_⟩) rfl ?_
        rotate_left
        focus (intro w; go_simp; try with_reducible rfl)
        obtain ⟨p1, f1⟩ := P1.out
        refine wpAny_ready (rs := [25]) (by kernel_rfl) (by simp) (AllReady.cons rfl (fun K hK => ?_) AllReady.nil)
        go_simp
        refine hK _ _ ?_
        clear hK K p1 f1 P1
        refine wpAny_done (by kernel_rfl) ?_ _
        go_wp2_with fail
        refine bodyPost_end (results_none rfl _ _ _) rfl ?_
        exact ⟨rfl, Hf.out⟩
    · have c0 := S.at'.cells.2.1
      go_simp
      refine hK _ _ ?_
      clear hK K c0
      refine wpAny_ready (rs := [6, 8]) (by kernel_rfl) (by simp) (AllReady.cons rfl (fun K hK => ?_) (AllReady.cons rfl (fun K hK => ?_) AllReady.nil))
      · have c0 := S.at'.cells.1
        go_simp
        refine hK _ _ ?_
        clear hK K c0
        refine wpAny_ready (rs := [8]) (by kernel_rfl) (by simp) (AllReady.cons rfl (fun K hK => ?_) AllReady.nil)
        go_simp
        refine hK _ _ ?_
        clear hK K
        replace S := S.alloc1
        obtain ⟨N1, hN1⟩ : ∃ N1, N1 = V129.heap.size := ⟨_, rfl⟩
        rw [← hN1] at S ⊢
        clear hN1
        generalize V129.alloc (.cells #[.int .i64 c] 3) = V156 at *
        refine wpAny_ready (rs := [9]) (by kernel_rfl) (by simp) (AllReady.cons rfl (fun K hK => ?_) AllReady.nil)
        have cx := cell_of_row V156 N1 0 #[.int .i64 c] 3 (0, 0) (S.f1 N1 rfl).1
        refine step_push rfl (.tmp 12) (.tmp 14) rfl base (.slice A1 L1 c1) cs (by simp [Act.eval] <;> rfl) S.q1 c hc N1 (by simp [Act.eval] <;> rfl) (cx.trans rfl) hn1 S.bs ?_
        intro v' V157 hq hg ho
        replace S := S.push1 hq hg ho
        clear cx
        obtain ⟨A1', c1', hv', _, _⟩ := hq.shape
        obtain ⟨L1', hL'⟩ : ∃ L', (cs ++ [c]).length = L' := ⟨_, rfl⟩
        rw [hL'] at hv'
        subst hv'
        clear hL' hq hg ho
        refine hK _ _ ?_
        clear hK K
        refine wpAny_ready (rs := [17]) (by kernel_rfl) (by simp) (AllReady.cons rfl (fun K hK => ?_) AllReady.nil)
        have cx := cell_of_row V157 N2 0 #[.int .i64 z] 3 (0, 0) (S.f2 N2 rfl).1
        refine step_push rfl (.tmp 20) (.tmp 22) rfl base (.slice A2 L2 c2) ls (by simp [Act.eval] <;> rfl) S.q2 z hz N2 (by simp [Act.eval] <;> rfl) (cx.trans rfl) hn2 S.bs ?_
        intro v' V158 hq hg ho
        replace S := S.push2 hq hg ho
        clear cx
        obtain ⟨A2', c2', hv', _, _⟩ := hq.shape
        obtain ⟨L2', hL'⟩ : ∃ L', (ls ++ [z]).length = L' := ⟨_, rfl⟩
        rw [hL'] at hv'
        subst hv'
        clear hL' hq hg ho
        refine hK _ _ ?_
        clear hK K
        refine take_now (i := 18) (some 24) (v := ?_) rfl (by kernel_rfl) (by kernel_rfl) (by kernel_rfl) (fun _ _ _ h => h) (Or.inl ⟨by rfl, ?_⟩) rfl ?_
        rotate_left
        focus (intro w; go_simp; try with_reducible rfl)
        refine take_now (i := 19) (some 25) (v := ?_) rfl (by kernel_rfl) (by kernel_rfl) (by kernel_rfl) (fun _ _ _ h => h) (Or.inl ⟨by rfl, ?_⟩) rfl ?_
        rotate_left
        focus (intro w; go_simp; try with_reducible rfl)
        refine take_now (i := 20) (some 26) (v := ?_) rfl (by kernel_rfl) (by kernel_rfl) (by kernel_rfl) (fun _ _ _ h => h) (Or.inl ⟨by rfl, ?_⟩) rfl ?_
        rotate_left
        focus (intro w; go_simp; try with_reducible rfl)
        have Hf := Lib.hid (fin.out _ V158 V158 _ _ _ _ _ _ S)
        have p0 := S.at'.cells.1
        have f0 := S.at'.frozen 0
        have p1 := (S.at'.set0 (.slice A1' L1' c1')).cells.2.1
        have f1 := (S.at'.set0 (.slice A1' L1' c1')).frozen 1
        have P1 := Lib.hid (And.intro p1 f1)
        clear fin S p1 f1
        refine wpAny_ready (rs := [21]) (by kernel_rfl) (by simp) (AllReady.cons rfl (fun K hK => ?_) AllReady.nil)
        go_simp
        refine hK _ _ ?_
        clear hK K p0 f0
        refine take_now (i := 22) (some 27) (v := ?_) rfl (by kernel_rfl) (by kernel_rfl) (by kernel_rfl) (fun _ _ _ h => h) (Or.inl ⟨by rfl, ?_⟩) rfl ?_
        rotate_left
        focus (intro w; go_simp; try with_reducible rfl)
        refine take_now (i := 23) (some 28) (v := ?_) rfl (by kernel_rfl) (by kernel_rfl) (by kernel_rfl) (fun _ _ _ h => h) (Or.inl ⟨by rfl, ?_⟩) rfl ?_
        rotate_left
        focus (intro w; go_simp; try with_reducible rfl)
        refine take_now (i := 24) (some 29) (v := ?_) rfl (by kernel_rfl) (by kernel_rfl) (by kernel_rfl) (fun _ _ _ h => h) (Or.inl ⟨by rfl, ?_⟩) rfl ?_
        rotate_left
        focus (intro w; go_simp; try with_reducible rfl)
        obtain ⟨p1, f1⟩ := P1.out
        refine wpAny_ready (rs := [25]) (by kernel_rfl) (by simp) (AllReady.cons rfl (fun K hK => ?_) AllReady.nil)
        go_simp
        refine hK _ _ ?_
        clear hK K p1 f1 P1
        refine wpAny_done (by kernel_rfl) ?_ _
        go_wp2_with fail
        refine bodyPost_end (results_none rfl _ _ _) rfl ?_
        exact ⟨rfl, Hf.out⟩
      · go_simp
        refine hK _ _ ?_
        clear hK K
        replace S := S.alloc1
        obtain ⟨N1, hN1⟩ : ∃ N1, N1 = V129.heap.size := ⟨_, rfl⟩
        rw [← hN1] at S ⊢
        clear hN1
        generalize V129.alloc (.cells #[.int .i64 c] 3) = V159 at *
        refine wpAny_ready (rs := [6]) (by kernel_rfl) (by simp) (AllReady.cons rfl (fun K hK => ?_) AllReady.nil)
        have c0 := S.at'.cells.1
        go_simp
        refine hK _ _ ?_
        clear hK K c0
        refine wpAny_ready (rs := [9]) (by kernel_rfl) (by simp) (AllReady.cons rfl (fun K hK => ?_) AllReady.nil)
        have cx := cell_of_row V159 N1 0 #[.int .i64 c] 3 (0, 0) (S.f1 N1 rfl).1
        refine step_push rfl (.tmp 12) (.tmp 14) rfl base (.slice A1 L1 c1) cs (by simp [Act.eval] <;> rfl) S.q1 c hc N1 (by simp [Act.eval] <;> rfl) (cx.trans rfl) hn1 S.bs ?_
        intro v' V161 hq hg ho
        replace S := S.push1 hq hg ho
        clear cx
        obtain ⟨A1', c1', hv', _, _⟩ := hq.shape
        obtain ⟨L1', hL'⟩ : ∃ L', (cs ++ [c]).length = L' := ⟨_, rfl⟩
        rw [hL'] at hv'
        subst hv'
        clear hL' hq hg ho
        refine hK _ _ ?_
        clear hK K
        refine wpAny_ready (rs := [17]) (by kernel_rfl) (by simp) (AllReady.cons rfl (fun K hK => ?_) AllReady.nil)
        have cx := cell_of_row V161 N2 0 #[.int .i64 z] 3 (0, 0) (S.f2 N2 rfl).1
        refine step_push rfl (.tmp 20) (.tmp 22) rfl base (.slice A2 L2 c2) ls (by simp [Act.eval] <;> rfl) S.q2 z hz N2 (by simp [Act.eval] <;> rfl) (cx.trans rfl) hn2 S.bs ?_
        intro v' V162 hq hg ho
        replace S := S.push2 hq hg ho
        clear cx
        obtain ⟨A2', c2', hv', _, _⟩ := hq.shape
        obtain ⟨L2', hL'⟩ : ∃ L', (ls ++ [z]).length = L' := ⟨_, rfl⟩
        rw [hL'] at hv'
        subst hv'
        clear hL' hq hg ho
        refine hK _ _ ?_
        clear hK K
        refine take_now (i := 18) (some 24) (v := ?_) rfl (by kernel_rfl) (by kernel_rfl) (by kernel_rfl) (fun _ _ _ h => h) (Or.inl ⟨by rfl, ?_⟩) rfl ?_
        rotate_left
        focus (intro w; go_simp; try with_reducible rfl)
        refine take_now (i := 19) (some 25) (v := ?_) rfl (by kernel_rfl) (by kernel_rfl) (by kernel_rfl) (fun _ _ _ h => h) (Or.inl ⟨by rfl, ?_⟩) rfl ?_
        rotate_left
        focus (intro w; go_simp; try with_reducible rfl)
        refine take_now (i := 20) (some 26) (v := ?_) rfl (by kernel_rfl) (by kernel_rfl) (by kernel_rfl) (fun _ _ _ h => h) (Or.inl ⟨by rfl, ?_⟩) rfl ?_
        rotate_left
        focus (intro w; go_simp; try with_reducible rfl)
        have Hf := Lib.hid (fin.out _ V162 V162 _ _ _ _ _ _ S)
        have p0 := S.at'.cells.1
        have f0 := S.at'.frozen 0
        have p1 := (S.at'.set0 (.slice A1' L1' c1')).cells.2.1
        have f1 := (S.at'.set0 (.slice A1' L1' c1')).frozen 1
        have P1 := Lib.hid (And.intro p1 f1)
        clear fin S p1 f1
        refine wpAny_ready (rs := [21]) (by kernel_rfl) (by simp) (AllReady.cons rfl (fun K hK => ?_) AllReady.nil)
        go_simp
        refine hK _ _ ?_
        clear hK K p0 f0
        refine take_now (i := 22) (some 27) (v := ?_) rfl (by kernel_rfl) (by kernel_rfl) (by kernel_rfl) (fun _ _ _ h => h) (Or.inl ⟨by rfl, ?_⟩) rfl ?_
        rotate_left
        focus (intro w; go_simp; try with_reducible rfl)
        refine take_now (i := 23) (some 28) (v := ?_) rfl (by kernel_rfl) (by kernel_rfl) (by kernel_rfl) (fun _ _ _ h => h) (Or.inl ⟨by rfl, ?_⟩) rfl ?_
        rotate_left
        focus (intro w; go_simp; try with_reducible rfl)
        refine take_now (i := 24) (some 29) (v := ?_) rfl (by kernel_rfl) (by kernel_rfl) (by kernel_rfl) (fun _ _ _ h => h) (Or.inl ⟨by rfl, ?_⟩) rfl ?_
        rotate_left
        focus (intro w; go_simp; try with_reducible rfl)
        obtain ⟨p1, f1⟩ := P1.out
        refine wpAny_ready (rs := [25]) (by kernel_rfl) (by simp) (AllReady.cons rfl (fun K hK => ?_) AllReady.nil)
        go_simp
        refine hK _ _ ?_
        clear hK K p1 f1 P1
        refine wpAny_done (by kernel_rfl) ?_ _
        go_wp2_with fail
        refine bodyPost_end (results_none rfl _ _ _) rfl ?_
        exact ⟨rfl, Hf.out⟩
end Go.Proofs.Ytoacfjmefoiflaa
