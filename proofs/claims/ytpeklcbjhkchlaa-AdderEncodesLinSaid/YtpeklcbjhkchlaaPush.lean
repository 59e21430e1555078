/- The walk of push. -/
import Derived.Test.YtpeklcbjhkchlaaQMem
namespace Go.Proofs.Ytpeklcbjhkchlaa
open Go.RowKit Go.Maps
set_option maxRecDepth 30000

theorem take_now {P : Program} {md : Region.Mode} {ops : Array Oper} {Q : Exit → Act → World → Prop} {i : Nat} (d : Option Tmp) {oi : Oper} {v : Value} {fuel : Nat} {listed : Array Bool} {a : Act} {w : World} (hi : ops[i]? = some oi)
    (hs : Region.noSelect ops = true) (hf : Region.free md ops listed i = true) (hr : (Region.ready md ops listed).contains i = true)
    (hQ : ∀ c a w, Q (.panic c) (a.put oi.dst v) w → Q (.panic c) a w) (hy : Yields P ops oi v a) (hd : oi.dst = d)
    (h : wpAny P md ops Q fuel (listed.setIfInBounds i true) (a.put d v) w) : wpAny P md ops Q (fuel + 1) listed a w := by
  subst hd
  exact wpAny_take hi hs hf hr hQ hy h
/-- What push leaves. -/
def Pushed (w : World) (s gm base n : Nat) (val : Nat → Value) (Q : Nat → List Int) (top : Int) (cv : Value) (vs : List Value) (cl : List (List Int)) (next p : Nat) (x : Int) (w' : World) : Prop :=
  ∃ val', Sm w' s gm base (n + 1) val' (updQ Q p (Q p ++ [x])) (max top (p : Int)) cv vs cl next ∧ Kp s gm (val p).ownBlock w w' ∧ ∀ r, r ≠ p → val' r = val r
theorem Kp.trans {s gm : Nat} {blk : Option Nat} {a b c : World} (h : Kp s gm blk a b) (k : Kp s gm none b c) : Kp s gm blk a c :=
  ⟨Nat.le_trans h.size k.size, k.tape.trans h.tape, k.os.trans h.os, k.output.trans h.output, fun i h1 h2 h3 h4 => (k.block i (by have := h.size; omega) h2 h3 (fun e => by cases e)).trans (h.block i h1 h2 h3 h4)⟩
theorem Kp.before {s gm : Nat} {blk : Option Nat} {a b c : World} (h : Below a.heap.size a b) (k : Kp s gm blk b c) : Kp s gm blk a c :=
  ⟨Nat.le_trans h.size k.size, k.tape.trans h.tape, k.os.trans h.os, k.output.trans h.output, fun i h1 h2 h3 h4 => (k.block i (by have := h.size; omega) h2 h3 h4).trans (h.block i h1)⟩

set_option maxHeartbeats 8000000 in
theorem push_any (s gm base n p : Nat) (val : Nat → Value) (Q : Nat → List Int) (top x : Int) (cv : Value) (vs : List Value) (cl : List (List Int)) (next : Nat) (w : World) (S : Sm w s gm base n val Q top cv vs cl next) (hx : Wf x) (hn : n ≤ 1000000) (hp : p ≤ 100000) (hlen : (Q p).length ≤ 1000000) (hbase : base ≤ w.heap.size) (ht : -1 ≤ top ∧ top ≤ 100000) :
    Calls Try.prog 54 #[.pointer (some ⟨s, 0, none⟩), .int .i64 (p : Int), .int .i64 x] w fun e w' => e = .returned (.tuple #[]) ∧ Pushed w s gm base n val Q top cv vs cl next p x w' := by
  have hmx : (if top < (p : Int) then (p : Int) else top) = max top (p : Int) := by split <;> omega
  have hmx2 : (if (p : Int) < top then top else (p : Int)) = max top (p : Int) := by split <;> omega
  have hmx3 : max (p : Int) top = max top (p : Int) := by omega
  obtain ⟨ht1, ht2⟩ := ht
  have S0 : Sm (World.drew w) s gm base n val Q top cv vs cl next := S.below (below_drewN (Below.refl _ _) 1)
  have hb0 : Below w.heap.size w (World.drew w) := below_drewN (Below.refl _ _) 1
  have hbase0 : base ≤ (World.drew w).heap.size := hbase
  -- behind the region
  have fin : Hid (∀ (W W1 W2 : World) (v' : Value), Below w.heap.size w W → Sm W s gm base n val Q top cv vs cl next → QI W1 base v' (Q p ++ [x]) → W.grownBy W1 (val p).ownBlock → (v'.ownBlock = (val p).ownBlock ∨ ∀ k, v'.ownBlock = some k → W.heap.size ≤ k) → QM W2 gm (n + 1) (updV val p v') → W1.grownBy W2 (some gm) →
      W2.cell? ⟨s, 1, none⟩ = some (.int .i64 top) ∧ W2.frozen? ⟨s, 1, none⟩ = false ∧ Pushed w s gm base n val Q top cv vs cl next p x (W2.setCell ⟨s, 1, none⟩ (.int .i64 (max top (p : Int))))) := by
    refine Lib.hid fun W W1 W2 v' hb hS hq hg ho hm hg2 => ?_
    obtain ⟨q1, q2⟩ := hS.pushed hq hg ho hm hg2
    obtain ⟨q3, q4⟩ := q1.set_top (max top (p : Int))
    exact ⟨q1.cell.2.1, q1.frozen 1, _, q3, Kp.before hb (q2.trans q4), fun r hr => if_neg hr⟩
  generalize hmxx : max top (p : Int) = mx at *
  clear hmxx
  go_enter Try.func54, Try.ntmps54
  go_wp2_with fail
  refine wp_region_any (by kernel_rfl) ?_
  change wpAny _ _ _ _ _ _ _ (World.drew w)
  generalize World.drew w = W0 at *
  refine take_now (i := 0) (some 6) (v := ?_) rfl (by kernel_rfl) (by kernel_rfl) (by kernel_rfl) (fun _ _ _ h => h) (Or.inl ⟨by rfl, ?_⟩) rfl ?_
  rotate_left
  focus (intro w; go_simp; try with_reducible rfl)
  try simp only [Act.put, List.setIfInBounds_toArray, List.set_cons_zero, List.set_cons_succ]
  refine take_now (i := 1) (some 7) (v := ?_) rfl (by kernel_rfl) (by kernel_rfl) (by kernel_rfl) (fun _ _ _ h => h) (Or.inl ⟨by rfl, ?_⟩) rfl ?_
  rotate_left
  focus (intro w; go_simp; try with_reducible rfl)
  try simp only [Act.put, List.setIfInBounds_toArray, List.set_cons_zero, List.set_cons_succ]
  refine take_now (i := 2) (some 8) (v := ?_) rfl (by kernel_rfl) (by kernel_rfl) (by kernel_rfl) (fun _ _ _ h => h) (Or.inl ⟨by rfl, ?_⟩) rfl ?_
  rotate_left
  focus (intro w; go_simp; try with_reducible rfl)
  try simp only [Act.put, List.setIfInBounds_toArray, List.set_cons_zero, List.set_cons_succ]
  refine take_now (i := 4) (some 10) (v := ?_) rfl (by kernel_rfl) (by kernel_rfl) (by kernel_rfl) (fun _ _ _ h => h) (Or.inl ⟨by rfl, ?_⟩) rfl ?_
  rotate_left
  focus (intro w; go_simp; try with_reducible rfl)
  try simp only [Act.put, List.setIfInBounds_toArray, List.set_cons_zero, List.set_cons_succ]
  refine take_now (i := 5) (some 11) (v := ?_) rfl (by kernel_rfl) (by kernel_rfl) (by kernel_rfl) (fun _ _ _ h => h) (Or.inl ⟨by rfl, ?_⟩) rfl ?_
  rotate_left
  focus (intro w; go_simp; try with_reducible rfl)
  try simp only [Act.put, List.setIfInBounds_toArray, List.set_cons_zero, List.set_cons_succ]
  refine take_now (i := 6) (some 12) (v := ?_) rfl (by kernel_rfl) (by kernel_rfl) (by kernel_rfl) (fun _ _ _ h => h) (Or.inl ⟨by rfl, ?_⟩) rfl ?_
  rotate_left
  focus (intro w; go_simp; try with_reducible rfl)
  try simp only [Act.put, List.setIfInBounds_toArray, List.set_cons_zero, List.set_cons_succ]
  refine take_now (i := 7) (some 13) (v := ?_) rfl (by kernel_rfl) (by kernel_rfl) (by kernel_rfl) (fun _ _ _ h => h) (Or.inl ⟨by rfl, ?_⟩) rfl ?_
  rotate_left
  focus (intro w; go_simp; try with_reducible rfl)
  try simp only [Act.put, List.setIfInBounds_toArray, List.set_cons_zero, List.set_cons_succ]
  refine take_now (i := 9) (some 15) (v := ?_) rfl (by kernel_rfl) (by kernel_rfl) (by kernel_rfl) (fun _ _ _ h => h) (Or.inl ⟨by rfl, ?_⟩) rfl ?_
  rotate_left
  focus (intro w; go_simp; try with_reducible rfl)
  try simp only [Act.put, List.setIfInBounds_toArray, List.set_cons_zero, List.set_cons_succ]
  refine take_now (i := 11) (some 17) (v := ?_) rfl (by kernel_rfl) (by kernel_rfl) (by kernel_rfl) (fun _ _ _ h => h) (Or.inl ⟨by rfl, ?_⟩) rfl ?_
  rotate_left
  focus (intro w; go_simp; try with_reducible rfl)
  try simp only [Act.put, List.setIfInBounds_toArray, List.set_cons_zero, List.set_cons_succ]
  refine wpAny_ready (rs := [3, 8, 12]) (by kernel_rfl) (by simp) (AllReady.cons rfl (fun K hK => ?_) (AllReady.cons rfl (fun K hK => ?_) (AllReady.cons rfl (fun K hK => ?_) AllReady.nil)))
  · have c0 := S0.cell.1
    go_simp
    refine hK _ _ ?_
    clear hK K c0
    refine wpAny_ready (rs := [8, 12]) (by kernel_rfl) (by simp) (AllReady.cons rfl (fun K hK => ?_) (AllReady.cons rfl (fun K hK => ?_) AllReady.nil))
    · have c0 := S0.cell.1
      go_simp
      refine hK _ _ ?_
      clear hK K c0
      refine wpAny_ready (rs := [10, 12]) (by kernel_rfl) (by simp) (AllReady.cons rfl (fun K hK => ?_) (AllReady.cons rfl (fun K hK => ?_) AllReady.nil))
      · have c0 := S0.qm.look (p := p) (by omega)
        obtain ⟨AV, cV, hV, _, _⟩ := (S0.q p).shape
        rw [hV] at c0
        go_simp
        refine hK _ _ ?_
        clear hK K c0
        refine wpAny_ready (rs := [12]) (by kernel_rfl) (by simp) (AllReady.cons rfl (fun K hK => ?_) AllReady.nil)
        go_simp
        refine hK _ _ ?_
        clear hK K
        have hal := (Below.refl W0.heap.size W0).alloc (Nat.le_refl _) (.cells #[.int .i64 x] 3)
        have S1 := S0.below hal
        have hb1 := hb0.trans (hal.mono hb0.size)
        have cx : (W0.alloc (.cells #[.int .i64 x] 3)).cell? ⟨W0.heap.size, 0, none⟩ = some (.int .i64 x) := (Boxed.new W0 3 _).cell
        have hbase1 : base ≤ (W0.alloc (.cells #[.int .i64 x] 3)).heap.size := by have := hbase; have := hb1.size; omega
        generalize W0.alloc (.cells #[.int .i64 x] 3) = W1 at *
        refine wpAny_ready (rs := [13]) (by kernel_rfl) (by simp) (AllReady.cons rfl (fun K hK => ?_) AllReady.nil)
        have hqp := S1.q p
        rw [hV] at hqp
        refine step_push rfl (.tmp 16) (.tmp 18) rfl base (.slice AV (Q p).length cV) (Q p) (by simp [Act.eval] <;> rfl) hqp x hx _ (by simp [Act.eval] <;> rfl) cx hlen hbase1 ?_
        intro v' W2 hq2 hg2 ho2
        rw [← hV] at hg2 ho2
        obtain ⟨A2, c2, hv2, _, _⟩ := hq2.shape
        subst hv2
        have hc0 : W2.cell? ⟨s, 0, none⟩ = some (.map (some gm)) := by rw [cell_of_row W2 s 0 _ 58 (0, 0) ((grown_same hg2 S1.lt (fun e => by have := ((S1.q p).lt e.symm).1; have := S1.sb; omega)).trans S1.cells)]; rfl
        have hm2 : QM W2 gm n val := S1.qm.kept hg2 (fun e => by have := ((S1.q p).lt e.symm).1; have := S1.gb; omega)
        refine hK _ _ ?_
        clear hK K
        refine wpAny_ready (rs := [14]) (by kernel_rfl) (by simp) (AllReady.cons rfl (fun K hK => ?_) AllReady.nil)
        refine step_put rfl (.tmp 9) (.tmp 10) (.tmp 19) rfl gm n val p (.slice A2 (Q p ++ [x]).length c2) (by simp [Act.eval] <;> rfl) (by simp [Act.eval] <;> rfl) (by simp [Act.eval] <;> rfl) hm2 hn (by omega) ?_
        intro W3 hm3 hg3
        have hf := fin.out W1 W2 W3 _ hb1 S1 hq2 hg2 ho2 hm3 hg3
        refine hK _ _ ?_
        clear hK K
        refine wpAny_done (by kernel_rfl) ?_ _
        have Hf := Lib.hid hf
        obtain ⟨c1, c2, _⟩ := hf
        clear fin
        go_wp2_with fail
        refine bodyPost_end (results_none rfl _ _ _) rfl ?_
        exact ⟨rfl, Hf.out.2.2⟩
      · go_simp
        refine hK _ _ ?_
        clear hK K
        have hal := (Below.refl W0.heap.size W0).alloc (Nat.le_refl _) (.cells #[.int .i64 x] 3)
        have S1 := S0.below hal
        have hb1 := hb0.trans (hal.mono hb0.size)
        have cx : (W0.alloc (.cells #[.int .i64 x] 3)).cell? ⟨W0.heap.size, 0, none⟩ = some (.int .i64 x) := (Boxed.new W0 3 _).cell
        have hbase1 : base ≤ (W0.alloc (.cells #[.int .i64 x] 3)).heap.size := by have := hbase; have := hb1.size; omega
        generalize W0.alloc (.cells #[.int .i64 x] 3) = W1 at *
        refine wpAny_ready (rs := [10]) (by kernel_rfl) (by simp) (AllReady.cons rfl (fun K hK => ?_) AllReady.nil)
        have c0 := S1.qm.look (p := p) (by omega)
        obtain ⟨AV, cV, hV, _, _⟩ := (S1.q p).shape
        rw [hV] at c0
        go_simp
        refine hK _ _ ?_
        clear hK K c0
        refine wpAny_ready (rs := [13]) (by kernel_rfl) (by simp) (AllReady.cons rfl (fun K hK => ?_) AllReady.nil)
        have hqp := S1.q p
        rw [hV] at hqp
        refine step_push rfl (.tmp 16) (.tmp 18) rfl base (.slice AV (Q p).length cV) (Q p) (by simp [Act.eval] <;> rfl) hqp x hx _ (by simp [Act.eval] <;> rfl) cx hlen hbase1 ?_
        intro v' W2 hq2 hg2 ho2
        rw [← hV] at hg2 ho2
        obtain ⟨A2, c2, hv2, _, _⟩ := hq2.shape
        subst hv2
        have hc0 : W2.cell? ⟨s, 0, none⟩ = some (.map (some gm)) := by rw [cell_of_row W2 s 0 _ 58 (0, 0) ((grown_same hg2 S1.lt (fun e => by have := ((S1.q p).lt e.symm).1; have := S1.sb; omega)).trans S1.cells)]; rfl
        have hm2 : QM W2 gm n val := S1.qm.kept hg2 (fun e => by have := ((S1.q p).lt e.symm).1; have := S1.gb; omega)
        refine hK _ _ ?_
        clear hK K
        refine wpAny_ready (rs := [14]) (by kernel_rfl) (by simp) (AllReady.cons rfl (fun K hK => ?_) AllReady.nil)
        refine step_put rfl (.tmp 9) (.tmp 10) (.tmp 19) rfl gm n val p (.slice A2 (Q p ++ [x]).length c2) (by simp [Act.eval] <;> rfl) (by simp [Act.eval] <;> rfl) (by simp [Act.eval] <;> rfl) hm2 hn (by omega) ?_
        intro W3 hm3 hg3
        have hf := fin.out W1 W2 W3 _ hb1 S1 hq2 hg2 ho2 hm3 hg3
        refine hK _ _ ?_
        clear hK K
        refine wpAny_done (by kernel_rfl) ?_ _
        have Hf := Lib.hid hf
        obtain ⟨c1, c2, _⟩ := hf
        clear fin
        go_wp2_with fail
        refine bodyPost_end (results_none rfl _ _ _) rfl ?_
        exact ⟨rfl, Hf.out.2.2⟩
    · go_simp
      refine hK _ _ ?_
      clear hK K
      have hal := (Below.refl W0.heap.size W0).alloc (Nat.le_refl _) (.cells #[.int .i64 x] 3)
      have S1 := S0.below hal
      have hb1 := hb0.trans (hal.mono hb0.size)
      have cx : (W0.alloc (.cells #[.int .i64 x] 3)).cell? ⟨W0.heap.size, 0, none⟩ = some (.int .i64 x) := (Boxed.new W0 3 _).cell
      have hbase1 : base ≤ (W0.alloc (.cells #[.int .i64 x] 3)).heap.size := by have := hbase; have := hb1.size; omega
      generalize W0.alloc (.cells #[.int .i64 x] 3) = W1 at *
      refine wpAny_ready (rs := [8]) (by kernel_rfl) (by simp) (AllReady.cons rfl (fun K hK => ?_) AllReady.nil)
      have c0 := S1.cell.1
      go_simp
      refine hK _ _ ?_
      clear hK K c0
      refine wpAny_ready (rs := [10]) (by kernel_rfl) (by simp) (AllReady.cons rfl (fun K hK => ?_) AllReady.nil)
      have c0 := S1.qm.look (p := p) (by omega)
      obtain ⟨AV, cV, hV, _, _⟩ := (S1.q p).shape
      rw [hV] at c0
      go_simp
      refine hK _ _ ?_
      clear hK K c0
      refine wpAny_ready (rs := [13]) (by kernel_rfl) (by simp) (AllReady.cons rfl (fun K hK => ?_) AllReady.nil)
      have hqp := S1.q p
      rw [hV] at hqp
      refine step_push rfl (.tmp 16) (.tmp 18) rfl base (.slice AV (Q p).length cV) (Q p) (by simp [Act.eval] <;> rfl) hqp x hx _ (by simp [Act.eval] <;> rfl) cx hlen hbase1 ?_
      intro v' W2 hq2 hg2 ho2
      rw [← hV] at hg2 ho2
      obtain ⟨A2, c2, hv2, _, _⟩ := hq2.shape
      subst hv2
      have hc0 : W2.cell? ⟨s, 0, none⟩ = some (.map (some gm)) := by rw [cell_of_row W2 s 0 _ 58 (0, 0) ((grown_same hg2 S1.lt (fun e => by have := ((S1.q p).lt e.symm).1; have := S1.sb; omega)).trans S1.cells)]; rfl
      have hm2 : QM W2 gm n val := S1.qm.kept hg2 (fun e => by have := ((S1.q p).lt e.symm).1; have := S1.gb; omega)
      refine hK _ _ ?_
      clear hK K
      refine wpAny_ready (rs := [14]) (by kernel_rfl) (by simp) (AllReady.cons rfl (fun K hK => ?_) AllReady.nil)
      refine step_put rfl (.tmp 9) (.tmp 10) (.tmp 19) rfl gm n val p (.slice A2 (Q p ++ [x]).length c2) (by simp [Act.eval] <;> rfl) (by simp [Act.eval] <;> rfl) (by simp [Act.eval] <;> rfl) hm2 hn (by omega) ?_
      intro W3 hm3 hg3
      have hf := fin.out W1 W2 W3 _ hb1 S1 hq2 hg2 ho2 hm3 hg3
      refine hK _ _ ?_
      clear hK K
      refine wpAny_done (by kernel_rfl) ?_ _
      have Hf := Lib.hid hf
      obtain ⟨c1, c2, _⟩ := hf
      clear fin
      go_wp2_with fail
      refine bodyPost_end (results_none rfl _ _ _) rfl ?_
      exact ⟨rfl, Hf.out.2.2⟩
  · have c0 := S0.cell.1
    go_simp
    refine hK _ _ ?_
    clear hK K c0
    refine wpAny_ready (rs := [3, 10, 12]) (by kernel_rfl) (by simp) (AllReady.cons rfl (fun K hK => ?_) (AllReady.cons rfl (fun K hK => ?_) (AllReady.cons rfl (fun K hK => ?_) AllReady.nil)))
    · have c0 := S0.cell.1
      go_simp
      refine hK _ _ ?_
      clear hK K c0
      refine wpAny_ready (rs := [10, 12]) (by kernel_rfl) (by simp) (AllReady.cons rfl (fun K hK => ?_) (AllReady.cons rfl (fun K hK => ?_) AllReady.nil))
      · have c0 := S0.qm.look (p := p) (by omega)
        obtain ⟨AV, cV, hV, _, _⟩ := (S0.q p).shape
        rw [hV] at c0
        go_simp
        refine hK _ _ ?_
        clear hK K c0
        refine wpAny_ready (rs := [12]) (by kernel_rfl) (by simp) (AllReady.cons rfl (fun K hK => ?_) AllReady.nil)
        go_simp
        refine hK _ _ ?_
        clear hK K
        have hal := (Below.refl W0.heap.size W0).alloc (Nat.le_refl _) (.cells #[.int .i64 x] 3)
        have S1 := S0.below hal
        have hb1 := hb0.trans (hal.mono hb0.size)
        have cx : (W0.alloc (.cells #[.int .i64 x] 3)).cell? ⟨W0.heap.size, 0, none⟩ = some (.int .i64 x) := (Boxed.new W0 3 _).cell
        have hbase1 : base ≤ (W0.alloc (.cells #[.int .i64 x] 3)).heap.size := by have := hbase; have := hb1.size; omega
        generalize W0.alloc (.cells #[.int .i64 x] 3) = W1 at *
        refine wpAny_ready (rs := [13]) (by kernel_rfl) (by simp) (AllReady.cons rfl (fun K hK => ?_) AllReady.nil)
        have hqp := S1.q p
        rw [hV] at hqp
        refine step_push rfl (.tmp 16) (.tmp 18) rfl base (.slice AV (Q p).length cV) (Q p) (by simp [Act.eval] <;> rfl) hqp x hx _ (by simp [Act.eval] <;> rfl) cx hlen hbase1 ?_
        intro v' W2 hq2 hg2 ho2
        rw [← hV] at hg2 ho2
        obtain ⟨A2, c2, hv2, _, _⟩ := hq2.shape
        subst hv2
        have hc0 : W2.cell? ⟨s, 0, none⟩ = some (.map (some gm)) := by rw [cell_of_row W2 s 0 _ 58 (0, 0) ((grown_same hg2 S1.lt (fun e => by have := ((S1.q p).lt e.symm).1; have := S1.sb; omega)).trans S1.cells)]; rfl
        have hm2 : QM W2 gm n val := S1.qm.kept hg2 (fun e => by have := ((S1.q p).lt e.symm).1; have := S1.gb; omega)
        refine hK _ _ ?_
        clear hK K
        refine wpAny_ready (rs := [14]) (by kernel_rfl) (by simp) (AllReady.cons rfl (fun K hK => ?_) AllReady.nil)
        refine step_put rfl (.tmp 9) (.tmp 10) (.tmp 19) rfl gm n val p (.slice A2 (Q p ++ [x]).length c2) (by simp [Act.eval] <;> rfl) (by simp [Act.eval] <;> rfl) (by simp [Act.eval] <;> rfl) hm2 hn (by omega) ?_
        intro W3 hm3 hg3
        have hf := fin.out W1 W2 W3 _ hb1 S1 hq2 hg2 ho2 hm3 hg3
        refine hK _ _ ?_
        clear hK K
        refine wpAny_done (by kernel_rfl) ?_ _
        have Hf := Lib.hid hf
        obtain ⟨c1, c2, _⟩ := hf
        clear fin
        go_wp2_with fail
        refine bodyPost_end (results_none rfl _ _ _) rfl ?_
        exact ⟨rfl, Hf.out.2.2⟩
      · go_simp
        refine hK _ _ ?_
        clear hK K
        have hal := (Below.refl W0.heap.size W0).alloc (Nat.le_refl _) (.cells #[.int .i64 x] 3)
        have S1 := S0.below hal
        have hb1 := hb0.trans (hal.mono hb0.size)
        have cx : (W0.alloc (.cells #[.int .i64 x] 3)).cell? ⟨W0.heap.size, 0, none⟩ = some (.int .i64 x) := (Boxed.new W0 3 _).cell
        have hbase1 : base ≤ (W0.alloc (.cells #[.int .i64 x] 3)).heap.size := by have := hbase; have := hb1.size; omega
        generalize W0.alloc (.cells #[.int .i64 x] 3) = W1 at *
        refine wpAny_ready (rs := [10]) (by kernel_rfl) (by simp) (AllReady.cons rfl (fun K hK => ?_) AllReady.nil)
        have c0 := S1.qm.look (p := p) (by omega)
        obtain ⟨AV, cV, hV, _, _⟩ := (S1.q p).shape
        rw [hV] at c0
        go_simp
        refine hK _ _ ?_
        clear hK K c0
        refine wpAny_ready (rs := [13]) (by kernel_rfl) (by simp) (AllReady.cons rfl (fun K hK => ?_) AllReady.nil)
        have hqp := S1.q p
        rw [hV] at hqp
        refine step_push rfl (.tmp 16) (.tmp 18) rfl base (.slice AV (Q p).length cV) (Q p) (by simp [Act.eval] <;> rfl) hqp x hx _ (by simp [Act.eval] <;> rfl) cx hlen hbase1 ?_
        intro v' W2 hq2 hg2 ho2
        rw [← hV] at hg2 ho2
        obtain ⟨A2, c2, hv2, _, _⟩ := hq2.shape
        subst hv2
        have hc0 : W2.cell? ⟨s, 0, none⟩ = some (.map (some gm)) := by rw [cell_of_row W2 s 0 _ 58 (0, 0) ((grown_same hg2 S1.lt (fun e => by have := ((S1.q p).lt e.symm).1; have := S1.sb; omega)).trans S1.cells)]; rfl
        have hm2 : QM W2 gm n val := S1.qm.kept hg2 (fun e => by have := ((S1.q p).lt e.symm).1; have := S1.gb; omega)
        refine hK _ _ ?_
        clear hK K
        refine wpAny_ready (rs := [14]) (by kernel_rfl) (by simp) (AllReady.cons rfl (fun K hK => ?_) AllReady.nil)
        refine step_put rfl (.tmp 9) (.tmp 10) (.tmp 19) rfl gm n val p (.slice A2 (Q p ++ [x]).length c2) (by simp [Act.eval] <;> rfl) (by simp [Act.eval] <;> rfl) (by simp [Act.eval] <;> rfl) hm2 hn (by omega) ?_
        intro W3 hm3 hg3
        have hf := fin.out W1 W2 W3 _ hb1 S1 hq2 hg2 ho2 hm3 hg3
        refine hK _ _ ?_
        clear hK K
        refine wpAny_done (by kernel_rfl) ?_ _
        have Hf := Lib.hid hf
        obtain ⟨c1, c2, _⟩ := hf
        clear fin
        go_wp2_with fail
        refine bodyPost_end (results_none rfl _ _ _) rfl ?_
        exact ⟨rfl, Hf.out.2.2⟩
    · have c0 := S0.qm.look (p := p) (by omega)
      obtain ⟨AV, cV, hV, _, _⟩ := (S0.q p).shape
      rw [hV] at c0
      go_simp
      refine hK _ _ ?_
      clear hK K c0
      refine wpAny_ready (rs := [3, 12]) (by kernel_rfl) (by simp) (AllReady.cons rfl (fun K hK => ?_) (AllReady.cons rfl (fun K hK => ?_) AllReady.nil))
      · have c0 := S0.cell.1
        go_simp
        refine hK _ _ ?_
        clear hK K c0
        refine wpAny_ready (rs := [12]) (by kernel_rfl) (by simp) (AllReady.cons rfl (fun K hK => ?_) AllReady.nil)
        go_simp
        refine hK _ _ ?_
        clear hK K
        have hal := (Below.refl W0.heap.size W0).alloc (Nat.le_refl _) (.cells #[.int .i64 x] 3)
        have S1 := S0.below hal
        have hb1 := hb0.trans (hal.mono hb0.size)
        have cx : (W0.alloc (.cells #[.int .i64 x] 3)).cell? ⟨W0.heap.size, 0, none⟩ = some (.int .i64 x) := (Boxed.new W0 3 _).cell
        have hbase1 : base ≤ (W0.alloc (.cells #[.int .i64 x] 3)).heap.size := by have := hbase; have := hb1.size; omega
        generalize W0.alloc (.cells #[.int .i64 x] 3) = W1 at *
        refine wpAny_ready (rs := [13]) (by kernel_rfl) (by simp) (AllReady.cons rfl (fun K hK => ?_) AllReady.nil)
        have hqp := S1.q p
        rw [hV] at hqp
        refine step_push rfl (.tmp 16) (.tmp 18) rfl base (.slice AV (Q p).length cV) (Q p) (by simp [Act.eval] <;> rfl) hqp x hx _ (by simp [Act.eval] <;> rfl) cx hlen hbase1 ?_
        intro v' W2 hq2 hg2 ho2
        rw [← hV] at hg2 ho2
        obtain ⟨A2, c2, hv2, _, _⟩ := hq2.shape
        subst hv2
        have hc0 : W2.cell? ⟨s, 0, none⟩ = some (.map (some gm)) := by rw [cell_of_row W2 s 0 _ 58 (0, 0) ((grown_same hg2 S1.lt (fun e => by have := ((S1.q p).lt e.symm).1; have := S1.sb; omega)).trans S1.cells)]; rfl
        have hm2 : QM W2 gm n val := S1.qm.kept hg2 (fun e => by have := ((S1.q p).lt e.symm).1; have := S1.gb; omega)
        refine hK _ _ ?_
        clear hK K
        refine wpAny_ready (rs := [14]) (by kernel_rfl) (by simp) (AllReady.cons rfl (fun K hK => ?_) AllReady.nil)
        refine step_put rfl (.tmp 9) (.tmp 10) (.tmp 19) rfl gm n val p (.slice A2 (Q p ++ [x]).length c2) (by simp [Act.eval] <;> rfl) (by simp [Act.eval] <;> rfl) (by simp [Act.eval] <;> rfl) hm2 hn (by omega) ?_
        intro W3 hm3 hg3
        have hf := fin.out W1 W2 W3 _ hb1 S1 hq2 hg2 ho2 hm3 hg3
        refine hK _ _ ?_
        clear hK K
        refine wpAny_done (by kernel_rfl) ?_ _
        have Hf := Lib.hid hf
        obtain ⟨c1, c2, _⟩ := hf
        clear fin
        go_wp2_with fail
        refine bodyPost_end (results_none rfl _ _ _) rfl ?_
        exact ⟨rfl, Hf.out.2.2⟩
      · go_simp
        refine hK _ _ ?_
        clear hK K
        have hal := (Below.refl W0.heap.size W0).alloc (Nat.le_refl _) (.cells #[.int .i64 x] 3)
        have S1 := S0.below hal
        have hb1 := hb0.trans (hal.mono hb0.size)
        have cx : (W0.alloc (.cells #[.int .i64 x] 3)).cell? ⟨W0.heap.size, 0, none⟩ = some (.int .i64 x) := (Boxed.new W0 3 _).cell
        have hbase1 : base ≤ (W0.alloc (.cells #[.int .i64 x] 3)).heap.size := by have := hbase; have := hb1.size; omega
        generalize W0.alloc (.cells #[.int .i64 x] 3) = W1 at *
        refine wpAny_ready (rs := [3, 13]) (by kernel_rfl) (by simp) (AllReady.cons rfl (fun K hK => ?_) (AllReady.cons rfl (fun K hK => ?_) AllReady.nil))
        · have c0 := S1.cell.1
          go_simp
          refine hK _ _ ?_
          clear hK K c0
          refine wpAny_ready (rs := [13]) (by kernel_rfl) (by simp) (AllReady.cons rfl (fun K hK => ?_) AllReady.nil)
          have hqp := S1.q p
          rw [hV] at hqp
          refine step_push rfl (.tmp 16) (.tmp 18) rfl base (.slice AV (Q p).length cV) (Q p) (by simp [Act.eval] <;> rfl) hqp x hx _ (by simp [Act.eval] <;> rfl) cx hlen hbase1 ?_
          intro v' W2 hq2 hg2 ho2
          rw [← hV] at hg2 ho2
          obtain ⟨A2, c2, hv2, _, _⟩ := hq2.shape
          subst hv2
          have hc0 : W2.cell? ⟨s, 0, none⟩ = some (.map (some gm)) := by rw [cell_of_row W2 s 0 _ 58 (0, 0) ((grown_same hg2 S1.lt (fun e => by have := ((S1.q p).lt e.symm).1; have := S1.sb; omega)).trans S1.cells)]; rfl
          have hm2 : QM W2 gm n val := S1.qm.kept hg2 (fun e => by have := ((S1.q p).lt e.symm).1; have := S1.gb; omega)
          refine hK _ _ ?_
          clear hK K
          refine wpAny_ready (rs := [14]) (by kernel_rfl) (by simp) (AllReady.cons rfl (fun K hK => ?_) AllReady.nil)
          refine step_put rfl (.tmp 9) (.tmp 10) (.tmp 19) rfl gm n val p (.slice A2 (Q p ++ [x]).length c2) (by simp [Act.eval] <;> rfl) (by simp [Act.eval] <;> rfl) (by simp [Act.eval] <;> rfl) hm2 hn (by omega) ?_
          intro W3 hm3 hg3
          have hf := fin.out W1 W2 W3 _ hb1 S1 hq2 hg2 ho2 hm3 hg3
          refine hK _ _ ?_
          clear hK K
          refine wpAny_done (by kernel_rfl) ?_ _
          have Hf := Lib.hid hf
          obtain ⟨c1, c2, _⟩ := hf
          clear fin
          go_wp2_with fail
          refine bodyPost_end (results_none rfl _ _ _) rfl ?_
          exact ⟨rfl, Hf.out.2.2⟩
        · have hqp := S1.q p
          rw [hV] at hqp
          refine step_push rfl (.tmp 16) (.tmp 18) rfl base (.slice AV (Q p).length cV) (Q p) (by simp [Act.eval] <;> rfl) hqp x hx _ (by simp [Act.eval] <;> rfl) cx hlen hbase1 ?_
          intro v' W2 hq2 hg2 ho2
          rw [← hV] at hg2 ho2
          obtain ⟨A2, c2, hv2, _, _⟩ := hq2.shape
          subst hv2
          have hc0 : W2.cell? ⟨s, 0, none⟩ = some (.map (some gm)) := by rw [cell_of_row W2 s 0 _ 58 (0, 0) ((grown_same hg2 S1.lt (fun e => by have := ((S1.q p).lt e.symm).1; have := S1.sb; omega)).trans S1.cells)]; rfl
          have hm2 : QM W2 gm n val := S1.qm.kept hg2 (fun e => by have := ((S1.q p).lt e.symm).1; have := S1.gb; omega)
          refine hK _ _ ?_
          clear hK K
          refine wpAny_ready (rs := [3]) (by kernel_rfl) (by simp) (AllReady.cons rfl (fun K hK => ?_) AllReady.nil)
          have c0 := hc0
          go_simp
          refine hK _ _ ?_
          clear hK K c0
          refine wpAny_ready (rs := [14]) (by kernel_rfl) (by simp) (AllReady.cons rfl (fun K hK => ?_) AllReady.nil)
          refine step_put rfl (.tmp 9) (.tmp 10) (.tmp 19) rfl gm n val p (.slice A2 (Q p ++ [x]).length c2) (by simp [Act.eval] <;> rfl) (by simp [Act.eval] <;> rfl) (by simp [Act.eval] <;> rfl) hm2 hn (by omega) ?_
          intro W3 hm3 hg3
          have hf := fin.out W1 W2 W3 _ hb1 S1 hq2 hg2 ho2 hm3 hg3
          refine hK _ _ ?_
          clear hK K
          refine wpAny_done (by kernel_rfl) ?_ _
          have Hf := Lib.hid hf
          obtain ⟨c1, c2, _⟩ := hf
          clear fin
          go_wp2_with fail
          refine bodyPost_end (results_none rfl _ _ _) rfl ?_
          exact ⟨rfl, Hf.out.2.2⟩
    · go_simp
      refine hK _ _ ?_
      clear hK K
      have hal := (Below.refl W0.heap.size W0).alloc (Nat.le_refl _) (.cells #[.int .i64 x] 3)
      have S1 := S0.below hal
      have hb1 := hb0.trans (hal.mono hb0.size)
      have cx : (W0.alloc (.cells #[.int .i64 x] 3)).cell? ⟨W0.heap.size, 0, none⟩ = some (.int .i64 x) := (Boxed.new W0 3 _).cell
      have hbase1 : base ≤ (W0.alloc (.cells #[.int .i64 x] 3)).heap.size := by have := hbase; have := hb1.size; omega
      generalize W0.alloc (.cells #[.int .i64 x] 3) = W1 at *
      refine wpAny_ready (rs := [3, 10]) (by kernel_rfl) (by simp) (AllReady.cons rfl (fun K hK => ?_) (AllReady.cons rfl (fun K hK => ?_) AllReady.nil))
      · have c0 := S1.cell.1
        go_simp
        refine hK _ _ ?_
        clear hK K c0
        refine wpAny_ready (rs := [10]) (by kernel_rfl) (by simp) (AllReady.cons rfl (fun K hK => ?_) AllReady.nil)
        have c0 := S1.qm.look (p := p) (by omega)
        obtain ⟨AV, cV, hV, _, _⟩ := (S1.q p).shape
        rw [hV] at c0
        go_simp
        refine hK _ _ ?_
        clear hK K c0
        refine wpAny_ready (rs := [13]) (by kernel_rfl) (by simp) (AllReady.cons rfl (fun K hK => ?_) AllReady.nil)
        have hqp := S1.q p
        rw [hV] at hqp
        refine step_push rfl (.tmp 16) (.tmp 18) rfl base (.slice AV (Q p).length cV) (Q p) (by simp [Act.eval] <;> rfl) hqp x hx _ (by simp [Act.eval] <;> rfl) cx hlen hbase1 ?_
        intro v' W2 hq2 hg2 ho2
        rw [← hV] at hg2 ho2
        obtain ⟨A2, c2, hv2, _, _⟩ := hq2.shape
        subst hv2
        have hc0 : W2.cell? ⟨s, 0, none⟩ = some (.map (some gm)) := by rw [cell_of_row W2 s 0 _ 58 (0, 0) ((grown_same hg2 S1.lt (fun e => by have := ((S1.q p).lt e.symm).1; have := S1.sb; omega)).trans S1.cells)]; rfl
        have hm2 : QM W2 gm n val := S1.qm.kept hg2 (fun e => by have := ((S1.q p).lt e.symm).1; have := S1.gb; omega)
        refine hK _ _ ?_
        clear hK K
        refine wpAny_ready (rs := [14]) (by kernel_rfl) (by simp) (AllReady.cons rfl (fun K hK => ?_) AllReady.nil)
        refine step_put rfl (.tmp 9) (.tmp 10) (.tmp 19) rfl gm n val p (.slice A2 (Q p ++ [x]).length c2) (by simp [Act.eval] <;> rfl) (by simp [Act.eval] <;> rfl) (by simp [Act.eval] <;> rfl) hm2 hn (by omega) ?_
        intro W3 hm3 hg3
        have hf := fin.out W1 W2 W3 _ hb1 S1 hq2 hg2 ho2 hm3 hg3
        refine hK _ _ ?_
        clear hK K
        refine wpAny_done (by kernel_rfl) ?_ _
        have Hf := Lib.hid hf
        obtain ⟨c1, c2, _⟩ := hf
        clear fin
        go_wp2_with fail
        refine bodyPost_end (results_none rfl _ _ _) rfl ?_
        exact ⟨rfl, Hf.out.2.2⟩
      · have c0 := S1.qm.look (p := p) (by omega)
        obtain ⟨AV, cV, hV, _, _⟩ := (S1.q p).shape
        rw [hV] at c0
        go_simp
        refine hK _ _ ?_
        clear hK K c0
        refine wpAny_ready (rs := [3, 13]) (by kernel_rfl) (by simp) (AllReady.cons rfl (fun K hK => ?_) (AllReady.cons rfl (fun K hK => ?_) AllReady.nil))
        · have c0 := S1.cell.1
          go_simp
          refine hK _ _ ?_
          clear hK K c0
          refine wpAny_ready (rs := [13]) (by kernel_rfl) (by simp) (AllReady.cons rfl (fun K hK => ?_) AllReady.nil)
          have hqp := S1.q p
          rw [hV] at hqp
          refine step_push rfl (.tmp 16) (.tmp 18) rfl base (.slice AV (Q p).length cV) (Q p) (by simp [Act.eval] <;> rfl) hqp x hx _ (by simp [Act.eval] <;> rfl) cx hlen hbase1 ?_
          intro v' W2 hq2 hg2 ho2
          rw [← hV] at hg2 ho2
          obtain ⟨A2, c2, hv2, _, _⟩ := hq2.shape
          subst hv2
          have hc0 : W2.cell? ⟨s, 0, none⟩ = some (.map (some gm)) := by rw [cell_of_row W2 s 0 _ 58 (0, 0) ((grown_same hg2 S1.lt (fun e => by have := ((S1.q p).lt e.symm).1; have := S1.sb; omega)).trans S1.cells)]; rfl
          have hm2 : QM W2 gm n val := S1.qm.kept hg2 (fun e => by have := ((S1.q p).lt e.symm).1; have := S1.gb; omega)
          refine hK _ _ ?_
          clear hK K
          refine wpAny_ready (rs := [14]) (by kernel_rfl) (by simp) (AllReady.cons rfl (fun K hK => ?_) AllReady.nil)
          refine step_put rfl (.tmp 9) (.tmp 10) (.tmp 19) rfl gm n val p (.slice A2 (Q p ++ [x]).length c2) (by simp [Act.eval] <;> rfl) (by simp [Act.eval] <;> rfl) (by simp [Act.eval] <;> rfl) hm2 hn (by omega) ?_
          intro W3 hm3 hg3
          have hf := fin.out W1 W2 W3 _ hb1 S1 hq2 hg2 ho2 hm3 hg3
          refine hK _ _ ?_
          clear hK K
          refine wpAny_done (by kernel_rfl) ?_ _
          have Hf := Lib.hid hf
          obtain ⟨c1, c2, _⟩ := hf
          clear fin
          go_wp2_with fail
          refine bodyPost_end (results_none rfl _ _ _) rfl ?_
          exact ⟨rfl, Hf.out.2.2⟩
        · have hqp := S1.q p
          rw [hV] at hqp
          refine step_push rfl (.tmp 16) (.tmp 18) rfl base (.slice AV (Q p).length cV) (Q p) (by simp [Act.eval] <;> rfl) hqp x hx _ (by simp [Act.eval] <;> rfl) cx hlen hbase1 ?_
          intro v' W2 hq2 hg2 ho2
          rw [← hV] at hg2 ho2
          obtain ⟨A2, c2, hv2, _, _⟩ := hq2.shape
          subst hv2
          have hc0 : W2.cell? ⟨s, 0, none⟩ = some (.map (some gm)) := by rw [cell_of_row W2 s 0 _ 58 (0, 0) ((grown_same hg2 S1.lt (fun e => by have := ((S1.q p).lt e.symm).1; have := S1.sb; omega)).trans S1.cells)]; rfl
          have hm2 : QM W2 gm n val := S1.qm.kept hg2 (fun e => by have := ((S1.q p).lt e.symm).1; have := S1.gb; omega)
          refine hK _ _ ?_
          clear hK K
          refine wpAny_ready (rs := [3]) (by kernel_rfl) (by simp) (AllReady.cons rfl (fun K hK => ?_) AllReady.nil)
          have c0 := hc0
          go_simp
          refine hK _ _ ?_
          clear hK K c0
          refine wpAny_ready (rs := [14]) (by kernel_rfl) (by simp) (AllReady.cons rfl (fun K hK => ?_) AllReady.nil)
          refine step_put rfl (.tmp 9) (.tmp 10) (.tmp 19) rfl gm n val p (.slice A2 (Q p ++ [x]).length c2) (by simp [Act.eval] <;> rfl) (by simp [Act.eval] <;> rfl) (by simp [Act.eval] <;> rfl) hm2 hn (by omega) ?_
          intro W3 hm3 hg3
          have hf := fin.out W1 W2 W3 _ hb1 S1 hq2 hg2 ho2 hm3 hg3
          refine hK _ _ ?_
          clear hK K
          refine wpAny_done (by kernel_rfl) ?_ _
          have Hf := Lib.hid hf
          obtain ⟨c1, c2, _⟩ := hf
          clear fin
          go_wp2_with fail
          refine bodyPost_end (results_none rfl _ _ _) rfl ?_
          exact ⟨rfl, Hf.out.2.2⟩
  · go_simp
    refine hK _ _ ?_
    clear hK K
    have hal := (Below.refl W0.heap.size W0).alloc (Nat.le_refl _) (.cells #[.int .i64 x] 3)
    have S1 := S0.below hal
    have hb1 := hb0.trans (hal.mono hb0.size)
    have cx : (W0.alloc (.cells #[.int .i64 x] 3)).cell? ⟨W0.heap.size, 0, none⟩ = some (.int .i64 x) := (Boxed.new W0 3 _).cell
    have hbase1 : base ≤ (W0.alloc (.cells #[.int .i64 x] 3)).heap.size := by have := hbase; have := hb1.size; omega
    generalize W0.alloc (.cells #[.int .i64 x] 3) = W1 at *
    refine wpAny_ready (rs := [3, 8]) (by kernel_rfl) (by simp) (AllReady.cons rfl (fun K hK => ?_) (AllReady.cons rfl (fun K hK => ?_) AllReady.nil))
    · have c0 := S1.cell.1
      go_simp
      refine hK _ _ ?_
      clear hK K c0
      refine wpAny_ready (rs := [8]) (by kernel_rfl) (by simp) (AllReady.cons rfl (fun K hK => ?_) AllReady.nil)
      have c0 := S1.cell.1
      go_simp
      refine hK _ _ ?_
      clear hK K c0
      refine wpAny_ready (rs := [10]) (by kernel_rfl) (by simp) (AllReady.cons rfl (fun K hK => ?_) AllReady.nil)
      have c0 := S1.qm.look (p := p) (by omega)
      obtain ⟨AV, cV, hV, _, _⟩ := (S1.q p).shape
      rw [hV] at c0
      go_simp
      refine hK _ _ ?_
      clear hK K c0
      refine wpAny_ready (rs := [13]) (by kernel_rfl) (by simp) (AllReady.cons rfl (fun K hK => ?_) AllReady.nil)
      have hqp := S1.q p
      rw [hV] at hqp
      refine step_push rfl (.tmp 16) (.tmp 18) rfl base (.slice AV (Q p).length cV) (Q p) (by simp [Act.eval] <;> rfl) hqp x hx _ (by simp [Act.eval] <;> rfl) cx hlen hbase1 ?_
      intro v' W2 hq2 hg2 ho2
      rw [← hV] at hg2 ho2
      obtain ⟨A2, c2, hv2, _, _⟩ := hq2.shape
      subst hv2
      have hc0 : W2.cell? ⟨s, 0, none⟩ = some (.map (some gm)) := by rw [cell_of_row W2 s 0 _ 58 (0, 0) ((grown_same hg2 S1.lt (fun e => by have := ((S1.q p).lt e.symm).1; have := S1.sb; omega)).trans S1.cells)]; rfl
      have hm2 : QM W2 gm n val := S1.qm.kept hg2 (fun e => by have := ((S1.q p).lt e.symm).1; have := S1.gb; omega)
      refine hK _ _ ?_
      clear hK K
      refine wpAny_ready (rs := [14]) (by kernel_rfl) (by simp) (AllReady.cons rfl (fun K hK => ?_) AllReady.nil)
      refine step_put rfl (.tmp 9) (.tmp 10) (.tmp 19) rfl gm n val p (.slice A2 (Q p ++ [x]).length c2) (by simp [Act.eval] <;> rfl) (by simp [Act.eval] <;> rfl) (by simp [Act.eval] <;> rfl) hm2 hn (by omega) ?_
      intro W3 hm3 hg3
      have hf := fin.out W1 W2 W3 _ hb1 S1 hq2 hg2 ho2 hm3 hg3
      refine hK _ _ ?_
      clear hK K
      refine wpAny_done (by kernel_rfl) ?_ _
      have Hf := Lib.hid hf
      obtain ⟨c1, c2, _⟩ := hf
      clear fin
      go_wp2_with fail
      refine bodyPost_end (results_none rfl _ _ _) rfl ?_
      exact ⟨rfl, Hf.out.2.2⟩
    · have c0 := S1.cell.1
      go_simp
      refine hK _ _ ?_
      clear hK K c0
      refine wpAny_ready (rs := [3, 10]) (by kernel_rfl) (by simp) (AllReady.cons rfl (fun K hK => ?_) (AllReady.cons rfl (fun K hK => ?_) AllReady.nil))
      · have c0 := S1.cell.1
        go_simp
        refine hK _ _ ?_
        clear hK K c0
        refine wpAny_ready (rs := [10]) (by kernel_rfl) (by simp) (AllReady.cons rfl (fun K hK => ?_) AllReady.nil)
        have c0 := S1.qm.look (p := p) (by omega)
        obtain ⟨AV, cV, hV, _, _⟩ := (S1.q p).shape
        rw [hV] at c0
        go_simp
        refine hK _ _ ?_
        clear hK K c0
        refine wpAny_ready (rs := [13]) (by kernel_rfl) (by simp) (AllReady.cons rfl (fun K hK => ?_) AllReady.nil)
        have hqp := S1.q p
        rw [hV] at hqp
        refine step_push rfl (.tmp 16) (.tmp 18) rfl base (.slice AV (Q p).length cV) (Q p) (by simp [Act.eval] <;> rfl) hqp x hx _ (by simp [Act.eval] <;> rfl) cx hlen hbase1 ?_
        intro v' W2 hq2 hg2 ho2
        rw [← hV] at hg2 ho2
        obtain ⟨A2, c2, hv2, _, _⟩ := hq2.shape
        subst hv2
        have hc0 : W2.cell? ⟨s, 0, none⟩ = some (.map (some gm)) := by rw [cell_of_row W2 s 0 _ 58 (0, 0) ((grown_same hg2 S1.lt (fun e => by have := ((S1.q p).lt e.symm).1; have := S1.sb; omega)).trans S1.cells)]; rfl
        have hm2 : QM W2 gm n val := S1.qm.kept hg2 (fun e => by have := ((S1.q p).lt e.symm).1; have := S1.gb; omega)
        refine hK _ _ ?_
        clear hK K
        refine wpAny_ready (rs := [14]) (by kernel_rfl) (by simp) (AllReady.cons rfl (fun K hK => ?_) AllReady.nil)
        refine step_put rfl (.tmp 9) (.tmp 10) (.tmp 19) rfl gm n val p (.slice A2 (Q p ++ [x]).length c2) (by simp [Act.eval] <;> rfl) (by simp [Act.eval] <;> rfl) (by simp [Act.eval] <;> rfl) hm2 hn (by omega) ?_
        intro W3 hm3 hg3
        have hf := fin.out W1 W2 W3 _ hb1 S1 hq2 hg2 ho2 hm3 hg3
        refine hK _ _ ?_
        clear hK K
        refine wpAny_done (by kernel_rfl) ?_ _
        have Hf := Lib.hid hf
        obtain ⟨c1, c2, _⟩ := hf
        clear fin
        go_wp2_with fail
        refine bodyPost_end (results_none rfl _ _ _) rfl ?_
        exact ⟨rfl, Hf.out.2.2⟩
      · have c0 := S1.qm.look (p := p) (by omega)
        obtain ⟨AV, cV, hV, _, _⟩ := (S1.q p).shape
        rw [hV] at c0
        go_simp
        refine hK _ _ ?_
        clear hK K c0
        refine wpAny_ready (rs := [3, 13]) (by kernel_rfl) (by simp) (AllReady.cons rfl (fun K hK => ?_) (AllReady.cons rfl (fun K hK => ?_) AllReady.nil))
        · have c0 := S1.cell.1
          go_simp
          refine hK _ _ ?_
          clear hK K c0
          refine wpAny_ready (rs := [13]) (by kernel_rfl) (by simp) (AllReady.cons rfl (fun K hK => ?_) AllReady.nil)
          have hqp := S1.q p
          rw [hV] at hqp
          refine step_push rfl (.tmp 16) (.tmp 18) rfl base (.slice AV (Q p).length cV) (Q p) (by simp [Act.eval] <;> rfl) hqp x hx _ (by simp [Act.eval] <;> rfl) cx hlen hbase1 ?_
          intro v' W2 hq2 hg2 ho2
          rw [← hV] at hg2 ho2
          obtain ⟨A2, c2, hv2, _, _⟩ := hq2.shape
          subst hv2
          have hc0 : W2.cell? ⟨s, 0, none⟩ = some (.map (some gm)) := by rw [cell_of_row W2 s 0 _ 58 (0, 0) ((grown_same hg2 S1.lt (fun e => by have := ((S1.q p).lt e.symm).1; have := S1.sb; omega)).trans S1.cells)]; rfl
          have hm2 : QM W2 gm n val := S1.qm.kept hg2 (fun e => by have := ((S1.q p).lt e.symm).1; have := S1.gb; omega)
          refine hK _ _ ?_
          clear hK K
          refine wpAny_ready (rs := [14]) (by kernel_rfl) (by simp) (AllReady.cons rfl (fun K hK => ?_) AllReady.nil)
          refine step_put rfl (.tmp 9) (.tmp 10) (.tmp 19) rfl gm n val p (.slice A2 (Q p ++ [x]).length c2) (by simp [Act.eval] <;> rfl) (by simp [Act.eval] <;> rfl) (by simp [Act.eval] <;> rfl) hm2 hn (by omega) ?_
          intro W3 hm3 hg3
          have hf := fin.out W1 W2 W3 _ hb1 S1 hq2 hg2 ho2 hm3 hg3
          refine hK _ _ ?_
          clear hK K
          refine wpAny_done (by kernel_rfl) ?_ _
          have Hf := Lib.hid hf
          obtain ⟨c1, c2, _⟩ := hf
          clear fin
          go_wp2_with fail
          refine bodyPost_end (results_none rfl _ _ _) rfl ?_
          exact ⟨rfl, Hf.out.2.2⟩
        · have hqp := S1.q p
          rw [hV] at hqp
          refine step_push rfl (.tmp 16) (.tmp 18) rfl base (.slice AV (Q p).length cV) (Q p) (by simp [Act.eval] <;> rfl) hqp x hx _ (by simp [Act.eval] <;> rfl) cx hlen hbase1 ?_
          intro v' W2 hq2 hg2 ho2
          rw [← hV] at hg2 ho2
          obtain ⟨A2, c2, hv2, _, _⟩ := hq2.shape
          subst hv2
          have hc0 : W2.cell? ⟨s, 0, none⟩ = some (.map (some gm)) := by rw [cell_of_row W2 s 0 _ 58 (0, 0) ((grown_same hg2 S1.lt (fun e => by have := ((S1.q p).lt e.symm).1; have := S1.sb; omega)).trans S1.cells)]; rfl
          have hm2 : QM W2 gm n val := S1.qm.kept hg2 (fun e => by have := ((S1.q p).lt e.symm).1; have := S1.gb; omega)
          refine hK _ _ ?_
          clear hK K
          refine wpAny_ready (rs := [3]) (by kernel_rfl) (by simp) (AllReady.cons rfl (fun K hK => ?_) AllReady.nil)
          have c0 := hc0
          go_simp
          refine hK _ _ ?_
          clear hK K c0
          refine wpAny_ready (rs := [14]) (by kernel_rfl) (by simp) (AllReady.cons rfl (fun K hK => ?_) AllReady.nil)
          refine step_put rfl (.tmp 9) (.tmp 10) (.tmp 19) rfl gm n val p (.slice A2 (Q p ++ [x]).length c2) (by simp [Act.eval] <;> rfl) (by simp [Act.eval] <;> rfl) (by simp [Act.eval] <;> rfl) hm2 hn (by omega) ?_
          intro W3 hm3 hg3
          have hf := fin.out W1 W2 W3 _ hb1 S1 hq2 hg2 ho2 hm3 hg3
          refine hK _ _ ?_
          clear hK K
          refine wpAny_done (by kernel_rfl) ?_ _
          have Hf := Lib.hid hf
          obtain ⟨c1, c2, _⟩ := hf
          clear fin
          go_wp2_with fail
          refine bodyPost_end (results_none rfl _ _ _) rfl ?_
          exact ⟨rfl, Hf.out.2.2⟩
end Go.Proofs.Ytpeklcbjhkchlaa
