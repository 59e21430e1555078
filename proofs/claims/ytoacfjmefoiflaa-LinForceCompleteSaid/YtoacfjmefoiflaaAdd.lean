/- What lin.Add answers. -/
import Derived.Test.YtoacfjmefoiflaaCut
import Derived.Test.YtoacfjmefoiflaaConcat
import Derived.Deep.RegionHeld
namespace Go.Proofs.Ytoacfjmefoiflaa
open Go.RowKit Go.Maps
set_option maxRecDepth 100000

theorem takeH_now {P : Program} {md : Region.Mode} {ops : Array Oper} {Q : Exit → Act → World → Prop} {S : World → Prop} {i : Nat} (d : Option Tmp) {oi : Oper} {v : Value} {fuel : Nat} {listed : Array Bool} {a : Act} {w : World} (hi : ops[i]? = some oi)
    (hs : Region.noSelect ops = true) (hf : Region.free md ops listed i = true) (hr : (Region.ready md ops listed).contains i = true)
    (hQ : ∀ c a w, Q (.panic c) (a.put oi.dst v) w → Q (.panic c) a w) (hy : YieldsIf P ops S oi v a) (hd : oi.dst = d) (hS : S w)
    (h : wpAnyH P md ops Q S fuel (listed.setIfInBounds i true) (a.put d v) w) : wpAnyH P md ops Q S (fuel + 1) listed a w := by
  subst hd
  exact wpAnyH_take hi hs hf hr hQ hy hS h
theorem heap_below {w w' : World} {g : Nat} {o : Obj} (hb : Below w.heap.size w w') (h : w.heap[g]? = some o) : w'.heap[g]? = some o := (hb.block g (Array.getElem?_eq_some_iff.1 h).1).trans h
theorem RowI.nocap {w : World} {base : Nat} {A : Option Addr} {n c : Nat} {zs : List Int} (h : RowI w base (.slice A n c) zs) : A = Option.none → c = 0 := by
  intro hA
  subst hA
  rcases h.2.2 with ⟨e, _⟩ | ⟨g, cap, cur, e, _⟩
  · injection e
  · injection e with e; cases e
theorem RowI.rd2 {w : World} {base n c : Nat} {A : Option Addr} {zs : List Int} (h : RowI w base (.slice A n c) zs) : n = zs.length ∧ RdI w.heap.size w A zs := by
  obtain ⟨A', c', e, _, _, h2⟩ := h.shape
  injection e with e1 e2 e3
  subst e1
  exact ⟨e2, h2⟩
/-- A row whose block lies behind a struct's is not turned by stores to it. -/
theorem RowI.kept3 {w : World} {base j : Nat} {v : Value} {zs : List Int} (h : RowI w base v zs) (a b c : Value) (hj : j < base) : RowI (((w.setCell ⟨j, 0, none⟩ a).setCell ⟨j, 1, none⟩ b).setCell ⟨j, 2, none⟩ c) base v zs := by
  have key : ∀ (W : World) (o : Nat) (u : Value), RowI W base v zs → RowI (W.setCell ⟨j, o, none⟩ u) base v zs := fun W o u h => h.same fun k hk => heap_setCell_other W ⟨j, o, none⟩ k u (fun e => by have := (h.2.lt k hk).1; have e : k = j := e; omega)
  exact key _ _ _ (key _ _ _ (key _ _ _ h))

/-- Three blocks at the start of Add. -/
theorem add_world (A1 L1 A2 L2 : Option Addr) (n1 n2 c1 d1 c2 d2 : Nat) (k k2 : Int) (w W1 : World) (hW1 : W1 = (((w.alloc (.cells #[.slice A1 n1 c1, .slice L1 n1 d1, .int .i64 k] 24)).alloc (.cells #[.slice A2 n2 c2, .slice L2 n2 d2, .int .i64 k2] 24)).alloc (.cells #[.slice Option.none 0 0, .slice Option.none 0 0, .int .i64 0] 24))) :
    W1.heap.size = w.heap.size + 3 ∧ Below w.heap.size w W1 ∧ LinAt W1 w.heap.size (.slice A1 n1 c1) (.slice L1 n1 d1) k 24 ∧ LinAt W1 (w.heap.size + 1) (.slice A2 n2 c2) (.slice L2 n2 d2) k2 24 ∧ LinAt W1 (w.heap.size + 2) (.slice Option.none 0 0) (.slice Option.none 0 0) 0 24 := by
  refine ⟨by rw [hW1]; simp, by rw [hW1]; exact (((Below.refl _ _).alloc (Nat.le_refl _) _).alloc (by simp) _).alloc (by simp; omega) _, ?_, ?_, ?_⟩
  · rw [hW1]; exact (heap_alloc_old _ _ (by simp; omega)).trans ((heap_alloc_old _ _ (by simp)).trans (heap_alloc_new _ _))
  · have h := heap_alloc_new (w.alloc (.cells #[.slice A1 n1 c1, .slice L1 n1 d1, .int .i64 k] 24)) (.cells #[.slice A2 n2 c2, .slice L2 n2 d2, .int .i64 k2] 24)
    rw [World.size_alloc] at h
    rw [hW1]
    exact (heap_alloc_old _ _ (by simp)).trans h
  · have h := heap_alloc_new ((w.alloc (.cells #[.slice A1 n1 c1, .slice L1 n1 d1, .int .i64 k] 24)).alloc (.cells #[.slice A2 n2 c2, .slice L2 n2 d2, .int .i64 k2] 24)) (.cells #[.slice Option.none 0 0, .slice Option.none 0 0, .int .i64 0] 24)
    rw [World.size_alloc, World.size_alloc] at h
    rw [hW1]
    exact h

set_option maxHeartbeats 16000000 in
theorem Add_ok (B : Nat) (A1 L1 A2 L2 : Option Addr) (n1 n2 c1 d1 c2 d2 : Nat) (k k2 T : Int) (cs ls cs2 ls2 : List Int) (w : World) (r1 : RdI B w A1 cs) (r2 : RdI B w L1 ls) (r3 : RdI B w A2 cs2) (r4 : RdI B w L2 ls2) (hB : B ≤ w.heap.size)
    (h1 : cs.length = n1) (h2 : ls.length = n1) (h3 : cs2.length = n2) (h4 : ls2.length = n2) (hn1 : n1 ≤ 64) (hn2 : n2 ≤ 64) (ok1 : OkL cs ls k 65536) (ok2 : OkL cs2 ls2 k2 65536) (hT : T = k + k2) (hT2 : numB T = true)
    (z1 : A1 = Option.none → c1 = 0) (z2 : L1 = Option.none → d1 = 0) (z3 : A2 = Option.none → c2 = 0) (z4 : L2 = Option.none → d2 = 0) :
    Calls Try.prog 25 #[.agg #[.slice A1 n1 c1, .slice L1 n1 d1, .int .i64 k], .agg #[.slice A2 n2 c2, .slice L2 n2 d2, .int .i64 k2]] w (GivesL (cs ++ cs2) (ls ++ ls2) T w) := by
  obtain ⟨W1, hW1⟩ : ∃ W, W = _ := ⟨_, rfl⟩
  obtain ⟨hs1, hb1, hat1, hat2, hres⟩ := add_world A1 L1 A2 L2 n1 n2 c1 d1 c2 d2 k k2 w W1 hW1
  have hCk1 := (LinCheck_any B A1 L1 n1 n1 c1 d1 k 65536 cs ls W1 (r1.below hb1 hB) (r2.below hb1 hB) (by omega) h1 h2 (by omega) (by omega) (by omega)).1 ok1
  have hCk2 := fun W (h : Below w.heap.size w W) => (LinCheck_any B A2 L2 n2 n2 c2 d2 k2 65536 cs2 ls2 W (r3.below h hB) (r4.below h hB) (by have := h.size; omega) h3 h4 (by omega) (by omega) (by omega)).1 ok2
  have hk1 : -1099511627776 ≤ k ∧ k ≤ 1099511627776 := by have := ok1.2.2.2.1; unfold numB at this; simpa using this
  have hk2 : -1099511627776 ≤ k2 ∧ k2 ≤ 1099511627776 := by have := ok2.2.2.2.1; unfold numB at this; simpa using this
  have hnum := fun W => lnumber_any T W
  rw [hT2] at hnum
  obtain ⟨hk1a, hk1b⟩ := hk1
  obtain ⟨hk2a, hk2b⟩ := hk2
  have g1 : decide ((n1 : Int) + (n2 : Int) > 4096) = false := decide_eq_false (by omega)
  have g2 : decide (4096 < (n1 : Int) + (n2 : Int)) = false := decide_eq_false (by omega)
  have g3 : decide (4096 < n1 + n2) = false := decide_eq_false (by omega)
  have HCk1 := Lib.hid hCk1
  have HCk2 := Lib.hid hCk2
  have HNum := Lib.hid hnum
  have HW := Lib.hid hW1
  have H1 := Lib.hid (And.intro hat1 (And.intro hat2 hres))
  have HR := Lib.hid (And.intro (And.intro r1 (And.intro r2 (And.intro r3 r4))) (And.intro (And.intro h1 (And.intro h2 (And.intro h3 h4))) (And.intro z1 (And.intro z2 (And.intro z3 z4)))))
  obtain ⟨cC, cL, cK⟩ := hat1.cells
  rw [hW1] at cC cL cK
  have HT := Lib.hid hT
  clear hW1 hat1 hat2 hres r1 r2 r3 r4 h1 h2 h3 h4 z1 z2 z3 z4 hCk1 hCk2 ok1 ok2 hnum hT2 hT
  go_enter Try.func25, Try.ntmps25
  go_wp2_with fail
  rw [← HW.out]
  clear HW
  refine HCk1.out.mono ?_
  rintro e w2 ⟨rfl, hb2⟩
  have hb12 := hb1.trans (hb2.mono hb1.size)
  have H2 := Lib.hid (And.intro (H1.out.1.below hb2) (And.intro (H1.out.2.1.below hb2) (H1.out.2.2.below hb2)))
  obtain ⟨cC, cL, cK⟩ := H2.out.2.1.cells
  have hs2 := hb2.size
  clear HCk1 H1 hb2
  go_wp2_with fail
  refine (HCk2.out _ hb12).mono ?_
  rintro e w3 ⟨rfl, hb3⟩
  have hb13 := hb12.trans (hb3.mono hb12.size)
  have H3 := Lib.hid (And.intro (H2.out.1.below hb3) (And.intro (H2.out.2.1.below hb3) (H2.out.2.2.below hb3)))
  obtain ⟨cC, cL, cK⟩ := H3.out.1.cells
  obtain ⟨cC2, cL2, cK2⟩ := H3.out.2.1.cells
  have hs3 := hb3.size
  clear HCk2 H2 hb3
  have hsz3 : w.heap.size + 3 ≤ w3.heap.size := by omega
  have hTw : wrap64 (k + k2) = k + k2 := IntWalk.wrap64_in _ (by omega)
  rw [← HT.out] at hTw
  have hTk : k + k2 = T := HT.out.symm
  go_wp2_with fail
  refine (HNum.out _).mono ?_
  rintro e w4 ⟨rfl, rfl⟩
  have hkeep : ∀ W W', (Below (w.heap.size + 2) w3 W ∧ W.cell? ⟨w.heap.size, 0, none⟩ = some (.slice A1 n1 c1) ∧ W.cell? ⟨w.heap.size, 1, none⟩ = some (.slice L1 n1 d1) ∧ W.cell? ⟨w.heap.size + 1, 0, none⟩ = some (.slice A2 n2 c2) ∧ W.cell? ⟨w.heap.size + 1, 1, none⟩ = some (.slice L2 n2 d2)) → Below (w.heap.size + 2) W W' →
      (Below (w.heap.size + 2) w3 W' ∧ W'.cell? ⟨w.heap.size, 0, none⟩ = some (.slice A1 n1 c1) ∧ W'.cell? ⟨w.heap.size, 1, none⟩ = some (.slice L1 n1 d1) ∧ W'.cell? ⟨w.heap.size + 1, 0, none⟩ = some (.slice A2 n2 c2) ∧ W'.cell? ⟨w.heap.size + 1, 1, none⟩ = some (.slice L2 n2 d2)) := fun W W' ⟨i1, i2, i3, i4, i5⟩ hb => by
    have hsw := i1.size
    exact ⟨i1.trans hb, (hb.cell (p := ⟨w.heap.size, 0, none⟩) (by show w.heap.size < w.heap.size + 2; omega)).trans i2, (hb.cell (p := ⟨w.heap.size, 1, none⟩) (by show w.heap.size < w.heap.size + 2; omega)).trans i3, (hb.cell (p := ⟨w.heap.size + 1, 0, none⟩) (by show w.heap.size + 1 < w.heap.size + 2; omega)).trans i4, (hb.cell (p := ⟨w.heap.size + 1, 1, none⟩) (by show w.heap.size + 1 < w.heap.size + 2; omega)).trans i5⟩
  have hkeep1 := fun W W' (h : Below (w.heap.size + 2) w3 W ∧ W.cell? ⟨w.heap.size, 0, none⟩ = some (.slice A1 n1 c1) ∧ W.cell? ⟨w.heap.size, 1, none⟩ = some (.slice L1 n1 d1) ∧ W.cell? ⟨w.heap.size + 1, 0, none⟩ = some (.slice A2 n2 c2) ∧ W.cell? ⟨w.heap.size + 1, 1, none⟩ = some (.slice L2 n2 d2)) (hb : Below W.heap.size W W') => hkeep W W' h (hb.mono (by have := h.1.size; omega))
  have hcat : ∀ (X1 X2 : Option Addr) (e1 e2 : Nat) (xs ys : List Int), RdI B w X1 xs → RdI B w X2 ys → xs.length = n1 → ys.length = n2 → (X1 = Option.none → e1 = 0) → (X2 = Option.none → e2 = 0) → ∀ (W : World) (g : Nat), (Below (w.heap.size + 2) w3 W ∧ W.cell? ⟨w.heap.size, 0, none⟩ = some (.slice A1 n1 c1) ∧ W.cell? ⟨w.heap.size, 1, none⟩ = some (.slice L1 n1 d1) ∧ W.cell? ⟨w.heap.size + 1, 0, none⟩ = some (.slice A2 n2 c2) ∧ W.cell? ⟨w.heap.size + 1, 1, none⟩ = some (.slice L2 n2 d2)) → W.heap[g]? = some (.cells #[.slice X1 n1 e1, .slice X2 n2 e2] 22 (0, 0)) →
      Calls Try.prog 51 #[.slice (some ⟨g, 0, none⟩) 2 2] W fun e w' => ∃ v, e = .returned v ∧ RowI w' W.heap.size v (xs ++ ys) ∧ Below W.heap.size W w' := fun X1 X2 e1 e2 xs ys q1 q2 l1 l2 y1 y2 W g hS hg => by
    have hbw : Below w.heap.size w W := hb13.trans (hS.1.mono (by omega))
    have hsw := hbw.size
    have hgl : g < W.heap.size := (Array.getElem?_eq_some_iff.1 hg).1
    have hRd : RdS W.heap.size W (some ⟨g, 0, none⟩) [xs, ys] := fun _ => ⟨g, 0, rfl, hgl, fun j hj => by
      have hj2 : j = 0 ∨ j = 1 := by simp at hj; omega
      rcases hj2 with rfl | rfl
      · refine ⟨X1, e1, ?_, (q1.below hbw hB).more (by omega), y1⟩
        rw [cell_of_row W g 0 _ 22 (0, 0) hg]
        show _ = some (Value.slice X1 xs.length e1)
        rw [l1]; rfl
      · refine ⟨X2, e2, ?_, (q2.below hbw hB).more (by omega), y2⟩
        rw [cell_of_row W g 1 _ 22 (0, 0) hg]
        show _ = some (Value.slice X2 ys.length e2)
        rw [l2]; rfl⟩
    have h := Concat_any W.heap.size 2 2 (some ⟨g, 0, none⟩) [xs, ys] W hRd (Nat.le_refl _) rfl (by omega) (by simp; omega)
    have he : ([xs, ys] : List (List Int)).flatten = xs ++ ys := by simp
    rw [he] at h
    exact h
  have hHC1 := hcat A1 A2 c1 c2 cs cs2 HR.out.1.1 HR.out.1.2.2.1 HR.out.2.1.1 HR.out.2.1.2.2.1 HR.out.2.2.1 HR.out.2.2.2.2.1
  have hHC2 := hcat L1 L2 d1 d2 ls ls2 HR.out.1.2.1 HR.out.1.2.2.2 HR.out.2.1.2.1 HR.out.2.1.2.2.2 HR.out.2.2.2.1 HR.out.2.2.2.2.2
  have hstart : Below (w.heap.size + 2) w3 w3.drew ∧ w3.drew.cell? ⟨w.heap.size, 0, none⟩ = some (.slice A1 n1 c1) ∧ w3.drew.cell? ⟨w.heap.size, 1, none⟩ = some (.slice L1 n1 d1) ∧ w3.drew.cell? ⟨w.heap.size + 1, 0, none⟩ = some (.slice A2 n2 c2) ∧ w3.drew.cell? ⟨w.heap.size + 1, 1, none⟩ = some (.slice L2 n2 d2) := ⟨(Below.refl _ _).drew, cC, cL, cC2, cL2⟩
  have hHA : ∀ W, Below (w.heap.size + 2) w3 W → W.heap[w.heap.size + 2]? = w3.heap[w.heap.size + 2]? → LinAt W (w.heap.size + 2) (.slice Option.none 0 0) (.slice Option.none 0 0) 0 24 := fun W hW he => he.trans H3.out.2.2
  have hHF : ∀ W, Below (w.heap.size + 2) w3 W → Below w.heap.size w W := fun W hW => hb13.trans (hW.mono (by omega))
  have HC1 := Lib.hid hHC1
  have HC2 := Lib.hid hHC2
  have HK := Lib.hid hkeep1
  have HK2 := Lib.hid hkeep
  have HF := Lib.hid hHF
  have HLA : Hid (LinAt (World.drew w3) (w.heap.size + 2) (.slice Option.none 0 0) (.slice Option.none 0 0) 0 24) := Lib.hid H3.out.2.2
  clear hcat hHC1 hHC2 hkeep hkeep1 hHF hHA HNum H3 hb12 hb13 cC cL cK cC2 cL2 cK2 HR hTk HT
  go_wp2_with fail
  clear hTw g1 g2 g3
  refine wp_region_held_drew (S := fun W => Below (w.heap.size + 2) w3 W ∧ W.cell? ⟨w.heap.size, 0, none⟩ = some (.slice A1 n1 c1) ∧ W.cell? ⟨w.heap.size, 1, none⟩ = some (.slice L1 n1 d1) ∧ W.cell? ⟨w.heap.size + 1, 0, none⟩ = some (.slice A2 n2 c2) ∧ W.cell? ⟨w.heap.size + 1, 1, none⟩ = some (.slice L2 n2 d2)) (by kernel_rfl) hstart (fun hHeld => ?_)
  clear hstart
  obtain ⟨Wd, hWd⟩ : ∃ Wd, World.drew w3 = Wd := ⟨_, rfl⟩
  rw [hWd] at hHeld HLA ⊢
  clear hWd
  have hszd : w.heap.size + 3 ≤ Wd.heap.size := by have := hHeld.1.size; omega
  refine takeH_now (i := 0) (some 40) (v := ?_) rfl (by kernel_rfl) (by kernel_rfl) (by kernel_rfl) (fun _ _ _ h => h) (Or.inl ⟨by rfl, ?_⟩) rfl (by assumption) ?_
  rotate_left
  focus (intro w9 hS9; go_simp; try with_reducible rfl)
  try simp only [Act.put, List.setIfInBounds_toArray, List.set_cons_zero, List.set_cons_succ]
  refine takeH_now (i := 1) (some 41) (v := ?_) rfl (by kernel_rfl) (by kernel_rfl) (by kernel_rfl) (fun _ _ _ h => h) (Or.inl ⟨by rfl, ?_⟩) rfl (by assumption) ?_
  rotate_left
  focus (intro w9 hS9; have x1 := hS9.2.1; have x2 := hS9.2.2.1; have x3 := hS9.2.2.2.1; have x4 := hS9.2.2.2.2; clear hS9; go_simp; try with_reducible rfl)
  try simp only [Act.put, List.setIfInBounds_toArray, List.set_cons_zero, List.set_cons_succ]
  refine takeH_now (i := 2) (some 42) (v := ?_) rfl (by kernel_rfl) (by kernel_rfl) (by kernel_rfl) (fun _ _ _ h => h) (Or.inl ⟨by rfl, ?_⟩) rfl (by assumption) ?_
  rotate_left
  focus (intro w9 hS9; go_simp; try with_reducible rfl)
  try simp only [Act.put, List.setIfInBounds_toArray, List.set_cons_zero, List.set_cons_succ]
  refine takeH_now (i := 3) (some 43) (v := ?_) rfl (by kernel_rfl) (by kernel_rfl) (by kernel_rfl) (fun _ _ _ h => h) (Or.inl ⟨by rfl, ?_⟩) rfl (by assumption) ?_
  rotate_left
  focus (intro w9 hS9; have x1 := hS9.2.1; have x2 := hS9.2.2.1; have x3 := hS9.2.2.2.1; have x4 := hS9.2.2.2.2; clear hS9; go_simp; try with_reducible rfl)
  try simp only [Act.put, List.setIfInBounds_toArray, List.set_cons_zero, List.set_cons_succ]
  refine takeH_now (i := 6) (some 46) (v := ?_) rfl (by kernel_rfl) (by kernel_rfl) (by kernel_rfl) (fun _ _ _ h => h) (Or.inl ⟨by rfl, ?_⟩) rfl (by assumption) ?_
  rotate_left
  focus (intro w9 hS9; go_simp; try with_reducible rfl)
  try simp only [Act.put, List.setIfInBounds_toArray, List.set_cons_zero, List.set_cons_succ]
  refine takeH_now (i := 7) (some 47) (v := ?_) rfl (by kernel_rfl) (by kernel_rfl) (by kernel_rfl) (fun _ _ _ h => h) (Or.inl ⟨by rfl, ?_⟩) rfl (by assumption) ?_
  rotate_left
  focus (intro w9 hS9; have x1 := hS9.2.1; have x2 := hS9.2.2.1; have x3 := hS9.2.2.2.1; have x4 := hS9.2.2.2.2; clear hS9; go_simp; try with_reducible rfl)
  try simp only [Act.put, List.setIfInBounds_toArray, List.set_cons_zero, List.set_cons_succ]
  refine takeH_now (i := 8) (some 48) (v := ?_) rfl (by kernel_rfl) (by kernel_rfl) (by kernel_rfl) (fun _ _ _ h => h) (Or.inl ⟨by rfl, ?_⟩) rfl (by assumption) ?_
  rotate_left
  focus (intro w9 hS9; go_simp; try with_reducible rfl)
  try simp only [Act.put, List.setIfInBounds_toArray, List.set_cons_zero, List.set_cons_succ]
  refine takeH_now (i := 9) (some 49) (v := ?_) rfl (by kernel_rfl) (by kernel_rfl) (by kernel_rfl) (fun _ _ _ h => h) (Or.inl ⟨by rfl, ?_⟩) rfl (by assumption) ?_
  rotate_left
  focus (intro w9 hS9; have x1 := hS9.2.1; have x2 := hS9.2.2.1; have x3 := hS9.2.2.2.1; have x4 := hS9.2.2.2.2; clear hS9; go_simp; try with_reducible rfl)
  try simp only [Act.put, List.setIfInBounds_toArray, List.set_cons_zero, List.set_cons_succ]
  refine takeH_now (i := 12) (some 52) (v := ?_) rfl (by kernel_rfl) (by kernel_rfl) (by kernel_rfl) (fun _ _ _ h => h) (Or.inl ⟨by rfl, ?_⟩) rfl (by assumption) ?_
  rotate_left
  focus (intro w9 hS9; go_simp; try with_reducible rfl)
  try simp only [Act.put, List.setIfInBounds_toArray, List.set_cons_zero, List.set_cons_succ]
  refine wpAnyH_ready (rs := [4, 10]) (by kernel_rfl) (by simp) ?_
  refine AllReadyH.cons (o := { dst := some 44, op := Op.buildSlice 73 2 #[(0, Operand.tmp 41), (1, Operand.tmp 43)], type := 73, pos := "lin.go:96", after := #[{ on := 1, ground := Ground.data }, { on := 3, ground := Ground.data }], guard := none }) rfl (fun K' hK' => ?_) (AllReadyH.cons (o := { dst := some 50, op := Op.buildSlice 73 2 #[(0, Operand.tmp 47), (1, Operand.tmp 49)], type := 73, pos := "lin.go:96", after := #[{ on := 7, ground := Ground.data }, { on := 9, ground := Ground.data }], guard := none }) rfl (fun K' hK' => ?_) AllReadyH.nil)
  · rw [if_pos (by kernel_rfl)]
    go_simp
    obtain ⟨WA, hWA⟩ : ∃ X, X = World.alloc Wd (.cells #[.slice A1 n1 c1, .slice A2 n2 c2] 22) := ⟨_, rfl⟩
    have hnWA : WA.heap[(Wd).heap.size]? = some (.cells #[.slice A1 n1 c1, .slice A2 n2 c2] 22 (0, 0)) := by rw [hWA]; exact heap_alloc_new _ _
    have hbWA : Below (Wd).heap.size (Wd) WA := by rw [hWA]; exact (Below.refl _ _).alloc (Nat.le_refl _) _
    rw [← hWA]
    clear hWA
    have hHa := HK.out _ _ hHeld hbWA
    have HLA := Lib.hid (HLA.out.below hbWA)
    have hzWA := hbWA.size
    clear hHeld
    refine hK'.out _ _ hHa (fun hHeld => ?_)
    clear hK' hHa
    try simp only [Act.put, List.setIfInBounds_toArray, List.set_cons_zero, List.set_cons_succ]
    refine wpAnyH_ready (rs := [5, 10]) (by kernel_rfl) (by simp) ?_
    refine AllReadyH.cons (o := { dst := some 45, op := Op.call { callee := Callee.value (Operand.func 51), args := #[Operand.tmp 44], argTypes := #[73] }, type := 22, pos := "lin.go:96", after := #[{ on := 4, ground := Ground.data }], guard := none }) rfl (fun K' hK' => ?_) (AllReadyH.cons (o := { dst := some 50, op := Op.buildSlice 73 2 #[(0, Operand.tmp 47), (1, Operand.tmp 49)], type := 73, pos := "lin.go:96", after := #[{ on := 7, ground := Ground.data }, { on := 9, ground := Ground.data }], guard := none }) rfl (fun K' hK' => ?_) AllReadyH.nil)
    · rw [if_pos (by kernel_rfl)]
      go_simp
      refine (HC1.out WA _ hHeld hnWA).mono ?_
      rintro e w5 ⟨v1, rfl, row1, hbw5⟩
      obtain ⟨R1, e1, hv1, _, _⟩ := row1.shape
      obtain ⟨M1, hM1⟩ : ∃ M, (cs ++ cs2).length = M := ⟨_, rfl⟩
      rw [hM1] at hv1
      have HM1 := Lib.hid hM1
      subst hv1
      clear hM1
      have hHa := HK.out _ _ hHeld hbw5
      have HLA := Lib.hid (HLA.out.below hbw5)
      have hzw5 := hbw5.size
      clear hHeld
      refine hK'.out _ _ hHa (fun hHeld => ?_)
      clear hK' hHa
      try simp only [Act.put, List.setIfInBounds_toArray, List.set_cons_zero, List.set_cons_succ]
      refine wpAnyH_ready (rs := [10]) (by kernel_rfl) (by simp) ?_
      refine AllReadyH.cons (o := { dst := some 50, op := Op.buildSlice 73 2 #[(0, Operand.tmp 47), (1, Operand.tmp 49)], type := 73, pos := "lin.go:96", after := #[{ on := 7, ground := Ground.data }, { on := 9, ground := Ground.data }], guard := none }) rfl (fun K' hK' => ?_) AllReadyH.nil
      rw [if_pos (by kernel_rfl)]
      go_simp
      obtain ⟨WB, hWB⟩ : ∃ X, X = World.alloc w5 (.cells #[.slice L1 n1 d1, .slice L2 n2 d2] 22) := ⟨_, rfl⟩
      have hnWB : WB.heap[(w5).heap.size]? = some (.cells #[.slice L1 n1 d1, .slice L2 n2 d2] 22 (0, 0)) := by rw [hWB]; exact heap_alloc_new _ _
      have hbWB : Below (w5).heap.size (w5) WB := by rw [hWB]; exact (Below.refl _ _).alloc (Nat.le_refl _) _
      rw [← hWB]
      clear hWB
      have hHa := HK.out _ _ hHeld hbWB
      have HLA := Lib.hid (HLA.out.below hbWB)
      have hzWB := hbWB.size
      clear hHeld
      refine hK'.out _ _ hHa (fun hHeld => ?_)
      clear hK' hHa
      try simp only [Act.put, List.setIfInBounds_toArray, List.set_cons_zero, List.set_cons_succ]
      refine wpAnyH_ready (rs := [11]) (by kernel_rfl) (by simp) ?_
      refine AllReadyH.cons (o := { dst := some 51, op := Op.call { callee := Callee.value (Operand.func 51), args := #[Operand.tmp 50], argTypes := #[73] }, type := 22, pos := "lin.go:96", after := #[{ on := 10, ground := Ground.data }, { on := 5, ground := Ground.chain }], guard := none }) rfl (fun K' hK' => ?_) AllReadyH.nil
      rw [if_pos (by kernel_rfl)]
      go_simp
      refine (HC2.out WB _ hHeld hnWB).mono ?_
      rintro e w6 ⟨v2, rfl, row2, hbw6⟩
      obtain ⟨R2, e2, hv2, _, _⟩ := row2.shape
      obtain ⟨M2, hM2⟩ : ∃ M, (ls ++ ls2).length = M := ⟨_, rfl⟩
      rw [hM2] at hv2
      have HM2 := Lib.hid hM2
      subst hv2
      clear hM2
      have hHa := HK.out _ _ hHeld hbw6
      have HLA := Lib.hid (HLA.out.below hbw6)
      have hzw6 := hbw6.size
      clear hHeld
      refine hK'.out _ _ hHa (fun hHeld => ?_)
      clear hK' hHa
      try simp only [Act.put, List.setIfInBounds_toArray, List.set_cons_zero, List.set_cons_succ]
      have hr1 : RowI w6 (w.heap.size + 3) (.slice R1 M1 e1) (cs ++ cs2) := ((row1.below hbWB).below hbw6).base (by have := hsz3; omega)
      have hr2 : RowI w6 (w.heap.size + 3) (.slice R2 M2 e2) (ls ++ ls2) := (row2.base (by have := hsz3; omega))
      have Hrow := Lib.hid (And.intro hr1 hr2)
      clear hr1 hr2 HC1 HC2
      refine takeH_now (i := 13) (some 53) (v := ?_) rfl (by kernel_rfl) (by kernel_rfl) (by kernel_rfl) (fun _ _ _ h => h) (Or.inl ⟨by rfl, ?_⟩) rfl (by assumption) ?_
      rotate_left
      focus (intro w9 hS9; go_simp; try with_reducible rfl)
      try simp only [Act.put, List.setIfInBounds_toArray, List.set_cons_zero, List.set_cons_succ]
      have hat := HLA.out
      obtain ⟨s0, s1, s2, f0, f1, f2, hfin⟩ := lin_store hat (.slice R1 M1 e1) (.slice R2 M2 e2) T
      have hlowS := low_store hHeld.1 (Nat.le_refl (w.heap.size + 2)) (.slice R1 M1 e1) (.slice R2 M2 e2) (.int .i64 T)
      have hHa := HK2.out _ _ hHeld (low_store (Below.refl (w.heap.size + 2) w6) (Nat.le_refl (w.heap.size + 2)) (.slice R1 M1 e1) (.slice R2 M2 e2) (.int .i64 T))
      have HFI := Lib.hid hfin
      have HLow := Lib.hid (HF.out _ hlowS)
      have hq1 := Hrow.out.1.kept3 (j := w.heap.size + 2) (.slice R1 M1 e1) (.slice R2 M2 e2) (.int .i64 T) (by omega)
      have hq2 := Hrow.out.2.kept3 (j := w.heap.size + 2) (.slice R1 M1 e1) (.slice R2 M2 e2) (.int .i64 T) (by omega)
      have fin : Hid (GivesL (cs ++ cs2) (ls ++ ls2) T w (.returned (.tuple #[.agg #[.slice R1 M1 e1, .slice R2 M2 e2, .int .i64 T], .int .i64 0])) (((w6.setCell ⟨w.heap.size + 2, 0, none⟩ (.slice R1 M1 e1)).setCell ⟨w.heap.size + 2, 1, none⟩ (.slice R2 M2 e2)).setCell ⟨w.heap.size + 2, 2, none⟩ (.int .i64 T))) :=
        Lib.hid ⟨R1, e1, R2, e2, by rw [HM1.out, HM2.out], hq1.rd2.2, hq2.rd2.2, hq1.nocap, hq2.nocap, HLow.out⟩
      clear hat hlowS hHeld hfin hq1 hq2 Hrow
      refine wpAnyH_ready (rs := [14]) (by kernel_rfl) (by simp) ?_
      refine AllReadyH.cons (o := { dst := none, op := Op.store 24 (Operand.tmp 4) (Operand.tmp 53), type := 0, pos := "lin.go:96", after := #[{ on := 13, ground := Ground.data }, { on := 11, ground := Ground.chain }, { on := 0, ground := Ground.phase }, { on := 1, ground := Ground.phase }, { on := 2, ground := Ground.phase }, { on := 3, ground := Ground.phase }, { on := 4, ground := Ground.phase }, { on := 5, ground := Ground.phase }, { on := 6, ground := Ground.phase }, { on := 7, ground := Ground.phase }, { on := 8, ground := Ground.phase }, { on := 9, ground := Ground.phase }, { on := 10, ground := Ground.phase }, { on := 11, ground := Ground.phase }, { on := 12, ground := Ground.phase }, { on := 13, ground := Ground.phase }], guard := none }) rfl (fun K' hK' => ?_) AllReadyH.nil
      rw [if_pos (by kernel_rfl)]
      go_simp
      refine hK'.out _ _ hHa (fun hHeld => ?_)
      clear hK' hHa s0 s1 s2 f0 f1 f2
      try simp only [Act.put, List.setIfInBounds_toArray, List.set_cons_zero, List.set_cons_succ]
      refine takeH_now (i := 15) (some 5) (v := ?_) rfl (by kernel_rfl) (by kernel_rfl) (by kernel_rfl) (fun _ _ _ h => h) (Or.inl ⟨by rfl, ?_⟩) rfl (by assumption) ?_
      rotate_left
      focus (intro w9 hS9; go_simp; try with_reducible rfl)
      try simp only [Act.put, List.setIfInBounds_toArray, List.set_cons_zero, List.set_cons_succ]
      refine wpAnyH_done (by kernel_rfl) ?_ _
      clear hHeld
      obtain ⟨r0, r1, r2⟩ := HFI.out.cells
      go_wp2_with fail
      refine bodyPost_ret (results_row_tmp rfl _ _ (w.heap.size + 2) 24 _ (0, 0) _ _ rfl HFI.out rfl rfl rfl rfl) rfl ?_
      exact fin.out
    · rw [if_pos (by kernel_rfl)]
      go_simp
      obtain ⟨WB, hWB⟩ : ∃ X, X = World.alloc WA (.cells #[.slice L1 n1 d1, .slice L2 n2 d2] 22) := ⟨_, rfl⟩
      have hnWB : WB.heap[(WA).heap.size]? = some (.cells #[.slice L1 n1 d1, .slice L2 n2 d2] 22 (0, 0)) := by rw [hWB]; exact heap_alloc_new _ _
      have hbWB : Below (WA).heap.size (WA) WB := by rw [hWB]; exact (Below.refl _ _).alloc (Nat.le_refl _) _
      rw [← hWB]
      clear hWB
      have hHa := HK.out _ _ hHeld hbWB
      have HLA := Lib.hid (HLA.out.below hbWB)
      have hzWB := hbWB.size
      clear hHeld
      refine hK'.out _ _ hHa (fun hHeld => ?_)
      clear hK' hHa
      try simp only [Act.put, List.setIfInBounds_toArray, List.set_cons_zero, List.set_cons_succ]
      refine wpAnyH_ready (rs := [5]) (by kernel_rfl) (by simp) ?_
      refine AllReadyH.cons (o := { dst := some 45, op := Op.call { callee := Callee.value (Operand.func 51), args := #[Operand.tmp 44], argTypes := #[73] }, type := 22, pos := "lin.go:96", after := #[{ on := 4, ground := Ground.data }], guard := none }) rfl (fun K' hK' => ?_) AllReadyH.nil
      rw [if_pos (by kernel_rfl)]
      go_simp
      refine (HC1.out WB _ hHeld ((heap_below hbWB hnWA))).mono ?_
      rintro e w5 ⟨v1, rfl, row1, hbw5⟩
      obtain ⟨R1, e1, hv1, _, _⟩ := row1.shape
      obtain ⟨M1, hM1⟩ : ∃ M, (cs ++ cs2).length = M := ⟨_, rfl⟩
      rw [hM1] at hv1
      have HM1 := Lib.hid hM1
      subst hv1
      clear hM1
      have hHa := HK.out _ _ hHeld hbw5
      have HLA := Lib.hid (HLA.out.below hbw5)
      have hzw5 := hbw5.size
      clear hHeld
      refine hK'.out _ _ hHa (fun hHeld => ?_)
      clear hK' hHa
      try simp only [Act.put, List.setIfInBounds_toArray, List.set_cons_zero, List.set_cons_succ]
      refine wpAnyH_ready (rs := [11]) (by kernel_rfl) (by simp) ?_
      refine AllReadyH.cons (o := { dst := some 51, op := Op.call { callee := Callee.value (Operand.func 51), args := #[Operand.tmp 50], argTypes := #[73] }, type := 22, pos := "lin.go:96", after := #[{ on := 10, ground := Ground.data }, { on := 5, ground := Ground.chain }], guard := none }) rfl (fun K' hK' => ?_) AllReadyH.nil
      rw [if_pos (by kernel_rfl)]
      go_simp
      refine (HC2.out w5 _ hHeld (heap_below hbw5 hnWB)).mono ?_
      rintro e w6 ⟨v2, rfl, row2, hbw6⟩
      obtain ⟨R2, e2, hv2, _, _⟩ := row2.shape
      obtain ⟨M2, hM2⟩ : ∃ M, (ls ++ ls2).length = M := ⟨_, rfl⟩
      rw [hM2] at hv2
      have HM2 := Lib.hid hM2
      subst hv2
      clear hM2
      have hHa := HK.out _ _ hHeld hbw6
      have HLA := Lib.hid (HLA.out.below hbw6)
      have hzw6 := hbw6.size
      clear hHeld
      refine hK'.out _ _ hHa (fun hHeld => ?_)
      clear hK' hHa
      try simp only [Act.put, List.setIfInBounds_toArray, List.set_cons_zero, List.set_cons_succ]
      have hr1 : RowI w6 (w.heap.size + 3) (.slice R1 M1 e1) (cs ++ cs2) := (row1.below hbw6).base (by have := hsz3; omega)
      have hr2 : RowI w6 (w.heap.size + 3) (.slice R2 M2 e2) (ls ++ ls2) := row2.base (by have := hsz3; omega)
      have Hrow := Lib.hid (And.intro hr1 hr2)
      clear hr1 hr2 HC1 HC2
      refine takeH_now (i := 13) (some 53) (v := ?_) rfl (by kernel_rfl) (by kernel_rfl) (by kernel_rfl) (fun _ _ _ h => h) (Or.inl ⟨by rfl, ?_⟩) rfl (by assumption) ?_
      rotate_left
      focus (intro w9 hS9; go_simp; try with_reducible rfl)
      try simp only [Act.put, List.setIfInBounds_toArray, List.set_cons_zero, List.set_cons_succ]
      have hat := HLA.out
      obtain ⟨s0, s1, s2, f0, f1, f2, hfin⟩ := lin_store hat (.slice R1 M1 e1) (.slice R2 M2 e2) T
      have hlowS := low_store hHeld.1 (Nat.le_refl (w.heap.size + 2)) (.slice R1 M1 e1) (.slice R2 M2 e2) (.int .i64 T)
      have hHa := HK2.out _ _ hHeld (low_store (Below.refl (w.heap.size + 2) w6) (Nat.le_refl (w.heap.size + 2)) (.slice R1 M1 e1) (.slice R2 M2 e2) (.int .i64 T))
      have HFI := Lib.hid hfin
      have HLow := Lib.hid (HF.out _ hlowS)
      have hq1 := Hrow.out.1.kept3 (j := w.heap.size + 2) (.slice R1 M1 e1) (.slice R2 M2 e2) (.int .i64 T) (by omega)
      have hq2 := Hrow.out.2.kept3 (j := w.heap.size + 2) (.slice R1 M1 e1) (.slice R2 M2 e2) (.int .i64 T) (by omega)
      have fin : Hid (GivesL (cs ++ cs2) (ls ++ ls2) T w (.returned (.tuple #[.agg #[.slice R1 M1 e1, .slice R2 M2 e2, .int .i64 T], .int .i64 0])) (((w6.setCell ⟨w.heap.size + 2, 0, none⟩ (.slice R1 M1 e1)).setCell ⟨w.heap.size + 2, 1, none⟩ (.slice R2 M2 e2)).setCell ⟨w.heap.size + 2, 2, none⟩ (.int .i64 T))) :=
        Lib.hid ⟨R1, e1, R2, e2, by rw [HM1.out, HM2.out], hq1.rd2.2, hq2.rd2.2, hq1.nocap, hq2.nocap, HLow.out⟩
      clear hat hlowS hHeld hfin hq1 hq2 Hrow
      refine wpAnyH_ready (rs := [14]) (by kernel_rfl) (by simp) ?_
      refine AllReadyH.cons (o := { dst := none, op := Op.store 24 (Operand.tmp 4) (Operand.tmp 53), type := 0, pos := "lin.go:96", after := #[{ on := 13, ground := Ground.data }, { on := 11, ground := Ground.chain }, { on := 0, ground := Ground.phase }, { on := 1, ground := Ground.phase }, { on := 2, ground := Ground.phase }, { on := 3, ground := Ground.phase }, { on := 4, ground := Ground.phase }, { on := 5, ground := Ground.phase }, { on := 6, ground := Ground.phase }, { on := 7, ground := Ground.phase }, { on := 8, ground := Ground.phase }, { on := 9, ground := Ground.phase }, { on := 10, ground := Ground.phase }, { on := 11, ground := Ground.phase }, { on := 12, ground := Ground.phase }, { on := 13, ground := Ground.phase }], guard := none }) rfl (fun K' hK' => ?_) AllReadyH.nil
      rw [if_pos (by kernel_rfl)]
      go_simp
      refine hK'.out _ _ hHa (fun hHeld => ?_)
      clear hK' hHa s0 s1 s2 f0 f1 f2
      try simp only [Act.put, List.setIfInBounds_toArray, List.set_cons_zero, List.set_cons_succ]
      refine takeH_now (i := 15) (some 5) (v := ?_) rfl (by kernel_rfl) (by kernel_rfl) (by kernel_rfl) (fun _ _ _ h => h) (Or.inl ⟨by rfl, ?_⟩) rfl (by assumption) ?_
      rotate_left
      focus (intro w9 hS9; go_simp; try with_reducible rfl)
      try simp only [Act.put, List.setIfInBounds_toArray, List.set_cons_zero, List.set_cons_succ]
      refine wpAnyH_done (by kernel_rfl) ?_ _
      clear hHeld
      obtain ⟨r0, r1, r2⟩ := HFI.out.cells
      go_wp2_with fail
      refine bodyPost_ret (results_row_tmp rfl _ _ (w.heap.size + 2) 24 _ (0, 0) _ _ rfl HFI.out rfl rfl rfl rfl) rfl ?_
      exact fin.out
  · rw [if_pos (by kernel_rfl)]
    go_simp
    obtain ⟨WB, hWB⟩ : ∃ X, X = World.alloc Wd (.cells #[.slice L1 n1 d1, .slice L2 n2 d2] 22) := ⟨_, rfl⟩
    have hnWB : WB.heap[(Wd).heap.size]? = some (.cells #[.slice L1 n1 d1, .slice L2 n2 d2] 22 (0, 0)) := by rw [hWB]; exact heap_alloc_new _ _
    have hbWB : Below (Wd).heap.size (Wd) WB := by rw [hWB]; exact (Below.refl _ _).alloc (Nat.le_refl _) _
    rw [← hWB]
    clear hWB
    have hHa := HK.out _ _ hHeld hbWB
    have HLA := Lib.hid (HLA.out.below hbWB)
    have hzWB := hbWB.size
    clear hHeld
    refine hK'.out _ _ hHa (fun hHeld => ?_)
    clear hK' hHa
    try simp only [Act.put, List.setIfInBounds_toArray, List.set_cons_zero, List.set_cons_succ]
    refine wpAnyH_ready (rs := [4]) (by kernel_rfl) (by simp) ?_
    refine AllReadyH.cons (o := { dst := some 44, op := Op.buildSlice 73 2 #[(0, Operand.tmp 41), (1, Operand.tmp 43)], type := 73, pos := "lin.go:96", after := #[{ on := 1, ground := Ground.data }, { on := 3, ground := Ground.data }], guard := none }) rfl (fun K' hK' => ?_) AllReadyH.nil
    rw [if_pos (by kernel_rfl)]
    go_simp
    obtain ⟨WA, hWA⟩ : ∃ X, X = World.alloc WB (.cells #[.slice A1 n1 c1, .slice A2 n2 c2] 22) := ⟨_, rfl⟩
    have hnWA : WA.heap[(WB).heap.size]? = some (.cells #[.slice A1 n1 c1, .slice A2 n2 c2] 22 (0, 0)) := by rw [hWA]; exact heap_alloc_new _ _
    have hbWA : Below (WB).heap.size (WB) WA := by rw [hWA]; exact (Below.refl _ _).alloc (Nat.le_refl _) _
    rw [← hWA]
    clear hWA
    have hHa := HK.out _ _ hHeld hbWA
    have HLA := Lib.hid (HLA.out.below hbWA)
    have hzWA := hbWA.size
    clear hHeld
    refine hK'.out _ _ hHa (fun hHeld => ?_)
    clear hK' hHa
    try simp only [Act.put, List.setIfInBounds_toArray, List.set_cons_zero, List.set_cons_succ]
    refine wpAnyH_ready (rs := [5]) (by kernel_rfl) (by simp) ?_
    refine AllReadyH.cons (o := { dst := some 45, op := Op.call { callee := Callee.value (Operand.func 51), args := #[Operand.tmp 44], argTypes := #[73] }, type := 22, pos := "lin.go:96", after := #[{ on := 4, ground := Ground.data }], guard := none }) rfl (fun K' hK' => ?_) AllReadyH.nil
    rw [if_pos (by kernel_rfl)]
    go_simp
    refine (HC1.out WA _ hHeld hnWA).mono ?_
    rintro e w5 ⟨v1, rfl, row1, hbw5⟩
    obtain ⟨R1, e1, hv1, _, _⟩ := row1.shape
    obtain ⟨M1, hM1⟩ : ∃ M, (cs ++ cs2).length = M := ⟨_, rfl⟩
    rw [hM1] at hv1
    have HM1 := Lib.hid hM1
    subst hv1
    clear hM1
    have hHa := HK.out _ _ hHeld hbw5
    have HLA := Lib.hid (HLA.out.below hbw5)
    have hzw5 := hbw5.size
    clear hHeld
    refine hK'.out _ _ hHa (fun hHeld => ?_)
    clear hK' hHa
    try simp only [Act.put, List.setIfInBounds_toArray, List.set_cons_zero, List.set_cons_succ]
    refine wpAnyH_ready (rs := [11]) (by kernel_rfl) (by simp) ?_
    refine AllReadyH.cons (o := { dst := some 51, op := Op.call { callee := Callee.value (Operand.func 51), args := #[Operand.tmp 50], argTypes := #[73] }, type := 22, pos := "lin.go:96", after := #[{ on := 10, ground := Ground.data }, { on := 5, ground := Ground.chain }], guard := none }) rfl (fun K' hK' => ?_) AllReadyH.nil
    rw [if_pos (by kernel_rfl)]
    go_simp
    refine (HC2.out w5 _ hHeld (heap_below hbw5 (heap_below hbWA hnWB))).mono ?_
    rintro e w6 ⟨v2, rfl, row2, hbw6⟩
    obtain ⟨R2, e2, hv2, _, _⟩ := row2.shape
    obtain ⟨M2, hM2⟩ : ∃ M, (ls ++ ls2).length = M := ⟨_, rfl⟩
    rw [hM2] at hv2
    have HM2 := Lib.hid hM2
    subst hv2
    clear hM2
    have hHa := HK.out _ _ hHeld hbw6
    have HLA := Lib.hid (HLA.out.below hbw6)
    have hzw6 := hbw6.size
    clear hHeld
    refine hK'.out _ _ hHa (fun hHeld => ?_)
    clear hK' hHa
    try simp only [Act.put, List.setIfInBounds_toArray, List.set_cons_zero, List.set_cons_succ]
    have hr1 : RowI w6 (w.heap.size + 3) (.slice R1 M1 e1) (cs ++ cs2) := (row1.below hbw6).base (by have := hsz3; omega)
    have hr2 : RowI w6 (w.heap.size + 3) (.slice R2 M2 e2) (ls ++ ls2) := row2.base (by have := hsz3; omega)
    have Hrow := Lib.hid (And.intro hr1 hr2)
    clear hr1 hr2 HC1 HC2
    refine takeH_now (i := 13) (some 53) (v := ?_) rfl (by kernel_rfl) (by kernel_rfl) (by kernel_rfl) (fun _ _ _ h => h) (Or.inl ⟨by rfl, ?_⟩) rfl (by assumption) ?_
    rotate_left
    focus (intro w9 hS9; go_simp; try with_reducible rfl)
    try simp only [Act.put, List.setIfInBounds_toArray, List.set_cons_zero, List.set_cons_succ]
    have hat := HLA.out
    obtain ⟨s0, s1, s2, f0, f1, f2, hfin⟩ := lin_store hat (.slice R1 M1 e1) (.slice R2 M2 e2) T
    have hlowS := low_store hHeld.1 (Nat.le_refl (w.heap.size + 2)) (.slice R1 M1 e1) (.slice R2 M2 e2) (.int .i64 T)
    have hHa := HK2.out _ _ hHeld (low_store (Below.refl (w.heap.size + 2) w6) (Nat.le_refl (w.heap.size + 2)) (.slice R1 M1 e1) (.slice R2 M2 e2) (.int .i64 T))
    have HFI := Lib.hid hfin
    have HLow := Lib.hid (HF.out _ hlowS)
    have hq1 := Hrow.out.1.kept3 (j := w.heap.size + 2) (.slice R1 M1 e1) (.slice R2 M2 e2) (.int .i64 T) (by omega)
    have hq2 := Hrow.out.2.kept3 (j := w.heap.size + 2) (.slice R1 M1 e1) (.slice R2 M2 e2) (.int .i64 T) (by omega)
    have fin : Hid (GivesL (cs ++ cs2) (ls ++ ls2) T w (.returned (.tuple #[.agg #[.slice R1 M1 e1, .slice R2 M2 e2, .int .i64 T], .int .i64 0])) (((w6.setCell ⟨w.heap.size + 2, 0, none⟩ (.slice R1 M1 e1)).setCell ⟨w.heap.size + 2, 1, none⟩ (.slice R2 M2 e2)).setCell ⟨w.heap.size + 2, 2, none⟩ (.int .i64 T))) :=
      Lib.hid ⟨R1, e1, R2, e2, by rw [HM1.out, HM2.out], hq1.rd2.2, hq2.rd2.2, hq1.nocap, hq2.nocap, HLow.out⟩
    clear hat hlowS hHeld hfin hq1 hq2 Hrow
    refine wpAnyH_ready (rs := [14]) (by kernel_rfl) (by simp) ?_
    refine AllReadyH.cons (o := { dst := none, op := Op.store 24 (Operand.tmp 4) (Operand.tmp 53), type := 0, pos := "lin.go:96", after := #[{ on := 13, ground := Ground.data }, { on := 11, ground := Ground.chain }, { on := 0, ground := Ground.phase }, { on := 1, ground := Ground.phase }, { on := 2, ground := Ground.phase }, { on := 3, ground := Ground.phase }, { on := 4, ground := Ground.phase }, { on := 5, ground := Ground.phase }, { on := 6, ground := Ground.phase }, { on := 7, ground := Ground.phase }, { on := 8, ground := Ground.phase }, { on := 9, ground := Ground.phase }, { on := 10, ground := Ground.phase }, { on := 11, ground := Ground.phase }, { on := 12, ground := Ground.phase }, { on := 13, ground := Ground.phase }], guard := none }) rfl (fun K' hK' => ?_) AllReadyH.nil
    rw [if_pos (by kernel_rfl)]
    go_simp
    refine hK'.out _ _ hHa (fun hHeld => ?_)
    clear hK' hHa s0 s1 s2 f0 f1 f2
    try simp only [Act.put, List.setIfInBounds_toArray, List.set_cons_zero, List.set_cons_succ]
    refine takeH_now (i := 15) (some 5) (v := ?_) rfl (by kernel_rfl) (by kernel_rfl) (by kernel_rfl) (fun _ _ _ h => h) (Or.inl ⟨by rfl, ?_⟩) rfl (by assumption) ?_
    rotate_left
    focus (intro w9 hS9; go_simp; try with_reducible rfl)
    try simp only [Act.put, List.setIfInBounds_toArray, List.set_cons_zero, List.set_cons_succ]
    refine wpAnyH_done (by kernel_rfl) ?_ _
    clear hHeld
    obtain ⟨r0, r1, r2⟩ := HFI.out.cells
    go_wp2_with fail
    refine bodyPost_ret (results_row_tmp rfl _ _ (w.heap.size + 2) 24 _ (0, 0) _ _ rfl HFI.out rfl rfl rfl rfl) rfl ?_
    exact fin.out
end Go.Proofs.Ytoacfjmefoiflaa
