/- Least and Most once more, with what is said of the capacity of the clauses. -/
import Derived.Test.YtpiomdnkemoanaaMeansM
namespace Go.Proofs.Ytpiomdnkemoanaa
open Go.RowKit

/-- What LsRes says, and that the length is at most the capacity, which is 0 where no block is. -/
def LsX (w : World) (cl : List (List Int)) (a : Nat) (E : Int) (e : Ending) (w' : World) : Prop :=
  ∃ A c, e = .returned (.tuple #[.slice A cl.length c, .int .i64 (a : Int), .int .i64 E]) ∧ cl.length ≤ c ∧ (A = none → c = 0) ∧ RdR w'.heap.size w' A cl ∧ Below w.heap.size w w' ∧ ∀ j, j < cl.length → (cl[j]?.getD []).length ≤ maxLen
theorem lsx_post {w W : World} {cl : List (List Int)} {a : Nat} {E : Int} {tm : Array Value} (h : LsX w cl a E (.returned (.tuple #[tm[6]?.getD undef, tm[7]?.getD undef, tm[8]?.getD undef])) W) :
    bodyPost Try.prog Try.f13 (LsX w cl a E) .ret { tmps := tm, defers := [] } W := bodyPost_ret (results13 tm W) rfl h
theorem lsx_nil {w W : World} {a : Nat} {E : Int} {tm : Array Value} (hb : Below w.heap.size w W) (h6 : tm[6]?.getD undef = .slice Option.none 0 0) (h7 : tm[7]?.getD undef = .int .i64 (a : Int)) (h8 : tm[8]?.getD undef = .int .i64 E) :
    bodyPost Try.prog Try.f13 (LsX w [] a E) .ret { tmps := tm, defers := [] } W := by
  refine lsx_post ?_
  rw [h6, h7, h8]
  exact ⟨Option.none, 0, rfl, Nat.le_refl _, fun _ => rfl, fun q => absurd q (by simp), hb, fun j q => absurd q (by simp)⟩
theorem own_none {w : World} {base e size n : Nat} {A : Option Addr} {m c : Nat} {xs : List Value} (h : w.ownsRow base e size (.slice A m c) n xs) : A = none → c = 0 := by
  rcases h.2 with ⟨h1, h2⟩ | ⟨g, cap, cur, h1, _, _, h2, _⟩
  · injection h1 with _ _ h4; exact fun _ => h4
  · injection h1 with h3 _ _; intro h4; rw [h3] at h4; cases h4
theorem Cls.resx {w : World} {base : Nat} {v : Value} {cl : List (List Int)} (h : Cls w base v cl) : ∃ A c, v = .slice A cl.length c ∧ cl.length ≤ c ∧ (A = none → c = 0) ∧ RdR w.heap.size w A cl ∧ ∀ j, j < cl.length → (cl[j]?.getD []).length ≤ maxLen := by
  obtain ⟨A, c, e, h1, h2⟩ := h.res
  subst e
  obtain ⟨vs, ho, _⟩ := h
  exact ⟨A, c, rfl, own_cap ho, own_none ho, h1, h2⟩
section
variable (A : Option Addr) (n c m : Nat) (w : World) (hC : Calls Try.prog 27 #[.slice A n c, .int .i64 (m : Int)] w fun e w' => e = .returned (.int .i64 0) ∧ Below w.heap.size w w')
include hC
theorem Least_lowx (k : Int) (hk : k ≤ 0) : Calls Try.prog 13 #[.slice A n c, .int .i64 k, .int .i64 (m : Int)] w (LsX w [] m 0) := by
  have hp := fun tm W hb => lsx_nil (a := m) (E := 0) (tm := tm) (w := w) (W := W) hb
  have Hp := Lib.hid hp
  have hC := Lib.hid hC
  clear hp
  go_enter Try.func13, Try.ntmps13
  go_wp2_with fail
  refine hC.out.mono ?_
  rintro e w1 ⟨rfl, hb⟩
  go_wp2_with fail
  refine Hp.out _ _ hb ?_ ?_ ?_ <;> rfl
theorem Least_highx (k : Int) (hk : (n : Int) < k) (hk0 : 1 ≤ k) : Calls Try.prog 13 #[.slice A n c, .int .i64 k, .int .i64 (m : Int)] w (LsX w [[]] m 0) := by
  have hC := Lib.hid hC
  go_enter Try.func13, Try.ntmps13
  go_wp2_with fail
  refine hC.out.mono ?_
  rintro e w1 ⟨rfl, hb⟩
  go_wp2_with fail
  have hb2 := (hb.alloc hb.size (.cells #[] 3)).alloc (by have := hb.size; simp; omega) (.cells #[.slice (some ⟨w1.heap.size, 0, none⟩) 0 0] 22)
  have hcell : ((w1.alloc (.cells #[] 3)).alloc (.cells #[.slice (some ⟨w1.heap.size, 0, none⟩) 0 0] 22)).cell? ⟨w1.heap.size + 1, 0, none⟩ = some (.slice (some ⟨w1.heap.size, 0, none⟩) 0 0) := by
    have := cell_of_row ((w1.alloc (.cells #[] 3)).alloc (.cells #[.slice (some ⟨w1.heap.size, 0, none⟩) 0 0] 22)) (w1.alloc (.cells #[] 3)).heap.size 0 #[.slice (some ⟨w1.heap.size, 0, none⟩) 0 0] 22 (0, 0) (heap_alloc_new _ _)
    rw [World.size_alloc] at this
    rw [this]; rfl
  refine lsx_post ⟨some ⟨w1.heap.size + 1, 0, none⟩, 1, rfl, by simp, (by intro e; cases e), fun _ => ⟨w1.heap.size + 1, 0, rfl, by simp, fun j hj => ?_⟩, hb2, fun j hj => ?_⟩
  · obtain rfl : j = 0 := by simp at hj; omega
    exact ⟨_, 0, hcell, RdI.nil _ _ _⟩
  · obtain rfl : j = 0 := by simp at hj; omega
    exact Nat.zero_le _
end

section
variable (A : Option Addr) (n c m K : Nat) (zs : List Int) (w : World) (hr : RdI w.heap.size w A zs) (hl : zs.length = n) (hn : n ≤ 4096) (h1 : 1 ≤ m) (h2 : m ≤ 65537) (hK1 : 1 ≤ K) (hK2 : K ≤ n)
  (hC : Calls Try.prog 27 #[.slice A n c, .int .i64 (m : Int)] w fun e w' => e = .returned (.int .i64 0) ∧ Below w.heap.size w w')
include hr hl hn h1 h2 hK1 hK2 hC

set_option maxHeartbeats 2000000 in
theorem Least_okx (hz : ∀ x ∈ zs, -65537 ≤ x ∧ x ≤ 65537) (hb1 : m + regs K n ≤ 65537) (hb2 : 2 * regs K n + 1 ≤ 65536 + n) : Calls Try.prog 13 #[.slice A n c, .int .i64 (K : Int), .int .i64 (m : Int)] w (LsX w (ctr zs K m) (m + regs K n) 0) := by
  obtain ⟨P, U, H, R, e1, e2, e3, e4, e5, e6, e7⟩ := Least_facts n K hn hK2
  have hlen := crows_length zs K m hK1 n
  have hcst := cst_regs K m n
  rw [e1] at hb1 hb2 hlen hcst ⊢
  have hX := fun W (hb : Below w.heap.size w W) => Lib.hid (counter_any w.heap.size A n c K m zs W (hr.below hb (Nat.le_refl _)) hb.size hl hn hz h1 (by omega) (by omega) (by omega))
  have hC := Lib.hid hC
  have e8 : (H : Int) + (U : Int) = (R : Int) := by omega
  have d0 : decide ((K : Int) ≤ 0) = false := decide_eq_false (by omega)
  have d0' : decide ((n : Int) < (K : Int)) = false := decide_eq_false (by omega)
  have d0'' : decide (n < K) = false := decide_eq_false (by omega)
  have d1 : decide ((65537 : Int) < (m : Int) + (R : Int)) = false := decide_eq_false (by omega)
  have d2 : decide ((65536 : Int) < 2 * (R : Int) - (n : Int) + 1) = false := decide_eq_false (by omega)
  have hRb : R ≤ 33558528 := by omega
  clear hr hl e1 e5 hlen hcst hz
  go_enter Try.func13, Try.ntmps13
  go_wp2_with fail
  refine hC.out.mono ?_
  rintro e w1 ⟨rfl, hb⟩
  have hX := hX w1 hb
  go_wp2_with fail
  refine hX.out.mono ?_
  rintro e w2 ⟨v, rfl, hcls, hlow⟩
  obtain ⟨A2, c2, rfl, hcap, hnone, hrr, hlens⟩ := hcls.resx
  have Hfin := Lib.hid (And.intro hcap <| And.intro hnone <| And.intro hrr (And.intro (hb.trans (hlow.mono hb.size)) hlens))
  clear hcap hnone hrr hlow hlens hcls hX
  go_wp2_with fail
  refine lsx_post ⟨A2, c2, ?_, Hfin.out⟩
  first | rfl | (simp; done)
end
set_option maxRecDepth 30000 in
set_option maxHeartbeats 4000000 in
theorem Most_anyx (B : Nat) (A : Option Addr) (n c a : Nat) (k next E : Int) (zs : List Int) (cl : List (List Int)) (w : World) (hr : RdI B w A zs) (hB : B ≤ w.heap.size) (hl : zs.length = n) (hn : n ≤ 1000000) (hk : Wf k)
    (hL : ∀ (W : World) (G : Option Addr) (c' : Nat), n ≤ c' → c' ≤ maxLen → RdI W.heap.size W G (zs.map ng) → Calls Try.prog 13 #[.slice G n c', .int .i64 (mostK n k), .int .i64 next] W (LsX W cl a E)) :
    Calls Try.prog 16 #[.slice A n c, .int .i64 k, .int .i64 next] w (LsX w cl a E) := by
  obtain ⟨ys, hys⟩ : ∃ ys, zs.map ng = ys := ⟨_, rfl⟩
  rw [hys] at hL
  have Hys := Lib.hid hys
  have hyl : ys.length = n := by rw [← hys, List.length_map, hl]
  have Hyl := Lib.hid hyl
  have Hl := Lib.hid hl
  have HL := Lib.hid hL
  have hk1 := hk.1
  have hk2 := hk.2
  obtain ⟨lk, hlk⟩ : ∃ x, mostK n k = x := ⟨_, rfl⟩
  have Hlk := Lib.hid hlk
  clear hl hL hys hyl hlk
  go_enter Try.func16, Try.ntmps16
  go_wp2_with fail
  go_loopw [9, 16] (fun v i wr => ∃ j : Nat, j ≤ n ∧ i = .int .i64 j ∧ RowI wr w.heap.size v (ys.take j) ∧ Below w.heap.size w wr) (fun _ i _ => n - (intOf i).toNat)
  case atStart => exact ⟨0, by omega, rfl, RowI.empty _ _, Below.refl _ _⟩
  case round =>
    obtain ⟨j, hj, rfl, hrow, hb⟩ := hrel
    by_cases hlt : j < n
    · have hjo : j < zs.length := by rw [Hl.out]; exact hlt
      have hwf := hr.wf hjo
      obtain ⟨b, off, rfl, _, hc⟩ := (hr.below hb hB).2 (by omega)
      have hc1 := hc j hjo
      have htk := ng_take zs j hjo
      rw [Hys.out] at htk
      have hfl : (ys.take j).length ≤ 1000000 := by rw [List.length_take]; omega
      have Hr := Lib.hid hr
      clear hc hjo hr
      generalize zs[j]?.getD 0 = x at *
      have hyw := ng_wf hwf
      obtain ⟨y, hy⟩ : ∃ y, ng x = y := ⟨_, rfl⟩
      rw [hy] at htk hyw
      have Hy := Lib.hid hy
      have Htk := Lib.hid htk
      have Hyw := Lib.hid hyw
      have hszr := hb.size
      clear hy htk hyw
      by_cases hmn : x = -9223372036854775808
      · have hy2 : y = -9223372036854775808 := by
          have := Hy.out
          unfold ng at this
          rw [if_pos hmn] at this
          omega
        subst hmn hy2
        go_wp2_with (at_builtin; refine wpList_push rfl _ _ rfl w.heap.size _ _ rfl hrow (wrap64 9223372036854775808) (by rw [wrap_min]; exact Hyw.out) rfl hfl hszr ?_)
        intro v' w' hrow' hb'
        rw [wrap_min] at hrow'
        rw [← Htk.out] at hrow'
        have hbn := hb.trans hb'
        go_wp2_with fail
        go_roundw
        case rel => exact ⟨j + 1, by omega, by go_num, hrow', hbn⟩
        case measure => simp [intOf]; omega
      · have hy2 : y = -x := by
          have := Hy.out
          unfold ng at this
          rw [if_neg hmn] at this
          omega
        obtain ⟨hw1, hw2⟩ := hwf
        have hw1 : -9223372036854775808 < x := by omega
        subst hy2
        clear hmn
        go_wp2_with (at_builtin; refine wpList_push rfl _ _ rfl w.heap.size _ _ rfl hrow (-x) Hyw.out rfl hfl hszr ?_)
        intro v' w' hrow' hb'
        rw [← Htk.out] at hrow'
        have hbn := hb.trans hb'
        go_wp2_with fail
        go_roundw
        case rel => exact ⟨j + 1, by omega, by go_num, hrow', hbn⟩
        case measure => simp [intOf]; omega
    · obtain rfl : j = n := by omega
      have hyt : ys.take j = ys := by rw [← Hyl.out, List.take_length]
      rw [hyt] at hrow
      obtain ⟨G, c', rfl, hc1, hc2, hg⟩ := hrow.shape
      rw [Hyl.out] at hc1 ⊢
      have hL := Lib.hid (HL.out wr G c' hc1 hc2 hg)
      have hlk := Hlk.out
      have hsz := hb.size
      clear hrow hyt hg hr HL
      by_cases hneg : k < 0
      · have e : lk = (j : Int) + 1 := by rw [← hlk]; unfold mostK; rw [if_pos hneg]
        have m1 : (if (j : Int) < k then (j : Int) else k) = k := by rw [if_neg (by omega)]
        rw [hlk, e] at hL
        clear hlk
        go_wp2_with fail
        refine hL.out.mono ?_
        rintro e w2 ⟨A2, c2, rfl, q0, qn, q1, q2, q3⟩
        have Hfin := Lib.hid (And.intro q0 <| And.intro qn <| And.intro q1 (And.intro (hb.trans (q2.mono hsz)) q3))
        clear q0 qn q1 q2 q3 hb
        go_wp2_with fail
        refine bodyPost_ret (results16 _ _) rfl ⟨A2, c2, rfl, Hfin.out⟩
      · by_cases hkn : k < j
        · have e : lk = (j : Int) - k := by rw [← hlk]; unfold mostK; rw [if_neg hneg, if_pos hkn]
          have m1 : (if (j : Int) < k then (j : Int) else k) = k := by rw [if_neg (by omega)]
          rw [hlk, e] at hL
          clear hlk
          go_wp2_with fail
          refine hL.out.mono ?_
          rintro e w2 ⟨A2, c2, rfl, q0, qn, q1, q2, q3⟩
          have Hfin := Lib.hid (And.intro q0 <| And.intro qn <| And.intro q1 (And.intro (hb.trans (q2.mono hsz)) q3))
          clear q0 qn q1 q2 q3 hb
          go_wp2_with fail
          refine bodyPost_ret (results16 _ _) rfl ⟨A2, c2, rfl, Hfin.out⟩
        · have e : lk = 0 := by rw [← hlk]; unfold mostK; rw [if_neg hneg, if_neg hkn]
          have m1 : (if (j : Int) < k then (j : Int) else k) = (j : Int) := by split <;> omega
          rw [hlk, e] at hL
          clear hlk
          go_wp2_with fail
          refine hL.out.mono ?_
          rintro e w2 ⟨A2, c2, rfl, q0, qn, q1, q2, q3⟩
          have Hfin := Lib.hid (And.intro q0 <| And.intro qn <| And.intro q1 (And.intro (hb.trans (q2.mono hsz)) q3))
          clear q0 qn q1 q2 q3 hb
          go_wp2_with fail
          refine bodyPost_ret (results16 _ _) rfl ⟨A2, c2, rfl, Hfin.out⟩

theorem Least_x {n : Nat} {zs : List Int} {k : Int} {N : Nat} {cl : List (List Int)} {a : Nat} (A : Option Addr) (c : Nat) (hl : zs.length = n) (hn : n ≤ 60) (h1 : 1 ≤ N) (h2 : N ≤ 30000) (h : lsOf n zs k N = (cl, a, 0)) :
    ∀ W : World, RdI W.heap.size W A zs → Calls Try.prog 13 #[.slice A n c, .int .i64 k, .int .i64 (N : Int)] W (LsX W cl a 0) := fun W hW => by
  rcases ls_cases (n := n) (zs := zs) k N hn h1 h2 with ⟨E, hE, _, e⟩ | ⟨hd, hz, ⟨hk, e⟩ | ⟨hk, e⟩ | ⟨K, rfl, hK1, hK2, e⟩⟩
  · rw [e] at h; injection h with _ h; injection h with _ h; exact absurd h hE
  all_goals have hCk := check_any W.heap.size A n c zs (N : Int) W hW (Nat.le_refl _) hl (by omega) (by omega) (by omega) 0 (by rw [hd]; rfl)
  · rw [e] at h; injection h with h3 h; injection h with h4 _; subst h3; subst h4
    exact Least_lowx A n c N W hCk k hk
  · rw [e] at h; injection h with h3 h; injection h with h4 _; subst h3; subst h4
    exact Least_highx A n c N W hCk k hk (by omega)
  · rw [e] at h; injection h with h3 h; injection h with h4 _; subst h3; subst h4
    have hreg := regs_le K n
    have hsq : n * n ≤ 3600 := Nat.mul_le_mul hn hn
    exact Least_okx A n c N K zs W hW hl (by omega) (by omega) (by omega) hK1 hK2 hCk (fun x hx => by have := hz x hx; exact ⟨by have := this.2.1; omega, by have := this.2.2; omega⟩) (by omega) (by omega)
theorem ls_few {n : Nat} {zs : List Int} {k : Int} {N : Nat} {cl : List (List Int)} {a : Nat} (hl : zs.length = n) (hn : n ≤ 12) (h1 : 1 ≤ N) (h2 : N ≤ 10000) (h : lsOf n zs k N = (cl, a, 0)) : cl.length ≤ 400 ∧ a ≤ N + 144 := by
  rcases ls_cases (n := n) (zs := zs) k N (by omega) h1 (by omega) with ⟨E, hE, _, e⟩ | ⟨hd, hz, ⟨hk, e⟩ | ⟨hk, e⟩ | ⟨K, rfl, hK1, hK2, e⟩⟩
  · rw [e] at h; injection h with _ h; injection h with _ h; exact absurd h hE
  · rw [e] at h; injection h with h3 h; injection h with h4 _; subst h3; subst h4; simp
  · rw [e] at h; injection h with h3 h; injection h with h4 _; subst h3; subst h4; simp
  · rw [e] at h; injection h with h3 h; injection h with h4 _; subst h3; subst h4
    have hreg := regs_le K n
    have hsq : n * n ≤ 144 := Nat.mul_le_mul hn hn
    have hlen := crows_length zs K N hK1 n
    have hcl : (ctr zs K N).length = (crows zs K N n).length + 1 := by unfold ctr; rw [hl, List.length_append]; rfl
    omega
theorem dist_mono {m m' : Nat} (h : m ≤ m') : ∀ (l seen : List Int), Tot.dist (m : Int) seen l = true → Tot.dist (m' : Int) seen l = true
  | [], _, _ => rfl
  | x :: l, seen, hd => by
    rw [Tot.dist] at hd ⊢
    split at hd
    · cases hd
    · rename_i hc
      rw [if_neg]
      · exact dist_mono h l _ hd
      · rintro (q | q | q | q | q)
        · exact hc (.inl q)
        · exact hc (.inr (.inl (by omega)))
        · exact hc (.inr (.inr (.inl (by omega))))
        · exact hc (.inr (.inr (.inr (.inl q))))
        · exact hc (.inr (.inr (.inr (.inr q))))

/-- A row of clauses that were there: these values read as these lists, in blocks below B. -/
def RowC (w : World) (base B : Nat) (v : Value) (cl : List (List Int)) : Prop :=
  ∃ vs : List Value, w.ownsRow base 22 1 v vs.length vs ∧ vs.length = cl.length ∧ ∀ j, j < cl.length → ∃ E c, vs[j]? = some (.slice E (cl[j]?.getD []).length c) ∧ RdI B w E (cl[j]?.getD [])
theorem RowC.empty (w : World) (base B : Nat) : RowC w base B (.slice Option.none 0 0) [] := ⟨[], World.ownsRow_nil _ _ _ _, rfl, fun j h => absurd h (by simp)⟩
theorem RowC.below {w w' : World} {base B : Nat} {v : Value} {cl : List (List Int)} (h : RowC w base B v cl) (hB : B ≤ w.heap.size) (hb : Below w.heap.size w w') : RowC w' base B v cl := by
  obtain ⟨vs, h1, h2, h3⟩ := h
  refine ⟨vs, own_below h1 hb, h2, fun j hj => ?_⟩
  obtain ⟨E, c, h4, h5⟩ := h3 j hj
  exact ⟨E, c, h4, h5.below hb hB⟩
theorem RowC.res {w : World} {base B : Nat} {v : Value} {cl : List (List Int)} (h : RowC w base B v cl) (hB : B ≤ w.heap.size) : ∃ A c, v = .slice A cl.length c ∧ RdR w.heap.size w A cl := by
  obtain ⟨vs, ho, hl, h3⟩ := h
  obtain ⟨A, c, e⟩ := own_shape ho
  refine ⟨A, c, by rw [e, hl], fun hn => ?_⟩
  rcases ho.2 with ⟨e2, h0⟩ | ⟨g, cap, cur, e2, _, hg, hn2, hcm, hcs, ht⟩
  · omega
  · rw [e] at e2
    injection e2 with e3 e4 e5
    subst e3; subst e5
    refine ⟨g, 0, rfl, (Array.getElem?_eq_some_iff.1 hg).1, fun j hj => ?_⟩
    obtain ⟨E, c', h4, h5⟩ := h3 j hj
    refine ⟨E, c', ?_, h5.more hB⟩
    rw [e] at ho
    have hc := World.ownsRow.cellAt ho j (by omega)
    rw [Nat.zero_add, hc, h4]
/-- An append of clauses that were there. -/
theorem push_cls {ops : Array Oper} {rest : List Oper} {o : Oper} {a : Act} {Q : Exit → Act → World → Prop} {w : World} (hgd : o.guard = none) (s x : Operand)
    (ho : o.op = .call { callee := .builtin .append, args := #[s, x], argTypes := #[24, 24] }) (base B : Nat) (v : Value) (cl : List (List Int)) (hs : a.eval s = v) (hrow : RowC w base B v cl)
    (B' : Nat) (A : Option Addr) (m c : Nat) (dl : List (List Int)) (hx : a.eval x = .slice A m c) (hr : RdR B' w A dl) (hm : dl.length = m) (hn : A = none → c = 0) (hnc : m ≤ c) (hB : B' ≤ B)
    (hbound : cl.length + m ≤ 1000000) (hB2 : B ≤ base) (hbase : base ≤ w.heap.size)
    (h : ∀ v' w', RowC w' base B v' (cl ++ dl) → Below base w w' → wpList Try.prog ops Q rest (a.put o.dst v') w') : wpList Try.prog ops Q (o :: rest) a w := by
  obtain ⟨i0, hi, hz0, hz1, hz2⟩ := info_parts info22
  obtain ⟨vs, hown, hvl, hread⟩ := hrow
  cases A with
  | none =>
    have hc := hn rfl
    subst hc
    have h0 : dl = [] := by
      rcases Nat.eq_zero_or_pos dl.length with e | e
      · exact List.eq_nil_of_length_eq_zero e
      · obtain ⟨b, off, e, _⟩ := hr e; cases e
    subst h0
    have hm0 : m = 0 := by rw [← hm]; rfl
    subst hm0
    exact wpList_append_own_none hgd s x 24 ho base 22 i0 1 underlying24 hi v vs.length vs hs hown hx (h v w ⟨vs, hown, by simpa using hvl, by simpa using hread⟩ (Below.refl _ _))
  | some ad =>
    obtain ⟨news, hnl, hnews⟩ : ∃ news : List Value, news.length = m ∧ ∀ j, j < m → ∃ E c', news[j]? = some (.slice E (dl[j]?.getD []).length c') ∧ w.cell? (ad.add j) = some (.slice E (dl[j]?.getD []).length c') ∧ RdI B w E (dl[j]?.getD []) := by
      refine ⟨(List.range m).map fun j => (w.cell? (ad.add j)).getD undef, by simp, fun j hj => ?_⟩
      obtain ⟨b, off, e, _, hc⟩ := hr (by omega)
      injection e with e
      subst e
      obtain ⟨E, c', h1, h2⟩ := hc j (by omega)
      refine ⟨E, c', ?_, by rw [add_plain]; exact h1, h2.more hB⟩
      rw [List.getElem?_map, List.getElem?_range hj, Option.map_some, add_plain, h1]; rfl
    refine wpList_append_own w hgd s x 24 ho base 22 i0 (.slice Option.none 0 0) 1 24 underlying24 hi hz0 hz1 hz2 rfl (by decide) v vs.length vs hs hown ad m c news hx (by rw [hnl, Nat.mul_one]) ?_ ?_ (by unfold maxLen; omega) (by omega) hbase ?_
    · intro j u hj
      have hjm : j < m := by rw [← hnl]; exact (List.getElem?_eq_some_iff.1 hj).1
      obtain ⟨E, c', h1, h2, _⟩ := hnews j hjm
      rw [h1] at hj; injection hj with hj
      rw [← hj]; exact h2
    · intro u hu
      obtain ⟨j, hj, rfl⟩ := List.mem_iff_getElem.1 hu
      obtain ⟨E, c', h1, _, _⟩ := hnews j (by rw [← hnl]; exact hj)
      rw [List.getElem?_eq_getElem hj] at h1; injection h1 with h1
      rw [h1]; rfl
    · intro v' w' hown' hg _
      have hlow : Below base w w' := (Below.refl base w).grown hg hbase (fun k hk => (hown.lt k hk).1)
      refine h v' w' ⟨vs ++ news, by rw [List.length_append, hnl]; exact hown', by rw [List.length_append, List.length_append, hvl, hnl, hm], fun j hj => ?_⟩ hlow
      rw [List.length_append] at hj
      by_cases hjl : j < cl.length
      · obtain ⟨E, c', h1, h2⟩ := hread j hjl
        rw [List.getElem?_append_left hjl]
        exact ⟨E, c', by rw [List.getElem?_append_left (by omega)]; exact h1, h2.below hlow hB2⟩
      · obtain ⟨E, c', h1, _, h2⟩ := hnews (j - cl.length) (by omega)
        have e : (cl ++ dl)[j]? = dl[j - cl.length]? := List.getElem?_append_right (by omega)
        rw [e]
        exact ⟨E, c', by rw [List.getElem?_append_right (by omega), hvl]; exact h1, h2.below hlow hB2⟩

theorem Agr.trans {m : Nat} {a b c : List Bool} (h : Agr m a b) (k : Agr m b c) : Agr m a c := fun j hj => (h j hj).trans (k j hj)
theorem Agr.mono {m m' : Nat} {a b : List Bool} (h : Agr m' a b) (hm : m ≤ m') : Agr m a b := fun j hj => h j (by omega)
theorem take_agr (b : List Bool) (a : Nat) : Agr a (b.take a) b := fun j hj => by rw [List.getElem?_take_of_lt hj]
/-- Clauses behind clauses. -/
theorem CanOf.append {N a b F G : Nat} {cl dl : List (List Int)} {P Q : List Bool → Prop} (h : CanOf N cl a F P) (k : CanOf a dl b G Q) (hlow : cl.length + dl.length ≤ 20000) (hQ : ∀ bs bs', Agr N bs bs' → (Q bs ↔ Q bs')) :
    CanOf N (cl ++ dl) b (F + G) (fun bs => P bs ∧ Q bs) := by
  have h1 := h.sum
  have h2 := k.sum
  refine ⟨by omega, fun x hx y hy => ?_, by rw [List.length_append]; exact hlow, k.low, fun bs hbs => ?_⟩
  · rcases List.mem_append.1 hx with hx | hx
    · exact (h.lits x hx y hy).mono (by omega)
    · exact k.lits x hx y hy
  · have hsat : ∀ e, sat e (cl ++ dl) = (sat e cl && sat e dl) := fun e => List.all_append
    constructor
    · rintro ⟨t, ht, hs⟩
      rw [hsat, Bool.and_eq_true] at hs
      obtain ⟨e, he⟩ : ∃ e, ext bs t (F + G) = e := ⟨_, rfl⟩
      rw [he] at hs
      have hel : e.length = b := by rw [← he, ext_len]; omega
      have hea : Agr N e bs := by rw [← he, ← hbs]; exact ext_agr bs t _
      have htl : (e.take a).length = a := by rw [List.length_take]; omega
      have hta : Agr N (e.take a) bs := (Agr.mono (take_agr e a) (by omega)).trans hea
      obtain ⟨t1, q1, q2⟩ := ext_of (bs := bs) (b := e.take a) (F := F) (by rw [htl]; omega) (by rw [hbs]; exact hta)
      obtain ⟨t2, q3, q4⟩ := ext_of (bs := e.take a) (b := e) (F := G) (by rw [htl]; omega) (by rw [htl]; exact fun j hj => (take_agr e a j hj).symm)
      exact ⟨(h.iff bs hbs).1 ⟨t1, q1, by rw [q2, sat_agr (take_agr e a) h.lits]; exact hs.1⟩, (hQ _ _ hta).1 ((k.iff (e.take a) htl).1 ⟨t2, q3, by rw [q4]; exact hs.2⟩)⟩
    · rintro ⟨p, q⟩
      obtain ⟨t1, q1, q2⟩ := (h.iff bs hbs).2 p
      have hl1 : (ext bs t1 F).length = a := by rw [ext_len]; omega
      have ha1 : Agr N (ext bs t1 F) bs := by rw [← hbs]; exact ext_agr bs t1 _
      obtain ⟨t2, q3, q4⟩ := (k.iff (ext bs t1 F) hl1).2 ((hQ _ _ ha1).2 q)
      have ha2 : Agr a (ext (ext bs t1 F) t2 G) (ext bs t1 F) := by rw [← hl1]; exact ext_agr _ t2 _
      obtain ⟨t, q5, q6⟩ := ext_of (bs := bs) (b := ext (ext bs t1 F) t2 G) (F := F + G) (by rw [ext_len, hl1]; omega) (by rw [hbs]; exact (Agr.mono ha2 (by omega)).trans ha1)
      exact ⟨t, q5, by rw [q6, hsat, Bool.and_eq_true]; exact ⟨by rw [sat_agr ha2 h.lits]; exact q2, q4⟩⟩
end Go.Proofs.Ytpiomdnkemoanaa
