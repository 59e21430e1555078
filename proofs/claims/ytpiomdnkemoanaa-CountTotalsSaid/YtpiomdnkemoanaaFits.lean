/- For every slice of integers, every number k and every first new variable, the law CountFits answers true at the landed code and changes nothing that came in: an error comes with no clauses and 0, and otherwise the clauses of Least are a valid formula over the variables below the one returned, which is the first new variable and the number of registers. Conditions: those of the statement alone. -/
import Derived.Test.YtpiomdnkemoanaaLaw
namespace Go.Proofs.Ytpiomdnkemoanaa
open Go.ChangeShapes Go.WideShapes Go.ChangeAt Go.RowKit

theorem nz_lit {v : Nat} {l : List Int} (h : ∀ y ∈ l, y = 0 ∨ Lit v y) : ∀ y ∈ nz l, Lit v y := fun y hy => by
  unfold nz at hy
  obtain ⟨h1, h2⟩ := List.mem_filter.1 hy
  rcases h y h1 with q | q
  · exact absurd q (by simpa using h2)
  · exact q
theorem ab_lit {v b ls i : Nat} (hb : 1 ≤ b) (h : b + ls ≤ v) : ab b ls i = 0 ∨ Lit v (ab b ls i) := by
  unfold ab
  split
  · exact .inr ⟨by omega, by omega, by omega⟩
  · exact .inl rfl
theorem crow_good {v s b ls : Nat} {x : Int} (hs : 1 ≤ s) (hb : 1 ≤ b) (hls : b + ls ≤ v) (hx : Lit v x) : ∀ i, s + i ≤ v → ∀ c ∈ crow x s b ls i, ∀ y ∈ c, Lit v y
  | 0, _ => by simp [crow]
  | i + 1, h => by
    intro c hc
    rw [crow] at hc
    have hr : Lit v (-((s + i : Nat) : Int)) := ⟨by omega, by omega, by omega⟩
    rcases List.mem_append.1 hc with hc | hc
    · exact crow_good hs hb hls hx i (by omega) c hc
    · rcases List.mem_append.1 hc with hc | hc
      · rw [List.mem_singleton.1 hc]
        refine nz_lit fun y hy => ?_
        simp only [List.mem_cons, List.not_mem_nil, or_false] at hy
        rcases hy with rfl | rfl | rfl
        · exact .inr hr
        · exact ab_lit hb hls
        · exact .inr hx
      · split at hc
        · rw [List.mem_singleton.1 hc]
          refine nz_lit fun y hy => ?_
          simp only [List.mem_cons, List.not_mem_nil, or_false] at hy
          rcases hy with rfl | rfl | rfl
          · exact .inr hr
          · exact ab_lit hb hls
          · exact ab_lit hb hls
        · simp at hc
theorem crows_good {v k m : Nat} {zs : List Int} (hm : 1 ≤ m) (hz : ∀ x ∈ zs, Lit v x) : ∀ r, r ≤ zs.length → (cst k m r).1 ≤ v → ∀ c ∈ crows zs k m r, ∀ y ∈ c, Lit v y
  | 0, _, _ => by simp [crows]
  | r + 1, hr, h => by
    intro c hc
    have h0 := cst_mono k m r 1
    have h3 : m ≤ (cst k m r).1 := by
      have := cst_mono k m 0 r
      rw [Nat.zero_add] at this
      exact this
    rw [crows] at hc
    rcases List.mem_append.1 hc with hc | hc
    · exact crows_good hm hz r (by omega) (by omega) c hc
    · have hlt : r < zs.length := by omega
      refine crow_good (by omega) ?_ ?_ ?_ _ h c hc
      · cases r with
        | zero => exact hm
        | succ r =>
          have := cst_mono k m 0 r
          rw [Nat.zero_add] at this
          exact Nat.le_trans hm this
      · cases r with
        | zero => show m + min 0 k ≤ v; have : (cst k m 0).1 = m := rfl; omega
        | succ r => show (cst k m r).1 + min (r + 1) k ≤ v; exact Nat.le_trans (Nat.le_refl _) (Nat.le_trans h0 h)
      · rw [List.getElem?_eq_getElem hlt]; exact hz _ (List.getElem_mem _)
theorem ctr_good {n k m : Nat} {zs : List Int} (hl : zs.length = n) (hm : 1 ≤ m) (hk : 1 ≤ k) (hn : 1 ≤ n) (hz : ∀ x ∈ zs, Lit m x) : ∀ c ∈ ctr zs k m, ∀ y ∈ c, Lit (m + regs k n) y := by
  intro c hc
  have e := cst_regs k m n
  have h1 : 1 ≤ regs k n := by
    have := crows_length zs k m hk n
    omega
  unfold ctr at hc
  rw [hl] at hc
  rcases List.mem_append.1 hc with hc | hc
  · exact crows_good hm (fun x hx => (hz x hx).mono (by omega)) n (by omega) (by omega) c hc
  · rw [List.mem_singleton.1 hc]
    refine nz_lit fun y hy => ?_
    rw [List.mem_singleton.1 hy]
    exact .inr ⟨by omega, by omega, by omega⟩
theorem dist_bound {m : Nat} : ∀ (l seen : List Int), Tot.dist (m : Int) seen l = true → ∀ x ∈ l, Lit m x
  | [], _, _ => by simp
  | y :: l, seen, hd => by
    rw [Tot.dist] at hd
    split at hd
    · exact absurd hd (by simp)
    · rename_i hc
      intro x hx
      rcases List.mem_cons.1 hx with rfl | hx
      · exact ⟨fun q => hc (.inl q), by have : ¬ x ≤ -(m : Int) := fun q => hc (.inr (.inl q)); omega, by have : ¬ (m : Int) ≤ x := fun q => hc (.inr (.inr (.inl q))); omega⟩
      · exact dist_bound l (y :: seen) hd x hx

set_option maxHeartbeats 4000000 in
theorem fits_out (A : Option Addr) (n c : Nat) (k next : Int) (w : World) (h : 200 < n) :
    Calls Try.prog 8 #[.slice A n c, .int .i64 k, .int .i64 next] w fun e w' => e = .returned (.bool true) ∧ Below w.heap.size w w' := by
  go_enter Try.func8, Try.ntmps8
  go_wp2_with fail
  refine (live_any w).mono ?_
  rintro e w1 ⟨rfl, hb1⟩
  go_wp2_with fail
  go_ret
  exact ⟨rfl, hb1⟩
set_option maxHeartbeats 4000000 in
theorem fits_err (A : Option Addr) (n c : Nat) (k next E : Int) (zs : List Int) (w : World) (hr : RdI w.heap.size w A zs) (hn : n ≤ 200) (hE : E ≠ 0)
    (hT : ∀ W : World, RdI W.heap.size W A zs → Calls Try.prog 13 #[.slice A n c, .int .i64 k, .int .i64 next] W (LsRes W [] 0 E)) :
    Calls Try.prog 8 #[.slice A n c, .int .i64 k, .int .i64 next] w fun e w' => e = .returned (.bool true) ∧ Below w.heap.size w w' := by
  have d0 : (E != 0) = true := by simpa using hE
  go_enter Try.func8, Try.ntmps8
  go_wp2_with fail
  refine (live_any w).mono ?_
  rintro e w1 ⟨rfl, hb1⟩
  go_wp2_with fail
  refine (hT w1 (hr.below hb1 (Nat.le_refl _) |>.more hb1.size)).mono ?_
  rintro e w2 ⟨A1, c1, rfl, _, hb2, _⟩
  have hb12 := hb1.trans (hb2.mono hb1.size)
  go_wp2_with fail
  go_ret
  exact ⟨rfl, hb12⟩
set_option maxHeartbeats 4000000 in
theorem fits_run (A : Option Addr) (n c a C R : Nat) (k next : Int) (zs : List Int) (cl : List (List Int)) (w : World) (hr : RdI w.heap.size w A zs) (hn : n ≤ 200) (hC : cl.length = C) (hC2 : C ≤ 65536)
    (hT : ∀ W : World, RdI W.heap.size W A zs → Calls Try.prog 13 #[.slice A n c, .int .i64 k, .int .i64 next] W (LsRes W cl a 0))
    (hR : ∀ W : World, Calls Try.prog 23 #[.int .i64 (n : Int), .int .i64 k] W fun e w' => e = .returned (.int .i64 (R : Int)) ∧ W = w') (ha : (a : Int) = next + (R : Int)) (h1 : 1 ≤ a) (h2 : a ≤ 65537) (_hx1 : 1 ≤ next) (hlit : ∀ x ∈ cl, ∀ y ∈ x, Lit a y) :
    Calls Try.prog 8 #[.slice A n c, .int .i64 k, .int .i64 next] w fun e w' => e = .returned (.bool true) ∧ Below w.heap.size w w' := by
  have HC := Lib.hid hC
  have HR := Lib.hid hR
  have Hlit := Lib.hid hlit
  have hsum : next + (R : Int) = (a : Int) := ha.symm
  clear hC hR hlit ha
  go_enter Try.func8, Try.ntmps8
  go_wp2_with fail
  refine (live_any w).mono ?_
  rintro e w1 ⟨rfl, hb1⟩
  go_wp2_with fail
  refine (hT w1 (hr.below hb1 (Nat.le_refl _) |>.more hb1.size)).mono ?_
  rintro e w2 ⟨A1, c1, rfl, r1, hb2, hlen⟩
  rw [HC.out]
  have hb12 := hb1.trans (hb2.mono hb1.size)
  have Hlen := Lib.hid hlen
  clear hb1 hb2 hT hlen
  go_wp2_with fail
  refine (HR.out _).mono ?_
  rintro e w' ⟨rfl, rfl⟩
  have hK := Lib.hid (Check_ok w2.heap.size A1 a C c1 ((a : Int) - 1) cl w2 r1 (Nat.le_refl _) HC.out hC2 rfl h1 h2 Hlen.out Hlit.out)
  go_wp2_with fail
  refine hK.out.mono ?_
  rintro e w3 ⟨rfl, hb3⟩
  have hb13 := hb12.trans (hb3.mono hb12.size)
  go_wp2_with fail
  go_ret
  exact ⟨rfl, hb13⟩

theorem fits_any (A : Option Addr) (n c : Nat) (k next : Int) (zs : List Int) (w : World) (hr : RdI w.heap.size w A zs) (hl : zs.length = n) (_hnc : n ≤ c) (_hc : c ≤ maxLen) :
    Calls Try.prog 8 #[.slice A n c, .int .i64 k, .int .i64 next] w fun e w' => e = .returned (.bool true) ∧ Below w.heap.size w w' := by
  by_cases h : 200 < n
  · exact fits_out A n c k next w h
  · have hn : n ≤ 200 := by omega
    by_cases ha : next < 1 ∨ 65537 < next
    · exact fits_err A n c k next 1 zs w hr hn (by omega) fun W _ => Least_err A n c k next 1 W (by omega) (check_bad A n c next W (by omega))
    · obtain ⟨m, rfl⟩ := Int.eq_ofNat_of_zero_le (show 0 ≤ next by omega)
      cases hd : Tot.dist (m : Int) [] zs with
      | false => exact fits_err A n c k _ 140 zs w hr hn (by omega) fun W hW => Least_err A n c k _ 140 W (by omega) (check_any W.heap.size A n c zs _ W hW (Nat.le_refl _) hl (by omega) (by omega) (by omega) 140 (by rw [hd]; rfl))
      | true =>
        have hCk := fun (W : World) (hW : RdI W.heap.size W A zs) => check_any W.heap.size A n c zs (m : Int) W hW (Nat.le_refl _) hl (by omega) (by omega) (by omega) 0 (by rw [hd]; rfl)
        have hlit := dist_bound zs [] hd
        by_cases hk0 : k ≤ 0
        · exact fits_run A n c m 0 0 k _ zs [] w hr hn rfl (by omega) (fun W hW => Least_low A n c m W (hCk W hW) k hk0) (fun W => Registers_none W n k (by omega) (by omega)) (by omega) (by omega) (by omega) (by omega) (by simp)
        · by_cases hkn : (n : Int) < k
          · exact fits_run A n c m 1 0 k _ zs [[]] w hr hn rfl (by omega) (fun W hW => Least_high A n c m W (hCk W hW) k hkn (by omega)) (fun W => Registers_none W n k (by omega) (by omega)) (by omega) (by omega) (by omega) (by omega) (by simp)
          · obtain ⟨K, rfl⟩ := Int.eq_ofNat_of_zero_le (show 0 ≤ k by omega)
            by_cases hb : 65537 < m + regs K n ∨ 65536 + n < 2 * regs K n + 1
            · exact fits_err A n c _ _ 2 zs w hr hn (by omega) fun W hW => Least_bound A n c m K W (by omega) (by omega) (by omega) (by omega) (by omega) (hCk W hW) hb
            · have hlen := crows_length zs K m (by omega) n
              have hcl : (ctr zs K m).length = (crows zs K m n).length + 1 := by unfold ctr; rw [hl, List.length_append]; rfl
              exact fits_run A n c (m + regs K n) _ (regs K n) _ _ zs (ctr zs K m) w hr hn rfl (by omega)
                (fun W hW => Least_ok A n c m K zs W hW hl (by omega) (by omega) (by omega) (by omega) (by omega) (hCk W hW) (fun x hx => by have := hlit x hx; exact ⟨by have := this.2.1; omega, by have := this.2.2; omega⟩) (by omega) (by omega))
                (fun W => Registers_some W n K (by omega) (by omega) (by omega)) (by omega) (by omega) (by omega) (by omega) (ctr_good hl (by omega) (by omega) (by omega) hlit)

set_option maxRecDepth 100000 in
theorem countFits_lifted (os : Os) (started : os.Started) (H : Type) (enc : TypeId × Value → H) :
    ReturnsInHanded {} Try.checked os 8 .any (Rows.countFitsSpec.pre6 enc Try.prog Try.f8 Rows.countFitsRow.domain false) (Rows.countFitsSpec.post enc Try.prog Try.f8 false true false false) := by
  refine returnsInHanded_of_change (C := Try.checked) Try_own started (by kernel_rfl) Try.func8
    (ChangeSpec.witness6 (enc := enc) (C := Try.checked) false ⟨#[], #[.slice Option.none 0 0, .int .i64 0, .int .i64 0], []⟩ 8 (by kernel_rfl) (by kernel_rfl) (by kernel_rfl) (by kernel_rfl)) ?_
  intro W base args ds gs before hval0 hW _ _
  have hval : ∀ (j : Nat) t v, Try.f8.params[j]? = some t → args[j]? = some v → Value.okWide Try.prog W .any base t v := hval0
  have hW' := hW
  obtain ⟨p, q, hA0, hV, rfl, _, _⟩ := hW
  have hA : DataW.TrodAll enc Try.prog W 0 (fun _ => true) true Try.f8.params.toList args.toList ds p := hA0
  have hpar : Try.f8.params = #[22, 3, 3] := rfl
  rw [hpar] at hA hval
  have hlt : ∀ x ∈ p, x.block < W.heap.size := fun x hx => hW'.lt x (List.mem_append_left _ hx)
  obtain ⟨rfl, rfl⟩ := trodVars_none hV
  clear hA0 hval0
  obtain ⟨v0, vs0, d0, ds0, p0, q0, hargs0, rfl, rfl, h0, r0⟩ := trodAll_cons hA
  obtain ⟨v1, vs1, d1, ds1, p1, q1, hargs1, rfl, rfl, h1, r1⟩ := trodAll_cons r0
  obtain ⟨v2, vs2, d2, ds2, p2, q2, hargs2, rfl, rfl, h2, r2⟩ := trodAll_cons r1
  obtain ⟨hlast, rfl, rfl⟩ := trodAll_nil r2
  obtain rfl : args = #[v0, v1, v2] := by
    apply Array.toList_inj.1
    rw [hargs0, hargs1, hargs2, hlast]
  obtain ⟨A0, n0, cap0, zs0, rfl, hr0, hl0, hlc0, hm0, _⟩ := open_intlist (hval 0 22 v0 rfl rfl) h0 (fun x hx => hlt x (List.mem_append_left _ hx))
  obtain ⟨n1, rfl, rfl, rfl, wf1⟩ := open_int underlying3' (hval 1 3 v1 rfl rfl) h1
  obtain ⟨n2, rfl, rfl, rfl, wf2⟩ := open_int underlying3' (hval 2 3 v2 rfl rfl) h2
  refine (fits_any A0 n0 cap0 n1 n2 zs0 W hr0 hl0 hlc0 hm0).mono fun e W' ⟨he, hb⟩ => ?_
  subst he
  exact ⟨_, rfl, law_post Try_laidOut hW' rfl (by rw [hpar]; decide +kernel) 4 rfl Try.underlying4 rfl hb⟩

theorem countFits_holds : Rows.CountFitsSaid :=
  OpenClaim.holds_of_wide 8 Try.f8 rfl rfl rfl rfl rfl rfl rfl ⟨rfl, rfl, rfl, rfl, rfl⟩ rfl rfl rfl rfl rfl (by kernel_rfl) Try.func8 (by kernel_rfl)
    (of_decide_eq_true (by kernel_rfl)) (by unfold Func.isWrapper; first | (rw [if_pos (by decide +kernel)]; kernel_rfl) | (rw [if_neg (by decide +kernel)]; exact ⟨rfl, rfl⟩))
    (fun os started H enc _ => countFits_lifted os started H enc)
end Go.Proofs.Ytpiomdnkemoanaa
