/- What slices.Grow answers for nil, what slices.Concat answers. -/
import Derived.Test.YtoacfjmefoiflaaBase
import Derived.Lib.Walk
import Derived.Lib.SliceRun
import Derived.Lib.AppendZerosOnto
namespace Go.Proofs.Ytoacfjmefoiflaa
open Go.RowKit
set_option maxRecDepth 100000

/-- An append of a slice of integers to a row of the call's own. -/
theorem push_ints {ops : Array Oper} {rest : List Oper} {o : Oper} {a : Act} {Q : Exit → Act → World → Prop} {w : World} (hgd : o.guard = none) (s x : Operand)
    (ho : o.op = .call { callee := .builtin .append, args := #[s, x], argTypes := #[22, 22] }) (base : Nat) (v : Value) (bs : List Int) (hs : a.eval s = v) (hrow : RowI w base v bs)
    (B : Nat) (A : Option Addr) (m c : Nat) (cs : List Int) (hx : a.eval x = .slice A m c) (hr : RdI B w A cs) (hm : cs.length = m) (hn : A = none → c = 0)
    (hbound : bs.length + m ≤ 1000000) (hbase : base ≤ w.heap.size)
    (h : ∀ v' w', RowI w' base v' (bs ++ cs) → Below base w w' → wpList Try.prog ops Q rest (a.put o.dst v') w') : wpList Try.prog ops Q (o :: rest) a w := by
  obtain ⟨i0, hi, hz0, hz1, hz2⟩ := info_parts info3
  cases A with
  | none =>
    have hc := hn rfl
    subst hc
    have h0 : cs = [] := by
      rcases Nat.eq_zero_or_pos cs.length with e | e
      · exact List.eq_nil_of_length_eq_zero e
      · obtain ⟨b, off, e, _⟩ := hr.2 e; cases e
    subst h0
    have hm0 : m = 0 := by rw [← hm]; rfl
    subst hm0
    exact wpList_append_own_none hgd s x 22 ho base 3 i0 1 underlying22 hi v bs.length (bs.map (Value.int .i64)) hs hrow.2 hx (h v w (by simpa using hrow) (Below.refl _ _))
  | some ad =>
    have hcell : ∀ j u, (cs.map (Value.int .i64))[j]? = some u → w.cell? (ad.add j) = some u := by
      intro j u hj
      have hjl : j < cs.length := by
        have := (List.getElem?_eq_some_iff.1 hj).1
        simpa using this
      obtain ⟨b, off, e, _, hc⟩ := hr.2 (by omega)
      injection e with e
      subst e
      rw [intsAt cs j hjl] at hj
      injection hj with hj
      rw [add_plain, ← hj]
      exact hc j hjl
    refine wpList_append_own w hgd s x 22 ho base 3 i0 (.int .i64 0) 1 8 underlying22 hi hz0 hz1 hz2 rfl (by decide) v bs.length (bs.map (Value.int .i64)) hs hrow.2 ad m c (cs.map (Value.int .i64)) hx (by rw [List.length_map, hm, Nat.mul_one]) hcell (by intro u hu; obtain ⟨z, _, rfl⟩ := List.mem_map.1 hu; rfl) (by unfold maxLen; omega) (by omega) hbase ?_
    intro v' w' hown hg _
    refine h v' w' ⟨fun z hz => ?_, ?_⟩ ((Below.refl base w).grown hg hbase (fun k hk => (hrow.2.lt k hk).1))
    · rcases List.mem_append.1 hz with q | q
      · exact hrow.1 z q
      · exact hr.1 z q
    · rw [List.length_append, hm, List.map_append]
      exact hown

theorem grow_run (n : Nat) (w : World) (hn : 0 < n) (h2 : n ≤ 1000000) : ∃ (G : Nat) (cur : Array Value), n ≤ G ∧ G ≤ 9223372036854775807 ∧ G ≤ maxLen ∧ cur.size = G ∧ ∀ ty, (Builtin.append_ #[22, 3] ty #[.slice none 0 0, .int .i64 (n : Int)]).run Try.prog w =
      .ok (.slice (some ⟨w.heap.size, 0, none⟩) n G) (w.drew.alloc (.cells cur 3)) := by
  obtain ⟨i0, hi, hz0, hz1, hz2⟩ := info_parts info3
  have hG : n ≤ grownCap w n 0 3 := grownCap_ge w _ _ _
  refine ⟨grownCap w n 0 3, ([].toArray ++ Builtin.zeroCells (Value.int .i64 0).cells n ++ Builtin.zeroCells (Value.int .i64 0).cells (grownCap w n 0 3 - n)), hG, ?_, grownCap_le_maxLen w n 0 3 (by unfold maxLen; omega), ?_, fun ty => ?_⟩
  · have := grownCap_le_maxLen w n 0 3 (by unfold maxLen; omega)
    unfold maxLen at this
    omega
  · simp [Builtin.zeroCells, Value.cells]; omega
  have hold : (Builtin.firstCells i0.size 0 (.slice none 0 0)).run Try.prog w.drew = .ok [].toArray w.drew := run_firstCells_none w.drew i0.size 0 0 0
  have h := Lib.run_append_grow_zeros w 22 3 ty 3 i0 (.int .i64 0) .i64 .i64 underlying22 underlying3' hi hz0 none 0 0 [] hold n (by omega) (by omega) (by omega) (by omega) (by rw [hz2]; omega) (by rw [Nat.zero_add]; exact growslice_fits (by omega) (by rw [hz2]; omega))
  rw [Nat.zero_add] at h
  exact h
theorem Grow_any (n : Nat) (w : World) (h2 : n ≤ 1000000) : Calls Try.prog 61 #[.slice none 0 0, .int .i64 (n : Int)] w fun e w' => ∃ v, e = .returned v ∧ RowI w' w.heap.size v [] ∧ Below w.heap.size w w' := by
  rcases Nat.eq_zero_or_pos n with h0 | h0
  · subst h0
    have hR := RowI.empty w w.heap.size
    have hR := Lib.hid hR
    go_enter Try.func61, Try.ntmps61
    go_wp2_with fail
    go_ret
    exact ⟨_, rfl, hR.out, Below.refl _ _⟩
  · obtain ⟨G, cur, hG, hG63, hGm, hsz, hrun⟩ := grow_run n w h0 h2
    have hR : RowI (w.drew.alloc (.cells cur 3)) w.heap.size (.slice (some ⟨w.heap.size, 0, none⟩) 0 G) [] := by
      refine ⟨by simp, ?_⟩
      refine ⟨rfl, .inr ⟨w.heap.size, G, cur, rfl, Nat.le_refl _, heap_alloc_new w.drew _, Nat.zero_le _, hGm, by rw [hsz, Nat.mul_one], ?_⟩⟩
      simp
    have hb : Below w.heap.size w (w.drew.alloc (.cells cur 3)) := (below_drewN (Below.refl _ _) 1).alloc (Nat.le_refl _) _
    have HR := Lib.hid (And.intro hR hb)
    have h4 : ¬ ((n : Int) ≤ 0) := by omega
    clear hR hb hG hGm hsz
    go_enter Try.func61, Try.ntmps61
    go_wp2_with (at_builtin; refine Lib.wpList_append_run _ rfl _ _ _ _ rfl _ _ rfl rfl _ _ (hrun _) ?_)
    all_goals (go_ret; exact ⟨_, rfl, HR.out⟩)

/-- A slice of slices of integers reads as these lists. -/
def RdS (B : Nat) (w : World) (A : Option Addr) (xss : List (List Int)) : Prop :=
  0 < xss.length → ∃ b off, A = some ⟨b, off, Option.none⟩ ∧ b < B ∧ ∀ j, j < xss.length → ∃ E c, w.cell? ⟨b, off + j, Option.none⟩ = some (.slice E (xss[j]?.getD []).length c) ∧ RdI B w E (xss[j]?.getD []) ∧ (E = Option.none → c = 0)
theorem RdS.below {B B' : Nat} {w w' : World} {A : Option Addr} {xss : List (List Int)} (h : RdS B w A xss) (hb : Below B' w w') (hB : B ≤ B') : RdS B w' A xss := by
  intro hn
  obtain ⟨b, off, rfl, hlt, hc⟩ := h hn
  refine ⟨b, off, rfl, hlt, fun j hj => ?_⟩
  obtain ⟨E, c, h1, h2, h3⟩ := hc j hj
  exact ⟨E, c, (hb.cell (p := ⟨b, off + j, Option.none⟩) (by show b < B'; omega)).trans h1, h2.below hb hB, h3⟩
theorem flat_take (xss : List (List Int)) (j : Nat) (h : j < xss.length) : (xss.take (j + 1)).flatten = (xss.take j).flatten ++ xss[j]?.getD [] := by
  rw [List.take_add_one, List.getElem?_eq_getElem h, List.flatten_append]
  simp
theorem flat_le (xss : List (List Int)) (j : Nat) : (xss.take j).flatten.length ≤ xss.flatten.length := by
  conv => rhs; rw [← List.take_append_drop j xss, List.flatten_append, List.length_append]
  omega
set_option maxHeartbeats 4000000 in
theorem Concat_any (B N c : Nat) (A : Option Addr) (xss : List (List Int)) (w : World) (hr : RdS B w A xss) (hB : B ≤ w.heap.size) (hN : xss.length = N) (hN2 : N ≤ 100000) (hT : xss.flatten.length ≤ 100000) :
    Calls Try.prog 51 #[.slice A N c] w fun e w' => ∃ v, e = .returned v ∧ RowI w' w.heap.size v xss.flatten ∧ Below w.heap.size w w' := by
  have HN := Lib.hid hN
  have HT := Lib.hid hT
  have R := Lib.hid hr
  clear hN hT hr
  go_enter Try.func51, Try.ntmps51
  go_wp2_with fail
  go_loopw [3, 11] (fun s i wr => ∃ j : Nat, j ≤ N ∧ s = .int .i64 ((xss.take j).flatten.length : Nat) ∧ i = .int .i64 j ∧ w = wr) (fun _ i _ => N - (intOf i).toNat)
  case atStart => exact ⟨0, by omega, by simp, rfl, rfl⟩
  case round =>
    obtain ⟨j, hj, rfl, rfl, rfl⟩ := hrel
    by_cases hlt : j < N
    · have hjx : j < xss.length := by rw [HN.out]; exact hlt
      obtain ⟨b, off, rfl, _, hc⟩ := R.out (by omega)
      obtain ⟨E, ce, hc1, _, _⟩ := hc j hjx
      have hst := flat_take xss j hjx
      have hle := flat_le xss (j + 1)
      have hTT := HT.out
      have hst2 : (xss.take (j + 1)).flatten.length = (xss.take j).flatten.length + (xss[j]?.getD []).length := by rw [hst, List.length_append]
      have HS := Lib.hid hst2
      have q1 : (xss.take j).flatten.length ≤ 100000 := by omega
      have q2 : (xss[j]?.getD []).length ≤ 100000 := by omega
      clear hc hst hle hTT hst2 hjx R
      generalize (xss.take j).flatten.length = S at *
      generalize (xss[j]?.getD []).length = L at *
      go_wp2_with fail
      go_roundw
      case rel => exact ⟨j + 1, by omega, by rw [HS.out]; go_num, by go_num, trivial⟩
      case measure => simp [intOf]; omega
    · obtain rfl : j = N := by omega
      have htk : xss.take j = xss := List.take_of_length_le (by have := HN.out; omega)
      rw [htk]
      have hG := Lib.hid (Grow_any xss.flatten.length w (by have := HT.out; omega))
      have hTT : xss.flatten.length ≤ 100000 := HT.out
      clear htk
      obtain ⟨T, hTe⟩ : ∃ T, xss.flatten.length = T := ⟨_, rfl⟩
      rw [hTe] at hG hTT ⊢
      have HTe := Lib.hid hTe
      clear hTe
      go_wp2_with fail
      refine hG.out.mono ?_
      rintro e w2 ⟨v2, rfl, row2, low2⟩
      obtain ⟨A2, c2, e2, _, _⟩ := row2.shape
      subst e2
      have H2 := Lib.hid (And.intro row2 low2)
      have hs2 := low2.size
      clear hG row2 low2
      go_wp2_with fail
      go_loopw [6, 27] (fun s i wr2 => ∃ j2 : Nat, j2 ≤ j ∧ i = .int .i64 j2 ∧ Hid (RowI wr2 w.heap.size s (xss.take j2).flatten ∧ Below w.heap.size w wr2)) (fun _ i _ => j - (intOf i).toNat)
      case atStart => exact ⟨0, by omega, rfl, Lib.hid (by simpa using H2.out)⟩
      case round =>
        obtain ⟨q, hq, rfl, HR⟩ := hrel
        obtain ⟨A3, c3, hA3, _, _⟩ := HR.out.1.shape
        obtain ⟨L3, hL3⟩ : ∃ L3, (xss.take q).flatten.length = L3 := ⟨_, rfl⟩
        rw [hL3] at hA3
        have HL3 := Lib.hid hL3
        subst hA3
        clear hL3
        by_cases hqt : q < j
        · have hjx : q < xss.length := by rw [HN.out]; exact hqt
          obtain ⟨b, off, rfl, hbB, hc⟩ := (R.out.below HR.out.2 hB) (by omega)
          obtain ⟨E, ce, hc1, hrE, hE0⟩ := hc q hjx
          have hst := flat_take xss q hjx
          have hle := flat_le xss (q + 1)
          have hTT := HT.out
          have hst2 : (xss.take (q + 1)).flatten.length = (xss.take q).flatten.length + (xss[q]?.getD []).length := by rw [hst, List.length_append]
          have q1 : (xss.take q).flatten.length + (xss[q]?.getD []).length ≤ 1000000 := by omega
          have HS := Lib.hid (And.intro hst (And.intro hrE (And.intro hE0 q1)))
          have hsz := HR.out.2.size
          obtain ⟨L, hL⟩ : ∃ L, (xss[q]?.getD []).length = L := ⟨_, rfl⟩
          rw [hL] at hc1
          have HL := Lib.hid hL
          clear hc hst hle hTT hst2 hjx hrE hE0 q1 hL
          go_wp2_with (at_builtin; refine push_ints rfl _ _ rfl w.heap.size (.slice A3 L3 c3) (xss.take q).flatten rfl HR.out.1 B E L ce (xss[q]?.getD []) rfl HS.out.2.1 HL.out HS.out.2.2.1 (by have := HS.out.2.2.2; have := HL.out; omega) hsz ?_)
          intro v' w' hrow' hlow'
          have HR2 : Hid (RowI w' w.heap.size v' (xss.take (q + 1)).flatten ∧ Below w.heap.size w w') := Lib.hid ⟨by rw [HS.out.1]; exact hrow', HR.out.2.trans hlow'⟩
          clear hrow' hlow' HS HR
          go_wp2_with fail
          go_roundw
          case rel => exact ⟨q + 1, by omega, by go_num, HR2⟩
          case measure => simp [intOf]; omega
        · obtain rfl : q = j := by omega
          have htk : xss.take q = xss := List.take_of_length_le (by have := HN.out; omega)
          rw [htk] at HR
          clear htk
          go_wp2_with fail
          go_ret
          exact ⟨_, rfl, HR.out⟩
end Go.Proofs.Ytoacfjmefoiflaa
