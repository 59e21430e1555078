/- Sum and Least once more, with what is said of the capacity of the clauses; an append of clauses that were there. -/
import Derived.Test.YtpeklcbjhkchlaaFacts
import Derived.Test.YtpeklcbjhkchlaaLeastM
import Derived.Test.YtpeklcbjhkchlaaRLeast
namespace Go.Proofs.Ytpeklcbjhkchlaa
open Go.RowKit Go.Maps
set_option maxRecDepth 100000

theorem own_cap {w : World} {base e size n : Nat} {A : Option Addr} {m c : Nat} {xs : List Value} (h : w.ownsRow base e size (.slice A m c) n xs) : m ≤ c := by
  rcases h.2 with ⟨h1, h2⟩ | ⟨g, cap, cur, h1, _, _, h2, _⟩
  · injection h1 with _ h3 _; omega
  · injection h1 with _ h3 h4; omega
theorem own_none {w : World} {base e size n : Nat} {A : Option Addr} {m c : Nat} {xs : List Value} (h : w.ownsRow base e size (.slice A m c) n xs) : A = none → c = 0 := by
  rcases h.2 with ⟨h1, h2⟩ | ⟨g, cap, cur, h1, _, _, h2, _⟩
  · injection h1 with _ _ h4; exact fun _ => h4
  · injection h1 with h3 _ _; intro h4; rw [h3] at h4; cases h4
/-- A row of clauses that were there: these values read as these lists, in blocks below B. -/
def RowC (w : World) (base B : Nat) (v : Value) (cl : List (List Int)) : Prop :=
  ∃ vs : List Value, w.ownsRow base 22 1 v vs.length vs ∧ vs.length = cl.length ∧ ∀ j, j < cl.length → ∃ E c, vs[j]? = some (.slice E (cl[j]?.getD []).length c) ∧ RdI B w E (cl[j]?.getD [])
theorem RowC.empty (w : World) (base B : Nat) : RowC w base B (.slice Option.none 0 0) [] := ⟨[], World.ownsRow_nil _ _ _ _, rfl, fun j h => absurd h (by simp)⟩
theorem RowC.below {w w' : World} {base B : Nat} {v : Value} {cl : List (List Int)} (h : RowC w base B v cl) (hB : B ≤ w.heap.size) (hb : Below w.heap.size w w') : RowC w' base B v cl := by
  obtain ⟨vs, h1, h2, h3⟩ := h
  refine ⟨vs, own_below h1 hb, h2, fun j hj => ?_⟩
  obtain ⟨E, c, h4, h5⟩ := h3 j hj
  exact ⟨E, c, h4, h5.below hb hB⟩
theorem RowC.res {w : World} {base B : Nat} {v : Value} {cl : List (List Int)} (h : RowC w base B v cl) (hB : B ≤ w.heap.size) : ∃ A c, v = .slice A cl.length c ∧ RdR w.heap.size w A cl := by
  obtain ⟨vs, ho, hl, h3⟩ := h
  obtain ⟨A, c, e⟩ := own_shape ho
  refine ⟨A, c, by rw [e, hl], fun hn => ?_⟩
  rcases ho.2 with ⟨e2, h0⟩ | ⟨g, cap, cur, e2, _, hg, hn2, hcm, hcs, ht⟩
  · omega
  · rw [e] at e2
    injection e2 with e3 e4 e5
    subst e3; subst e5
    refine ⟨g, 0, rfl, (Array.getElem?_eq_some_iff.1 hg).1, fun j hj => ?_⟩
    obtain ⟨E, c', h4, h5⟩ := h3 j hj
    refine ⟨E, c', ?_, h5.more hB⟩
    rw [e] at ho
    have hc := World.ownsRow.cellAt ho j (by omega)
    rw [Nat.zero_add, hc, h4]
/-- An append of clauses that were there. -/
theorem push_cls {ops : Array Oper} {rest : List Oper} {o : Oper} {a : Act} {Q : Exit → Act → World → Prop} {w : World} (hgd : o.guard = none) (s x : Operand)
    (ho : o.op = .call { callee := .builtin .append, args := #[s, x], argTypes := #[24, 24] }) (base B : Nat) (v : Value) (cl : List (List Int)) (hs : a.eval s = v) (hrow : RowC w base B v cl)
    (B' : Nat) (A : Option Addr) (m c : Nat) (dl : List (List Int)) (hx : a.eval x = .slice A m c) (hr : RdR B' w A dl) (hm : dl.length = m) (hn : A = none → c = 0) (hnc : m ≤ c) (hB : B' ≤ B)
    (hbound : cl.length + m ≤ 1000000) (hB2 : B ≤ base) (hbase : base ≤ w.heap.size)
    (h : ∀ v' w', RowC w' base B v' (cl ++ dl) → Below base w w' → wpList Try.prog ops Q rest (a.put o.dst v') w') : wpList Try.prog ops Q (o :: rest) a w := by
  obtain ⟨i0, hi, hz0, hz1, hz2⟩ := info_parts info22
  obtain ⟨vs, hown, hvl, hread⟩ := hrow
  cases A with
  | none =>
    have hc := hn rfl
    subst hc
    have h0 : dl = [] := by
      rcases Nat.eq_zero_or_pos dl.length with e | e
      · exact List.eq_nil_of_length_eq_zero e
      · obtain ⟨b, off, e, _⟩ := hr e; cases e
    subst h0
    have hm0 : m = 0 := by rw [← hm]; rfl
    subst hm0
    exact wpList_append_own_none hgd s x 24 ho base 22 i0 1 underlying24 hi v vs.length vs hs hown hx (h v w ⟨vs, hown, by simpa using hvl, by simpa using hread⟩ (Below.refl _ _))
  | some ad =>
    obtain ⟨news, hnl, hnews⟩ : ∃ news : List Value, news.length = m ∧ ∀ j, j < m → ∃ E c', news[j]? = some (.slice E (dl[j]?.getD []).length c') ∧ w.cell? (ad.add j) = some (.slice E (dl[j]?.getD []).length c') ∧ RdI B w E (dl[j]?.getD []) := by
      refine ⟨(List.range m).map fun j => (w.cell? (ad.add j)).getD undef, by simp, fun j hj => ?_⟩
      obtain ⟨b, off, e, _, hc⟩ := hr (by omega)
      injection e with e
      subst e
      obtain ⟨E, c', h1, h2⟩ := hc j (by omega)
      refine ⟨E, c', ?_, by rw [add_plain]; exact h1, h2.more hB⟩
      rw [List.getElem?_map, List.getElem?_range hj, Option.map_some, add_plain, h1]; rfl
    refine wpList_append_own w hgd s x 24 ho base 22 i0 (.slice Option.none 0 0) 1 24 underlying24 hi hz0 hz1 hz2 rfl (by decide) v vs.length vs hs hown ad m c news hx (by rw [hnl, Nat.mul_one]) ?_ ?_ (by unfold maxLen; omega) (by omega) hbase ?_
    · intro j u hj
      have hjm : j < m := by rw [← hnl]; exact (List.getElem?_eq_some_iff.1 hj).1
      obtain ⟨E, c', h1, h2, _⟩ := hnews j hjm
      rw [h1] at hj; injection hj with hj
      rw [← hj]; exact h2
    · intro u hu
      obtain ⟨j, hj, rfl⟩ := List.mem_iff_getElem.1 hu
      obtain ⟨E, c', h1, _, _⟩ := hnews j (by rw [← hnl]; exact hj)
      rw [List.getElem?_eq_getElem hj] at h1; injection h1 with h1
      rw [h1]; rfl
    · intro v' w' hown' hg _
      have hlow : Below base w w' := (Below.refl base w).grown hg hbase (fun k hk => (hown.lt k hk).1)
      refine h v' w' ⟨vs ++ news, by rw [List.length_append, hnl]; exact hown', by rw [List.length_append, List.length_append, hvl, hnl, hm], fun j hj => ?_⟩ hlow
      rw [List.length_append] at hj
      by_cases hjl : j < cl.length
      · obtain ⟨E, c', h1, h2⟩ := hread j hjl
        rw [List.getElem?_append_left hjl]
        exact ⟨E, c', by rw [List.getElem?_append_left (by omega)]; exact h1, h2.below hlow hB2⟩
      · obtain ⟨E, c', h1, _, h2⟩ := hnews (j - cl.length) (by omega)
        have e : (cl ++ dl)[j]? = dl[j - cl.length]? := List.getElem?_append_right (by omega)
        rw [e]
        exact ⟨E, c', by rw [List.getElem?_append_right (by omega), hvl]; exact h1, h2.below hlow hB2⟩


/-- SumRes with capacities. -/
def SumResX (w : World) (bits : List Int) (cl : List (List Int)) (a : Nat) (E : Int) (e : Ending) (w' : World) : Prop :=
  ∃ A c B d, e = .returned (.tuple #[.slice A bits.length c, .slice B cl.length d, .int .i64 (a : Int), .int .i64 E]) ∧ (cl.length ≤ d ∧ (B = none → d = 0)) ∧ RdI w'.heap.size w' A bits ∧ RdR w'.heap.size w' B cl ∧ Below w.heap.size w w' ∧ ∀ j, j < cl.length → (cl[j]?.getD []).length ≤ maxLen
def SummedX (w : World) (xs : List Nat) (ls : List Int) (next : Nat) (e : Ending) (w' : World) : Prop :=
  match addUp (rowsOf xs ls) [] next with
  | none => SumResX w [] [] 0 2 e w'
  | some t => SumResX w t.1 t.2.1 t.2.2 0 e w'
theorem SumResX.nil (w w' : World) (E : Int) (h : Below w.heap.size w w') : SumResX w [] [] 0 E (.returned (.tuple #[.slice Option.none 0 0, .slice Option.none 0 0, .int .i64 0, .int .i64 E])) w' :=
  ⟨none, 0, none, 0, rfl, ⟨Nat.le_refl _, fun _ => rfl⟩, RdI.nil _ _ _, fun h => absurd h (by simp), h, fun j h => absurd h (by simp)⟩
theorem SumSt.resX {w wr W : World} {xs : List Nat} {ls : List Int} {next k n nx : Nat} {gv cv : Value} {bits carry : List Int} {val : Nat → Value} {Q : Nat → List Int} {top : Int} {c : List (List Int)} (S : SumSt w xs ls next k gv bits wr val Q n top c nx carry) (hc : wr.cell? ⟨w.heap.size + 1, 2, none⟩ = some cv) (hb : Below wr.heap.size wr W) :
    SumResX w bits c nx 0 (.returned (.tuple #[gv, cv, .int .i64 (nx : Int), .int .i64 0])) W := by
  obtain ⟨cv1, vs1, S1⟩ := S.sm
  have h := S1.cell.2.2.1
  rw [hc] at h
  injection h with h
  subst h
  have hq := S1.q 1000001
  rw [S.gval, S.gq] at hq
  obtain ⟨A, cq, rfl, hcq, hrd⟩ := hq.shape
  obtain ⟨B, d, rfl⟩ := own_shape S1.own
  have hl := S1.els.1
  have hcap := own_cap S1.own
  have hnone := own_none S1.own
  obtain ⟨hn, hrr⟩ := S1.els.rd S1.own
  rw [hn]
  have hbs := hb.size
  refine ⟨A, cq, B, d, rfl, ⟨by omega, hnone⟩, (hrd.below hb (Nat.le_refl _)).more hbs, RdR.more (hrr.below hb (Nat.le_refl _)) hbs, S.low.trans (hb.mono (by have := S.low.size; omega)), fun j hj => ?_⟩
  obtain ⟨u, _, hr⟩ := S1.els.2 j hj
  obtain ⟨_, _, _, h1, h2, _⟩ := hr.shape
  omega
theorem sum_leaveX {w W : World} {xs : List Nat} {ls : List Int} {next : Nat} {tm : Array Value} (h : addUp (rowsOf xs ls) [] next = none) (hb : Below w.heap.size w W) (h6 : tm[6]?.getD undef = .slice Option.none 0 0) (h7 : tm[7]?.getD undef = .slice Option.none 0 0) (h8 : tm[8]?.getD undef = .int .i64 0) (h9 : tm[9]?.getD undef = .int .i64 2) :
    bodyPost Try.prog Try.f13 (SummedX w xs ls next) .ret { tmps := tm, defers := [] } W := by
  refine bodyPost_ret (results13 tm W) rfl ?_
  rw [h6, h7, h8, h9]
  unfold SummedX
  rw [h]
  exact SumResX.nil w W 2 hb
theorem sum_doneX {w W : World} {xs : List Nat} {ls : List Int} {next : Nat} {tm : Array Value} {bits : List Int} {c : List (List Int)} {nx : Nat} {gv cv : Value} (h : addUp (rowsOf xs ls) [] next = some (bits, c, nx)) (hr : SumResX w bits c nx 0 (.returned (.tuple #[gv, cv, .int .i64 (nx : Int), .int .i64 0])) W) (h6 : tm[6]?.getD undef = gv) (h7 : tm[7]?.getD undef = cv) (h8 : tm[8]?.getD undef = .int .i64 (nx : Int)) (h9 : tm[9]?.getD undef = .int .i64 0) :
    bodyPost Try.prog Try.f13 (SummedX w xs ls next) .ret { tmps := tm, defers := [] } W := by
  refine bodyPost_ret (results13 tm W) rfl ?_
  rw [h6, h7, h8, h9]
  unfold SummedX
  rw [h]
  exact hr
/-- LeRes with the capacity. -/
def LeResX (w : World) (cl : List (List Int)) (E : Int) (e : Ending) (w' : World) : Prop :=
  ∃ A c, e = .returned (.tuple #[.slice A cl.length c, .int .i64 E]) ∧ (cl.length ≤ c ∧ (A = none → c = 0)) ∧ RdR w'.heap.size w' A cl ∧ Below w.heap.size w w' ∧ ∀ j, j < cl.length → (cl[j]?.getD []).length ≤ maxLen
theorem le_doneX {w W : World} {cl : List (List Int)} {tm : Array Value} {v : Value} (h : Cls W w.heap.size v cl) (hb : Below w.heap.size w W) (h4 : tm[4]?.getD undef = v) (h5 : tm[5]?.getD undef = .int .i64 0) :
    bodyPost Try.prog Try.f17 (LeResX w cl 0) .ret { tmps := tm, defers := [] } W := by
  refine bodyPost_ret (results17 tm W) rfl ?_
  rw [h4, h5]
  obtain ⟨A, c, e, h1, h2⟩ := h.res
  subst e
  obtain ⟨vs, ho, _⟩ := h
  exact ⟨A, c, rfl, ⟨own_cap ho, own_none ho⟩, h1, hb, h2⟩

set_option maxHeartbeats 8000000 in
theorem Least_anyX (B : Nat) (A : Option Addr) (n c k : Nat) (bits : List Int) (w : World) (hr : RdI B w A bits) (hB : B ≤ w.heap.size) (hl : bits.length = n) (hk : k ≤ 4503599627370496) (hf : bits.any farB = false) (h60 : n ≤ 60) :
    Calls Try.prog 17 #[.slice A n c, .int .i64 (k : Int)] w (LeResX w (ls bits k 60) 0) := by
  have hC := Contains35 B A n c bits w hr hl (by unfold maxLen; omega)
  rw [hf] at hC
  have hC := Lib.hid hC
  have Hl := Lib.hid hl
  have R := Lib.hid hr
  clear hr hl hf
  go_enter Try.func17, Try.ntmps17
  go_wp2_with fail
  refine hC.out.mono ?_
  rintro e w' ⟨rfl, rfl⟩
  clear hC
  go_wp2_with fail
  go_loopw [6, 23] (fun v6 vi wr => ∃ i : Nat, i ≤ 60 ∧ vi = .int .i64 i ∧ Hid (Cls wr w.heap.size v6 (ls bits k i)) ∧ Below w.heap.size w wr) (fun _ vi _ => 60 - (intOf vi).toNat)
  case atStart => exact ⟨0, by omega, rfl, Lib.hid (Cls.nil _ _), Below.refl _ _⟩
  case round =>
    obtain ⟨i, hi, rfl, hcl, hlow⟩ := hrel
    rename World => W0
    by_cases hlt : i < 60
    · have hset := fun W => set_any k i W (by omega) (by omega)
      have hset := Lib.hid hset
      rcases ht : k.testBit i with _ | _
      · rw [ht] at hset
        have hcl2 : Hid (Cls W0 w.heap.size u6 (ls bits k (i + 1))) := by
          rw [ls, ht]; exact hcl
        clear hcl ht
        go_wp2_with fail
        refine (hset.out _).mono ?_
        rintro e w' ⟨rfl, rfl⟩
        clear hset
        go_wp2_with fail
        go_roundw
        case rel => exact ⟨i + 1, by omega, by go_num, hcl2, hlow⟩
        case measure => simp [intOf]; omega
      · rw [ht] at hset
        have Ht := Lib.hid ht
        clear ht
        go_wp2_with fail
        refine (hset.out _).mono ?_
        rintro e w' ⟨rfl, rfl⟩
        clear hset
        go_wp2_with fail
        go_loopw [8, 9] (fun v8 vj wr2 => ∃ d : Nat, d ≤ n - i ∧ vj = .int .i64 ((i + d : Nat) : Int) ∧ RowI wr2 W0.heap.size v8 (lc bits k i d) ∧ Below W0.heap.size W0 wr2) (fun _ vj _ => 60 - (intOf vj).toNat)
        case atStart => exact ⟨0, by omega, rfl, RowI.empty _ _, Below.refl _ _⟩
        case round =>
          obtain ⟨d, hd, rfl, row, low⟩ := hrel
          have hlw := hlow.trans (low.mono hlow.size)
          by_cases hjn : i + d < n
          · obtain ⟨b, off, rfl, _, hc⟩ := (R.out.below hlw hB).2 (by rw [Hl.out]; omega)
            have hc1 := hc (i + d) (by rw [Hl.out]; omega)
            have hwz := R.out.wf (j := i + d) (by rw [Hl.out]; omega)
            have hlc : lc bits k i (d + 1) = if bits[i + d]?.getD 0 ≠ 0 ∧ (d = 0 ∨ k.testBit (i + d) = false) then lc bits k i d ++ [bits[i + d]?.getD 0] else lc bits k i d := rfl
            clear hc hlw R
            replace row := Lib.hid row
            generalize bits[i + d]?.getD 0 = z at hc1 hlc hwz
            obtain ⟨j, hj⟩ : ∃ j, j = i + d := ⟨_, rfl⟩
            rw [← hj] at hc1 hlc hjn ⊢
            have Hj := Lib.hid hj
            by_cases hz : z = 0
            · subst hz
              rw [if_neg (by simp)] at hlc
              rw [← hlc] at row
              have row3 := Lib.hid row.out
              clear row hlc hwz hj
              go_wp2_with fail
              go_roundw
              case rel => exact ⟨d + 1, by have := Hj.out; omega, by rw [show i + (d + 1) = j + 1 by have := Hj.out; omega]; go_num, row3.out, low⟩
              case measure => simp [intOf]; omega
            · have f0 : (z != 0) = true := by simpa using hz
              by_cases hd0 : d = 0
              · rw [if_pos ⟨hz, .inl hd0⟩] at hlc
                have hji : j = i := by omega
                have hlc := Lib.hid hlc
                clear hz hj
                subst hji
                subst hd0
                go_wp2_with (at_builtin; refine wpList_push rfl _ _ rfl W0.heap.size _ _ rfl row.out z hwz rfl (by have := lc_len bits k j 0; omega) low.size ?_)
                intro v' w3 row3 low3
                have low4 := low.trans low3
                rw [← hlc.out] at row3
                have row3 := Lib.hid row3
                clear row low low3 hlc
                go_wp2_with fail
                go_roundw
                case rel => exact ⟨0 + 1, by omega, by rw [show j + (0 + 1) = j + 1 by omega]; go_num, row3.out, low4⟩
                case measure => simp [intOf]; omega
              · have f1 : ((j : Int) == (i : Int)) = false := by simp; omega
                have f2 : (j == i) = false := by simp; omega
                have hset := fun W => set_any k j W (by omega) (by omega)
                have hset := Lib.hid hset
                rcases ht : k.testBit j with _ | _
                · rw [if_pos ⟨hz, .inr ht⟩] at hlc
                  rw [ht] at hset
                  have hlc := Lib.hid hlc
                  clear hz hj ht
                  go_wp2_with fail
                  refine (hset.out _).mono ?_
                  rintro e w' ⟨rfl, rfl⟩
                  clear hset
                  go_wp2_with (at_builtin; refine wpList_push rfl _ _ rfl W0.heap.size _ _ rfl row.out z hwz rfl (by have := lc_len bits k i d; omega) low.size ?_)
                  intro v' w3 row3 low3
                  have low4 := low.trans low3
                  rw [← hlc.out] at row3
                  have row3 := Lib.hid row3
                  clear row low low3 hlc
                  go_wp2_with fail
                  go_roundw
                  case rel => exact ⟨d + 1, by have := Hj.out; omega, by rw [show i + (d + 1) = j + 1 by have := Hj.out; omega]; go_num, row3.out, low4⟩
                  case measure => simp [intOf]; omega
                · rw [if_neg (by simp [hd0, ht])] at hlc
                  rw [ht] at hset
                  rw [← hlc] at row
                  have row3 := Lib.hid row.out
                  clear row hlc hwz hz hj ht
                  go_wp2_with fail
                  refine (hset.out _).mono ?_
                  rintro e w' ⟨rfl, rfl⟩
                  clear hset
                  go_wp2_with fail
                  go_roundw
                  case rel => exact ⟨d + 1, by have := Hj.out; omega, by rw [show i + (d + 1) = j + 1 by have := Hj.out; omega]; go_num, row3.out, low⟩
                  case measure => simp [intOf]; omega
          · have hdn : d = n - i := by omega
            obtain ⟨j, hj⟩ : ∃ j, j = i + d := ⟨_, rfl⟩
            rw [← hj] at hjn ⊢
            obtain ⟨A8, c8, hu8, _⟩ := row.shape
            subst hu8
            obtain ⟨L8, hL8⟩ : ∃ L8, (lc bits k i d).length = L8 := ⟨_, rfl⟩
            rw [hL8] at row ⊢
            have hcl2 := hcl.out.below low
            obtain ⟨vs, hown, hels⟩ := hcl2
            have hrow := row.base (base' := w.heap.size) hlow.size
            have hlen := ls_len bits k i
            have hlsn : ls bits k (i + 1) = ls bits k i ++ [lc bits k i d] := by
              rw [ls, Ht.out, if_pos rfl, Hl.out, hdn]
            have hlsn := Lib.hid hlsn
            have HH := Lib.hid (And.intro hown (And.intro hels hrow))
            clear hown hels hrow row hcl low hj hdn hL8
            go_wp2_with (at_builtin; refine push_row_ex rfl _ _ rfl w.heap.size _ vs _ rfl HH.out.1 HH.out.2.1 _ _ HH.out.2.2 rfl (by omega) hlw.size ?_)
            intro v' w3 hown3 hels3 hlow3 _ _
            have hcl3 : Hid (Cls w3 w.heap.size v' (ls bits k (i + 1))) := by
              rw [hlsn.out]; exact Lib.hid ⟨vs ++ [.slice A8 L8 c8], by rw [List.length_append]; exact hown3, hels3⟩
            have hlw3 := hlw.trans hlow3
            clear HH hown3 hels3 hlow3 hlsn
            go_wp2_with fail
            go_roundw
            case rel => exact ⟨i + 1, by omega, by go_num, hcl3, hlw3⟩
            case measure => simp [intOf]; omega
    · obtain rfl : i = 60 := by omega
      go_wp2_with fail
      exact le_doneX hcl.out hlow rfl rfl

set_option maxHeartbeats 8000000 in
theorem Sum_anyX (B n c1 c2 next : Nat) (A1 A2 : Option Addr) (xs : List Nat) (ls : List Int) (w : World) (r1 : RdI B w A1 (nats xs)) (r2 : RdI B w A2 ls) (hB : B ≤ w.heap.size) (hl1 : xs.length = n) (hl2 : ls.length = n) (h1 : 1 ≤ next) (h2 : next ≤ 65537) (hn : n ≤ 4096) (hok : ∀ j, j < n → Ok1 next ((nats xs)[j]?.getD 0) (ls[j]?.getD 0)) :
    Calls Try.prog 13 #[.slice A1 n c1, .slice A2 n c2, .int .i64 (next : Int)] w (SummedX w xs ls next) := by
  have hx : ∀ x ∈ xs, x ≤ 1099511627776 := fun x hx => by
    obtain ⟨j, hj, rfl⟩ := List.mem_iff_getElem.1 hx
    have := (hok j (by omega)).1.2
    rw [nats_at, List.getElem?_eq_getElem hj] at this
    simp only [Option.getD_some] at this
    omega
  have hly : ∀ y ∈ ls, -65537 ≤ y ∧ y ≤ 65537 := fun y hy => by
    obtain ⟨j, hj, rfl⟩ := List.mem_iff_getElem.1 hy
    have := (hok j (by omega)).2
    rw [List.getElem?_eq_getElem hj] at this
    simp only [Option.getD_some] at this
    omega
  have hN := Lib.hid (newSummer_any B n c1 c2 next A1 A2 xs ls w r1 r2 hB hl1 hl2 hn hx hly)
  have hx64 : ∀ x ∈ xs, x < 2 ^ 64 := fun x h => by have := hx x h; omega
  have Hx := Lib.hid (And.intro hx64 (And.intro hly (And.intro hl1 hl2)))
  have Hok := Lib.hid hok
  have hc1 := fun (hj : 0 < n) => r1.2 (by rw [nats_len]; omega)
  have hc2 := fun (hj : 0 < n) => r2.2 (by omega)
  have R := Lib.hid (And.intro hc1 hc2)
  clear r1 r2 hok hx hly hx64 hc1 hc2
  have hl1 := Lib.hid hl1
  have hl2 := Lib.hid hl2
  go_enter Try.func13, Try.ntmps13
  go_wp2_with fail
  go_loopw [6, 31] (fun u i wr => ∃ j : Nat, j ≤ n ∧ i = .int .i64 j ∧ u = .slice Option.none 0 0 ∧ w = wr) (fun _ i _ => n - (intOf i).toNat)
  case atStart => exact ⟨0, by omega, rfl, rfl, rfl⟩
  case round =>
    obtain ⟨j, hj, rfl, rfl, rfl⟩ := hrel
    by_cases hlt : j < n
    · obtain ⟨b1, o1, hA1, hb1, hc1⟩ := R.out.1 (by omega)
      obtain ⟨b2, o2, hA2, hb2, hc2⟩ := R.out.2 (by omega)
      have k1 := hc1 j (by rw [nats_len, hl1.out]; omega)
      have k2 := hc2 j (by rw [hl2.out]; omega)
      subst hA1; subst hA2
      obtain ⟨⟨x0, x1⟩, y0, y1, y2⟩ := Hok.out j hlt
      clear Hok R hb1 hb2 hc1 hc2 hN Hx
      generalize (nats xs)[j]?.getD 0 = x at *
      generalize ls[j]?.getD 0 = y at *
      have f0 : (y == 0) = false := by simpa using y0
      clear y0
      go_wp2_with fail
      go_roundw
      case rel => exact ⟨j + 1, by omega, by go_num, rfl, trivial⟩
      case measure => simp [intOf]; omega
    · obtain rfl : j = n := by omega
      clear Hok R
      go_wp2_with fail
      refine hN.out.mono ?_
      rintro e w1 ⟨rfl, hS⟩
      obtain ⟨val, Q, m, top, S0⟩ := SumSt.start hS Hx.out.2.2.1 Hx.out.2.2.2 Hx.out.1 h2
      have S0 := Lib.hid S0
      clear hS hN
      go_wp2_with fail
      go_loopw [6, 13] (fun v6 v13 wr => ∃ k : Nat, v13 = .int .i64 k ∧ Hid (∃ bits val Q m top c nx carry, SumSt w xs ls next k v6 bits wr val Q m top c nx carry)) (fun _ v13 _ => 40002 - (intOf v13).toNat)
      case atStart => exact ⟨0, rfl, Lib.hid ⟨_, _, _, _, _, _, _, _, S0.out⟩⟩
      case round =>
        obtain ⟨k, rfl, S⟩ := hrel
        obtain ⟨bits, val, Q, m2, top2, c, nx, carry, S⟩ := S.out
        obtain ⟨cv1, vs1, S1⟩ := S.sm
        have hcells := S1.cell
        have hfz := S1.frozen
        by_cases hk : (k : Int) ≤ top2
        · obtain ⟨hx, hly, hl1, hl2⟩ := Hx.out
          have hh := hgt_le hx
          obtain ⟨q1, q2, q3, q4, q5, q6⟩ := S.bounds hh (by omega) hk
          have hlitQ : ∀ y ∈ Q k, -65537 ≤ y ∧ y ≤ 65537 := by
            intro y hy
            rw [S.here] at hy
            rcases List.mem_append.1 hy with hy | hy
            · exact hly y (qs_mem hy)
            · exact S.wf y hy
          have hfew := S.few
          have hnxs := S.nxs
          have hR := reduce_any (w.heap.size + 1) w.heap.size (w.heap.size + 2) m2 k val Q top2 c nx wr _ S.gval S.sm q4 (by omega) q5 q6 ⟨q2, by omega⟩ ⟨by omega, by omega⟩ (by omega) hlitQ
          replace hR := Lib.hid hR
          replace S := Lib.hid S
          obtain ⟨_, ctop, _, _⟩ := hcells
          clear hlitQ hfew hnxs q2 q3 q4 q5 q6 hfz S1 hly hl1 hl2
          go_wp2_with fail
          refine hR.out.mono ?_
          rintro e w2 ⟨hlow, hsz, hm⟩
          rcases hr : red (Q k) nx with _ | r
          · rw [hr] at hm
            subst hm
            have hb2 := S.out.low.trans (hlow w.heap.size (by omega) (Nat.le_refl _) (by omega))
            have hnone := S.out.stop hx hk hr
            clear hR S hlow hr
            go_wp2_with fail
            exact sum_leaveX hnone hb2 rfl rfl rfl rfl
          · rw [hr] at hm
            obtain ⟨rfl, hlen, R2⟩ := hm
            clear hR
            obtain ⟨val1, Q1, n1, top1, g1, ⟨cv2, vs2, S2⟩, e0, e1, e2, e3, e4, e5⟩ := R2.sm
            have hlk := S2.qm.look (p := k) (by omega)
            have hcm := S2.cell.1
            have hQk := S2.q k
            rw [e0] at hQk
            obtain ⟨A, cq, hV, hcq, rdq⟩ := hQk.shape
            rw [hV] at hlk
            have hlits := R2.lits
            have hbitsQ : QI w2 (w.heap.size + 2) u6 bits := by
              have := S2.q 1000001
              rw [g1, e2 1000001 (by omega) (by omega), S.out.gq] at this
              exact this
            have hbl := S.out.bw
            have hbz := S2.lt
            have fin : Hid (∀ (z : Int) (v' : Value) (w3 : World), r.1.headD 0 = z → QI w3 (w.heap.size + 2) v' (bits ++ [z]) → (w2.alloc (.cells #[.int .i64 z] 3)).grownBy w3 u6.ownBlock → (v'.ownBlock = u6.ownBlock ∨ ∀ b, v'.ownBlock = some b → (w2.alloc (.cells #[.int .i64 z] 3)).heap.size ≤ b) →
                ∃ val Q n top, SumSt w xs ls next (k + 1) v' (bits ++ [z]) w3 val Q n top (c ++ r.2.2.1) r.2.2.2 r.2.1) :=
              Lib.hid fun z v' w3 hz hq hg ho => S.out.next hx hk q1 hr R2 hz hq hg ho
            clear S R2 S2 e0 e1 e2 e3 e4 e5 hr hlow hsz hV hQk hx g1
            obtain ⟨A6, c6, hu6, hc6, _⟩ := hbitsQ.shape
            obtain ⟨L6, hL6⟩ : ∃ L6, bits.length = L6 := ⟨_, rfl⟩
            rw [hL6] at hu6 hc6
            subst hu6
            have hbl2 : bits.length ≤ 1000000 := by omega
            have hbo : w.heap.size + 2 ≤ w2.heap.size := by omega
            have hbits := Lib.hid hbitsQ
            have hbl2 := Lib.hid hbl2
            clear hbitsQ hL6 hbl
            have hal : Hid (∀ z : Int, QI (w2.alloc (.cells #[.int .i64 z] 3)) (w.heap.size + 2) (.slice A6 L6 c6) bits ∧ (w2.alloc (.cells #[.int .i64 z] 3)).cell? ⟨w2.heap.size, 0, none⟩ = some (.int .i64 z)) :=
              Lib.hid fun z => ⟨hbits.out.same fun b hb => heap_alloc_old _ _ (hbits.out.lt hb).2, by rw [cell_of_row _ _ 0 _ 3 (0, 0) (heap_alloc_new _ _)]; rfl⟩
            clear hbits
            rcases hr1 : r.1 with _ | ⟨z, zs⟩
            · rw [hr1] at hlk rdq fin hlits hcq
              rw [List.length_nil] at hlk hcq
              clear hlits hlen hr1 rdq
              have hwz : Wf 0 := ⟨by omega, by omega⟩
              go_wp2_with (at_builtin; refine push_q rfl _ _ rfl (w.heap.size + 2) (.slice A6 L6 c6) bits rfl (hal.out 0).1 0 hwz w2.heap.size rfl (hal.out 0).2 hbl2.out (by simp; omega) ?_)
              intro v' w3 hq3 hg3 ho3
              have fin2 := Lib.hid (fin.out 0 v' w3 rfl hq3 hg3 (by rw [World.size_alloc]; exact ho3))
              clear fin hal hq3 hg3 ho3 hlk hcm
              go_wp2_with fail
              go_roundw
              case rel =>
                obtain ⟨a1, a2, a3, a4, a5⟩ := fin2.out
                exact ⟨k + 1, by go_num, Lib.hid ⟨_, _, _, _, _, _, _, _, a5⟩⟩
              case measure => simp [intOf]; omega
            · obtain rfl : zs = [] := by
                rw [hr1] at hlen
                cases zs with
                | nil => rfl
                | cons _ _ => simp at hlen
              rw [hr1] at hlk rdq fin hlits hcq
              rw [List.length_singleton] at hlk hcq
              have hwz : Wf z := by have := hlits z (by simp); exact ⟨by omega, by omega⟩
              obtain ⟨gb, go, hA, _, hcz⟩ := rdq.2 (by simp)
              subst hA
              have cz := hcz 0 (by simp)
              simp only [List.getElem?_cons_zero, Option.getD_some, Nat.add_zero] at cz
              clear hlits hlen hr1 rdq hcz
              go_wp2_with (at_builtin; refine push_q rfl _ _ rfl (w.heap.size + 2) (.slice A6 L6 c6) bits rfl (hal.out z).1 z hwz w2.heap.size rfl (hal.out z).2 hbl2.out (by simp; omega) ?_)
              intro v' w3 hq3 hg3 ho3
              have fin2 := Lib.hid (fin.out z v' w3 rfl hq3 hg3 (by rw [World.size_alloc]; exact ho3))
              clear fin hal hq3 hg3 ho3 hlk hcm
              go_wp2_with fail
              go_roundw
              case rel =>
                obtain ⟨a1, a2, a3, a4, a5⟩ := fin2.out
                exact ⟨k + 1, by go_num, Lib.hid ⟨_, _, _, _, _, _, _, _, a5⟩⟩
              case measure => simp [intOf]; omega
        · have hres := fun W hb => S.resX (W := W) hcells.2.2.1 hb
          have hend := S.ends hk
          have hres := Lib.hid hres
          clear S S1 hfz
          obtain ⟨_, ctop, ccl, cnx⟩ := hcells
          go_wp2_with fail
          go_quiet (fail)
          go_wp2_with fail
          exact sum_doneX hend (hres.out _ (below_drewN (Below.refl _ _) _)) rfl rfl rfl rfl

/-- Sum's answer where it answers. -/
theorem Sum_someX {n c1 c2 N : Nat} {A1 A2 : Option Addr} {xs ls : List Int} {t : List Int × List (List Int) × Nat} (ho : OkS xs ls (N : Int)) (ht : addUp (rowsOf (xs.map Int.toNat) ls) [] N = some t) (hl1 : xs.length = n) (hl2 : ls.length = n) (hn : n ≤ 4096)
    (W : World) (q1 : RdI W.heap.size W A1 xs) (q2 : RdI W.heap.size W A2 ls) : Calls Try.prog 13 #[.slice A1 n c1, .slice A2 n c2, .int .i64 (N : Int)] W (SumResX W t.1 t.2.1 t.2.2 0) := by
  have hnat := ho.nats
  obtain ⟨h1, h2, h3, h4⟩ := ho
  rw [Int.toNat_natCast] at h4
  refine (Sum_anyX _ n c1 c2 N A1 A2 _ ls W (by rw [hnat]; exact q1) q2 (Nat.le_refl _) (by simpa using hl1) hl2 (by omega) (by omega) hn (by rw [hnat, ← hl2]; exact h4)).mono fun e w' hs => ?_
  unfold SummedX at hs
  rwa [ht] at hs
end Go.Proofs.Ytpeklcbjhkchlaa
