/- The walks of zigzag, unzigzag, room, appendInt, PutInt. -/
import Derived.Test.YtnebjihjfghlfaaMem
import Derived.RangeFuncBox
import Derived.Maps.AppendAt
namespace Go.Proofs.Ytnebjihjfghlfaa
open Go.RowKit

theorem not_xor64 {v : Nat} (h : v < 18446744073709551616) : v ^^^ 18446744073709551615 = 18446744073709551615 - v := by
  have e : (18446744073709551615 : Nat) = 2 ^ 64 - 1 := by decide
  apply Nat.eq_of_testBit_eq; intro i
  rw [Nat.testBit_xor, e, Nat.testBit_two_pow_sub_one, show 2 ^ 64 - 1 - v = 2 ^ 64 - (v + 1) by omega, Nat.testBit_two_pow_sub_succ (by omega)]
  by_cases hi : i < 64
  · simp [hi]
  · have : v.testBit i = false := Nat.testBit_lt_two_pow (Nat.lt_of_lt_of_le h (show 2 ^ 64 ≤ 2 ^ i from Nat.pow_le_pow_right (by decide) (by omega)))
    simp [hi, this]
theorem wrap_u64_ (n : Int) : IntKind.u64.wrap n = n % 18446744073709551616 := by simp [IntKind.wrap, IntKind.bits, IntKind.signed]
theorem zz_bits (n : Int) (h0 : -9223372036854775808 ≤ n) (h1 : n ≤ 9223372036854775807) :
    bits .xor .u64 (IntKind.u64.wrap (IntKind.u64.wrap n * 2)) (IntKind.u64.wrap (n / 9223372036854775808)) = ((Oct.zz n : Nat) : Int) := by
  rw [wrap_u64_, wrap_u64_, wrap_u64_]
  by_cases h : 0 ≤ n
  · have e1 : n % 18446744073709551616 * 2 % 18446744073709551616 = ((2 * n).toNat : Int) := by omega
    have e2 : n / 9223372036854775808 % 18446744073709551616 = ((0 : Nat) : Int) := by omega
    rw [e1, e2, u64_xor_nat _ _ (by omega) (by omega), Nat.xor_zero, Oct.zz, if_pos h]
  · obtain ⟨a, ha⟩ : ∃ a : Nat, n % 18446744073709551616 * 2 % 18446744073709551616 = (a : Int) := ⟨(n % 18446744073709551616 * 2 % 18446744073709551616).toNat, by omega⟩
    have hz : Oct.zz n = (-2 * n - 1).toNat := by rw [Oct.zz, if_neg h]
    have e2 : n / 9223372036854775808 % 18446744073709551616 = ((18446744073709551615 : Nat) : Int) := by omega
    rw [ha, e2, u64_xor_nat _ _ (by omega) (by omega), not_xor64 (by omega), hz]
    omega
theorem and1 (u : Nat) (hu : u < 18446744073709551616) : bits .and .u64 (u : Int) 1 = ((u % 2 : Nat) : Int) := by
  have := u64_and_nat u 1 hu (by omega)
  rw [nat_mask1] at this
  exact this
theorem xor_i64_zero (x : Nat) (hx : x < 9223372036854775808) : bits .xor .i64 (x : Int) 0 = (x : Int) := by
  show IntKind.i64.wrap ((BitVec.ofInt 64 (x : Int) ^^^ BitVec.ofInt 64 0).toNat : Int) = _
  have h : (BitVec.ofInt 64 (x : Int) ^^^ BitVec.ofInt 64 0).toNat = x := by
    rw [show BitVec.ofInt 64 0 = 0#64 from rfl, BitVec.xor_zero, BitVec.ofInt_natCast, BitVec.toNat_ofNat]; exact Nat.mod_eq_of_lt (by omega)
  rw [h, IntWalk.i64_in _ (by omega)]
theorem xor_i64_ones (x : Nat) (hx : x < 9223372036854775808) : bits .xor .i64 (x : Int) (-1) = -(x : Int) - 1 := by
  show IntKind.i64.wrap ((BitVec.ofInt 64 (x : Int) ^^^ BitVec.ofInt 64 (-1)).toNat : Int) = _
  have h : (BitVec.ofInt 64 (x : Int) ^^^ BitVec.ofInt 64 (-1)).toNat = 18446744073709551615 - x := by
    rw [show BitVec.ofInt 64 (-1) = BitVec.allOnes 64 from by decide, BitVec.xor_allOnes, BitVec.toNat_not, BitVec.ofInt_natCast, BitVec.toNat_ofNat, Nat.mod_eq_of_lt (by omega)]
  rw [h, IntKind.wrap_i64]
  omega
theorem unzz_bits (u : Nat) (hu : u < 18446744073709551616) :
    bits .xor .i64 ((u : Int) / 2) (wrap64 (-wrap64 (bits .and .u64 (u : Int) 1))) = Oct.unzz u := by
  have e : (u : Int) / 2 = ((u / 2 : Nat) : Int) := by omega
  rw [and1 u hu, e]
  unfold Oct.unzz
  by_cases h : u % 2 = 0
  · rw [if_pos h, h, show wrap64 (-wrap64 ((0 : Nat) : Int)) = 0 from by simp [wrap64]]
    exact xor_i64_zero (u / 2) (by omega)
  · rw [if_neg h, show u % 2 = 1 by omega, show wrap64 (-wrap64 ((1 : Nat) : Int)) = -1 from by simp [wrap64]]
    exact xor_i64_ones (u / 2) (by omega)

theorem zigzag_any (n : Int) (w : World) (hn : Wf n) : Calls Try.prog 35 #[.int .i64 n] w fun e w' => e = .returned (.int .u64 (Oct.zz n : Nat)) ∧ w = w' := by
  obtain ⟨h0, h1⟩ := hn
  go_enter Try.func35, Try.ntmps35
  go_wp2
  go_ret
  exact ⟨by rw [← zz_bits n h0 h1]; rfl, rfl⟩
theorem unzigzag_any (u : Nat) (w : World) (hu : u < 18446744073709551616) : Calls Try.prog 26 #[.int .u64 (u : Int)] w fun e w' => e = .returned (.int .i64 (Oct.unzz u)) ∧ w = w' := by
  go_enter Try.func26, Try.ntmps26
  go_wp2
  go_ret
  exact ⟨by rw [← unzz_bits u hu]; rfl, rfl⟩

set_option maxHeartbeats 1000000 in
theorem room_any (B : Nat) (A : Option Addr) (len cap : Nat) (bs : List Nat) (more : Int) (w : World) (hr : Rd B w A bs) (hB : B ≤ w.heap.size) (hl : bs.length = len) (hn : A = Option.none → cap = 0) (h0 : 0 ≤ more) (h1 : more ≤ 35184372088832) (hlen : len ≤ 35184372088832) :
    Calls Try.prog 28 #[.slice A len cap, .int .i64 more] w fun e w' => ∃ v, e = .returned v ∧ Row w' w.heap.size v bs ∧ Below w.heap.size w w' := by
  obtain ⟨m, rfl⟩ := Int.eq_ofNat_of_zero_le h0
  obtain ⟨i0, hi, hz0, hz1, hz2⟩ := info_parts Try.info5
  have H := Lib.hid hl
  clear hl
  go_enter Try.func28, Try.ntmps28
  go_wp2_with (at_make; refine wpList_make_own _ rfl _ _ 22 rfl w.heap.size 5 i0 (.int .u8 0) 1 Try.underlying22 hi hz0 hz1 .i64 .i64 _ (len + m) rfl rfl ?c1 ?c2 ?c3 ?c4 ?_)
  case c1 => omega
  case c2 => rw [hz2]; omega
  case c3 => unfold maxLen; omega
  case c4 => omega
  intro w1 hown hg1
  have hrow : Row w1 w.heap.size (.slice (some ⟨w.heap.size, 0, none⟩) 0 (len + m)) [] := ⟨by simp, hown⟩
  have hb1 : Below w.heap.size w w1 := (Below.refl _ w).grown hg1 (Nat.le_refl _) (fun k hk => by cases hk)
  have hsz1 := hb1.size
  clear hown hg1
  go_wp2_with (at_builtin; refine wpList_append_row rfl _ _ rfl w.heap.size _ _ rfl hrow B A len cap bs rfl (hr.below hb1 hB) H.out hn ?d1 hsz1 ?_)
  case d1 => simp; omega
  intro v5 w5 hr5 hg5
  have hb5 := hb1.grown hg5 hsz1 (fun k hk => (hrow.2.lt k hk).1)
  go_wp2
  go_ret
  exact ⟨_, rfl, by simpa using hr5, hb5⟩

/-- A captured variable in a box of its own. -/
def Box (w : World) (g : Nat) (t : TypeId) (v : Value) : Prop := w.heap[g]? = some (.cells #[v] t (0, 0))
theorem Box.cell {w : World} {g : Nat} {t : TypeId} {v : Value} (h : Box w g t v) : w.cell? ⟨g, 0, none⟩ = some v := by rw [cell_of_row w g 0 #[v] t (0, 0) h]; rfl
theorem Box.frozen {w : World} {g : Nat} {t : TypeId} {v : Value} (h : Box w g t v) : w.frozen? ⟨g, 0, none⟩ = false := by unfold Box at h; simp [World.frozen?, h]
theorem Box.lt {w : World} {g : Nat} {t : TypeId} {v : Value} (h : Box w g t v) : g < w.heap.size := (Array.getElem?_eq_some_iff.1 h).1
theorem Box.new (w : World) (t : TypeId) (v : Value) : Box (w.alloc (.cells #[v] t)) w.heap.size t v := heap_alloc_new w _
theorem Box.alloc {w : World} {g : Nat} {t : TypeId} {v : Value} (h : Box w g t v) (o : Obj) : Box (w.alloc o) g t v := (Below.heap_alloc w o g h.lt).trans h
theorem Box.set {w : World} {g : Nat} {t : TypeId} {v : Value} (h : Box w g t v) (u : Value) : Box (w.setCell ⟨g, 0, none⟩ u) g t u := by
  unfold Box at h ⊢
  simp [World.setCell, Array.getElem?_modify, h]
theorem Box.far {w : World} {g : Nat} {t : TypeId} {v : Value} (h : Box w g t v) {p : Addr} (hp : g ≠ p.block) (u : Value) : Box (w.setCell p u) g t v := (Below.heap_setCell w p u g hp).trans h
theorem Box.grown {w w' : World} {g : Nat} {t : TypeId} {v : Value} {row : Option Nat} (h : Box w g t v) (hb : w.grownBy w' row) (hg : some g ≠ row) : Box w' g t v := (hb.block g h.lt hg).trans h
theorem Box.below {B : Nat} {w w' : World} {g : Nat} {t : TypeId} {v : Value} (h : Box w g t v) (hb : Below B w w') (hg : g < B) : Box w' g t v := (hb.block g hg).trans h

theorem groups_any (u : Nat) (w : World) : Calls Try.prog 34 #[.int .u64 (u : Int)] w fun e w' => e = .returned (.func (.func 36) #[] #[.pointer (some ⟨w.heap.size, 0, none⟩)]) ∧ w' = w.alloc (.cells #[.int .u64 (u : Int)] 45) := by
  go_enter Try.func34, Try.ntmps34
  go_wp2
  go_ret
  exact ⟨rfl, rfl⟩

theorem Row.not_box {w : World} {base g : Nat} {v u : Value} {bs : List Nat} {t : TypeId} (h : Row w base v bs) (hb : Box w g t u) (ht : t ≠ 5) : some g ≠ v.ownBlock := by
  intro e
  rcases h.2.2 with ⟨rfl, _⟩ | ⟨g', cap, cur, rfl, _, hg, _⟩
  · simp [Value.ownBlock] at e
  · have : g = g' := by simpa [Value.ownBlock] using e
    subst this
    unfold Box at hb
    rw [hb] at hg
    injection hg with hg
    injection hg with _ h2
    exact ht h2

attribute [local go_sem] Oper.semAt_some

/-- What the loop over the groups keeps: the row that grows, the iterator's own number, all else below as it was. -/
def GI (w : World) (base Bb Bu : Nat) (bs : List Nat) (s : List Nat × Nat) (W : World) : Prop :=
  (∃ v, Box W Bb 22 v ∧ Row W base v (bs ++ s.1)) ∧ Box W Bu 45 (.int .u64 (s.2 : Int)) ∧ Below base w W
theorem Box.not_row {W : World} {g : Nat} {t : TypeId} {v : Value} {row : Option Nat} (h : Box W g t v) (hr : ∀ r, row = some r → ∃ o : Obj, W.heap[r]? = some o ∧ o.isCells = false) : some g ≠ row := by
  intro e
  obtain ⟨o, ho, hc⟩ := hr g e.symm
  unfold Box at h
  rw [h] at ho
  injection ho with ho
  subst ho
  simp [Obj.isCells] at hc
theorem Row.not_row {W : World} {base : Nat} {v : Value} {bs : List Nat} {row : Option Nat} (h : Row W base v bs) (hr : ∀ r, row = some r → ∃ o : Obj, W.heap[r]? = some o ∧ o.isCells = false) : v.ownBlock = none ∨ v.ownBlock ≠ row := by
  rcases h.2.2 with ⟨rfl, _⟩ | ⟨g', cap, cur, rfl, _, hg, _⟩
  · exact .inl rfl
  · refine .inr fun e => ?_
    obtain ⟨o, ho, hc⟩ := hr g' e.symm
    rw [hg] at ho
    injection ho with ho
    subst ho
    simp [Obj.isCells] at hc
theorem GI_own {w : World} {base Bb Bu B : Nat} {bs : List Nat} (hbase : base ≤ w.heap.size) (hB : base ≤ B) : OwnFrom B (GI w base Bb Bu bs) := by
  rintro s W W' row ⟨⟨v, hb, hr⟩, hu, hbw⟩ hg hrow
  have h2 : ∀ r, row = some r → ∃ o : Obj, W.heap[r]? = some o ∧ o.isCells = false := fun r e => (hrow r e).2
  exact ⟨⟨v, hb.grown hg (hb.not_row h2), hr.kept hg (hr.not_row h2)⟩, hu.grown hg (hu.not_row h2), hbw.grown hg (Nat.le_trans hbase hbw.size) (fun k e => Nat.le_trans hB (hrow k e).1)⟩

theorem grownBy_setCell (w : World) (p : Addr) (u : Value) : w.grownBy (w.setCell p u) (some p.block) :=
  ⟨rfl, rfl, rfl, by simp [World.setCell], fun k _ hk => Below.heap_setCell w p u k (fun e => hk (by rw [e]))⟩
theorem GI_step {w W : World} {base Bb Bu : Nat} {bs g : List Nat} {u : Nat} (h : GI w base Bb Bu bs (g, u) W) (hne : Bb ≠ Bu) (hBu : base ≤ Bu) (u' : Nat) : GI w base Bb Bu bs (g, u') (W.setCell ⟨Bu, 0, none⟩ (.int .u64 (u' : Int))) := by
  obtain ⟨⟨v, hb, hr⟩, hu, hbw⟩ := h
  exact ⟨⟨v, hb.far (p := ⟨Bu, 0, none⟩) hne _, hr.kept (grownBy_setCell W ⟨Bu, 0, none⟩ _) (.inr (fun e => hr.not_box hu (by decide) e.symm))⟩, hu.set _, hbw.setCell (p := ⟨Bu, 0, none⟩) hBu _⟩

def meas (Bu : Nat) (w : World) : Nat := (intOf ((w.cell? ⟨Bu, 0, none⟩).getD undef)).toNat
theorem meas_eq {Bu u : Nat} {w : World} {t : TypeId} (h : Box w Bu t (.int .u64 (u : Int))) : meas Bu w = u := by unfold meas; rw [h.cell]; simp [intOf]
theorem or128 (u : Nat) : bits .or .u8 ((u : Int) % 256) 128 = ((u % 128 + 128 : Nat) : Int) := by
  have e : (u : Int) % 256 = ((u % 256 : Nat) : Int) := by omega
  have h := u8_or_nat (u % 256) 128 (by omega) (by omega)
  have e2 : u % 256 ||| 128 = u % 128 + 128 := by
    rw [show u % 256 ||| 128 = 128 * (u % 256 / 128) + u % 128 ||| 128 by congr 1; omega]
    rcases (show u % 256 / 128 = 0 ∨ u % 256 / 128 = 1 by omega) with h1 | h1
    · rw [h1, Nat.mul_zero, Nat.zero_add, Nat.or_comm, nat_join 7 128 (u % 128) (by decide) (by omega)]; omega
    · have h2 : 128 * 1 + u % 128 = 128 ||| u % 128 := (nat_join 7 128 (u % 128) (by decide) (by omega)).symm
      rw [h1, h2, Nat.or_comm, ← Nat.or_assoc, Nat.or_self, nat_join 7 128 (u % 128) (by decide) (by omega)]; omega
  rw [e]
  rw [e2] at h
  exact h

set_option maxRecDepth 20000 in
set_option maxHeartbeats 1000000 in
/-- The iterator: it hands over the groups in their order. -/
theorem groups1_in (n : Nat) (hn : 1 ≤ n) (w : World) (base Bb Bu B z : Nat) (bs : List Nat) (hz : z < 18446744073709551616) (hBu : base ≤ Bu) (hne : Bb ≠ Bu)
    (l : Nat) (J : List Nat × Nat → World → Prop) (hJI : ∀ s W, J s W → GI w base Bb Bu bs s W) (hJm : ∀ s s' W W', J s W → GI w base Bb Bu bs s' W' → KeepsFrom B W W' → J s' W')
    (hY : ∀ (s : List Nat × Nat) (x : Nat) (W : World), J s W → (x < 256 ∧ s.1.length < 10) → YieldAt Fence.wide (n - 1) Try.prog l #[.int .u8 (x : Int)] W fun e W' => e = .returned (.bool true) ∧ J (s.1 ++ [x], s.2) W')
    (W : World) (h0 : J ([], z) W) :
    CallsIn Fence.wide n Try.prog 36 #[.func (.yield l) #[] #[], .pointer (some ⟨Bu, 0, none⟩)] W fun e W' => (∃ v, e = .returned v) ∧ ∃ s : List Nat × Nat, s.1 = Oct.grp 9 z ∧ J s W' := by
  have Hz := Lib.hid hz
  clear hz
  refine callsIn_of_wp Try.func36 rfl trivial ?_ rfl
  simp only [Try.ntmps36, List.size_toArray, List.length_cons, List.length_nil, Nat.reduceAdd, Nat.reduceSub, Array.replicate_succ, Array.replicate_zero, List.push_toArray, List.append_toArray, List.nil_append, List.cons_append]
  gi_wp2
  gi_loopw [3] (fun _ wr => ∃ (g : List Nat) (f u : Nat), J (g, u) wr ∧ Hid (g ++ Oct.grp f u = Oct.grp 9 z) ∧ u < 2 * 128 ^ f ∧ Hid (g.length + f = 9)) (fun _ wr => meas Bu wr)
  case atStart => exact ⟨[], 9, z, h0, rfl, by rw [Oct.p9]; have := Hz.out; omega, rfl⟩
  case round =>
    obtain ⟨g, f, u, hJ, hgrp, hu, hlen⟩ := hrel
    obtain ⟨_, hbu, _⟩ := hJI _ _ hJ
    have hcu := hbu.cell
    have hmeas := Lib.hid (meas_eq hbu)
    by_cases h128 : 128 ≤ u
    · cases f with
      | zero => exfalso; simp at hu; omega
      | succ f =>
        obtain ⟨fn, tmps, assign, body, hy, hR⟩ := hY (g, u) (u % 128 + 128) wr hJ ⟨by omega, by have := hlen.out; show g.length < 10; omega⟩
        have ho := or128 u
        have Hu := Lib.hid hu
        obtain ⟨x, hx⟩ : ∃ x, u % 128 + 128 = x := ⟨_, rfl⟩
        rw [hx] at hy hR ho
        have Hx := Lib.hid hx
        clear hu hx
        gi_wp2
        refine hR.mono ?_
        rintro e W3 ⟨rfl, hJ3⟩
        have hI3 := hJI _ _ hJ3
        have hbu3 : Box W3 Bu 45 (.int .u64 (u : Int)) := hI3.2.1
        have hcu3 := hbu3.cell
        have hfu3 := hbu3.frozen
        have hdiv : ((u / 128 : Nat) : Int) = (u : Int) / 128 := by omega
        have hJ4 : J (g ++ [x], u / 128) (W3.setCell ⟨Bu, 0, none⟩ (.int .u64 ((u / 128 : Nat) : Int))) := hJm _ _ _ _ hJ3 (GI_step hI3 hne hBu (u / 128)) ((KeepsOthers.setCell _ _ _).from _)
        have hm4 : Hid (meas Bu (W3.setCell ⟨Bu, 0, none⟩ (.int .u64 ((u / 128 : Nat) : Int))) = u / 128) := meas_eq (hbu3.set _)
        rw [hdiv] at hJ4 hm4
        have hg2 : Hid ((g ++ [x]) ++ Oct.grp f (u / 128) = Oct.grp 9 z) := by
          show _ = _
          rw [← hgrp.out, Oct.grp, if_neg (by omega), List.append_assoc, Hx.out]; rfl
        clear hI3 hdiv
        gi_wp2
        go_roundw
        case rel => exact ⟨g ++ [x], f, u / 128, hJ4, hg2, by have := Hu.out; rw [Nat.pow_succ] at this; omega, by show _ = _; rw [List.length_append]; have := hlen.out; simp; omega⟩
        case measure => rw [hm4.out, hmeas.out]; omega
    · obtain ⟨fn, tmps, assign, body, hy, hR⟩ := hY (g, u) u wr hJ ⟨by omega, by have := hlen.out; show g.length < 10; omega⟩
      have hg2 : Hid (g ++ [u] = Oct.grp 9 z) := by
        show _ = _
        rw [← hgrp.out]
        cases f with
        | zero => rfl
        | succ f => rw [Oct.grp, if_pos (by omega)]
      have Hu := Lib.hid hu
      clear hu
      gi_wp2
      refine hR.mono ?_
      rintro e W3 ⟨rfl, hJ3⟩
      gi_wp2
      refine bodyPost_end (results_none rfl _ _ _) rfl ?_
      exact ⟨⟨_, rfl⟩, (g ++ [u], u), hg2.out, hJ3⟩

set_option maxRecDepth 20000 in
set_option maxHeartbeats 1000000 in
theorem appendInt_any (base : Nat) (v : Value) (bs : List Nat) (z : Int) (w : World) (hrow : Row w base v bs) (hbase : base ≤ w.heap.size) (hz : Wf z) (hbound : bs.length ≤ 140737488355000) :
    Calls Try.prog 27 #[v, .int .i64 z] w fun e w' => ∃ v', e = .returned v' ∧ Row w' base v' (bs ++ Oct.enc z) ∧ Below base w w' := by
  refine (callsIn_wide (n := 4)).1 ?_
  obtain ⟨A, cap, rfl, _, _, _⟩ := hrow.shape
  have hzz := Oct.zz_lt hz.1 hz.2
  have Hzz := Lib.hid hzz
  clear hzz
  refine callsIn_of_wp_marks Try.func27 rfl trivial ?_ rfl
  simp only [Try.ntmps27, List.size_toArray, List.length_cons, List.length_nil, Nat.reduceAdd, Nat.reduceSub, Array.replicate_succ, Array.replicate_zero, List.push_toArray, List.append_toArray, List.nil_append, List.cons_append]
  gi_wp2
  refine ⟨trivial, ?_⟩
  refine (callsIn_wide.2 (zigzag_any z _ hz)).mono ?_
  rintro e w' ⟨rfl, rfl⟩
  gi_wp2
  refine ⟨trivial, ?_⟩
  refine (callsIn_wide.2 (groups_any (Oct.zz z) _)).mono ?_
  rintro e w' ⟨rfl, rfl⟩
  gi_wp2
  have hbox0 : Box ((w.alloc (.cells #[.slice A bs.length cap] 22)).alloc (.cells #[.int .u64 (Oct.zz z : Int)] 45)) w.heap.size 22 (.slice A bs.length cap) := (Box.new w 22 _).alloc _
  have hbox1 : Box ((w.alloc (.cells #[.slice A bs.length cap] 22)).alloc (.cells #[.int .u64 (Oct.zz z : Int)] 45)) (w.heap.size + 1) 45 (.int .u64 (Oct.zz z : Int)) := by
    have := Box.new (w.alloc (.cells #[.slice A bs.length cap] 22)) 45 (.int .u64 (Oct.zz z : Int))
    rwa [World.size_alloc] at this
  have hb0 : Below base w ((w.alloc (.cells #[.slice A bs.length cap] 22)).alloc (.cells #[.int .u64 (Oct.zz z : Int)] 45)) := ((Below.refl _ w).alloc hbase _).alloc (by simp; omega) _
  have hr0 : Row ((w.alloc (.cells #[.slice A bs.length cap] 22)).alloc (.cells #[.int .u64 (Oct.zz z : Int)] 45)) base (.slice A bs.length cap) (bs ++ []) := by rw [List.append_nil]; exact (hrow.alloc _).alloc _
  have hsz : ((w.alloc (.cells #[.slice A bs.length cap] 22)).alloc (.cells #[.int .u64 (Oct.zz z : Int)] 45)).heap.size = w.heap.size + 2 := by simp
  generalize ((w.alloc (.cells #[.slice A bs.length cap] 22)).alloc (.cells #[.int .u64 (Oct.zz z : Int)] 45)) = W1 at *
  obtain ⟨i0, hi, hz0, hz1, hz2⟩ := info_parts Try.info5
  refine wpIn_range_joint (F := Fence.wide) (n := 4) rfl (by omega) (gf := 36) (lb := #[.pointer (some ⟨w.heap.size + 1, 0, none⟩)]) rfl trivial (enters_of Try.func36 (by kernel_rfl) rfl) (fun x : Nat => #[.int .u8 (x : Int)]) (fun _ => rfl)
    (GI w base w.heap.size (w.heap.size + 1) bs) (GI_own hbase (by omega)) ([], Oct.zz z) ⟨⟨_, hbox0, hr0⟩, hbox1, hb0⟩ (fun s x => x < 256 ∧ s.1.length < 10) (fun s x => (s.1 ++ [x], s.2)) (fun s => s.1 = Oct.grp 9 (Oct.zz z))
    (fun x => { tmps := #[.slice A bs.length cap, .int .i64 z, .pointer (some ⟨w.heap.size, 0, none⟩), undef, .slice none 0 0, .int .u8 (x : Int), .int .i64 z, .int .u64 (Oct.zz z : Int), .func (.func 36) #[] #[.pointer (some ⟨w.heap.size + 1, 0, none⟩)], .int .u8 (x : Int), undef, undef, undef, undef, undef], defers := [] }) ?assign ?body ?iter ?done
  case assign =>
    intro l x W K hK
    gi_wp2
    exact hK
  case iter =>
    intro l J hJI hJm hY W hJ
    exact groups1_in (4 - 1) (by omega) w base w.heap.size (w.heap.size + 1) _ (Oct.zz z) bs Hzz.out (by omega) (by omega) l J hJI hJm hY W hJ
  case body =>
    rintro l ⟨g, u⟩ x W ⟨⟨v, hb, hr⟩, hu, hbw⟩ ⟨hx, hgl⟩
    have hgl' : g.length < 10 := hgl
    have hL1 : bs ++ (g ++ [x]) = (bs ++ g) ++ [x] := (List.append_assoc _ _ _).symm
    have hL2 : (bs ++ g).length ≤ bs.length + 9 := by rw [List.length_append]; omega
    have hgoal : ∀ W', KeepsFrom (w.heap.size + 2) W W' → (∃ v, Box W' w.heap.size 22 v ∧ Row W' base v ((bs ++ g) ++ [x])) → Box W' (w.heap.size + 1) 45 (.int .u64 (u : Int)) → Below base w W' →
        KeepsFrom (w.heap.size + 2) W W' ∧ GI w base w.heap.size (w.heap.size + 1) bs (g ++ [x], u) W' := fun W' h1 h2 h3 h4 => ⟨h1, by rw [hL1]; exact h2, h3, h4⟩
    have Hgoal := Lib.hid hgoal
    clear hgoal hL1
    have hr' : Row W base v (bs ++ g) := hr
    clear hr
    obtain ⟨L, hL⟩ : ∃ L, bs ++ g = L := ⟨_, rfl⟩
    rw [hL] at hr' hL2 Hgoal
    clear hL
    have hszW : base ≤ W.heap.size := Nat.le_trans hbase hbw.size
    have hnb := hr'.not_box hb (by decide)
    have hnu := hr'.not_box hu (by decide)
    have hown := hr'.2
    have hbytes := hr'.1
    have hcs : Hid (cellsOf (L ++ [x]) = cellsOf L ++ [.int .u8 (x : Int)]) := by show _ = _; simp [cellsOf]
    have hcells : ∀ (j : Nat) (o : Obj), v.ownBlock = some j → W.heap[j]? = some o → o.isCells = true := by
      intro j o e ho
      rcases hr'.2.2 with ⟨e2, _⟩ | ⟨g', cap', cur, e2, _, hg, _⟩
      · rw [e2] at e; simp [Value.ownBlock] at e
      · rw [e2] at e
        have : g' = j := by simpa [Value.ownBlock] using e
        subst this
        rw [hg] at ho; injection ho with ho; subst ho; rfl
    have hcells' := Lib.hid hcells
    have hrange := Lib.hid hr'.2.lt
    obtain ⟨A1, c1, hv, _, _, _⟩ := hr'.shape
    subst hv
    have hcb := hb.cell
    have hfb := hb.frozen
    clear hr' hcells
    gi_wp2_with (gi_at_builtin; refine wpListIn_append_own _ rfl _ _ 22 rfl base 5 i0 (.int .u8 0) 1 1 Try.underlying22 hi hz0 hz1 hz2 rfl (by decide) _ _ _ rfl (hown.alloc _) ⟨W.heap.size, 0, none⟩ 1 1 [.int .u8 (x : Int)] rfl rfl (cell_one_new _ _ _) (by simp [Value.oneCell']) (by unfold maxLen; omega) (by omega) (by simp; omega) ?_; intro v' w1 hown' hgrow _; obtain ⟨g', cap', rfl⟩ := ownsRow_succ hown'; have hb1 : Box w1 w.heap.size 22 _ := (hb.alloc _).grown hgrow hnb; have hcb1 := hb1.cell; have hfb1 := hb1.frozen)
    have hr1 : Row w1 base (.slice (some ⟨g', 0, none⟩) (L.length + 1) cap') (L ++ [x]) := by
      refine ⟨fun c hc => ?_, ?_⟩
      · rcases List.mem_append.1 hc with h1 | h1
        · exact hbytes c h1
        · simp at h1; omega
      · rw [List.length_append, hcs.out]; exact hown'
    have hnb1 := hr1.not_box hb1 (by decide)
    have hu1 := (hu.alloc (.cells #[.int .u8 (x : Int)] 5)).grown hgrow hnu
    refine Hgoal.out _ ?_ ⟨_, hb1.set _, hr1.kept (grownBy_setCell w1 ⟨w.heap.size, 0, none⟩ _) (.inr (fun e => hnb1 e.symm))⟩ (hu1.far (p := ⟨w.heap.size, 0, none⟩) (by simp) _) ?_
    · refine (((KeepsOthers.alloc W _).trans (KeepsOthers.of_grownBy hgrow ?_)).trans (KeepsOthers.setCell _ _ _)).from _
      intro j o e ho
      refine hcells'.out j o e ?_
      rw [← ho]
      exact (Below.heap_alloc W _ j (hrange.out j e).2).symm
    · exact ((hbw.alloc hszW _).grown hgrow (by simp; omega) (fun k hk => (hrange.out k hk).1)).setCell (p := ⟨w.heap.size, 0, none⟩) hbase _
  case done =>
    rintro D ⟨g, u⟩ W hD hF hGI hK
    have hP := (GI_own hbase (by omega : base ≤ W1.heap.size)).putObj (.deferred none) hGI hD hK rfl
    obtain ⟨⟨v, hb, hr⟩, hu, hbw⟩ := hGI
    have hcb := hb.cell
    have hF' : g = Oct.grp 9 (Oct.zz z) := hF
    subst hF'
    obtain ⟨⟨v2, hb2, hr2⟩, _, hbw2⟩ := hP
    have hv2 : v2 = v := by
      have h1 := hb2.cell
      have hne : w.heap.size ≠ D := by omega
      have h2 : Box (W.putObj D (.deferred none)) w.heap.size 22 v := (World.putObj_heap_other hne).trans hb
      have h3 := h2.cell
      rw [h1] at h3
      injection h3
    rw [hv2] at hr2
    clear hb2 hv2
    gi_wp2
    refine ⟨by simp, .inl ⟨_, _, rfl, run_takeDeferred hK, ?_⟩⟩
    exact ⟨_, results_tmp rfl _ _ _, v, rfl, hr2, hbw2⟩
end Go.Proofs.Ytnebjihjfghlfaa
