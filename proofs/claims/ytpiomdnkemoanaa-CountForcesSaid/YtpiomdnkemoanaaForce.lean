/- Unit propagation: what forced answers. -/
import Derived.Test.YtpiomdnkemoanaaCap
namespace Go.Proofs.Ytpiomdnkemoanaa
open Go.ChangeShapes Go.WideShapes Go.ChangeAt Go.RowKit

/-- A row of integers of the call's own, full. -/
def RowN (w : World) (base g : Nat) (zs : List Int) : Prop := w.ownsRow base 3 1 (.slice (some ⟨g, 0, none⟩) zs.length zs.length) zs.length (zs.map (Value.int .i64))
theorem RowN.cell {w : World} {base g : Nat} {zs : List Int} (h : RowN w base g zs) {j : Nat} (hj : j < zs.length) : w.cell? ⟨g, j, none⟩ = some (.int .i64 (zs[j]?.getD 0)) := by
  rw [World.ownsRow.cellAt h j (by omega), intsAt zs j hj]
theorem RowN.frozen {w : World} {base g : Nat} {zs : List Int} (h : RowN w base g zs) (j : Nat) : w.frozen? ⟨g, j, none⟩ = false := World.ownsRow.frozenAt h j
theorem RowN.set {w : World} {base g : Nat} {zs : List Int} (h : RowN w base g zs) (j : Nat) (z : Int) : RowN (w.setCell ⟨g, j, none⟩ (.int .i64 z)) base g (zs.set j z) := by
  unfold RowN
  rw [List.length_set, List.map_set]
  exact (World.ownsRow.stored h j (.int .i64 z)).1
theorem RowN.drewN {w : World} {base g : Nat} {zs : List Int} (h : RowN w base g zs) (n : Nat) : RowN (w.drewN n) base g zs := h
theorem RowN.below {w w' : World} {base g : Nat} {zs : List Int} (h : RowN w base g zs) (hb : Below w.heap.size w w') : RowN w' base g zs := own_below h hb
theorem RowN.at {w : World} {base g : Nat} {zs : List Int} (h : RowN w base g zs) : base ≤ g := (h.lt g rfl).1

/-- The value of a literal: 1, 0 or -1. -/
def lv (tr : List Int) (y : Int) : Int := if y < 0 then -(tr[(-y).toNat]?.getD 0) else tr[y.toNat]?.getD 0
theorem lv_pos (tr : List Int) (k : Nat) : lv tr (k : Int) = tr[k]?.getD 0 := by unfold lv; rw [if_neg (by omega), Int.toNat_natCast]
theorem lv_neg (tr : List Int) (k : Nat) (h : 1 ≤ k) : lv tr (-(k : Int)) = -(tr[k]?.getD 0) := by unfold lv; rw [if_pos (by omega), Int.neg_neg, Int.toNat_natCast]
def opn (tr : List Int) (x : List Int) : List Int := x.filter fun y => lv tr y == 0
def isT (tr : List Int) (x : List Int) : Bool := x.any fun y => lv tr y == 1
def setL (tr : List Int) (y : Int) : List Int := if 0 < y then tr.set y.toNat 1 else tr.set (-y).toNat (-1)
/-- One clause: no answer where it is false, else what is known behind it. -/
def step (tr : List Int) (x : List Int) : Option (List Int) :=
  if isT tr x then some tr else match opn tr x with
    | [] => none
    | [y] => some (setL tr y)
    | _ => some tr
def Bd (tr : List Int) : Prop := ∀ v ∈ tr, -1 ≤ v ∧ v ≤ 1
theorem setL_len (tr : List Int) (y : Int) : (setL tr y).length = tr.length := by unfold setL; split <;> simp
theorem bd_set {tr : List Int} (h : Bd tr) (j : Nat) {z : Int} (h1 : -1 ≤ z) (h2 : z ≤ 1) : Bd (tr.set j z) := by
  intro v hv
  rcases List.mem_or_eq_of_mem_set hv with q | q
  · exact h v q
  · rw [q]; exact ⟨h1, h2⟩
theorem bd_setL {tr : List Int} (h : Bd tr) (y : Int) : Bd (setL tr y) := by
  unfold setL; split
  · exact bd_set h _ (by omega) (by omega)
  · exact bd_set h _ (by omega) (by omega)
theorem bd_get {tr : List Int} (h : Bd tr) {j : Nat} (hj : j < tr.length) : -1 ≤ tr[j]?.getD 0 ∧ tr[j]?.getD 0 ≤ 1 := by
  rw [List.getElem?_eq_getElem hj]; exact h _ (List.getElem_mem hj)
theorem opn_next (tr x : List Int) (p : Nat) (h : p < x.length) : opn tr (x.take (p + 1)) = opn tr (x.take p) ++ (if lv tr (x[p]?.getD 0) == 0 then [x[p]?.getD 0] else []) := by
  unfold opn
  rw [List.take_add_one, List.getElem?_eq_getElem h, Option.toList_some, List.filter_append, Option.getD_some]
  congr 1
  by_cases q : (lv tr x[p] == 0) = true
  · rw [if_pos q]; simp only [List.filter_cons, q, if_true, List.filter_nil]
  · rw [if_neg q]; simp only [List.filter_cons, q, List.filter_nil]; rfl
theorem isT_next (tr x : List Int) (p : Nat) (h : p < x.length) : isT tr (x.take (p + 1)) = (isT tr (x.take p) || lv tr (x[p]?.getD 0) == 1) := by
  unfold isT
  rw [any_take _ x p h, List.getElem?_eq_getElem h, Option.getD_some]
/-- The last of these, 0 if there is none. -/
def lastOf (l : List Int) : Int := l.getLast?.getD 0
theorem lastOf_snoc (l : List Int) (y : Int) : lastOf (l ++ [y]) = y := by unfold lastOf; rw [List.getLast?_append]; rfl

/-- What has been seen of a clause so far. -/
def Seen3 (tr l : List Int) (m : Nat) (lst : Int) (s : Bool) : Prop := m = (opn tr l).length ∧ lst = lastOf (opn tr l) ∧ s = isT tr l
theorem next_open {tr l l' : List Int} {m : Nat} {lst y : Int} {s u : Bool} (h : Seen3 tr l m lst s) (ho : opn tr l' = opn tr l ++ (if true = true then [y] else [])) (hi : isT tr l' = (isT tr l || u)) : Seen3 tr l' (m + 1) y (s || u) := by
  rw [if_pos rfl] at ho
  exact ⟨by rw [ho, List.length_append, h.1]; rfl, by rw [ho, lastOf_snoc], by rw [hi, h.2.2]⟩
theorem next_shut {tr l l' : List Int} {m : Nat} {lst y : Int} {s u : Bool} (h : Seen3 tr l m lst s) (ho : opn tr l' = opn tr l ++ (if false = true then [y] else [])) (hi : isT tr l' = (isT tr l || u)) : Seen3 tr l' m lst (s || u) := by
  rw [if_neg (by simp), List.append_nil] at ho
  exact ⟨by rw [ho]; exact h.1, by rw [ho]; exact h.2.1, by rw [hi, h.2.2]⟩

set_option maxRecDepth 30000 in
set_option maxHeartbeats 16000000 in
theorem forced_any (base g : Nat) (A : Option Addr) (C c a : Nat) (cl : List (List Int)) (tr0 : List Int) (Z : Bool) (R : Nat → Nat → List Int → Prop) (w : World) (hr : RdR base w A cl) (hC : cl.length = C) (hC2 : C ≤ maxLen) (hg : ∀ j, j < cl.length → (cl[j]?.getD []).length ≤ maxLen) (hlit : ∀ x ∈ cl, ∀ y ∈ x, Lit a y)
    (hrow : RowN w base g tr0) (hlen : tr0.length = a) (ha1 : 1 ≤ a) (ha : a ≤ 60000) (hbd : Bd tr0) (hR0 : R 0 0 tr0) (hstep : ∀ r q tr, q < C → tr.length = a → R r q tr → (step tr (cl[q]?.getD []) = none → Z = true) ∧ ∀ tr', step tr (cl[q]?.getD []) = some tr' → R r (q + 1) tr')
    (hend : ∀ r tr, R r C tr → Z = false ∧ R (r + 1) 0 tr) :
    Calls Try.prog 22 #[.slice A C c, .slice (some ⟨g, 0, none⟩) a a] w fun e w' => e = .returned (.bool Z) ∧ Below base w w' := by
  have HC := Lib.hid hC
  have Hg := Lib.hid hg
  have Hlit := Lib.hid hlit
  have Hstep := Lib.hid hstep
  have Hend := Lib.hid hend
  have hgb := hrow.at
  have HR0 := Lib.hid hR0
  have Hlen := Lib.hid hlen
  have hC3 : C ≤ 9223372036854775807 := by unfold maxLen at hC2; omega
  clear hC hg hlit hstep hend hR0 hlen
  go_enter Try.func22, Try.ntmps22
  go_wp2_with fail
  go_loopw [18] (fun i wr => ∃ r : Nat, ∃ tr : List Int, r ≤ a + 1 ∧ i = .int .i64 r ∧ RowN wr base g tr ∧ Hid (tr.length = a) ∧ Hid (Bd tr) ∧ Hid (R r 0 tr) ∧ Hid (r = 0 ∨ Z = false) ∧ Below base w wr) (fun i _ => a + 1 - (intOf i).toNat)
  case atStart => exact ⟨0, tr0, by omega, rfl, hrow, Hlen, Lib.hid hbd, HR0, Lib.hid (.inl rfl), Below.refl _ _⟩
  case round =>
    obtain ⟨r, tr, hra, rfl, hrow1, Hl1, Hbd1, HR1, Hz1, hb1⟩ := hrel
    clear hrow hbd HR0 Hlen
    by_cases hlt : r < a + 1
    · go_wp2_with fail
      go_loopw [5, 22] (fun v5 i wr2 => ∃ q : Nat, ∃ tr2 : List Int, ∃ b5 : Bool, v5 = .bool b5 ∧ q ≤ C ∧ i = .int .i64 q ∧ RowN wr2 base g tr2 ∧ Hid (tr2.length = a) ∧ Hid (Bd tr2) ∧ Hid (R r q tr2) ∧ Below base w wr2) (fun _ i _ => C - (intOf i).toNat)
      case atStart => exact ⟨0, tr, false, rfl, by omega, rfl, hrow1, Hl1, Hbd1, HR1, hb1⟩
      case round =>
        obtain ⟨q, tr2, b5, rfl, hq, rfl, hrow2, Hl2, Hbd2, HR2, hb2⟩ := hrel
        clear hrow1 Hl1 Hbd1 HR1 hb1
        by_cases hqt : q < C
        · have r2 := hr.below hb2 (Nat.le_refl _)
          have hqo : q < cl.length := by rw [HC.out]; exact hqt
          obtain ⟨b, off, rfl, hbl, hc⟩ := r2 (by omega)
          obtain ⟨E, ec, hc1, hr1⟩ := hc q hqo
          have hxl := Hg.out q hqo
          have hmem : cl[q]?.getD [] ∈ cl := by rw [List.getElem?_eq_getElem hqo]; exact List.getElem_mem _
          have hlj := Hlit.out _ hmem
          have hst := (Hstep.out r q tr2 hqt Hl2.out HR2.out)
          clear hc hmem hqo
          generalize cl[q]?.getD [] = x at *
          obtain ⟨L, hL⟩ : ∃ L, x.length = L := ⟨_, rfl⟩
          rw [hL] at hc1 hxl
          have hxl : L ≤ 9223372036854775807 := by unfold maxLen at hxl; omega
          have HL := Lib.hid hL
          have Hlj := Lib.hid hlj
          have Hst := Lib.hid hst
          clear hL hlj hst
          go_wp2_with fail
          go_loopw [8, 9, 10, 28] (fun vo vl vs vi wr3 => ∃ p m : Nat, ∃ lst : Int, ∃ s1 : Bool, p ≤ L ∧ m ≤ p ∧ vo = .int .i64 (m : Int) ∧ vl = .int .i64 lst ∧ vs = .bool s1 ∧ vi = .int .i64 (p : Int) ∧ Seen3 tr2 (x.take p) m lst s1 ∧ wr = wr3) (fun _ _ _ vi _ => L - (intOf vi).toNat)
          case atStart => exact ⟨0, 0, 0, false, by omega, by omega, rfl, rfl, rfl, rfl, ⟨rfl, rfl, rfl⟩, rfl⟩
          case round =>
            obtain ⟨p, m, lst, s1, hp, hmp, rfl, rfl, rfl, rfl, hm, rfl⟩ := hrel
            have Hm := Lib.hid hm
            clear hm
            by_cases hpt : p < L
            · have hpo : p < x.length := by rw [HL.out]; exact hpt
              obtain ⟨b3, off3, rfl, _, hc3⟩ := hr1.2 (by omega)
              have hc4 := hc3 p hpo
              have hly := Hlj.out (x[p]?.getD 0) (by rw [List.getElem?_eq_getElem hpo]; exact List.getElem_mem _)
              have hopn := opn_next tr2 x p hpo
              have hisT := isT_next tr2 x p hpo
              obtain ⟨k, hk1, hk2, hk⟩ := hly.two
              have hkt : k < tr2.length := by rw [Hl2.out]; exact hk2
              have hcell := hrow2.cell hkt
              obtain ⟨hv1, hv2⟩ := bd_get Hbd2.out hkt
              have hvp := lv_pos tr2 k
              have hvn := lv_neg tr2 k hk1
              clear hc3 hpo hly hkt
              have e0 : decide ((a : Int) ≤ (k : Int)) = false := decide_eq_false (by omega)
              have e0' : decide (a ≤ k) = false := decide_eq_false (by omega)
              have hrow2 := Lib.hid hrow2
              generalize tr2[k]?.getD 0 = t0 at *
              rcases hk with hk | hk
              · rw [hk] at hc4 hopn hisT
                rw [hvp] at hopn hisT
                clear hvp hvn hk
                have e1 : max (k : Int) (-(k : Int)) = (k : Int) := by omega
                have e2 : decide ((k : Int) < 0) = false := decide_eq_false (by omega)
                obtain ⟨u, hu0⟩ : ∃ u, (t0 == 1) = u := ⟨_, rfl⟩
                obtain ⟨z, hz0⟩ : ∃ z, (t0 == 0) = z := ⟨_, rfl⟩
                rw [hu0] at hisT
                cases z with
                | true =>
                  rw [hz0] at hopn
                  have Hn := Lib.hid (next_open Hm.out hopn hisT)
                  clear hopn hisT
                  cases s1 with
                  | true =>
                    go_wp2_with fail
                    go_roundw
                    case rel => exact ⟨p + 1, m + 1, (k : Int), _, by omega, by omega, by go_num, rfl, rfl, by go_num, Hn.out, trivial⟩
                    case measure => simp [intOf]; omega
                  | false =>
                    go_wp2_with fail
                    go_roundw
                    case rel => exact ⟨p + 1, m + 1, (k : Int), _, by omega, by omega, by go_num, rfl, rfl, by go_num, Hn.out, trivial⟩
                    case measure => simp [intOf]; omega
                | false =>
                  rw [hz0] at hopn
                  have Hn := Lib.hid (next_shut Hm.out hopn hisT)
                  clear hopn hisT
                  cases s1 with
                  | true =>
                    go_wp2_with fail
                    go_roundw
                    case rel => exact ⟨p + 1, m, lst, _, by omega, by omega, rfl, rfl, rfl, by go_num, Hn.out, trivial⟩
                    case measure => simp [intOf]; omega
                  | false =>
                    go_wp2_with fail
                    go_roundw
                    case rel => exact ⟨p + 1, m, lst, _, by omega, by omega, rfl, rfl, rfl, by go_num, Hn.out, trivial⟩
                    case measure => simp [intOf]; omega
              · rw [hk] at hc4 hopn hisT
                rw [hvn] at hopn hisT
                clear hvp hvn hk
                have e1 : max (-(k : Int)) (k : Int) = (k : Int) := by omega
                have e2 : decide (-(k : Int) < 0) = true := decide_eq_true (by omega)
                have e2' : decide ((0 : Int) < (k : Int)) = true := decide_eq_true (by omega)
                have e2'' : decide (0 < k) = true := decide_eq_true (by omega)
                obtain ⟨u, hu0⟩ : ∃ u, (-t0 == 1) = u := ⟨_, rfl⟩
                obtain ⟨z, hz0⟩ : ∃ z, (-t0 == 0) = z := ⟨_, rfl⟩
                rw [hu0] at hisT
                cases z with
                | true =>
                  rw [hz0] at hopn
                  have Hn := Lib.hid (next_open Hm.out hopn hisT)
                  clear hopn hisT
                  cases s1 with
                  | true =>
                    go_wp2_with fail
                    go_roundw
                    case rel => exact ⟨p + 1, m + 1, -(k : Int), _, by omega, by omega, by go_num, rfl, rfl, by go_num, Hn.out, trivial⟩
                    case measure => simp [intOf]; omega
                  | false =>
                    go_wp2_with fail
                    go_roundw
                    case rel => exact ⟨p + 1, m + 1, -(k : Int), _, by omega, by omega, by go_num, rfl, rfl, by go_num, Hn.out, trivial⟩
                    case measure => simp [intOf]; omega
                | false =>
                  rw [hz0] at hopn
                  have Hn := Lib.hid (next_shut Hm.out hopn hisT)
                  clear hopn hisT
                  cases s1 with
                  | true =>
                    go_wp2_with fail
                    go_roundw
                    case rel => exact ⟨p + 1, m, lst, _, by omega, by omega, rfl, rfl, rfl, by go_num, Hn.out, trivial⟩
                    case measure => simp [intOf]; omega
                  | false =>
                    go_wp2_with fail
                    go_roundw
                    case rel => exact ⟨p + 1, m, lst, _, by omega, by omega, rfl, rfl, rfl, by go_num, Hn.out, trivial⟩
                    case measure => simp [intOf]; omega
            · obtain rfl : p = L := by omega
              obtain ⟨hm1, hm2, hm3⟩ := Hm.out
              rw [← HL.out, List.take_length] at hm1 hm2 hm3
              have hst := Hst.out
              unfold step at hst
              cases s1 with
              | true =>
                rw [← hm3, if_pos rfl] at hst
                have HR3 := Lib.hid (hst.2 _ rfl)
                clear hst hm1 hm2 hm3 Hst Hm hr1 HR2
                go_wp2_with fail
                go_roundw
                case rel => exact ⟨q + 1, tr2, b5, rfl, by omega, by go_num, hrow2, Hl2, Hbd2, HR3, hb2⟩
                case measure => simp [intOf]; omega
              | false =>
                rw [← hm3, if_neg (by simp)] at hst
                clear hm3 hr1 Hm Hst
                rcases ho : opn tr2 x with _ | ⟨y, _ | ⟨y2, ys⟩⟩
                · rw [ho] at hst hm1 hm2
                  obtain rfl : m = 0 := hm1
                  have hzt := hst.1 rfl
                  subst hzt
                  clear hst hm2
                  go_wp2_with fail
                  go_ret
                  exact ⟨rfl, hb2⟩
                · have hmem : y ∈ x := by
                    have h1 : y ∈ opn tr2 x := by rw [ho]; simp
                    unfold opn at h1
                    exact (List.mem_filter.1 h1).1
                  have hly := Hlj.out y hmem
                  rw [ho] at hst hm1 hm2
                  obtain rfl : m = 1 := hm1
                  obtain rfl : lst = y := hm2
                  have hR3 := hst.2 _ rfl
                  have hbd3 := bd_setL Hbd2.out lst
                  have hlen3 : (setL tr2 lst).length = a := by rw [setL_len]; exact Hl2.out
                  clear hst hmem ho
                  obtain ⟨k, hk1, hk2, hk⟩ := hly.two
                  have hkt : k < tr2.length := by rw [Hl2.out]; exact hk2
                  clear hly
                  rcases hk with hk | hk
                  · subst hk
                    have hset : setL tr2 (k : Int) = tr2.set k 1 := by unfold setL; rw [if_pos (by omega), Int.toNat_natCast]
                    rw [hset] at hR3 hbd3 hlen3
                    have hcell := hrow2.cell hkt
                    have hfr := hrow2.frozen k
                    have hrow3 := hrow2.set k (1)
                    have hb3 := hb2.setCell (p := ⟨g, k, none⟩) hgb (.int .i64 (1))
                    have Hnew := Lib.hid (And.intro hrow3 (And.intro hlen3 (And.intro hbd3 (And.intro hR3 hb3))))
                    have e2 : decide ((0 : Int) < (k : Int)) = true := decide_eq_true (by omega)
                    have e2' : decide (0 < k) = true := decide_eq_true (by omega)
                    clear hrow3 hb3 hR3 hbd3 hlen3 hset hrow2 hkt hb2
                    generalize tr2[k]?.getD 0 = t0 at *
                    go_wp2_with fail
                    go_roundw
                    case rel => exact ⟨q + 1, _, true, rfl, by omega, by go_num, Hnew.out.1, Lib.hid Hnew.out.2.1, Lib.hid Hnew.out.2.2.1, Lib.hid Hnew.out.2.2.2.1, Hnew.out.2.2.2.2⟩
                    case measure => simp [intOf]; omega
                  · subst hk
                    have hset : setL tr2 (-(k : Int)) = tr2.set k (-1) := by unfold setL; rw [if_neg (by omega), Int.neg_neg, Int.toNat_natCast]
                    rw [hset] at hR3 hbd3 hlen3
                    have hcell := hrow2.cell hkt
                    have hfr := hrow2.frozen k
                    have hrow3 := hrow2.set k (-1)
                    have hb3 := hb2.setCell (p := ⟨g, k, none⟩) hgb (.int .i64 (-1))
                    have Hnew := Lib.hid (And.intro hrow3 (And.intro hlen3 (And.intro hbd3 (And.intro hR3 hb3))))
                    have e2 : decide ((0 : Int) < -(k : Int)) = false := decide_eq_false (by omega)
                    have e2' : decide ((k : Int) < 0) = false := decide_eq_false (by omega)
                    clear hrow3 hb3 hR3 hbd3 hlen3 hset hrow2 hkt hb2
                    generalize tr2[k]?.getD 0 = t0 at *
                    go_wp2_with fail
                    go_roundw
                    case rel => exact ⟨q + 1, _, true, rfl, by omega, by go_num, Hnew.out.1, Lib.hid Hnew.out.2.1, Lib.hid Hnew.out.2.2.1, Lib.hid Hnew.out.2.2.2.1, Hnew.out.2.2.2.2⟩
                    case measure => simp [intOf]; omega
                · rw [ho] at hst hm1
                  have hm4 : 2 ≤ m := by rw [hm1]; simp
                  have f0 : (m == 0) = false := by rw [beq_eq_false_iff_ne]; omega
                  have f0' : ((m : Int) == 0) = false := by rw [beq_eq_false_iff_ne]; omega
                  have f1 : (m == 1) = false := by rw [beq_eq_false_iff_ne]; omega
                  have f1' : ((m : Int) == 1) = false := by rw [beq_eq_false_iff_ne]; omega
                  have HR3 := Lib.hid (hst.2 _ rfl)
                  clear hst hm1 hm2 ho HR2
                  go_wp2_with fail
                  go_roundw
                  case rel => exact ⟨q + 1, tr2, b5, rfl, by omega, by go_num, hrow2, Hl2, Hbd2, HR3, hb2⟩
                  case measure => simp [intOf]; omega
        · obtain rfl : q = C := by omega
          have hzf := (Hend.out r tr2 HR2.out)
          obtain ⟨hzf, hR3⟩ := hzf
          have HR3 := Lib.hid hR3
          clear hR3 HR2
          subst hzf
          cases b5 with
          | true =>
            go_wp2_with fail
            go_roundw
            case rel => exact ⟨r + 1, tr2, by omega, by go_num, hrow2, Hl2, Hbd2, HR3, Lib.hid (by simp), hb2⟩
            case measure => simp [intOf]; omega
          | false =>
            go_wp2_with fail
            go_ret
            exact ⟨rfl, hb2⟩
    · obtain rfl : r = a + 1 := by omega
      have hzf : Z = false := by rcases Hz1.out with h | h; · omega
                                 · exact h
      subst hzf
      clear HR1 Hstep Hend Hz1
      go_wp2_with fail
      go_ret
      exact ⟨rfl, hb1⟩
end Go.Proofs.Ytpiomdnkemoanaa
