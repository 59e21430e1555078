/- The reference's both: the clauses for i and k are put behind those of the state. -/
import Derived.Test.YtppgpafnifmmfaaBothM
import Derived.Deep.Cut
namespace Go.Proofs.Ytppgpafnifmmfaa
open Go.ChangeShapes Go.WideShapes Go.ChangeAt Go.RowKit

theorem get_wf {l : List Int} (h : ∀ x ∈ l, -65537 ≤ x ∧ x ≤ 65537) {j : Nat} (hj : j < l.length) : -65537 ≤ l[j]?.getD 0 ∧ l[j]?.getD 0 ≤ 65537 := by
  rw [List.getElem?_eq_getElem hj]; exact h _ (List.getElem_mem _)
theorem results32 (tm : Array Value) (w : World) (g : Nat) (v : Value) (m : Int) (h : tm[12]?.getD undef = .pointer (some ⟨g, 0, none⟩)) (hT : Two w g v m) :
    (results Try.f32 tm).run Try.prog w = .ok (.agg #[v, .int .i64 m]) w := by
  have hr : Try.f32.results = #[.cell 12 51] := rfl
  have h0 := hT.c0
  have h1 := hT.c1
  simp only [results, hr]
  simp [go_sem, h, h0, h1]

set_option maxRecDepth 30000 in
set_option maxHeartbeats 8000000 in
theorem both_any (base : Nat) (w : World) (v : Value) (cl : List (List Int)) (next : Int) (A1 A2 A3 : Option Addr) (n1 n2 n3 c1 c2 c3 : Nat) (a b outs : List Int) (i k : Nat)
    (hst : Cls w base v cl) (hbase : base ≤ w.heap.size) (hcl : cl.length ≤ 900000)
    (ha : RowI w base (.slice A1 n1 c1) a) (hb : RowI w base (.slice A2 n2 c2) b) (ho : RowI w base (.slice A3 n3 c3) outs) (h1 : a.length = n1) (h2 : b.length = n2) (h3 : outs.length = n3)
    (hi : i ≤ n1) (hk : k ≤ n2) (hn1 : n1 ≤ 4096) (hn2 : n2 ≤ 4096) (hn3 : n3 ≤ 4096)
    (la : ∀ x ∈ a, -65537 ≤ x ∧ x ≤ 65537) (lb : ∀ x ∈ b, -65537 ≤ x ∧ x ≤ 65537) (lo : ∀ x ∈ outs, -65537 ≤ x ∧ x ≤ 65537) :
    Calls Try.prog 32 #[.agg #[v, .int .i64 next], .slice A1 n1 c1, .slice A2 n2 c2, .slice A3 n3 c3, .int .i64 (i : Int), .int .i64 (k : Int)] w fun e w' =>
      ∃ v', e = .returned (.agg #[v', .int .i64 next]) ∧ Cls w' base v' (cl ++ Tot.step a b outs (i : Int) (k : Int)) ∧ Kr base w w' := by
  rw [both_step a b outs i k (by omega) (by omega), ← List.append_assoc]
  have Ha := Lib.hid h1
  have Hb := Lib.hid h2
  have Ho := Lib.hid h3
  have La := Lib.hid la
  have Lb := Lib.hid lb
  have Lo := Lib.hid lo
  obtain ⟨W, hW⟩ : ∃ W, W = Wb w v next := ⟨_, rfl⟩
  have T0 : Two W w.heap.size v next := by rw [hW]; exact Wb_0 w v next
  have T1 : Two W (w.heap.size + 1) (.slice Option.none 0 0) 0 := by rw [hW]; exact Wb_1 w v next
  have hlow : Below w.heap.size w W := by rw [hW]; exact Wb_low w v next
  have K0 : Kr base w W := Kr.below hlow hbase
  have S0 : Cls W base v cl := hst.below hlow
  have hWs : W.heap.size = w.heap.size + 1 + 1 := by rw [hW]; exact Wb_size w v next
  have HW := Lib.hid hW
  have HWs := Lib.hid hWs
  have hWb : base ≤ W.heap.size := by omega
  have RA := fun wx (h : Below W.heap.size W wx) => Lib.hid ((K0.row _ _ ha).below h).rd
  have RB := fun wx (h : Below W.heap.size W wx) => Lib.hid ((K0.row _ _ hb).below h).rd
  have RO := fun wx (h : Below W.heap.size W wx) => Lib.hid ((K0.row _ _ ho).below h).rd
  have hz := RowI.fresh W.heap.size W (Nat.le_refl _)
  have hbz := (Below.refl W.heap.size W).alloc (Nat.le_refl _) (.cells #[] 3)
  have HA := Lib.hid ha
  have HB := Lib.hid hb
  have HO := Lib.hid ho
  clear h1 h2 h3 la lb lo hlow hW hWs ha hb ho
  go_enter Try.func32, Try.ntmps32
  go_upto_if 21 with fail
  rw [show (w.alloc (.cells #[v, .int .i64 next] 51)).alloc (.cells #[.slice Option.none 0 0, .int .i64 0] 51) = W from HW.out.symm, ← HWs.out]
  obtain ⟨Wz, hWz⟩ : ∃ X, X = W.alloc (.cells #[] 3) := ⟨_, rfl⟩
  rw [← hWz] at hz hbz ⊢
  clear hWz
  have hsz0 := hbz.size
  have hfl : ([] : List Int).length ≤ 1000000 := by simp
  go_cut [14] from 16 (fun u wx => RowI wx W.heap.size u (upA a i) ∧ Below W.heap.size W wx)
  case first =>
    by_cases hp : 0 < i
    · obtain ⟨p, rfl⟩ : ∃ p, i = p + 1 := ⟨i - 1, by omega⟩
      have hio : p < a.length := by rw [Ha.out]; omega
      have hup : upA a (p + 1) = [-(a[p]?.getD 0)] := by unfold upA; rw [if_pos (by omega)]; rfl
      have hra := (RA _ hbz).out
      obtain ⟨bb, off, rfl, _, hc⟩ := hra.2 (by omega)
      have hc1 := hc p hio
      have hwf := get_wf La.out hio
      have Hup := Lib.hid hup
      clear hc hra hio hup RA RB RO
      generalize a[p]?.getD 0 = x at *
      have hyw : Wf (-x) := ⟨by omega, by omega⟩
      go_wp2_with (at_builtin; refine wpList_push rfl _ _ rfl W.heap.size _ _ rfl hz (-x) hyw rfl hfl hsz0 ?_)
      intro v' w' hrow' hb'
      have hbn := hbz.trans hb'
      go_wp2_with fail
      go_meet
      case rel => exact ⟨by rw [Hup.out]; exact hrow', hbn⟩
    · have hup : upA a i = [] := by unfold upA; rw [if_neg hp]
      have Hup := Lib.hid hup
      clear hup RA RB RO
      go_wp2_with fail
      go_meet
      case rel => exact ⟨by rw [Hup.out]; exact hz, hbz⟩
  case rest =>
    obtain ⟨hrow, hbw⟩ := hcut
    clear hz hbz hsz0 hfl
    rename World => w2
    have hsz0 := hbw.size
    have hrown := hrow
    rw [← List.append_nil (upA a i)] at hrown
    have hfl : (upA a i).length ≤ 1000000 := Nat.le_trans (up_le a i) (by omega)
    go_upto_if 32 with fail
    go_cut [14] from 16 (fun u wx => RowI wx W.heap.size u (upA a i ++ upA b k) ∧ Below W.heap.size W wx)
    case first =>
      by_cases hp : 0 < k
      · obtain ⟨p, rfl⟩ : ∃ p, k = p + 1 := ⟨k - 1, by omega⟩
        have hio : p < b.length := by rw [Hb.out]; omega
        have hup : upA b (p + 1) = [-(b[p]?.getD 0)] := by unfold upA; rw [if_pos (by omega)]; rfl
        have hra := (RB _ hbw).out
        obtain ⟨bb, off, rfl, _, hc⟩ := hra.2 (by omega)
        have hc1 := hc p hio
        have hwf := get_wf Lb.out hio
        have Hup := Lib.hid hup
        clear hc hra hio hup RA RB RO
        generalize b[p]?.getD 0 = x at *
        have hyw : Wf (-x) := ⟨by omega, by omega⟩
        go_wp2_with (at_builtin; refine wpList_push rfl _ _ rfl W.heap.size _ _ rfl hrow (-x) hyw rfl hfl hsz0 ?_)
        intro v' w' hrow' hb'
        have hbn := hbw.trans hb'
        go_wp2_with fail
        go_meet
        case rel => exact ⟨by rw [Hup.out]; exact hrow', hbn⟩
      · have hup : upA b k = [] := by unfold upA; rw [if_neg hp]
        have Hup := Lib.hid hup
        clear hup RA RB RO
        go_wp2_with fail
        go_meet
        case rel => exact ⟨by rw [Hup.out]; exact hrown, hbw⟩
    case rest =>
      clear hrow hbw hsz0 hrown hfl
      obtain ⟨hrow, hbw⟩ := hcut
      rename World => w3
      have hsz0 := hbw.size
      have hfl : (upA a i ++ upA b k).length ≤ 1000000 := by have := up_le a i; have := up_le b k; rw [List.length_append]; omega
      go_upto_region 7 with fail
      go_cut [49] from 16 (fun u wx => u = .bool (decide (0 < i + k ∧ i + k ≤ n3)) ∧ wx = w3)
      case first =>
        clear RA RB RO
        by_cases q1 : 0 < i + k
        · have d1 : decide ((0 : Int) < (i : Int) + (k : Int)) = true := decide_eq_true (by omega)
          have d1' : decide (0 < i + k) = true := decide_eq_true q1
          by_cases q2 : i + k ≤ n3
          · have d2 : decide ((i : Int) + (k : Int) ≤ (n3 : Int)) = true := decide_eq_true (by omega)
            have d2' : decide (i + k ≤ n3) = true := decide_eq_true q2
            have Hd := Lib.hid (decide_eq_true (show 0 < i + k ∧ i + k ≤ n3 from ⟨q1, q2⟩))
            go_wp2_with fail
            go_meet
            case rel => exact ⟨by rw [Hd.out], rfl⟩
          · have d2 : decide ((i : Int) + (k : Int) ≤ (n3 : Int)) = false := decide_eq_false (by omega)
            have d2' : decide (i + k ≤ n3) = false := decide_eq_false q2
            have Hd := Lib.hid (decide_eq_false (show ¬ (0 < i + k ∧ i + k ≤ n3) from fun h => q2 h.2))
            go_wp2_with fail
            go_meet
            case rel => exact ⟨by rw [Hd.out], rfl⟩
        · have d1 : decide ((0 : Int) < (i : Int) + (k : Int)) = false := decide_eq_false (by omega)
          have d1' : decide (0 < i + k) = false := decide_eq_false q1
          have Hd := Lib.hid (decide_eq_false (show ¬ (0 < i + k ∧ i + k ≤ n3) from fun h => q1 h.1))
          go_wp2_with fail
          go_meet
          case rel => exact ⟨by rw [Hd.out], rfl⟩
      case rest =>
        obtain ⟨rfl, rfl⟩ := hcut
        go_upto_if 49 with fail
        go_cut [] from 16 (fun wx => ∃ v', Two wx w.heap.size v' next ∧ Two wx (w.heap.size + 1) (.slice Option.none 0 0) 0 ∧ Cls wx base v' (cl ++ ups a b outs i k) ∧ Kr base w wx)
        case first =>
          by_cases hp : 0 < i + k ∧ i + k ≤ n3
          · obtain ⟨q, hq⟩ : ∃ q, i + k = q + 1 := ⟨i + k - 1, by omega⟩
            have hio : q < outs.length := by rw [Ho.out]; omega
            have hup : ups a b outs i k = [upA a i ++ (upA b k ++ [outs[q]?.getD 0])] := by unfold ups; rw [Ho.out, if_pos hp, show i + k - 1 = q by omega, List.append_assoc]
            have hra := (RO _ hbw).out
            obtain ⟨bb, off, rfl, _, hc⟩ := hra.2 (by omega)
            have hc1 := hc q hio
            have hwf := get_wf Lo.out hio
            have hqn : q < n3 := by omega
            have v1 : (i : Int) + (k : Int) - 1 = (q : Int) := by omega
            have d1 : decide (0 < i + k) = true := decide_eq_true hp.1
            have d2 : decide (i + k ≤ n3) = true := decide_eq_true hp.2
            have d3 : decide (0 < i + k ∧ i + k ≤ n3) = true := decide_eq_true hp
            have Hup := Lib.hid hup
            clear hc hra hio hup RA RB RO hq
            generalize outs[q]?.getD 0 = x at *
            have hyw : Wf x := ⟨by omega, by omega⟩
            go_wp2_with (at_builtin; refine wpList_push rfl _ _ rfl W.heap.size _ _ rfl hrow x hyw rfl hfl hsz0 ?_)
            intro v' w4 hrow' hb'
            have hbn := hbw.trans hb'
            have T04 := T0.below hbn (by have := HWs.out; omega)
            have T14 := T1.below hbn (by have := HWs.out; omega)
            have b04 := T04.c0
            have K4 := K0.trans (Kr.below hbn hWb)
            have S4 := S0.below hbn
            have hu := hrow'.base hWb
            obtain ⟨Au, cu, hAu, _, _, _⟩ := hrow'.shape
            obtain ⟨Ln, hLn⟩ : ∃ L, (upA a i ++ (upA b k ++ [x])).length = L := ⟨_, rfl⟩
            rw [hLn] at hAu
            subst hAu
            clear hLn
            have hs4 := hbn.size
            clear hbw hb' hrow hrow'
            go_wp2_with (at_builtin; refine push_row rfl _ _ rfl base v cl rfl S4 _ _ hu rfl (by omega) (by omega) ?_)
            intro v2 w5 S5 K5
            obtain ⟨B5, L5, k5, rfl⟩ := S5.sl
            have T05 := K5.two _ _ _ T04
            have T15 := K5.two _ _ _ T14
            have b05 := T05.c0
            have e05 := T05.fr 0
            go_wp2_with fail
            go_meet
            case rel => exact ⟨_, T05.set0 _, T15.other (by omega), by rw [Hup.out]; exact S5.store T05, (K4.trans K5).store T05 (Nat.le_refl _) hbase⟩
          · have hup : ups a b outs i k = [] := by unfold ups; rw [Ho.out, if_neg hp]
            have d3 : decide (0 < i + k ∧ i + k ≤ n3) = false := decide_eq_false hp
            have Hd3 := Lib.hid d3
            have Hup := Lib.hid hup
            clear hup RA RB RO d3
            rw [Hd3.out]
            go_wp2_with fail
            go_meet
            case rel => exact ⟨v, T0.below hbw (by have := HWs.out; omega), T1.below hbw (by have := HWs.out; omega), by rw [Hup.out, List.append_nil]; exact S0.below hbw, K0.trans (Kr.below hbw hWb)⟩
        case rest =>
          clear hrow hbw hsz0 hfl RA RB RO T0 T1 S0 K0
          obtain ⟨v2, T0, T1, S0, K0⟩ := hcut
          rename World => w4
          have hWb4 : base ≤ w4.heap.size := Nat.le_trans hbase K0.low.size
          have RA := fun wx (h : Below w4.heap.size w4 wx) => Lib.hid ((K0.row _ _ HA.out).below h).rd
          have RB := fun wx (h : Below w4.heap.size w4 wx) => Lib.hid ((K0.row _ _ HB.out).below h).rd
          have RO := fun wx (h : Below w4.heap.size w4 wx) => Lib.hid ((K0.row _ _ HO.out).below h).rd
          have hz := RowI.fresh w4.heap.size w4 (Nat.le_refl _)
          have hbz := (Below.refl w4.heap.size w4).alloc (Nat.le_refl _) (.cells #[] 3)
          go_upto_if 68 with fail
          obtain ⟨Wz4, hWz⟩ : ∃ X, X = w4.alloc (.cells #[] 3) := ⟨_, rfl⟩
          rw [← hWz] at hz hbz ⊢
          clear hWz
          have hsz0 := hbz.size
          have hfl : ([] : List Int).length ≤ 1000000 := by simp
          go_cut [15] from 16 (fun u wx => RowI wx w4.heap.size u (dnA a i) ∧ Below w4.heap.size w4 wx)
          case first =>
            by_cases hp : i < a.length
            · have hio : i < a.length := hp
              have hup : dnA a i = [a[i]?.getD 0] := by unfold dnA; rw [if_pos hp]
              have hra := (RA _ hbz).out
              obtain ⟨bb, off, rfl, _, hc⟩ := hra.2 (by omega)
              have hc1 := hc i hio
              have hwf := get_wf La.out hio
              rw [Ha.out] at hp
              have Hup := Lib.hid hup
              clear hc hra hio hup RA RB RO
              generalize a[i]?.getD 0 = x at *
              have hyw : Wf (x) := ⟨by omega, by omega⟩
              go_wp2_with (at_builtin; refine wpList_push rfl _ _ rfl w4.heap.size _ _ rfl hz (x) hyw rfl hfl hsz0 ?_)
              intro v' w' hrow' hb'
              have hbn := hbz.trans hb'
              go_wp2_with fail
              go_meet
              case rel => exact ⟨by rw [Hup.out]; exact hrow', hbn⟩
            · have hup : dnA a i = [] := by unfold dnA; rw [if_neg hp]
              rw [Ha.out] at hp
              have Hup := Lib.hid hup
              clear hup RA RB RO
              go_wp2_with fail
              go_meet
              case rel => exact ⟨by rw [Hup.out]; exact hz, hbz⟩
          case rest =>
            clear hz hbz hsz0 hfl
            obtain ⟨hrow, hbw⟩ := hcut
            rename World => w5
            have hsz0 := hbw.size
            have hrown := hrow
            rw [← List.append_nil (dnA a i)] at hrown
            have hfl : (dnA a i).length ≤ 1000000 := Nat.le_trans (dn_le a i) (by omega)
            go_upto_if 79 with fail
            go_cut [15] from 16 (fun u wx => RowI wx w4.heap.size u (dnA a i ++ dnA b k) ∧ Below w4.heap.size w4 wx)
            case first =>
              by_cases hp : k < b.length
              · have hio : k < b.length := hp
                have hup : dnA b k = [b[k]?.getD 0] := by unfold dnA; rw [if_pos hp]
                have hra := (RB _ hbw).out
                obtain ⟨bb, off, rfl, _, hc⟩ := hra.2 (by omega)
                have hc1 := hc k hio
                have hwf := get_wf Lb.out hio
                rw [Hb.out] at hp
                have Hup := Lib.hid hup
                clear hc hra hio hup RA RB RO
                generalize b[k]?.getD 0 = x at *
                have hyw : Wf (x) := ⟨by omega, by omega⟩
                go_wp2_with (at_builtin; refine wpList_push rfl _ _ rfl w4.heap.size _ _ rfl hrow (x) hyw rfl hfl hsz0 ?_)
                intro v' w' hrow' hb'
                have hbn := hbw.trans hb'
                go_wp2_with fail
                go_meet
                case rel => exact ⟨by rw [Hup.out]; exact hrow', hbn⟩
              · have hup : dnA b k = [] := by unfold dnA; rw [if_neg hp]
                rw [Hb.out] at hp
                have Hup := Lib.hid hup
                clear hup RA RB RO
                go_wp2_with fail
                go_meet
                case rel => exact ⟨by rw [Hup.out]; exact hrown, hbw⟩
            case rest =>
              clear hrow hbw hsz0 hrown hfl
              obtain ⟨hrow, hbw⟩ := hcut
              rename World => w6
              have hsz0 := hbw.size
              have hfl : (dnA a i ++ dnA b k).length ≤ 1000000 := by have := dn_le a i; have := dn_le b k; rw [List.length_append]; omega
              have hul : (cl ++ ups a b outs i k).length ≤ 1000000 := by have : (ups a b outs i k).length ≤ 1 := by (unfold ups; split <;> simp)
                                                                         rw [List.length_append]; omega
              go_upto_if 90 with fail
              go_cut [] from 16 (fun wx => ∃ v', Two wx w.heap.size v' next ∧ Two wx (w.heap.size + 1) (.slice Option.none 0 0) 0 ∧ Cls wx base v' (cl ++ ups a b outs i k ++ dns a b outs i k) ∧ Kr base w wx)
              case first =>
                by_cases hp : i + k < n3
                · have hio : i + k < outs.length := by rw [Ho.out]; omega
                  have hup : dns a b outs i k = [dnA a i ++ (dnA b k ++ [-(outs[i + k]?.getD 0)])] := by unfold dns; rw [Ho.out, if_pos hp, List.append_assoc]
                  have hra := (RO _ hbw).out
                  obtain ⟨bb, off, rfl, _, hc⟩ := hra.2 (by omega)
                  have hc1 := hc (i + k) hio
                  have hwf := get_wf Lo.out hio
                  have v1 : (i : Int) + (k : Int) = ((i + k : Nat) : Int) := by omega
                  have d1 : decide (i + k < n3) = true := decide_eq_true hp
                  have Hup := Lib.hid hup
                  clear hc hra hio hup RA RB RO v1
                  generalize outs[i + k]?.getD 0 = x at *
                  generalize ups a b outs i k = us at *
                  have hyw : Wf (-x) := ⟨by omega, by omega⟩
                  go_wp2_with (at_builtin; refine wpList_push rfl _ _ rfl w4.heap.size _ _ rfl hrow (-x) hyw rfl hfl hsz0 ?_)
                  intro v' w7 hrow' hb'
                  have hbn := hbw.trans hb'
                  have T04 := T0.below hbn T0.lt
                  have T14 := T1.below hbn T1.lt
                  have b04 := T04.c0
                  have K4 := K0.trans (Kr.below hbn hWb4)
                  have S4 := S0.below hbn
                  have hu := hrow'.base hWb4
                  obtain ⟨Au, cu, hAu, _, _, _⟩ := hrow'.shape
                  obtain ⟨Ln, hLn⟩ : ∃ L, (dnA a i ++ (dnA b k ++ [-x])).length = L := ⟨_, rfl⟩
                  rw [hLn] at hAu
                  subst hAu
                  clear hLn
                  have hs4 := hbn.size
                  clear hbw hb' hrow hrow'
                  go_wp2_with (at_builtin; refine push_row rfl _ _ rfl base v2 _ rfl S4 _ _ hu rfl hul (by omega) ?_)
                  intro v3 w8 S5 K5
                  obtain ⟨B5, L5, k5, rfl⟩ := S5.sl
                  have T05 := K5.two _ _ _ T04
                  have T15 := K5.two _ _ _ T14
                  have b05 := T05.c0
                  have e05 := T05.fr 0
                  go_wp2_with fail
                  go_meet
                  case rel => exact ⟨_, T05.set0 _, T15.other (by omega), by rw [Hup.out, List.append_assoc]; exact S5.store T05, (K4.trans K5).store T05 (Nat.le_refl _) hbase⟩
                · have hup : dns a b outs i k = [] := by unfold dns; rw [Ho.out, if_neg hp]
                  have d3 : decide (i + k < n3) = false := decide_eq_false hp
                  have Hup := Lib.hid hup
                  clear hup RA RB RO
                  go_wp2_with fail
                  go_meet
                  case rel => exact ⟨v2, T0.below hbw T0.lt, T1.below hbw T1.lt, by rw [Hup.out, List.append_nil]; exact S0.below hbw, K0.trans (Kr.below hbw hWb4)⟩
              case rest =>
                clear hrow hbw hsz0 hfl RA RB RO T0 T1 S0 K0
                obtain ⟨v3, T0, T1, S0, K0⟩ := hcut
                rename World => w7
                obtain ⟨B7, L7, k7, rfl⟩ := S0.sl
                have b0 := T0.c0
                have b1 := T0.c1
                have b2 := T1.c0
                have e2 := T1.fr 0
                have b3 := (T1.set0 (.slice B7 L7 k7)).c1
                have e3 := (T1.set0 (.slice B7 L7 k7)).fr 1
                go_wp2_with fail
                have T2 := (T1.set0 (.slice B7 L7 k7)).set1 next
                refine bodyPost_ret (v := .agg #[.slice B7 L7 k7, .int .i64 next]) (results32 _ _ (w.heap.size + 1) (.slice B7 L7 k7) next ?h1 T2) ?h2 ?h3
                case h1 => rfl
                case h2 => rfl
                case h3 => exact ⟨_, rfl, (S0.store T1).store (T1.set0 (.slice B7 L7 k7)), (K0.store T1 (by omega) (by omega)).store (T1.set0 (.slice B7 L7 k7)) (by omega) (by omega)⟩
end Go.Proofs.Ytppgpafnifmmfaa
