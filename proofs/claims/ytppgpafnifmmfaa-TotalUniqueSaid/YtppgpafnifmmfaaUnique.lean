/- For every slice of at most four integers, every limit, every first new variable up to 30 and every slice of bools, the law TotalUnique answers true at the landed code and changes nothing that came in: of all ways to fill the new variables exactly one makes the clauses hold, and there the outputs are the unary count. Conditions: those of the statement alone. -/
import Derived.Test.YtppgpafnifmmfaaUniqueM
namespace Go.Proofs.Ytppgpafnifmmfaa
open Go.ChangeShapes Go.WideShapes Go.ChangeAt Go.RowKit

set_option maxHeartbeats 4000000 in
theorem unique_out (A D : Option Addr) (n c m d : Nat) (most next : Int) (w : World) (h : 4 < n ∨ 30 < next) :
    Calls Try.prog 5 #[.slice A n c, .int .i64 most, .int .i64 next, .slice D m d] w fun e w' => e = .returned (.bool true) ∧ Below w.heap.size w w' := by
  by_cases h0 : 4 < n
  · clear h
    go_enter Try.func5, Try.ntmps5
    go_wp2_with fail
    refine (live_any w).mono ?_
    rintro e w1 ⟨rfl, hb1⟩
    go_wp2_with fail
    go_ret
    exact ⟨rfl, hb1⟩
  · have h2 : 30 < next := by omega
    clear h
    go_enter Try.func5, Try.ntmps5
    go_wp2_with fail
    refine (live_any w).mono ?_
    rintro e w1 ⟨rfl, hb1⟩
    go_wp2_with fail
    go_ret
    exact ⟨rfl, hb1⟩
set_option maxHeartbeats 4000000 in
theorem unique_err (A D : Option Addr) (n c m d : Nat) (most next k : Int) (zs : List Int) (w : World) (hr : RdI w.heap.size w A zs) (hn : n ≤ 4) (hx : next ≤ 30) (hk : k ≠ 0)
    (hT : ∀ W : World, RdI W.heap.size W A zs → Calls Try.prog 11 #[.slice A n c, .int .i64 most, .int .i64 next] W (TotErr W k)) :
    Calls Try.prog 5 #[.slice A n c, .int .i64 most, .int .i64 next, .slice D m d] w fun e w' => e = .returned (.bool true) ∧ Below w.heap.size w w' := by
  go_enter Try.func5, Try.ntmps5
  go_wp2_with fail
  refine (live_any w).mono ?_
  rintro e w1 ⟨rfl, hb1⟩
  go_wp2_with fail
  refine (hT w1 (hr.below hb1 (Nat.le_refl _) |>.more hb1.size)).mono ?_
  rintro e w2 ⟨rfl, hb2⟩
  have hb12 := hb1.trans (hb2.mono hb1.size)
  go_wp2_with fail
  go_ret
  exact ⟨rfl, hb12⟩

theorem shl_small {F T : Nat} (h : 2 ^ F = T) (hF : F ≤ 8) : wrap64 (2 ^ F) = (T : Int) := by
  have h1 : T ≤ 256 := by rw [← h]; exact Nat.pow_le_pow_right (n := 2) (by omega) hF
  have h2 : (2 : Int) ^ F = (T : Int) := by rw [← h]; exact (Int.natCast_pow 2 F).symm
  rw [h2]; unfold wrap64; omega
def wz (t0 t : Nat) : Nat := if t0 < t then 1 else 0
theorem wz_next (t0 t : Nat) : wz t0 (t + 1) = wz t0 t + if t = t0 then 1 else 0 := by
  unfold wz
  by_cases h : t = t0
  · rw [if_pos h, if_pos (by omega), if_neg (by omega)]
  · rw [if_neg h, Nat.add_zero]
    by_cases h2 : t0 < t
    · rw [if_pos h2, if_pos (by omega)]
    · rw [if_neg h2, if_neg (by omega)]
theorem wz_le (t0 t : Nat) : wz t0 t ≤ 1 := by unfold wz; split <;> omega
set_option maxRecDepth 30000 in
set_option maxHeartbeats 8000000 in
theorem unique_ok (A D : Option Addr) (n c m d N C f F : Nat) (most : Int) (zs outs : List Int) (cl : List (List Int)) (ab : List Bool) (t0 : Nat) (w : World) (hr : RdI w.heap.size w A zs) (hl : zs.length = n) (hn : n ≤ 4)
    (hD : RdB w.heap.size w D ab) (hm : ab.length = m) (hm2 : m ≤ maxLen) (hnx : f ≤ 30) (hF : F ≤ 8)
    (hT : ∀ W : World, RdI W.heap.size W A zs → Calls Try.prog 11 #[.slice A n c, .int .i64 most, .int .i64 (f : Int)] W (TotOk W outs cl (f + F)))
    (hN : outs.length = N) (hC : cl.length = C) (hN2 : N ≤ n) (hC2 : C ≤ maxLen)
    (hlz : ∀ x ∈ zs, Lit (f + F) x) (hlo : ∀ x ∈ outs, Lit (f + F) x) (hlc : ∀ x ∈ cl, ∀ y ∈ x, Lit (f + F) y)
    (ht0 : t0 < 2 ^ F) (hone : ∀ t, t < 2 ^ F → sat (setB (pad ab (f + F)) f t F) cl = decide (t = t0))
    (hcount : ∀ bs, sat bs cl = true → ∀ i, i < outs.length → tv bs (outs[i]?.getD 0) = decide ((i : Int) < (ct bs zs : Int))) :
    Calls Try.prog 5 #[.slice A n c, .int .i64 most, .int .i64 (f : Int), .slice D m d] w fun e w' => e = .returned (.bool true) ∧ Below w.heap.size w w' := by
  obtain ⟨a, ha⟩ : ∃ a, f + F = a := ⟨_, rfl⟩
  rw [ha] at hT hlz hlo hlc hone
  have Hl := Lib.hid (And.intro hl (And.intro hN hC))
  have Hcount := Lib.hid hcount
  have Hone := Lib.hid hone
  have Hlz := Lib.hid hlz
  have Hlo := Lib.hid hlo
  have Hlc := Lib.hid hlc
  have Hm := Lib.hid hm
  obtain ⟨T, hT2⟩ : ∃ T, 2 ^ F = T := ⟨_, rfl⟩
  rw [hT2] at ht0
  have HT2 := Lib.hid hT2
  have Hsh := Lib.hid (shl_small hT2 hF)
  have hTl : T ≤ 256 := by rw [← hT2]; exact Nat.pow_le_pow_right (n := 2) (by omega) hF
  clear hl hN hC hcount hlz hlo hlc hm hone hT2
  have hN3 : N ≤ 4 := by omega
  have hfr : (a : Int) - (f : Int) = (F : Int) := by omega
  have g1 : decide ((F : Int) < 0) = false := decide_eq_false (by omega)
  have g2 : decide ((8 : Int) < (F : Int)) = false := decide_eq_false (by omega)
  have hpl := pad_length ab a
  have Hpl := Lib.hid hpl
  have Hpad := fun W A (hr : RdB w.heap.size W A ab) hB c => Lib.hid (padded_any w.heap.size A m a c ab W hr hB Hm.out hm2 (by omega))
  clear hpl
  generalize pad ab a = bs at *
  go_enter Try.func5, Try.ntmps5
  go_wp2_with fail
  refine (live_any w).mono ?_
  rintro e w1 ⟨rfl, hb1⟩
  go_wp2_with fail
  refine (hT w1 (hr.below hb1 (Nat.le_refl _) |>.more hb1.size)).mono ?_
  intro e w2 q
  obtain ⟨A1, c1, A2, c2, rfl, r1, r2, hb2, hlen⟩ := q.read2
  clear q
  rw [Hl.out.2.1, Hl.out.2.2]
  have hb12 := hb1.trans (hb2.mono hb1.size)
  have hr := hr.below hb12 (Nat.le_refl _)
  have hD := hD.below hb12 (Nat.le_refl _)
  have Hlen := Lib.hid hlen
  have hP := Lib.hid ((Hpad w2 D hD hb12.size d).out)
  have hsz := hb12.size
  clear hb1 hb2 hlen hT Hpad hD
  have Ha := Lib.hid ha
  clear ha
  go_wp2_with fail
  refine hP.out.mono ?_
  rintro e w3 ⟨rfl, hrow, hb3⟩
  clear hP
  go_wp2_with fail
  go_loopw [15, 16] (fun wy b wr => ∃ t : Nat, ∃ cur : List Bool, t ≤ T ∧ b = .int .i64 t ∧ wy = .int .i64 (wz t0 t : Nat) ∧ (cur = bs ∨ ∃ t', cur = setB bs f t' F) ∧ RowB wr w2.heap.size w2.heap.size cur ∧ Below w2.heap.size w2 wr) (fun _ b _ => T - (intOf b).toNat)
  case atStart => exact ⟨0, bs, by omega, rfl, rfl, .inl rfl, hrow, hb3⟩
  case round =>
    obtain ⟨t, cur, ht, rfl, rfl, hcur, hrow, hb⟩ := hrel
    clear hb3
    by_cases hlt : t < T
    · have hset : setB cur f t F = setB bs f t F := by
        rcases hcur with rfl | ⟨t', rfl⟩
        · rfl
        · exact setB_again bs f t t' F (by rw [Hpl.out]; have := Ha.out; omega)
      have hcl : cur.length = a + 1 := by
        rcases hcur with rfl | ⟨t', rfl⟩
        · exact Hpl.out
        · rw [setB_length]; exact Hpl.out
      have Hset := Lib.hid hset
      have Hcl := Lib.hid hcl
      have Hwz := Lib.hid (wz_next t0 t)
      have hwzl := wz_le t0 t
      generalize wz t0 t = y at *
      clear hset hcl hcur
      have hsh := Hsh.out
      go_wp2_with fail
      clear hsh
      go_loopw [17] (fun i wr' => ∃ j : Nat, j ≤ F ∧ i = .int .i64 j ∧ RowB wr' w2.heap.size w2.heap.size (setB cur f t j) ∧ Below w2.heap.size w2 wr') (fun i _ => F - (intOf i).toNat)
      case atStart => exact ⟨0, by omega, rfl, hrow, hb⟩
      case round =>
        clear hrow hb
        obtain ⟨j, hj, rfl, hrow, hb⟩ := hrel
        by_cases hjt : j < F
        · have hjp : f + j < (setB cur f t j).length := by rw [setB_length, Hcl.out]; have := Ha.out; omega
          have hc2 := hrow.cell hjp
          have hf2 := hrow.frozen (f + j)
          have hnew : RowB (wr.setCell ⟨w2.heap.size, f + j, none⟩ (.bool (t.testBit j))) w2.heap.size w2.heap.size (setB cur f t (j + 1)) := hrow.set (f + j) (t.testBit j)
          have hbn := hb.setCell (p := ⟨w2.heap.size, f + j, none⟩) (Nat.le_refl _) (.bool (t.testBit j))
          have Hnew := Lib.hid (And.intro hnew hbn)
          have hbit := bit_of t j (by omega)
          have hfa : f + j < a + 1 := by have := Ha.out; omega
          clear hnew hbn hrow hb hjp
          generalize (setB cur f t j)[f + j]?.getD false = x at *
          generalize t.testBit j = z at *
          go_wp2
          go_roundw
          case rel => exact ⟨j + 1, by omega, by go_num, Hnew.out.1, Hnew.out.2⟩
          case measure => simp [intOf]; omega
        · obtain rfl : j = F := by omega
          rw [Hset.out] at hrow
          have hcl : (setB bs f t j).length = a + 1 := by rw [setB_length, Hpl.out]
          have hone := Hone.out t (by rw [HT2.out]; exact hlt)
          have Hcl := Lib.hid hcl
          have Hcu : Hid (∃ t', setB bs f t j = setB bs f t' j) := ⟨t, rfl⟩
          have Hc := Lib.hid (Hcount.out (setB bs f t j))
          clear hcl Hset
          generalize setB bs f t j = cu at *
          have hrd := hrow.rd
          have hsz2 := hb.size
          have hS := Lib.hid (sat_any wr.heap.size w2.heap.size (some ⟨w2.heap.size, 0, none⟩) A2 a C c2 (a + 1) (a + 1) cl cu wr (r2.below hb (Nat.le_refl _)) hsz2 Hl.out.2.2 hC2 Hlen.out hrd (Nat.le_refl _) Hcl.out Hlc.out (by omega) (by omega) (by omega))
          have hwn := Hwz.out
          by_cases hq : t = t0
          · rw [decide_eq_true hq] at hone
            rw [hone] at hS
            rw [if_pos hq] at hwn
            have Hwn := Lib.hid hwn
            have Hc := Lib.hid (Hc.out hone)
            clear hwn hone hq Hwz
            go_wp2_with fail
            refine hS.out.mono ?_
            rintro e w4 ⟨rfl, hb4⟩
            have hb24 := hb.trans (hb4.mono hsz2)
            have hrow := hrow.below hb4
            have hrd := hrd.below hb4 (Nat.le_refl _)
            have hM := Lib.hid (many_any wr.heap.size w.heap.size (some ⟨w2.heap.size, 0, none⟩) A a n c (a + 1) (a + 1) zs cu w4 ((hr.below (hb24.mono hsz) (Nat.le_refl _))) Hl.out.1 (by omega) hrd Hcl.out Hlz.out (by omega) (by omega))
            have r1 := r1.below hb24 (Nat.le_refl _)
            clear hS hb4 hb hr
            go_wp2_with fail
            refine hM.out.mono ?_
            rintro e w5 ⟨rfl, rfl⟩
            generalize ct cu zs = K at *
            clear hM
            go_wp2_with fail
            go_loopw [19] (fun i wr' => ∃ p : Nat, p ≤ N ∧ i = .int .i64 p ∧ w4 = wr') (fun i _ => N - (intOf i).toNat)
            case atStart => exact ⟨0, by omega, rfl, rfl⟩
            case round =>
              obtain ⟨p, hp, rfl, rfl⟩ := hrel
              by_cases hpt : p < N
              · have hjo : p < outs.length := by rw [Hl.out.2.1]; exact hpt
                have hmem : outs[p]?.getD 0 ∈ outs := by rw [List.getElem?_eq_getElem hjo]; exact List.getElem_mem _
                obtain ⟨b, off, rfl, _, hc⟩ := r1.2 (by omega)
                have hc1 := hc p hjo
                have hx := Hc.out p hjo
                have hL := lit_any wr.heap.size (some ⟨w2.heap.size, 0, none⟩) a (a + 1) (a + 1) cu (outs[p]?.getD 0) w4 hrd Hcl.out (Hlo.out _ hmem) (by omega) (by omega)
                rw [hx] at hL
                have HL := Lib.hid hL
                have hz0 : decide (p < K) = decide ((p : Int) < (K : Int)) := by
                  by_cases q : p < K
                  · rw [decide_eq_true q, decide_eq_true (by omega)]
                  · rw [decide_eq_false q, decide_eq_false (by omega)]
                clear hc r1 hrd hL hmem hjo hx
                generalize outs[p]?.getD 0 = x at *
                generalize decide ((p : Int) < (K : Int)) = z at *
                go_wp2_with fail
                refine HL.out.mono ?_
                rintro e w' ⟨rfl, rfl⟩
                go_wp2_with fail
                go_roundw
                case rel => exact ⟨p + 1, by omega, by go_num, trivial⟩
                case measure => simp [intOf]; omega
              · obtain rfl : p = N := by omega
                go_wp2_with fail
                go_roundw
                case rel => exact ⟨t + 1, cu, by omega, by go_num, by rw [Hwn.out]; go_num, .inr Hcu.out, hrow, hb24⟩
                case measure => simp [intOf]; omega
          · rw [decide_eq_false hq] at hone
            rw [hone] at hS
            rw [if_neg hq] at hwn
            have Hwn := Lib.hid hwn
            clear hwn hone hq Hwz
            go_wp2_with fail
            refine hS.out.mono ?_
            rintro e w4 ⟨rfl, hb4⟩
            have hb24 := hb.trans (hb4.mono hsz2)
            have hrow := hrow.below hb4
            go_wp2_with fail
            go_roundw
            case rel => exact ⟨t + 1, cu, by omega, by go_num, by rw [Hwn.out]; rfl, .inr Hcu.out, hrow, hb24⟩
            case measure => simp [intOf]; omega
    · obtain rfl : t = T := by omega
      have hy : wz t0 t = 1 := by unfold wz; rw [if_pos ht0]
      rw [hy]
      have Hb := Lib.hid (hb12.trans (hb.mono hsz))
      have hsh := Hsh.out
      go_wp2_with fail
      go_ret
      exact ⟨rfl, Hb.out⟩

theorem unique_any (A D : Option Addr) (n c m d : Nat) (most next : Int) (zs : List Int) (ab : List Bool) (w : World) (hr : RdI w.heap.size w A zs) (hl : zs.length = n) (hnc : n ≤ c) (hc : c ≤ maxLen) (hD : RdB w.heap.size w D ab) (hm : ab.length = m) (hm2 : m ≤ maxLen) :
    Calls Try.prog 5 #[.slice A n c, .int .i64 most, .int .i64 next, .slice D m d] w fun e w' => e = .returned (.bool true) ∧ Below w.heap.size w w' := by
  by_cases h : 4 < n ∨ 30 < next
  · exact unique_out A D n c m d most next w h
  · have hn : n ≤ 4 := by omega
    rcases Total_ways A n c most next zs hl (by omega) with ⟨k, hk, hT⟩ | ⟨M, f, rfl, rfl, h1, h2, hM, hd, hz, hs⟩
    · exact unique_err A D n c m d most next k zs w hr hn (by omega) hk hT
    · have hlit := dist_lit zs [] hd
      obtain ⟨g1, g2⟩ := cnt_good (most := M) h1 n zs f (by omega) (Nat.le_refl _) hlit
      rw [hl] at g1 g2
      have hF : Tot.size M n ≤ 8 := size_four M n hn
      have hou := cnt_length (most := M) zs f
      rw [hl] at hou
      have hcl := cnt_clauses40 (most := M) n zs f (by omega) (by omega)
      have hC : (Tot.cnt M zs f).2.length ≤ maxLen := by
        have := Nat.mul_le_mul (Nat.le_refl 882) (show zs.length - 1 ≤ 3 by omega)
        unfold maxLen
        omega
      have hM1 : 1 ≤ M ∨ Tot.size M n = 0 := by
        by_cases q : M = 0
        · subst q; exact .inr (size_zero n n (Nat.le_refl _))
        · exact .inl (by omega)
      obtain ⟨t0, ht0, hone⟩ := one_way (M := M) (f := f) (F := Tot.size M n) (zs := zs) (bs := pad ab (f + Tot.size M n)) h1 hM1 hlit (by rw [hl]) (by rw [pad_length]; omega)
      exact unique_ok A D n c m d _ _ f (Tot.size M n) _ zs _ _ ab t0 w hr hl hn hD hm hm2 (by omega) hF
        (fun W hW => Total_ok A n c M f zs W hW hl hnc hc (by omega) h1 h2 hM hz hd hs) rfl rfl (by omega) hC
        (fun x hx => (hlit x hx).mono (by omega)) g1 (fun x hx => (g2 x hx).2.2) ht0 hone (fun bs hsat i hi => outs_count h1 (lit_nz hlit) hsat hi)

set_option maxRecDepth 100000 in
theorem totalUnique_lifted (os : Os) (started : os.Started) (H : Type) (enc : TypeId × Value → H) :
    ReturnsInHanded {} Try.checked os 5 .any (Rows.totalUniqueSpec.pre6 enc Try.prog Try.f5 Rows.totalUniqueRow.domain false) (Rows.totalUniqueSpec.post enc Try.prog Try.f5 false true false false) := by
  refine returnsInHanded_of_change (C := Try.checked) Try_own started (by kernel_rfl) Try.func5
    (ChangeSpec.witness6 (enc := enc) (C := Try.checked) false ⟨#[], #[.slice Option.none 0 0, .int .i64 0, .int .i64 0, .slice Option.none 0 0], []⟩ 5 (by kernel_rfl) (by kernel_rfl) (by kernel_rfl) (by kernel_rfl)) ?_
  intro W base args ds gs before hval0 hW _ _
  have hval : ∀ (j : Nat) t v, Try.f5.params[j]? = some t → args[j]? = some v → Value.okWide Try.prog W .any base t v := hval0
  have hW' := hW
  obtain ⟨p, q, hA0, hV, rfl, _, _⟩ := hW
  have hA : DataW.TrodAll enc Try.prog W 0 (fun _ => true) true Try.f5.params.toList args.toList ds p := hA0
  have hpar : Try.f5.params = #[22, 3, 3, 31] := rfl
  rw [hpar] at hA hval
  have hlt : ∀ x ∈ p, x.block < W.heap.size := fun x hx => hW'.lt x (List.mem_append_left _ hx)
  obtain ⟨rfl, rfl⟩ := trodVars_none hV
  clear hA0 hval0
  obtain ⟨v0, vs0, d0, ds0, p0, q0, hargs0, rfl, rfl, h0, r0⟩ := trodAll_cons hA
  obtain ⟨v1, vs1, d1, ds1, p1, q1, hargs1, rfl, rfl, h1, r1⟩ := trodAll_cons r0
  obtain ⟨v2, vs2, d2, ds2, p2, q2, hargs2, rfl, rfl, h2, r2⟩ := trodAll_cons r1
  obtain ⟨v3, vs3, d3, ds3, p3, q3, hargs3, rfl, rfl, h3, r3⟩ := trodAll_cons r2
  obtain ⟨hlast, rfl, rfl⟩ := trodAll_nil r3
  obtain rfl : args = #[v0, v1, v2, v3] := by
    apply Array.toList_inj.1
    rw [hargs0, hargs1, hargs2, hargs3, hlast]
  obtain ⟨A0, n0, cap0, zs0, rfl, hr0, hl0, hlc0, hm0, _⟩ := open_intlist (hval 0 22 v0 rfl rfl) h0 (fun x hx => hlt x (List.mem_append_left _ hx))
  obtain ⟨n1, rfl, rfl, rfl, wf1⟩ := open_int underlying3' (hval 1 3 v1 rfl rfl) h1
  obtain ⟨n2, rfl, rfl, rfl, wf2⟩ := open_int underlying3' (hval 2 3 v2 rfl rfl) h2
  obtain ⟨A3, n3, cap3, bs3, rfl, hr3, hl3, hlc3, hm3⟩ := open_boollist (hval 3 31 v3 rfl rfl) h3 (fun x hx => hlt x (List.mem_append_right _ (List.mem_append_right _ (List.mem_append_right _ (List.mem_append_left _ hx)))))
  refine (unique_any A0 A3 n0 cap0 n3 cap3 n1 n2 zs0 bs3 W hr0 hl0 hlc0 hm0 hr3 hl3 (Nat.le_trans hlc3 hm3)).mono fun e W' ⟨he, hb⟩ => ?_
  subst he
  exact ⟨_, rfl, law_post Try_laidOut hW' rfl (by rw [hpar]; decide +kernel) 4 rfl Try.underlying4 rfl hb⟩

theorem totalUnique_holds : Rows.TotalUniqueSaid :=
  OpenClaim.holds_of_wide 5 Try.f5 rfl rfl rfl rfl rfl rfl rfl ⟨rfl, rfl, rfl, rfl, rfl⟩ rfl rfl rfl rfl rfl (by kernel_rfl) Try.func5 (by kernel_rfl)
    (of_decide_eq_true (by kernel_rfl)) (by unfold Func.isWrapper; first | (rw [if_pos (by decide +kernel)]; kernel_rfl) | (rw [if_neg (by decide +kernel)]; exact ⟨rfl, rfl⟩))
    (fun os started H enc _ => totalUnique_lifted os started H enc)
end Go.Proofs.Ytppgpafnifmmfaa
