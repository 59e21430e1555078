/- The walk of adder. -/
import Derived.Test.YtpeklcbjhkchlaaAdderM
namespace Go.Proofs.Ytpeklcbjhkchlaa
open Go.RowKit Go.Maps
set_option maxRecDepth 30000

theorem Ke.set (s base : Nat) (w : World) (j : Nat) (v : Value) : Ke s base w (w.setCell ⟨s, j, none⟩ v) :=
  ⟨fun lo h1 _ => (Below.refl lo w).setCell (p := ⟨s, j, none⟩) h1 v, fun b _ _ _ h2 h3 => (heap_setCell_other w ⟨s, j, none⟩ b v h2).trans h3⟩
/-- What adder leaves. -/
def Addered (gv : Value) (w : World) (s gm base n : Nat) (Q : Nat → List Int) (top : Int) (cl : List (List Int)) (next p : Nat) (ins : List Int) (w' : World) : Prop :=
  ∃ val', val' 1000001 = gv ∧ SmC w' s gm base (n + 2) val' (updQ (updQ Q p (Q p ++ [(next : Int)])) (p + 1) (Q (p + 1) ++ [((next + 1 : Nat) : Int)])) (max (max top (p : Int)) ((p + 1 : Nat) : Int)) (cl ++ adC ins next) (next + 2) ∧ (∀ lo, lo ≤ s → lo ≤ gm → lo ≤ base → Below lo w w') ∧ w.heap.size ≤ w'.heap.size

set_option maxRecDepth 400000 in
set_option maxHeartbeats 16000000 in
theorem adder2_any (s gm base n p B gi o c m : Nat) (hm : m = 2) (val : Nat → Value) (Q : Nat → List Int) (top : Int) (cl : List (List Int)) (next : Nat) (x y : Int) (w : World) (gv : Value) (hgv : val 1000001 = gv) (S : SmC w s gm base n val Q top cl next) (hr : RdI B w (some ⟨gi, o, none⟩) [x, y]) (hgi : gi ≠ s ∧ ∃ cs, w.heap[gi]? = some (.cells cs 3 (0, 0))) (hB : B ≤ w.heap.size) (hwx : -65537 ≤ x ∧ x ≤ 65537) (hwy : -65537 ≤ y ∧ y ≤ 65537)
    (hn : n ≤ 900000) (hp : p ≤ 90000) (hlen1 : (Q p).length ≤ 900000) (hlen2 : (Q (p + 1)).length ≤ 900000) (hbase : base ≤ w.heap.size) (ht : -1 ≤ top ∧ top ≤ 90000) (hnx : next ≤ 65536) (hnx1 : 1 ≤ next) (hcl : cl.length ≤ 900000) :
    Calls Try.prog 55 #[.pointer (some ⟨s, 0, none⟩), .int .i64 (p : Int), .slice (some ⟨gi, o, none⟩) m c] w fun e w' => e = .returned (.tuple #[]) ∧ Addered gv w s gm base n Q top cl next p [x, y] w' := by
  obtain ⟨cv0, vs0, S⟩ := S
  have Hgv := Lib.hid hgv
  clear hgv
  have hsl := S.lt
  have hsb := S.sb
  have hgb := S.gb
  have hal := (Below.refl w.heap.size w).alloc (Nat.le_refl _) (.cells #[.pointer (some ⟨s, 0, none⟩)] 54)
  obtain ⟨W1, hW1⟩ : ∃ W, W = (w.alloc (.cells #[.pointer (some ⟨s, 0, none⟩)] 54)) := ⟨_, rfl⟩
  have hbx1 : Boxed W1 w.heap.size 54 (.pointer (some ⟨s, 0, none⟩)) := by rw [hW1]; exact Boxed.new w 54 _
  rw [← hW1] at hal
  have S1 := S.below hal
  have K1 : Ke s base w W1 := Ke.below hal hbase
  have hr1 := hr.below hal hB
  have hgi1 : ∃ cs, W1.heap[gi]? = some (.cells cs 3 (0, 0)) := by
    obtain ⟨h1, cs, h2⟩ := hgi
    exact ⟨cs, K1.keep gi cs 3 (by decide) h1 h2⟩
  have hbase1 : base ≤ W1.heap.size := by have := hal.size; omega
  have hbxne : w.heap.size ≠ s := by omega
  have hsz1 : W1.heap.size = w.heap.size + 1 := by rw [hW1]; simp
  clear S hr
  have Hm := Lib.hid hm
  obtain ⟨N', hN'⟩ : ∃ N' : Nat, N' = 4 := ⟨_, rfl⟩
  have HN := Lib.hid hN'
  have hsh : wrap64 (2 ^ m) = (N' : Int) := by rw [hm, hN', show (2 : Int) ^ 2 = 4 by decide]; unfold wrap64; decide
  have hm9 : m ≤ 3 := by omega
  have hN9 : N' ≤ 8 := by omega
  clear hm hN'
  go_enter Try.func55, Try.ntmps55
  go_wp2_with fail
  rw [← hW1]
  clear hW1
  obtain ⟨c0, c1, c2, c3⟩ := S1.cell
  have cb := hbx1.cell
  go_quiet (fail)
  have hdr : Below W1.heap.size W1 (W1.drewN nq) := below_drewN (Below.refl _ _) nq
  have S2 := S1.below hdr
  have K2 := K1.trans (Ke.below hdr hbase1)
  have hbx2 : Boxed (W1.drewN nq) w.heap.size 54 (.pointer (some ⟨s, 0, none⟩)) := hbx1
  have hr2 := hr1.below hdr (by omega)
  have hbase2 : base ≤ (W1.drewN nq).heap.size := hbase1
  have hsz2 : (W1.drewN nq).heap.size = w.heap.size + 1 := hsz1
  obtain ⟨csg, hcsg⟩ := hgi1
  have hgi2 : (W1.drewN nq).heap[gi]? = some (.cells csg 3 (0, 0)) := hcsg
  clear S1 K1 hbx1 hr1 hbase1 hsz1 hcsg hdr c0 c1 c2 c3 cb hal
  generalize W1.drewN nq = W2 at *
  have hn2 : ((next + 2 : Nat) : Int) = (next : Int) + 2 := by omega
  have S3 : Sm (W2.setCell ⟨s, 3, none⟩ (.int .i64 ((next : Int) + 2))) s gm base n val Q top cv0 vs0 cl (next + 2) := by
    have := (S2.set_next (next + 2)).1
    rwa [hn2] at this
  have hc3 := S2.cell.2.2.2
  have hf3 := S2.frozen 3
  have hcb2 := hbx2.cell
  have K3 := K2.trans (Ke.set s base W2 3 (.int .i64 ((next : Int) + 2)))
  have hbx3 : Boxed (W2.setCell ⟨s, 3, none⟩ (.int .i64 ((next : Int) + 2))) w.heap.size 54 (.pointer (some ⟨s, 0, none⟩)) := Boxed.keep (Ke.set s base W2 3 _) hbx2 (by decide) hbxne
  have hr3 : RdI B (W2.setCell ⟨s, 3, none⟩ (.int .i64 ((next : Int) + 2))) (some ⟨gi, o, none⟩) [x, y] := (Ke.set s base W2 3 _).rd (fun g' o' e => by injection e with e; injection e with e _ _; subst e; exact ⟨hgi.1, csg, hgi2⟩) hr2
  have hgi3 : (W2.setCell ⟨s, 3, none⟩ (.int .i64 ((next : Int) + 2))).heap[gi]? = some (.cells csg 3 (0, 0)) := (Ke.set s base W2 3 _).keep gi csg 3 (by decide) hgi.1 hgi2
  have hsz3 : (W2.setCell ⟨s, 3, none⟩ (.int .i64 ((next : Int) + 2))).heap.size = w.heap.size + 1 := by rw [← hsz2]; simp [World.setCell]
  go_wp2_with fail
  simp only [hsh]
  clear hsh
  generalize W2.setCell ⟨s, 3, none⟩ (.int .i64 ((next : Int) + 2)) = W3 at *
  have S3' : SmC W3 s gm base n val Q top cl (next + 2) := ⟨_, _, S3⟩
  clear S2 K2 hbx2 hr2 hgi2 hbase2 hsz2 hc3 hf3 hcb2 S3 hn2
  have hinsl : [x, y].length = m := by rw [Hm.out]; rfl
  have hwfi : ∀ q ∈ [x, y], -65537 ≤ q ∧ q ≤ 65537 := by
    intro q hq
    simp only [List.mem_cons, List.not_mem_nil, or_false] at hq
    rcases hq with rfl | rfl
    · exact hwx
    · exact hwy
  obtain ⟨ins, hins⟩ : ∃ ins, [x, y] = ins := ⟨_, rfl⟩
  rw [hins] at hr3 hinsl hwfi
  have Hins := Lib.hid hins
  clear hins
  go_loopw [36] (fun vi wr => ∃ k : Nat, k ≤ N' ∧ vi = .int .i64 (k : Int) ∧ SmC wr s gm base n val Q top (cl ++ adRows ins next k) (next + 2) ∧ Ke s base W3 wr) (fun vi _ => N' - (intOf vi).toNat)
  case atStart => exact ⟨0, by omega, rfl, by simpa [adRows] using S3', Ke.refl _ _ _⟩
  case round =>
    obtain ⟨k, hk, rfl, S4, K4⟩ := hrel
    obtain ⟨W4, rfl⟩ : ∃ W4, W4 = wr := ⟨_, rfl⟩
    have hr4 := K4.rd (fun g' o' e => by injection e with e; injection e with e _ _; subst e; exact ⟨hgi.1, csg, hgi3⟩) hr3
    have hbx4 := Boxed.keep K4 hbx3 (by decide) hbxne
    have hsz4 := K4.size
    have hB4 : B ≤ W4.heap.size := by omega
    have hbase4 : base ≤ W4.heap.size := by omega
    by_cases hlt : k < N'
    · have hC := Clone_any B (some ⟨gi, o, none⟩) m c ins W4 hr4 hB4 hinsl (by have := Hm.out; omega) (by omega)
      go_wp2_with fail
      refine hC.mono ?_
      rintro e w5 ⟨v5, rfl, row5, low5⟩
      obtain ⟨g5, c5, hv5, hg5, hg5l, _, _, _⟩ := row5.addr (by rw [hinsl]; have := Hm.out; omega)
      rw [hinsl] at hv5
      subst hv5
      clear hC
      go_wp2_with fail
      go_loopw [11, 43] (fun vo vi wr2 => ∃ i : Nat, i ≤ m ∧ vi = .int .i64 (i : Int) ∧ vo = .int .i64 (od k i) ∧ RowI wr2 W4.heap.size (.slice (some ⟨g5, 0, none⟩) m c5) (fl ins k i) ∧ Below W4.heap.size W4 wr2) (fun _ vi _ => m - (intOf vi).toNat)
      case atStart => exact ⟨0, by omega, rfl, rfl, row5, low5⟩
      case round =>
        obtain ⟨i, hi, rfl, rfl, row6, low6⟩ := hrel
        clear row5 low5
        have hflen := fl_len ins k i
        rw [hinsl] at hflen
        by_cases hit : i < m
        · have hset := Lib.hid (fun W => set_any k i W (by have := HN.out; omega) (by omega))
          have Hflen := Lib.hid hflen
          have hr6 := hr4.below low6 hB4
          obtain ⟨_, _, e6, _, hc6⟩ := hr6.2 (by rw [hinsl]; omega)
          injection e6 with e6
          injection e6 with e6 e7 _
          subst e6; subst e7
          have hcy := hc6 i (by rw [hinsl]; exact hit)
          have hwy := hwfi (ins[i]?.getD 0) (by rw [List.getElem?_eq_getElem (by rw [hinsl]; exact hit)]; exact List.getElem_mem _)
          obtain ⟨_, _, e8, _, _, _, hcell6, hfz6⟩ := row6.addr (by rw [hflen]; omega)
          injection e8 with e8 e9 e10
          injection e8 with e8
          injection e8 with e8 e11 e12
          clear e9 e10 e11 e12
          subst e8
          have hcf := hcell6 i (by rw [hflen]; exact hit)
          have hff := hfz6 i
          have hstep : fl ins k (i + 1) = if k.testBit i then (fl ins k i).set i (-(ins[i]?.getD 0)) else fl ins k i := rfl
          have hods : od k (i + 1) = if k.testBit i then -(od k i) else od k i := rfl
          have hosg := od_sign k i
          have rowS := row6.set i (z := -(ins[i]?.getD 0)) ⟨by omega, by omega⟩
          have lowS := low6.setCell (p := ⟨g5, i, none⟩) hg5 (.int .i64 (-(ins[i]?.getD 0)))
          have HS := Lib.hid (And.intro rowS lowS)
          clear hflen
          have Hst := Lib.hid (And.intro hstep hods)
          have H6 := Lib.hid (And.intro row6 low6)
          clear rowS lowS hstep hods hc6 hcell6 hfz6 hr6 row6 low6
          generalize (fl ins k i)[i]?.getD 0 = fi at *
          generalize hye : ins[i]?.getD 0 = y' at *
          have Hye := Lib.hid hye
          clear hye
          generalize od k i = od0 at *
          have hob : -1 ≤ od0 ∧ od0 ≤ 1 := by omega
          obtain ⟨hob1, hob2⟩ := hob
          obtain ⟨hwy1, hwy2⟩ := hwy
          cases hb : k.testBit i with
          | true =>
            rw [hb] at Hst hset
            obtain ⟨hs1, hs2⟩ := Hst.out
            have hs1' : fl ins k (i + 1) = (fl ins k i).set i (-y') := by rw [hs1]; first | rfl | simp
            have hs2' : od k (i + 1) = -od0 := by rw [hs2]; first | rfl | simp
            have HsA := Lib.hid (And.intro hs1' hs2')
            clear hs1' hs2'
            clear hb hosg hs1 hs2 Hst
            go_wp2_with fail
            refine (hset.out _).mono ?_
            rintro e w' ⟨rfl, rfl⟩
            dsimp only
            clear hset
            go_wp2_with fail
            go_roundw
            case rel =>
              first
              | exact ⟨i + 1, by omega, by go_num, by rw [HsA.out.2], by rw [HsA.out.1]; exact HS.out.1, HS.out.2⟩
              | (refine ⟨_, _, _, _, _, _, _, _, _, _, _, _, _, _, _, _, _, _, _, ?relx, rfl⟩
                 exact ⟨i + 1, by omega, by go_num, by rw [HsA.out.2], by rw [HsA.out.1]; exact HS.out.1, HS.out.2⟩)
            case measure => simp [intOf]; omega
          | false =>
            rw [hb] at Hst hset
            obtain ⟨hs1, hs2⟩ := Hst.out
            have hs1' : fl ins k (i + 1) = fl ins k i := by rw [hs1]; first | rfl | simp
            have hs2' : od k (i + 1) = od0 := by rw [hs2]; first | rfl | simp
            have HsA := Lib.hid (And.intro hs1' hs2')
            clear hs1' hs2'
            clear hb hosg hs1 hs2 Hst
            go_wp2_with fail
            refine (hset.out _).mono ?_
            rintro e w' ⟨rfl, rfl⟩
            dsimp only
            clear hset
            go_wp2_with fail
            go_roundw
            case rel =>
              first
              | exact ⟨i + 1, by omega, by go_num, by rw [HsA.out.2], by rw [HsA.out.1]; exact H6.out.1, H6.out.2⟩
              | (refine ⟨_, _, _, _, _, _, _, _, _, _, _, _, _, _, _, _, _, _, _, ?relx, rfl⟩
                 exact ⟨i + 1, by omega, by go_num, by rw [HsA.out.2], by rw [HsA.out.1]; exact H6.out.1, H6.out.2⟩)
            case measure => simp [intOf]; omega
        · have him : i = m := by omega
          rw [him] at row6
          rw [him]
          have hflen : (fl ins k m).length = m := by rw [fl_len]; exact hinsl
          obtain ⟨cv4, vs4, S4⟩ := S4
          have S5 : SmC wr s gm base n val Q top (cl ++ adRows ins next k) (next + 2) := ⟨_, _, S4.below low6⟩
          have hbx5 := Boxed.lower hbx4 low6 (Boxed.lt hbx4)
          have rd6 := row6.rd
          have hsz6 := low6.size
          have hbase5 : base ≤ wr.heap.size := by omega
          have hcl5 : (cl ++ adRows ins next k).length ≤ 1000000 := by rw [List.length_append, adRows_len]; have := HN.out; omega
          have K35 := K4.trans (Ke.below low6 hbase4)
          rcases od_sign k m with ho | ho
          · have hout : od k m * (next : Int) = (next : Int) := by rw [ho]; omega
            rw [ho]
            have hE := emit_any s gm base n w.heap.size wr.heap.size val Q top ((next : Int)) (cl ++ adRows ins next k) (next + 2) _ m c5 (fl ins k m) wr S5 hbx5 rd6 (Nat.le_refl _) hflen (by have := Hm.out; omega) (by omega) ⟨by omega, by omega⟩ hcl5 hbase5
            go_wp2_with fail
            refine hE.mono ?_
            rintro e w7 ⟨rfl, S7, K7⟩
            have K37 := K35.trans K7
            have S8 : SmC w7 s gm base n val Q top (cl ++ adRows ins next (k + 1)) (next + 2) := by
              rw [adRows, hinsl, hout, ← List.append_assoc]; exact S7
            clear hE S7 K7 rd6 S5 hbx5 low6 row6
            go_wp2_with fail
            go_roundw
            case rel => exact ⟨k + 1, by omega, by go_num, S8, K37⟩
            case measure => simp [intOf]; omega
          · have hout : od k m * (next : Int) = -(next : Int) := by rw [ho]; omega
            rw [ho]
            have hE := emit_any s gm base n w.heap.size wr.heap.size val Q top (-(next : Int)) (cl ++ adRows ins next k) (next + 2) _ m c5 (fl ins k m) wr S5 hbx5 rd6 (Nat.le_refl _) hflen (by have := Hm.out; omega) (by omega) ⟨by omega, by omega⟩ hcl5 hbase5
            go_wp2_with fail
            refine hE.mono ?_
            rintro e w7 ⟨rfl, S7, K7⟩
            have K37 := K35.trans K7
            have S8 : SmC w7 s gm base n val Q top (cl ++ adRows ins next (k + 1)) (next + 2) := by
              rw [adRows, hinsl, hout, ← List.append_assoc]; exact S7
            clear hE S7 K7 rd6 S5 hbx5 low6 row6
            go_wp2_with fail
            go_roundw
            case rel => exact ⟨k + 1, by omega, by go_num, S8, K37⟩
            case measure => simp [intOf]; omega
    · obtain rfl : k = N' := by omega
      have hk4 : k = 4 := HN.out
      rw [hk4] at S4
      have q0 : 0 < m := by have := Hm.out; omega
      have q1 : 1 < m := by have := Hm.out; omega
      have qe : ((m : Int) == 2) = true := by rw [Hm.out]; rfl
      have qe' : (m == 2) = true := by rw [Hm.out]; rfl
      clear hk4
      rw [← Hins.out] at hr4
      obtain ⟨_, _, e6, _, hc6⟩ := hr4.2 (by simp)
      injection e6 with e6
      injection e6 with e6 e7 _
      subst e6; subst e7
      have hx0 : W4.cell? ⟨gi, o, none⟩ = some (.int .i64 x) := hc6 0 (by simp)
      have hx1 : W4.cell? ⟨gi, o + 1, none⟩ = some (.int .i64 y) := hc6 1 (by simp)
      have S4d : SmC (W4) s gm base n val Q top (cl ++ adRows ins next 4) (next + 2) := S4
      clear hc6 hr4
      go_wp2_with fail
      go_quiet (fail)
      have hdr : Below W4.heap.size W4 (W4.drewN nq) := below_drewN (Below.refl _ _) nq
      have S5 : SmC (W4.drewN nq) s gm base n val Q top (cl ++ adRows ins next 4) (next + 2) := by
        obtain ⟨q1, q2, q3⟩ := S4
        exact ⟨q1, q2, q3.below hdr⟩
      have hbx5 : Boxed (W4.drewN nq) w.heap.size 54 (.pointer (some ⟨s, 0, none⟩)) := hbx4
      have K5 := (K3.trans K4).trans (Ke.below hdr hbase4)
      have hbase5 : base ≤ (W4.drewN nq).heap.size := hbase4
      have hx2' : (W4.drewN nq).cell? ⟨gi, o + 1, none⟩ = some (.int .i64 y) := hx1
      have hcl5 : (cl ++ adRows ins next 4).length ≤ 1000000 := by rw [List.length_append, adRows_len]; omega
      clear S4 hbx4 K4 hbase4 hdr hx0 hx1 S4d hsz4 hB4
      generalize W4.drewN nq = W5 at *
      have hE0 := emit_lit s gm base n w.heap.size val Q top ((next : Int) + 1) (cl ++ adRows ins next 4) (next + 2) 2 #[.int .i64 (-x), .int .i64 (-y)] [(-x), (-y)] W5 S5 hbx5 (by intro q hq; simp only [List.mem_cons, List.not_mem_nil, or_false] at hq; rcases hq with rfl | rfl <;> exact ⟨by omega, by omega⟩) rfl rfl (by omega) (by omega) ⟨by omega, by omega⟩ hcl5 hbase5
      go_wp2_with fail
      refine hE0.mono ?_
      rintro e v0 ⟨rfl, Se0, Ke0⟩
      have Sb0 := Boxed.keep Ke0 hbx5 (by decide) hbxne
      have Kk0 := K5.trans Ke0
      have hbs0 : base ≤ v0.heap.size := by have := Ke0.size; omega
      have hcl0' : ((cl ++ adRows ins next 4) ++ [[(-x), (-y)] ++ [((next : Int) + 1)]]).length ≤ 1000000 := by simp only [List.length_append, List.length_singleton, adRows_len]; omega
      clear hE0
      have hE1 := emit_lit s gm base n w.heap.size val Q top (-((next : Int) + 1)) ((cl ++ adRows ins next 4) ++ [[(-x), (-y)] ++ [((next : Int) + 1)]]) (next + 2) 1 #[.int .i64 (x)] [(x)] v0 Se0 Sb0 (by intro q hq; simp only [List.mem_cons, List.not_mem_nil, or_false] at hq; rcases hq with rfl <;> exact ⟨by omega, by omega⟩) rfl rfl (by omega) (by omega) ⟨by omega, by omega⟩ hcl0' hbs0
      go_wp2_with fail
      refine hE1.mono ?_
      rintro e v1 ⟨rfl, Se1, Ke1⟩
      have Sb1 := Boxed.keep Ke1 Sb0 (by decide) hbxne
      have Kk1 := Kk0.trans Ke1
      have hbs1 : base ≤ v1.heap.size := by have := Ke1.size; omega
      have hcl1' : (((cl ++ adRows ins next 4) ++ [[(-x), (-y)] ++ [((next : Int) + 1)]]) ++ [[(x)] ++ [(-((next : Int) + 1))]]).length ≤ 1000000 := by simp only [List.length_append, List.length_singleton, adRows_len]; omega
      clear hE1
      have hE2 := emit_lit s gm base n w.heap.size val Q top (-((next : Int) + 1)) (((cl ++ adRows ins next 4) ++ [[(-x), (-y)] ++ [((next : Int) + 1)]]) ++ [[(x)] ++ [(-((next : Int) + 1))]]) (next + 2) 1 #[.int .i64 (y)] [(y)] v1 Se1 Sb1 (by intro q hq; simp only [List.mem_cons, List.not_mem_nil, or_false] at hq; rcases hq with rfl <;> exact ⟨by omega, by omega⟩) rfl rfl (by omega) (by omega) ⟨by omega, by omega⟩ hcl1' hbs1
      go_wp2_with fail
      refine hE2.mono ?_
      rintro e v2 ⟨rfl, Se2, Ke2⟩
      have Sb2 := Boxed.keep Ke2 Sb1 (by decide) hbxne
      have Kk2 := Kk1.trans Ke2
      have hbs2 : base ≤ v2.heap.size := by have := Ke2.size; omega
      have hcl2' : ((((cl ++ adRows ins next 4) ++ [[(-x), (-y)] ++ [((next : Int) + 1)]]) ++ [[(x)] ++ [(-((next : Int) + 1))]]) ++ [[(y)] ++ [(-((next : Int) + 1))]]).length ≤ 1000000 := by simp only [List.length_append, List.length_singleton, adRows_len]; omega
      clear hE2
      obtain ⟨cvF, vsF, SF⟩ := Se2
      have hP := push_any s gm base n p val Q top (next : Int) cvF vsF _ (next + 2) v2 SF ⟨by omega, by omega⟩ (by omega) (by omega) (by omega) hbs2 (by omega)
      have hcbF := Sb2.cell
      go_wp2_with fail
      refine hP.mono ?_
      rintro e u1 ⟨rfl, val1, SP, KP, hv1⟩
      have Hgv1 : Hid (val1 1000001 = gv) := Lib.hid ((hv1 _ (by omega)).trans Hgv.out)
      clear hv1
      have hbF : Boxed u1 w.heap.size 54 (.pointer (some ⟨s, 0, none⟩)) := by
        refine (KP.block w.heap.size (Boxed.lt Sb2) hbxne (by omega) (fun e2 => ?_)).trans Sb2
        obtain ⟨cs2, h2⟩ := (SF.q p).block e2.symm
        have h3 : v2.heap[w.heap.size]? = some (.cells #[.pointer (some ⟨s, 0, none⟩)] 54 (0, 0)) := Sb2
        rw [h2] at h3; injection h3 with h3; injection h3 with _ h3
        exact absurd h3 (by decide)
      have hq2 : updQ Q p (Q p ++ [(next : Int)]) (p + 1) = Q (p + 1) := updQ_other Q _ (by omega)
      have hszP := KP.size
      have hP2 := push_any s gm base (n + 1) (p + 1) val1 _ _ ((next : Int) + 1) cvF vsF _ (next + 2) u1 SP ⟨by omega, by omega⟩ (by omega) (by omega) (by rw [hq2]; omega) (by omega) ⟨by omega, by omega⟩
      have hcbG := hbF.cell
      have hlowP := fun lo (h1 : lo ≤ s) (h2 : lo ≤ gm) (h3 : lo ≤ base) => KP.low h1 h2 (fun k hk => by have := ((SF.q p).lt hk).1; omega) (by omega)
      have hcastp : ((p + 1 : Nat) : Int) = (p : Int) + 1 := by omega
      rw [hcastp] at hP2
      clear hP
      go_wp2_with fail
      refine hP2.mono ?_
      rintro e u2 ⟨rfl, val2, SQ, KQ, hv2⟩
      have Hgv2 : Hid (val2 1000001 = gv) := Lib.hid ((hv2 _ (by omega)).trans Hgv1.out)
      clear hv2
      rw [hq2] at SQ
      have hlowQ := fun lo (h1 : lo ≤ s) (h2 : lo ≤ gm) (h3 : lo ≤ base) => KQ.low h1 h2 (fun k hk => by have := ((SP.q (p + 1)).lt hk).1; omega) (by omega)
      have hsq := KQ.size
      have hkk := Kk2
      have hfin : Addered gv w s gm base n Q top cl next p [x, y] u2 := by
        refine ⟨val2, Hgv2.out, ⟨cvF, vsF, ?_⟩, fun lo h1 h2 h3 => ?_, ?_⟩
        · have hcl3 : cl ++ adC [x, y] next = (((cl ++ adRows ins next 4) ++ [[(-x), (-y)] ++ [((next : Int) + 1)]]) ++ [[(x)] ++ [(-((next : Int) + 1))]]) ++ [[(y)] ++ [(-((next : Int) + 1))]] := by
            rw [← Hins.out]
            show cl ++ (adRows [x, y] next 4 ++ _) = _
            simp only [adMaj, List.append_assoc, List.cons_append, List.nil_append]
            rfl
          rw [hcl3, show ((next + 1 : Nat) : Int) = (next : Int) + 1 by omega]
          exact SQ
        · exact ((hkk.low lo h1 h3).trans (hlowP lo h1 h2 h3)).trans (hlowQ lo h1 h2 h3)
        · have := hkk.size; omega
      have Hfin := Lib.hid hfin
      clear hfin SQ KQ SP KP SF hlowP hlowQ
      go_wp2_with fail
      refine bodyPost_end (results_none rfl _ _ _) rfl ?_
      exact ⟨rfl, Hfin.out⟩

set_option maxRecDepth 400000 in
set_option maxHeartbeats 16000000 in
theorem adder3_any (s gm base n p B gi o c m : Nat) (hm : m = 3) (val : Nat → Value) (Q : Nat → List Int) (top : Int) (cl : List (List Int)) (next : Nat) (x y z : Int) (w : World) (gv : Value) (hgv : val 1000001 = gv) (S : SmC w s gm base n val Q top cl next) (hr : RdI B w (some ⟨gi, o, none⟩) [x, y, z]) (hgi : gi ≠ s ∧ ∃ cs, w.heap[gi]? = some (.cells cs 3 (0, 0))) (hB : B ≤ w.heap.size) (hwx : -65537 ≤ x ∧ x ≤ 65537) (hwy : -65537 ≤ y ∧ y ≤ 65537) (hwz : -65537 ≤ z ∧ z ≤ 65537)
    (hn : n ≤ 900000) (hp : p ≤ 90000) (hlen1 : (Q p).length ≤ 900000) (hlen2 : (Q (p + 1)).length ≤ 900000) (hbase : base ≤ w.heap.size) (ht : -1 ≤ top ∧ top ≤ 90000) (hnx : next ≤ 65536) (hnx1 : 1 ≤ next) (hcl : cl.length ≤ 900000) :
    Calls Try.prog 55 #[.pointer (some ⟨s, 0, none⟩), .int .i64 (p : Int), .slice (some ⟨gi, o, none⟩) m c] w fun e w' => e = .returned (.tuple #[]) ∧ Addered gv w s gm base n Q top cl next p [x, y, z] w' := by
  obtain ⟨cv0, vs0, S⟩ := S
  have Hgv := Lib.hid hgv
  clear hgv
  have hsl := S.lt
  have hsb := S.sb
  have hgb := S.gb
  have hal := (Below.refl w.heap.size w).alloc (Nat.le_refl _) (.cells #[.pointer (some ⟨s, 0, none⟩)] 54)
  obtain ⟨W1, hW1⟩ : ∃ W, W = (w.alloc (.cells #[.pointer (some ⟨s, 0, none⟩)] 54)) := ⟨_, rfl⟩
  have hbx1 : Boxed W1 w.heap.size 54 (.pointer (some ⟨s, 0, none⟩)) := by rw [hW1]; exact Boxed.new w 54 _
  rw [← hW1] at hal
  have S1 := S.below hal
  have K1 : Ke s base w W1 := Ke.below hal hbase
  have hr1 := hr.below hal hB
  have hgi1 : ∃ cs, W1.heap[gi]? = some (.cells cs 3 (0, 0)) := by
    obtain ⟨h1, cs, h2⟩ := hgi
    exact ⟨cs, K1.keep gi cs 3 (by decide) h1 h2⟩
  have hbase1 : base ≤ W1.heap.size := by have := hal.size; omega
  have hbxne : w.heap.size ≠ s := by omega
  have hsz1 : W1.heap.size = w.heap.size + 1 := by rw [hW1]; simp
  clear S hr
  have Hm := Lib.hid hm
  obtain ⟨N', hN'⟩ : ∃ N' : Nat, N' = 8 := ⟨_, rfl⟩
  have HN := Lib.hid hN'
  have hsh : wrap64 (2 ^ m) = (N' : Int) := by rw [hm, hN', show (2 : Int) ^ 3 = 8 by decide]; unfold wrap64; decide
  have hm9 : m ≤ 3 := by omega
  have hN9 : N' ≤ 8 := by omega
  clear hm hN'
  go_enter Try.func55, Try.ntmps55
  go_wp2_with fail
  rw [← hW1]
  clear hW1
  obtain ⟨c0, c1, c2, c3⟩ := S1.cell
  have cb := hbx1.cell
  go_quiet (fail)
  have hdr : Below W1.heap.size W1 (W1.drewN nq) := below_drewN (Below.refl _ _) nq
  have S2 := S1.below hdr
  have K2 := K1.trans (Ke.below hdr hbase1)
  have hbx2 : Boxed (W1.drewN nq) w.heap.size 54 (.pointer (some ⟨s, 0, none⟩)) := hbx1
  have hr2 := hr1.below hdr (by omega)
  have hbase2 : base ≤ (W1.drewN nq).heap.size := hbase1
  have hsz2 : (W1.drewN nq).heap.size = w.heap.size + 1 := hsz1
  obtain ⟨csg, hcsg⟩ := hgi1
  have hgi2 : (W1.drewN nq).heap[gi]? = some (.cells csg 3 (0, 0)) := hcsg
  clear S1 K1 hbx1 hr1 hbase1 hsz1 hcsg hdr c0 c1 c2 c3 cb hal
  generalize W1.drewN nq = W2 at *
  have hn2 : ((next + 2 : Nat) : Int) = (next : Int) + 2 := by omega
  have S3 : Sm (W2.setCell ⟨s, 3, none⟩ (.int .i64 ((next : Int) + 2))) s gm base n val Q top cv0 vs0 cl (next + 2) := by
    have := (S2.set_next (next + 2)).1
    rwa [hn2] at this
  have hc3 := S2.cell.2.2.2
  have hf3 := S2.frozen 3
  have hcb2 := hbx2.cell
  have K3 := K2.trans (Ke.set s base W2 3 (.int .i64 ((next : Int) + 2)))
  have hbx3 : Boxed (W2.setCell ⟨s, 3, none⟩ (.int .i64 ((next : Int) + 2))) w.heap.size 54 (.pointer (some ⟨s, 0, none⟩)) := Boxed.keep (Ke.set s base W2 3 _) hbx2 (by decide) hbxne
  have hr3 : RdI B (W2.setCell ⟨s, 3, none⟩ (.int .i64 ((next : Int) + 2))) (some ⟨gi, o, none⟩) [x, y, z] := (Ke.set s base W2 3 _).rd (fun g' o' e => by injection e with e; injection e with e _ _; subst e; exact ⟨hgi.1, csg, hgi2⟩) hr2
  have hgi3 : (W2.setCell ⟨s, 3, none⟩ (.int .i64 ((next : Int) + 2))).heap[gi]? = some (.cells csg 3 (0, 0)) := (Ke.set s base W2 3 _).keep gi csg 3 (by decide) hgi.1 hgi2
  have hsz3 : (W2.setCell ⟨s, 3, none⟩ (.int .i64 ((next : Int) + 2))).heap.size = w.heap.size + 1 := by rw [← hsz2]; simp [World.setCell]
  go_wp2_with fail
  simp only [hsh]
  clear hsh
  generalize W2.setCell ⟨s, 3, none⟩ (.int .i64 ((next : Int) + 2)) = W3 at *
  have S3' : SmC W3 s gm base n val Q top cl (next + 2) := ⟨_, _, S3⟩
  clear S2 K2 hbx2 hr2 hgi2 hbase2 hsz2 hc3 hf3 hcb2 S3 hn2
  have hinsl : [x, y, z].length = m := by rw [Hm.out]; rfl
  have hwfi : ∀ q ∈ [x, y, z], -65537 ≤ q ∧ q ≤ 65537 := by
    intro q hq
    simp only [List.mem_cons, List.not_mem_nil, or_false] at hq
    rcases hq with rfl | rfl | rfl
    · exact hwx
    · exact hwy
    · exact hwz
  obtain ⟨ins, hins⟩ : ∃ ins, [x, y, z] = ins := ⟨_, rfl⟩
  rw [hins] at hr3 hinsl hwfi
  have Hins := Lib.hid hins
  clear hins
  go_loopw [36] (fun vi wr => ∃ k : Nat, k ≤ N' ∧ vi = .int .i64 (k : Int) ∧ SmC wr s gm base n val Q top (cl ++ adRows ins next k) (next + 2) ∧ Ke s base W3 wr) (fun vi _ => N' - (intOf vi).toNat)
  case atStart => exact ⟨0, by omega, rfl, by simpa [adRows] using S3', Ke.refl _ _ _⟩
  case round =>
    obtain ⟨k, hk, rfl, S4, K4⟩ := hrel
    obtain ⟨W4, rfl⟩ : ∃ W4, W4 = wr := ⟨_, rfl⟩
    have hr4 := K4.rd (fun g' o' e => by injection e with e; injection e with e _ _; subst e; exact ⟨hgi.1, csg, hgi3⟩) hr3
    have hbx4 := Boxed.keep K4 hbx3 (by decide) hbxne
    have hsz4 := K4.size
    have hB4 : B ≤ W4.heap.size := by omega
    have hbase4 : base ≤ W4.heap.size := by omega
    by_cases hlt : k < N'
    · have hC := Clone_any B (some ⟨gi, o, none⟩) m c ins W4 hr4 hB4 hinsl (by have := Hm.out; omega) (by omega)
      go_wp2_with fail
      refine hC.mono ?_
      rintro e w5 ⟨v5, rfl, row5, low5⟩
      obtain ⟨g5, c5, hv5, hg5, hg5l, _, _, _⟩ := row5.addr (by rw [hinsl]; have := Hm.out; omega)
      rw [hinsl] at hv5
      subst hv5
      clear hC
      go_wp2_with fail
      go_loopw [11, 43] (fun vo vi wr2 => ∃ i : Nat, i ≤ m ∧ vi = .int .i64 (i : Int) ∧ vo = .int .i64 (od k i) ∧ RowI wr2 W4.heap.size (.slice (some ⟨g5, 0, none⟩) m c5) (fl ins k i) ∧ Below W4.heap.size W4 wr2) (fun _ vi _ => m - (intOf vi).toNat)
      case atStart => exact ⟨0, by omega, rfl, rfl, row5, low5⟩
      case round =>
        obtain ⟨i, hi, rfl, rfl, row6, low6⟩ := hrel
        clear row5 low5
        have hflen := fl_len ins k i
        rw [hinsl] at hflen
        by_cases hit : i < m
        · have hset := Lib.hid (fun W => set_any k i W (by have := HN.out; omega) (by omega))
          have Hflen := Lib.hid hflen
          have hr6 := hr4.below low6 hB4
          obtain ⟨_, _, e6, _, hc6⟩ := hr6.2 (by rw [hinsl]; omega)
          injection e6 with e6
          injection e6 with e6 e7 _
          subst e6; subst e7
          have hcy := hc6 i (by rw [hinsl]; exact hit)
          have hwy := hwfi (ins[i]?.getD 0) (by rw [List.getElem?_eq_getElem (by rw [hinsl]; exact hit)]; exact List.getElem_mem _)
          obtain ⟨_, _, e8, _, _, _, hcell6, hfz6⟩ := row6.addr (by rw [hflen]; omega)
          injection e8 with e8 e9 e10
          injection e8 with e8
          injection e8 with e8 e11 e12
          clear e9 e10 e11 e12
          subst e8
          have hcf := hcell6 i (by rw [hflen]; exact hit)
          have hff := hfz6 i
          have hstep : fl ins k (i + 1) = if k.testBit i then (fl ins k i).set i (-(ins[i]?.getD 0)) else fl ins k i := rfl
          have hods : od k (i + 1) = if k.testBit i then -(od k i) else od k i := rfl
          have hosg := od_sign k i
          have rowS := row6.set i (z := -(ins[i]?.getD 0)) ⟨by omega, by omega⟩
          have lowS := low6.setCell (p := ⟨g5, i, none⟩) hg5 (.int .i64 (-(ins[i]?.getD 0)))
          have HS := Lib.hid (And.intro rowS lowS)
          clear hflen
          have Hst := Lib.hid (And.intro hstep hods)
          have H6 := Lib.hid (And.intro row6 low6)
          clear rowS lowS hstep hods hc6 hcell6 hfz6 hr6 row6 low6
          generalize (fl ins k i)[i]?.getD 0 = fi at *
          generalize hye : ins[i]?.getD 0 = y' at *
          have Hye := Lib.hid hye
          clear hye
          generalize od k i = od0 at *
          have hob : -1 ≤ od0 ∧ od0 ≤ 1 := by omega
          obtain ⟨hob1, hob2⟩ := hob
          obtain ⟨hwy1, hwy2⟩ := hwy
          cases hb : k.testBit i with
          | true =>
            rw [hb] at Hst hset
            obtain ⟨hs1, hs2⟩ := Hst.out
            have hs1' : fl ins k (i + 1) = (fl ins k i).set i (-y') := by rw [hs1]; first | rfl | simp
            have hs2' : od k (i + 1) = -od0 := by rw [hs2]; first | rfl | simp
            have HsA := Lib.hid (And.intro hs1' hs2')
            clear hs1' hs2'
            clear hb hosg hs1 hs2 Hst
            go_wp2_with fail
            refine (hset.out _).mono ?_
            rintro e w' ⟨rfl, rfl⟩
            dsimp only
            clear hset
            go_wp2_with fail
            go_roundw
            case rel =>
              first
              | exact ⟨i + 1, by omega, by go_num, by rw [HsA.out.2], by rw [HsA.out.1]; exact HS.out.1, HS.out.2⟩
              | (refine ⟨_, _, _, _, _, _, _, _, _, _, _, _, _, _, _, _, _, _, _, ?relx, rfl⟩
                 exact ⟨i + 1, by omega, by go_num, by rw [HsA.out.2], by rw [HsA.out.1]; exact HS.out.1, HS.out.2⟩)
            case measure => simp [intOf]; omega
          | false =>
            rw [hb] at Hst hset
            obtain ⟨hs1, hs2⟩ := Hst.out
            have hs1' : fl ins k (i + 1) = fl ins k i := by rw [hs1]; first | rfl | simp
            have hs2' : od k (i + 1) = od0 := by rw [hs2]; first | rfl | simp
            have HsA := Lib.hid (And.intro hs1' hs2')
            clear hs1' hs2'
            clear hb hosg hs1 hs2 Hst
            go_wp2_with fail
            refine (hset.out _).mono ?_
            rintro e w' ⟨rfl, rfl⟩
            dsimp only
            clear hset
            go_wp2_with fail
            go_roundw
            case rel =>
              first
              | exact ⟨i + 1, by omega, by go_num, by rw [HsA.out.2], by rw [HsA.out.1]; exact H6.out.1, H6.out.2⟩
              | (refine ⟨_, _, _, _, _, _, _, _, _, _, _, _, _, _, _, _, _, _, _, ?relx, rfl⟩
                 exact ⟨i + 1, by omega, by go_num, by rw [HsA.out.2], by rw [HsA.out.1]; exact H6.out.1, H6.out.2⟩)
            case measure => simp [intOf]; omega
        · have him : i = m := by omega
          rw [him] at row6
          rw [him]
          have hflen : (fl ins k m).length = m := by rw [fl_len]; exact hinsl
          obtain ⟨cv4, vs4, S4⟩ := S4
          have S5 : SmC wr s gm base n val Q top (cl ++ adRows ins next k) (next + 2) := ⟨_, _, S4.below low6⟩
          have hbx5 := Boxed.lower hbx4 low6 (Boxed.lt hbx4)
          have rd6 := row6.rd
          have hsz6 := low6.size
          have hbase5 : base ≤ wr.heap.size := by omega
          have hcl5 : (cl ++ adRows ins next k).length ≤ 1000000 := by rw [List.length_append, adRows_len]; have := HN.out; omega
          have K35 := K4.trans (Ke.below low6 hbase4)
          rcases od_sign k m with ho | ho
          · have hout : od k m * (next : Int) = (next : Int) := by rw [ho]; omega
            rw [ho]
            have hE := emit_any s gm base n w.heap.size wr.heap.size val Q top ((next : Int)) (cl ++ adRows ins next k) (next + 2) _ m c5 (fl ins k m) wr S5 hbx5 rd6 (Nat.le_refl _) hflen (by have := Hm.out; omega) (by omega) ⟨by omega, by omega⟩ hcl5 hbase5
            go_wp2_with fail
            refine hE.mono ?_
            rintro e w7 ⟨rfl, S7, K7⟩
            have K37 := K35.trans K7
            have S8 : SmC w7 s gm base n val Q top (cl ++ adRows ins next (k + 1)) (next + 2) := by
              rw [adRows, hinsl, hout, ← List.append_assoc]; exact S7
            clear hE S7 K7 rd6 S5 hbx5 low6 row6
            go_wp2_with fail
            go_roundw
            case rel => exact ⟨k + 1, by omega, by go_num, S8, K37⟩
            case measure => simp [intOf]; omega
          · have hout : od k m * (next : Int) = -(next : Int) := by rw [ho]; omega
            rw [ho]
            have hE := emit_any s gm base n w.heap.size wr.heap.size val Q top (-(next : Int)) (cl ++ adRows ins next k) (next + 2) _ m c5 (fl ins k m) wr S5 hbx5 rd6 (Nat.le_refl _) hflen (by have := Hm.out; omega) (by omega) ⟨by omega, by omega⟩ hcl5 hbase5
            go_wp2_with fail
            refine hE.mono ?_
            rintro e w7 ⟨rfl, S7, K7⟩
            have K37 := K35.trans K7
            have S8 : SmC w7 s gm base n val Q top (cl ++ adRows ins next (k + 1)) (next + 2) := by
              rw [adRows, hinsl, hout, ← List.append_assoc]; exact S7
            clear hE S7 K7 rd6 S5 hbx5 low6 row6
            go_wp2_with fail
            go_roundw
            case rel => exact ⟨k + 1, by omega, by go_num, S8, K37⟩
            case measure => simp [intOf]; omega
    · obtain rfl : k = N' := by omega
      have hk4 : k = 8 := HN.out
      rw [hk4] at S4
      have q0 : 0 < m := by have := Hm.out; omega
      have q1 : 1 < m := by have := Hm.out; omega
      have q2 : 2 < m := by have := Hm.out; omega
      have qe : ((m : Int) == 2) = false := by rw [Hm.out]; rfl
      have qe' : (m == 2) = false := by rw [Hm.out]; rfl
      clear hk4
      rw [← Hins.out] at hr4
      obtain ⟨_, _, e6, _, hc6⟩ := hr4.2 (by simp)
      injection e6 with e6
      injection e6 with e6 e7 _
      subst e6; subst e7
      have hx0 : W4.cell? ⟨gi, o, none⟩ = some (.int .i64 x) := hc6 0 (by simp)
      have hx1 : W4.cell? ⟨gi, o + 1, none⟩ = some (.int .i64 y) := hc6 1 (by simp)
      have hx2 : W4.cell? ⟨gi, o + 2, none⟩ = some (.int .i64 z) := hc6 2 (by simp)
      have S4d : SmC (W4) s gm base n val Q top (cl ++ adRows ins next 8) (next + 2) := S4
      clear hc6 hr4
      go_wp2_with fail
      go_quiet (fail)
      have hdr : Below W4.heap.size W4 (W4.drewN nq) := below_drewN (Below.refl _ _) nq
      have S5 : SmC (W4.drewN nq) s gm base n val Q top (cl ++ adRows ins next 8) (next + 2) := by
        obtain ⟨q1, q2, q3⟩ := S4
        exact ⟨q1, q2, q3.below hdr⟩
      have hbx5 : Boxed (W4.drewN nq) w.heap.size 54 (.pointer (some ⟨s, 0, none⟩)) := hbx4
      have K5 := (K3.trans K4).trans (Ke.below hdr hbase4)
      have hbase5 : base ≤ (W4.drewN nq).heap.size := hbase4
      have hx2' : (W4.drewN nq).cell? ⟨gi, o + 2, none⟩ = some (.int .i64 z) := hx2
      have hcl5 : (cl ++ adRows ins next 8).length ≤ 1000000 := by rw [List.length_append, adRows_len]; omega
      clear S4 hbx4 K4 hbase4 hdr hx0 hx1 S4d hsz4 hB4
      generalize W4.drewN nq = W5 at *
      have hE0 := emit_lit s gm base n w.heap.size val Q top ((next : Int) + 1) (cl ++ adRows ins next 8) (next + 2) 2 #[.int .i64 (-x), .int .i64 (-y)] [(-x), (-y)] W5 S5 hbx5 (by intro q hq; simp only [List.mem_cons, List.not_mem_nil, or_false] at hq; rcases hq with rfl | rfl <;> exact ⟨by omega, by omega⟩) rfl rfl (by omega) (by omega) ⟨by omega, by omega⟩ hcl5 hbase5
      go_wp2_with fail
      refine hE0.mono ?_
      rintro e v0 ⟨rfl, Se0, Ke0⟩
      have Sb0 := Boxed.keep Ke0 hbx5 (by decide) hbxne
      have Kk0 := K5.trans Ke0
      have hbs0 : base ≤ v0.heap.size := by have := Ke0.size; omega
      have hcl0' : ((cl ++ adRows ins next 8) ++ [[(-x), (-y)] ++ [((next : Int) + 1)]]).length ≤ 1000000 := by simp only [List.length_append, List.length_singleton, adRows_len]; omega
      clear hE0
      have hE1 := emit_lit s gm base n w.heap.size val Q top ((next : Int) + 1) ((cl ++ adRows ins next 8) ++ [[(-x), (-y)] ++ [((next : Int) + 1)]]) (next + 2) 2 #[.int .i64 (-x), .int .i64 (-z)] [(-x), (-z)] v0 Se0 Sb0 (by intro q hq; simp only [List.mem_cons, List.not_mem_nil, or_false] at hq; rcases hq with rfl | rfl <;> exact ⟨by omega, by omega⟩) rfl rfl (by omega) (by omega) ⟨by omega, by omega⟩ hcl0' hbs0
      go_wp2_with fail
      refine hE1.mono ?_
      rintro e v1 ⟨rfl, Se1, Ke1⟩
      have Sb1 := Boxed.keep Ke1 Sb0 (by decide) hbxne
      have Kk1 := Kk0.trans Ke1
      have hbs1 : base ≤ v1.heap.size := by have := Ke1.size; omega
      have hcl1' : (((cl ++ adRows ins next 8) ++ [[(-x), (-y)] ++ [((next : Int) + 1)]]) ++ [[(-x), (-z)] ++ [((next : Int) + 1)]]).length ≤ 1000000 := by simp only [List.length_append, List.length_singleton, adRows_len]; omega
      clear hE1
      have hE2 := emit_lit s gm base n w.heap.size val Q top ((next : Int) + 1) (((cl ++ adRows ins next 8) ++ [[(-x), (-y)] ++ [((next : Int) + 1)]]) ++ [[(-x), (-z)] ++ [((next : Int) + 1)]]) (next + 2) 2 #[.int .i64 (-y), .int .i64 (-z)] [(-y), (-z)] v1 Se1 Sb1 (by intro q hq; simp only [List.mem_cons, List.not_mem_nil, or_false] at hq; rcases hq with rfl | rfl <;> exact ⟨by omega, by omega⟩) rfl rfl (by omega) (by omega) ⟨by omega, by omega⟩ hcl1' hbs1
      go_wp2_with fail
      refine hE2.mono ?_
      rintro e v2 ⟨rfl, Se2, Ke2⟩
      have Sb2 := Boxed.keep Ke2 Sb1 (by decide) hbxne
      have Kk2 := Kk1.trans Ke2
      have hbs2 : base ≤ v2.heap.size := by have := Ke2.size; omega
      have hcl2' : ((((cl ++ adRows ins next 8) ++ [[(-x), (-y)] ++ [((next : Int) + 1)]]) ++ [[(-x), (-z)] ++ [((next : Int) + 1)]]) ++ [[(-y), (-z)] ++ [((next : Int) + 1)]]).length ≤ 1000000 := by simp only [List.length_append, List.length_singleton, adRows_len]; omega
      clear hE2
      have hE3 := emit_lit s gm base n w.heap.size val Q top (-((next : Int) + 1)) ((((cl ++ adRows ins next 8) ++ [[(-x), (-y)] ++ [((next : Int) + 1)]]) ++ [[(-x), (-z)] ++ [((next : Int) + 1)]]) ++ [[(-y), (-z)] ++ [((next : Int) + 1)]]) (next + 2) 2 #[.int .i64 (x), .int .i64 (y)] [(x), (y)] v2 Se2 Sb2 (by intro q hq; simp only [List.mem_cons, List.not_mem_nil, or_false] at hq; rcases hq with rfl | rfl <;> exact ⟨by omega, by omega⟩) rfl rfl (by omega) (by omega) ⟨by omega, by omega⟩ hcl2' hbs2
      go_wp2_with fail
      refine hE3.mono ?_
      rintro e v3 ⟨rfl, Se3, Ke3⟩
      have Sb3 := Boxed.keep Ke3 Sb2 (by decide) hbxne
      have Kk3 := Kk2.trans Ke3
      have hbs3 : base ≤ v3.heap.size := by have := Ke3.size; omega
      have hcl3' : (((((cl ++ adRows ins next 8) ++ [[(-x), (-y)] ++ [((next : Int) + 1)]]) ++ [[(-x), (-z)] ++ [((next : Int) + 1)]]) ++ [[(-y), (-z)] ++ [((next : Int) + 1)]]) ++ [[(x), (y)] ++ [(-((next : Int) + 1))]]).length ≤ 1000000 := by simp only [List.length_append, List.length_singleton, adRows_len]; omega
      clear hE3
      have hE4 := emit_lit s gm base n w.heap.size val Q top (-((next : Int) + 1)) (((((cl ++ adRows ins next 8) ++ [[(-x), (-y)] ++ [((next : Int) + 1)]]) ++ [[(-x), (-z)] ++ [((next : Int) + 1)]]) ++ [[(-y), (-z)] ++ [((next : Int) + 1)]]) ++ [[(x), (y)] ++ [(-((next : Int) + 1))]]) (next + 2) 2 #[.int .i64 (x), .int .i64 (z)] [(x), (z)] v3 Se3 Sb3 (by intro q hq; simp only [List.mem_cons, List.not_mem_nil, or_false] at hq; rcases hq with rfl | rfl <;> exact ⟨by omega, by omega⟩) rfl rfl (by omega) (by omega) ⟨by omega, by omega⟩ hcl3' hbs3
      go_wp2_with fail
      refine hE4.mono ?_
      rintro e v4 ⟨rfl, Se4, Ke4⟩
      have Sb4 := Boxed.keep Ke4 Sb3 (by decide) hbxne
      have Kk4 := Kk3.trans Ke4
      have hbs4 : base ≤ v4.heap.size := by have := Ke4.size; omega
      have hcl4' : ((((((cl ++ adRows ins next 8) ++ [[(-x), (-y)] ++ [((next : Int) + 1)]]) ++ [[(-x), (-z)] ++ [((next : Int) + 1)]]) ++ [[(-y), (-z)] ++ [((next : Int) + 1)]]) ++ [[(x), (y)] ++ [(-((next : Int) + 1))]]) ++ [[(x), (z)] ++ [(-((next : Int) + 1))]]).length ≤ 1000000 := by simp only [List.length_append, List.length_singleton, adRows_len]; omega
      clear hE4
      have hE5 := emit_lit s gm base n w.heap.size val Q top (-((next : Int) + 1)) ((((((cl ++ adRows ins next 8) ++ [[(-x), (-y)] ++ [((next : Int) + 1)]]) ++ [[(-x), (-z)] ++ [((next : Int) + 1)]]) ++ [[(-y), (-z)] ++ [((next : Int) + 1)]]) ++ [[(x), (y)] ++ [(-((next : Int) + 1))]]) ++ [[(x), (z)] ++ [(-((next : Int) + 1))]]) (next + 2) 2 #[.int .i64 (y), .int .i64 (z)] [(y), (z)] v4 Se4 Sb4 (by intro q hq; simp only [List.mem_cons, List.not_mem_nil, or_false] at hq; rcases hq with rfl | rfl <;> exact ⟨by omega, by omega⟩) rfl rfl (by omega) (by omega) ⟨by omega, by omega⟩ hcl4' hbs4
      go_wp2_with fail
      refine hE5.mono ?_
      rintro e v5 ⟨rfl, Se5, Ke5⟩
      have Sb5 := Boxed.keep Ke5 Sb4 (by decide) hbxne
      have Kk5 := Kk4.trans Ke5
      have hbs5 : base ≤ v5.heap.size := by have := Ke5.size; omega
      have hcl5' : (((((((cl ++ adRows ins next 8) ++ [[(-x), (-y)] ++ [((next : Int) + 1)]]) ++ [[(-x), (-z)] ++ [((next : Int) + 1)]]) ++ [[(-y), (-z)] ++ [((next : Int) + 1)]]) ++ [[(x), (y)] ++ [(-((next : Int) + 1))]]) ++ [[(x), (z)] ++ [(-((next : Int) + 1))]]) ++ [[(y), (z)] ++ [(-((next : Int) + 1))]]).length ≤ 1000000 := by simp only [List.length_append, List.length_singleton, adRows_len]; omega
      clear hE5
      obtain ⟨cvF, vsF, SF⟩ := Se5
      have hP := push_any s gm base n p val Q top (next : Int) cvF vsF _ (next + 2) v5 SF ⟨by omega, by omega⟩ (by omega) (by omega) (by omega) hbs5 (by omega)
      have hcbF := Sb5.cell
      go_wp2_with fail
      refine hP.mono ?_
      rintro e u1 ⟨rfl, val1, SP, KP, hv1⟩
      have Hgv1 : Hid (val1 1000001 = gv) := Lib.hid ((hv1 _ (by omega)).trans Hgv.out)
      clear hv1
      have hbF : Boxed u1 w.heap.size 54 (.pointer (some ⟨s, 0, none⟩)) := by
        refine (KP.block w.heap.size (Boxed.lt Sb5) hbxne (by omega) (fun e2 => ?_)).trans Sb5
        obtain ⟨cs2, h2⟩ := (SF.q p).block e2.symm
        have h3 : v5.heap[w.heap.size]? = some (.cells #[.pointer (some ⟨s, 0, none⟩)] 54 (0, 0)) := Sb5
        rw [h2] at h3; injection h3 with h3; injection h3 with _ h3
        exact absurd h3 (by decide)
      have hq2 : updQ Q p (Q p ++ [(next : Int)]) (p + 1) = Q (p + 1) := updQ_other Q _ (by omega)
      have hszP := KP.size
      have hP2 := push_any s gm base (n + 1) (p + 1) val1 _ _ ((next : Int) + 1) cvF vsF _ (next + 2) u1 SP ⟨by omega, by omega⟩ (by omega) (by omega) (by rw [hq2]; omega) (by omega) ⟨by omega, by omega⟩
      have hcbG := hbF.cell
      have hlowP := fun lo (h1 : lo ≤ s) (h2 : lo ≤ gm) (h3 : lo ≤ base) => KP.low h1 h2 (fun k hk => by have := ((SF.q p).lt hk).1; omega) (by omega)
      have hcastp : ((p + 1 : Nat) : Int) = (p : Int) + 1 := by omega
      rw [hcastp] at hP2
      clear hP
      go_wp2_with fail
      refine hP2.mono ?_
      rintro e u2 ⟨rfl, val2, SQ, KQ, hv2⟩
      have Hgv2 : Hid (val2 1000001 = gv) := Lib.hid ((hv2 _ (by omega)).trans Hgv1.out)
      clear hv2
      rw [hq2] at SQ
      have hlowQ := fun lo (h1 : lo ≤ s) (h2 : lo ≤ gm) (h3 : lo ≤ base) => KQ.low h1 h2 (fun k hk => by have := ((SP.q (p + 1)).lt hk).1; omega) (by omega)
      have hsq := KQ.size
      have hkk := Kk5
      have hfin : Addered gv w s gm base n Q top cl next p [x, y, z] u2 := by
        refine ⟨val2, Hgv2.out, ⟨cvF, vsF, ?_⟩, fun lo h1 h2 h3 => ?_, ?_⟩
        · have hcl3 : cl ++ adC [x, y, z] next = ((((((cl ++ adRows ins next 8) ++ [[(-x), (-y)] ++ [((next : Int) + 1)]]) ++ [[(-x), (-z)] ++ [((next : Int) + 1)]]) ++ [[(-y), (-z)] ++ [((next : Int) + 1)]]) ++ [[(x), (y)] ++ [(-((next : Int) + 1))]]) ++ [[(x), (z)] ++ [(-((next : Int) + 1))]]) ++ [[(y), (z)] ++ [(-((next : Int) + 1))]] := by
            rw [← Hins.out]
            show cl ++ (adRows [x, y, z] next 8 ++ _) = _
            simp only [adMaj, List.append_assoc, List.cons_append, List.nil_append]
            rfl
          rw [hcl3, show ((next + 1 : Nat) : Int) = (next : Int) + 1 by omega]
          exact SQ
        · exact ((hkk.low lo h1 h3).trans (hlowP lo h1 h2 h3)).trans (hlowQ lo h1 h2 h3)
        · have := hkk.size; omega
      have Hfin := Lib.hid hfin
      clear hfin SQ KQ SP KP SF hlowP hlowQ
      go_wp2_with fail
      refine bodyPost_end (results_none rfl _ _ _) rfl ?_
      exact ⟨rfl, Hfin.out⟩
end Go.Proofs.Ytpeklcbjhkchlaa
