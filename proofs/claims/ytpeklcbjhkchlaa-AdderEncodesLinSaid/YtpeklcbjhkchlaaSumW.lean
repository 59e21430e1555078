/- The walk of Sum where it answers. -/
import Derived.Test.YtpeklcbjhkchlaaSum
import Derived.Test.YtpeklcbjhkchlaaSumN
namespace Go.Proofs.Ytpeklcbjhkchlaa
open Go.RowKit Go.Maps
set_option maxRecDepth 100000

theorem RdR.more {B B' : Nat} {w : World} {A : Option Addr} {xss : List (List Int)} (h : RdR B w A xss) (hB : B ≤ B') : RdR B' w A xss := by
  intro hn
  obtain ⟨b, off, e, hlt, hc⟩ := h hn
  refine ⟨b, off, e, by omega, fun j hj => ?_⟩
  obtain ⟨E, c, h1, h2⟩ := hc j hj
  exact ⟨E, c, h1, h2.more hB⟩
/-- What Sum answers. -/
def Summed (w : World) (xs : List Nat) (ls : List Int) (next : Nat) (e : Ending) (w' : World) : Prop :=
  match addUp (rowsOf xs ls) [] next with
  | none => SumRes w [] [] 0 2 e w'
  | some t => SumRes w t.1 t.2.1 t.2.2 0 e w'
theorem SumSt.stop {w wr : World} {xs : List Nat} {ls : List Int} {next k n nx : Nat} {gv : Value} {bits carry : List Int} {val : Nat → Value} {Q : Nat → List Int} {top : Int} {c : List (List Int)} (S : SumSt w xs ls next k gv bits wr val Q n top c nx carry) (hx : ∀ x ∈ xs, x < 2 ^ 64) (hk : (k : Int) ≤ top) (hr : red (Q k) nx = none) : addUp (rowsOf xs ls) [] next = none := by
  have hdr : ((rowsOf xs ls).drop k).headD [] ++ carry = Q k := by rw [headD_drop, rowsOf_at hx, S.here]
  rw [S.less] at hk
  rw [S.more, addUp_none hk (by rw [hdr]; exact hr)]
  rfl
theorem SumSt.ends {w wr : World} {xs : List Nat} {ls : List Int} {next k n nx : Nat} {gv : Value} {bits carry : List Int} {val : Nat → Value} {Q : Nat → List Int} {top : Int} {c : List (List Int)} (S : SumSt w xs ls next k gv bits wr val Q n top c nx carry) (hk : ¬ (k : Int) ≤ top) : addUp (rowsOf xs ls) [] next = some (bits, c, nx) := by
  have h := S.less
  have h2 : (rowsOf xs ls).drop k = [] ∧ carry = [] := by
    by_cases e : (rowsOf xs ls).drop k = [] ∧ carry = []
    · exact e
    · exact absurd (h.2 e) hk
  rw [S.more, h2.1, h2.2, addUp_done]
  simp
/-- The state at the end answers. -/
theorem SumSt.res {w wr W : World} {xs : List Nat} {ls : List Int} {next k n nx : Nat} {gv cv : Value} {bits carry : List Int} {val : Nat → Value} {Q : Nat → List Int} {top : Int} {c : List (List Int)} (S : SumSt w xs ls next k gv bits wr val Q n top c nx carry) (hc : wr.cell? ⟨w.heap.size + 1, 2, none⟩ = some cv) (hb : Below wr.heap.size wr W) :
    SumRes w bits c nx 0 (.returned (.tuple #[gv, cv, .int .i64 (nx : Int), .int .i64 0])) W := by
  obtain ⟨cv1, vs1, S1⟩ := S.sm
  have h := S1.cell.2.2.1
  rw [hc] at h
  injection h with h
  subst h
  have hq := S1.q 1000001
  rw [S.gval, S.gq] at hq
  obtain ⟨A, cq, rfl, hcq, hrd⟩ := hq.shape
  obtain ⟨B, d, rfl⟩ := own_shape S1.own
  have hl := S1.els.1
  obtain ⟨hn, hrr⟩ := S1.els.rd S1.own
  rw [hn]
  have hbs := hb.size
  refine ⟨A, cq, B, d, rfl, hcq, (hrd.below hb (Nat.le_refl _)).more hbs, RdR.more (hrr.below hb (Nat.le_refl _)) hbs, S.low.trans (hb.mono (by have := S.low.size; omega)), fun j hj => ?_⟩
  obtain ⟨u, _, hr⟩ := S1.els.2 j hj
  obtain ⟨_, _, _, h1, h2, _⟩ := hr.shape
  omega
theorem sum_leave {w W : World} {xs : List Nat} {ls : List Int} {next : Nat} {tm : Array Value} (h : addUp (rowsOf xs ls) [] next = none) (hb : Below w.heap.size w W) (h6 : tm[6]?.getD undef = .slice Option.none 0 0) (h7 : tm[7]?.getD undef = .slice Option.none 0 0) (h8 : tm[8]?.getD undef = .int .i64 0) (h9 : tm[9]?.getD undef = .int .i64 2) :
    bodyPost Try.prog Try.f13 (Summed w xs ls next) .ret { tmps := tm, defers := [] } W := by
  refine bodyPost_ret (results13 tm W) rfl ?_
  rw [h6, h7, h8, h9]
  unfold Summed
  rw [h]
  exact SumRes.nil w W 2 hb
theorem sum_done {w W : World} {xs : List Nat} {ls : List Int} {next : Nat} {tm : Array Value} {bits : List Int} {c : List (List Int)} {nx : Nat} {gv cv : Value} (h : addUp (rowsOf xs ls) [] next = some (bits, c, nx)) (hr : SumRes w bits c nx 0 (.returned (.tuple #[gv, cv, .int .i64 (nx : Int), .int .i64 0])) W) (h6 : tm[6]?.getD undef = gv) (h7 : tm[7]?.getD undef = cv) (h8 : tm[8]?.getD undef = .int .i64 (nx : Int)) (h9 : tm[9]?.getD undef = .int .i64 0) :
    bodyPost Try.prog Try.f13 (Summed w xs ls next) .ret { tmps := tm, defers := [] } W := by
  refine bodyPost_ret (results13 tm W) rfl ?_
  rw [h6, h7, h8, h9]
  unfold Summed
  rw [h]
  exact hr

set_option maxHeartbeats 8000000 in
theorem Sum_any (B n c1 c2 next : Nat) (A1 A2 : Option Addr) (xs : List Nat) (ls : List Int) (w : World) (r1 : RdI B w A1 (nats xs)) (r2 : RdI B w A2 ls) (hB : B ≤ w.heap.size) (hl1 : xs.length = n) (hl2 : ls.length = n) (h1 : 1 ≤ next) (h2 : next ≤ 65537) (hn : n ≤ 4096) (hok : ∀ j, j < n → Ok1 next ((nats xs)[j]?.getD 0) (ls[j]?.getD 0)) :
    Calls Try.prog 13 #[.slice A1 n c1, .slice A2 n c2, .int .i64 (next : Int)] w (Summed w xs ls next) := by
  have hx : ∀ x ∈ xs, x ≤ 1099511627776 := fun x hx => by
    obtain ⟨j, hj, rfl⟩ := List.mem_iff_getElem.1 hx
    have := (hok j (by omega)).1.2
    rw [nats_at, List.getElem?_eq_getElem hj] at this
    simp only [Option.getD_some] at this
    omega
  have hly : ∀ y ∈ ls, -65537 ≤ y ∧ y ≤ 65537 := fun y hy => by
    obtain ⟨j, hj, rfl⟩ := List.mem_iff_getElem.1 hy
    have := (hok j (by omega)).2
    rw [List.getElem?_eq_getElem hj] at this
    simp only [Option.getD_some] at this
    omega
  have hN := Lib.hid (newSummer_any B n c1 c2 next A1 A2 xs ls w r1 r2 hB hl1 hl2 hn hx hly)
  have hx64 : ∀ x ∈ xs, x < 2 ^ 64 := fun x h => by have := hx x h; omega
  have Hx := Lib.hid (And.intro hx64 (And.intro hly (And.intro hl1 hl2)))
  have Hok := Lib.hid hok
  have hc1 := fun (hj : 0 < n) => r1.2 (by rw [nats_len]; omega)
  have hc2 := fun (hj : 0 < n) => r2.2 (by omega)
  have R := Lib.hid (And.intro hc1 hc2)
  clear r1 r2 hok hx hly hx64 hc1 hc2
  have hl1 := Lib.hid hl1
  have hl2 := Lib.hid hl2
  go_enter Try.func13, Try.ntmps13
  go_wp2_with fail
  go_loopw [6, 31] (fun u i wr => ∃ j : Nat, j ≤ n ∧ i = .int .i64 j ∧ u = .slice Option.none 0 0 ∧ w = wr) (fun _ i _ => n - (intOf i).toNat)
  case atStart => exact ⟨0, by omega, rfl, rfl, rfl⟩
  case round =>
    obtain ⟨j, hj, rfl, rfl, rfl⟩ := hrel
    by_cases hlt : j < n
    · obtain ⟨b1, o1, hA1, hb1, hc1⟩ := R.out.1 (by omega)
      obtain ⟨b2, o2, hA2, hb2, hc2⟩ := R.out.2 (by omega)
      have k1 := hc1 j (by rw [nats_len, hl1.out]; omega)
      have k2 := hc2 j (by rw [hl2.out]; omega)
      subst hA1; subst hA2
      obtain ⟨⟨x0, x1⟩, y0, y1, y2⟩ := Hok.out j hlt
      clear Hok R hb1 hb2 hc1 hc2 hN Hx
      generalize (nats xs)[j]?.getD 0 = x at *
      generalize ls[j]?.getD 0 = y at *
      have f0 : (y == 0) = false := by simpa using y0
      clear y0
      go_wp2_with fail
      go_roundw
      case rel => exact ⟨j + 1, by omega, by go_num, rfl, trivial⟩
      case measure => simp [intOf]; omega
    · obtain rfl : j = n := by omega
      clear Hok R
      go_wp2_with fail
      refine hN.out.mono ?_
      rintro e w1 ⟨rfl, hS⟩
      obtain ⟨val, Q, m, top, S0⟩ := SumSt.start hS Hx.out.2.2.1 Hx.out.2.2.2 Hx.out.1 h2
      have S0 := Lib.hid S0
      clear hS hN
      go_wp2_with fail
      go_loopw [6, 13] (fun v6 v13 wr => ∃ k : Nat, v13 = .int .i64 k ∧ Hid (∃ bits val Q m top c nx carry, SumSt w xs ls next k v6 bits wr val Q m top c nx carry)) (fun _ v13 _ => 40002 - (intOf v13).toNat)
      case atStart => exact ⟨0, rfl, Lib.hid ⟨_, _, _, _, _, _, _, _, S0.out⟩⟩
      case round =>
        obtain ⟨k, rfl, S⟩ := hrel
        obtain ⟨bits, val, Q, m2, top2, c, nx, carry, S⟩ := S.out
        obtain ⟨cv1, vs1, S1⟩ := S.sm
        have hcells := S1.cell
        have hfz := S1.frozen
        by_cases hk : (k : Int) ≤ top2
        · obtain ⟨hx, hly, hl1, hl2⟩ := Hx.out
          have hh := hgt_le hx
          obtain ⟨q1, q2, q3, q4, q5, q6⟩ := S.bounds hh (by omega) hk
          have hlitQ : ∀ y ∈ Q k, -65537 ≤ y ∧ y ≤ 65537 := by
            intro y hy
            rw [S.here] at hy
            rcases List.mem_append.1 hy with hy | hy
            · exact hly y (qs_mem hy)
            · exact S.wf y hy
          have hfew := S.few
          have hnxs := S.nxs
          have hR := reduce_any (w.heap.size + 1) w.heap.size (w.heap.size + 2) m2 k val Q top2 c nx wr _ S.gval S.sm q4 (by omega) q5 q6 ⟨q2, by omega⟩ ⟨by omega, by omega⟩ (by omega) hlitQ
          replace hR := Lib.hid hR
          replace S := Lib.hid S
          obtain ⟨_, ctop, _, _⟩ := hcells
          clear hlitQ hfew hnxs q2 q3 q4 q5 q6 hfz S1 hly hl1 hl2
          go_wp2_with fail
          refine hR.out.mono ?_
          rintro e w2 ⟨hlow, hsz, hm⟩
          rcases hr : red (Q k) nx with _ | r
          · rw [hr] at hm
            subst hm
            have hb2 := S.out.low.trans (hlow w.heap.size (by omega) (Nat.le_refl _) (by omega))
            have hnone := S.out.stop hx hk hr
            clear hR S hlow hr
            go_wp2_with fail
            exact sum_leave hnone hb2 rfl rfl rfl rfl
          · rw [hr] at hm
            obtain ⟨rfl, hlen, R2⟩ := hm
            clear hR
            obtain ⟨val1, Q1, n1, top1, g1, ⟨cv2, vs2, S2⟩, e0, e1, e2, e3, e4, e5⟩ := R2.sm
            have hlk := S2.qm.look (p := k) (by omega)
            have hcm := S2.cell.1
            have hQk := S2.q k
            rw [e0] at hQk
            obtain ⟨A, cq, hV, hcq, rdq⟩ := hQk.shape
            rw [hV] at hlk
            have hlits := R2.lits
            have hbitsQ : QI w2 (w.heap.size + 2) u6 bits := by
              have := S2.q 1000001
              rw [g1, e2 1000001 (by omega) (by omega), S.out.gq] at this
              exact this
            have hbl := S.out.bw
            have hbz := S2.lt
            have fin : Hid (∀ (z : Int) (v' : Value) (w3 : World), r.1.headD 0 = z → QI w3 (w.heap.size + 2) v' (bits ++ [z]) → (w2.alloc (.cells #[.int .i64 z] 3)).grownBy w3 u6.ownBlock → (v'.ownBlock = u6.ownBlock ∨ ∀ b, v'.ownBlock = some b → (w2.alloc (.cells #[.int .i64 z] 3)).heap.size ≤ b) →
                ∃ val Q n top, SumSt w xs ls next (k + 1) v' (bits ++ [z]) w3 val Q n top (c ++ r.2.2.1) r.2.2.2 r.2.1) :=
              Lib.hid fun z v' w3 hz hq hg ho => S.out.next hx hk q1 hr R2 hz hq hg ho
            clear S R2 S2 e0 e1 e2 e3 e4 e5 hr hlow hsz hV hQk hx g1
            obtain ⟨A6, c6, hu6, hc6, _⟩ := hbitsQ.shape
            obtain ⟨L6, hL6⟩ : ∃ L6, bits.length = L6 := ⟨_, rfl⟩
            rw [hL6] at hu6 hc6
            subst hu6
            have hbl2 : bits.length ≤ 1000000 := by omega
            have hbo : w.heap.size + 2 ≤ w2.heap.size := by omega
            have hbits := Lib.hid hbitsQ
            have hbl2 := Lib.hid hbl2
            clear hbitsQ hL6 hbl
            have hal : Hid (∀ z : Int, QI (w2.alloc (.cells #[.int .i64 z] 3)) (w.heap.size + 2) (.slice A6 L6 c6) bits ∧ (w2.alloc (.cells #[.int .i64 z] 3)).cell? ⟨w2.heap.size, 0, none⟩ = some (.int .i64 z)) :=
              Lib.hid fun z => ⟨hbits.out.same fun b hb => heap_alloc_old _ _ (hbits.out.lt hb).2, by rw [cell_of_row _ _ 0 _ 3 (0, 0) (heap_alloc_new _ _)]; rfl⟩
            clear hbits
            rcases hr1 : r.1 with _ | ⟨z, zs⟩
            · rw [hr1] at hlk rdq fin hlits hcq
              rw [List.length_nil] at hlk hcq
              clear hlits hlen hr1 rdq
              have hwz : Wf 0 := ⟨by omega, by omega⟩
              go_wp2_with (at_builtin; refine push_q rfl _ _ rfl (w.heap.size + 2) (.slice A6 L6 c6) bits rfl (hal.out 0).1 0 hwz w2.heap.size rfl (hal.out 0).2 hbl2.out (by simp; omega) ?_)
              intro v' w3 hq3 hg3 ho3
              have fin2 := Lib.hid (fin.out 0 v' w3 rfl hq3 hg3 (by rw [World.size_alloc]; exact ho3))
              clear fin hal hq3 hg3 ho3 hlk hcm
              go_wp2_with fail
              go_roundw
              case rel =>
                obtain ⟨a1, a2, a3, a4, a5⟩ := fin2.out
                exact ⟨k + 1, by go_num, Lib.hid ⟨_, _, _, _, _, _, _, _, a5⟩⟩
              case measure => simp [intOf]; omega
            · obtain rfl : zs = [] := by
                rw [hr1] at hlen
                cases zs with
                | nil => rfl
                | cons _ _ => simp at hlen
              rw [hr1] at hlk rdq fin hlits hcq
              rw [List.length_singleton] at hlk hcq
              have hwz : Wf z := by have := hlits z (by simp); exact ⟨by omega, by omega⟩
              obtain ⟨gb, go, hA, _, hcz⟩ := rdq.2 (by simp)
              subst hA
              have cz := hcz 0 (by simp)
              simp only [List.getElem?_cons_zero, Option.getD_some, Nat.add_zero] at cz
              clear hlits hlen hr1 rdq hcz
              go_wp2_with (at_builtin; refine push_q rfl _ _ rfl (w.heap.size + 2) (.slice A6 L6 c6) bits rfl (hal.out z).1 z hwz w2.heap.size rfl (hal.out z).2 hbl2.out (by simp; omega) ?_)
              intro v' w3 hq3 hg3 ho3
              have fin2 := Lib.hid (fin.out z v' w3 rfl hq3 hg3 (by rw [World.size_alloc]; exact ho3))
              clear fin hal hq3 hg3 ho3 hlk hcm
              go_wp2_with fail
              go_roundw
              case rel =>
                obtain ⟨a1, a2, a3, a4, a5⟩ := fin2.out
                exact ⟨k + 1, by go_num, Lib.hid ⟨_, _, _, _, _, _, _, _, a5⟩⟩
              case measure => simp [intOf]; omega
        · have hres := fun W hb => S.res (W := W) hcells.2.2.1 hb
          have hend := S.ends hk
          have hres := Lib.hid hres
          clear S S1 hfz
          obtain ⟨_, ctop, ccl, cnx⟩ := hcells
          go_wp2_with fail
          go_quiet (fail)
          go_wp2_with fail
          exact sum_done hend (hres.out _ (below_drewN (Below.refl _ _) _)) rfl rfl rfl rfl
end Go.Proofs.Ytpeklcbjhkchlaa
