/- SealBurst: for every byte slice, every offset in it and every change of up to four consecutive bytes: the checksum changes just where a byte changes (slices of at most 2000 bytes); nothing that was there has turned. No condition. -/
import Derived.Test.YtbhojobonihccaaLaw
import Derived.Test.YtbhojobonihccaaBits
namespace Go.Proofs.Ytbhojobonihccaa
open Go.ChangeShapes Go.WideShapes Go.ChangeAt Go.RowKit

theorem Copy_any (B : Nat) (A : Option Addr) (n c : Nat) (bs : List Nat) (w : World) (hr : Rd B w A bs) (hl : bs.length = n) (hn : A = Option.none → c = 0) (hm : n ≤ 140737488355328) :
    Calls Try.prog 17 #[.slice A n c] w fun e w' => ∃ v, e = .returned v ∧ Row w' w.heap.size v bs ∧ Below w.heap.size w w' := by
  have H := Lib.hid hl
  clear hl
  have h0 : Row w w.heap.size (.slice Option.none 0 0) [] := ⟨by simp, by simpa [cellsOf] using World.ownsRow_nil _ _ _ _⟩
  go_enter Try.func17, Try.ntmps17
  go_wp2_with (at_builtin; refine wpList_append_row rfl _ _ rfl w.heap.size _ [] rfl h0 B A n c bs rfl hr H.out hn ?c1 (Nat.le_refl _) ?_)
  case c1 => simp; omega
  intro v w1 hrow hg
  go_wp2
  go_ret
  exact ⟨_, rfl, hrow, (Below.refl _ w).grown hg (Nat.le_refl _) (fun k hk => by simp [Value.ownBlock] at hk)⟩
theorem Row.head {w : World} {base : Nat} {v : Value} {bs : List Nat} (h : Row w base v bs) (hp : 0 < bs.length) : ∃ g cap, v = .slice (some ⟨g, 0, Option.none⟩) bs.length cap ∧ base ≤ g := by
  rcases h.2.2 with ⟨_, h2⟩ | ⟨g, cap, cur, rfl, hb, _⟩
  · omega
  · exact ⟨g, cap, rfl, hb⟩
theorem Row.at_ {w : World} {base g cap n : Nat} {bs : List Nat} (h : Row w base (.slice (some ⟨g, 0, Option.none⟩) n cap) bs) (hn : bs.length = n) {j : Nat} (hj : j < n) : w.cell? ⟨g, j, Option.none⟩ = some (.int .u8 (bs[j]?.getD 0 : Nat)) ∧ w.frozen? ⟨g, j, Option.none⟩ = false := by
  subst hn
  exact ⟨by rw [h.2.cellAt j (by omega), cellsOf_at bs j hj], h.2.frozenAt j⟩
theorem Row.store {w : World} {base g cap n : Nat} {bs : List Nat} (h : Row w base (.slice (some ⟨g, 0, Option.none⟩) n cap) bs) (hn : bs.length = n) (j : Nat) (x : Nat) (hx : x < 256) : Row (w.setCell ⟨g, j, Option.none⟩ (.int .u8 (x : Int))) base (.slice (some ⟨g, 0, Option.none⟩) n cap) (bs.set j x) := by
  subst hn
  refine ⟨fun c hc => ?_, ?_⟩
  · rcases List.mem_or_eq_of_mem_set hc with h1 | h1
    · exact h.1 c h1
    · omega
  · have := (h.2.stored j (.int .u8 (x : Int))).1
    rw [List.length_set]
    simpa [cellsOf, List.map_set] using this

set_option maxHeartbeats 2000000 in
theorem sealBurst_walk (A : Option Addr) (len cap : Nat) (bs : List Nat) (at_ : Int) (by_ : Nat) (w : World) (hr : Rd w.heap.size w A bs) (hl : bs.length = len) (hm : cap ≤ maxLen) (hn : A = Option.none → cap = 0) :
    Calls Try.prog 8 #[.slice A len cap, .int .i64 at_, .int .u32 (by_ : Int)] w fun e w' => e = .returned (.bool true) ∧ Below w.heap.size w w' := by
  have Hm := hm
  unfold maxLen at hm
  by_cases hin : len ≤ 2000 ∧ 0 ≤ at_ ∧ at_ ≤ len
  · obtain ⟨hsmall, h0, h1⟩ := hin
    obtain ⟨k, rfl⟩ := Int.eq_ofNat_of_zero_le h0
    clear h0
    have hk : k ≤ len := by omega
    have Hl := Lib.hid hl
    clear hl
    go_enter Try.func8, Try.ntmps8
    go_wp2_with fail
    refine (live_any w).mono ?_
    rintro e w1 ⟨rfl, hb1⟩
    have hsz1 := hb1.size
    go_wp2_with fail
    refine (Copy_any w.heap.size A len cap bs w1 (hr.below hb1 (Nat.le_refl _)) Hl.out hn (by omega)).mono ?_
    rintro e w2 ⟨v, rfl, hrow0, hb2⟩
    have hb2' := hb1.trans (hb2.mono hsz1)
    go_wp2
    go_loopw [8, 9] (fun ch i wr => ∃ (m r : Nat) (q : Bool), k + m + r = len ∧ m ≤ 4 ∧ i = .int .i64 m ∧ ch = .bool q ∧ Hid (q = decide (by_ % 256 ^ m ≠ 0)) ∧ Row wr w.heap.size v (Crc.xors bs (Crc.delta k by_ m r)) ∧ Below w.heap.size w wr) (fun _ i _ => 4 - (intOf i).toNat)
    case atStart =>
      refine ⟨0, len - k, false, by omega, by omega, rfl, rfl, by show _ = _; simp [Nat.mod_one], ?_, hb2'⟩
      rw [Crc.xors_none bs k by_ (len - k) (by rw [Hl.out]; omega)]
      exact hrow0.base hsz1
    case round =>
      obtain ⟨m, r, q, hkr, hm4, rfl, rfl, hq, hrow, hbr⟩ := hrel
      have hszr := hbr.size
      have hxl : (Crc.xors bs (Crc.delta k by_ m r)).length = len := by rw [Crc.xors_length _ _ (by rw [Crc.delta_length, Hl.out]; omega), Hl.out]
      by_cases hgo : m < 4 ∧ 0 < r
      · obtain ⟨hm5, hr0⟩ := hgo
        obtain ⟨r', rfl⟩ : ∃ r', r = r' + 1 := ⟨r - 1, by omega⟩
        obtain ⟨hset, hget⟩ := Crc.xors_next bs k by_ m r' (by rw [Hl.out]; omega)
        obtain ⟨v', hvv⟩ : ∃ v', v' = v := ⟨v, rfl⟩
        obtain ⟨g, cp, hv, hg⟩ := hrow.head (by rw [hxl]; omega)
        rw [hxl] at hv
        subst hv
        obtain ⟨hc, hf⟩ := hrow.at_ hxl (j := k + m) (by omega)
        rw [hget, Option.getD_some] at hc
        have hy := hr.byte (k + m)
        generalize bs[k + m]?.getD 0 = y at *
        have hkm : k + m < len := by omega
        have HX := Lib.hid hset
        have Hxl := Lib.hid hxl
        clear hset hget hxl hvv
        have hlow := Lib.hid (Crc.low_next by_ m)
        obtain ⟨d, hd⟩ : ∃ d, by_ / 256 ^ m % 256 = d := ⟨_, rfl⟩
        have hd8 : d < 256 := by omega
        have hsh : (by_ : Int) / 2 ^ (8 * m) % 256 = (d : Int) := by
          rw [← hd]; exact Crc.shift_cast by_ m
        have hlow2 : Hid (decide (by_ % 256 ^ (m + 1) ≠ 0) = (decide (by_ % 256 ^ m ≠ 0) || decide (d ≠ 0))) := by rw [← hd]; exact hlow.out
        rw [hd] at HX
        have hx : bits .xor .u8 (y : Int) (d : Int) = ((y ^^^ d : Nat) : Int) := u8_xor_nat y d hy hd8
        have hstore := fun hyd => hrow.store Hxl.out (k + m) (y ^^^ d) hyd
        have hyd := Crc.xor_lt8 hy hd8
        have hst := hstore hyd
        rw [HX.out] at hst
        clear hstore hd hlow
        have hb3 := hbr.setCell (p := ⟨g, k + m, Option.none⟩) hg (.int .u8 ((y ^^^ d : Nat) : Int))
        cases q
        · go_wp2
          go_roundw
          case rel =>
            refine ⟨m + 1, r', decide (d ≠ 0), by omega, by omega, by go_num, ?_, by show _ = _; rw [hlow2.out, ← hq.out, Bool.false_or], hst, hb3⟩
            congr 1
            by_cases e : d = 0
            · subst e; rfl
            · rw [decide_eq_true e, bne_iff_ne]; omega
          case measure => simp [intOf]; omega
        · go_wp2
          go_roundw
          case rel =>
            exact ⟨m + 1, r', true, by omega, by omega, by go_num, rfl, by show _ = _; rw [hlow2.out, ← hq.out, Bool.true_or], hst, hb3⟩
          case measure => simp [intOf]; omega
      · have hout : Hid (m = 4 ∨ r = 0) := by show _ ∨ _; omega
        have hcase : (m : Int) < 4 → ¬ ((k : Int) + m < len) := by intro h; omega
        obtain ⟨A3, c3, hv, hc3, hm3, hrd3⟩ := hrow.shape
        rw [hxl] at hv hc3
        subst hv
        have hburst := Lib.hid (Crc.crc_burst bs k by_ m r (by rw [Hl.out]; omega) hm4)
        have Hxl := Lib.hid hxl
        have hrb := hr.below hbr (Nat.le_refl _)
        have hne : Hid ((((Crc.crc (Crc.xors bs (Crc.delta k by_ m r)) : Nat) : Int) != ((Crc.crc bs : Nat) : Int)) = q) := by
          show _ = _
          rw [hq.out]
          by_cases e : by_ % 256 ^ m = 0
          · rw [hburst.out.2 e]; simp [e]
          · have h2 : Crc.crc (Crc.xors bs (Crc.delta k by_ m r)) ≠ Crc.crc bs := fun h => e (hburst.out.1 h)
            rw [decide_eq_true e, bne_iff_ne]; omega
        generalize Crc.xors bs (Crc.delta k by_ m r) = X at *
        clear hxl hburst hq
        by_cases h4 : m < 4
        all_goals
          go_wp2_with fail
          refine (Sum_any _ A3 len c3 X wr hrd3 (Nat.le_refl _) Hxl.out (by unfold maxLen; omega)).mono ?_
          rintro e w5 ⟨rfl, hb5⟩
          go_wp2_with fail
          refine (Sum_any w.heap.size A len cap bs w5 (hrb.below hb5 hszr) (by have := hb5.size; omega) Hl.out (by unfold maxLen; omega)).mono ?_
          rintro e w6 ⟨rfl, hb6⟩
          have hne' := hne.out
          have hbw : Below w.heap.size w w6 := (hbr.trans (hb5.mono hszr)).trans (hb6.mono (by have := hb5.size; omega))
          cases q
          all_goals
            go_wp2
            go_ret
            exact ⟨rfl, hbw⟩
  · by_cases hbig : 2000 < len
    · clear hin
      go_enter Try.func8, Try.ntmps8
      go_wp2_with fail
      refine (live_any w).mono ?_
      rintro e w1 ⟨rfl, hb1⟩
      go_wp2
      go_ret
      exact ⟨rfl, hb1⟩
    · by_cases hneg : at_ < 0
      · clear hin
        go_enter Try.func8, Try.ntmps8
        go_wp2_with fail
        refine (live_any w).mono ?_
        rintro e w1 ⟨rfl, hb1⟩
        go_wp2
        go_ret
        exact ⟨rfl, hb1⟩
      · have hgt : (len : Int) < at_ := by omega
        clear hin
        go_enter Try.func8, Try.ntmps8
        go_wp2_with fail
        refine (live_any w).mono ?_
        rintro e w1 ⟨rfl, hb1⟩
        go_wp2
        go_ret
        exact ⟨rfl, hb1⟩

set_option maxRecDepth 100000 in
theorem sealBurst_lifted (os : Os) (started : os.Started) (H : Type) (enc : TypeId × Value → H) :
    ReturnsInHanded {} Try.checked os 8 .any (Rows.sealBurstSpec.pre6 enc Try.prog Try.f8 Rows.sealBurstRow.domain false) (Rows.sealBurstSpec.post enc Try.prog Try.f8 false true false false) := by
  refine returnsInHanded_of_change (C := Try.checked) Try.own started (by kernel_rfl) Try.func8
    (ChangeSpec.witness6 (enc := enc) (C := Try.checked) false ⟨#[], #[.slice Option.none 0 0, .int .i64 0, .int .u32 0], []⟩ 8 (by kernel_rfl) (by kernel_rfl) (by kernel_rfl) (by kernel_rfl)) ?_
  intro W base args ds gs before hval0 hW _ _
  have hval : ∀ (j : Nat) t v, Try.f8.params[j]? = some t → args[j]? = some v → Value.okWide Try.prog W .any base t v := hval0
  have hW' := hW
  obtain ⟨p, q, hA0, hV, rfl, _, _⟩ := hW
  have hA : DataW.TrodAll enc Try.prog W 0 (fun _ => true) true Try.f8.params.toList args.toList ds p := hA0
  rw [Try.params8] at hA hval
  have hlt : ∀ x ∈ p, x.block < W.heap.size := fun x hx => hW'.lt x (List.mem_append_left _ hx)
  obtain ⟨rfl, rfl⟩ := trodVars_none hV
  clear hA0 hval0
  obtain ⟨v0, vs0, d0, ds0, p0, q0, hargs0, rfl, rfl, h0, r0⟩ := trodAll_cons hA
  obtain ⟨v1, vs1, d1, ds1, p1, q1, hargs1, rfl, rfl, h1, r1⟩ := trodAll_cons r0
  obtain ⟨v2, vs2, d2, ds2, p2, q2, hargs2, rfl, rfl, h2, r2⟩ := trodAll_cons r1
  obtain ⟨hlast, rfl, rfl⟩ := trodAll_nil r2
  obtain rfl : args = #[v0, v1, v2] := by
    apply Array.toList_inj.1
    rw [hargs0, hargs1, hargs2, hlast]
  obtain ⟨A0, len0, cap0, bs0, rfl, hr0, hl0, hlc0, hm0, hn0⟩ := open_bytes (hval 0 22 v0 rfl rfl) h0 (fun x hx => hlt x (List.mem_append_left _ hx))
  obtain ⟨n1, rfl, rfl, rfl, wf1⟩ := open_int Try.underlying3 (hval 1 3 v1 rfl rfl) h1
  obtain ⟨n2, rfl, rfl, rfl, wf2⟩ := open_int Try.underlying24 (hval 2 24 v2 rfl rfl) h2
  have hb2 := bounds_u32 wf2
  obtain ⟨k2, rfl⟩ := Int.eq_ofNat_of_zero_le hb2.1
  refine (sealBurst_walk A0 len0 cap0 bs0 n1 k2 W hr0 hl0 hm0 hn0).mono fun e W' ⟨he, hb⟩ => ?_
  subst he
  exact ⟨_, rfl, law_post Try.laidOut hW' rfl (by rw [Try.params8]; decide +kernel) 4 rfl Try.underlying4 rfl hb⟩

theorem sealBurst_holds : Rows.SealBurstSaid :=
  OpenClaim.holds_of_wide 8 Try.f8 rfl rfl rfl rfl rfl rfl rfl ⟨rfl, rfl, rfl, rfl, rfl⟩ rfl rfl rfl rfl rfl (by kernel_rfl) Try.func8 (by kernel_rfl)
    (of_decide_eq_true (by kernel_rfl)) (by unfold Func.isWrapper; first | (rw [if_pos (by decide +kernel)]; kernel_rfl) | (rw [if_neg (by decide +kernel)]; exact ⟨rfl, rfl⟩))
    (fun os started H enc _ => sealBurst_lifted os started H enc)
end Go.Proofs.Ytbhojobonihccaa
