/- The walks of PutInt, PutText, PutInts, and of the document's own. -/
import Derived.Test.YtnebjihjfghlfaaPut
namespace Go.Proofs.Ytnebjihjfghlfaa
open Go.RowKit

theorem PutInt_any (B : Nat) (A : Option Addr) (len cap : Nat) (bs : List Nat) (z : Int) (w : World) (hr : Rd B w A bs) (hB : B ≤ w.heap.size) (hl : bs.length = len) (hn : A = Option.none → cap = 0) (hz : Wf z) (hlen : len ≤ 35184372088832) :
    Calls Try.prog 15 #[.slice A len cap, .int .i64 z] w fun e w' => ∃ v, e = .returned v ∧ Row w' w.heap.size v (bs ++ Oct.enc z) ∧ Below w.heap.size w w' := by
  have H := Lib.hid hl
  clear hl
  go_enter Try.func15, Try.ntmps15
  go_wp2_with fail
  refine (room_any B A len cap bs 10 w hr hB H.out hn (by omega) (by omega) hlen).mono ?_
  rintro e w1 ⟨v1, rfl, hr1, hb1⟩
  go_wp2_with fail
  refine (appendInt_any w.heap.size v1 bs z w1 hr1 hb1.size hz (by rw [H.out]; omega)).mono ?_
  rintro e w2 ⟨v2, rfl, hr2, hb2⟩
  go_wp2
  go_ret
  exact ⟨_, rfl, hr2, hb1.trans hb2⟩

theorem zz_ref0 (z : Int) (h0 : 0 ≤ z) (h1 : z ≤ 9223372036854775807) : IntKind.u64.wrap (2 * IntKind.u64.wrap z) = ((Oct.zz z : Nat) : Int) := by
  rw [wrap_u64_, wrap_u64_, Oct.zz, if_pos h0]; omega
theorem byteLit (w : World) (x : Nat) (hx : x < 256) : Rd (w.heap.size + 1) (w.alloc (.cells #[.int .u8 (x : Int)] 5)) (some ⟨w.heap.size, 0, none⟩) [x] := Rd.fresh w _ [x] (by simpa using hx) (by simp [cellsOf])

set_option maxRecDepth 20000 in
set_option maxHeartbeats 1000000 in
/-- The plain PutInt from the place where its number stands: the loop. -/
theorem RPutInt_any (B : Nat) (A : Option Addr) (len cap : Nat) (bs : List Nat) (z : Int) (w : World) (hr : Rd B w A bs) (hB : B ≤ w.heap.size) (hl : bs.length = len) (hn : A = Option.none → cap = 0) (hz : Wf z) (hlen : len ≤ 35184372088832) :
    Calls Try.prog 16 #[.slice A len cap, .int .i64 z] w fun e w' => ∃ v, e = .returned v ∧ Row w' w.heap.size v (bs ++ Oct.enc z) ∧ Below w.heap.size w w' := by
  have H := Lib.hid hl
  clear hl
  have hb0 : Below w.heap.size w (w.alloc (.cells #[] 5)) := (Below.refl _ w).alloc (Nat.le_refl _) _
  have hrow0 : Row (w.alloc (.cells #[] 5)) w.heap.size (.slice (some ⟨w.heap.size, 0, none⟩) 0 0) [] := ⟨by simp, by simpa [cellsOf] using World.ownsRow_made w #[] 0 (Nat.le_refl _) (Nat.zero_le _) rfl⟩
  obtain ⟨z0, z1⟩ := hz
  have hzlt := Lib.hid (Oct.zz_lt z0 z1)
  have hlenB : Hid (bs.length ≤ 35184372088832) := by show _ ≤ _; rw [H.out]; exact hlen
  rcases (show 0 ≤ z ∨ z < 0 by omega) with h0 | h0
  all_goals
    have hstart : Hid (∃ u : Nat, u = Oct.zz z ∧ ((0 ≤ z → Value.int IntKind.u64 (2 * z) = .int .u64 (u : Int)) ∧ (z < 0 → Value.int IntKind.u64 (2 * -(z + 1) + 1) = .int .u64 (u : Int)))) := by
      refine ⟨_, rfl, fun h => ?_, fun h => ?_⟩
      · rw [Oct.zz, if_pos h]; congr 1; omega
      · rw [Oct.zz, if_neg (by omega)]; congr 1; omega
    go_enter Try.func16, Try.ntmps16
    go_wp2_with (at_builtin; refine wpList_append_row rfl _ _ rfl w.heap.size _ [] rfl hrow0 B A len cap bs rfl (hr.below hb0 hB) H.out hn ?c1 hb0.size ?_)
    case c1 => rw [List.length_nil]; omega
    intro v1 w1 hr1 hg1
    have hb1 := hb0.grown hg1 hb0.size (fun k hk => (hrow0.2.lt k hk).1)
    clear hg1 hrow0 hb0
    go_wp2
    go_loopw [5, 6] (fun uv out wr => ∃ (l : List Nat) (f u : Nat), uv = .int .u64 (u : Int) ∧ Hid (l ++ Oct.grp f u = Oct.enc z) ∧ Hid (u < 2 * 128 ^ f) ∧ Hid (l.length + f = 9) ∧ Row wr w.heap.size out (bs ++ l) ∧ Below w.heap.size w wr) (fun uv _ _ => (intOf uv).toNat)
    case atStart =>
      obtain ⟨u, hu, hu1, hu2⟩ := hstart.out
      refine ⟨[], 9, u, by first | exact hu1 h0 | exact hu2 h0, by show _ = _; rw [hu]; rfl, by show _ < _; rw [Oct.p9, hu]; have := hzlt.out; omega, rfl, by rw [List.append_nil]; exact hr1, hb1⟩
    case round =>
      obtain ⟨l, f, u, rfl, hgrp, hu, hlf, hrow, hbr⟩ := hrel
      obtain ⟨out, rfl⟩ : ∃ out, out = u6 := ⟨_, rfl⟩
      have hszr := hbr.size
      have hu63 : u ≤ 18446744073709551615 := by
        have h1 := hu.out
        have h2 : 128 ^ f ≤ 128 ^ 9 := Nat.pow_le_pow_right (by omega) (by have := hlf.out; omega)
        rw [Oct.p9] at h2
        omega
      have hlL : Hid ((bs ++ l).length ≤ 35184372088842) := by show _ ≤ _; rw [List.length_append]; have := hlf.out; have := hlenB.out; omega
      by_cases h128 : 128 ≤ u
      · cases f with
        | zero => exfalso; have := hu.out; simp at this; omega
        | succ f =>
          obtain ⟨x, hx⟩ : ∃ x, u % 128 + 128 = x := ⟨_, rfl⟩
          have hxi : (u : Int) % 128 + 128 = (x : Int) := by omega
          have hx256 : x < 256 := by omega
          have hxlo : 128 ≤ x := by omega
          have hg2 : Hid ((l ++ [x]) ++ Oct.grp f (u / 128) = Oct.enc z) := by
            show _ = _
            rw [← hgrp.out, Oct.grp, if_neg (by omega), List.append_assoc, hx]; rfl
          have hd : Hid (((u / 128 : Nat) : Int) = (u : Int) / 128) := by show _ = _; omega
          have hu3 : Hid (u / 128 < 2 * 128 ^ f) := by show _ < _; have := hu.out; rw [Nat.pow_succ] at this; omega
          clear hx
          go_wp2_with (at_builtin; refine wpList_append_row rfl _ _ rfl w.heap.size _ _ rfl (hrow.alloc _) (wr.heap.size + 1) (some ⟨wr.heap.size, 0, none⟩) 1 1 [x] rfl (byteLit wr x hx256) rfl (by intro h; cases h) ?b1 ?b2 ?_)
          case b1 => have := hlL.out; omega
          case b2 => simp; omega
          intro v2 w2 hr2 hg2'
          have hb2 := (hbr.alloc hszr _).grown hg2' (by simp; omega) (fun k hk => (hrow.2.lt k hk).1)
          go_wp2
          go_roundw
          case rel => exact ⟨l ++ [x], f, u / 128, by rw [hd.out], hg2, hu3, by show _ = _; rw [List.length_append]; have := hlf.out; simp; omega, hr2, hb2⟩
          case measure => simp [intOf]; omega
      · have hg2 : Hid (l ++ [u] = Oct.enc z) := by
          show _ = _
          rw [← hgrp.out]
          cases f with
          | zero => rfl
          | succ f => rw [Oct.grp, if_pos (by omega)]
        have hu256 : u < 256 := by omega
        go_wp2_with (at_builtin; refine wpList_append_row rfl _ _ rfl w.heap.size _ _ rfl (hrow.alloc _) (wr.heap.size + 1) (some ⟨wr.heap.size, 0, none⟩) 1 1 [u] rfl (byteLit wr u hu256) rfl (by intro h; cases h) ?b1 ?b2 ?_)
        case b1 => have := hlL.out; omega
        case b2 => simp; omega
        intro v2 w2 hr2 hg2'
        have hb2 := (hbr.alloc hszr _).grown hg2' (by simp; omega) (fun k hk => (hrow.2.lt k hk).1)
        rw [hg2.out] at hr2
        go_wp2
        go_ret
        exact ⟨_, rfl, hr2, hb2⟩

theorem wf_nat (n : Nat) (h : n ≤ 9223372036854775807) : Wf (n : Int) := ⟨by omega, by omega⟩
def encText (t : ByteArray) : List Nat := Oct.enc (t.size : Int) ++ sb t
def encInts (zs : List Int) : List Nat := Oct.enc (zs.length : Int) ++ zs.flatMap Oct.enc
theorem flat_take (zs : List Int) (k : Nat) (h : k < zs.length) : (zs.take (k + 1)).flatMap Oct.enc = (zs.take k).flatMap Oct.enc ++ Oct.enc (zs[k]?.getD 0) := by
  rw [List.take_succ_eq_append_getElem h, List.flatMap_append, List.getElem?_eq_getElem h]
  simp
theorem flat_len (zs : List Int) : (zs.flatMap Oct.enc).length ≤ 10 * zs.length := by
  induction zs with
  | nil => simp
  | cons z zs ih => have := Oct.enc_len z; simp only [List.flatMap_cons, List.length_append, List.length_cons]; omega

theorem PutText_any (B : Nat) (A : Option Addr) (len cap : Nat) (bs : List Nat) (t : ByteArray) (w : World) (hr : Rd B w A bs) (hB : B ≤ w.heap.size) (hl : bs.length = len) (hn : A = Option.none → cap = 0) (hlen : len ≤ 1000000000) (ht : t.size ≤ 1000000000) :
    Calls Try.prog 19 #[.slice A len cap, .string t] w fun e w' => ∃ v, e = .returned v ∧ Row w' w.heap.size v (bs ++ encText t) ∧ Below w.heap.size w w' := by
  have H := Lib.hid hl
  have hel := Oct.enc_len (t.size : Int)
  have hL : Hid ((bs ++ Oct.enc (t.size : Int)).length ≤ 1000000010) := by show _ ≤ _; rw [List.length_append]; omega
  clear hl
  go_enter Try.func19, Try.ntmps19
  go_wp2_with fail
  refine (room_any B A len cap bs _ w hr hB H.out hn (by omega) (by omega) (by omega)).mono ?_
  rintro e w1 ⟨v1, rfl, hr1, hb1⟩
  have hsz1 := hb1.size
  go_wp2_with fail
  refine (appendInt_any w.heap.size v1 bs _ w1 hr1 hsz1 (wf_nat t.size (by omega)) (by rw [H.out]; omega)).mono ?_
  rintro e w2 ⟨v2, rfl, hr2, hb2⟩
  have hb2' := hb1.trans hb2
  have hsz2 := hb2'.size
  go_wp2_with (at_builtin; refine wpList_append_text rfl _ _ rfl w.heap.size v2 _ rfl hr2 t rfl ?b1 hsz2 ?_)
  case b1 => have := hL.out; omega
  intro v3 w3 hr3 hg3
  have hb3 := hb2'.grown hg3 hsz2 (fun k hk => (hr2.2.lt k hk).1)
  go_wp2
  go_ret
  exact ⟨_, rfl, hr3, hb3⟩
theorem RPutText_any (B : Nat) (A : Option Addr) (len cap : Nat) (bs : List Nat) (t : ByteArray) (w : World) (hr : Rd B w A bs) (hB : B ≤ w.heap.size) (hl : bs.length = len) (hn : A = Option.none → cap = 0) (hlen : len ≤ 1000000000) (ht : t.size ≤ 1000000000) :
    Calls Try.prog 20 #[.slice A len cap, .string t] w fun e w' => ∃ v, e = .returned v ∧ Row w' w.heap.size v (bs ++ encText t) ∧ Below w.heap.size w w' := by
  have H := Lib.hid hl
  have hel := Oct.enc_len (t.size : Int)
  have hL : Hid ((bs ++ Oct.enc (t.size : Int)).length ≤ 1000000010) := by show _ ≤ _; rw [List.length_append]; omega
  clear hl
  go_enter Try.func20, Try.ntmps20
  go_wp2_with fail
  refine (RPutInt_any B A len cap bs _ w hr hB H.out hn (wf_nat t.size (by omega)) (by omega)).mono ?_
  rintro e w2 ⟨v2, rfl, hr2, hb2'⟩
  have hsz2 := hb2'.size
  go_wp2_with (at_builtin; refine wpList_append_text rfl _ _ rfl w.heap.size v2 _ rfl hr2 t rfl ?b1 hsz2 ?_)
  case b1 => have := hL.out; omega
  intro v3 w3 hr3 hg3
  have hb3 := hb2'.grown hg3 hsz2 (fun k hk => (hr2.2.lt k hk).1)
  go_wp2
  go_ret
  exact ⟨_, rfl, hr3, hb3⟩

set_option maxHeartbeats 1000000 in
theorem PutInts_any (B C : Nat) (A D : Option Addr) (len cap m d : Nat) (bs : List Nat) (zs : List Int) (w : World) (hr : Rd B w A bs) (hB : B ≤ w.heap.size) (hl : bs.length = len) (hn : A = Option.none → cap = 0) (hlen : len ≤ 1000000000)
    (hs : RdI C w D zs) (hC : C ≤ w.heap.size) (hm : zs.length = m) (hml : m ≤ 1000000) :
    Calls Try.prog 23 #[.slice A len cap, .slice D m d] w fun e w' => ∃ v, e = .returned v ∧ Row w' w.heap.size v (bs ++ encInts zs) ∧ Below w.heap.size w w' := by
  have H := Lib.hid hl
  have HM := Lib.hid hm
  have hel := Oct.enc_len (m : Int)
  clear hl hm
  go_enter Try.func23, Try.ntmps23
  go_wp2_with fail
  refine (room_any B A len cap bs _ w hr hB H.out hn (by omega) (by omega) (by omega)).mono ?_
  rintro e w1 ⟨v1, rfl, hr1, hb1⟩
  have hsz1 := hb1.size
  go_wp2_with fail
  refine (appendInt_any w.heap.size v1 bs _ w1 hr1 hsz1 (wf_nat m (by omega)) (by rw [H.out]; omega)).mono ?_
  rintro e w2 ⟨v2, rfl, hr2, hb2⟩
  have hb2' := hb1.trans hb2
  go_wp2
  go_loopw [5, 18] (fun out i wr => ∃ k : Nat, k ≤ m ∧ i = .int .i64 k ∧ Row wr w.heap.size out (bs ++ (Oct.enc (m : Int) ++ (zs.take k).flatMap Oct.enc)) ∧ Below w.heap.size w wr) (fun _ i _ => m - (intOf i).toNat)
  case atStart => exact ⟨0, by omega, rfl, by simpa using hr2, hb2'⟩
  case round =>
    obtain ⟨k, hk, rfl, hrow, hbr⟩ := hrel
    obtain ⟨out, rfl⟩ : ∃ out, out = u5 := ⟨_, rfl⟩
    have hszr := hbr.size
    have hbd : Hid ((bs ++ (Oct.enc (m : Int) ++ (zs.take k).flatMap Oct.enc)).length ≤ 140737488355000) := by
      show _ ≤ _
      have h1 := flat_len (zs.take k)
      rw [List.length_take] at h1
      rw [List.length_append, List.length_append, H.out]
      omega
    by_cases hlt : k < m
    · obtain ⟨b, off, rfl, _, hc⟩ := (hs.below hbr hC).2 (by rw [HM.out]; omega)
      have hck := hc k (by rw [HM.out]; exact hlt)
      have hz := hs.wf k
      have hstep : Hid (bs ++ (Oct.enc (m : Int) ++ (zs.take (k + 1)).flatMap Oct.enc) = bs ++ (Oct.enc (m : Int) ++ (zs.take k).flatMap Oct.enc) ++ Oct.enc (zs[k]?.getD 0)) := by
        show _ = _
        rw [flat_take zs k (by rw [HM.out]; exact hlt)]
        simp only [List.append_assoc]
      clear hc
      generalize zs[k]?.getD 0 = x at *
      generalize bs ++ (Oct.enc (m : Int) ++ (zs.take k).flatMap Oct.enc) = L at *
      go_wp2_with fail
      refine (appendInt_any w.heap.size out L x wr hrow hszr hz hbd.out).mono ?_
      rintro e w3 ⟨v3, rfl, hr3, hb3⟩
      go_wp2
      go_roundw
      case rel => exact ⟨k + 1, by omega, by go_num, by rw [hstep.out]; exact hr3, hbr.trans hb3⟩
      case measure => simp [intOf]; omega
    · obtain rfl : k = m := by omega
      rw [List.take_of_length_le (by rw [HM.out]; omega)] at hrow
      have hfin : Hid (bs ++ (Oct.enc (k : Int) ++ zs.flatMap Oct.enc) = bs ++ encInts zs) := by show _ = _; rw [encInts, HM.out]
      rw [hfin.out] at hrow
      go_wp2
      go_ret
      exact ⟨_, rfl, hrow, hbr⟩

set_option maxHeartbeats 1000000 in
theorem RPutInts_any (B C : Nat) (A D : Option Addr) (len cap m d : Nat) (bs : List Nat) (zs : List Int) (w : World) (hr : Rd B w A bs) (hB : B ≤ w.heap.size) (hl : bs.length = len) (hn : A = Option.none → cap = 0) (hlen : len ≤ 1000000000)
    (hs : RdI C w D zs) (hC : C ≤ w.heap.size) (hm : zs.length = m) (hml : m ≤ 1000000) :
    Calls Try.prog 24 #[.slice A len cap, .slice D m d] w fun e w' => ∃ v, e = .returned v ∧ Row w' w.heap.size v (bs ++ encInts zs) ∧ Below w.heap.size w w' := by
  have H := Lib.hid hl
  have HM := Lib.hid hm
  have hel := Oct.enc_len (m : Int)
  clear hl hm
  go_enter Try.func24, Try.ntmps24
  go_wp2_with fail
  refine (RPutInt_any B A len cap bs _ w hr hB H.out hn (wf_nat m (by omega)) (by omega)).mono ?_
  rintro e w2 ⟨v2, rfl, hr2, hb2'⟩
  go_wp2
  go_loopw [5, 6] (fun out i wr => ∃ k : Nat, k ≤ m ∧ i = .int .i64 k ∧ Row wr w.heap.size out (bs ++ (Oct.enc (m : Int) ++ (zs.take k).flatMap Oct.enc)) ∧ Below w.heap.size w wr) (fun _ i _ => m - (intOf i).toNat)
  case atStart => exact ⟨0, by omega, rfl, by simpa using hr2, hb2'⟩
  case round =>
    obtain ⟨k, hk, rfl, hrow, hbr⟩ := hrel
    obtain ⟨out, rfl⟩ : ∃ out, out = u5 := ⟨_, rfl⟩
    have hszr := hbr.size
    have hbd : Hid ((bs ++ (Oct.enc (m : Int) ++ (zs.take k).flatMap Oct.enc)).length ≤ 35184372088832) := by
      show _ ≤ _
      have h1 := flat_len (zs.take k)
      rw [List.length_take] at h1
      rw [List.length_append, List.length_append, H.out]
      omega
    by_cases hlt : k < m
    · obtain ⟨b, off, rfl, _, hc⟩ := (hs.below hbr hC).2 (by rw [HM.out]; omega)
      have hck := hc k (by rw [HM.out]; exact hlt)
      have hz := hs.wf k
      have hstep : Hid (bs ++ (Oct.enc (m : Int) ++ (zs.take (k + 1)).flatMap Oct.enc) = bs ++ (Oct.enc (m : Int) ++ (zs.take k).flatMap Oct.enc) ++ Oct.enc (zs[k]?.getD 0)) := by
        show _ = _
        rw [flat_take zs k (by rw [HM.out]; exact hlt)]
        simp only [List.append_assoc]
      clear hc
      generalize zs[k]?.getD 0 = x at *
      generalize bs ++ (Oct.enc (m : Int) ++ (zs.take k).flatMap Oct.enc) = L at *
      obtain ⟨A3, c3, hv3, _, _, hrd3⟩ := hrow.shape
      have hn3 := hrow.nil_cap hv3
      subst hv3
      go_wp2_with fail
      refine (RPutInt_any wr.heap.size A3 L.length c3 L x wr hrd3 (Nat.le_refl _) rfl hn3 hz hbd.out).mono ?_
      rintro e w3 ⟨v3, rfl, hr3, hb3⟩
      go_wp2
      go_roundw
      case rel => exact ⟨k + 1, by omega, by go_num, by rw [hstep.out]; exact hr3.base hszr, hbr.trans (hb3.mono hszr)⟩
      case measure => simp [intOf]; omega
    · obtain rfl : k = m := by omega
      rw [List.take_of_length_le (by rw [HM.out]; omega)] at hrow
      have hfin : Hid (bs ++ (Oct.enc (k : Int) ++ zs.flatMap Oct.enc) = bs ++ encInts zs) := by show _ = _; rw [encInts, HM.out]
      rw [hfin.out] at hrow
      go_wp2
      go_ret
      exact ⟨_, rfl, hrow, hbr⟩
end Go.Proofs.Ytnebjihjfghlfaa
