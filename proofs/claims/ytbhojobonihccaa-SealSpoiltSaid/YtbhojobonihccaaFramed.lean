/- The walks of Few and framed; a slice of slices of bytes that comes in. -/
import Derived.Test.YtbhojobonihccaaSame
import Derived.Test.YtbhojobonihccaaSpoilM
import Derived.Deep.Matrix
namespace Go.Proofs.Ytbhojobonihccaa
open Go.ChangeShapes Go.WideShapes Go.ChangeAt Go.RowKit

/-- A slice of slices of bytes that came in: as RdB; a slice that leads nowhere has no room. -/
def RdN (B : Nat) (w : World) (A : Option Addr) (xss : List (List Nat)) : Prop :=
  0 < xss.length → ∃ b off, A = some ⟨b, off, Option.none⟩ ∧ b < B ∧ ∀ j, j < xss.length → ∃ E c, w.cell? ⟨b, off + j, Option.none⟩ = some (.slice E (xss[j]?.getD []).length c) ∧ Rd B w E (xss[j]?.getD []) ∧ (E = Option.none → c = 0)
theorem RdN.below {B B' : Nat} {w w' : World} {A : Option Addr} {xss : List (List Nat)} (h : RdN B w A xss) (hb : Below B' w w') (hB : B ≤ B') : RdN B w' A xss := by
  intro hn
  obtain ⟨b, off, rfl, hlt, hc⟩ := h hn
  refine ⟨b, off, rfl, hlt, fun j hj => ?_⟩
  obtain ⟨E, c, h1, h2, h3⟩ := hc j hj
  exact ⟨E, c, (hb.cell (p := ⟨b, off + j, Option.none⟩) (by show b < B'; omega)).trans h1, h2.below hb hB, h3⟩
theorem RdN.rdB {B : Nat} {w : World} {A : Option Addr} {xss : List (List Nat)} (h : RdN B w A xss) : RdB B w A xss := by
  intro hn
  obtain ⟨b, off, rfl, hlt, hc⟩ := h hn
  exact ⟨b, off, rfl, hlt, fun j hj => (hc j hj).imp fun _ ⟨c, h1, h2, _⟩ => ⟨c, h1, h2⟩⟩

theorem Try.cells22 : Try.prog.cellsOf 22 = 1 := by kernel_rfl
theorem open_rowsB {H : Type} {enc : TypeId × Value → H} {W : World} {base : Nat} {v : Value} {d : DataW H} {p : List MemPlace} (hval : Value.okWide Try.prog W .any base 35 v) (h : DataW.Trod enc Try.prog W 0 (fun _ => true) true 35 v d p)
    (hlt : ∀ x ∈ p, x.block < W.heap.size) :
    ∃ A cap xss, v = .slice A xss.length cap ∧ RdN W.heap.size W A xss ∧ xss.length ≤ cap ∧ cap ≤ maxLen ∧ ∀ x ∈ xss, ∀ c ∈ x, c < 256 := by
  obtain ⟨a0, len, cap, rfl⟩ := okWide_slice underlying35 hval
  obtain ⟨fuel, hf⟩ := h
  rcases Go.Deep.open_int_rows underlying35 Try.underlying22 Try.underlying5 Try.cells22 Try.cells5 hf with ⟨hcs, hx⟩ | ⟨a, len', cap', A, L, C, Z, hcs, _, hl, hm, hx, hrow⟩
  · simp [Value.cells] at hcs
    obtain ⟨rfl, rfl, rfl⟩ := hcs
    exact ⟨_, _, [], rfl, fun h => absurd h (by simp), Nat.le_refl _, Nat.zero_le _, fun _ h => by cases h⟩
  · simp [Value.cells] at hcs
    obtain ⟨rfl, rfl, rfl⟩ := hcs
    simp only [Prod.mk.injEq] at hx
    obtain ⟨rfl, rfl⟩ := hx
    have hnat : ∀ r, r < cap → ∀ z ∈ Z r, 0 ≤ z ∧ z ≤ 255 := fun r hr z hz => by
      simpa [Lit.wf, IntKind.min, IntKind.max, IntKind.signed, IntKind.bits] using (hrow r hr).2.2.2.2.1 z hz
    have e : ∀ j, j < len → ((List.range len).map fun r => ((Z r).take (L r)).map Int.toNat)[j]?.getD [] = ((Z j).take (L j)).map Int.toNat := fun j hj => by simp [hj]
    refine ⟨some a, cap, (List.range len).map fun r => ((Z r).take (L r)).map Int.toNat, by simp, fun hn => ?_, by simpa using hl, hm, ?_⟩
    · rw [List.length_map, List.length_range] at hn
      obtain ⟨b, off, spot⟩ := a
      have hspot : spot = Option.none := by
        have := (hrow 0 (by omega)).1
        simpa [Addr.add] using World.cell?_spot this
      subst hspot
      refine ⟨b, off, rfl, hlt (.cell b off) (List.mem_append_left _ (MemPlace.mem_row.2 ⟨0, by omega, by simp⟩)), fun j hj => ?_⟩
      rw [List.length_map, List.length_range] at hj
      obtain ⟨h1, h2, h3, h4, h5, h6, h7⟩ := hrow j (by omega)
      have el : (((Z j).take (L j)).map Int.toNat).length = L j := by rw [List.length_map, List.length_take]; omega
      rw [e j hj, el]
      refine ⟨A j, C j, by rw [← add_plain]; exact h1, ⟨?_, fun hp => ?_⟩, h6⟩
      · intro c hc
        obtain ⟨z, hz1, rfl⟩ := List.mem_map.1 hc
        have := hnat j (by omega) z (List.mem_of_mem_take hz1)
        omega
      · rw [el] at hp ⊢
        cases hA : A j with
        | none => have := h6 hA; omega
        | some a' =>
          obtain ⟨_, hc⟩ := h7 a' hA
          obtain ⟨b', off', spot'⟩ := a'
          have hs : spot' = Option.none := by simpa [Addr.add] using World.cell?_spot (hc 0 (by omega))
          subst hs
          refine ⟨b', off', rfl, hlt (.cell b' off') (List.mem_append_right _ (List.mem_flatMap.2 ⟨j, List.mem_range.2 (by omega), ?_⟩)), fun i hi => ?_⟩
          · rw [hA]
            exact MemPlace.mem_row.2 ⟨0, by omega, by simp⟩
          · have hz := hnat j (by omega) ((Z j)[i]?.getD 0) (by rw [List.getElem?_eq_getElem (by omega)]; exact List.getElem_mem (by omega))
            rw [← add_plain, hc i (by omega), List.getElem?_map, List.getElem?_take_of_lt hi, List.getElem?_eq_getElem (by omega)]
            rw [List.getElem?_eq_getElem (by omega)] at hz
            simp [List.getD, show i < (Z j).length by omega] at hz ⊢
            omega
    · intro x hx c hc
      obtain ⟨r, hr, rfl⟩ := List.mem_map.1 hx
      obtain ⟨z, hz1, rfl⟩ := List.mem_map.1 hc
      have := hnat r (by have := List.mem_range.1 hr; omega) z (List.mem_of_mem_take hz1)
      omega

def ScanTo (w : World) (l : List (List Nat)) (k : Nat) (e : Ending) (w' : World) : Prop :=
  ∃ v vs, e = .returned (.tuple #[v, .int .i64 (k : Int)]) ∧ w'.ownsRow w.heap.size 22 1 v vs.length vs ∧ Els w' w.heap.size vs l ∧ Below w.heap.size w w'
theorem Scan_to (B : Nat) (A : Option Addr) (n cap : Nat) (bs : List Nat) (l : List (List Nat)) (k : Nat) (w : World) (hr : Rd B w A bs) (hB : B ≤ w.heap.size) (hl : bs.length = n) (hcap : n ≤ cap) (hm : cap ≤ maxLen) (hlen : n ≤ 100000) (h1 : scan bs = l) (h2 : span l = k) :
    Calls Try.prog 21 #[.slice A n cap] w (ScanTo w l k) := by
  subst h1; subst h2; subst hl
  exact Scan_any B A cap bs w hr hB hcap hm hlen
theorem elem35 : Try.prog.underlying 35 = some (.slice (Try.prog.elem 35)) := by kernel_rfl
theorem size35 (w : World) : (sizeOf (Try.prog.elem 35)).run Try.prog w = .ok 1 w := by kernel_rfl
theorem run_head35 (w : World) (A : Option Addr) (len cap k : Nat) (hk : k ≤ cap) :
    (Instr.slice 35 (.slice A len cap) Option.none (some (.int .i64 (k : Int))) Option.none).run Try.prog w = .ok (.slice A k cap) w := by
  rw [run_slice_h (P := Try.prog) w 35 A len cap elem35 .i64 (k : Int) (by omega) (by omega), size35]
  have e : (A.map fun x => x.add 0) = A := by cases A <;> simp [Addr.add]
  simp [Result.andThen, sliced, e]

/-- What Few answers: where it says yes, there are at most twelve payloads, each of at most 1000 bytes. -/
def FewAns (w : World) (xss : List (List Nat)) (e : Ending) (w' : World) : Prop :=
  ∃ t : Bool, e = .returned (.bool t) ∧ w = w' ∧ (t = true → xss.length ≤ 12 ∧ ∀ j, j < xss.length → (xss[j]?.getD []).length ≤ 1000)

set_option maxHeartbeats 1000000 in
theorem Few_any (B : Nat) (A : Option Addr) (n c : Nat) (xss : List (List Nat)) (w : World) (hr : RdN B w A xss) (hl : xss.length = n) (hn : n ≤ maxLen) :
    Calls Try.prog 24 #[.slice A n c, .int .i64 12] w (FewAns w xss) := by
  unfold maxLen at hn
  have Hl := Lib.hid hl
  clear hl
  go_enter Try.func24, Try.ntmps24
  go_wp2
  go_loop [5] (fun i => ∃ j : Nat, j ≤ n ∧ j ≤ 13 ∧ i = .int .i64 j ∧ Hid (∀ k, k < j → (xss[k]?.getD []).length ≤ 1000)) (fun i => n - (intOf i).toNat)
  case atStart => exact ⟨0, by omega, by omega, rfl, fun k hk => by omega⟩
  case round =>
    obtain ⟨j, hj, hj2, rfl, hall⟩ := hrel
    by_cases hlt : j < n ∧ j ≤ 12
    · obtain ⟨h1, h2⟩ := hlt
      obtain ⟨b, off, rfl, _, hc⟩ := hr (by rw [Hl.out]; omega)
      obtain ⟨E, ec, hc1, _, _⟩ := hc j (by rw [Hl.out]; exact h1)
      have hnext : Hid ((xss[j]?.getD []).length ≤ 1000 → ∀ k, k < j + 1 → (xss[k]?.getD []).length ≤ 1000) := fun h k hk => by
        rcases Nat.lt_or_ge k j with h3 | h3
        · exact hall.out k h3
        · obtain rfl : k = j := by omega
          exact h
      clear hc
      generalize (xss[j]?.getD []).length = m at *
      by_cases hbig : 1000 < m
      · go_wp2
        go_ret
        exact ⟨false, rfl, rfl, fun h => by cases h⟩
      · have hm' : m ≤ 1000 := Nat.le_of_not_lt hbig
        clear hbig
        go_wp2
        go_round
        case rel => exact ⟨j + 1, by omega, by omega, by go_num, fun k hk => hnext.out hm' k hk⟩
        case measure => simp [intOf]; omega
    · by_cases hjn : j < n
      · have h13 : j = 13 := by omega
        subst h13
        clear hlt
        have hn12 : 12 < n := by omega
        go_wp2
        all_goals
          go_ret
          exact ⟨_, rfl, rfl, fun h => by have := of_decide_eq_true h; omega⟩
      · obtain rfl : j = n := by omega
        clear hlt hjn
        go_wp2
        all_goals
          go_ret
          exact ⟨_, rfl, rfl, fun h => by have := of_decide_eq_true h; exact ⟨by rw [Hl.out]; omega, fun k hk => hall.out k (by rw [Hl.out] at hk; exact hk)⟩⟩

theorem Row.empty (w : World) (base : Nat) : Row w base (.slice Option.none 0 0) [] := ⟨by simp, by simpa [cellsOf] using World.ownsRow_nil _ _ _ _⟩
/-- The ends of the first frames, as the cells of a slice of integers. -/
def endsOf (xss : List (List Nat)) (j : Nat) : List Value := (List.range j).map fun i => Value.int .i64 (endAt xss i : Nat)
theorem endsOf_succ (xss : List (List Nat)) (j : Nat) : endsOf xss (j + 1) = endsOf xss j ++ [.int .i64 (endAt xss j : Nat)] := by simp [endsOf, List.range_succ]
theorem endsOf_length (xss : List (List Nat)) (j : Nat) : (endsOf xss j).length = j := by simp [endsOf]
theorem endsOf_at (xss : List (List Nat)) (n j : Nat) (h : j < n) : (endsOf xss n)[j]? = some (.int .i64 (endAt xss j : Nat)) := by simp [endsOf, h]
theorem Try.info3 : (Try.prog.info? 3).map (fun i => (i.zero, i.size, i.bytes)) = some (some (.int .i64 0), 1, 8) := by kernel_rfl
theorem underlying40 : Try.prog.underlying 40 = some (.slice 3) := by kernel_rfl

def FramedAns (w : World) (xss : List (List Nat)) (e : Ending) (w' : World) : Prop :=
  ∃ v u, e = .returned (.tuple #[v, u, .bool true]) ∧ Row w' w.heap.size v (framesOf xss) ∧ w'.ownsRow w.heap.size 3 1 u xss.length (endsOf xss xss.length) ∧ Below w.heap.size w w'

set_option maxHeartbeats 2000000 in
theorem framed_any (B : Nat) (A : Option Addr) (n c : Nat) (xss : List (List Nat)) (w : World) (hr : RdN B w A xss) (hB : B ≤ w.heap.size) (hl : xss.length = n) (hn : n ≤ 12) (hs : ∀ j, j < xss.length → (xss[j]?.getD []).length ≤ 1000) :
    Calls Try.prog 25 #[.slice A n c] w (FramedAns w xss) := by
  have Hl := Lib.hid hl
  have Hs := Lib.hid hs
  clear hl hs
  obtain ⟨i0, hi, hz0, hz1, hz2⟩ := info_parts Try.info3
  go_enter Try.func25, Try.ntmps25
  go_wp2
  go_loopw [5, 6, 13] (fun v u i wr => ∃ j : Nat, j ≤ n ∧ i = .int .i64 j ∧ Row wr w.heap.size v (framesOf (xss.take j)) ∧ wr.ownsRow w.heap.size 3 1 u j (endsOf xss j) ∧ Below w.heap.size w wr ∧ Hid (span (xss.take j) ≤ 1008 * j)) (fun _ _ i _ => n - (intOf i).toNat)
  case atStart => exact ⟨0, by omega, rfl, by rw [List.take_zero]; exact Row.empty _ _, World.ownsRow_nil _ _ _ _, Below.refl _ _, by show _ ≤ _; rw [List.take_zero, span_nil]; omega⟩
  case round =>
    obtain ⟨j, hj, rfl, hrow, hown, hlow, hsp⟩ := hrel
    have hszr := hlow.size
    by_cases hlt : j < n
    · obtain ⟨b, off, rfl, hbB, hc⟩ := hr (by rw [Hl.out]; omega)
      obtain ⟨E, ec, hc1, hr1, hn1⟩ := hc j (by rw [Hl.out]; exact hlt)
      have hcw : wr.cell? ⟨b, off + j, Option.none⟩ = some (.slice E (xss[j]?.getD []).length ec) := (hlow.cell (p := ⟨b, off + j, Option.none⟩) (by show b < w.heap.size; omega)).trans hc1
      have hrw := hr1.below hlow hB
      have hx := Hs.out j (by rw [Hl.out]; exact hlt)
      have htake : Hid (framesOf (xss.take (j + 1)) = framesOf (xss.take j) ++ frameOf (xss[j]?.getD [])) := by show _ = _; rw [take_next xss j [] (by rw [Hl.out]; exact hlt), framesOf_snoc]
      have hend : Hid (endAt xss j = span (xss.take j) + (8 + (xss[j]?.getD []).length)) := span_next xss j (by rw [Hl.out]; exact hlt)
      have hfl : Hid ((framesOf (xss.take j) ++ frameOf (xss[j]?.getD [])).length = endAt xss j) := by show _ = _; rw [List.length_append, framesOf_length, frameOf_length, hend.out]
      have hfl0 : Hid ((framesOf (xss.take j)).length = span (xss.take j)) := framesOf_length _
      have hesucc : Hid (endsOf xss (j + 1) = endsOf xss j ++ [.int .i64 (endAt xss j : Nat)]) := endsOf_succ xss j
      have hsp' : Hid (span (xss.take (j + 1)) ≤ 1008 * (j + 1)) := by show endAt xss j ≤ _; rw [hend.out]; have := hsp.out; omega
      have hebound : endAt xss j ≤ 12096 := by have : endAt xss j ≤ 1008 * (j + 1) := hsp'.out; omega
      clear hc hc1
      generalize xss[j]?.getD [] = x at *
      generalize endAt xss j = en at *
      generalize framesOf (xss.take j) = fs at *
      have hcall := Frame_ok B E x.length ec x wr hrw (by omega) rfl hn1 (by omega)
      go_wp2_with fail
      refine hcall.mono ?_
      rintro e w3 ⟨v3, rfl, hr3, hb3⟩
      have hb3' := hlow.trans (hb3.mono hszr)
      have hrow3 := hrow.below hb3
      have hown3 := own_below hown hb3
      obtain ⟨A3, c3, hv3, hc3, hm3, hrd3⟩ := hr3.shape
      have hn3 := hr3.nil_cap hv3
      subst hv3
      clear hcall
      go_wp2_with (at_builtin; refine wpList_append_row rfl _ _ rfl w.heap.size _ fs rfl hrow3 w3.heap.size A3 (frameOf x).length c3 (frameOf x) rfl hrd3 rfl hn3 ?d1 hb3'.size ?_)
      case d1 => rw [hfl0.out, frameOf_length]; have := hsp.out; omega
      intro v4 w4 hr4 hg4
      have hb4 := hb3'.grown hg4 hb3'.size (fun k hk => (hrow3.2.lt k hk).1)
      have hown4 : w4.ownsRow w.heap.size 3 1 u6 j (endsOf xss j) := by
        refine hown3.kept hg4 ?_
        rcases hown3.2 with ⟨e, _⟩ | ⟨g', cap', cur, e, _, hgg, _⟩
        · exact .inl (by rw [e]; rfl)
        · exact .inr fun e2 => off_own hrow3.2 (by decide : 5 ≠ 3) g' (by rw [← e2, e]; rfl) cur hgg
      obtain ⟨A4, c4, rfl, hc4, hm4, _⟩ := hr4.shape
      rw [hfl.out] at hc4 hr4 ⊢
      have hsz4 := hb4.size
      have hown5 := hown4.alloc (.cells #[.int .i64 (en : Int)] 3)
      go_wp2_with (at_builtin; refine wpList_append_own _ rfl _ _ 40 rfl w.heap.size 3 i0 (.int .i64 0) 1 8 underlying40 hi hz0 hz1 hz2 rfl (by decide) _ j (endsOf xss j) rfl hown5 ⟨w4.heap.size, 0, Option.none⟩ 1 1 [.int .i64 (en : Int)] rfl rfl (cell_one_new _ _ _) (by simp [Value.oneCell']) (by unfold maxLen; omega) (by omega) (by simp; omega) ?_)
      intro v6 w6 hown6 hg6 _
      have hb6 := (hb4.alloc hsz4 (.cells #[.int .i64 (en : Int)] 3)).grown hg6 (by simp; omega) (fun k hk => (hown5.lt k hk).1)
      have hr6 : Row w6 w.heap.size (.slice A4 en c4) (fs ++ frameOf x) := (hr4.alloc _).apart hg6 (off_own hown5 (by decide))
      have e1 := htake.out
      have e2 := hesucc.out
      rw [← e2] at hown6
      rw [← e1] at hr6
      clear e1 e2 hr4 hrow hrow3 hown hown3 hown4 hown5
      go_wp2
      go_roundw
      case rel => exact ⟨j + 1, by omega, by go_num, hr6, hown6, hb6, hsp'⟩
      case measure => simp [intOf]; omega
    · obtain rfl : j = n := by omega
      have htl : xss.take j = xss := List.take_of_length_le (by rw [Hl.out]; omega)
      rw [htl] at hrow
      have hown2 : wr.ownsRow w.heap.size 3 1 u6 xss.length (endsOf xss xss.length) := by rw [Hl.out]; exact hown
      clear htl hown
      go_wp2
      go_ret3
      exact ⟨_, _, rfl, hrow, hown2, hlow⟩
end Go.Proofs.Ytbhojobonihccaa
