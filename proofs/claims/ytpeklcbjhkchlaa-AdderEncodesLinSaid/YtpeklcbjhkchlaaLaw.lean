/- From the walk of a law to its statement; cnf.Check answers OK. -/
import Derived.Test.YtpeklcbjhkchlaaAdd
import Derived.ProofKit
import Derived.Carry
import Derived.OpenShut
namespace Go.Proofs.Ytpeklcbjhkchlaa
open Go.ChangeShapes Go.WideShapes Go.ChangeAt Go.RowKit
set_option maxRecDepth 20000

theorem Try_own : ownKnob Try.prog.godebug = Option.none := by kernel_rfl
theorem Try_laidOut : laidOutB Try.prog = true := by kernel_rfl
theorem underlying4 : Try.prog.underlying 4 = some .bool := by kernel_rfl
theorem underlying3' : Try.prog.underlying 3 = some (.int .i64) := by kernel_rfl
theorem Try_cells3 : Try.prog.cellsOf 3 = 1 := by kernel_rfl

section
variable {H : Type} {enc : TypeId × Value → H} {P : Program}

theorem trodAll_stays (hl : laidOutB P = true) {W W' : World} (hb : Below W.heap.size W W') : ∀ (ts : List TypeId) (vs : List Value) (ds : List (DataW H)) (ps : List MemPlace),
    (∀ t ∈ ts, P.readableRec t = true ∧ t < P.types.size) → DataW.TrodAll enc P W 0 (fun _ => true) true ts vs ds ps → (∀ x ∈ ps, x.block < W.heap.size) →
    DataW.TrodAll enc P W' 0 (fun b => decide (b < W.heap.size)) true ts vs ds ps
  | [], vs, ds, ps, _, h, _ => by
    obtain ⟨rfl, rfl, rfl⟩ := trodAll_nil h
    exact trodAll_mk0
  | t :: ts, vs, ds, ps, hr, h, hlt => by
    obtain ⟨v, vs', d, ds', p, q, rfl, rfl, rfl, h1, h2⟩ := trodAll_cons h
    exact trodAll_cons_mk (Below.trod hl (hr t (by simp)).1 (hr t (by simp)).2 h1 hb (fun x hx => hlt x (List.mem_append_left _ hx)))
      (trodAll_stays hl hb ts vs' ds' q (fun t ht => hr t (List.mem_cons_of_mem _ ht)) h2 (fun x hx => hlt x (List.mem_append_right _ hx)))

/-- A law has answered true and has turned nothing that was there. -/
theorem law_post (hl : laidOutB P = true) {f : Func} {s : ChangeSpec} {W W' : World} {args : Array Value} {ds gs : List (DataW H)} {before : List MemPlace}
    (hW : DataW.Whole enc P f.params.toList s.vars false W args.toList ds gs before) (hv : s.vars = []) (hr : ∀ t ∈ f.params.toList, P.readableRec t = true ∧ t < P.types.size)
    (t4 : TypeId) (hrt : f.resultTypes = #[t4]) (ht4 : P.underlying t4 = some .bool)
    (hfn : s.fn H (ds ++ gs) = { results := [.lit (.bool true)], args := ds }) (hb : Below W.heap.size W W') :
    s.post enc P f false true false false W args (.bool true) W' := by
  have hlt : ∀ p ∈ before, p.block < W.heap.size := fun p hp => hW.lt p hp
  have hW' := hW
  obtain ⟨p, q, hA, hV, rfl, _, _⟩ := hW
  rw [hv] at hV
  obtain ⟨rfl, rfl⟩ := trodVars_none hV
  refine ⟨ds, [], p ++ [], [], p, [], hW', ?_, ?_, ?_, hb.frame _, fun h => by cases h⟩
  · rw [hfn, hrt]; exact trodAll_mk1 (shut_bool ht4 true)
  · rw [hfn]; exact trodAll_stays hl hb _ _ _ _ hr hA (fun x hx => hlt x (List.mem_append_left _ hx))
  · rw [hfn, hv]; exact rfl
end


/-- A slice of integers that comes in. -/
theorem open_intlist {H : Type} {enc : TypeId × Value → H} {W : World} {base : Nat} {v : Value} {d : DataW H} {p : List MemPlace} (hval : Value.okWide Try.prog W .any base 22 v) (h : DataW.Trod enc Try.prog W 0 (fun _ => true) true 22 v d p)
    (hlt : ∀ x ∈ p, x.block < W.heap.size) :
    ∃ A len cap zs, v = .slice A len cap ∧ RdI W.heap.size W A zs ∧ zs.length = len ∧ len ≤ cap ∧ cap ≤ maxLen ∧ (A = Option.none → cap = 0) := by
  obtain ⟨a0, len, cap, rfl⟩ := okWide_slice underlying22 hval
  obtain ⟨fuel, hf⟩ := h
  rcases open_ints underlying22 underlying3' Try_cells3 hf with ⟨hcs, hx⟩ | ⟨a, len', cap', zs, hcs, _, hl, hm, hz, hx, hcell, hwz⟩
  · simp [Value.cells] at hcs
    obtain ⟨rfl, rfl, rfl⟩ := hcs
    exact ⟨_, _, _, [], rfl, RdI.nil _ _ _, rfl, Nat.le_refl _, Nat.zero_le _, fun _ => rfl⟩
  · simp [Value.cells] at hcs
    obtain ⟨rfl, rfl, rfl⟩ := hcs
    simp only [Prod.mk.injEq] at hx
    obtain ⟨rfl, rfl⟩ := hx
    simp only [if_true] at hz
    have hlen : (zs.take len).length = len := by simp; omega
    refine ⟨some a, len, cap, zs.take len, rfl, ⟨fun z hz1 => ?_, fun hn => ?_⟩, hlen, hl, hm, by intro e; cases e⟩
    · have := bounds_i64 (hwz z (List.mem_of_mem_take hz1))
      exact this
    · rw [hlen] at hn
      obtain ⟨b, off, spot⟩ := a
      have hspot : spot = Option.none := by simpa [Addr.add] using World.cell?_spot (hcell 0 (by omega))
      subst hspot
      refine ⟨b, off, rfl, hlt (.cell b off) (MemPlace.mem_row.2 ⟨0, by omega, by simp⟩), fun j hjl => ?_⟩
      rw [hlen] at hjl
      rw [← add_plain, hcell j (by omega), List.getElem?_take_of_lt hjl]
      simp [List.getD]


/-- A literal of a variable below v. -/
def Lit (v : Nat) (x : Int) : Prop := x ≠ 0 ∧ -(v : Int) < x ∧ x < v
theorem Lit.neg {v : Nat} {x : Int} (h : Lit v x) : Lit v (-x) := by obtain ⟨a, b, c⟩ := h; exact ⟨by omega, by omega, by omega⟩
theorem Lit.mono {v v' : Nat} {x : Int} (h : Lit v x) (hv : v ≤ v') : Lit v' x := by obtain ⟨a, b, c⟩ := h; exact ⟨a, by omega, by omega⟩

theorem literal_any (v : Nat) (x n : Int) (w : World) (h : Lit v x) (hn : n = (v : Int) - 1) (h1 : 1 ≤ v) (h2 : v ≤ 65537) :
    Calls Try.prog 37 #[.int .i64 x, .int .i64 n] w fun e w' => e = .returned (.bool true) ∧ w = w' := by
  obtain ⟨a, b, c⟩ := h
  subst hn
  have e1 : (x != 0) = true := by simp [a]
  have e2 : decide (x ≤ (v : Int) - 1) = true := decide_eq_true (by omega)
  go_enter Try.func37, Try.ntmps37
  go_wp2
  go_ret
  exact ⟨rfl, rfl⟩

set_option maxRecDepth 30000 in
set_option maxHeartbeats 4000000 in
theorem Check_ok (B : Nat) (A : Option Addr) (v n c : Nat) (N : Int) (cl : List (List Int)) (w : World) (hr : RdR B w A cl) (hB : B ≤ w.heap.size) (hl : cl.length = n) (hn : n ≤ 65536) (hv : N = (v : Int) - 1) (h1 : 1 ≤ v) (h2 : v ≤ 65537)
    (hg : ∀ j, j < cl.length → (cl[j]?.getD []).length ≤ maxLen) (hlit : ∀ x ∈ cl, ∀ y ∈ x, Lit v y) :
    Calls Try.prog 20 #[.agg #[.int .i64 N, .slice A n c]] w fun e w' => e = .returned (.int .i64 0) ∧ Below w.heap.size w w' := by
  have hb1 := (Below.refl w.heap.size w).alloc (Nat.le_refl _) (.cells #[.int .i64 N, .slice A n c] 36)
  have Hb := Lib.hid hb1
  have Hl := Lib.hid hl
  have Hv := Lib.hid hv
  have Hg := Lib.hid hg
  have Hlit := Lib.hid hlit
  have f1 : ¬ N < 0 := by omega
  have f2 : N ≤ 65536 := by omega
  clear hl hv hg hlit hb1
  go_enter Try.func20, Try.ntmps20
  go_wp2_with fail
  obtain ⟨W1, hW1⟩ : ∃ W, W = w.alloc (.cells #[.int .i64 N, .slice A n c] 36) := ⟨_, rfl⟩
  rw [← hW1]
  have cN : W1.cell? ⟨w.heap.size, 0, none⟩ = some (.int .i64 N) := by
    have := cell_of_row W1 w.heap.size 0 #[.int .i64 N, .slice A n c] 36 (0, 0) (by rw [hW1]; exact heap_alloc_new _ _)
    rw [this]; rfl
  have cL : W1.cell? ⟨w.heap.size, 1, none⟩ = some (.slice A n c) := by
    have := cell_of_row W1 w.heap.size 1 #[.int .i64 N, .slice A n c] 36 (0, 0) (by rw [hW1]; exact heap_alloc_new _ _)
    rw [this]; rfl
  have hb := Hb.out
  rw [← hW1] at hb
  clear Hb hW1
  have hr := hr.below hb hB
  go_loopw [18] (fun i wr => ∃ j : Nat, j ≤ n ∧ i = .int .i64 j ∧ W1 = wr) (fun i _ => n - (intOf i).toNat)
  case atStart => exact ⟨0, by omega, rfl, rfl⟩
  case round =>
    obtain ⟨j, hj, rfl, rfl⟩ := hrel
    by_cases hlt : j < n
    · have hjo : j < cl.length := by rw [Hl.out]; exact hlt
      obtain ⟨b, off, rfl, _, hc⟩ := hr (by omega)
      obtain ⟨E, ec, hc1, hr1⟩ := hc j hjo
      have hxl := Hg.out j hjo
      have hmem : cl[j]?.getD [] ∈ cl := by rw [List.getElem?_eq_getElem hjo]; exact List.getElem_mem _
      have hlj := Hlit.out _ hmem
      clear hc hr hmem hjo
      generalize cl[j]?.getD [] = x at *
      obtain ⟨L, hL⟩ : ∃ L, x.length = L := ⟨_, rfl⟩
      rw [hL] at hc1 hxl
      have HL := Lib.hid hL
      have hlj := Lib.hid hlj
      clear hL
      have hxl : L ≤ 9223372036854775807 := by unfold maxLen at hxl; omega
      go_wp2_with fail
      go_loopw [24] (fun i' wr => ∃ q : Nat, q ≤ L ∧ i' = .int .i64 q ∧ W1 = wr) (fun i' _ => L - (intOf i').toNat)
      case atStart => exact ⟨0, by omega, rfl, rfl⟩
      case round =>
        obtain ⟨q, hq, rfl, rfl⟩ := hrel
        by_cases hqt : q < L
        · have hqo : q < x.length := by rw [HL.out]; exact hqt
          obtain ⟨b3, off3, rfl, _, hc3⟩ := hr1.2 (by omega)
          have hc4 := hc3 q hqo
          have hlit := hlj.out (x[q]?.getD 0) (by rw [List.getElem?_eq_getElem hqo]; exact List.getElem_mem _)
          clear hc3 hr1 hqo
          generalize x[q]?.getD 0 = y at hc4 hlit
          have hM := Lib.hid (fun W => literal_any v y N W hlit Hv.out h1 h2)
          go_wp2_with fail
          refine (hM.out _).mono ?_
          rintro e w' ⟨rfl, rfl⟩
          go_wp2_with fail
          go_roundw
          case rel => exact ⟨q + 1, by omega, by go_num, trivial⟩
          case measure => simp [intOf]; omega
        · obtain rfl : q = L := by omega
          clear hr1 hq hqt
          go_wp2_with fail
          go_roundw
          case rel => exact ⟨j + 1, by omega, by go_num, trivial⟩
          case measure => simp [intOf]; omega
    · obtain rfl : j = n := by omega
      go_wp2
      go_ret
      exact ⟨rfl, hb⟩


end Go.Proofs.Ytpeklcbjhkchlaa
