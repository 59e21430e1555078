/- From the walk of a law to its statement: what is the same for every law of this seat. -/
import Derived.Test.YtppgpafnifmmfaaTotalB
import Derived.ProofKit
import Derived.Carry
import Derived.OpenShut
namespace Go.Proofs.Ytppgpafnifmmfaa
open Go.ChangeShapes Go.WideShapes Go.ChangeAt Go.RowKit

theorem Try_own : ownKnob Try.prog.godebug = Option.none := by kernel_rfl
theorem Try_laidOut : laidOutB Try.prog = true := by kernel_rfl
theorem Try_cells3 : Try.prog.cellsOf 3 = 1 := by kernel_rfl

section
variable {H : Type} {enc : TypeId × Value → H} {P : Program}

theorem trodAll_stays (hl : laidOutB P = true) {W W' : World} (hb : Below W.heap.size W W') : ∀ (ts : List TypeId) (vs : List Value) (ds : List (DataW H)) (ps : List MemPlace),
    (∀ t ∈ ts, P.readableRec t = true ∧ t < P.types.size) → DataW.TrodAll enc P W 0 (fun _ => true) true ts vs ds ps → (∀ x ∈ ps, x.block < W.heap.size) →
    DataW.TrodAll enc P W' 0 (fun b => decide (b < W.heap.size)) true ts vs ds ps
  | [], vs, ds, ps, _, h, _ => by
    obtain ⟨rfl, rfl, rfl⟩ := trodAll_nil h
    exact trodAll_mk0
  | t :: ts, vs, ds, ps, hr, h, hlt => by
    obtain ⟨v, vs', d, ds', p, q, rfl, rfl, rfl, h1, h2⟩ := trodAll_cons h
    exact trodAll_cons_mk (Below.trod hl (hr t (by simp)).1 (hr t (by simp)).2 h1 hb (fun x hx => hlt x (List.mem_append_left _ hx)))
      (trodAll_stays hl hb ts vs' ds' q (fun t ht => hr t (List.mem_cons_of_mem _ ht)) h2 (fun x hx => hlt x (List.mem_append_right _ hx)))

/-- A law has answered true and has turned nothing that was there. -/
theorem law_post (hl : laidOutB P = true) {f : Func} {s : ChangeSpec} {W W' : World} {args : Array Value} {ds gs : List (DataW H)} {before : List MemPlace}
    (hW : DataW.Whole enc P f.params.toList s.vars false W args.toList ds gs before) (hv : s.vars = []) (hr : ∀ t ∈ f.params.toList, P.readableRec t = true ∧ t < P.types.size)
    (t4 : TypeId) (hrt : f.resultTypes = #[t4]) (ht4 : P.underlying t4 = some .bool)
    (hfn : s.fn H (ds ++ gs) = { results := [.lit (.bool true)], args := ds }) (hb : Below W.heap.size W W') :
    s.post enc P f false true false false W args (.bool true) W' := by
  have hlt : ∀ p ∈ before, p.block < W.heap.size := fun p hp => hW.lt p hp
  have hW' := hW
  obtain ⟨p, q, hA, hV, rfl, _, _⟩ := hW
  rw [hv] at hV
  obtain ⟨rfl, rfl⟩ := trodVars_none hV
  refine ⟨ds, [], p ++ [], [], p, [], hW', ?_, ?_, ?_, hb.frame _, fun h => by cases h⟩
  · rw [hfn, hrt]; exact trodAll_mk1 (shut_bool ht4 true)
  · rw [hfn]; exact trodAll_stays hl hb _ _ _ _ hr hA (fun x hx => hlt x (List.mem_append_left _ hx))
  · rw [hfn, hv]; exact rfl
end


/-- A slice of integers that comes in. -/
theorem open_intlist {H : Type} {enc : TypeId × Value → H} {W : World} {base : Nat} {v : Value} {d : DataW H} {p : List MemPlace} (hval : Value.okWide Try.prog W .any base 22 v) (h : DataW.Trod enc Try.prog W 0 (fun _ => true) true 22 v d p)
    (hlt : ∀ x ∈ p, x.block < W.heap.size) :
    ∃ A len cap zs, v = .slice A len cap ∧ RdI W.heap.size W A zs ∧ zs.length = len ∧ len ≤ cap ∧ cap ≤ maxLen ∧ (A = Option.none → cap = 0) := by
  obtain ⟨a0, len, cap, rfl⟩ := okWide_slice underlying22 hval
  obtain ⟨fuel, hf⟩ := h
  rcases open_ints underlying22 underlying3' Try_cells3 hf with ⟨hcs, hx⟩ | ⟨a, len', cap', zs, hcs, _, hl, hm, hz, hx, hcell, hwz⟩
  · simp [Value.cells] at hcs
    obtain ⟨rfl, rfl, rfl⟩ := hcs
    exact ⟨_, _, _, [], rfl, RdI.nil _ _ _, rfl, Nat.le_refl _, Nat.zero_le _, fun _ => rfl⟩
  · simp [Value.cells] at hcs
    obtain ⟨rfl, rfl, rfl⟩ := hcs
    simp only [Prod.mk.injEq] at hx
    obtain ⟨rfl, rfl⟩ := hx
    simp only [if_true] at hz
    have hlen : (zs.take len).length = len := by simp; omega
    refine ⟨some a, len, cap, zs.take len, rfl, ⟨fun z hz1 => ?_, fun hn => ?_⟩, hlen, hl, hm, by intro e; cases e⟩
    · have := bounds_i64 (hwz z (List.mem_of_mem_take hz1))
      exact this
    · rw [hlen] at hn
      obtain ⟨b, off, spot⟩ := a
      have hspot : spot = Option.none := by simpa [Addr.add] using World.cell?_spot (hcell 0 (by omega))
      subst hspot
      refine ⟨b, off, rfl, hlt (.cell b off) (MemPlace.mem_row.2 ⟨0, by omega, by simp⟩), fun j hjl => ?_⟩
      rw [hlen] at hjl
      rw [← add_plain, hcell j (by omega), List.getElem?_take_of_lt hjl]
      simp [List.getD]

set_option maxHeartbeats 1000000 in
theorem Ints_same (B C : Nat) (A D : Option Addr) (n c d : Nat) (zs : List Int) (w : World) (hr : RdI B w A zs) (hs : RdI C w D zs) (hl : zs.length = n) (hn : n ≤ maxLen) :
    Calls Try.prog 13 #[.slice A n c, .slice D n d] w fun e w' => e = .returned (.bool true) ∧ ∃ k, w' = w.drewN k := by
  unfold maxLen at hn
  have Hl := Lib.hid hl
  clear hl
  go_enter Try.func13, Try.ntmps13
  go_wp2
  go_loopw [5] (fun i wr => ∃ j k : Nat, j ≤ n ∧ i = .int .i64 j ∧ wr = w.drewN k) (fun i _ => n - (intOf i).toNat)
  case atStart => exact ⟨0, 0, by omega, rfl, rfl⟩
  case round =>
    obtain ⟨j, k, hj, rfl, rfl⟩ := hrel
    by_cases hlt : j < n
    · obtain ⟨b, off, rfl, _, hc⟩ := hr.2 (by rw [Hl.out]; omega)
      have hc1 := hc j (by rw [Hl.out]; exact hlt)
      obtain ⟨b2, off2, rfl, _, hc2⟩ := hs.2 (by rw [Hl.out]; omega)
      have hd1 := hc2 j (by rw [Hl.out]; exact hlt)
      clear hc hc2
      generalize zs[j]?.getD 0 = x at *
      go_wp2
      go_quiet (fail)
      go_wp2
      go_roundw
      case rel => exact ⟨j + 1, _, by omega, by go_num, rfl⟩
      case measure => simp [intOf]; omega
    · obtain rfl : j = n := by omega
      go_wp2
      go_ret
      exact ⟨rfl, k, rfl⟩
theorem quiet_more {P : Program} {f : FuncId} {args : Array Value} {w : World} {a n : Nat} {v : Value} (h : Calls P f args (w.drewN (a + n)) fun e w' => e = .returned v ∧ ∃ m, w' = (w.drewN (a + n)).drewN m) :
    Calls P f args (w.drewN (a + n)) fun e w'' => e = .returned v ∧ ∃ m, w'' = w.drewN (a + m) :=
  h.mono fun _ _ ⟨he, m, hm⟩ => ⟨he, n + m, by rw [hm, World.drewN_drewN, Nat.add_assoc]⟩
theorem quiet_still {P : Program} {f : FuncId} {args : Array Value} {w : World} {a n : Nat} {v : Value} (h : Calls P f args (w.drewN (a + n)) fun e w' => e = .returned v ∧ w.drewN (a + n) = w') :
    Calls P f args (w.drewN (a + n)) fun e w'' => e = .returned v ∧ ∃ m, w'' = w.drewN (a + m) :=
  h.mono fun _ _ ⟨he, hm⟩ => ⟨he, n, hm.symm⟩
set_option maxHeartbeats 1000000 in
theorem Clauses_same (B C : Nat) (A D : Option Addr) (n c d : Nat) (xss : List (List Int)) (w : World) (hr : RdR B w A xss) (hs : RdR C w D xss) (hl : xss.length = n) (hn : n ≤ maxLen) (hin : ∀ x ∈ xss, x.length ≤ maxLen) :
    Calls Try.prog 14 #[.slice A n c, .slice D n d] w fun e w' => e = .returned (.bool true) ∧ ∃ k, w' = w.drewN k := by
  unfold maxLen at hn
  have Hl := Lib.hid hl
  have Hin := Lib.hid hin
  clear hl hin
  go_enter Try.func14, Try.ntmps14
  go_wp2
  go_loopw [5] (fun i wr => ∃ j k : Nat, j ≤ n ∧ i = .int .i64 j ∧ wr = w.drewN k) (fun i _ => n - (intOf i).toNat)
  case atStart => exact ⟨0, 0, by omega, rfl, rfl⟩
  case round =>
    obtain ⟨j, k, hj, rfl, rfl⟩ := hrel
    by_cases hlt : j < n
    · obtain ⟨b, off, rfl, _, hc⟩ := hr (by rw [Hl.out]; omega)
      obtain ⟨E, ec, hc1, hr1⟩ := hc j (by rw [Hl.out]; exact hlt)
      obtain ⟨b2, off2, rfl, _, hc2⟩ := hs (by rw [Hl.out]; omega)
      obtain ⟨E2, ec2, hd1, hs1⟩ := hc2 j (by rw [Hl.out]; exact hlt)
      have hxl : (xss[j]?.getD []).length ≤ maxLen := Hin.out _ (by rw [List.getElem?_eq_getElem (by rw [Hl.out]; exact hlt)]; exact List.getElem_mem _)
      clear hc hc2
      generalize xss[j]?.getD [] = x at *
      go_wp2
      go_quiet ((go_at_call 13; exact quiet_more (Ints_same B C _ _ _ _ _ x _ hr1 hs1 rfl hxl)))
      go_wp2
      go_roundw
      case rel => exact ⟨j + 1, _, by omega, by go_num, rfl⟩
      case measure => simp [intOf]; omega
    · obtain rfl : j = n := by omega
      go_wp2
      go_ret
      exact ⟨rfl, k, rfl⟩

theorem size_one (M : Nat) : Tot.size M 1 = 0 := Tot.size_small (by omega)
theorem size_two (M : Nat) : Tot.size M 2 = min 2 M := by
  rw [Tot.size_big (by omega)]
  show Tot.size M 1 + Tot.size M 1 + _ = _
  rw [size_one]; omega
theorem live_a : Tot.cnt 2 [1, 2] 3 = ([3, 4], [[1, 2, -3], [-2, 3], [1, -4], [-1, 3], [2, -4], [-1, -2, 4]]) := by
  rw [Tot.cnt_more (by decide) (by decide)]
  show (Tot.from_ (3 + Tot.size 2 1 + Tot.size 2 1) 2, (Tot.cnt 2 [1] 3).2 ++ (Tot.cnt 2 [2] (3 + Tot.size 2 1)).2 ++ Tot.merge (Tot.cnt 2 [1] 3).1 (Tot.cnt 2 [2] (3 + Tot.size 2 1)).1 (Tot.from_ (3 + Tot.size 2 1 + Tot.size 2 1) 2)) = _
  rw [size_one, Tot.cnt_one (by decide) rfl, Tot.cnt_one (by decide) rfl]
  decide
theorem live_b : Tot.cnt 0 [1, 2] 3 = ([], []) := Tot.cnt_none (by decide)
theorem live_c : Tot.cnt 5 [-2] 3 = ([-2], []) := by rw [Tot.cnt_one (by decide) rfl]; rfl
theorem dist_a : Tot.dist 3 [] [1, 2] = true := by decide
theorem dist_b : Tot.dist 3 [] [1, -1] = false := by decide
theorem dist_c : Tot.dist 3 [] [3] = false := by decide
theorem dist_d : Tot.dist 3 [] [-2] = true := by decide
theorem RdI.lit (w : World) (cs : Array Value) (zs : List Int) (hb : ∀ z ∈ zs, Wf z) (h : cs = (zs.map (Value.int .i64)).toArray) : RdI (w.heap.size + 1) (w.alloc (.cells cs 3)) (some ⟨w.heap.size, 0, none⟩) zs := by
  refine ⟨hb, fun _ => ⟨w.heap.size, 0, rfl, by omega, fun j hj => ?_⟩⟩
  rw [Nat.zero_add, cell_of_row _ w.heap.size j cs 3 (0, 0) (heap_alloc_new w _), h, List.getElem?_toArray, intsAt zs j hj]
end Go.Proofs.Ytppgpafnifmmfaa
