/- The reference's count: one literal. -/
import Derived.Test.YtppgpafnifmmfaaBoth
import Derived.StillTailTactics
namespace Go.Proofs.Ytppgpafnifmmfaa
open Go.ChangeShapes Go.WideShapes Go.ChangeAt Go.RowKit

def RCnt (base : Nat) (w : World) (M : Nat) (zs : List Int) (m : Nat) (cl : List (List Int)) (e : Ending) (w' : World) : Prop :=
  ∃ v' vo, e = .returned (.tuple #[.agg #[v', .int .i64 ((m + Tot.size M zs.length : Nat) : Int)], vo]) ∧ Cls w' base v' (cl ++ (Tot.cnt M zs m).2) ∧ RowI w' base vo (Tot.cnt M zs m).1 ∧ Kr base w w'
theorem results27 (tm : Array Value) (w : World) (g : Nat) (v : Value) (m : Int) (h : tm[6]?.getD undef = .pointer (some ⟨g, 0, none⟩)) (hT : Two w g v m) :
    (results Try.f27 tm).run Try.prog w = .ok (.tuple #[.agg #[v, .int .i64 m], tm[7]?.getD undef]) w := by
  have hr : Try.f27.results = #[.cell 6 51, .tmp 7] := rfl
  have h0 := hT.c0
  have h1 := hT.c1
  simp only [results, hr]
  simp [go_sem, h, h0, h1]

theorem rc1_end {w W W' : World} {base : Nat} {v v1 : Value} {M m : Nat} {x : Int} {zs : List Int} {cl : List (List Int)} {tm : Array Value} (hc : Tot.cnt M zs m = ([x], [])) (hl : zs.length = 1) (hx : Wf x) (hbase : base ≤ w.heap.size) (hWs : W.heap.size = w.heap.size + 1 + 1)
    (T1 : Two W (w.heap.size + 1) v1 0) (S0 : Cls W base v cl) (K0 : Kr base w W)
    (h6 : tm[6]?.getD undef = .pointer (some ⟨w.heap.size + 1, 0, none⟩)) (h7 : tm[7]?.getD undef = .slice (some ⟨w.heap.size + 1 + 1, 0, none⟩) 1 1)
    (hW : W' = ((W.setCell ⟨w.heap.size + 1, 0, none⟩ v).setCell ⟨w.heap.size + 1, 1, none⟩ (.int .i64 (m : Int))).alloc (.cells #[.int .i64 x] 3) ∨ W' = ((W.alloc (.cells #[.int .i64 x] 3)).setCell ⟨w.heap.size + 1, 0, none⟩ v).setCell ⟨w.heap.size + 1, 1, none⟩ (.int .i64 (m : Int))) :
    bodyPost Try.prog Try.f27 (RCnt base w M zs m cl) .ret { tmps := tm, defers := [] } W'.drew := by
  have hsz := Tot.size_small (most := M) (n := 1) (by omega)
  have key : Two W' (w.heap.size + 1) v (m : Int) ∧ Cls W' base v cl ∧ Kr base w W' ∧ RowI W' base (.slice (some ⟨w.heap.size + 1 + 1, 0, none⟩) 1 1) [x] := by
    have lit : ∀ X : World, X.heap.size = W.heap.size → base ≤ X.heap.size → RowI (X.alloc (.cells #[.int .i64 x] 3)) base (.slice (some ⟨w.heap.size + 1 + 1, 0, none⟩) 1 1) [x] := fun X hX hb => by
      refine ⟨fun z hz => by rw [List.mem_singleton.1 hz]; exact hx, ?_⟩
      have := World.ownsRow_lit (base := base) (e := 3) (size := 1) X #[Value.int .i64 x] 1 hb (by unfold maxLen; omega) (by simp)
      rw [hX, hWs] at this
      simpa using this
    rcases hW with rfl | rfl
    · have t := (T1.set0 v).set1 (m : Int)
      have s1 := (S0.store (j := 0) (u := v) T1).store (j := 1) (u := .int .i64 (m : Int)) (T1.set0 v)
      have k1 := (K0.store (j := 0) (u := v) T1 (by omega) (by omega)).store (j := 1) (u := .int .i64 (m : Int)) (T1.set0 v) (by omega) (by omega)
      have hal : ∀ X : World, Below X.heap.size X (X.alloc (.cells #[.int .i64 x] 3)) := fun X => (Below.refl _ X).alloc (Nat.le_refl _) _
      exact ⟨t.alloc _, s1.below (hal _), k1.trans (Kr.below (hal _) (by simp [World.setCell]; omega)), lit _ (by simp [World.setCell]) (by simp [World.setCell]; omega)⟩
    · have t0 := T1.alloc (.cells #[.int .i64 x] 3)
      have hal : Below W.heap.size W (W.alloc (.cells #[.int .i64 x] 3)) := (Below.refl _ W).alloc (Nat.le_refl _) _
      have s1 := ((S0.below hal).store (j := 0) (u := v) t0).store (j := 1) (u := .int .i64 (m : Int)) (t0.set0 v)
      have k1 := ((K0.trans (Kr.below hal (by omega))).store (j := 0) (u := v) t0 (by omega) (by omega)).store (j := 1) (u := .int .i64 (m : Int)) (t0.set0 v) (by omega) (by omega)
      refine ⟨(t0.set0 v).set1 _, s1, k1, ?_⟩
      have r0 := lit W rfl (by omega)
      have hgr : ∀ (X : World) (j : Nat) (u : Value), X.grownBy (X.setCell ⟨w.heap.size + 1, j, none⟩ u) (some (w.heap.size + 1)) := fun X j u =>
        ⟨rfl, rfl, rfl, by simp [World.setCell], fun k _ hk => heap_setCell_other X ⟨w.heap.size + 1, j, none⟩ k u (fun e => hk (by simp [e]))⟩
      exact (r0.apart (hgr _ 0 v) (t0.off (by decide))).apart (hgr _ 1 _) ((t0.set0 v).off (by decide))
  obtain ⟨t, s1, k1, r1⟩ := key
  refine bodyPost_ret (results27 tm W'.drew (w.heap.size + 1) v (m : Int) h6 t) rfl ?_
  rw [h7]
  refine ⟨v, .slice (some ⟨w.heap.size + 1 + 1, 0, none⟩) 1 1, ?_, ?_, ?_, k1.drewN 1⟩
  · rw [hl, hsz, Nat.add_zero]; rfl
  · rw [hc, List.append_nil]; exact s1
  · rw [hc]; exact r1

set_option maxRecDepth 30000 in
set_option maxHeartbeats 4000000 in
theorem rcount_one (base B : Nat) (w : World) (v : Value) (cl : List (List Int)) (A : Option Addr) (c M m : Nat) (zs : List Int) (hst : Cls w base v cl) (hbase : base ≤ w.heap.size) (hr : RdI B w A zs) (hB : B ≤ base) (hl : zs.length = 1) (hM : 1 ≤ M) :
    Calls Try.prog 27 #[.agg #[v, .int .i64 (m : Int)], .slice A 1 c, .int .i64 (M : Int)] w (RCnt base w M zs m cl) := by
  have hc := Tot.cnt_one (most := M) (l := zs) (m := m) (by omega) hl
  obtain ⟨A0, L0, c0, rfl⟩ := hst.sl
  obtain ⟨W, hW⟩ : ∃ W, W = Wb w (.slice A0 L0 c0) (m : Int) := ⟨_, rfl⟩
  have T0 : Two W w.heap.size (.slice A0 L0 c0) (m : Int) := by rw [hW]; exact Wb_0 w _ _
  have T1 : Two W (w.heap.size + 1) (.slice Option.none 0 0) 0 := by rw [hW]; exact Wb_1 w _ _
  have hlow : Below w.heap.size w W := by rw [hW]; exact Wb_low w _ _
  have K0 : Kr base w W := Kr.below hlow hbase
  have S0 : Cls W base (.slice A0 L0 c0) cl := hst.below hlow
  have hWs : W.heap.size = w.heap.size + 1 + 1 := by rw [hW]; exact Wb_size w _ _
  have HW := Lib.hid hW
  have hr := hr.below hlow (Nat.le_trans hB hbase)
  obtain ⟨b, off, rfl, _, hcell⟩ := hr.2 (by omega)
  have hck := hcell 0 (by omega)
  have hwf := hr.wf (j := 0) (by omega)
  rw [Nat.add_zero] at hck
  have b0 := T0.c0
  have b1 := T0.c1
  have b2 := T1.c0
  have b3 := T1.c1
  have e2 := T1.fr 0
  have e3 := T1.fr 1
  clear hW hcell
  generalize zs[0]?.getD 0 = x at *
  have hpst := fun (tm : Array Value) (W' : World) => rc1_end (W' := W') (tm := tm) hc hl hwf hbase hWs T1 S0 K0
  have Hpst := Lib.hid hpst
  clear hc hl hpst
  go_enter Try.func27, Try.ntmps27
  go_upto_region 2 with fail
  rw [show (w.alloc (.cells #[.slice A0 L0 c0, .int .i64 (m : Int)] 51)).alloc (.cells #[.slice Option.none 0 0, .int .i64 0] 51) = W from HW.out.symm]
  go_region_with (fail)
  all_goals
    go_wp2_with fail
    refine Hpst.out _ _ ?_ ?_ ?_
    · rfl
    · rfl
    · first | exact .inl rfl | exact .inr rfl
end Go.Proofs.Ytppgpafnifmmfaa
