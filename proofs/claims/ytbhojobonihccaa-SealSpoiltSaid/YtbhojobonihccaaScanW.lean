/- The walks of frames, its iterator, and Scan: what a scan answers. -/
import Derived.Test.YtbhojobonihccaaScanM
import Derived.Test.YtbhojobonihccaaRange
import Derived.Test.YtbhojobonihccaaRef
import Derived.RangeFuncBox
import Derived.RangeFuncNested
import Derived.Maps.AppendAt
import Derived.Stop.RegionWithIn
import Derived.BigGuardPartIn
namespace Go.Proofs.Ytbhojobonihccaa
open Go.RowKit

/-- No block of cells of this type lies there. -/
def Off (t : TypeId) (w : World) (row : Option Nat) : Prop := ∀ r, row = some r → ∀ cs, w.heap[r]? ≠ some (.cells cs t (0, 0))
theorem off_none (t : TypeId) (w : World) : Off t w Option.none := fun r h => by cases h
theorem off_boxed {t u : TypeId} {w : World} {g : Nat} {v : Value} (h : Boxed w g u v) (hne : u ≠ t) : Off t w (some g) := by
  intro r hr cs h2
  injection hr with hr; subst hr
  unfold Boxed at h
  rw [h] at h2; injection h2 with h2; injection h2 with _ h3
  exact hne h3
theorem off_own {t e : TypeId} {w : World} {base size n : Nat} {v : Value} {xs : List Value} (h : w.ownsRow base e size v n xs) (hne : e ≠ t) : Off t w v.ownBlock := by
  intro r hr cs h2
  rcases h.2 with ⟨rfl, _⟩ | ⟨g, cap, cur, rfl, _, hg, _⟩
  · simp [Value.ownBlock] at hr
  · have : g = r := by simpa [Value.ownBlock] using hr
    subst this
    rw [hg] at h2; injection h2 with h2; injection h2 with _ h3
    exact hne h3
theorem off_not {t : TypeId} {w : World} {row : Option Nat} (h : ∀ r, row = some r → ∃ o : Obj, w.heap[r]? = some o ∧ o.isCells = false) : Off t w row := by
  intro r hr cs h2
  obtain ⟨o, ho, hc⟩ := h r hr
  rw [ho] at h2; injection h2 with h2; subst h2
  simp [Obj.isCells] at hc
theorem Row.apart {w w' : World} {base : Nat} {v : Value} {bs : List Nat} {row : Option Nat} (h : Row w base v bs) (hg : w.grownBy w' row) (ho : Off 5 w row) : Row w' base v bs := by
  refine h.kept hg ?_
  rcases h.2.2 with ⟨rfl, _⟩ | ⟨g, cap, cur, rfl, _, hgg, _⟩
  · exact .inl rfl
  · exact .inr fun e => ho g (by simpa [Value.ownBlock] using e.symm) cur hgg
theorem TabTo.apart {w w' : World} {g k : Nat} {row : Option Nat} (h : TabTo w g k) (hg : w.grownBy w' row) (ho : Off 55 w row) : TabTo w' g k := by
  obtain ⟨cs, h1, h2, h3⟩ := h
  exact ⟨cs, (hg.block g (Array.getElem?_eq_some_iff.1 h1).1 (fun e => ho g e.symm cs h1)).trans h1, h2, h3⟩

/-- These values are rows of the call's own, with these bytes. -/
def Els (w : World) (base : Nat) (vs : List Value) (xss : List (List Nat)) : Prop :=
  vs.length = xss.length ∧ ∀ j, j < xss.length → ∃ u, vs[j]? = some u ∧ Row w base u (xss[j]?.getD [])
theorem Els.nil (w : World) (base : Nat) : Els w base [] [] := ⟨rfl, fun j h => absurd h (by simp)⟩
theorem Els.apart {w w' : World} {base : Nat} {vs : List Value} {xss : List (List Nat)} {row : Option Nat} (h : Els w base vs xss) (hg : w.grownBy w' row) (ho : Off 5 w row) : Els w' base vs xss :=
  ⟨h.1, fun j hj => (h.2 j hj).imp fun _ ⟨h1, h2⟩ => ⟨h1, h2.apart hg ho⟩⟩
theorem Els.below {w w' : World} {base : Nat} {vs : List Value} {xss : List (List Nat)} (h : Els w base vs xss) (hb : Below w.heap.size w w') : Els w' base vs xss :=
  ⟨h.1, fun j hj => (h.2 j hj).imp fun _ ⟨h1, h2⟩ => ⟨h1, h2.below hb⟩⟩
theorem Els.snoc {w : World} {base : Nat} {vs : List Value} {xss : List (List Nat)} (h : Els w base vs xss) {u : Value} {x : List Nat} (hu : Row w base u x) : Els w base (vs ++ [u]) (xss ++ [x]) := by
  refine ⟨by simp [h.1], fun j hj => ?_⟩
  rw [List.length_append] at hj
  rcases Nat.lt_or_ge j xss.length with h1 | h1
  · obtain ⟨v, hv, hr⟩ := h.2 j h1
    refine ⟨v, ?_, ?_⟩
    · rw [List.getElem?_append_left (by have := h.1; omega)]; exact hv
    · rw [List.getElem?_append_left h1]; exact hr
  · have : j = xss.length := by simp at hj; omega
    subst this
    refine ⟨u, ?_, ?_⟩
    · rw [← h.1]; simp
    · simpa using hu
theorem Els.one {w : World} {base : Nat} {vs : List Value} {xss : List (List Nat)} (h : Els w base vs xss) : ∀ u ∈ vs, u.oneCell' = true := by
  intro u hu
  obtain ⟨j, hj, rfl⟩ := List.mem_iff_getElem.1 hu
  obtain ⟨v, hv, hr⟩ := h.2 j (by rw [← h.1]; exact hj)
  rw [List.getElem?_eq_getElem hj] at hv; injection hv with hv
  rw [hv]
  obtain ⟨A, c, e, _⟩ := hr.shape
  rw [e]; rfl
theorem keepsFrom_of_below {B : Nat} {W W' : World} (h : Below W.heap.size W W') : KeepsFrom B W W' :=
  ⟨h.size, fun k _ _ hk _ => (h.block k (Array.getElem?_eq_some_iff.1 hk).1).trans hk⟩
theorem Boxed.lower {B : Nat} {w w' : World} {g : Nat} {t : TypeId} {v : Value} (h : Boxed w g t v) (hb : Below B w w') (hg : g < B) : Boxed w' g t v := (hb.block g hg).trans h

theorem own_below {w w' : World} {base e size n : Nat} {v : Value} {xs : List Value} (h : w.ownsRow base e size v n xs) (hb : Below w.heap.size w w') : w'.ownsRow base e size v n xs := by
  refine ⟨h.1, ?_⟩
  rcases h.2 with h2 | ⟨g, cap, cur, rfl, hbase, hg, h3⟩
  · exact .inl h2
  · exact .inr ⟨g, cap, cur, rfl, hbase, (hb.block g (Array.getElem?_eq_some_iff.1 hg).1).trans hg, h3⟩

/-- What the loop over the frames keeps: the payloads so far, what is left to read, where the table lies. -/
structure SI (w : World) (B : Nat) (s : List (List Nat) × List Nat × Option Nat) (W : World) : Prop where
  l : ∃ v vs, Boxed W w.heap.size 35 v ∧ W.ownsRow (w.heap.size + 3) 22 1 v vs.length vs ∧ Els W w.heap.size vs s.1
  g : Boxed W (w.heap.size + 1) 3 (.int .i64 (span s.1 : Nat))
  b : ∃ A cap, Boxed W (w.heap.size + 2) 22 (.slice A s.2.1.length cap) ∧ Rd B w A s.2.1 ∧ s.2.1.length ≤ cap ∧ cap ≤ maxLen
  low : Below w.heap.size w W
  tab : ∀ g, s.2.2 = some g → TabTo W g 256

theorem SI_own {w : World} {B D : Nat} (hD : w.heap.size ≤ D) : OwnFrom D (SI w B) := by
  rintro ⟨xs, ds, tg⟩ W W' row ⟨⟨v, vs, hb, hown, hels⟩, hg, ⟨A, cap, hbb, hrA, hcA, hmA⟩, hlow, htab⟩ hgr hrow
  have h2 : ∀ r, row = some r → ∃ o : Obj, W.heap[r]? = some o ∧ o.isCells = false := fun r e => (hrow r e).2
  have hnb : ∀ {g : Nat} {t : TypeId} {u : Value}, Boxed W g t u → some g ≠ row := by
    intro g t u h e
    obtain ⟨o, ho, hc⟩ := h2 g e.symm
    unfold Boxed at h
    rw [h] at ho; injection ho with ho; subst ho
    simp [Obj.isCells] at hc
  have hno : v.ownBlock = Option.none ∨ v.ownBlock ≠ row := by
    rcases hown.2 with ⟨rfl, _⟩ | ⟨g', cap', cur, rfl, _, hgg, _⟩
    · exact .inl rfl
    · refine .inr fun e => ?_
      obtain ⟨o, ho, hc⟩ := h2 g' e.symm
      rw [hgg] at ho; injection ho with ho; subst ho
      simp [Obj.isCells] at hc
  exact ⟨⟨v, vs, hb.kept hgr (hnb hb), hown.kept hgr hno, hels.apart hgr (off_not h2)⟩, hg.kept hgr (hnb hg), ⟨A, cap, hbb.kept hgr (hnb hbb), hrA, hcA, hmA⟩,
    hlow.grown hgr (by have := hlow.size; omega) (fun k e => Nat.le_trans hD (hrow k e).1), fun g e => (htab g e).apart hgr (off_not h2)⟩

theorem Rd.back {B B' : Nat} {w w' : World} {A : Option Addr} {bs : List Nat} (h : Rd B w' A bs) (hb : Below B' w w') (hB : B ≤ B') : Rd B w A bs := by
  refine ⟨h.1, fun hn => ?_⟩
  obtain ⟨b, off, rfl, hbl, hcell⟩ := h.2 hn
  exact ⟨b, off, rfl, hbl, fun j hj => (hb.cell (p := ⟨b, off + j, none⟩) (by show b < B'; omega)).symm.trans (hcell j hj)⟩
theorem SI.drewN {w : World} {B : Nat} {s : List (List Nat) × List Nat × Option Nat} {W : World} (h : SI w B s W) (n : Nat) : SI w B s (W.drewN n) :=
  ⟨h.l, h.g, h.b, below_drewN h.low n, h.tab⟩
theorem keepsFrom_drewN (D : Nat) (W : World) (n : Nat) : KeepsFrom D W (W.drewN n) := ⟨Nat.le_refl _, fun _ _ _ h _ => h⟩
theorem SI.step {w : World} {B : Nat} {xs : List (List Nat)} {ds ds' : List Nat} {tg : Option Nat} {W : World} (h : SI w B (xs, ds, tg) W) {A : Option Addr} {cap : Nat} (hr : Rd B w A ds') (hc : ds'.length ≤ cap) (hm : cap ≤ maxLen) :
    SI w B (xs, ds', tg) (W.setCell ⟨w.heap.size + 2, 0, Option.none⟩ (.slice A ds'.length cap)) := by
  obtain ⟨⟨v, vs, hb, hown, hels⟩, hg, ⟨A0, cap0, hbb, _⟩, hlow, htab⟩ := h
  have hgr := grownBy_setCell' W (w.heap.size + 2) (.slice A ds'.length cap)
  have hno : v.ownBlock = Option.none ∨ v.ownBlock ≠ some (w.heap.size + 2) := .inr fun e => by have := (hown.lt _ e).1; omega
  exact ⟨⟨v, vs, Boxed.other hb (by omega) _, hown.kept hgr hno, hels.apart hgr (off_boxed hbb (by decide))⟩, Boxed.other hg (by omega) _, ⟨A, cap, Boxed.set _ hbb, hr, hc, hm⟩,
    hlow.setCell (p := ⟨w.heap.size + 2, 0, Option.none⟩) (by simp) _, fun g e => (htab g e).apart hgr (off_boxed hbb (by decide))⟩

theorem frames_any (A : Option Addr) (n c : Nat) (w : World) : Calls Try.prog 34 #[.slice A n c] w fun e w' => e = .returned (.func (.func 36) #[] #[.pointer (some ⟨w.heap.size, 0, Option.none⟩)]) ∧ w' = w.alloc (.cells #[.slice A n c] 22) := by
  go_enter Try.func34, Try.ntmps34
  go_wp2
  go_ret
  exact ⟨rfl, rfl⟩

attribute [local go_sem] Oper.semAt_some

theorem open_goodL (B g : Nat) (A : Option Addr) (cap : Nat) (ds : List Nat) (w : World) (ht : TabTo w g 256) (hr : Rd B w A ds) (hcap : ds.length ≤ cap) (hE : openE ds = 0) :
    Calls Try.prog 31 #[.pointer (some ⟨g, 0, none⟩), .slice A ds.length cap] w fun e w' => ∃ a, e = .returned (.tuple #[.slice (some a) (body ds).length (cap - 8), .int .i64 0]) ∧ Rd B w (some a) (body ds) ∧ ∃ k, w' = w.drewN k := by
  have h := open_good B g A _ cap ds w ht hr rfl hcap hE
  rwa [← body_length (openE_zero hE).2.2.1] at h
def lenOf : Value → Nat
  | .slice _ n _ => n
  | _ => 0
/-- How many bytes the slice in this cell has. -/
def lenAt (g : Nat) (w : World) : Nat := lenOf ((w.cell? ⟨g, 0, Option.none⟩).getD undef)
theorem lenAt_eq {g n c : Nat} {A : Option Addr} {t : TypeId} {w : World} (h : Boxed w g t (.slice A n c)) : lenAt g w = n := by
  unfold lenAt; rw [h.cell]; rfl

/-- A payload as the iterator hands it over: where it begins, its room, its bytes. -/
abbrev Pay := Addr × Nat × List Nat
def encP (p : Pay) : Array Value := #[.slice (some p.1) p.2.2.length p.2.1]
def YS (w : World) (B : Nat) (bs : List Nat) (s : List (List Nat) × List Nat × Option Nat) (p : Pay) : Prop :=
  Rd B w (some p.1) p.2.2 ∧ span s.1 + (8 + p.2.2.length) ≤ bs.length
def nxP (s : List (List Nat) × List Nat × Option Nat) (p : Pay) : List (List Nat) × List Nat × Option Nat := (s.1 ++ [p.2.2], s.2.1, s.2.2)

set_option maxRecDepth 20000 in
set_option maxHeartbeats 1000000 in
theorem frames1_in (n : Nat) (hn : 1 ≤ n) (w : World) (B D : Nat) (hB : B ≤ w.heap.size) (bs : List Nat)
    (l : Nat) (J : List (List Nat) × List Nat × Option Nat → World → Prop) (hJI : ∀ s W, J s W → SI w B s W) (hJm : ∀ s s' W W', J s W → SI w B s' W' → KeepsFrom D W W' → J s' W')
    (hY : ∀ (s : List (List Nat) × List Nat × Option Nat) (p : Pay) (W : World), J s W → YS w B bs s p → YieldAt Fence.wide (n - 1) Try.prog l (encP p) W fun e W' => e = .returned (.bool true) ∧ J (nxP s p) W')
    (W : World) (h0 : J ([], bs, Option.none) W) :
    CallsIn Fence.wide n Try.prog 36 #[.func (.yield l) #[] #[], .pointer (some ⟨w.heap.size + 2, 0, Option.none⟩)] W fun e W' => (∃ v, e = .returned v) ∧ ∃ s : List (List Nat) × List Nat × Option Nat, s.1 = scan bs ∧ J s W' := by
  refine callsIn_of_wp Try.func36 rfl trivial ?_ rfl
  simp only [Try.ntmps36, List.size_toArray, List.length_cons, List.length_nil, Nat.reduceAdd, Nat.reduceSub, Array.replicate_succ, Array.replicate_zero, List.push_toArray, List.append_toArray, List.nil_append, List.cons_append]
  gi_wp2
  refine ⟨trivial, (callsIn_wide.2 (makeSteps_any W)).mono ?_⟩
  rintro e W1 ⟨tg, rfl, ht, hbW⟩
  have hJ1 : J ([], bs, some tg) W1 := by
    obtain ⟨⟨v, vs, hb, hown, hels⟩, hg, ⟨A, cap, hbb, hrA, hcA, hmA⟩, hlow, _⟩ := hJI _ _ h0
    refine hJm _ _ _ _ h0 ⟨⟨v, vs, Boxed.lower hb hbW (Boxed.lt hb), own_below hown hbW, hels.below hbW⟩, Boxed.lower hg hbW (Boxed.lt hg), ⟨A, cap, Boxed.lower hbb hbW (Boxed.lt hbb), hrA, hcA, hmA⟩, hlow.trans (hbW.mono hlow.size), fun g e => by injection e with e; subst e; exact ht⟩ (keepsFrom_of_below hbW)
  gi_wp2
  gi_loopw [4, 5] (fun _ _ wr => ∃ (xs : List (List Nat)) (ds : List Nat), J (xs, ds, some tg) wr ∧ Hid (xs ++ scan ds = scan bs) ∧ Hid (span xs + ds.length = bs.length)) (fun _ _ wr => lenAt (w.heap.size + 2) wr)
  case atStart => exact ⟨[], bs, hJ1, rfl, by show _ = _; rw [span_nil, Nat.zero_add]⟩
  case round =>
    obtain ⟨xs, ds, hJ, hscan, hspan⟩ := hrel
    have hI := hJI _ _ hJ
    obtain ⟨A, cap, hbb, hrA, hcA, hmA⟩ := hI.b
    have hlow := hI.low
    have htw := hI.tab tg rfl
    have hbb' : Boxed wr (w.heap.size + 2) 22 (.slice A ds.length cap) := hbb
    have hmeas := Lib.hid (lenAt_eq hbb')
    have hcb := hbb'.cell
    have hrw : Rd B wr A ds := hrA.below hlow hB
    have hrA' : Rd B w A ds := hrA
    have hcA' : ds.length ≤ cap := hcA
    clear hI hbb hrA hcA
    by_cases hE : openE ds = 0
    · obtain ⟨h8, h65, hle, _⟩ := openE_zero hE
      have hbl : (body ds).length = be4 ds := body_length hle
      have hcall := open_goodL B tg A cap ds wr htw hrw hcA' hE
      have hdrop : Hid (scan ds = body ds :: scan (ds.drop (8 + (body ds).length))) := by show _ = _; rw [scan_good hE, hbl]
      have hlx : (body ds).length ≤ ds.length - 8 := by omega
      have hx65 : (body ds).length ≤ 65536 := by omega
      clear hbl
      generalize body ds = x at *
      have hds' : (ds.drop (8 + x.length)).length = ds.length - (8 + x.length) := List.length_drop ..
      have hspan' : Hid (span (xs ++ [x]) + (ds.drop (8 + x.length)).length = bs.length) := by show _ = _; rw [span_snoc, hds']; have := hspan.out; omega
      have hscan' : Hid ((xs ++ [x]) ++ scan (ds.drop (8 + x.length)) = scan bs) := by show _ = _; rw [List.append_assoc, ← hscan.out, hdrop.out]; rfl
      have hYs : ∀ ad c, Rd B wr (some ad) x → Rd B w (some ad) x → YS w B bs (xs, ds, some tg) (ad, c, x) := fun ad c _ h => ⟨h, by show span xs + (8 + x.length) ≤ bs.length; have := hspan.out; omega⟩
      gi_wp2
      refine ⟨trivial, (callsIn_wide.2 hcall).mono ?_⟩
      rintro e W2 ⟨ad, rfl, hra, kd, rfl⟩
      have hJ2 : J (xs, ds, some tg) (wr.drewN kd) := hJm _ _ _ _ hJ ((hJI _ _ hJ).drewN kd) (keepsFrom_drewN _ _ _)
      obtain ⟨fn, tmps, assign, bdy, hy, hR⟩ := hY (xs, ds, some tg) (ad, cap - 8, x) (wr.drewN kd) hJ2 (hYs _ _ hra (hra.back hlow hB))
      have hy' : Sem.run Try.prog (Instr.yield l #[.slice (some ad) x.length (cap - 8)]) (wr.drewN kd) = Result.ok (Next.round l fn tmps assign bdy) (wr.drewN kd) := hy
      clear hy
      gi_wp2
      refine hR.mono ?_
      rintro e W3 ⟨rfl, hJ3⟩
      have hJ3' : J (xs ++ [x], ds, some tg) W3 := hJ3
      have hI3 := hJI _ _ hJ3'
      clear hJ3 hR
      obtain ⟨A3, cap3, hbb3', hrA3, hcA3, hmA3⟩ := hI3.b
      have hbb3 : Boxed W3 (w.heap.size + 2) 22 (.slice A3 ds.length cap3) := hbb3'
      have hrA3' : Rd B w A3 ds := hrA3
      have hcA3' : ds.length ≤ cap3 := hcA3
      have hstep := hI3.step (hrA3'.cut (k := 8 + x.length) hcA3') (cap := cap3 - (8 + x.length)) (by rw [hds']; omega) (by omega)
      rw [hds'] at hstep
      have hcb3 := hbb3.cell
      have hfb3 := hbb3.frozen
      have hm3 := Lib.hid (lenAt_eq (hbb3.set (.slice (cutA cap3 (8 + x.length) A3) (ds.length - (8 + x.length)) (cap3 - (8 + x.length)))))
      have hcut : ∀ w, (Instr.slice 22 (.slice A3 ds.length cap3) (some (.int .i64 (8 + (x.length : Int)))) Option.none Option.none).run Try.prog w = .ok (.slice (cutA cap3 (8 + x.length) A3) (ds.length - (8 + x.length)) (cap3 - (8 + x.length))) w := fun w => by
        have := run_cut w A3 ds.length cap3 (8 + x.length) (by omega)
        rwa [show ((8 + x.length : Nat) : Int) = 8 + (x.length : Int) by omega] at this
      have hJ4 := hJm _ _ _ _ hJ3' hstep ((KeepsOthers.setCell _ _ _).from _)
      clear hds' hbb3' hrA3 hcA3
      gi_wp2
      go_roundw
      case rel => exact ⟨xs ++ [x], ds.drop (8 + x.length), hJ4, hscan', hspan'⟩
      case measure => rw [hm3.out, hmeas.out]; omega
    · have hcall := open_err B tg A _ cap ds wr htw hrw rfl hcA' hmA hE
      have hscan' : xs = scan bs := by rw [← hscan.out, scan_bad hE, List.append_nil]
      have hne : ((openE ds : Int) != 0) = true := by rw [bne_iff_ne]; omega
      generalize openE ds = n1 at *
      have Hs := Lib.hid hscan'
      clear hscan'
      gi_wp2
      refine ⟨trivial, (callsIn_wide.2 hcall).mono ?_⟩
      rintro e W2 ⟨rfl, kd, rfl⟩
      have hJ2 : J (xs, ds, some tg) (wr.drewN kd) := hJm _ _ _ _ hJ ((hJI _ _ hJ).drewN kd) (keepsFrom_drewN _ _ _)
      gi_wp2
      refine ⟨(fun _ h => (by cases h)), ?_⟩
      gi_wp2
      refine bodyPost_ret (results_none rfl _ _ _) rfl ?_
      exact ⟨⟨_, rfl⟩, (xs, ds, some tg), Hs.out, hJ2⟩

/-- What a scan answers: the payloads in memory of the call's own, and how many bytes their frames take. -/
def ScanAns (w : World) (bs : List Nat) (e : Ending) (w' : World) : Prop :=
  ∃ v vs, e = .returned (.tuple #[v, .int .i64 (span (scan bs) : Nat)]) ∧ w'.ownsRow w.heap.size 22 1 v vs.length vs ∧ Els w' w.heap.size vs (scan bs) ∧ Below w.heap.size w w'

theorem stepIn_append_own {F : Fence} {n : Nat} {P : Program} {ops : Array Oper} {o : Oper} {a : Act} {w : World} {K : Act → World → Prop} {Q : Exit → Act → World → Prop} {E : Prop}
    (hg : o.guard = Option.none) (s x : Operand) (t : TypeId) (hop : o.op = Op.call { callee := Callee.builtin Builtin.append, args := #[s, x], argTypes := #[t, t] })
    (base : Nat) (e : TypeId) (i : TypeInfo) (z : Value) (size bytes : Nat) (h1 : P.underlying t = some (.slice e)) (h2 : P.info? e = some i) (h3 : i.zero = some z) (h4 : i.size = size) (h5 : i.bytes = bytes) (h6 : z.cells.size = size) (h7 : 0 < size)
    (v : Value) (k : Nat) (xs : List Value) (hs : a.eval s = v) (hown : w.ownsRow base e size v k xs) (ad : Addr) (m c : Nat) (news : List Value) (hx : a.eval x = .slice (some ad) m c) (hn : news.length = m * size)
    (hc : ∀ j u, news[j]? = some u → w.cell? (ad.add j) = some u) (h1c : ∀ u ∈ news, u.oneCell' = true) (b1 : k + m ≤ maxLen) (b2 : (k + m) * bytes ≤ 140737488355328) (b3 : base ≤ w.heap.size)
    (hK : ∀ v' w', w'.ownsRow base e size v' (k + m) (xs ++ news) → w.grownBy w' v.ownBlock → K (a.put o.dst v') w') :
    if Region.wanted o (yielded ops a.tmps) = true then Oper.wpIn F n P o a w K Q else E := by
  have hw : Region.wanted o (yielded ops a.tmps) = true := by simp [Region.wanted, hg]
  rw [if_pos hw]
  obtain ⟨v', w', hrun, r1, r2, _⟩ := run_append_own (P := P) w base t o.type e i z size bytes h1 h2 h3 h4 h5 h6 h7 v k xs hown ad m c news hn hc h1c b1 b2 b3
  unfold Oper.wpIn
  refine ⟨?_, ?_⟩
  · simp [Oper.about, hop, resolve, Target.leads, Sem.run_pure]
  · rw [Oper.semAt_plain F _ _ (by rw [hop]; intro c hc'; cases hc')]
    simp [execOp, hop, resolve, invoke, builtin, hs, hx, hrun, Result.andThen]
    exact hK v' w' r1 r2

theorem SI.drew {w : World} {B : Nat} {s : List (List Nat) × List Nat × Option Nat} {W : World} (h : SI w B s W) : SI w B s W.drew := h.drewN 1

/-- Behind one round of the loop: the payload's copy has been made (w1), the row has grown (w2), both cells are written. -/
theorem body_end {w : World} {B D : Nat} {xs : List (List Nat)} {ds x : List Nat} {tg : Option Nat} {W w1 w2 : World} {v vn v' : Value} {vs : List Value} {q : Int}
    (hb : Boxed W w.heap.size 35 v) (hown : W.ownsRow (w.heap.size + 3) 22 1 v vs.length vs) (hI : SI w B (xs, ds, tg) W) (hels : Els W w.heap.size vs xs)
    (hrn : Row w1 W.heap.size vn x) (hbn : Below W.heap.size W w1) (hown2 : w2.ownsRow (w.heap.size + 3) 22 1 v' (vs.length + 1) (vs ++ [vn])) (hgr : (w1.alloc (.cells #[vn] 22)).grownBy w2 v.ownBlock)
    (hq : q = ((span (xs ++ [x]) : Nat) : Int)) :
    (Boxed w2 w.heap.size 35 v ∧ Boxed w2 (w.heap.size + 1) 3 (.int .i64 (span xs : Nat))) ∧
    KeepsFrom D W ((w2.setCell ⟨w.heap.size, 0, Option.none⟩ v').setCell ⟨w.heap.size + 1, 0, Option.none⟩ (.int .i64 q)) ∧
    SI w B (xs ++ [x], ds, tg) ((w2.setCell ⟨w.heap.size, 0, Option.none⟩ v').setCell ⟨w.heap.size + 1, 0, Option.none⟩ (.int .i64 q)) := by
  subst hq
  obtain ⟨_, hg, ⟨A, cap, hbb, hrA, hcA, hmA⟩, hlow, htab⟩ := hI
  have hszW := hlow.size
  have hown1 := (own_below hown hbn).alloc (.cells #[vn] 22)
  have hb1 : Boxed (w1.alloc (.cells #[vn] 22)) w.heap.size 35 v := (Boxed.lower hb hbn (Boxed.lt hb)).alloc _
  have hg1 : Boxed (w1.alloc (.cells #[vn] 22)) (w.heap.size + 1) 3 _ := (Boxed.lower hg hbn (Boxed.lt hg)).alloc _
  have hbb1 : Boxed (w1.alloc (.cells #[vn] 22)) (w.heap.size + 2) 22 _ := (Boxed.lower hbb hbn (Boxed.lt hbb)).alloc _
  have hlow1 : Below w.heap.size w (w1.alloc (.cells #[vn] 22)) := (hlow.trans (hbn.mono hszW)).alloc (by have := hbn.size; omega) _
  have hels1 : Els (w1.alloc (.cells #[vn] 22)) w.heap.size vs xs := (hels.below hbn).apart (World.grownBy_alloc w1 _ Option.none) (off_none _ _)
  have hrn1 : Row (w1.alloc (.cells #[vn] 22)) w.heap.size vn x := (hrn.base hszW).alloc _
  have hn1 : some w.heap.size ≠ v.ownBlock := fun e => by have := (hown.lt _ e.symm).1; omega
  have hn2 : some (w.heap.size + 1) ≠ v.ownBlock := fun e => by have := (hown.lt _ e.symm).1; omega
  have hn3 : some (w.heap.size + 2) ≠ v.ownBlock := fun e => by have := (hown.lt _ e.symm).1; omega
  have b2 := hb1.kept hgr hn1
  have g2 := hg1.kept hgr hn2
  have bb2 := hbb1.kept hgr hn3
  have e2 := (hels1.snoc hrn1).apart hgr (off_own hown1 (by decide))
  have hlow2 := hlow1.grown hgr (by have := hlow1.size; omega) (fun k hk => by have := (hown.lt _ hk).1; omega)
  have m1 : v'.ownBlock = Option.none ∨ v'.ownBlock ≠ some w.heap.size := .inr fun e => by have := (hown2.lt _ e).1; omega
  have m2 : v'.ownBlock = Option.none ∨ v'.ownBlock ≠ some (w.heap.size + 1) := .inr fun e => by have := (hown2.lt _ e).1; omega
  have G1 := grownBy_setCell' w2 w.heap.size v'
  have b3 := b2.set v'
  have g3 := g2.other (show w.heap.size + 1 ≠ w.heap.size by omega) v'
  have G2 := grownBy_setCell' (w2.setCell ⟨w.heap.size, 0, Option.none⟩ v') (w.heap.size + 1) (.int .i64 ((span (xs ++ [x]) : Nat) : Int))
  have hl : (vs ++ [vn]).length = vs.length + 1 := by simp
  refine ⟨⟨b2, g2⟩, ?_, ⟨v', vs ++ [vn], b3.other (by omega) _, ?_, (e2.apart G1 (off_boxed b2 (by decide))).apart G2 (off_boxed g3 (by decide))⟩, g3.set _,
    ⟨A, cap, (bb2.other (by omega) _).other (by omega) _, hrA, hcA, hmA⟩, (hlow2.setCell (p := ⟨w.heap.size, 0, Option.none⟩) (Nat.le_refl _) _).setCell (p := ⟨w.heap.size + 1, 0, Option.none⟩) (by simp) _, fun g e => ?_⟩
  · refine (((keepsFrom_of_below hbn).trans ((KeepsOthers.alloc w1 _).from _)).trans ((KeepsOthers.of_grownBy hgr ?_).from _)).trans (((KeepsOthers.setCell _ _ _).trans (KeepsOthers.setCell _ _ _)).from _)
    intro j o e ho
    rcases hown1.2 with ⟨rfl, _⟩ | ⟨g', cap', cur, rfl, _, hgg, _⟩
    · simp [Value.ownBlock] at e
    · have : g' = j := by simpa [Value.ownBlock] using e
      subst this
      rw [hgg] at ho; injection ho with ho; subst ho; rfl
  · rw [hl]; exact (hown2.kept G1 m1).kept G2 m2
  · have t1 := (((htab g e).below hbn (htab g e).lt).apart (World.grownBy_alloc w1 (.cells #[vn] 22) Option.none) (off_none _ _)).apart hgr (off_own hown1 (by decide))
    exact (t1.apart G1 (off_boxed b2 (by decide))).apart G2 (off_boxed g3 (by decide))

theorem info22 : (Try.prog.info? 22).map (fun i => (i.zero, i.size, i.bytes)) = some (some (.slice Option.none 0 0), 1, 24) := by kernel_rfl
theorem underlying35 : Try.prog.underlying 35 = some (.slice 22) := by kernel_rfl

theorem results21 (tm : Array Value) (w : World) (l g q n c : Nat) (A : Option Addr) (h2 : tm[2]?.getD undef = .pointer (some ⟨l, 0, Option.none⟩)) (h3 : tm[3]?.getD undef = .pointer (some ⟨g, 0, Option.none⟩))
    (hb : Boxed w l 35 (.slice A n c)) (hg : Boxed w g 3 (.int .i64 (q : Int))) : (results Try.f21 tm).run Try.prog w = .ok (.tuple #[.slice A n c, .int .i64 (q : Int)]) w := by
  have hr : Try.f21.results = #[.cell 2 35, .cell 3 3] := rfl
  have hcb := hb.cell
  have hcg := hg.cell
  simp only [results, hr]
  simp [go_sem, h2, h3, hcb, hcg]
theorem scan_post {w W : World} {D n c : Nat} {A : Option Addr} {bs : List Nat} {vs : List Value} {tm : Array Value} (hb : Boxed W w.heap.size 35 (.slice A n c)) (hg : Boxed W (w.heap.size + 1) 3 (.int .i64 (span (scan bs) : Nat)))
    (hown : W.ownsRow (w.heap.size + 3) 22 1 (.slice A n c) vs.length vs) (hels : Els W w.heap.size vs (scan bs)) (hlow : Below w.heap.size w W) (hD : w.heap.size + 3 ≤ D) (hK : W.heap[D]? = some (.deferred (some [])))
    (h2 : tm[2]?.getD undef = .pointer (some ⟨w.heap.size, 0, Option.none⟩)) (h3 : tm[3]?.getD undef = .pointer (some ⟨w.heap.size + 1, 0, Option.none⟩)) :
    bodyPostM Fence.wide 6 Try.prog Try.f21 (ScanAns w bs) Exit.ret { tmps := tm, defers := [{ target := Target.collected D, args := #[] }] }
      ((W.setCell ⟨w.heap.size, 0, Option.none⟩ (.slice A n c)).setCell ⟨w.heap.size + 1, 0, Option.none⟩ (.int .i64 (span (scan bs) : Nat))) := by
  have G1 := grownBy_setCell' W w.heap.size (.slice A n c)
  have b1 := hb.set (.slice A n c)
  have g1 := hg.other (show w.heap.size + 1 ≠ w.heap.size by omega) (.slice A n c)
  have G2 := grownBy_setCell' (W.setCell ⟨w.heap.size, 0, Option.none⟩ (.slice A n c)) (w.heap.size + 1) (.int .i64 (span (scan bs) : Nat))
  have b2 := b1.other (show w.heap.size ≠ w.heap.size + 1 by omega) (.int .i64 (span (scan bs) : Nat))
  have g2 := g1.set (.int .i64 (span (scan bs) : Nat))
  have m1 : (Value.slice A n c).ownBlock = Option.none ∨ (Value.slice A n c).ownBlock ≠ some w.heap.size := .inr fun e => by have := (hown.lt _ e).1; omega
  have m2 : (Value.slice A n c).ownBlock = Option.none ∨ (Value.slice A n c).ownBlock ≠ some (w.heap.size + 1) := .inr fun e => by have := (hown.lt _ e).1; omega
  have o2 := (hown.kept G1 m1).kept G2 m2
  have e2 := (hels.apart G1 (off_boxed hb (by decide))).apart G2 (off_boxed g1 (by decide))
  have l2 := (hlow.setCell (p := ⟨w.heap.size, 0, Option.none⟩) (Nat.le_refl _) (.slice A n c)).setCell (p := ⟨w.heap.size + 1, 0, Option.none⟩) (by simp) (.int .i64 (span (scan bs) : Nat))
  have k2 : ((W.setCell ⟨w.heap.size, 0, Option.none⟩ (.slice A n c)).setCell ⟨w.heap.size + 1, 0, Option.none⟩ (.int .i64 (span (scan bs) : Nat))).heap[D]? = some (.deferred (some [])) :=
    ((KeepsOthers.setCell W _ _).trans (KeepsOthers.setCell _ _ _)).same _ _ hK rfl
  generalize (W.setCell ⟨w.heap.size, 0, Option.none⟩ (.slice A n c)).setCell ⟨w.heap.size + 1, 0, Option.none⟩ (.int .i64 (span (scan bs) : Nat)) = W2 at *
  have hsz2 := l2.size
  have hdef : ∀ r, (some D : Option Nat) = some r → ∃ o : Obj, W2.heap[r]? = some o ∧ o.isCells = false := fun r e => by
    injection e with e; subst e; exact ⟨_, k2, rfl⟩
  have G3 : W2.grownBy (W2.putObj D (.deferred Option.none)) (some D) := grownBy_putObj' W2 D _
  have hnD : (Value.slice A n c).ownBlock = Option.none ∨ (Value.slice A n c).ownBlock ≠ some D := by
    rcases o2.2 with ⟨e, _⟩ | ⟨g', cap', cur, e, _, hgg, _⟩
    · exact .inl (by rw [e]; rfl)
    · refine .inr fun e2 => ?_
      rw [e] at e2
      have : g' = D := by simpa [Value.ownBlock] using e2
      subst this
      rw [k2] at hgg; injection hgg with hgg; cases hgg
  refine ⟨by simp, .inl ⟨_, _, rfl, run_takeDeferred k2, ?_⟩⟩
  refine ⟨_, results21 tm _ w.heap.size (w.heap.size + 1) _ n c A h2 h3 (b2.kept G3 (fun e => by injection e with e; omega)) (g2.kept G3 (fun e => by injection e with e; omega)), .slice A n c, vs, rfl, ?_, e2.apart G3 (off_not hdef), l2.grown G3 (by omega) (fun k e => by injection e with e; omega)⟩
  have o3 := o2.kept G3 hnD
  refine ⟨o3.1, ?_⟩
  rcases o3.2 with h | ⟨g', cap', cur, h1, h2, h3⟩
  · exact .inl h
  · exact .inr ⟨g', cap', cur, h1, by omega, h3⟩

set_option maxRecDepth 20000 in
set_option maxHeartbeats 2000000 in
theorem Scan_any (B : Nat) (A : Option Addr) (cap : Nat) (bs : List Nat) (w : World) (hr : Rd B w A bs) (hB : B ≤ w.heap.size) (hcap : bs.length ≤ cap) (hm : cap ≤ maxLen) (hlen : bs.length ≤ 100000) :
    Calls Try.prog 21 #[.slice A bs.length cap] w (ScanAns w bs) := by
  refine (callsIn_wide (n := 6)).1 ?_
  refine callsIn_of_wp_marks Try.func21 rfl trivial ?_ rfl
  simp only [Try.ntmps21, List.size_toArray, List.length_cons, List.length_nil, Nat.reduceAdd, Nat.reduceSub, Array.replicate_succ, Array.replicate_zero, List.push_toArray, List.append_toArray, List.nil_append, List.cons_append]
  gi_wp2
  refine ⟨trivial, (callsIn_wide.2 (frames_any A bs.length cap _)).mono ?_⟩
  rintro e w' ⟨rfl, rfl⟩
  gi_wp2
  have hsz : (((w.alloc (.cells #[.slice Option.none 0 0] 35)).alloc (.cells #[.int .i64 0] 3)).alloc (.cells #[.slice A bs.length cap] 22)).heap.size = w.heap.size + 3 := by simp
  have hS0 : SI w B ([], bs, Option.none) (((w.alloc (.cells #[.slice Option.none 0 0] 35)).alloc (.cells #[.int .i64 0] 3)).alloc (.cells #[.slice A bs.length cap] 22)) := by
    refine ⟨⟨.slice Option.none 0 0, [], ((Boxed.new w 35 _).alloc _).alloc _, World.ownsRow_nil _ _ _ _, Els.nil _ _⟩, ?_, ⟨A, cap, ?_, hr, hcap, hm⟩, (((Below.refl _ w).alloc (Nat.le_refl _) _).alloc (by simp) _).alloc (by simp; omega) _, fun g e => (by cases e)⟩
    · have := (Boxed.new (w.alloc (.cells #[.slice Option.none 0 0] 35)) 3 (.int .i64 0)).alloc (.cells #[.slice A bs.length cap] 22)
      rw [World.size_alloc] at this
      exact this
    · have := Boxed.new ((w.alloc (.cells #[.slice Option.none 0 0] 35)).alloc (.cells #[.int .i64 0] 3)) 22 (.slice A bs.length cap)
      rw [World.size_alloc, World.size_alloc] at this
      exact this
  generalize (((w.alloc (.cells #[.slice Option.none 0 0] 35)).alloc (.cells #[.int .i64 0] 3)).alloc (.cells #[.slice A bs.length cap] 22)) = W1 at *
  obtain ⟨i0, hi, hz0, hz1, hz2⟩ := info_parts info22
  refine wpIn_range_joint (F := Fence.wide) (n := 6) rfl (by omega) (gf := 36) (lb := #[.pointer (some ⟨w.heap.size + 2, 0, Option.none⟩)]) rfl trivial (enters_of Try.func36 (by kernel_rfl) rfl) encP (fun _ => rfl)
    (SI w B) (SI_own (by omega)) ([], bs, Option.none) hS0 (YS w B bs) nxP (fun s => s.1 = scan bs)
    (fun p => { tmps := #[.slice A bs.length cap, undef, .pointer (some ⟨w.heap.size, 0, Option.none⟩), .pointer (some ⟨w.heap.size + 1, 0, Option.none⟩), .slice (some p.1) p.2.2.length p.2.1, .slice A bs.length cap, .func (.func 36) #[] #[.pointer (some ⟨w.heap.size + 2, 0, Option.none⟩)], .slice (some p.1) p.2.2.length p.2.1, undef, undef, undef, undef, undef, undef, undef, undef, undef, undef, undef, undef], defers := [] }) ?assign ?body ?iter ?done
  case assign =>
    rintro l ⟨ad, c, x⟩ W K hK
    unfold encP
    gi_wp2
    exact hK
  case iter =>
    intro l J hJI hJm hY W hJ
    exact frames1_in (6 - 1) (by omega) w B W1.heap.size hB bs l J hJI hJm hY W hJ
  case body =>
    rintro l ⟨xs, ds, tg⟩ ⟨ad, c, x⟩ W hI ⟨hrx, hsp⟩
    have hI0 := hI
    obtain ⟨⟨v, vs, hb, hown, hels⟩, hg, ⟨A0, cap0, hbb, hrA, hcA, hmA⟩, hlow, htab⟩ := hI
    have hrxW : Rd B W (some ad) x := Rd.below hrx hlow hB
    have hcb := Boxed.cell hb
    have hfb := Boxed.frozen hb
    have hcg := Boxed.cell hg
    have hfg := Boxed.frozen hg
    have hvs : 8 * vs.length ≤ span xs := by rw [hels.1]; exact eight_length xs
    have hspx : span xs + (8 + x.length) ≤ bs.length := hsp
    have hx63 : x.length ≤ 140737488355328 := by omega
    have hBW : B ≤ W.heap.size := Nat.le_trans hB hlow.size
    have hbase3 : w.heap.size + 3 ≤ W.heap.size := by have := Boxed.lt hbb; omega
    have hone : ∀ u ∈ [(.slice (some ad) x.length c : Value)], u.oneCell' = true := by simp [Value.oneCell']
    unfold encP at *
    gi_wp2
    refine wpIn_region_any (by kernel_rfl) ?_
    have hIW : SI w B (xs, ds, tg) { W with drawn := W.drawn + 1 } := hI0.drew
    have hb' : Boxed { W with drawn := W.drawn + 1 } w.heap.size 35 v := hb
    have hown' : World.ownsRow { W with drawn := W.drawn + 1 } (w.heap.size + 3) 22 1 v vs.length vs := hown
    have hels' : Els { W with drawn := W.drawn + 1 } w.heap.size vs xs := hels
    have hrx' : Rd B { W with drawn := W.drawn + 1 } (some ad) x := hrxW
    have hszd : ({ W with drawn := W.drawn + 1 } : World).heap.size = W.heap.size := rfl
    have hcbd := hb'.cell
    have hKd : KeepsFrom W1.heap.size W { W with drawn := W.drawn + 1 } := keepsFrom_drewN _ _ 1
    generalize ({ W with drawn := W.drawn + 1 } : World) = Wd at *
    have hclone := clone_any B ad x.length c x Wd hrx' (by omega) rfl hx63
    clear hI0 hb hown hels hrxW hcb hfb hcg hfg hone
    refine wpAnyIn_ready (rs := [0, 1]) (by kernel_rfl) (by simp) (AllReadyIn.cons rfl (fun K hK => ?_) (AllReadyIn.cons rfl (fun K hK => ?_) AllReadyIn.nil))
    · go_simp
      refine hK _ _ ?_
      clear hK K
      refine wpAnyIn_ready (rs := [1]) (by kernel_rfl) (by simp) (AllReadyIn.cons rfl (fun K hK => ?_) AllReadyIn.nil)
      go_simp
      refine hK _ _ ?_
      clear hK K
      refine wpAnyIn_ready (rs := [2]) (by kernel_rfl) (by simp) (AllReadyIn.cons rfl (fun K hK => ?_) AllReadyIn.nil)
      go_simp
      refine ⟨trivial, ((callsIn_wide.2 hclone).inRound l).mono ?_⟩
      rintro e w1 ⟨vn, rfl, hrn, hbn⟩
      obtain ⟨En, cn, rfl, _⟩ := hrn.shape
      refine hK _ _ ?_
      clear hK K
      have hcb1 := (Boxed.lower hb' hbn (Boxed.lt hb')).cell
      have hcb1a := ((Boxed.lower hb' hbn (Boxed.lt hb')).alloc (.cells #[.slice En x.length cn] 22)).cell
      have hown1 := (own_below hown' hbn).alloc (.cells #[.slice En x.length cn] 22)
      have hsz1 := hbn.size
      refine wpAnyIn_ready (rs := [3]) (by kernel_rfl) (by simp) (AllReadyIn.cons rfl (fun K hK => ?_) AllReadyIn.nil)
      go_simp
      refine hK _ _ ?_
      clear hK K
      refine wpAnyIn_ready (rs := [4]) (by kernel_rfl) (by simp) (AllReadyIn.cons rfl (fun K hK => ?_) AllReadyIn.nil)
      refine stepIn_append_own rfl (.tmp 8) (.tmp 11) 35 rfl (w.heap.size + 3) 22 i0 (.slice Option.none 0 0) 1 24 underlying35 hi hz0 hz1 hz2 rfl (by decide) v vs.length vs (by simp [Act.eval]) hown1 ⟨w1.heap.size, 0, Option.none⟩ 1 1 [.slice En x.length cn] (by simp [Act.eval]) rfl (cell_one_new _ _ _) (by simp [Value.oneCell']) (by unfold maxLen; omega) (by omega) (by simp; omega) ?_
      intro v' w2 hown2 hgr2
      have hend := fun (q : Int) hq => body_end (D := W1.heap.size) (q := q) hb' hown' hIW hels' hrn hbn hown2 hgr2 hq
      obtain ⟨g', cap', rfl⟩ := ownsRow_succ hown2
      have hbx := (hend _ rfl).1.1
      have hgx := (hend _ rfl).1.2
      have hcx := hbx.cell
      have hfx := hbx.frozen
      have hcy := hgx.cell
      have hfy := hgx.frozen
      refine hK _ _ ?_
      clear hK K
      refine wpAnyIn_ready (rs := [5]) (by kernel_rfl) (by simp) (AllReadyIn.cons rfl (fun K hK => ?_) AllReadyIn.nil)
      go_simp
      refine hK _ _ ?_
      clear hK K
      refine wpAnyIn_done (by kernel_rfl) ?_ _
      have Hend := Lib.hid hend
      clear hend
      gi_wp2
      have hend2 := Hend.out _ (show ((span xs : Int) + (8 + (x.length : Int))) = ((span (xs ++ [x]) : Nat) : Int) by rw [span_snoc]; omega)
      exact ⟨hKd.trans hend2.2.1, hend2.2.2⟩
    · go_simp
      refine hK _ _ ?_
      clear hK K
      refine wpAnyIn_ready (rs := [0, 2]) (by kernel_rfl) (by simp) (AllReadyIn.cons rfl (fun K hK => ?_) (AllReadyIn.cons rfl (fun K hK => ?_) AllReadyIn.nil))
      · go_simp
        refine hK _ _ ?_
        clear hK K
        refine wpAnyIn_ready (rs := [2]) (by kernel_rfl) (by simp) (AllReadyIn.cons rfl (fun K hK => ?_) AllReadyIn.nil)
        go_simp
        refine ⟨trivial, ((callsIn_wide.2 hclone).inRound l).mono ?_⟩
        rintro e w1 ⟨vn, rfl, hrn, hbn⟩
        obtain ⟨En, cn, rfl, _⟩ := hrn.shape
        refine hK _ _ ?_
        clear hK K
        have hcb1 := (Boxed.lower hb' hbn (Boxed.lt hb')).cell
        have hcb1a := ((Boxed.lower hb' hbn (Boxed.lt hb')).alloc (.cells #[.slice En x.length cn] 22)).cell
        have hown1 := (own_below hown' hbn).alloc (.cells #[.slice En x.length cn] 22)
        have hsz1 := hbn.size
        refine wpAnyIn_ready (rs := [3]) (by kernel_rfl) (by simp) (AllReadyIn.cons rfl (fun K hK => ?_) AllReadyIn.nil)
        go_simp
        refine hK _ _ ?_
        clear hK K
        refine wpAnyIn_ready (rs := [4]) (by kernel_rfl) (by simp) (AllReadyIn.cons rfl (fun K hK => ?_) AllReadyIn.nil)
        refine stepIn_append_own rfl (.tmp 8) (.tmp 11) 35 rfl (w.heap.size + 3) 22 i0 (.slice Option.none 0 0) 1 24 underlying35 hi hz0 hz1 hz2 rfl (by decide) v vs.length vs (by simp [Act.eval]) hown1 ⟨w1.heap.size, 0, Option.none⟩ 1 1 [.slice En x.length cn] (by simp [Act.eval]) rfl (cell_one_new _ _ _) (by simp [Value.oneCell']) (by unfold maxLen; omega) (by omega) (by simp; omega) ?_
        intro v' w2 hown2 hgr2
        have hend := fun (q : Int) hq => body_end (D := W1.heap.size) (q := q) hb' hown' hIW hels' hrn hbn hown2 hgr2 hq
        obtain ⟨g', cap', rfl⟩ := ownsRow_succ hown2
        have hbx := (hend _ rfl).1.1
        have hgx := (hend _ rfl).1.2
        have hcx := hbx.cell
        have hfx := hbx.frozen
        have hcy := hgx.cell
        have hfy := hgx.frozen
        refine hK _ _ ?_
        clear hK K
        refine wpAnyIn_ready (rs := [5]) (by kernel_rfl) (by simp) (AllReadyIn.cons rfl (fun K hK => ?_) AllReadyIn.nil)
        go_simp
        refine hK _ _ ?_
        clear hK K
        refine wpAnyIn_done (by kernel_rfl) ?_ _
        have Hend := Lib.hid hend
        clear hend
        gi_wp2
        have hend2 := Hend.out _ (show ((span xs : Int) + (8 + (x.length : Int))) = ((span (xs ++ [x]) : Nat) : Int) by rw [span_snoc]; omega)
        exact ⟨hKd.trans hend2.2.1, hend2.2.2⟩
      · go_simp
        refine ⟨trivial, ((callsIn_wide.2 hclone).inRound l).mono ?_⟩
        rintro e w1 ⟨vn, rfl, hrn, hbn⟩
        obtain ⟨En, cn, rfl, _⟩ := hrn.shape
        refine hK _ _ ?_
        clear hK K
        have hcb1 := (Boxed.lower hb' hbn (Boxed.lt hb')).cell
        have hcb1a := ((Boxed.lower hb' hbn (Boxed.lt hb')).alloc (.cells #[.slice En x.length cn] 22)).cell
        have hown1 := (own_below hown' hbn).alloc (.cells #[.slice En x.length cn] 22)
        have hsz1 := hbn.size
        refine wpAnyIn_ready (rs := [0, 3]) (by kernel_rfl) (by simp) (AllReadyIn.cons rfl (fun K hK => ?_) (AllReadyIn.cons rfl (fun K hK => ?_) AllReadyIn.nil))
        · go_simp
          refine hK _ _ ?_
          clear hK K
          refine wpAnyIn_ready (rs := [3]) (by kernel_rfl) (by simp) (AllReadyIn.cons rfl (fun K hK => ?_) AllReadyIn.nil)
          go_simp
          refine hK _ _ ?_
          clear hK K
          refine wpAnyIn_ready (rs := [4]) (by kernel_rfl) (by simp) (AllReadyIn.cons rfl (fun K hK => ?_) AllReadyIn.nil)
          refine stepIn_append_own rfl (.tmp 8) (.tmp 11) 35 rfl (w.heap.size + 3) 22 i0 (.slice Option.none 0 0) 1 24 underlying35 hi hz0 hz1 hz2 rfl (by decide) v vs.length vs (by simp [Act.eval]) hown1 ⟨w1.heap.size, 0, Option.none⟩ 1 1 [.slice En x.length cn] (by simp [Act.eval]) rfl (cell_one_new _ _ _) (by simp [Value.oneCell']) (by unfold maxLen; omega) (by omega) (by simp; omega) ?_
          intro v' w2 hown2 hgr2
          have hend := fun (q : Int) hq => body_end (D := W1.heap.size) (q := q) hb' hown' hIW hels' hrn hbn hown2 hgr2 hq
          obtain ⟨g', cap', rfl⟩ := ownsRow_succ hown2
          have hbx := (hend _ rfl).1.1
          have hgx := (hend _ rfl).1.2
          have hcx := hbx.cell
          have hfx := hbx.frozen
          have hcy := hgx.cell
          have hfy := hgx.frozen
          refine hK _ _ ?_
          clear hK K
          refine wpAnyIn_ready (rs := [5]) (by kernel_rfl) (by simp) (AllReadyIn.cons rfl (fun K hK => ?_) AllReadyIn.nil)
          go_simp
          refine hK _ _ ?_
          clear hK K
          refine wpAnyIn_done (by kernel_rfl) ?_ _
          have Hend := Lib.hid hend
          clear hend
          gi_wp2
          have hend2 := Hend.out _ (show ((span xs : Int) + (8 + (x.length : Int))) = ((span (xs ++ [x]) : Nat) : Int) by rw [span_snoc]; omega)
          exact ⟨hKd.trans hend2.2.1, hend2.2.2⟩
        · go_simp
          refine hK _ _ ?_
          clear hK K
          refine wpAnyIn_ready (rs := [0]) (by kernel_rfl) (by simp) (AllReadyIn.cons rfl (fun K hK => ?_) AllReadyIn.nil)
          go_simp
          refine hK _ _ ?_
          clear hK K
          refine wpAnyIn_ready (rs := [4]) (by kernel_rfl) (by simp) (AllReadyIn.cons rfl (fun K hK => ?_) AllReadyIn.nil)
          refine stepIn_append_own rfl (.tmp 8) (.tmp 11) 35 rfl (w.heap.size + 3) 22 i0 (.slice Option.none 0 0) 1 24 underlying35 hi hz0 hz1 hz2 rfl (by decide) v vs.length vs (by simp [Act.eval]) hown1 ⟨w1.heap.size, 0, Option.none⟩ 1 1 [.slice En x.length cn] (by simp [Act.eval]) rfl (cell_one_new _ _ _) (by simp [Value.oneCell']) (by unfold maxLen; omega) (by omega) (by simp; omega) ?_
          intro v' w2 hown2 hgr2
          have hend := fun (q : Int) hq => body_end (D := W1.heap.size) (q := q) hb' hown' hIW hels' hrn hbn hown2 hgr2 hq
          obtain ⟨g', cap', rfl⟩ := ownsRow_succ hown2
          have hbx := (hend _ rfl).1.1
          have hgx := (hend _ rfl).1.2
          have hcx := hbx.cell
          have hfx := hbx.frozen
          have hcy := hgx.cell
          have hfy := hgx.frozen
          refine hK _ _ ?_
          clear hK K
          refine wpAnyIn_ready (rs := [5]) (by kernel_rfl) (by simp) (AllReadyIn.cons rfl (fun K hK => ?_) AllReadyIn.nil)
          go_simp
          refine hK _ _ ?_
          clear hK K
          refine wpAnyIn_done (by kernel_rfl) ?_ _
          have Hend := Lib.hid hend
          clear hend
          gi_wp2
          have hend2 := Hend.out _ (show ((span xs : Int) + (8 + (x.length : Int))) = ((span (xs ++ [x]) : Nat) : Int) by rw [span_snoc]; omega)
          exact ⟨hKd.trans hend2.2.1, hend2.2.2⟩
  case done =>
    rintro D ⟨xs, ds, tg⟩ W hD hF hI hK
    have hF' : xs = scan bs := hF
    subst hF'
    obtain ⟨⟨v, vs, hb, hown, hels⟩, hg, _, hlow, _⟩ := hI
    obtain ⟨A', n', c', rfl⟩ : ∃ A' n' c', v = .slice A' n' c' := by
      rcases hown.2 with ⟨e, _⟩ | ⟨g', cap', cur, e, _⟩ <;> exact ⟨_, _, _, e⟩
    have hcb := Boxed.cell hb
    have hfb := Boxed.frozen hb
    have hcg := Boxed.cell hg
    have hfg := Boxed.frozen hg
    gi_wp2
    refine wpIn_region_any (by kernel_rfl) ?_
    have hcb1 : World.cell? { W with drawn := W.drawn + 1 } ⟨w.heap.size, 0, Option.none⟩ = _ := hcb
    have hfb1 : World.frozen? { W with drawn := W.drawn + 1 } ⟨w.heap.size, 0, Option.none⟩ = _ := hfb
    have hcg1 : World.cell? { W with drawn := W.drawn + 1 } ⟨w.heap.size + 1, 0, Option.none⟩ = _ := hcg
    have hfg1 : World.frozen? { W with drawn := W.drawn + 1 } ⟨w.heap.size + 1, 0, Option.none⟩ = _ := hfg
    have hbd : Boxed { W with drawn := W.drawn + 1 } w.heap.size 35 _ := hb
    have hgd : Boxed { W with drawn := W.drawn + 1 } (w.heap.size + 1) 3 _ := hg
    have hownd : World.ownsRow { W with drawn := W.drawn + 1 } (w.heap.size + 3) 22 1 _ vs.length vs := hown
    have helsd : Els { W with drawn := W.drawn + 1 } w.heap.size vs (scan bs) := hels
    have hlowd : Below w.heap.size w { W with drawn := W.drawn + 1 } := below_drewN hlow 1
    have hKd := Lib.hid (show ({ W with drawn := W.drawn + 1 } : World).heap[D]? = some (.deferred (some [])) from hK)
    generalize ({ W with drawn := W.drawn + 1 } : World) = Wd at *
    have hpost := fun (tm : Array Value) => scan_post (tm := tm) hbd hgd hownd helsd hlowd (show w.heap.size + 3 ≤ D by omega) hKd.out
    clear hK hb hg hown hels hlow hcb hfb hcg hfg hbd hgd hownd helsd hlowd hF
    refine wpAnyIn_ready (rs := [0, 1]) (by kernel_rfl) (by simp) (AllReadyIn.cons rfl (fun K hK => ?_) (AllReadyIn.cons rfl (fun K hK => ?_) AllReadyIn.nil))
    · go_simp
      refine hK _ _ ?_
      clear hK K
      refine wpAnyIn_ready (rs := [1, 2]) (by kernel_rfl) (by simp) (AllReadyIn.cons rfl (fun K hK => ?_) (AllReadyIn.cons rfl (fun K hK => ?_) AllReadyIn.nil))
      · go_simp
        refine hK _ _ ?_
        clear hK K
        refine wpAnyIn_ready (rs := [2]) (by kernel_rfl) (by simp) (AllReadyIn.cons rfl (fun K hK => ?_) AllReadyIn.nil)
        go_simp
        refine hK _ _ ?_
        clear hK K
        refine wpAnyIn_ready (rs := [3]) (by kernel_rfl) (by simp) (AllReadyIn.cons rfl (fun K hK => ?_) AllReadyIn.nil)
        go_simp
        refine hK _ _ ?_
        clear hK K
        refine wpAnyIn_done (by kernel_rfl) ?_ _
        gi_wp2
        exact hpost _ rfl rfl
      · go_simp
        refine hK _ _ ?_
        clear hK K
        refine wpAnyIn_ready (rs := [1]) (by kernel_rfl) (by simp) (AllReadyIn.cons rfl (fun K hK => ?_) AllReadyIn.nil)
        go_simp
        refine hK _ _ ?_
        clear hK K
        refine wpAnyIn_ready (rs := [3]) (by kernel_rfl) (by simp) (AllReadyIn.cons rfl (fun K hK => ?_) AllReadyIn.nil)
        go_simp
        refine hK _ _ ?_
        clear hK K
        refine wpAnyIn_done (by kernel_rfl) ?_ _
        gi_wp2
        exact hpost _ rfl rfl
    · go_simp
      refine hK _ _ ?_
      clear hK K
      refine wpAnyIn_ready (rs := [0]) (by kernel_rfl) (by simp) (AllReadyIn.cons rfl (fun K hK => ?_) AllReadyIn.nil)
      go_simp
      refine hK _ _ ?_
      clear hK K
      refine wpAnyIn_ready (rs := [2]) (by kernel_rfl) (by simp) (AllReadyIn.cons rfl (fun K hK => ?_) AllReadyIn.nil)
      go_simp
      refine hK _ _ ?_
      clear hK K
      refine wpAnyIn_ready (rs := [3]) (by kernel_rfl) (by simp) (AllReadyIn.cons rfl (fun K hK => ?_) AllReadyIn.nil)
      go_simp
      refine hK _ _ ?_
      clear hK K
      refine wpAnyIn_done (by kernel_rfl) ?_ _
      gi_wp2
      exact hpost _ rfl rfl
end Go.Proofs.Ytbhojobonihccaa
