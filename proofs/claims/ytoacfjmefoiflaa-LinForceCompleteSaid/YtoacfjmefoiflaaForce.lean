/- What lin.Force answers. -/
import Derived.Test.YtoacfjmefoiflaaForceN
namespace Go.Proofs.Ytoacfjmefoiflaa
open Go.RowKit Go.Maps
set_option maxRecDepth 100000

/-- The literal at j is one, and its variable is new. -/
def goodU (lits : List Int) (j : Nat) : Prop := litB (lits[j]?.getD 0) 65536 = true ∧ lits[j]?.getD 0 ∉ lits.take j ∧ -(lits[j]?.getD 0) ∉ lits.take j
/-- Literals of pairwise distinct variables. -/
def OkU (lits : List Int) : Prop := ∀ j, j < lits.length → goodU lits j
theorem firstU (lits : List Int) : ∀ n : Nat, (∀ j, j < n → goodU lits j) ∨ ∃ i, i < n ∧ (∀ j, j < i → goodU lits j) ∧ ¬ goodU lits i
  | 0 => .inl fun j hj => absurd hj (Nat.not_lt_zero j)
  | n + 1 => by
    rcases firstU lits n with h | ⟨i, h1, h2⟩
    · by_cases e : goodU lits n
      · left; intro j hj
        rcases Nat.lt_or_ge j n with q | q
        · exact h j q
        · rw [show j = n by omega]; exact e
      · exact .inr ⟨n, by omega, h, e⟩
    · exact .inr ⟨i, by omega, h2⟩
theorem litB_bound {x N : Int} (h : litB x N = true) : x ≠ 0 ∧ -N ≤ x ∧ x ≤ N := by
  unfold litB at h
  simp at h
  omega
/-- Whether the normal form can still be satisfied, and what is forced then. -/
def fOk (lits cs ls : List Int) (k : Int) : Bool := decide (nK cs ls k ≤ can lits (nC cs ls k) (nL cs ls k))
def fRes (lits cs ls : List Int) (k : Int) : List Int := if fOk lits cs ls k = true then frc lits (can lits (nC cs ls k) (nL cs ls k) - nK cs ls k) (nC cs ls k) (nL cs ls k) else []
/-- What Force answers. -/
def Forced (res : List Int) (ok : Bool) (w : World) (e : Ending) (w' : World) : Prop := ∃ v, e = .returned (.tuple #[v, .bool ok]) ∧ RowI w' w.heap.size v res ∧ Below w.heap.size w w'
theorem Forced.nil {w w' : World} (h : Below w.heap.size w w') : Forced [] false w (.returned (.tuple #[.slice Option.none 0 0, .bool false])) w' := ⟨_, rfl, RowI.empty _ _, h⟩

theorem norm_len (cs ls : List Int) (k : Int) : (nC cs ls k).length ≤ ls.length := by
  have h1 := (n_len cs ls (vsOf ls)).2
  have h2 : ∀ l : List Int, (vsOf l).length ≤ l.length := by
    intro l
    induction l with
    | nil => simp [vsOf]
    | cons z r ih =>
      have h3 : ∀ (x : Int) (l : List Int), (insU x l).length ≤ l.length + 1 := by
        intro x l
        induction l with
        | nil => simp [insU]
        | cons y r ih =>
          unfold insU
          split
          · simp
          · split
            · simp
            · simp; omega
      have := h3 (max z (-z)) (vsOf r)
      show (insU _ _).length ≤ r.length + 1
      omega
  have h3 := h2 ls
  unfold nC satC
  split
  · simp
  · split
    · simp
    · unfold mn; rw [List.length_map]; omega

set_option maxHeartbeats 8000000 in
theorem Force_bad (B : Nat) (AC AL A : Option Addr) (n1 n2 cc lc m c i0 : Nat) (k : Int) (lits : List Int) (w : World) (hrl : RdI B w A lits) (hB : B ≤ w.heap.size) (hml : lits.length = m) (hm : m ≤ 100000) (hi : i0 < m) (hgood : ∀ j, j < i0 → goodU lits j) (hbad : ¬ goodU lits i0) :
    Calls Try.prog 20 #[.agg #[.slice AC n1 cc, .slice AL n2 lc, .int .i64 k], .slice A m c] w (Forced [] false w) := by
  obtain ⟨W1, hW1⟩ : ∃ W, W = (((w.alloc (.cells #[.slice AC n1 cc, .slice AL n2 lc, .int .i64 k] 24)).alloc (.map #[] 0)).alloc (.cells #[.map (some (w.heap.size + 1))] 60)) := ⟨_, rfl⟩
  have hs1 : W1.heap.size = w.heap.size + 3 := by rw [hW1]; simp
  have hb1 : Below w.heap.size w W1 := by rw [hW1]; exact (((Below.refl _ _).alloc (Nat.le_refl _) _).alloc (by simp) _).alloc (by simp; omega) _
  have hat : LinAt W1 w.heap.size (.slice AC n1 cc) (.slice AL n2 lc) k 24 := by rw [hW1]; exact (heap_alloc_old _ _ (by simp; omega)).trans ((heap_alloc_old _ _ (by simp)).trans (heap_alloc_new _ _))
  have hM1 : MB W1 (w.heap.size + 1) 0 [] := by
    have h := MB.made (w.alloc (.cells #[.slice AC n1 cc, .slice AL n2 lc, .int .i64 k] 24))
    rw [World.size_alloc] at h
    rw [hW1]; exact h.same (heap_alloc_old _ _ (by simp))
  have hbx : Boxed W1 (w.heap.size + 2) 60 (.map (some (w.heap.size + 1))) := by
    have h := Boxed.new ((w.alloc (.cells #[.slice AC n1 cc, .slice AL n2 lc, .int .i64 k] 24)).alloc (.map #[] 0)) 60 (.map (some (w.heap.size + 1)))
    rw [hW1]
    simpa using h
  have HW := Lib.hid hW1
  have HA := Lib.hid hat
  have HM := Lib.hid hM1
  have HX := Lib.hid hbx
  have hrA := hrl.below hb1 hB
  have RA := Lib.hid hrA
  have HL := Lib.hid hml
  have Hgood := Lib.hid hgood
  clear hW1 hat hM1 hbx hrl hrA hml hgood
  have hmm := @run_makeMap Try.prog
  go_enter Try.func20, Try.ntmps20
  go_wp2_with fail
  rw [← HW.out]
  clear HW hmm
  go_loopw [14] (fun i wr => ∃ j : Nat, j ≤ i0 ∧ i = .int .i64 j ∧ Hid (MB wr (w.heap.size + 1) j (lits.take j) ∧ LinAt wr w.heap.size (.slice AC n1 cc) (.slice AL n2 lc) k 24 ∧ Boxed wr (w.heap.size + 2) 60 (.map (some (w.heap.size + 1))) ∧ Below w.heap.size W1 wr)) (fun i _ => m - (intOf i).toNat)
  case atStart => exact ⟨0, by omega, rfl, Lib.hid ⟨HM.out, HA.out, HX.out, Below.refl _ _⟩⟩
  case round =>
    obtain ⟨j, hj, rfl, HR⟩ := hrel
    have hxr := Boxed.cell HR.out.2.2.1
    by_cases hlt : j < i0
    · have hjm : j < m := by omega
      have hjl : j < lits.length := by rw [HL.out]; omega
      obtain ⟨b, off, hA, _, hcz⟩ := (RA.out.below HR.out.2.2.2 hB).2 (by omega)
      have hz1 := hcz j hjl
      obtain ⟨g1, g2, g3⟩ := Hgood.out j hlt
      obtain ⟨_, x2, x3⟩ := litB_bound g1
      have hwz : Wf (lits[j]?.getD 0) := ⟨by omega, by omega⟩
      have hl1 := HR.out.1.look hwz
      have hl2 := HR.out.1.look (z := -(lits[j]?.getD 0)) ⟨by omega, by omega⟩
      rw [decide_eq_false g2] at hl1
      rw [decide_eq_false g3] at hl2
      have hneg : wrap64 (-(lits[j]?.getD 0)) = -(lits[j]?.getD 0) := IntWalk.wrap64_in _ (by omega)
      obtain ⟨wp, hput, hMp, hgp⟩ := HR.out.1.put (by omega) hwz
      have htk : lits.take (j + 1) = lits.take j ++ [lits[j]?.getD 0] := by rw [List.take_add_one, List.getElem?_eq_getElem hjl]; rfl
      rw [← htk] at hMp
      have hN := fun W => lliteral_any (lits[j]?.getD 0) 65536 W (by omega) (by omega)
      rw [g1] at hN
      have HN := Lib.hid hN
      have hsz := HR.out.2.2.2.size
      have HP : Hid (MB wp (w.heap.size + 1) (j + 1) (lits.take (j + 1)) ∧ LinAt wp w.heap.size (.slice AC n1 cc) (.slice AL n2 lc) k 24 ∧ Boxed wp (w.heap.size + 2) 60 (.map (some (w.heap.size + 1))) ∧ Below w.heap.size W1 wp) :=
        Lib.hid ⟨hMp, (hgp.block _ HR.out.2.1.lt (by intro e; injection e with e; omega)).trans HR.out.2.1, (hgp.block _ (by omega) (by intro e; injection e with e; omega)).trans HR.out.2.2.1, HR.out.2.2.2.trans ((Below.refl _ _).grown hgp (by omega) (fun q hq => by injection hq with hq; omega))⟩
      clear hcz hjl g1 g2 g3 hwz hMp hgp htk hN hsz HR
      cases hA
      generalize lits[j]?.getD 0 = x at *
      go_wp2_with fail
      refine (HN.out _).mono ?_
      rintro e w' ⟨rfl, rfl⟩
      go_wp2_with fail
      go_roundw
      case rel => exact ⟨j + 1, by omega, by go_num, HP⟩
      case measure => simp [intOf]; omega
    · obtain rfl : j = i0 := by omega
      have hjl : j < lits.length := by rw [HL.out]; omega
      obtain ⟨b, off, hA, _, hcz⟩ := (RA.out.below HR.out.2.2.2 hB).2 (by omega)
      have hz1 := hcz j hjl
      have hwf := RA.out.wf hjl
      have hN := fun W => lliteral_any (lits[j]?.getD 0) 65536 W (by omega) (by omega)
      have fin : Hid (Below w.heap.size w wr) := Lib.hid (hb1.trans HR.out.2.2.2)
      cases g1 : litB (lits[j]?.getD 0) 65536 with
      | false =>
        rw [g1] at hN
        have HN := Lib.hid hN
        clear hcz hjl hN HR hwf g1 hbad
        cases hA
        generalize lits[j]?.getD 0 = x at *
        go_wp2_with fail
        refine (HN.out _).mono ?_
        rintro e w' ⟨rfl, rfl⟩
        go_wp2_with fail
        go_ret2
        exact Forced.nil fin.out
      | true =>
        rw [g1] at hN
        have HN := Lib.hid hN
        obtain ⟨_, x2, x3⟩ := litB_bound g1
        have hl1 := HR.out.1.look hwf
        have hl2 := HR.out.1.look (z := -(lits[j]?.getD 0)) ⟨by omega, by omega⟩
        have hneg : wrap64 (-(lits[j]?.getD 0)) = -(lits[j]?.getD 0) := IntWalk.wrap64_in _ (by omega)
        by_cases g2 : lits[j]?.getD 0 ∈ lits.take j
        · rw [decide_eq_true g2] at hl1
          clear hcz hjl hN HR hwf g1 hbad g2 hl2
          cases hA
          generalize lits[j]?.getD 0 = x at *
          go_wp2_with fail
          refine (HN.out _).mono ?_
          rintro e w' ⟨rfl, rfl⟩
          go_wp2_with fail
          go_ret2
          exact Forced.nil fin.out
        · have g3 : -(lits[j]?.getD 0) ∈ lits.take j := by
            by_cases g3 : -(lits[j]?.getD 0) ∈ lits.take j
            · exact g3
            · exact absurd ⟨g1, g2, g3⟩ hbad
          rw [decide_eq_false g2] at hl1
          rw [decide_eq_true g3] at hl2
          clear hcz hjl hN HR hwf g1 hbad g2 g3
          cases hA
          generalize lits[j]?.getD 0 = x at *
          go_wp2_with fail
          refine (HN.out _).mono ?_
          rintro e w' ⟨rfl, rfl⟩
          go_wp2_with fail
          go_ret2
          exact Forced.nil fin.out
set_option maxHeartbeats 8000000 in
theorem Force_no (B : Nat) (AC AL A : Option Addr) (n1 n2 cc lc m c : Nat) (k : Int) (cs ls lits : List Int) (w : World) (hc : RdI B w AC cs) (hr : RdI B w AL ls) (hrl : RdI B w A lits) (hB : B ≤ w.heap.size) (hcl : cs.length = n1) (hl : ls.length = n2) (hn : n2 ≤ 64) (hml : lits.length = m) (hm : m ≤ 100000) (hgood : ∀ j, j < m → goodU lits j) (hok : ¬ OkL cs ls k 65536) :
    Calls Try.prog 20 #[.agg #[.slice AC n1 cc, .slice AL n2 lc, .int .i64 k], .slice A m c] w (Forced [] false w) := by
  obtain ⟨W1, hW1⟩ : ∃ W, W = (((w.alloc (.cells #[.slice AC n1 cc, .slice AL n2 lc, .int .i64 k] 24)).alloc (.map #[] 0)).alloc (.cells #[.map (some (w.heap.size + 1))] 60)) := ⟨_, rfl⟩
  have hs1 : W1.heap.size = w.heap.size + 3 := by rw [hW1]; simp
  have hb1 : Below w.heap.size w W1 := by rw [hW1]; exact (((Below.refl _ _).alloc (Nat.le_refl _) _).alloc (by simp) _).alloc (by simp; omega) _
  have hat : LinAt W1 w.heap.size (.slice AC n1 cc) (.slice AL n2 lc) k 24 := by rw [hW1]; exact (heap_alloc_old _ _ (by simp; omega)).trans ((heap_alloc_old _ _ (by simp)).trans (heap_alloc_new _ _))
  have hM1 : MB W1 (w.heap.size + 1) 0 [] := by
    have h := MB.made (w.alloc (.cells #[.slice AC n1 cc, .slice AL n2 lc, .int .i64 k] 24))
    rw [World.size_alloc] at h
    rw [hW1]; exact h.same (heap_alloc_old _ _ (by simp))
  have hbx : Boxed W1 (w.heap.size + 2) 60 (.map (some (w.heap.size + 1))) := by
    have h := Boxed.new ((w.alloc (.cells #[.slice AC n1 cc, .slice AL n2 lc, .int .i64 k] 24)).alloc (.map #[] 0)) 60 (.map (some (w.heap.size + 1)))
    rw [hW1]
    simpa using h
  have HW := Lib.hid hW1
  have HA := Lib.hid hat
  have HM := Lib.hid hM1
  have HX := Lib.hid hbx
  have hrA := hrl.below hb1 hB
  have RA := Lib.hid hrA
  have HL := Lib.hid hml
  have Hgood := Lib.hid hgood
  have RC := Lib.hid (And.intro (hc.below hb1 hB) (And.intro (hr.below hb1 hB) (And.intro hcl (And.intro hl hok))))
  clear hc hr hcl hl hok hW1 hat hM1 hbx hrl hrA hml hgood
  have hmm := @run_makeMap Try.prog
  go_enter Try.func20, Try.ntmps20
  go_wp2_with fail
  rw [← HW.out]
  clear HW hmm
  go_loopw [14] (fun i wr => ∃ j : Nat, j ≤ m ∧ i = .int .i64 j ∧ Hid (MB wr (w.heap.size + 1) j (lits.take j) ∧ LinAt wr w.heap.size (.slice AC n1 cc) (.slice AL n2 lc) k 24 ∧ Boxed wr (w.heap.size + 2) 60 (.map (some (w.heap.size + 1))) ∧ Below w.heap.size W1 wr)) (fun i _ => m - (intOf i).toNat)
  case atStart => exact ⟨0, by omega, rfl, Lib.hid ⟨HM.out, HA.out, HX.out, Below.refl _ _⟩⟩
  case round =>
    obtain ⟨j, hj, rfl, HR⟩ := hrel
    have hxr := Boxed.cell HR.out.2.2.1
    by_cases hlt : j < m
    · have hjm : j < m := hlt
      have hjl : j < lits.length := by rw [HL.out]; omega
      obtain ⟨b, off, hA, _, hcz⟩ := (RA.out.below HR.out.2.2.2 hB).2 (by omega)
      have hz1 := hcz j hjl
      obtain ⟨g1, g2, g3⟩ := Hgood.out j hlt
      obtain ⟨_, x2, x3⟩ := litB_bound g1
      have hwz : Wf (lits[j]?.getD 0) := ⟨by omega, by omega⟩
      have hl1 := HR.out.1.look hwz
      have hl2 := HR.out.1.look (z := -(lits[j]?.getD 0)) ⟨by omega, by omega⟩
      rw [decide_eq_false g2] at hl1
      rw [decide_eq_false g3] at hl2
      have hneg : wrap64 (-(lits[j]?.getD 0)) = -(lits[j]?.getD 0) := IntWalk.wrap64_in _ (by omega)
      obtain ⟨wp, hput, hMp, hgp⟩ := HR.out.1.put (by omega) hwz
      have htk : lits.take (j + 1) = lits.take j ++ [lits[j]?.getD 0] := by rw [List.take_add_one, List.getElem?_eq_getElem hjl]; rfl
      rw [← htk] at hMp
      have hN := fun W => lliteral_any (lits[j]?.getD 0) 65536 W (by omega) (by omega)
      rw [g1] at hN
      have HN := Lib.hid hN
      have hsz := HR.out.2.2.2.size
      have HP : Hid (MB wp (w.heap.size + 1) (j + 1) (lits.take (j + 1)) ∧ LinAt wp w.heap.size (.slice AC n1 cc) (.slice AL n2 lc) k 24 ∧ Boxed wp (w.heap.size + 2) 60 (.map (some (w.heap.size + 1))) ∧ Below w.heap.size W1 wp) :=
        Lib.hid ⟨hMp, (hgp.block _ HR.out.2.1.lt (by intro e; injection e with e; omega)).trans HR.out.2.1, (hgp.block _ (by omega) (by intro e; injection e with e; omega)).trans HR.out.2.2.1, HR.out.2.2.2.trans ((Below.refl _ _).grown hgp (by omega) (fun q hq => by injection hq with hq; omega))⟩
      clear hcz hjl g1 g2 g3 hwz hMp hgp htk hN hsz HR
      cases hA
      generalize lits[j]?.getD 0 = x at *
      go_wp2_with fail
      refine (HN.out _).mono ?_
      rintro e w' ⟨rfl, rfl⟩
      go_wp2_with fail
      go_roundw
      case rel => exact ⟨j + 1, by omega, by go_num, HP⟩
      case measure => simp [intOf]; omega
    · obtain rfl : j = m := by omega
      have hbr : Below w.heap.size w wr := hb1.trans HR.out.2.2.2
      have hszr := HR.out.2.2.2.size
      obtain ⟨cC, cL, cK⟩ := HR.out.2.1.cells
      have hCk := Lib.hid ((LinCheck_any B AC AL n1 n2 cc lc k 65536 cs ls wr (RC.out.1.below HR.out.2.2.2 hB) (RC.out.2.1.below HR.out.2.2.2 hB) (by omega) RC.out.2.2.1 RC.out.2.2.2.1 (by omega) (by omega) (by omega)).2 RC.out.2.2.2.2)
      clear HR RA RC
      go_wp2_with fail
      refine hCk.out.mono ?_
      rintro e w2 ⟨rfl, hb2⟩
      have fin : Hid (Below w.heap.size w w2) := Lib.hid (hbr.trans (hb2.mono (by omega)))
      clear hCk hb2
      go_wp2_with fail
      go_ret2
      exact Forced.nil fin.out

set_option maxHeartbeats 8000000 in
theorem Force_ok (B : Nat) (AC AL A : Option Addr) (n1 n2 cc lc m c : Nat) (k : Int) (cs ls lits : List Int) (w : World) (hc : RdI B w AC cs) (hr : RdI B w AL ls) (hrl : RdI B w A lits) (hB : B ≤ w.heap.size) (hcl : cs.length = n1) (hl : ls.length = n2) (hn : n2 ≤ 64) (hml : lits.length = m) (hm : m ≤ 100000) (hgood : ∀ j, j < m → goodU lits j) (hok : OkL cs ls k 65536) :
    Calls Try.prog 20 #[.agg #[.slice AC n1 cc, .slice AL n2 lc, .int .i64 k], .slice A m c] w (Forced (fRes lits cs ls k) (fOk lits cs ls k) w) := by
  obtain ⟨W1, hW1⟩ : ∃ W, W = (((w.alloc (.cells #[.slice AC n1 cc, .slice AL n2 lc, .int .i64 k] 24)).alloc (.map #[] 0)).alloc (.cells #[.map (some (w.heap.size + 1))] 60)) := ⟨_, rfl⟩
  have hs1 : W1.heap.size = w.heap.size + 3 := by rw [hW1]; simp
  have hb1 : Below w.heap.size w W1 := by rw [hW1]; exact (((Below.refl _ _).alloc (Nat.le_refl _) _).alloc (by simp) _).alloc (by simp; omega) _
  have hat : LinAt W1 w.heap.size (.slice AC n1 cc) (.slice AL n2 lc) k 24 := by rw [hW1]; exact (heap_alloc_old _ _ (by simp; omega)).trans ((heap_alloc_old _ _ (by simp)).trans (heap_alloc_new _ _))
  have hM1 : MB W1 (w.heap.size + 1) 0 [] := by
    have h := MB.made (w.alloc (.cells #[.slice AC n1 cc, .slice AL n2 lc, .int .i64 k] 24))
    rw [World.size_alloc] at h
    rw [hW1]; exact h.same (heap_alloc_old _ _ (by simp))
  have hbx : Boxed W1 (w.heap.size + 2) 60 (.map (some (w.heap.size + 1))) := by
    have h := Boxed.new ((w.alloc (.cells #[.slice AC n1 cc, .slice AL n2 lc, .int .i64 k] 24)).alloc (.map #[] 0)) 60 (.map (some (w.heap.size + 1)))
    rw [hW1]
    simpa using h
  have HW := Lib.hid hW1
  have HA := Lib.hid hat
  have HM := Lib.hid hM1
  have HX := Lib.hid hbx
  have hrA := hrl.below hb1 hB
  have RA := Lib.hid hrA
  have HL := Lib.hid hml
  have Hgood := Lib.hid hgood
  have RC := Lib.hid (And.intro (hc.below hb1 hB) (And.intro (hr.below hb1 hB) (And.intro hcl (And.intro hl hok))))
  clear hc hr hcl hl hok hW1 hat hM1 hbx hrl hrA hml hgood
  obtain ⟨rs, hrs⟩ : ∃ rs, fRes lits cs ls k = rs := ⟨_, rfl⟩
  obtain ⟨ob, hob⟩ : ∃ ob, fOk lits cs ls k = ob := ⟨_, rfl⟩
  have HRO := Lib.hid (And.intro hrs hob)
  rw [hrs, hob]
  clear hrs hob
  have hmm := @run_makeMap Try.prog
  go_enter Try.func20, Try.ntmps20
  go_wp2_with fail
  rw [← HW.out]
  clear HW hmm
  go_loopw [14] (fun i wr => ∃ j : Nat, j ≤ m ∧ i = .int .i64 j ∧ Hid (MB wr (w.heap.size + 1) j (lits.take j) ∧ LinAt wr w.heap.size (.slice AC n1 cc) (.slice AL n2 lc) k 24 ∧ Boxed wr (w.heap.size + 2) 60 (.map (some (w.heap.size + 1))) ∧ Below w.heap.size W1 wr)) (fun i _ => m - (intOf i).toNat)
  case atStart => exact ⟨0, by omega, rfl, Lib.hid ⟨HM.out, HA.out, HX.out, Below.refl _ _⟩⟩
  case round =>
    obtain ⟨j, hj, rfl, HR⟩ := hrel
    have hxr := Boxed.cell HR.out.2.2.1
    by_cases hlt : j < m
    · have hjm : j < m := hlt
      have hjl : j < lits.length := by rw [HL.out]; omega
      obtain ⟨b, off, hA, _, hcz⟩ := (RA.out.below HR.out.2.2.2 hB).2 (by omega)
      have hz1 := hcz j hjl
      obtain ⟨g1, g2, g3⟩ := Hgood.out j hlt
      obtain ⟨_, x2, x3⟩ := litB_bound g1
      have hwz : Wf (lits[j]?.getD 0) := ⟨by omega, by omega⟩
      have hl1 := HR.out.1.look hwz
      have hl2 := HR.out.1.look (z := -(lits[j]?.getD 0)) ⟨by omega, by omega⟩
      rw [decide_eq_false g2] at hl1
      rw [decide_eq_false g3] at hl2
      have hneg : wrap64 (-(lits[j]?.getD 0)) = -(lits[j]?.getD 0) := IntWalk.wrap64_in _ (by omega)
      obtain ⟨wp, hput, hMp, hgp⟩ := HR.out.1.put (by omega) hwz
      have htk : lits.take (j + 1) = lits.take j ++ [lits[j]?.getD 0] := by rw [List.take_add_one, List.getElem?_eq_getElem hjl]; rfl
      rw [← htk] at hMp
      have hN := fun W => lliteral_any (lits[j]?.getD 0) 65536 W (by omega) (by omega)
      rw [g1] at hN
      have HN := Lib.hid hN
      have hsz := HR.out.2.2.2.size
      have HP : Hid (MB wp (w.heap.size + 1) (j + 1) (lits.take (j + 1)) ∧ LinAt wp w.heap.size (.slice AC n1 cc) (.slice AL n2 lc) k 24 ∧ Boxed wp (w.heap.size + 2) 60 (.map (some (w.heap.size + 1))) ∧ Below w.heap.size W1 wp) :=
        Lib.hid ⟨hMp, (hgp.block _ HR.out.2.1.lt (by intro e; injection e with e; omega)).trans HR.out.2.1, (hgp.block _ (by omega) (by intro e; injection e with e; omega)).trans HR.out.2.2.1, HR.out.2.2.2.trans ((Below.refl _ _).grown hgp (by omega) (fun q hq => by injection hq with hq; omega))⟩
      clear hcz hjl g1 g2 g3 hwz hMp hgp htk hN hsz HR
      cases hA
      generalize lits[j]?.getD 0 = x at *
      go_wp2_with fail
      refine (HN.out _).mono ?_
      rintro e w' ⟨rfl, rfl⟩
      go_wp2_with fail
      go_roundw
      case rel => exact ⟨j + 1, by omega, by go_num, HP⟩
      case measure => simp [intOf]; omega
    · obtain rfl : j = m := by omega
      have hbr : Below w.heap.size w wr := hb1.trans HR.out.2.2.2
      have hszr := HR.out.2.2.2.size
      obtain ⟨cC, cL, cK⟩ := HR.out.2.1.cells
      have htk : lits.take j = lits := List.take_of_length_le (by have := HL.out; omega)
      rw [htk] at HR
      have hokk := RC.out.2.2.2.2
      have hcl := RC.out.2.2.1
      have hl := RC.out.2.2.2.1
      obtain rfl : n1 = n2 := by have := hokk.2.2.1; omega
      have hCk := Lib.hid ((LinCheck_any B AC AL n1 n1 cc lc k 65536 cs ls wr (RC.out.1.below HR.out.2.2.2 hB) (RC.out.2.1.below HR.out.2.2.2 hB) (by omega) hcl hl (by omega) (by omega) (by omega)).1 hokk)
      have hcs : ∀ c ∈ cs, -1099511627776 ≤ c ∧ c ≤ 1099511627776 := fun c hc => by
        obtain ⟨j, hj, rfl⟩ := List.mem_iff_getElem.1 hc
        have := (hokk.2.2.2.2 j (by omega)).1
        rw [List.getElem?_eq_getElem hj, Option.getD_some] at this
        unfold numB at this
        simpa using this
      have hlit : ∀ z ∈ ls, z ≠ 0 ∧ -65536 ≤ z ∧ z ≤ 65536 := fun z hz => by
        obtain ⟨j, hj, rfl⟩ := List.mem_iff_getElem.1 hz
        have := (hokk.2.2.2.2 j hj).2
        rw [List.getElem?_eq_getElem hj, Option.getD_some] at this
        exact litB_bound this
      have hCan := canon cs ls k 65536 (by omega) (by omega) hcs hlit
      have hCl : (nC cs ls k).length ≤ n1 := by have := norm_len cs ls k; omega
      have HC := Lib.hid (And.intro hCan hCl)
      have HNm := Lib.hid (fun W (h : Below w.heap.size W1 W) => norm_fn B n1 cc lc AC AL k cs ls W (RC.out.1.below h hB) (RC.out.2.1.below h hB) (by have := h.size; omega) hcl hl (by omega) hokk)
      have hb1r := HR.out.2.2.2
      clear hcl hl hcs hlit hCan hCl hokk RC RA htk HM HX HA
      go_wp2_with fail
      refine hCk.out.mono ?_
      rintro e w2 ⟨rfl, hb2⟩
      have hat2 := HR.out.2.1.below hb2
      have hb12 := hb1r.trans (hb2.mono (by omega))
      have hx2 : Boxed w2 (w.heap.size + 2) 60 (.map (some (w.heap.size + 1))) := (hb2.block _ (by omega)).trans HR.out.2.2.1
      have hM2 : MB w2 (w.heap.size + 1) j lits := HR.out.1.same (hb2.block _ (by omega))
      have H2 := Lib.hid (And.intro hM2 (And.intro hx2 (And.intro (hbr.trans (hb2.mono (by omega))) hb2.size)))
      have hs2 := hb2.size
      obtain ⟨cC, cL, cK⟩ := hat2.cells
      have hN2 := Lib.hid (HNm.out w2 hb12)
      clear hCk HR hat2 hx2 hM2 HNm hb2 hb12 hb1r
      go_wp2_with fail
      refine hN2.out.mono ?_
      rintro e w3 ⟨A1, c1, A2, c2, rfl, q1, q2, _, hb3⟩
      clear hN2 cC cL cK
      obtain ⟨C, hC⟩ : ∃ C, nC cs ls k = C := ⟨_, rfl⟩
      obtain ⟨L, hL⟩ : ∃ L, nL cs ls k = L := ⟨_, rfl⟩
      obtain ⟨K, hK⟩ : ∃ K, nK cs ls k = K := ⟨_, rfl⟩
      have HCL := Lib.hid (And.intro hC (And.intro hL hK))
      rw [hC, hL, hK] at HC
      rw [hC] at q1
      rw [hL] at q2
      obtain ⟨_, _, e1, _, r1⟩ := q1.shape
      obtain ⟨_, _, e2, _, r2⟩ := q2.shape
      injection e1 with e1 en1 ec1
      injection e2 with e2 en2 ec2
      clear en1 ec1 en2 ec2
      subst e1
      subst e2
      rw [hC, hL, hK]
      obtain ⟨N, hN⟩ : ∃ N, C.length = N := ⟨_, rfl⟩
      have hN' : L.length = N := by rw [← HC.out.1.len]; exact hN
      rw [hN, hN']
      have hNn : N ≤ n1 := by rw [← hN]; exact HC.out.2
      obtain ⟨W4, hW4⟩ : ∃ W4, W4 = w3.alloc (.cells #[.slice A1 N c1, .slice A2 N c2, .int .i64 K] 24) := ⟨_, rfl⟩
      have hs4 : W4.heap.size = w3.heap.size + 1 := by rw [hW4]; simp
      have hb4 : Below w3.heap.size w3 W4 := by rw [hW4]; exact (Below.refl _ _).alloc (Nat.le_refl _) _
      have hat4 : LinAt W4 w3.heap.size (.slice A1 N c1) (.slice A2 N c2) K 24 := by rw [hW4]; exact heap_alloc_new _ _
      have hs3 := hb3.size
      have hx4 : Boxed W4 (w.heap.size + 2) 60 (.map (some (w.heap.size + 1))) := (hb4.block _ (by omega)).trans ((hb3.block _ (by omega)).trans H2.out.2.1)
      have hM4 : MB W4 (w.heap.size + 1) j lits := (H2.out.1.same (hb3.block _ (by omega))).same (hb4.block _ (by omega))
      have hlow4 : Below w.heap.size w W4 := (H2.out.2.2.1.trans (hb3.mono (by omega))).trans (hb4.mono (by omega))
      have r14 := r1.below hb4 (Nat.le_refl _)
      have r24 := r2.below hb4 (Nat.le_refl _)
      have hKb : 0 ≤ K ∧ K ≤ 9007199254740992 := by
        have hcan := HC.out.1
        by_cases hC0 : C = []
        · have := hcan.none hC0; omega
        · have h1 := hcan.some hC0
          have h2 := su_bound 140737488355328 (by omega) C fun c hc => by have := hcan.pos c hc; have := hcan.big c hc; omega
          rw [hN] at h2
          omega
      have hneg : wrap64 (-K) = -K := IntWalk.wrap64_in _ (by omega)
      have hF := Lib.hid (ffold_any w3.heap.size (w.heap.size + 2) (w.heap.size + 1) j A1 A2 N c1 c2 K (-K) C L lits W4 (Boxed.cell hx4) (by omega) hM4 r14 r24 (by omega) hN hN' (by omega) (fun c hc => by have := HC.out.1.pos c hc; have := HC.out.1.big c hc; omega) (by omega) (fun x hx => by have := HC.out.1.lit x hx; omega))
      have HW := Lib.hid hW4
      have H4 := Lib.hid (And.intro hat4 (And.intro hx4 (And.intro hM4 (And.intro hlow4 (And.intro r14 (And.intro r24 (And.intro hN hN')))))))
      obtain ⟨cC, cL, cK⟩ := hat4.cells
      clear hat4 hx4 hM4 hlow4 r14 r24 hW4 q1 q2 r1 r2 hb3 hb4 H2 hN hN' hC hL hK hbr
      go_wp2_with fail
      rw [← HW.out]
      clear HW
      obtain ⟨T, hT⟩ : ∃ T, can lits C L = T := ⟨_, rfl⟩
      rw [hT] at hF
      have HT := Lib.hid hT
      have hTb := can_bound 140737488355328 (by omega) lits C L (fun c hc => by have := HC.out.1.pos c hc; have := HC.out.1.big c hc; omega)
      rw [hT, H4.out.2.2.2.2.2.2.1] at hTb
      obtain ⟨S, hS⟩ : ∃ S, -K + T = S := ⟨_, rfl⟩
      rw [hS] at hF
      have hSb : -18014398509481984 ≤ S ∧ S ≤ 18014398509481984 := by omega
      have HSe := Lib.hid hS
      clear hT hS hTb
      go_wp2_with fail
      refine hF.out.mono ?_
      rintro e w5 ⟨rfl, hb5⟩
      have hs5 := hb5.size
      have hatw := H4.out.1.below hb5
      obtain ⟨W6, hW6⟩ : ∃ W6, W6 = w5.alloc (.cells #[.int .i64 (S)] 3) := ⟨_, rfl⟩
      have hs6 : W6.heap.size = w5.heap.size + 1 := by rw [hW6]; simp
      have hb6 : Below w5.heap.size w5 W6 := by rw [hW6]; exact (Below.refl _ _).alloc (Nat.le_refl _) _
      have hb46 : Below W4.heap.size W4 W6 := hb5.trans (hb6.mono (by omega))
      have hat6 := H4.out.1.below hb46
      have hx6 : Boxed W6 (w.heap.size + 2) 60 (.map (some (w.heap.size + 1))) := (hb46.block _ (by omega)).trans H4.out.2.1
      have hM6 : MB W6 (w.heap.size + 1) j lits := H4.out.2.2.1.same (hb46.block _ (by omega))
      have hS6 : Boxed W6 w5.heap.size 3 (.int .i64 (S)) := by rw [hW6]; exact Boxed.new w5 3 _
      have hlow6 := H4.out.2.2.2.1.trans (hb46.mono (by omega))
      have hG := gfold_any w3.heap.size (w.heap.size + 2) w5.heap.size (w.heap.size + 1) j A1 A2 N c1 c2 K (S) C L lits W6 (Boxed.cell hx6) (by omega) (Boxed.cell hS6) (by omega) hM6 (H4.out.2.2.2.2.1.below hb46 (by omega)) (H4.out.2.2.2.2.2.1.below hb46 (by omega)) (by omega) H4.out.2.2.2.2.2.2.1 H4.out.2.2.2.2.2.2.2 (by omega) (fun x hx => by have := HC.out.1.lit x hx; omega)
      have HG := Lib.hid hG
      have HW := Lib.hid hW6
      have H6 := Lib.hid hlow6
      obtain ⟨cC, cL, cK⟩ := hat6.cells
      have cS := Boxed.cell hS6
      clear hat6 hx6 hM6 hlow6 hG hW6 hF H4 hS6 hatw
      have hadd : S = T - K := by have := HSe.out; omega
      by_cases hneg2 : S < 0
      · have f1 : decide (S < 0) = true := decide_eq_true (by omega)
        have f2 : fOk lits cs ls k = false := by
          obtain ⟨x1, x2, x3⟩ := HCL.out
          unfold fOk
          rw [x1, x2, x3, HT.out]
          exact decide_eq_false (by have := HSe.out; omega)
        have f3 : fRes lits cs ls k = [] := by unfold fRes; rw [f2]; rfl
        obtain rfl : ob = false := HRO.out.2.symm.trans f2
        obtain rfl : rs = [] := HRO.out.1.symm.trans f3
        have fin := Lib.hid H6.out
        have fin : Hid (Below w.heap.size w (w5.alloc (.cells #[.int .i64 S] 3))) := Lib.hid (by rw [← HW.out]; exact fin.out)
        clear HG f2 f3 hadd HW cS cC cL cK
        go_wp2_with fail
        go_ret2
        exact Forced.nil fin.out
      · have f1 : decide (S < 0) = false := decide_eq_false (by omega)
        have f2 : fOk lits cs ls k = true := by
          obtain ⟨x1, x2, x3⟩ := HCL.out
          unfold fOk
          rw [x1, x2, x3, HT.out]
          exact decide_eq_true (by have := HSe.out; omega)
        have f3 : fRes lits cs ls k = frc lits (S) C L := by
          obtain ⟨x1, x2, x3⟩ := HCL.out
          unfold fRes; rw [f2, if_pos rfl, x1, x2, x3, HT.out, hadd]
        obtain rfl : ob = true := HRO.out.2.symm.trans f2
        have HF3 := Lib.hid (HRO.out.1.symm.trans f3)
        clear f2 f3 hadd
        rw [HW.out] at cC cL cK cS
        go_wp2_with fail
        rw [← HW.out]
        clear HW
        refine HG.out.mono ?_
        rintro e w7 ⟨v, rfl, row7, hb7⟩
        have fin : Hid (RowI w7 w.heap.size v rs ∧ Below w.heap.size w w7) := Lib.hid ⟨by rw [HF3.out]; exact row7.base (by omega), H6.out.trans (hb7.mono (by omega))⟩
        clear HG row7 hb7 H6
        go_wp2_with fail
        go_ret2
        exact ⟨_, rfl, fin.out⟩

end Go.Proofs.Ytoacfjmefoiflaa
