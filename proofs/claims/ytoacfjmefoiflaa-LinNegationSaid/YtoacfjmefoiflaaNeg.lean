/- The walk of the law LinNegation. -/
import Derived.Test.YtoacfjmefoiflaaNegM
import Derived.Deep.RegionHeld
namespace Go.Proofs.Ytoacfjmefoiflaa
open Go.ChangeShapes Go.WideShapes Go.ChangeAt Go.RowKit
set_option maxRecDepth 100000

set_option maxHeartbeats 4000000 in
theorem neg_out0 (A1 L1 A2 : Option Addr) (n1 m1 c1 d1 n2 c2 : Nat) (k : Int) (cs ls : List Int) (bs : List Bool) (w : World) (r1 : RdI w.heap.size w A1 cs) (r2 : RdI w.heap.size w L1 ls) (r3 : RdB w.heap.size w A2 bs) (h1 : cs.length = n1) (h2 : ls.length = m1) (h3 : bs.length = n2) (hyp : ¬ (n1 ≤ 60 ∧ m1 ≤ 60)) :
    Calls Try.prog 11 #[.agg #[.slice A1 n1 c1, .slice L1 m1 d1, .int .i64 k], .slice A2 n2 c2] w fun e w' => e = .returned (.bool true) ∧ Below w.heap.size w w' := by
  obtain ⟨W1, hW1⟩ : ∃ W, W = w.alloc (.cells #[.slice A1 n1 c1, .slice L1 m1 d1, .int .i64 k] 24) := ⟨_, rfl⟩
  have low : Below w.heap.size w W1 := by rw [hW1]; exact (Below.refl _ _).alloc (Nat.le_refl _) _
  have hat1 : LinAt W1 w.heap.size (.slice A1 n1 c1) (.slice L1 m1 d1) k 24 := by rw [hW1]; exact heap_alloc_new _ _
  have hF1 := fun W => few_any A1 L1 n1 m1 c1 d1 k W
  have hK1 := fun W (h : Below w.heap.size w W) => fun (hm : m1 ≤ 60) => LinCheck_any w.heap.size A1 L1 n1 m1 c1 d1 k 65536 cs ls W (r1.below h (Nat.le_refl _)) (r2.below h (Nat.le_refl _)) h.size h1 h2 (by omega) (by omega) (by omega)
  have HW := Lib.hid hW1
  have HA := Lib.hid hat1
  clear hW1 hat1
  rw [decide_eq_false hyp] at hF1
  have HF1 := Lib.hid hF1
  clear hF1 hK1 r1 r2 r3 h1 h2 h3 hyp
  go_enter Try.func11, Try.ntmps11
  go_wp2_with fail
  rw [← HW.out]
  clear HW
  refine (live_any W1).mono ?_
  rintro e y1 ⟨rfl, hb⟩
  have low := low.trans (hb.mono low.size)
  have HA := Lib.hid (HA.out.below hb)
  clear hb 
  obtain ⟨aC, aL, aK⟩ := (HA.out).cells
  go_wp2_with fail
  refine (HF1.out _).mono ?_
  rintro e y2 ⟨rfl, hb⟩
  clear aC aL aK
  have low := low.trans (hb.mono low.size)
  have HA := Lib.hid (HA.out.below hb)
  clear hb 
  obtain ⟨aC, aL, aK⟩ := (HA.out).cells
  have fin := Lib.hid low
  clear aC aL aK
  clear low HA
  go_wp2_with fail
  go_ret
  exact ⟨rfl, fin.out⟩
set_option maxHeartbeats 4000000 in
theorem neg_out1 (A1 L1 A2 : Option Addr) (n1 m1 c1 d1 n2 c2 : Nat) (k : Int) (cs ls : List Int) (bs : List Bool) (w : World) (r1 : RdI w.heap.size w A1 cs) (r2 : RdI w.heap.size w L1 ls) (r3 : RdB w.heap.size w A2 bs) (h1 : cs.length = n1) (h2 : ls.length = m1) (h3 : bs.length = n2) (hyp : (n1 ≤ 60 ∧ m1 ≤ 60) ∧ 100 < n2) :
    Calls Try.prog 11 #[.agg #[.slice A1 n1 c1, .slice L1 m1 d1, .int .i64 k], .slice A2 n2 c2] w fun e w' => e = .returned (.bool true) ∧ Below w.heap.size w w' := by
  obtain ⟨W1, hW1⟩ : ∃ W, W = w.alloc (.cells #[.slice A1 n1 c1, .slice L1 m1 d1, .int .i64 k] 24) := ⟨_, rfl⟩
  have low : Below w.heap.size w W1 := by rw [hW1]; exact (Below.refl _ _).alloc (Nat.le_refl _) _
  have hat1 : LinAt W1 w.heap.size (.slice A1 n1 c1) (.slice L1 m1 d1) k 24 := by rw [hW1]; exact heap_alloc_new _ _
  have hF1 := fun W => few_any A1 L1 n1 m1 c1 d1 k W
  have hK1 := fun W (h : Below w.heap.size w W) => fun (hm : m1 ≤ 60) => LinCheck_any w.heap.size A1 L1 n1 m1 c1 d1 k 65536 cs ls W (r1.below h (Nat.le_refl _)) (r2.below h (Nat.le_refl _)) h.size h1 h2 (by omega) (by omega) (by omega)
  have HW := Lib.hid hW1
  have HA := Lib.hid hat1
  clear hW1 hat1
  rw [decide_eq_true hyp.1] at hF1
  obtain ⟨_, hyp⟩ := hyp
  have g1 : decide (100 < n2) = true := decide_eq_true hyp
  have g1' : decide ((n2 : Int) > 100) = true := decide_eq_true (by omega)
  have g1'' : decide (100 < (n2 : Int)) = true := decide_eq_true (by omega)
  have HF1 := Lib.hid hF1
  clear hF1 hK1 r1 r2 r3 h1 h2 h3 hyp
  go_enter Try.func11, Try.ntmps11
  go_wp2_with fail
  rw [← HW.out]
  clear HW
  refine (live_any W1).mono ?_
  rintro e y1 ⟨rfl, hb⟩
  have low := low.trans (hb.mono low.size)
  have HA := Lib.hid (HA.out.below hb)
  clear hb 
  obtain ⟨aC, aL, aK⟩ := (HA.out).cells
  go_wp2_with fail
  refine (HF1.out _).mono ?_
  rintro e y2 ⟨rfl, hb⟩
  clear aC aL aK
  have low := low.trans (hb.mono low.size)
  have HA := Lib.hid (HA.out.below hb)
  clear hb 
  obtain ⟨aC, aL, aK⟩ := (HA.out).cells
  have fin := Lib.hid low
  clear aC aL aK
  clear low HA
  go_wp2_with fail
  go_ret
  exact ⟨rfl, fin.out⟩
set_option maxHeartbeats 4000000 in
theorem neg_out2 (A1 L1 A2 : Option Addr) (n1 m1 c1 d1 n2 c2 : Nat) (k : Int) (cs ls : List Int) (bs : List Bool) (w : World) (r1 : RdI w.heap.size w A1 cs) (r2 : RdI w.heap.size w L1 ls) (r3 : RdB w.heap.size w A2 bs) (h1 : cs.length = n1) (h2 : ls.length = m1) (h3 : bs.length = n2) (hyp : (n1 ≤ 60 ∧ m1 ≤ 60) ∧ ¬ 100 < n2 ∧ ¬ OkL cs ls k 65536) :
    Calls Try.prog 11 #[.agg #[.slice A1 n1 c1, .slice L1 m1 d1, .int .i64 k], .slice A2 n2 c2] w fun e w' => e = .returned (.bool true) ∧ Below w.heap.size w w' := by
  obtain ⟨W1, hW1⟩ : ∃ W, W = w.alloc (.cells #[.slice A1 n1 c1, .slice L1 m1 d1, .int .i64 k] 24) := ⟨_, rfl⟩
  have low : Below w.heap.size w W1 := by rw [hW1]; exact (Below.refl _ _).alloc (Nat.le_refl _) _
  have hat1 : LinAt W1 w.heap.size (.slice A1 n1 c1) (.slice L1 m1 d1) k 24 := by rw [hW1]; exact heap_alloc_new _ _
  have hF1 := fun W => few_any A1 L1 n1 m1 c1 d1 k W
  have hK1 := fun W (h : Below w.heap.size w W) => fun (hm : m1 ≤ 60) => LinCheck_any w.heap.size A1 L1 n1 m1 c1 d1 k 65536 cs ls W (r1.below h (Nat.le_refl _)) (r2.below h (Nat.le_refl _)) h.size h1 h2 (by omega) (by omega) (by omega)
  have HW := Lib.hid hW1
  have HA := Lib.hid hat1
  clear hW1 hat1
  rw [decide_eq_true hyp.1] at hF1
  have HK1 := Lib.hid (fun W h => (hK1 W h hyp.1.2).2 hyp.2.2)
  obtain ⟨_, hyp, _⟩ := hyp
  have g1 : decide (100 < n2) = false := decide_eq_false hyp
  have g1' : decide ((n2 : Int) > 100) = false := decide_eq_false (by omega)
  have g1'' : decide (100 < (n2 : Int)) = false := decide_eq_false (by omega)
  have HF1 := Lib.hid hF1
  clear hF1 hK1 r1 r2 r3 h1 h2 h3 hyp
  go_enter Try.func11, Try.ntmps11
  go_wp2_with fail
  rw [← HW.out]
  clear HW
  refine (live_any W1).mono ?_
  rintro e y1 ⟨rfl, hb⟩
  have low := low.trans (hb.mono low.size)
  have HA := Lib.hid (HA.out.below hb)
  clear hb 
  obtain ⟨aC, aL, aK⟩ := (HA.out).cells
  go_wp2_with fail
  refine (HF1.out _).mono ?_
  rintro e y2 ⟨rfl, hb⟩
  clear aC aL aK
  have low := low.trans (hb.mono low.size)
  have HA := Lib.hid (HA.out.below hb)
  clear hb 
  obtain ⟨aC, aL, aK⟩ := (HA.out).cells
  go_wp2_with fail
  refine (HK1.out _ low).mono ?_
  rintro e y3 ⟨rfl, hb⟩
  clear aC aL aK
  have low := low.trans (hb.mono low.size)
  have HA := Lib.hid (HA.out.below hb)
  clear hb 
  obtain ⟨aC, aL, aK⟩ := (HA.out).cells
  have fin := Lib.hid low
  clear aC aL aK
  clear low HA
  go_wp2_with fail
  go_ret
  exact ⟨rfl, fin.out⟩
set_option maxHeartbeats 4000000 in
theorem neg_out3 (A1 L1 A2 : Option Addr) (n1 m1 c1 d1 n2 c2 : Nat) (k : Int) (cs ls : List Int) (bs : List Bool) (w : World) (r1 : RdI w.heap.size w A1 cs) (r2 : RdI w.heap.size w L1 ls) (r3 : RdB w.heap.size w A2 bs) (h1 : cs.length = n1) (h2 : ls.length = m1) (h3 : bs.length = n2) (hyp : (n1 ≤ 60 ∧ m1 ≤ 60) ∧ ¬ 100 < n2 ∧ OkL cs ls k 65536 ∧ k = -1099511627776) :
    Calls Try.prog 11 #[.agg #[.slice A1 n1 c1, .slice L1 m1 d1, .int .i64 k], .slice A2 n2 c2] w fun e w' => e = .returned (.bool true) ∧ Below w.heap.size w w' := by
  obtain ⟨W1, hW1⟩ : ∃ W, W = w.alloc (.cells #[.slice A1 n1 c1, .slice L1 m1 d1, .int .i64 k] 24) := ⟨_, rfl⟩
  have low : Below w.heap.size w W1 := by rw [hW1]; exact (Below.refl _ _).alloc (Nat.le_refl _) _
  have hat1 : LinAt W1 w.heap.size (.slice A1 n1 c1) (.slice L1 m1 d1) k 24 := by rw [hW1]; exact heap_alloc_new _ _
  have hF1 := fun W => few_any A1 L1 n1 m1 c1 d1 k W
  have hK1 := fun W (h : Below w.heap.size w W) => fun (hm : m1 ≤ 60) => LinCheck_any w.heap.size A1 L1 n1 m1 c1 d1 k 65536 cs ls W (r1.below h (Nat.le_refl _)) (r2.below h (Nat.le_refl _)) h.size h1 h2 (by omega) (by omega) (by omega)
  have HW := Lib.hid hW1
  have HA := Lib.hid hat1
  clear hW1 hat1
  rw [decide_eq_true hyp.1] at hF1
  have HK1 := Lib.hid (fun W h => (hK1 W h hyp.1.2).1 hyp.2.2.1)
  obtain ⟨_, hyp, _, rfl⟩ := hyp
  have g1 : decide (100 < n2) = false := decide_eq_false hyp
  have g1' : decide ((n2 : Int) > 100) = false := decide_eq_false (by omega)
  have g1'' : decide (100 < (n2 : Int)) = false := decide_eq_false (by omega)
  have HF1 := Lib.hid hF1
  clear hF1 hK1 r1 r2 r3 h1 h2 h3 hyp
  go_enter Try.func11, Try.ntmps11
  go_wp2_with fail
  rw [← HW.out]
  clear HW
  refine (live_any W1).mono ?_
  rintro e y1 ⟨rfl, hb⟩
  have low := low.trans (hb.mono low.size)
  have HA := Lib.hid (HA.out.below hb)
  clear hb 
  obtain ⟨aC, aL, aK⟩ := (HA.out).cells
  go_wp2_with fail
  refine (HF1.out _).mono ?_
  rintro e y2 ⟨rfl, hb⟩
  clear aC aL aK
  have low := low.trans (hb.mono low.size)
  have HA := Lib.hid (HA.out.below hb)
  clear hb 
  obtain ⟨aC, aL, aK⟩ := (HA.out).cells
  go_wp2_with fail
  refine (HK1.out _ low).mono ?_
  rintro e y3 ⟨rfl, hb⟩
  clear aC aL aK
  have low := low.trans (hb.mono low.size)
  have HA := Lib.hid (HA.out.below hb)
  clear hb 
  obtain ⟨aC, aL, aK⟩ := (HA.out).cells
  have fin := Lib.hid low
  clear low HA
  go_wp2_with fail
  go_ret
  exact ⟨rfl, fin.out⟩
set_option maxHeartbeats 16000000 in
theorem neg_main (A1 L1 A2 : Option Addr) (n1 c1 d1 n2 c2 : Nat) (k : Int) (cs ls : List Int) (bs : List Bool) (w : World) (r1 : RdI w.heap.size w A1 cs) (r2 : RdI w.heap.size w L1 ls) (r3 : RdB w.heap.size w A2 bs) (h1 : cs.length = n1) (h2 : ls.length = n1) (h3 : bs.length = n2) (hn1 : n1 ≤ 60) (hn2 : n2 ≤ 100) (ok1 : OkL cs ls k 65536) (hk : k ≠ -1099511627776) :
    Calls Try.prog 11 #[.agg #[.slice A1 n1 c1, .slice L1 n1 d1, .int .i64 k], .slice A2 n2 c2] w fun e w' => e = .returned (.bool true) ∧ Below w.heap.size w w' := by
  obtain ⟨W1, hW1⟩ : ∃ W, W = w.alloc (.cells #[.slice A1 n1 c1, .slice L1 n1 d1, .int .i64 k] 24) := ⟨_, rfl⟩
  have low : Below w.heap.size w W1 := by rw [hW1]; exact (Below.refl _ _).alloc (Nat.le_refl _) _
  have hat1 : LinAt W1 w.heap.size (.slice A1 n1 c1) (.slice L1 n1 d1) k 24 := by rw [hW1]; exact heap_alloc_new _ _
  have hF1 := fun W => few_any A1 L1 n1 n1 c1 d1 k W
  have hK1 := fun W (h : Below w.heap.size w W) => fun (hm : n1 ≤ 60) => LinCheck_any w.heap.size A1 L1 n1 n1 c1 d1 k 65536 cs ls W (r1.below h (Nat.le_refl _)) (r2.below h (Nat.le_refl _)) h.size h1 h2 (by omega) (by omega) (by omega)
  have HW := Lib.hid hW1
  have HA := Lib.hid hat1
  clear hW1 hat1
  rw [decide_eq_true (And.intro hn1 hn1)] at hF1
  have HK1 := Lib.hid (fun W h => (hK1 W h hn1).1 ok1)
  have HF1 := Lib.hid hF1
  have HL := Lib.hid (And.intro (And.intro r1 (And.intro r2 r3)) (And.intro (And.intro h1 (And.intro h2 h3)) (And.intro ok1 (ok1.ng hk))))
  have hkb := ok1.kb
  obtain ⟨hkb1, hkb2⟩ := hkb
  have g0 : (k == -1099511627776) = false := by simpa using hk
  have gk : wrap64 (1 - k) = 1 - k := IntWalk.wrap64_in _ (by omega)
  have g1 : decide (100 < n2) = false := decide_eq_false (by omega)
  have g1' : decide ((n2 : Int) > 100) = false := decide_eq_false (by omega)
  have g1'' : decide (100 < (n2 : Int)) = false := decide_eq_false (by omega)
  have HMath := Lib.hid (And.intro (fun a ha => fOk_holds cs ls k ok1 (by omega) a ha) (And.intro (fun a ha => fOk_holds (ng cs) ls (1 - k) (ok1.ng hk) (by omega) a ha) (And.intro (neg_valid cs ls k ok1 hk (by omega)) (And.intro (pos_none cs ls k ok1 (by omega)) (fun q => fRes_no [] cs ls k q)))))
  clear hF1 hK1 r1 r2 r3 h1 h2 h3 ok1 hk
  go_enter Try.func11, Try.ntmps11
  go_wp2_with fail
  rw [← HW.out]
  clear HW
  refine (live_any W1).mono ?_
  rintro e y1 ⟨rfl, hb⟩
  have low := low.trans (hb.mono low.size)
  have HA := Lib.hid (HA.out.below hb)
  clear hb 
  obtain ⟨aC, aL, aK⟩ := (HA.out).cells
  go_wp2_with fail
  refine (HF1.out _).mono ?_
  rintro e y2 ⟨rfl, hb⟩
  clear aC aL aK
  have low := low.trans (hb.mono low.size)
  have HA := Lib.hid (HA.out.below hb)
  clear hb 
  obtain ⟨aC, aL, aK⟩ := (HA.out).cells
  go_wp2_with fail
  refine (HK1.out _ low).mono ?_
  rintro e y3 ⟨rfl, hb⟩
  clear aC aL aK
  have low := low.trans (hb.mono low.size)
  have HA := Lib.hid (HA.out.below hb)
  clear hb 
  obtain ⟨aC, aL, aK⟩ := (HA.out).cells
  clear HF1 HK1
  obtain ⟨W4, hW4⟩ : ∃ W, W = y3.alloc (.cells #[.slice Option.none 0 0, .slice L1 n1 d1, .int .i64 (1 - k)] 24) := ⟨_, rfl⟩
  have hx0 : LinAt W4 y3.heap.size (.slice Option.none 0 0) (.slice L1 n1 d1) (1 - k) 24 := by rw [hW4]; exact heap_alloc_new _ _
  have hb : Below y3.heap.size y3 W4 := by rw [hW4]; exact (Below.refl _ _).alloc (Nat.le_refl _) _
  have hs4 : W4.heap.size = y3.heap.size + 1 := by rw [hW4]; simp
  have HW := Lib.hid hW4
  have low4 := low.trans (hb.mono low.size)
  have hlt : w.heap.size < y3.heap.size := HA.out.lt
  have HA4 := Lib.hid (HA.out.below hb)
  have HX0 := Lib.hid (And.intro hx0 low4)
  clear hb low4 low HA hW4 hx0
  go_wp2_with fail
  rw [← HW.out]
  clear HW aC aL aK g0 gk g1 g1' g1''
  obtain ⟨gx, hgx⟩ : ∃ gx, y3.heap.size = gx := ⟨_, rfl⟩
  rw [hgx] at hlt hs4 HX0
  rw [hgx]
  clear hgx
  go_loopw [6] (fun i wr => ∃ j : Nat, j ≤ n1 ∧ i = .int .i64 j ∧ Hid (∃ v, LinAt wr gx v (.slice L1 n1 d1) (1 - k) 24 ∧ QI wr (gx + 1) v (ng (cs.take j)) ∧ Below gx W4 wr)) (fun i _ => n1 - (intOf i).toNat)
  case atStart => exact ⟨0, by omega, rfl, Lib.hid ⟨_, HX0.out.1, QI.nil _ _, Below.refl _ _⟩⟩
  case round =>
    obtain ⟨j, hj, rfl, HR⟩ := hrel
    obtain ⟨v, hx, hq, lowr⟩ := HR.out
    clear HR
    have hatr : LinAt wr w.heap.size (.slice A1 n1 c1) (.slice L1 n1 d1) k 24 := (lowr.block _ hlt).trans HA4.out
    have hszr := lowr.size
    by_cases hltj : j < n1
    · have hjc : j < cs.length := by rw [HL.out.2.1.1]; exact hltj
      have hlow : Below w.heap.size w wr := HX0.out.2.trans (lowr.mono (by omega))
      obtain ⟨b1, o1, hB1, hb1, q1⟩ := (HL.out.1.1.below hlow (Nat.le_refl _)).2 (by omega)
      have hc1 := q1 j hjc
      have hcb := HL.out.2.2.1.cs (cs[j]?.getD 0) (by rw [List.getElem?_eq_getElem hjc]; exact List.getElem_mem _)
      have htk := ng_take cs j hjc
      obtain ⟨zs, hzs⟩ : ∃ zs, ng (cs.take j) = zs := ⟨_, rfl⟩
      rw [hzs] at hq htk
      have hzl : zs.length ≤ 1000000 := by rw [← hzs, ng_len, List.length_take]; omega
      obtain ⟨Av, cv, hv, _, _⟩ := hq.shape
      obtain ⟨Lv, hLv⟩ : ∃ Lv, zs.length = Lv := ⟨_, rfl⟩
      rw [hLv] at hv
      obtain ⟨aC, aL, aK⟩ := hatr.cells
      have hcell : ∀ W, Below gx wr W → W.cell? ⟨w.heap.size, 0, none⟩ = some (.slice A1 n1 c1) ∧ W.cell? ⟨b1, o1 + j, none⟩ = some (.int .i64 (cs[j]?.getD 0)) := fun W hb =>
        ⟨(hb.cell (p := ⟨w.heap.size, 0, none⟩) hlt).trans aC, (hb.cell (p := ⟨b1, o1 + j, none⟩) (by show b1 < gx; omega)).trans hc1⟩
      have HCell := Lib.hid hcell
      have HTk := Lib.hid htk
      have HLA := Lib.hid (show LinAt (World.drew wr) gx v (.slice L1 n1 d1) (1 - k) 24 from hx)
      have HQ := Lib.hid (show QI (World.drew wr) (gx + 1) v zs from hq)
      have LR := Lib.hid lowr
      have hstart : Below gx wr (World.drew wr) := (Below.refl _ _).drew
      subst hv
      clear hcell htk hx hq lowr hzs q1 hjc hlow hLv
      cases hB1
      generalize cs[j]?.getD 0 = c at *
      obtain ⟨hcb1, hcb2⟩ := hcb
      have hneg : wrap64 (-c) = -c := IntWalk.wrap64_in _ (by omega)
      have hneg2 : IntKind.i64.wrap (-c) = -c := by rw [IntWalk.i64_left]; exact hneg
      have hneg3 : (0 : Int) - c = -c := by omega
      have hwf : Wf (-c) := ⟨by omega, by omega⟩
      obtain ⟨xC, _, _⟩ := hatr.cells
      go_wp2_with fail
      clear aC aL aK xC hc1
      refine wp_region_held_drew (S := fun W => Below gx wr W) (by kernel_rfl) hstart (fun hHeld => ?_)
      clear hstart
      obtain ⟨Wd, hWd⟩ : ∃ Wd, World.drew wr = Wd := ⟨_, rfl⟩
      rw [hWd] at hHeld HLA HQ ⊢
      clear hWd
      refine takeH_now (i := 0) (some 44) (v := ?_) rfl (by kernel_rfl) (by kernel_rfl) (by kernel_rfl) (fun _ _ _ h => h) (Or.inl ⟨by rfl, ?_⟩) rfl (by assumption) ?_
      rotate_left
      focus (intro w9 hS9; go_simp; try with_reducible rfl)
      try simp only [Act.put, List.setIfInBounds_toArray, List.set_cons_zero, List.set_cons_succ]
      refine takeH_now (i := 2) (some 46) (v := ?_) rfl (by kernel_rfl) (by kernel_rfl) (by kernel_rfl) (fun _ _ _ h => h) (Or.inl ⟨by rfl, ?_⟩) rfl (by assumption) ?_
      rotate_left
      focus (intro w9 hS9; go_simp; try with_reducible rfl)
      try simp only [Act.put, List.setIfInBounds_toArray, List.set_cons_zero, List.set_cons_succ]
      refine takeH_now (i := 3) (some 47) (v := ?_) rfl (by kernel_rfl) (by kernel_rfl) (by kernel_rfl) (fun _ _ _ h => h) (Or.inl ⟨by rfl, ?_⟩) rfl (by assumption) ?_
      rotate_left
      focus (intro w9 hS9; obtain ⟨aC, eC⟩ := HCell.out w9 hS9; clear hS9; go_simp; try with_reducible rfl)
      try simp only [Act.put, List.setIfInBounds_toArray, List.set_cons_zero, List.set_cons_succ]
      refine takeH_now (i := 4) (some 48) (v := ?_) rfl (by kernel_rfl) (by kernel_rfl) (by kernel_rfl) (fun _ _ _ h => h) (Or.inl ⟨by rfl, ?_⟩) rfl (by assumption) ?_
      rotate_left
      focus (intro w9 hS9; go_simp; try with_reducible rfl)
      try simp only [Act.put, List.setIfInBounds_toArray, List.set_cons_zero, List.set_cons_succ]
      refine takeH_now (i := 5) (some 49) (v := ?_) rfl (by kernel_rfl) (by kernel_rfl) (by kernel_rfl) (fun _ _ _ h => h) (Or.inl ⟨by rfl, ?_⟩) rfl (by assumption) ?_
      rotate_left
      focus (intro w9 hS9; go_simp; try with_reducible rfl)
      try simp only [Act.put, List.setIfInBounds_toArray, List.set_cons_zero, List.set_cons_succ]
      refine takeH_now (i := 6) (some 50) (v := ?_) rfl (by kernel_rfl) (by kernel_rfl) (by kernel_rfl) (fun _ _ _ h => h) (Or.inl ⟨by rfl, ?_⟩) rfl (by assumption) ?_
      rotate_left
      focus (intro w9 hS9; obtain ⟨aC, eC⟩ := HCell.out w9 hS9; clear hS9; go_simp; try with_reducible rfl)
      try simp only [Act.put, List.setIfInBounds_toArray, List.set_cons_zero, List.set_cons_succ]
      refine takeH_now (i := 7) (some 51) (v := ?_) rfl (by kernel_rfl) (by kernel_rfl) (by kernel_rfl) (fun _ _ _ h => h) (Or.inl ⟨by rfl, ?_⟩) rfl (by assumption) ?_
      rotate_left
      focus (intro w9 hS9; go_simp; try with_reducible rfl)
      try simp only [Act.put, List.setIfInBounds_toArray, List.set_cons_zero, List.set_cons_succ]
      refine wpAnyH_ready (rs := [1, 8]) (by kernel_rfl) (by simp) ?_
      refine AllReadyH.cons (o := { dst := some 45, op := Op.load 22 (Operand.tmp 44), type := 22, pos := "law.go:244", after := #[{ on := 0, ground := Ground.data }], guard := none }) rfl (fun K' hK' => ?_) (AllReadyH.cons (o := { dst := some 52, op := Op.buildSlice 22 1 #[(0, Operand.tmp 51)], type := 22, pos := "law.go:244", after := #[{ on := 7, ground := Ground.data }], guard := none }) rfl (fun K' hK' => ?_) AllReadyH.nil)
      · rw [if_pos (by kernel_rfl)]
        obtain ⟨xC, _, _⟩ := HLA.out.cells
        go_simp
        clear xC
        have hHa := hHeld
        clear hHeld
        refine hK'.out _ _ hHa (fun hHeld => ?_)
        clear hK' hHa
        try simp only [Act.put, List.setIfInBounds_toArray, List.set_cons_zero, List.set_cons_succ]
        refine wpAnyH_ready (rs := [8]) (by kernel_rfl) (by simp) ?_
        refine AllReadyH.cons (o := { dst := some 52, op := Op.buildSlice 22 1 #[(0, Operand.tmp 51)], type := 22, pos := "law.go:244", after := #[{ on := 7, ground := Ground.data }], guard := none }) rfl (fun K' hK' => ?_) AllReadyH.nil
        rw [if_pos (by kernel_rfl)]
        go_simp
        obtain ⟨WA, hWA⟩ : ∃ X, X = World.alloc Wd (.cells #[.int .i64 (-c)] 3) := ⟨_, rfl⟩
        have hcellA : WA.cell? ⟨Wd.heap.size, 0, none⟩ = some (.int .i64 (-c)) := by rw [hWA, cell_of_row _ Wd.heap.size 0 _ 3 (0, 0) (heap_alloc_new Wd _)]; rfl
        have hb : Below Wd.heap.size Wd WA := by rw [hWA]; exact (Below.refl _ _).alloc (Nat.le_refl _) _
        have hszA : WA.heap.size = Wd.heap.size + 1 := by rw [hWA]; simp
        rw [← hWA]
        clear hWA
        have hszd := hHeld.size
        have hHa : Below gx wr WA := hHeld.trans (hb.mono (by omega))
        have HLA := Lib.hid (HLA.out.below hb)
        have HQ := Lib.hid (HQ.out.same (w' := WA) fun i hi => hb.block i (HQ.out.lt hi).2)
        clear hHeld
        refine hK'.out _ _ hHa (fun hHeld => ?_)
        clear hK' hHa
        try simp only [Act.put, List.setIfInBounds_toArray, List.set_cons_zero, List.set_cons_succ]
        refine wpAnyH_ready (rs := [9]) (by kernel_rfl) (by simp) ?_
        refine AllReadyH.cons (o := { dst := some 53, op := Op.call { callee := Callee.builtin Builtin.append, args := #[Operand.tmp 45, Operand.tmp 52], argTypes := #[22, 22] }, type := 22, pos := "law.go:244", after := #[{ on := 1, ground := Ground.data }, { on := 8, ground := Ground.data }], guard := none }) rfl (fun K' hK' => ?_) AllReadyH.nil
        have hbA : gx + 1 ≤ WA.heap.size := by have := HLA.out.lt; omega
        refine step_push rfl _ _ rfl (gx + 1) (.slice Av Lv cv) zs rfl HQ.out (-c) hwf Wd.heap.size rfl hcellA hzl hbA ?_
        intro v9 w9 hq9 hg9 _
        obtain ⟨A9q, c9q, e9, _, _⟩ := hq9.shape
        obtain ⟨L9, hL9⟩ : ∃ L9, (zs ++ [-c]).length = L9 := ⟨_, rfl⟩
        rw [hL9] at e9
        clear hL9
        subst e9
        have hHa : Below gx wr w9 := hHeld.grown hg9 (by omega) (fun i hi => by have := (HQ.out.lt hi).1; omega)
        have HLA := Lib.hid (show LinAt w9 gx (.slice Av Lv cv) (.slice L1 n1 d1) (1 - k) 24 from (hg9.block gx HLA.out.lt (fun e => by have := (HQ.out.lt e.symm).1; omega)).trans HLA.out)
        have HQ := Lib.hid hq9
        clear hHeld hq9 hg9 hbA hcellA
        refine hK'.out _ _ hHa (fun hHeld => ?_)
        clear hK' hHa
        try simp only [Act.put, List.setIfInBounds_toArray, List.set_cons_zero, List.set_cons_succ]
        refine takeH_now (i := 10) (some 54) (v := ?_) rfl (by kernel_rfl) (by kernel_rfl) (by kernel_rfl) (fun _ _ _ h => h) (Or.inl ⟨by rfl, ?_⟩) rfl (by assumption) ?_
        rotate_left
        focus (intro w9 hS9; go_simp; try with_reducible rfl)
        try simp only [Act.put, List.setIfInBounds_toArray, List.set_cons_zero, List.set_cons_succ]
        refine wpAnyH_ready (rs := [11]) (by kernel_rfl) (by simp) ?_
        refine AllReadyH.cons (o := { dst := none, op := Op.store 22 (Operand.tmp 54) (Operand.tmp 53), type := 0, pos := "law.go:244", after := #[{ on := 10, ground := Ground.data }, { on := 9, ground := Ground.data }, { on := 9, ground := Ground.chain }, { on := 0, ground := Ground.phase }, { on := 1, ground := Ground.phase }, { on := 2, ground := Ground.phase }, { on := 3, ground := Ground.phase }, { on := 4, ground := Ground.phase }, { on := 5, ground := Ground.phase }, { on := 6, ground := Ground.phase }, { on := 7, ground := Ground.phase }, { on := 8, ground := Ground.phase }, { on := 9, ground := Ground.phase }], guard := none }) rfl (fun K' hK' => ?_) AllReadyH.nil
        rw [if_pos (by kernel_rfl)]
        obtain ⟨xC, _, _⟩ := HLA.out.cells
        have xF := HLA.out.frozen 0
        go_simp
        clear xC xF
        have hHa : Below gx wr (w9.setCell ⟨gx, 0, none⟩ (.slice A9q L9 c9q)) := hHeld.setCell (p := ⟨gx, 0, none⟩) (Nat.le_refl _) _
        clear hHeld
        refine hK'.out _ _ hHa (fun hHeld => ?_)
        clear hK' hHa
        try simp only [Act.put, List.setIfInBounds_toArray, List.set_cons_zero, List.set_cons_succ]
        refine wpAnyH_done (by kernel_rfl) ?_ _
        have fin : Hid (∃ v, LinAt (w9.setCell ⟨gx, 0, none⟩ (.slice A9q L9 c9q)) gx v (.slice L1 n1 d1) (1 - k) 24 ∧ QI (w9.setCell ⟨gx, 0, none⟩ (.slice A9q L9 c9q)) (gx + 1) v (ng (cs.take (j + 1))) ∧ Below gx W4 (w9.setCell ⟨gx, 0, none⟩ (.slice A9q L9 c9q))) := Lib.hid ⟨.slice A9q L9 c9q, HLA.out.set0 (.slice A9q L9 c9q), by rw [HTk.out]; exact HQ.out.set (by omega), LR.out.trans hHeld⟩
        clear hHeld HLA HQ HTk LR HCell
        go_wp2_with fail
        go_roundw
        case rel => exact ⟨j + 1, by omega, by go_num, fin⟩
        case measure => simp [intOf]; omega
      · rw [if_pos (by kernel_rfl)]
        go_simp
        obtain ⟨WA, hWA⟩ : ∃ X, X = World.alloc Wd (.cells #[.int .i64 (-c)] 3) := ⟨_, rfl⟩
        have hcellA : WA.cell? ⟨Wd.heap.size, 0, none⟩ = some (.int .i64 (-c)) := by rw [hWA, cell_of_row _ Wd.heap.size 0 _ 3 (0, 0) (heap_alloc_new Wd _)]; rfl
        have hb : Below Wd.heap.size Wd WA := by rw [hWA]; exact (Below.refl _ _).alloc (Nat.le_refl _) _
        have hszA : WA.heap.size = Wd.heap.size + 1 := by rw [hWA]; simp
        rw [← hWA]
        clear hWA
        have hszd := hHeld.size
        have hHa : Below gx wr WA := hHeld.trans (hb.mono (by omega))
        have HLA := Lib.hid (HLA.out.below hb)
        have HQ := Lib.hid (HQ.out.same (w' := WA) fun i hi => hb.block i (HQ.out.lt hi).2)
        clear hHeld
        refine hK'.out _ _ hHa (fun hHeld => ?_)
        clear hK' hHa
        try simp only [Act.put, List.setIfInBounds_toArray, List.set_cons_zero, List.set_cons_succ]
        refine wpAnyH_ready (rs := [1]) (by kernel_rfl) (by simp) ?_
        refine AllReadyH.cons (o := { dst := some 45, op := Op.load 22 (Operand.tmp 44), type := 22, pos := "law.go:244", after := #[{ on := 0, ground := Ground.data }], guard := none }) rfl (fun K' hK' => ?_) AllReadyH.nil
        rw [if_pos (by kernel_rfl)]
        obtain ⟨xC, _, _⟩ := HLA.out.cells
        go_simp
        clear xC
        have hHa := hHeld
        clear hHeld
        refine hK'.out _ _ hHa (fun hHeld => ?_)
        clear hK' hHa
        try simp only [Act.put, List.setIfInBounds_toArray, List.set_cons_zero, List.set_cons_succ]
        refine wpAnyH_ready (rs := [9]) (by kernel_rfl) (by simp) ?_
        refine AllReadyH.cons (o := { dst := some 53, op := Op.call { callee := Callee.builtin Builtin.append, args := #[Operand.tmp 45, Operand.tmp 52], argTypes := #[22, 22] }, type := 22, pos := "law.go:244", after := #[{ on := 1, ground := Ground.data }, { on := 8, ground := Ground.data }], guard := none }) rfl (fun K' hK' => ?_) AllReadyH.nil
        have hbA : gx + 1 ≤ WA.heap.size := by have := HLA.out.lt; omega
        refine step_push rfl _ _ rfl (gx + 1) (.slice Av Lv cv) zs rfl HQ.out (-c) hwf Wd.heap.size rfl hcellA hzl hbA ?_
        intro v9 w9 hq9 hg9 _
        obtain ⟨A9q, c9q, e9, _, _⟩ := hq9.shape
        obtain ⟨L9, hL9⟩ : ∃ L9, (zs ++ [-c]).length = L9 := ⟨_, rfl⟩
        rw [hL9] at e9
        clear hL9
        subst e9
        have hHa : Below gx wr w9 := hHeld.grown hg9 (by omega) (fun i hi => by have := (HQ.out.lt hi).1; omega)
        have HLA := Lib.hid (show LinAt w9 gx (.slice Av Lv cv) (.slice L1 n1 d1) (1 - k) 24 from (hg9.block gx HLA.out.lt (fun e => by have := (HQ.out.lt e.symm).1; omega)).trans HLA.out)
        have HQ := Lib.hid hq9
        clear hHeld hq9 hg9 hbA hcellA
        refine hK'.out _ _ hHa (fun hHeld => ?_)
        clear hK' hHa
        try simp only [Act.put, List.setIfInBounds_toArray, List.set_cons_zero, List.set_cons_succ]
        refine takeH_now (i := 10) (some 54) (v := ?_) rfl (by kernel_rfl) (by kernel_rfl) (by kernel_rfl) (fun _ _ _ h => h) (Or.inl ⟨by rfl, ?_⟩) rfl (by assumption) ?_
        rotate_left
        focus (intro w9 hS9; go_simp; try with_reducible rfl)
        try simp only [Act.put, List.setIfInBounds_toArray, List.set_cons_zero, List.set_cons_succ]
        refine wpAnyH_ready (rs := [11]) (by kernel_rfl) (by simp) ?_
        refine AllReadyH.cons (o := { dst := none, op := Op.store 22 (Operand.tmp 54) (Operand.tmp 53), type := 0, pos := "law.go:244", after := #[{ on := 10, ground := Ground.data }, { on := 9, ground := Ground.data }, { on := 9, ground := Ground.chain }, { on := 0, ground := Ground.phase }, { on := 1, ground := Ground.phase }, { on := 2, ground := Ground.phase }, { on := 3, ground := Ground.phase }, { on := 4, ground := Ground.phase }, { on := 5, ground := Ground.phase }, { on := 6, ground := Ground.phase }, { on := 7, ground := Ground.phase }, { on := 8, ground := Ground.phase }, { on := 9, ground := Ground.phase }], guard := none }) rfl (fun K' hK' => ?_) AllReadyH.nil
        rw [if_pos (by kernel_rfl)]
        obtain ⟨xC, _, _⟩ := HLA.out.cells
        have xF := HLA.out.frozen 0
        go_simp
        clear xC xF
        have hHa : Below gx wr (w9.setCell ⟨gx, 0, none⟩ (.slice A9q L9 c9q)) := hHeld.setCell (p := ⟨gx, 0, none⟩) (Nat.le_refl _) _
        clear hHeld
        refine hK'.out _ _ hHa (fun hHeld => ?_)
        clear hK' hHa
        try simp only [Act.put, List.setIfInBounds_toArray, List.set_cons_zero, List.set_cons_succ]
        refine wpAnyH_done (by kernel_rfl) ?_ _
        have fin : Hid (∃ v, LinAt (w9.setCell ⟨gx, 0, none⟩ (.slice A9q L9 c9q)) gx v (.slice L1 n1 d1) (1 - k) 24 ∧ QI (w9.setCell ⟨gx, 0, none⟩ (.slice A9q L9 c9q)) (gx + 1) v (ng (cs.take (j + 1))) ∧ Below gx W4 (w9.setCell ⟨gx, 0, none⟩ (.slice A9q L9 c9q))) := Lib.hid ⟨.slice A9q L9 c9q, HLA.out.set0 (.slice A9q L9 c9q), by rw [HTk.out]; exact HQ.out.set (by omega), LR.out.trans hHeld⟩
        clear hHeld HLA HQ HTk LR HCell
        go_wp2_with fail
        go_roundw
        case rel => exact ⟨j + 1, by omega, by go_num, fin⟩
        case measure => simp [intOf]; omega
    · obtain rfl : j = n1 := by omega
      have htk : cs.take j = cs := List.take_of_length_le (by have := HL.out.2.1.1; omega)
      rw [htk] at hq
      clear htk
      obtain ⟨Av, cv, hv, _, rdv⟩ := hq.shape
      have hvl : (ng cs).length = j := by rw [ng_len]; exact HL.out.2.1.1
      rw [hvl] at hv
      subst hv
      have low : Below w.heap.size w wr := HX0.out.2.trans (lowr.mono (by omega))
      have HA := Lib.hid (And.intro hatr hx)
      have HV := Lib.hid (And.intro rdv hvl)
      have hF1 := fun W (h : Below w.heap.size w W) => Force_ok w.heap.size A1 L1 Option.none j j c1 d1 0 0 k cs ls [] W (HL.out.1.1.below h (Nat.le_refl _)) (HL.out.1.2.1.below h (Nat.le_refl _)) (RdI.nil _ _ _) h.size HL.out.2.1.1 HL.out.2.1.2.1 (by omega) rfl (by omega) (fun j hj => by omega) HL.out.2.2.1
      have hF2 := fun W (h : Below w.heap.size w W) (h2 : Below wr.heap.size wr W) => Force_ok W.heap.size Av L1 Option.none j j cv d1 0 0 (1 - k) (ng cs) ls [] W ((HV.out.1.below h2 (Nat.le_refl _)).more h2.size) ((HL.out.1.2.1.below h (Nat.le_refl _)).more h.size) (RdI.nil _ _ _) (Nat.le_refl _) HV.out.2 HL.out.2.1.2.1 (by omega) rfl (by omega) (fun j hj => by omega) HL.out.2.2.2
      obtain ⟨q1, hq1⟩ : ∃ q1, fOk [] cs ls k = q1 := ⟨_, rfl⟩
      obtain ⟨q2, hq2⟩ : ∃ q2, fOk [] (ng cs) ls (1 - k) = q2 := ⟨_, rfl⟩
      obtain ⟨rs1, hrs1⟩ : ∃ rs1, fRes [] cs ls k = rs1 := ⟨_, rfl⟩
      rw [hq1, hrs1] at hF1
      rw [hq2] at hF2
      obtain ⟨ra, hra⟩ : ∃ ra, decide (k ≤ wsum bs cs ls) = ra := ⟨_, rfl⟩
      have hrb : decide (1 - k ≤ wsum bs (ng cs) ls) = !ra := by
        rw [← hra, wsum_ng]
        by_cases q : k ≤ wsum bs cs ls
        · rw [decide_eq_true q, decide_eq_false (by omega)]; rfl
        · rw [decide_eq_false q, decide_eq_true (by omega)]; rfl
      have hor : q1 = true ∨ q2 = true := by
        cases hra2 : ra with
        | true => left; rw [← hq1]; exact HMath.out.1 bs (by rw [hra2] at hra; exact of_decide_eq_true hra)
        | false => right; rw [← hq2]; exact HMath.out.2.1 bs (by rw [hra2] at hrb; exact of_decide_eq_true hrb)
      have hn0 : q2 = false → nC cs ls k = [] ∧ nL cs ls k = [] ∧ nK cs ls k = 0 := fun q => HMath.out.2.2.1 (by rw [hq2]; exact q)
      have hn1' : q1 = false → nC cs ls k = [] ∧ nL cs ls k = [] ∧ nK cs ls k = 1 := fun q => HMath.out.2.2.2.1 (by rw [hq1]; exact q)
      have hr0 : q1 = false → rs1 = [] := fun q => by rw [← hrs1]; exact HMath.out.2.2.2.2 (by rw [hq1]; exact q)
      have HF1 := Lib.hid hF1
      have HF2 := Lib.hid hF2
      have HMx := Lib.hid (And.intro hor (And.intro hn0 (And.intro hn1' (And.intro hr0 (And.intro hra hrb)))))
      have LWr := Lib.hid (Below.refl wr.heap.size wr)
      clear hF1 hF2 hor hn0 hn1' hr0 hra hrb hq1 hq2 hrs1 hq rdv hvl hatr hx lowr HMath HX0 HA4
      obtain ⟨aC, aL, aK⟩ := HA.out.1.cells
      obtain ⟨xC, xL, xK⟩ := HA.out.2.cells
      go_wp2_with fail
      refine (HF1.out _ low).mono ?_
      rintro e y41 ⟨v7, rfl, row7, hb⟩
      obtain ⟨A7, c7, hv7, _, _, _⟩ := row7.shape
      obtain ⟨M7, hM7⟩ : ∃ M7, rs1.length = M7 := ⟨_, rfl⟩
      rw [hM7] at hv7
      have HM7 := Lib.hid hM7
      clear hM7 row7
      subst hv7
      clear aC aL aK xC xL xK
      have LWr := Lib.hid (LWr.out.trans (hb.mono LWr.out.size))
      have low := low.trans (hb.mono low.size)
      have HA := Lib.hid (And.intro (HA.out.1.below hb) (HA.out.2.below hb))
      clear hb HF1
      obtain ⟨aC, aL, aK⟩ := (HA.out.1).cells
      obtain ⟨xC, xL, xK⟩ := (HA.out.2).cells
      go_wp2_with fail
      refine (HF2.out _ low LWr.out).mono ?_
      rintro e y42 ⟨v9, rfl, row9, hb⟩
      obtain ⟨A9, c9, hv9, _, _, _⟩ := row9.shape
      clear row9
      subst hv9
      clear aC aL aK xC xL xK
      have LWr := Lib.hid (LWr.out.trans (hb.mono LWr.out.size))
      have low := low.trans (hb.mono low.size)
      have HA := Lib.hid (And.intro (HA.out.1.below hb) (HA.out.2.below hb))
      clear hb HF2
      obtain ⟨aC, aL, aK⟩ := (HA.out.1).cells
      obtain ⟨xC, xL, xK⟩ := (HA.out.2).cells
      have hcell : ∀ W, Below y42.heap.size y42 W → W.cell? ⟨w.heap.size, 0, none⟩ = some (.slice A1 j c1) ∧ W.cell? ⟨w.heap.size, 1, none⟩ = some (.slice L1 j d1) ∧ W.cell? ⟨w.heap.size, 2, none⟩ = some (.int .i64 k) ∧ W.cell? ⟨gx, 0, none⟩ = some (.slice Av j cv) ∧ W.cell? ⟨gx, 1, none⟩ = some (.slice L1 j d1) ∧ W.cell? ⟨gx, 2, none⟩ = some (.int .i64 (1 - k)) := fun W hb => by
        obtain ⟨u1, u2, u3⟩ := (HA.out.1.below hb).cells
        obtain ⟨v1, v2, v3⟩ := (HA.out.2.below hb).cells
        exact ⟨u1, u2, u3, v1, v2, v3⟩
      have hlo : ∀ W, Below y42.heap.size y42 W → Below w.heap.size w W := fun W h => low.trans (h.mono low.size)
      have hlx : ∀ W, Below y42.heap.size y42 W → Below wr.heap.size wr W := fun W h => LWr.out.trans (h.mono LWr.out.size)
      have hCk : ∀ W, Below y42.heap.size y42 W → Calls Try.prog 17 #[.agg #[.slice Av j cv, .slice L1 j d1, .int .i64 (1 - k)], .int .i64 65536] W fun e w' => e = .returned (.int .i64 0) ∧ Below W.heap.size W w' := fun W h =>
        (LinCheck_any W.heap.size Av L1 j j cv d1 (1 - k) 65536 (ng cs) ls W ((HV.out.1.below (hlx W h) (Nat.le_refl _)).more (hlx W h).size) ((HL.out.1.2.1.below (hlo W h) (Nat.le_refl _)).more (hlo W h).size) (Nat.le_refl _) HV.out.2 HL.out.2.1.2.1 (by omega) (by omega) (by omega)).1 HL.out.2.2.2
      have hVx : ∀ W, Below y42.heap.size y42 W → Calls Try.prog 23 #[.agg #[.slice Av j cv, .slice L1 j d1, .int .i64 (1 - k)], .slice A2 n2 c2] W fun e w' => e = .returned (.bool (!ra)) ∧ Below W.heap.size W w' := fun W h => by
        have := linValue2_any W.heap.size W.heap.size Av L1 A2 j cv d1 n2 c2 _ (1 - k) (ng cs) ls bs W ((HV.out.1.below (hlx W h) (Nat.le_refl _)).more (hlx W h).size) ((HL.out.1.2.1.below (hlo W h) (Nat.le_refl _)).more (hlo W h).size) (Nat.le_refl _) (Nat.le_refl _) HV.out.2 HL.out.2.1.2.1 (by omega) HL.out.2.2.2 ((HL.out.1.2.2.below (hlo W h) (Nat.le_refl _)).more (hlo W h).size) HL.out.2.1.2.2 (by omega) (fun x hx => ⟨(HL.out.2.2.1.ls x hx).1, by have := HL.out.2.2.1.ls x hx; omega, by have := HL.out.2.2.1.ls x hx; omega⟩) HL.out.2.2.2.cs rfl
        rwa [HMx.out.2.2.2.2.2] at this
      have hVl : ∀ W, Below y42.heap.size y42 W → Calls Try.prog 23 #[.agg #[.slice A1 j c1, .slice L1 j d1, .int .i64 k], .slice A2 n2 c2] W fun e w' => e = .returned (.bool ra) ∧ Below W.heap.size W w' := fun W h => by
        have := linValue2_any w.heap.size w.heap.size A1 L1 A2 j c1 d1 n2 c2 _ k cs ls bs W (HL.out.1.1.below (hlo W h) (Nat.le_refl _)) (HL.out.1.2.1.below (hlo W h) (Nat.le_refl _)) (hlo W h).size (hlo W h).size HL.out.2.1.1 HL.out.2.1.2.1 (by omega) HL.out.2.2.1 (HL.out.1.2.2.below (hlo W h) (Nat.le_refl _)) HL.out.2.1.2.2 (by omega) (fun x hx => ⟨(HL.out.2.2.1.ls x hx).1, by have := HL.out.2.2.1.ls x hx; omega, by have := HL.out.2.2.1.ls x hx; omega⟩) HL.out.2.2.1.cs rfl
        rwa [HMx.out.2.2.2.2.1] at this
      have hNo : ∀ (K0 : Int), (nC cs ls k = [] ∧ nL cs ls k = [] ∧ nK cs ls k = K0) → ∀ W, Below y42.heap.size y42 W → Calls Try.prog 15 #[.agg #[.slice A1 j c1, .slice L1 j d1, .int .i64 k]] W fun e w' => ∃ B1 e1 B2 e2, e = .returned (.agg #[.slice B1 0 e1, .slice B2 0 e2, .int .i64 K0]) ∧ Below W.heap.size W w' := fun K0 ⟨z1, z2, z3⟩ W h => by
        refine (norm_fn w.heap.size j c1 d1 A1 L1 k cs ls W (HL.out.1.1.below (hlo W h) (Nat.le_refl _)) (HL.out.1.2.1.below (hlo W h) (Nat.le_refl _)) (hlo W h).size HL.out.2.1.1 HL.out.2.1.2.1 (by omega) HL.out.2.2.1).mono ?_
        rintro e w' ⟨B1, e1, B2, e2, rfl, _, _, _, hb⟩
        exact ⟨B1, e1, B2, e2, by rw [z1, z2, z3]; rfl, hb⟩
      have hSa : ∀ (K0 : Int) W B1 e1 B2 e2, Calls Try.prog 19 #[.agg #[.slice B1 0 e1, .slice B2 0 e2, .int .i64 K0], .agg #[.slice Option.none 0 0, .slice Option.none 0 0, .int .i64 K0]] W fun e w' => e = .returned (.bool true) ∧ Below W.heap.size W w' := fun K0 W B1 e1 B2 e2 => by
        have h1 := Same_any W.heap.size B1 B2 Option.none Option.none 0 0 0 0 e1 e2 0 0 K0 K0 [] [] [] [] W (RdI.nil _ _ _) (RdI.nil _ _ _) (RdI.nil _ _ _) (RdI.nil _ _ _) (Nat.le_refl _) rfl rfl rfl rfl (by unfold maxLen; omega) (by unfold maxLen; omega)
        rwa [sameB_iff.2 ⟨rfl, rfl, rfl⟩] at h1
      have hkeep : ∀ W W', Below y42.heap.size y42 W → Below W.heap.size W W' → Below y42.heap.size y42 W' := fun W W' h hb => h.trans (hb.mono h.size)
      have hstart : Below y42.heap.size y42 y42.drew := (Below.refl _ _).drew
      have HCell := Lib.hid hcell
      have HCk := Lib.hid hCk
      have HVx := Lib.hid hVx
      have HVl := Lib.hid hVl
      have HSa := Lib.hid hSa
      have HK := Lib.hid hkeep
      have HFin := Lib.hid hlo
      obtain ⟨hor, hn0, hn1', hr0, _, _⟩ := HMx.out
      have hm7 : q1 = false → M7 = 0 := fun q => by rw [← HM7.out, hr0 q]; rfl
      have hN0 := fun q => Lib.hid (hNo 0 (hn0 q))
      have hN1 := fun q => Lib.hid (hNo 1 (hn1' q))
      have Hor := Lib.hid hor
      clear hcell hCk hVx hVl hSa hkeep hlo hlx hNo hn0 hn1' hr0 hor HMx HM7 HA HL HV LWr low aC aL aK xC xL xK
      cases q1 with
      | true =>
        clear hm7 hN1
        cases q2 with
        | true =>
          clear hN0 Hor
          cases ra with
          | true =>
            go_wp2_with fail
            refine wp_region_held_drew (S := fun W => Below y42.heap.size y42 W) (by kernel_rfl) hstart (fun hHeld => ?_)
            clear hstart
            refine takeH_now (i := 0) (some 65) (v := ?_) rfl (by kernel_rfl) (by kernel_rfl) (by kernel_rfl) (fun _ _ _ h => h) (Or.inl ⟨by rfl, ?_⟩) rfl (by assumption) ?_
            rotate_left
            focus (intro w9 hS9; obtain ⟨aC, aL, aK, xC, xL, xK⟩ := HCell.out w9 hS9; clear hS9; go_simp; try with_reducible rfl)
            try simp only [Act.put, List.setIfInBounds_toArray, List.set_cons_zero, List.set_cons_succ]
            refine wpAnyH_ready (rs := [1]) (by kernel_rfl) (by simp) ?_
            refine AllReadyH.cons (o := { dst := some 66, op := Op.call { callee := Callee.value (Operand.func 17), args := #[Operand.tmp 65, Operand.const (Value.int IntKind.i64 65536)], argTypes := #[24, 3] }, type := 29, pos := "law.go:248", after := #[{ on := 0, ground := Ground.data }], guard := none }) rfl (fun K' hK' => ?_) AllReadyH.nil
            rw [if_pos (by kernel_rfl)]
            go_simp
            refine (HCk.out _ hHeld).mono ?_
            rintro e wa ⟨rfl, hba⟩
            have hHa := HK.out _ _ hHeld hba
            clear hHeld hba
            refine hK'.out _ _ hHa (fun hHeld => ?_)
            clear hK' hHa
            try simp only [Act.put, List.setIfInBounds_toArray, List.set_cons_zero, List.set_cons_succ]
            refine takeH_now (i := 2) (some 67) (v := ?_) rfl (by kernel_rfl) (by kernel_rfl) (by kernel_rfl) (fun _ _ _ h => h) (Or.inl ⟨by rfl, ?_⟩) rfl (by assumption) ?_
            rotate_left
            focus (intro w9 hS9; go_simp; try with_reducible rfl)
            try simp only [Act.put, List.setIfInBounds_toArray, List.set_cons_zero, List.set_cons_succ]
            refine takeH_now (i := 3) (some 68) (v := ?_) rfl (by kernel_rfl) (by kernel_rfl) (by kernel_rfl) (fun _ _ _ h => h) (Or.inl ⟨by rfl, ?_⟩) rfl (by assumption) ?_
            rotate_left
            focus (intro w9 hS9; go_simp; try with_reducible rfl)
            try simp only [Act.put, List.setIfInBounds_toArray, List.set_cons_zero, List.set_cons_succ]
            refine takeH_now (i := 4) (some 69) (v := ?_) rfl (by kernel_rfl) (by kernel_rfl) (by kernel_rfl) (fun _ _ _ h => h) (Or.inl ⟨by rfl, ?_⟩) rfl (by assumption) ?_
            rotate_left
            focus (intro w9 hS9; obtain ⟨aC, aL, aK, xC, xL, xK⟩ := HCell.out w9 hS9; clear hS9; go_simp; try with_reducible rfl)
            try simp only [Act.put, List.setIfInBounds_toArray, List.set_cons_zero, List.set_cons_succ]
            refine takeH_now (i := 5) (some 70) (v := ?_) rfl (by kernel_rfl) (by kernel_rfl) (by kernel_rfl) (fun _ _ _ h => h) (Or.inl ⟨by rfl, ?_⟩) rfl (by assumption) ?_
            rotate_left
            focus (intro w9 hS9; go_simp; try with_reducible rfl)
            try simp only [Act.put, List.setIfInBounds_toArray, List.set_cons_zero, List.set_cons_succ]
            refine takeH_now (i := 7) (some 72) (v := ?_) rfl (by kernel_rfl) (by kernel_rfl) (by kernel_rfl) (fun _ _ _ h => h) (Or.inl ⟨by rfl, ?_⟩) rfl (by assumption) ?_
            rotate_left
            focus (intro w9 hS9; obtain ⟨aC, aL, aK, xC, xL, xK⟩ := HCell.out w9 hS9; clear hS9; go_simp; try with_reducible rfl)
            try simp only [Act.put, List.setIfInBounds_toArray, List.set_cons_zero, List.set_cons_succ]
            refine takeH_now (i := 8) (some 73) (v := ?_) rfl (by kernel_rfl) (by kernel_rfl) (by kernel_rfl) (fun _ _ _ h => h) (Or.inl ⟨by rfl, ?_⟩) rfl (by assumption) ?_
            rotate_left
            focus (intro w9 hS9; go_simp; try with_reducible rfl)
            try simp only [Act.put, List.setIfInBounds_toArray, List.set_cons_zero, List.set_cons_succ]
            refine wpAnyH_ready (rs := [6]) (by kernel_rfl) (by simp) ?_
            refine AllReadyH.cons (o := { dst := some 71, op := Op.call { callee := Callee.value (Operand.func 23), args := #[Operand.tmp 69, Operand.tmp 70], argTypes := #[24, 32] }, type := 4, pos := "law.go:248", after := #[{ on := 4, ground := Ground.data }, { on := 5, ground := Ground.data }, { on := 3, ground := Ground.chain }, { on := 3, ground := Ground.guard }], guard := some (3, true) }) rfl (fun K' hK' => ?_) AllReadyH.nil
            rw [if_pos (by kernel_rfl)]
            go_simp
            refine (HVx.out _ hHeld).mono ?_
            rintro e wa ⟨rfl, hba⟩
            have hHa := HK.out _ _ hHeld hba
            clear hHeld hba
            refine hK'.out _ _ hHa (fun hHeld => ?_)
            clear hK' hHa
            try simp only [Act.put, List.setIfInBounds_toArray, List.set_cons_zero, List.set_cons_succ]
            refine wpAnyH_ready (rs := [9]) (by kernel_rfl) (by simp) ?_
            refine AllReadyH.cons (o := { dst := some 74, op := Op.call { callee := Callee.value (Operand.func 23), args := #[Operand.tmp 72, Operand.tmp 73], argTypes := #[24, 32] }, type := 4, pos := "law.go:248", after := #[{ on := 7, ground := Ground.data }, { on := 8, ground := Ground.data }, { on := 6, ground := Ground.chain }, { on := 3, ground := Ground.guard }], guard := some (3, true) }) rfl (fun K' hK' => ?_) AllReadyH.nil
            rw [if_pos (by kernel_rfl)]
            go_simp
            refine (HVl.out _ hHeld).mono ?_
            rintro e wa ⟨rfl, hba⟩
            have hHa := HK.out _ _ hHeld hba
            clear hHeld hba
            refine hK'.out _ _ hHa (fun hHeld => ?_)
            clear hK' hHa
            try simp only [Act.put, List.setIfInBounds_toArray, List.set_cons_zero, List.set_cons_succ]
            refine takeH_now (i := 10) (some 75) (v := ?_) rfl (by kernel_rfl) (by kernel_rfl) (by kernel_rfl) (fun _ _ _ h => h) (Or.inl ⟨by rfl, ?_⟩) rfl (by assumption) ?_
            rotate_left
            focus (intro w9 hS9; go_simp; try with_reducible rfl)
            try simp only [Act.put, List.setIfInBounds_toArray, List.set_cons_zero, List.set_cons_succ]
            refine takeH_now (i := 11) (some 76) (v := ?_) rfl (by kernel_rfl) (by kernel_rfl) (by kernel_rfl) (fun _ _ _ h => h) (Or.inl ⟨by rfl, ?_⟩) rfl (by assumption) ?_
            rotate_left
            focus (intro w9 hS9; go_simp; try with_reducible rfl)
            try simp only [Act.put, List.setIfInBounds_toArray, List.set_cons_zero, List.set_cons_succ]
            refine takeH_now (i := 12) (some 77) (v := ?_) rfl (by kernel_rfl) (by kernel_rfl) (by kernel_rfl) (fun _ _ _ h => h) (Or.inl ⟨by rfl, ?_⟩) rfl (by assumption) ?_
            rotate_left
            focus (intro w9 hS9; go_simp; try with_reducible rfl)
            try simp only [Act.put, List.setIfInBounds_toArray, List.set_cons_zero, List.set_cons_succ]
            refine takeH_now (i := 13) (some 78) (v := ?_) rfl (by kernel_rfl) (by kernel_rfl) (by kernel_rfl) (fun _ _ _ h => h) (Or.inl ⟨by rfl, ?_⟩) rfl (by assumption) ?_
            rotate_left
            focus (intro w9 hS9; go_simp; try with_reducible rfl)
            try simp only [Act.put, List.setIfInBounds_toArray, List.set_cons_zero, List.set_cons_succ]
            refine takeH_now (i := 14) (some 79) (v := ?_) rfl (by kernel_rfl) (by kernel_rfl) (by kernel_rfl) (fun _ _ _ h => h) (Or.inl ⟨by rfl, ?_⟩) rfl (by assumption) ?_
            rotate_left
            focus (intro w9 hS9; go_simp; try with_reducible rfl)
            try simp only [Act.put, List.setIfInBounds_toArray, List.set_cons_zero, List.set_cons_succ]
            refine takeH_now (i := 15) (some 80) (v := undef) rfl (by kernel_rfl) (by kernel_rfl) (by kernel_rfl) (fun _ _ _ h => h) (Or.inr ⟨by rfl, rfl⟩) rfl (by assumption) ?_
            try simp only [Act.put, List.setIfInBounds_toArray, List.set_cons_zero, List.set_cons_succ]
            refine takeH_now (i := 16) (some 81) (v := ?_) rfl (by kernel_rfl) (by kernel_rfl) (by kernel_rfl) (fun _ _ _ h => h) (Or.inl ⟨by rfl, ?_⟩) rfl (by assumption) ?_
            rotate_left
            focus (intro w9 hS9; go_simp; try with_reducible rfl)
            try simp only [Act.put, List.setIfInBounds_toArray, List.set_cons_zero, List.set_cons_succ]
            refine takeH_now (i := 17) (some 82) (v := ?_) rfl (by kernel_rfl) (by kernel_rfl) (by kernel_rfl) (fun _ _ _ h => h) (Or.inl ⟨by rfl, ?_⟩) rfl (by assumption) ?_
            rotate_left
            focus (intro w9 hS9; go_simp; try with_reducible rfl)
            try simp only [Act.put, List.setIfInBounds_toArray, List.set_cons_zero, List.set_cons_succ]
            refine takeH_now (i := 18) (some 83) (v := ?_) rfl (by kernel_rfl) (by kernel_rfl) (by kernel_rfl) (fun _ _ _ h => h) (Or.inl ⟨by rfl, ?_⟩) rfl (by assumption) ?_
            rotate_left
            focus (intro w9 hS9; go_simp; try with_reducible rfl)
            try simp only [Act.put, List.setIfInBounds_toArray, List.set_cons_zero, List.set_cons_succ]
            refine takeH_now (i := 19) (some 84) (v := ?_) rfl (by kernel_rfl) (by kernel_rfl) (by kernel_rfl) (fun _ _ _ h => h) (Or.inl ⟨by rfl, ?_⟩) rfl (by assumption) ?_
            rotate_left
            focus (intro w9 hS9; go_simp; try with_reducible rfl)
            try simp only [Act.put, List.setIfInBounds_toArray, List.set_cons_zero, List.set_cons_succ]
            refine takeH_now (i := 20) (some 85) (v := ?_) rfl (by kernel_rfl) (by kernel_rfl) (by kernel_rfl) (fun _ _ _ h => h) (Or.inl ⟨by rfl, ?_⟩) rfl (by assumption) ?_
            rotate_left
            focus (intro w9 hS9; go_simp; try with_reducible rfl)
            try simp only [Act.put, List.setIfInBounds_toArray, List.set_cons_zero, List.set_cons_succ]
            refine takeH_now (i := 21) (some 86) (v := undef) rfl (by kernel_rfl) (by kernel_rfl) (by kernel_rfl) (fun _ _ _ h => h) (Or.inr ⟨by rfl, rfl⟩) rfl (by assumption) ?_
            try simp only [Act.put, List.setIfInBounds_toArray, List.set_cons_zero, List.set_cons_succ]
            refine takeH_now (i := 22) (some 87) (v := undef) rfl (by kernel_rfl) (by kernel_rfl) (by kernel_rfl) (fun _ _ _ h => h) (Or.inr ⟨by rfl, rfl⟩) rfl (by assumption) ?_
            try simp only [Act.put, List.setIfInBounds_toArray, List.set_cons_zero, List.set_cons_succ]
            refine takeH_now (i := 23) (some 88) (v := undef) rfl (by kernel_rfl) (by kernel_rfl) (by kernel_rfl) (fun _ _ _ h => h) (Or.inr ⟨by rfl, rfl⟩) rfl (by assumption) ?_
            try simp only [Act.put, List.setIfInBounds_toArray, List.set_cons_zero, List.set_cons_succ]
            refine takeH_now (i := 24) (some 89) (v := ?_) rfl (by kernel_rfl) (by kernel_rfl) (by kernel_rfl) (fun _ _ _ h => h) (Or.inl ⟨by rfl, ?_⟩) rfl (by assumption) ?_
            rotate_left
            focus (intro w9 hS9; go_simp; try with_reducible rfl)
            try simp only [Act.put, List.setIfInBounds_toArray, List.set_cons_zero, List.set_cons_succ]
            refine takeH_now (i := 25) (some 90) (v := ?_) rfl (by kernel_rfl) (by kernel_rfl) (by kernel_rfl) (fun _ _ _ h => h) (Or.inl ⟨by rfl, ?_⟩) rfl (by assumption) ?_
            rotate_left
            focus (intro w9 hS9; go_simp; try with_reducible rfl)
            try simp only [Act.put, List.setIfInBounds_toArray, List.set_cons_zero, List.set_cons_succ]
            refine takeH_now (i := 26) (some 91) (v := ?_) rfl (by kernel_rfl) (by kernel_rfl) (by kernel_rfl) (fun _ _ _ h => h) (Or.inl ⟨by rfl, ?_⟩) rfl (by assumption) ?_
            rotate_left
            focus (intro w9 hS9; go_simp; try with_reducible rfl)
            try simp only [Act.put, List.setIfInBounds_toArray, List.set_cons_zero, List.set_cons_succ]
            refine takeH_now (i := 27) (some 92) (v := ?_) rfl (by kernel_rfl) (by kernel_rfl) (by kernel_rfl) (fun _ _ _ h => h) (Or.inl ⟨by rfl, ?_⟩) rfl (by assumption) ?_
            rotate_left
            focus (intro w9 hS9; go_simp; try with_reducible rfl)
            try simp only [Act.put, List.setIfInBounds_toArray, List.set_cons_zero, List.set_cons_succ]
            refine takeH_now (i := 28) (some 93) (v := ?_) rfl (by kernel_rfl) (by kernel_rfl) (by kernel_rfl) (fun _ _ _ h => h) (Or.inl ⟨by rfl, ?_⟩) rfl (by assumption) ?_
            rotate_left
            focus (intro w9 hS9; go_simp; try with_reducible rfl)
            try simp only [Act.put, List.setIfInBounds_toArray, List.set_cons_zero, List.set_cons_succ]
            refine takeH_now (i := 29) (some 94) (v := undef) rfl (by kernel_rfl) (by kernel_rfl) (by kernel_rfl) (fun _ _ _ h => h) (Or.inr ⟨by rfl, rfl⟩) rfl (by assumption) ?_
            try simp only [Act.put, List.setIfInBounds_toArray, List.set_cons_zero, List.set_cons_succ]
            refine takeH_now (i := 30) (some 95) (v := undef) rfl (by kernel_rfl) (by kernel_rfl) (by kernel_rfl) (fun _ _ _ h => h) (Or.inr ⟨by rfl, rfl⟩) rfl (by assumption) ?_
            try simp only [Act.put, List.setIfInBounds_toArray, List.set_cons_zero, List.set_cons_succ]
            refine takeH_now (i := 31) (some 96) (v := undef) rfl (by kernel_rfl) (by kernel_rfl) (by kernel_rfl) (fun _ _ _ h => h) (Or.inr ⟨by rfl, rfl⟩) rfl (by assumption) ?_
            try simp only [Act.put, List.setIfInBounds_toArray, List.set_cons_zero, List.set_cons_succ]
            refine takeH_now (i := 32) (some 97) (v := undef) rfl (by kernel_rfl) (by kernel_rfl) (by kernel_rfl) (fun _ _ _ h => h) (Or.inr ⟨by rfl, rfl⟩) rfl (by assumption) ?_
            try simp only [Act.put, List.setIfInBounds_toArray, List.set_cons_zero, List.set_cons_succ]
            refine takeH_now (i := 33) (some 98) (v := ?_) rfl (by kernel_rfl) (by kernel_rfl) (by kernel_rfl) (fun _ _ _ h => h) (Or.inl ⟨by rfl, ?_⟩) rfl (by assumption) ?_
            rotate_left
            focus (intro w9 hS9; go_simp; try with_reducible rfl)
            try simp only [Act.put, List.setIfInBounds_toArray, List.set_cons_zero, List.set_cons_succ]
            refine takeH_now (i := 34) (some 99) (v := ?_) rfl (by kernel_rfl) (by kernel_rfl) (by kernel_rfl) (fun _ _ _ h => h) (Or.inl ⟨by rfl, ?_⟩) rfl (by assumption) ?_
            rotate_left
            focus (intro w9 hS9; go_simp; try with_reducible rfl)
            try simp only [Act.put, List.setIfInBounds_toArray, List.set_cons_zero, List.set_cons_succ]
            refine takeH_now (i := 35) (some 100) (v := ?_) rfl (by kernel_rfl) (by kernel_rfl) (by kernel_rfl) (fun _ _ _ h => h) (Or.inl ⟨by rfl, ?_⟩) rfl (by assumption) ?_
            rotate_left
            focus (intro w9 hS9; go_simp; try with_reducible rfl)
            try simp only [Act.put, List.setIfInBounds_toArray, List.set_cons_zero, List.set_cons_succ]
            refine takeH_now (i := 36) (some 101) (v := ?_) rfl (by kernel_rfl) (by kernel_rfl) (by kernel_rfl) (fun _ _ _ h => h) (Or.inl ⟨by rfl, ?_⟩) rfl (by assumption) ?_
            rotate_left
            focus (intro w9 hS9; go_simp; try with_reducible rfl)
            try simp only [Act.put, List.setIfInBounds_toArray, List.set_cons_zero, List.set_cons_succ]
            refine takeH_now (i := 37) (some 102) (v := ?_) rfl (by kernel_rfl) (by kernel_rfl) (by kernel_rfl) (fun _ _ _ h => h) (Or.inl ⟨by rfl, ?_⟩) rfl (by assumption) ?_
            rotate_left
            focus (intro w9 hS9; go_simp; try with_reducible rfl)
            try simp only [Act.put, List.setIfInBounds_toArray, List.set_cons_zero, List.set_cons_succ]
            refine takeH_now (i := 38) (some 103) (v := undef) rfl (by kernel_rfl) (by kernel_rfl) (by kernel_rfl) (fun _ _ _ h => h) (Or.inr ⟨by rfl, rfl⟩) rfl (by assumption) ?_
            try simp only [Act.put, List.setIfInBounds_toArray, List.set_cons_zero, List.set_cons_succ]
            refine takeH_now (i := 39) (some 104) (v := undef) rfl (by kernel_rfl) (by kernel_rfl) (by kernel_rfl) (fun _ _ _ h => h) (Or.inr ⟨by rfl, rfl⟩) rfl (by assumption) ?_
            try simp only [Act.put, List.setIfInBounds_toArray, List.set_cons_zero, List.set_cons_succ]
            refine takeH_now (i := 40) (some 105) (v := undef) rfl (by kernel_rfl) (by kernel_rfl) (by kernel_rfl) (fun _ _ _ h => h) (Or.inr ⟨by rfl, rfl⟩) rfl (by assumption) ?_
            try simp only [Act.put, List.setIfInBounds_toArray, List.set_cons_zero, List.set_cons_succ]
            refine takeH_now (i := 41) (some 106) (v := undef) rfl (by kernel_rfl) (by kernel_rfl) (by kernel_rfl) (fun _ _ _ h => h) (Or.inr ⟨by rfl, rfl⟩) rfl (by assumption) ?_
            try simp only [Act.put, List.setIfInBounds_toArray, List.set_cons_zero, List.set_cons_succ]
            refine takeH_now (i := 42) (some 107) (v := ?_) rfl (by kernel_rfl) (by kernel_rfl) (by kernel_rfl) (fun _ _ _ h => h) (Or.inl ⟨by rfl, ?_⟩) rfl (by assumption) ?_
            rotate_left
            focus (intro w9 hS9; go_simp; try with_reducible rfl)
            try simp only [Act.put, List.setIfInBounds_toArray, List.set_cons_zero, List.set_cons_succ]
            refine takeH_now (i := 43) (some 108) (v := ?_) rfl (by kernel_rfl) (by kernel_rfl) (by kernel_rfl) (fun _ _ _ h => h) (Or.inl ⟨by rfl, ?_⟩) rfl (by assumption) ?_
            rotate_left
            focus (intro w9 hS9; go_simp; try with_reducible rfl)
            try simp only [Act.put, List.setIfInBounds_toArray, List.set_cons_zero, List.set_cons_succ]
            refine takeH_now (i := 44) (some 4) (v := ?_) rfl (by kernel_rfl) (by kernel_rfl) (by kernel_rfl) (fun _ _ _ h => h) (Or.inl ⟨by rfl, ?_⟩) rfl (by assumption) ?_
            rotate_left
            focus (intro w9 hS9; go_simp; try with_reducible rfl)
            try simp only [Act.put, List.setIfInBounds_toArray, List.set_cons_zero, List.set_cons_succ]
            refine wpAnyH_done (by kernel_rfl) ?_ _
            have hend := HFin.out _ hHeld
            clear hHeld
            go_wp2_with fail
            go_ret
            exact ⟨by simp, hend⟩
          | false =>
            go_wp2_with fail
            refine wp_region_held_drew (S := fun W => Below y42.heap.size y42 W) (by kernel_rfl) hstart (fun hHeld => ?_)
            clear hstart
            refine takeH_now (i := 0) (some 65) (v := ?_) rfl (by kernel_rfl) (by kernel_rfl) (by kernel_rfl) (fun _ _ _ h => h) (Or.inl ⟨by rfl, ?_⟩) rfl (by assumption) ?_
            rotate_left
            focus (intro w9 hS9; obtain ⟨aC, aL, aK, xC, xL, xK⟩ := HCell.out w9 hS9; clear hS9; go_simp; try with_reducible rfl)
            try simp only [Act.put, List.setIfInBounds_toArray, List.set_cons_zero, List.set_cons_succ]
            refine wpAnyH_ready (rs := [1]) (by kernel_rfl) (by simp) ?_
            refine AllReadyH.cons (o := { dst := some 66, op := Op.call { callee := Callee.value (Operand.func 17), args := #[Operand.tmp 65, Operand.const (Value.int IntKind.i64 65536)], argTypes := #[24, 3] }, type := 29, pos := "law.go:248", after := #[{ on := 0, ground := Ground.data }], guard := none }) rfl (fun K' hK' => ?_) AllReadyH.nil
            rw [if_pos (by kernel_rfl)]
            go_simp
            refine (HCk.out _ hHeld).mono ?_
            rintro e wa ⟨rfl, hba⟩
            have hHa := HK.out _ _ hHeld hba
            clear hHeld hba
            refine hK'.out _ _ hHa (fun hHeld => ?_)
            clear hK' hHa
            try simp only [Act.put, List.setIfInBounds_toArray, List.set_cons_zero, List.set_cons_succ]
            refine takeH_now (i := 2) (some 67) (v := ?_) rfl (by kernel_rfl) (by kernel_rfl) (by kernel_rfl) (fun _ _ _ h => h) (Or.inl ⟨by rfl, ?_⟩) rfl (by assumption) ?_
            rotate_left
            focus (intro w9 hS9; go_simp; try with_reducible rfl)
            try simp only [Act.put, List.setIfInBounds_toArray, List.set_cons_zero, List.set_cons_succ]
            refine takeH_now (i := 3) (some 68) (v := ?_) rfl (by kernel_rfl) (by kernel_rfl) (by kernel_rfl) (fun _ _ _ h => h) (Or.inl ⟨by rfl, ?_⟩) rfl (by assumption) ?_
            rotate_left
            focus (intro w9 hS9; go_simp; try with_reducible rfl)
            try simp only [Act.put, List.setIfInBounds_toArray, List.set_cons_zero, List.set_cons_succ]
            refine takeH_now (i := 4) (some 69) (v := ?_) rfl (by kernel_rfl) (by kernel_rfl) (by kernel_rfl) (fun _ _ _ h => h) (Or.inl ⟨by rfl, ?_⟩) rfl (by assumption) ?_
            rotate_left
            focus (intro w9 hS9; obtain ⟨aC, aL, aK, xC, xL, xK⟩ := HCell.out w9 hS9; clear hS9; go_simp; try with_reducible rfl)
            try simp only [Act.put, List.setIfInBounds_toArray, List.set_cons_zero, List.set_cons_succ]
            refine takeH_now (i := 5) (some 70) (v := ?_) rfl (by kernel_rfl) (by kernel_rfl) (by kernel_rfl) (fun _ _ _ h => h) (Or.inl ⟨by rfl, ?_⟩) rfl (by assumption) ?_
            rotate_left
            focus (intro w9 hS9; go_simp; try with_reducible rfl)
            try simp only [Act.put, List.setIfInBounds_toArray, List.set_cons_zero, List.set_cons_succ]
            refine takeH_now (i := 7) (some 72) (v := ?_) rfl (by kernel_rfl) (by kernel_rfl) (by kernel_rfl) (fun _ _ _ h => h) (Or.inl ⟨by rfl, ?_⟩) rfl (by assumption) ?_
            rotate_left
            focus (intro w9 hS9; obtain ⟨aC, aL, aK, xC, xL, xK⟩ := HCell.out w9 hS9; clear hS9; go_simp; try with_reducible rfl)
            try simp only [Act.put, List.setIfInBounds_toArray, List.set_cons_zero, List.set_cons_succ]
            refine takeH_now (i := 8) (some 73) (v := ?_) rfl (by kernel_rfl) (by kernel_rfl) (by kernel_rfl) (fun _ _ _ h => h) (Or.inl ⟨by rfl, ?_⟩) rfl (by assumption) ?_
            rotate_left
            focus (intro w9 hS9; go_simp; try with_reducible rfl)
            try simp only [Act.put, List.setIfInBounds_toArray, List.set_cons_zero, List.set_cons_succ]
            refine wpAnyH_ready (rs := [6]) (by kernel_rfl) (by simp) ?_
            refine AllReadyH.cons (o := { dst := some 71, op := Op.call { callee := Callee.value (Operand.func 23), args := #[Operand.tmp 69, Operand.tmp 70], argTypes := #[24, 32] }, type := 4, pos := "law.go:248", after := #[{ on := 4, ground := Ground.data }, { on := 5, ground := Ground.data }, { on := 3, ground := Ground.chain }, { on := 3, ground := Ground.guard }], guard := some (3, true) }) rfl (fun K' hK' => ?_) AllReadyH.nil
            rw [if_pos (by kernel_rfl)]
            go_simp
            refine (HVx.out _ hHeld).mono ?_
            rintro e wa ⟨rfl, hba⟩
            have hHa := HK.out _ _ hHeld hba
            clear hHeld hba
            refine hK'.out _ _ hHa (fun hHeld => ?_)
            clear hK' hHa
            try simp only [Act.put, List.setIfInBounds_toArray, List.set_cons_zero, List.set_cons_succ]
            refine wpAnyH_ready (rs := [9]) (by kernel_rfl) (by simp) ?_
            refine AllReadyH.cons (o := { dst := some 74, op := Op.call { callee := Callee.value (Operand.func 23), args := #[Operand.tmp 72, Operand.tmp 73], argTypes := #[24, 32] }, type := 4, pos := "law.go:248", after := #[{ on := 7, ground := Ground.data }, { on := 8, ground := Ground.data }, { on := 6, ground := Ground.chain }, { on := 3, ground := Ground.guard }], guard := some (3, true) }) rfl (fun K' hK' => ?_) AllReadyH.nil
            rw [if_pos (by kernel_rfl)]
            go_simp
            refine (HVl.out _ hHeld).mono ?_
            rintro e wa ⟨rfl, hba⟩
            have hHa := HK.out _ _ hHeld hba
            clear hHeld hba
            refine hK'.out _ _ hHa (fun hHeld => ?_)
            clear hK' hHa
            try simp only [Act.put, List.setIfInBounds_toArray, List.set_cons_zero, List.set_cons_succ]
            refine takeH_now (i := 10) (some 75) (v := ?_) rfl (by kernel_rfl) (by kernel_rfl) (by kernel_rfl) (fun _ _ _ h => h) (Or.inl ⟨by rfl, ?_⟩) rfl (by assumption) ?_
            rotate_left
            focus (intro w9 hS9; go_simp; try with_reducible rfl)
            try simp only [Act.put, List.setIfInBounds_toArray, List.set_cons_zero, List.set_cons_succ]
            refine takeH_now (i := 11) (some 76) (v := ?_) rfl (by kernel_rfl) (by kernel_rfl) (by kernel_rfl) (fun _ _ _ h => h) (Or.inl ⟨by rfl, ?_⟩) rfl (by assumption) ?_
            rotate_left
            focus (intro w9 hS9; go_simp; try with_reducible rfl)
            try simp only [Act.put, List.setIfInBounds_toArray, List.set_cons_zero, List.set_cons_succ]
            refine takeH_now (i := 12) (some 77) (v := ?_) rfl (by kernel_rfl) (by kernel_rfl) (by kernel_rfl) (fun _ _ _ h => h) (Or.inl ⟨by rfl, ?_⟩) rfl (by assumption) ?_
            rotate_left
            focus (intro w9 hS9; go_simp; try with_reducible rfl)
            try simp only [Act.put, List.setIfInBounds_toArray, List.set_cons_zero, List.set_cons_succ]
            refine takeH_now (i := 13) (some 78) (v := ?_) rfl (by kernel_rfl) (by kernel_rfl) (by kernel_rfl) (fun _ _ _ h => h) (Or.inl ⟨by rfl, ?_⟩) rfl (by assumption) ?_
            rotate_left
            focus (intro w9 hS9; go_simp; try with_reducible rfl)
            try simp only [Act.put, List.setIfInBounds_toArray, List.set_cons_zero, List.set_cons_succ]
            refine takeH_now (i := 14) (some 79) (v := ?_) rfl (by kernel_rfl) (by kernel_rfl) (by kernel_rfl) (fun _ _ _ h => h) (Or.inl ⟨by rfl, ?_⟩) rfl (by assumption) ?_
            rotate_left
            focus (intro w9 hS9; go_simp; try with_reducible rfl)
            try simp only [Act.put, List.setIfInBounds_toArray, List.set_cons_zero, List.set_cons_succ]
            refine takeH_now (i := 15) (some 80) (v := undef) rfl (by kernel_rfl) (by kernel_rfl) (by kernel_rfl) (fun _ _ _ h => h) (Or.inr ⟨by rfl, rfl⟩) rfl (by assumption) ?_
            try simp only [Act.put, List.setIfInBounds_toArray, List.set_cons_zero, List.set_cons_succ]
            refine takeH_now (i := 16) (some 81) (v := ?_) rfl (by kernel_rfl) (by kernel_rfl) (by kernel_rfl) (fun _ _ _ h => h) (Or.inl ⟨by rfl, ?_⟩) rfl (by assumption) ?_
            rotate_left
            focus (intro w9 hS9; go_simp; try with_reducible rfl)
            try simp only [Act.put, List.setIfInBounds_toArray, List.set_cons_zero, List.set_cons_succ]
            refine takeH_now (i := 17) (some 82) (v := ?_) rfl (by kernel_rfl) (by kernel_rfl) (by kernel_rfl) (fun _ _ _ h => h) (Or.inl ⟨by rfl, ?_⟩) rfl (by assumption) ?_
            rotate_left
            focus (intro w9 hS9; go_simp; try with_reducible rfl)
            try simp only [Act.put, List.setIfInBounds_toArray, List.set_cons_zero, List.set_cons_succ]
            refine takeH_now (i := 18) (some 83) (v := ?_) rfl (by kernel_rfl) (by kernel_rfl) (by kernel_rfl) (fun _ _ _ h => h) (Or.inl ⟨by rfl, ?_⟩) rfl (by assumption) ?_
            rotate_left
            focus (intro w9 hS9; go_simp; try with_reducible rfl)
            try simp only [Act.put, List.setIfInBounds_toArray, List.set_cons_zero, List.set_cons_succ]
            refine takeH_now (i := 19) (some 84) (v := ?_) rfl (by kernel_rfl) (by kernel_rfl) (by kernel_rfl) (fun _ _ _ h => h) (Or.inl ⟨by rfl, ?_⟩) rfl (by assumption) ?_
            rotate_left
            focus (intro w9 hS9; go_simp; try with_reducible rfl)
            try simp only [Act.put, List.setIfInBounds_toArray, List.set_cons_zero, List.set_cons_succ]
            refine takeH_now (i := 20) (some 85) (v := ?_) rfl (by kernel_rfl) (by kernel_rfl) (by kernel_rfl) (fun _ _ _ h => h) (Or.inl ⟨by rfl, ?_⟩) rfl (by assumption) ?_
            rotate_left
            focus (intro w9 hS9; go_simp; try with_reducible rfl)
            try simp only [Act.put, List.setIfInBounds_toArray, List.set_cons_zero, List.set_cons_succ]
            refine takeH_now (i := 21) (some 86) (v := undef) rfl (by kernel_rfl) (by kernel_rfl) (by kernel_rfl) (fun _ _ _ h => h) (Or.inr ⟨by rfl, rfl⟩) rfl (by assumption) ?_
            try simp only [Act.put, List.setIfInBounds_toArray, List.set_cons_zero, List.set_cons_succ]
            refine takeH_now (i := 22) (some 87) (v := undef) rfl (by kernel_rfl) (by kernel_rfl) (by kernel_rfl) (fun _ _ _ h => h) (Or.inr ⟨by rfl, rfl⟩) rfl (by assumption) ?_
            try simp only [Act.put, List.setIfInBounds_toArray, List.set_cons_zero, List.set_cons_succ]
            refine takeH_now (i := 23) (some 88) (v := undef) rfl (by kernel_rfl) (by kernel_rfl) (by kernel_rfl) (fun _ _ _ h => h) (Or.inr ⟨by rfl, rfl⟩) rfl (by assumption) ?_
            try simp only [Act.put, List.setIfInBounds_toArray, List.set_cons_zero, List.set_cons_succ]
            refine takeH_now (i := 24) (some 89) (v := ?_) rfl (by kernel_rfl) (by kernel_rfl) (by kernel_rfl) (fun _ _ _ h => h) (Or.inl ⟨by rfl, ?_⟩) rfl (by assumption) ?_
            rotate_left
            focus (intro w9 hS9; go_simp; try with_reducible rfl)
            try simp only [Act.put, List.setIfInBounds_toArray, List.set_cons_zero, List.set_cons_succ]
            refine takeH_now (i := 25) (some 90) (v := ?_) rfl (by kernel_rfl) (by kernel_rfl) (by kernel_rfl) (fun _ _ _ h => h) (Or.inl ⟨by rfl, ?_⟩) rfl (by assumption) ?_
            rotate_left
            focus (intro w9 hS9; go_simp; try with_reducible rfl)
            try simp only [Act.put, List.setIfInBounds_toArray, List.set_cons_zero, List.set_cons_succ]
            refine takeH_now (i := 26) (some 91) (v := ?_) rfl (by kernel_rfl) (by kernel_rfl) (by kernel_rfl) (fun _ _ _ h => h) (Or.inl ⟨by rfl, ?_⟩) rfl (by assumption) ?_
            rotate_left
            focus (intro w9 hS9; go_simp; try with_reducible rfl)
            try simp only [Act.put, List.setIfInBounds_toArray, List.set_cons_zero, List.set_cons_succ]
            refine takeH_now (i := 27) (some 92) (v := ?_) rfl (by kernel_rfl) (by kernel_rfl) (by kernel_rfl) (fun _ _ _ h => h) (Or.inl ⟨by rfl, ?_⟩) rfl (by assumption) ?_
            rotate_left
            focus (intro w9 hS9; go_simp; try with_reducible rfl)
            try simp only [Act.put, List.setIfInBounds_toArray, List.set_cons_zero, List.set_cons_succ]
            refine takeH_now (i := 28) (some 93) (v := ?_) rfl (by kernel_rfl) (by kernel_rfl) (by kernel_rfl) (fun _ _ _ h => h) (Or.inl ⟨by rfl, ?_⟩) rfl (by assumption) ?_
            rotate_left
            focus (intro w9 hS9; go_simp; try with_reducible rfl)
            try simp only [Act.put, List.setIfInBounds_toArray, List.set_cons_zero, List.set_cons_succ]
            refine takeH_now (i := 29) (some 94) (v := undef) rfl (by kernel_rfl) (by kernel_rfl) (by kernel_rfl) (fun _ _ _ h => h) (Or.inr ⟨by rfl, rfl⟩) rfl (by assumption) ?_
            try simp only [Act.put, List.setIfInBounds_toArray, List.set_cons_zero, List.set_cons_succ]
            refine takeH_now (i := 30) (some 95) (v := undef) rfl (by kernel_rfl) (by kernel_rfl) (by kernel_rfl) (fun _ _ _ h => h) (Or.inr ⟨by rfl, rfl⟩) rfl (by assumption) ?_
            try simp only [Act.put, List.setIfInBounds_toArray, List.set_cons_zero, List.set_cons_succ]
            refine takeH_now (i := 31) (some 96) (v := undef) rfl (by kernel_rfl) (by kernel_rfl) (by kernel_rfl) (fun _ _ _ h => h) (Or.inr ⟨by rfl, rfl⟩) rfl (by assumption) ?_
            try simp only [Act.put, List.setIfInBounds_toArray, List.set_cons_zero, List.set_cons_succ]
            refine takeH_now (i := 32) (some 97) (v := undef) rfl (by kernel_rfl) (by kernel_rfl) (by kernel_rfl) (fun _ _ _ h => h) (Or.inr ⟨by rfl, rfl⟩) rfl (by assumption) ?_
            try simp only [Act.put, List.setIfInBounds_toArray, List.set_cons_zero, List.set_cons_succ]
            refine takeH_now (i := 33) (some 98) (v := ?_) rfl (by kernel_rfl) (by kernel_rfl) (by kernel_rfl) (fun _ _ _ h => h) (Or.inl ⟨by rfl, ?_⟩) rfl (by assumption) ?_
            rotate_left
            focus (intro w9 hS9; go_simp; try with_reducible rfl)
            try simp only [Act.put, List.setIfInBounds_toArray, List.set_cons_zero, List.set_cons_succ]
            refine takeH_now (i := 34) (some 99) (v := ?_) rfl (by kernel_rfl) (by kernel_rfl) (by kernel_rfl) (fun _ _ _ h => h) (Or.inl ⟨by rfl, ?_⟩) rfl (by assumption) ?_
            rotate_left
            focus (intro w9 hS9; go_simp; try with_reducible rfl)
            try simp only [Act.put, List.setIfInBounds_toArray, List.set_cons_zero, List.set_cons_succ]
            refine takeH_now (i := 35) (some 100) (v := ?_) rfl (by kernel_rfl) (by kernel_rfl) (by kernel_rfl) (fun _ _ _ h => h) (Or.inl ⟨by rfl, ?_⟩) rfl (by assumption) ?_
            rotate_left
            focus (intro w9 hS9; go_simp; try with_reducible rfl)
            try simp only [Act.put, List.setIfInBounds_toArray, List.set_cons_zero, List.set_cons_succ]
            refine takeH_now (i := 36) (some 101) (v := ?_) rfl (by kernel_rfl) (by kernel_rfl) (by kernel_rfl) (fun _ _ _ h => h) (Or.inl ⟨by rfl, ?_⟩) rfl (by assumption) ?_
            rotate_left
            focus (intro w9 hS9; go_simp; try with_reducible rfl)
            try simp only [Act.put, List.setIfInBounds_toArray, List.set_cons_zero, List.set_cons_succ]
            refine takeH_now (i := 37) (some 102) (v := ?_) rfl (by kernel_rfl) (by kernel_rfl) (by kernel_rfl) (fun _ _ _ h => h) (Or.inl ⟨by rfl, ?_⟩) rfl (by assumption) ?_
            rotate_left
            focus (intro w9 hS9; go_simp; try with_reducible rfl)
            try simp only [Act.put, List.setIfInBounds_toArray, List.set_cons_zero, List.set_cons_succ]
            refine takeH_now (i := 38) (some 103) (v := undef) rfl (by kernel_rfl) (by kernel_rfl) (by kernel_rfl) (fun _ _ _ h => h) (Or.inr ⟨by rfl, rfl⟩) rfl (by assumption) ?_
            try simp only [Act.put, List.setIfInBounds_toArray, List.set_cons_zero, List.set_cons_succ]
            refine takeH_now (i := 39) (some 104) (v := undef) rfl (by kernel_rfl) (by kernel_rfl) (by kernel_rfl) (fun _ _ _ h => h) (Or.inr ⟨by rfl, rfl⟩) rfl (by assumption) ?_
            try simp only [Act.put, List.setIfInBounds_toArray, List.set_cons_zero, List.set_cons_succ]
            refine takeH_now (i := 40) (some 105) (v := undef) rfl (by kernel_rfl) (by kernel_rfl) (by kernel_rfl) (fun _ _ _ h => h) (Or.inr ⟨by rfl, rfl⟩) rfl (by assumption) ?_
            try simp only [Act.put, List.setIfInBounds_toArray, List.set_cons_zero, List.set_cons_succ]
            refine takeH_now (i := 41) (some 106) (v := undef) rfl (by kernel_rfl) (by kernel_rfl) (by kernel_rfl) (fun _ _ _ h => h) (Or.inr ⟨by rfl, rfl⟩) rfl (by assumption) ?_
            try simp only [Act.put, List.setIfInBounds_toArray, List.set_cons_zero, List.set_cons_succ]
            refine takeH_now (i := 42) (some 107) (v := ?_) rfl (by kernel_rfl) (by kernel_rfl) (by kernel_rfl) (fun _ _ _ h => h) (Or.inl ⟨by rfl, ?_⟩) rfl (by assumption) ?_
            rotate_left
            focus (intro w9 hS9; go_simp; try with_reducible rfl)
            try simp only [Act.put, List.setIfInBounds_toArray, List.set_cons_zero, List.set_cons_succ]
            refine takeH_now (i := 43) (some 108) (v := ?_) rfl (by kernel_rfl) (by kernel_rfl) (by kernel_rfl) (fun _ _ _ h => h) (Or.inl ⟨by rfl, ?_⟩) rfl (by assumption) ?_
            rotate_left
            focus (intro w9 hS9; go_simp; try with_reducible rfl)
            try simp only [Act.put, List.setIfInBounds_toArray, List.set_cons_zero, List.set_cons_succ]
            refine takeH_now (i := 44) (some 4) (v := ?_) rfl (by kernel_rfl) (by kernel_rfl) (by kernel_rfl) (fun _ _ _ h => h) (Or.inl ⟨by rfl, ?_⟩) rfl (by assumption) ?_
            rotate_left
            focus (intro w9 hS9; go_simp; try with_reducible rfl)
            try simp only [Act.put, List.setIfInBounds_toArray, List.set_cons_zero, List.set_cons_succ]
            refine wpAnyH_done (by kernel_rfl) ?_ _
            have hend := HFin.out _ hHeld
            clear hHeld
            go_wp2_with fail
            go_ret
            exact ⟨by simp, hend⟩
        | false =>
          have HN := hN0 rfl
          clear hN0 Hor
          cases ra with
          | true =>
            go_wp2_with fail
            refine wp_region_held_drew (S := fun W => Below y42.heap.size y42 W) (by kernel_rfl) hstart (fun hHeld => ?_)
            clear hstart
            refine takeH_now (i := 0) (some 65) (v := ?_) rfl (by kernel_rfl) (by kernel_rfl) (by kernel_rfl) (fun _ _ _ h => h) (Or.inl ⟨by rfl, ?_⟩) rfl (by assumption) ?_
            rotate_left
            focus (intro w9 hS9; obtain ⟨aC, aL, aK, xC, xL, xK⟩ := HCell.out w9 hS9; clear hS9; go_simp; try with_reducible rfl)
            try simp only [Act.put, List.setIfInBounds_toArray, List.set_cons_zero, List.set_cons_succ]
            refine wpAnyH_ready (rs := [1]) (by kernel_rfl) (by simp) ?_
            refine AllReadyH.cons (o := { dst := some 66, op := Op.call { callee := Callee.value (Operand.func 17), args := #[Operand.tmp 65, Operand.const (Value.int IntKind.i64 65536)], argTypes := #[24, 3] }, type := 29, pos := "law.go:248", after := #[{ on := 0, ground := Ground.data }], guard := none }) rfl (fun K' hK' => ?_) AllReadyH.nil
            rw [if_pos (by kernel_rfl)]
            go_simp
            refine (HCk.out _ hHeld).mono ?_
            rintro e wa ⟨rfl, hba⟩
            have hHa := HK.out _ _ hHeld hba
            clear hHeld hba
            refine hK'.out _ _ hHa (fun hHeld => ?_)
            clear hK' hHa
            try simp only [Act.put, List.setIfInBounds_toArray, List.set_cons_zero, List.set_cons_succ]
            refine takeH_now (i := 2) (some 67) (v := ?_) rfl (by kernel_rfl) (by kernel_rfl) (by kernel_rfl) (fun _ _ _ h => h) (Or.inl ⟨by rfl, ?_⟩) rfl (by assumption) ?_
            rotate_left
            focus (intro w9 hS9; go_simp; try with_reducible rfl)
            try simp only [Act.put, List.setIfInBounds_toArray, List.set_cons_zero, List.set_cons_succ]
            refine takeH_now (i := 3) (some 68) (v := ?_) rfl (by kernel_rfl) (by kernel_rfl) (by kernel_rfl) (fun _ _ _ h => h) (Or.inl ⟨by rfl, ?_⟩) rfl (by assumption) ?_
            rotate_left
            focus (intro w9 hS9; go_simp; try with_reducible rfl)
            try simp only [Act.put, List.setIfInBounds_toArray, List.set_cons_zero, List.set_cons_succ]
            refine takeH_now (i := 4) (some 69) (v := ?_) rfl (by kernel_rfl) (by kernel_rfl) (by kernel_rfl) (fun _ _ _ h => h) (Or.inl ⟨by rfl, ?_⟩) rfl (by assumption) ?_
            rotate_left
            focus (intro w9 hS9; obtain ⟨aC, aL, aK, xC, xL, xK⟩ := HCell.out w9 hS9; clear hS9; go_simp; try with_reducible rfl)
            try simp only [Act.put, List.setIfInBounds_toArray, List.set_cons_zero, List.set_cons_succ]
            refine takeH_now (i := 5) (some 70) (v := ?_) rfl (by kernel_rfl) (by kernel_rfl) (by kernel_rfl) (fun _ _ _ h => h) (Or.inl ⟨by rfl, ?_⟩) rfl (by assumption) ?_
            rotate_left
            focus (intro w9 hS9; go_simp; try with_reducible rfl)
            try simp only [Act.put, List.setIfInBounds_toArray, List.set_cons_zero, List.set_cons_succ]
            refine takeH_now (i := 7) (some 72) (v := ?_) rfl (by kernel_rfl) (by kernel_rfl) (by kernel_rfl) (fun _ _ _ h => h) (Or.inl ⟨by rfl, ?_⟩) rfl (by assumption) ?_
            rotate_left
            focus (intro w9 hS9; obtain ⟨aC, aL, aK, xC, xL, xK⟩ := HCell.out w9 hS9; clear hS9; go_simp; try with_reducible rfl)
            try simp only [Act.put, List.setIfInBounds_toArray, List.set_cons_zero, List.set_cons_succ]
            refine takeH_now (i := 8) (some 73) (v := ?_) rfl (by kernel_rfl) (by kernel_rfl) (by kernel_rfl) (fun _ _ _ h => h) (Or.inl ⟨by rfl, ?_⟩) rfl (by assumption) ?_
            rotate_left
            focus (intro w9 hS9; go_simp; try with_reducible rfl)
            try simp only [Act.put, List.setIfInBounds_toArray, List.set_cons_zero, List.set_cons_succ]
            refine wpAnyH_ready (rs := [6]) (by kernel_rfl) (by simp) ?_
            refine AllReadyH.cons (o := { dst := some 71, op := Op.call { callee := Callee.value (Operand.func 23), args := #[Operand.tmp 69, Operand.tmp 70], argTypes := #[24, 32] }, type := 4, pos := "law.go:248", after := #[{ on := 4, ground := Ground.data }, { on := 5, ground := Ground.data }, { on := 3, ground := Ground.chain }, { on := 3, ground := Ground.guard }], guard := some (3, true) }) rfl (fun K' hK' => ?_) AllReadyH.nil
            rw [if_pos (by kernel_rfl)]
            go_simp
            refine (HVx.out _ hHeld).mono ?_
            rintro e wa ⟨rfl, hba⟩
            have hHa := HK.out _ _ hHeld hba
            clear hHeld hba
            refine hK'.out _ _ hHa (fun hHeld => ?_)
            clear hK' hHa
            try simp only [Act.put, List.setIfInBounds_toArray, List.set_cons_zero, List.set_cons_succ]
            refine wpAnyH_ready (rs := [9]) (by kernel_rfl) (by simp) ?_
            refine AllReadyH.cons (o := { dst := some 74, op := Op.call { callee := Callee.value (Operand.func 23), args := #[Operand.tmp 72, Operand.tmp 73], argTypes := #[24, 32] }, type := 4, pos := "law.go:248", after := #[{ on := 7, ground := Ground.data }, { on := 8, ground := Ground.data }, { on := 6, ground := Ground.chain }, { on := 3, ground := Ground.guard }], guard := some (3, true) }) rfl (fun K' hK' => ?_) AllReadyH.nil
            rw [if_pos (by kernel_rfl)]
            go_simp
            refine (HVl.out _ hHeld).mono ?_
            rintro e wa ⟨rfl, hba⟩
            have hHa := HK.out _ _ hHeld hba
            clear hHeld hba
            refine hK'.out _ _ hHa (fun hHeld => ?_)
            clear hK' hHa
            try simp only [Act.put, List.setIfInBounds_toArray, List.set_cons_zero, List.set_cons_succ]
            refine takeH_now (i := 10) (some 75) (v := ?_) rfl (by kernel_rfl) (by kernel_rfl) (by kernel_rfl) (fun _ _ _ h => h) (Or.inl ⟨by rfl, ?_⟩) rfl (by assumption) ?_
            rotate_left
            focus (intro w9 hS9; go_simp; try with_reducible rfl)
            try simp only [Act.put, List.setIfInBounds_toArray, List.set_cons_zero, List.set_cons_succ]
            refine takeH_now (i := 11) (some 76) (v := ?_) rfl (by kernel_rfl) (by kernel_rfl) (by kernel_rfl) (fun _ _ _ h => h) (Or.inl ⟨by rfl, ?_⟩) rfl (by assumption) ?_
            rotate_left
            focus (intro w9 hS9; go_simp; try with_reducible rfl)
            try simp only [Act.put, List.setIfInBounds_toArray, List.set_cons_zero, List.set_cons_succ]
            refine takeH_now (i := 12) (some 77) (v := ?_) rfl (by kernel_rfl) (by kernel_rfl) (by kernel_rfl) (fun _ _ _ h => h) (Or.inl ⟨by rfl, ?_⟩) rfl (by assumption) ?_
            rotate_left
            focus (intro w9 hS9; go_simp; try with_reducible rfl)
            try simp only [Act.put, List.setIfInBounds_toArray, List.set_cons_zero, List.set_cons_succ]
            refine takeH_now (i := 13) (some 78) (v := ?_) rfl (by kernel_rfl) (by kernel_rfl) (by kernel_rfl) (fun _ _ _ h => h) (Or.inl ⟨by rfl, ?_⟩) rfl (by assumption) ?_
            rotate_left
            focus (intro w9 hS9; go_simp; try with_reducible rfl)
            try simp only [Act.put, List.setIfInBounds_toArray, List.set_cons_zero, List.set_cons_succ]
            refine takeH_now (i := 14) (some 79) (v := ?_) rfl (by kernel_rfl) (by kernel_rfl) (by kernel_rfl) (fun _ _ _ h => h) (Or.inl ⟨by rfl, ?_⟩) rfl (by assumption) ?_
            rotate_left
            focus (intro w9 hS9; go_simp; try with_reducible rfl)
            try simp only [Act.put, List.setIfInBounds_toArray, List.set_cons_zero, List.set_cons_succ]
            refine takeH_now (i := 15) (some 80) (v := undef) rfl (by kernel_rfl) (by kernel_rfl) (by kernel_rfl) (fun _ _ _ h => h) (Or.inr ⟨by rfl, rfl⟩) rfl (by assumption) ?_
            try simp only [Act.put, List.setIfInBounds_toArray, List.set_cons_zero, List.set_cons_succ]
            refine takeH_now (i := 16) (some 81) (v := ?_) rfl (by kernel_rfl) (by kernel_rfl) (by kernel_rfl) (fun _ _ _ h => h) (Or.inl ⟨by rfl, ?_⟩) rfl (by assumption) ?_
            rotate_left
            focus (intro w9 hS9; go_simp; try with_reducible rfl)
            try simp only [Act.put, List.setIfInBounds_toArray, List.set_cons_zero, List.set_cons_succ]
            refine takeH_now (i := 17) (some 82) (v := ?_) rfl (by kernel_rfl) (by kernel_rfl) (by kernel_rfl) (fun _ _ _ h => h) (Or.inl ⟨by rfl, ?_⟩) rfl (by assumption) ?_
            rotate_left
            focus (intro w9 hS9; go_simp; try with_reducible rfl)
            try simp only [Act.put, List.setIfInBounds_toArray, List.set_cons_zero, List.set_cons_succ]
            refine takeH_now (i := 18) (some 83) (v := ?_) rfl (by kernel_rfl) (by kernel_rfl) (by kernel_rfl) (fun _ _ _ h => h) (Or.inl ⟨by rfl, ?_⟩) rfl (by assumption) ?_
            rotate_left
            focus (intro w9 hS9; go_simp; try with_reducible rfl)
            try simp only [Act.put, List.setIfInBounds_toArray, List.set_cons_zero, List.set_cons_succ]
            refine takeH_now (i := 19) (some 84) (v := ?_) rfl (by kernel_rfl) (by kernel_rfl) (by kernel_rfl) (fun _ _ _ h => h) (Or.inl ⟨by rfl, ?_⟩) rfl (by assumption) ?_
            rotate_left
            focus (intro w9 hS9; go_simp; try with_reducible rfl)
            try simp only [Act.put, List.setIfInBounds_toArray, List.set_cons_zero, List.set_cons_succ]
            refine takeH_now (i := 20) (some 85) (v := ?_) rfl (by kernel_rfl) (by kernel_rfl) (by kernel_rfl) (fun _ _ _ h => h) (Or.inl ⟨by rfl, ?_⟩) rfl (by assumption) ?_
            rotate_left
            focus (intro w9 hS9; go_simp; try with_reducible rfl)
            try simp only [Act.put, List.setIfInBounds_toArray, List.set_cons_zero, List.set_cons_succ]
            refine takeH_now (i := 21) (some 86) (v := undef) rfl (by kernel_rfl) (by kernel_rfl) (by kernel_rfl) (fun _ _ _ h => h) (Or.inr ⟨by rfl, rfl⟩) rfl (by assumption) ?_
            try simp only [Act.put, List.setIfInBounds_toArray, List.set_cons_zero, List.set_cons_succ]
            refine takeH_now (i := 22) (some 87) (v := undef) rfl (by kernel_rfl) (by kernel_rfl) (by kernel_rfl) (fun _ _ _ h => h) (Or.inr ⟨by rfl, rfl⟩) rfl (by assumption) ?_
            try simp only [Act.put, List.setIfInBounds_toArray, List.set_cons_zero, List.set_cons_succ]
            refine takeH_now (i := 23) (some 88) (v := undef) rfl (by kernel_rfl) (by kernel_rfl) (by kernel_rfl) (fun _ _ _ h => h) (Or.inr ⟨by rfl, rfl⟩) rfl (by assumption) ?_
            try simp only [Act.put, List.setIfInBounds_toArray, List.set_cons_zero, List.set_cons_succ]
            refine takeH_now (i := 24) (some 89) (v := ?_) rfl (by kernel_rfl) (by kernel_rfl) (by kernel_rfl) (fun _ _ _ h => h) (Or.inl ⟨by rfl, ?_⟩) rfl (by assumption) ?_
            rotate_left
            focus (intro w9 hS9; go_simp; try with_reducible rfl)
            try simp only [Act.put, List.setIfInBounds_toArray, List.set_cons_zero, List.set_cons_succ]
            refine takeH_now (i := 25) (some 90) (v := ?_) rfl (by kernel_rfl) (by kernel_rfl) (by kernel_rfl) (fun _ _ _ h => h) (Or.inl ⟨by rfl, ?_⟩) rfl (by assumption) ?_
            rotate_left
            focus (intro w9 hS9; go_simp; try with_reducible rfl)
            try simp only [Act.put, List.setIfInBounds_toArray, List.set_cons_zero, List.set_cons_succ]
            refine takeH_now (i := 26) (some 91) (v := ?_) rfl (by kernel_rfl) (by kernel_rfl) (by kernel_rfl) (fun _ _ _ h => h) (Or.inl ⟨by rfl, ?_⟩) rfl (by assumption) ?_
            rotate_left
            focus (intro w9 hS9; go_simp; try with_reducible rfl)
            try simp only [Act.put, List.setIfInBounds_toArray, List.set_cons_zero, List.set_cons_succ]
            refine takeH_now (i := 27) (some 92) (v := ?_) rfl (by kernel_rfl) (by kernel_rfl) (by kernel_rfl) (fun _ _ _ h => h) (Or.inl ⟨by rfl, ?_⟩) rfl (by assumption) ?_
            rotate_left
            focus (intro w9 hS9; go_simp; try with_reducible rfl)
            try simp only [Act.put, List.setIfInBounds_toArray, List.set_cons_zero, List.set_cons_succ]
            refine takeH_now (i := 28) (some 93) (v := ?_) rfl (by kernel_rfl) (by kernel_rfl) (by kernel_rfl) (fun _ _ _ h => h) (Or.inl ⟨by rfl, ?_⟩) rfl (by assumption) ?_
            rotate_left
            focus (intro w9 hS9; go_simp; try with_reducible rfl)
            try simp only [Act.put, List.setIfInBounds_toArray, List.set_cons_zero, List.set_cons_succ]
            refine takeH_now (i := 29) (some 94) (v := ?_) rfl (by kernel_rfl) (by kernel_rfl) (by kernel_rfl) (fun _ _ _ h => h) (Or.inl ⟨by rfl, ?_⟩) rfl (by assumption) ?_
            rotate_left
            focus (intro w9 hS9; obtain ⟨aC, aL, aK, xC, xL, xK⟩ := HCell.out w9 hS9; clear hS9; go_simp; try with_reducible rfl)
            try simp only [Act.put, List.setIfInBounds_toArray, List.set_cons_zero, List.set_cons_succ]
            refine takeH_now (i := 31) (some 96) (v := ?_) rfl (by kernel_rfl) (by kernel_rfl) (by kernel_rfl) (fun _ _ _ h => h) (Or.inl ⟨by rfl, ?_⟩) rfl (by assumption) ?_
            rotate_left
            focus (intro w9 hS9; go_simp; try with_reducible rfl)
            try simp only [Act.put, List.setIfInBounds_toArray, List.set_cons_zero, List.set_cons_succ]
            refine wpAnyH_ready (rs := [30]) (by kernel_rfl) (by simp) ?_
            refine AllReadyH.cons (o := { dst := some 95, op := Op.call { callee := Callee.value (Operand.func 15), args := #[Operand.tmp 94], argTypes := #[24] }, type := 24, pos := "law.go:248", after := #[{ on := 29, ground := Ground.data }, { on := 28, ground := Ground.chain }, { on := 28, ground := Ground.guard }], guard := some (28, false) }) rfl (fun K' hK' => ?_) AllReadyH.nil
            rw [if_pos (by kernel_rfl)]
            go_simp
            refine (HN.out _ hHeld).mono ?_
            rintro e wb ⟨B1, e1, B2, e2, rfl, hba⟩
            have hHa := HK.out _ _ hHeld hba
            clear hHeld hba
            refine hK'.out _ _ hHa (fun hHeld => ?_)
            clear hK' hHa
            try simp only [Act.put, List.setIfInBounds_toArray, List.set_cons_zero, List.set_cons_succ]
            refine wpAnyH_ready (rs := [32]) (by kernel_rfl) (by simp) ?_
            refine AllReadyH.cons (o := { dst := some 97, op := Op.call { callee := Callee.value (Operand.func 19), args := #[Operand.tmp 95, Operand.tmp 96], argTypes := #[24, 24] }, type := 4, pos := "law.go:248", after := #[{ on := 30, ground := Ground.data }, { on := 31, ground := Ground.data }, { on := 30, ground := Ground.chain }, { on := 28, ground := Ground.guard }], guard := some (28, false) }) rfl (fun K' hK' => ?_) AllReadyH.nil
            rw [if_pos (by kernel_rfl)]
            go_simp
            refine (HSa.out _ _ _ _ _ _).mono ?_
            rintro e wa ⟨rfl, hba⟩
            have hHa := HK.out _ _ hHeld hba
            clear hHeld hba
            refine hK'.out _ _ hHa (fun hHeld => ?_)
            clear hK' hHa
            try simp only [Act.put, List.setIfInBounds_toArray, List.set_cons_zero, List.set_cons_succ]
            refine takeH_now (i := 33) (some 98) (v := ?_) rfl (by kernel_rfl) (by kernel_rfl) (by kernel_rfl) (fun _ _ _ h => h) (Or.inl ⟨by rfl, ?_⟩) rfl (by assumption) ?_
            rotate_left
            focus (intro w9 hS9; go_simp; try with_reducible rfl)
            try simp only [Act.put, List.setIfInBounds_toArray, List.set_cons_zero, List.set_cons_succ]
            refine takeH_now (i := 34) (some 99) (v := ?_) rfl (by kernel_rfl) (by kernel_rfl) (by kernel_rfl) (fun _ _ _ h => h) (Or.inl ⟨by rfl, ?_⟩) rfl (by assumption) ?_
            rotate_left
            focus (intro w9 hS9; go_simp; try with_reducible rfl)
            try simp only [Act.put, List.setIfInBounds_toArray, List.set_cons_zero, List.set_cons_succ]
            refine takeH_now (i := 35) (some 100) (v := ?_) rfl (by kernel_rfl) (by kernel_rfl) (by kernel_rfl) (fun _ _ _ h => h) (Or.inl ⟨by rfl, ?_⟩) rfl (by assumption) ?_
            rotate_left
            focus (intro w9 hS9; go_simp; try with_reducible rfl)
            try simp only [Act.put, List.setIfInBounds_toArray, List.set_cons_zero, List.set_cons_succ]
            refine takeH_now (i := 36) (some 101) (v := ?_) rfl (by kernel_rfl) (by kernel_rfl) (by kernel_rfl) (fun _ _ _ h => h) (Or.inl ⟨by rfl, ?_⟩) rfl (by assumption) ?_
            rotate_left
            focus (intro w9 hS9; go_simp; try with_reducible rfl)
            try simp only [Act.put, List.setIfInBounds_toArray, List.set_cons_zero, List.set_cons_succ]
            refine takeH_now (i := 37) (some 102) (v := ?_) rfl (by kernel_rfl) (by kernel_rfl) (by kernel_rfl) (fun _ _ _ h => h) (Or.inl ⟨by rfl, ?_⟩) rfl (by assumption) ?_
            rotate_left
            focus (intro w9 hS9; go_simp; try with_reducible rfl)
            try simp only [Act.put, List.setIfInBounds_toArray, List.set_cons_zero, List.set_cons_succ]
            refine takeH_now (i := 38) (some 103) (v := undef) rfl (by kernel_rfl) (by kernel_rfl) (by kernel_rfl) (fun _ _ _ h => h) (Or.inr ⟨by rfl, rfl⟩) rfl (by assumption) ?_
            try simp only [Act.put, List.setIfInBounds_toArray, List.set_cons_zero, List.set_cons_succ]
            refine takeH_now (i := 39) (some 104) (v := undef) rfl (by kernel_rfl) (by kernel_rfl) (by kernel_rfl) (fun _ _ _ h => h) (Or.inr ⟨by rfl, rfl⟩) rfl (by assumption) ?_
            try simp only [Act.put, List.setIfInBounds_toArray, List.set_cons_zero, List.set_cons_succ]
            refine takeH_now (i := 40) (some 105) (v := undef) rfl (by kernel_rfl) (by kernel_rfl) (by kernel_rfl) (fun _ _ _ h => h) (Or.inr ⟨by rfl, rfl⟩) rfl (by assumption) ?_
            try simp only [Act.put, List.setIfInBounds_toArray, List.set_cons_zero, List.set_cons_succ]
            refine takeH_now (i := 41) (some 106) (v := undef) rfl (by kernel_rfl) (by kernel_rfl) (by kernel_rfl) (fun _ _ _ h => h) (Or.inr ⟨by rfl, rfl⟩) rfl (by assumption) ?_
            try simp only [Act.put, List.setIfInBounds_toArray, List.set_cons_zero, List.set_cons_succ]
            refine takeH_now (i := 42) (some 107) (v := ?_) rfl (by kernel_rfl) (by kernel_rfl) (by kernel_rfl) (fun _ _ _ h => h) (Or.inl ⟨by rfl, ?_⟩) rfl (by assumption) ?_
            rotate_left
            focus (intro w9 hS9; go_simp; try with_reducible rfl)
            try simp only [Act.put, List.setIfInBounds_toArray, List.set_cons_zero, List.set_cons_succ]
            refine takeH_now (i := 43) (some 108) (v := ?_) rfl (by kernel_rfl) (by kernel_rfl) (by kernel_rfl) (fun _ _ _ h => h) (Or.inl ⟨by rfl, ?_⟩) rfl (by assumption) ?_
            rotate_left
            focus (intro w9 hS9; go_simp; try with_reducible rfl)
            try simp only [Act.put, List.setIfInBounds_toArray, List.set_cons_zero, List.set_cons_succ]
            refine takeH_now (i := 44) (some 4) (v := ?_) rfl (by kernel_rfl) (by kernel_rfl) (by kernel_rfl) (fun _ _ _ h => h) (Or.inl ⟨by rfl, ?_⟩) rfl (by assumption) ?_
            rotate_left
            focus (intro w9 hS9; go_simp; try with_reducible rfl)
            try simp only [Act.put, List.setIfInBounds_toArray, List.set_cons_zero, List.set_cons_succ]
            refine wpAnyH_done (by kernel_rfl) ?_ _
            have hend := HFin.out _ hHeld
            clear hHeld
            go_wp2_with fail
            go_ret
            exact ⟨by simp, hend⟩
          | false =>
            go_wp2_with fail
            refine wp_region_held_drew (S := fun W => Below y42.heap.size y42 W) (by kernel_rfl) hstart (fun hHeld => ?_)
            clear hstart
            refine takeH_now (i := 0) (some 65) (v := ?_) rfl (by kernel_rfl) (by kernel_rfl) (by kernel_rfl) (fun _ _ _ h => h) (Or.inl ⟨by rfl, ?_⟩) rfl (by assumption) ?_
            rotate_left
            focus (intro w9 hS9; obtain ⟨aC, aL, aK, xC, xL, xK⟩ := HCell.out w9 hS9; clear hS9; go_simp; try with_reducible rfl)
            try simp only [Act.put, List.setIfInBounds_toArray, List.set_cons_zero, List.set_cons_succ]
            refine wpAnyH_ready (rs := [1]) (by kernel_rfl) (by simp) ?_
            refine AllReadyH.cons (o := { dst := some 66, op := Op.call { callee := Callee.value (Operand.func 17), args := #[Operand.tmp 65, Operand.const (Value.int IntKind.i64 65536)], argTypes := #[24, 3] }, type := 29, pos := "law.go:248", after := #[{ on := 0, ground := Ground.data }], guard := none }) rfl (fun K' hK' => ?_) AllReadyH.nil
            rw [if_pos (by kernel_rfl)]
            go_simp
            refine (HCk.out _ hHeld).mono ?_
            rintro e wa ⟨rfl, hba⟩
            have hHa := HK.out _ _ hHeld hba
            clear hHeld hba
            refine hK'.out _ _ hHa (fun hHeld => ?_)
            clear hK' hHa
            try simp only [Act.put, List.setIfInBounds_toArray, List.set_cons_zero, List.set_cons_succ]
            refine takeH_now (i := 2) (some 67) (v := ?_) rfl (by kernel_rfl) (by kernel_rfl) (by kernel_rfl) (fun _ _ _ h => h) (Or.inl ⟨by rfl, ?_⟩) rfl (by assumption) ?_
            rotate_left
            focus (intro w9 hS9; go_simp; try with_reducible rfl)
            try simp only [Act.put, List.setIfInBounds_toArray, List.set_cons_zero, List.set_cons_succ]
            refine takeH_now (i := 3) (some 68) (v := ?_) rfl (by kernel_rfl) (by kernel_rfl) (by kernel_rfl) (fun _ _ _ h => h) (Or.inl ⟨by rfl, ?_⟩) rfl (by assumption) ?_
            rotate_left
            focus (intro w9 hS9; go_simp; try with_reducible rfl)
            try simp only [Act.put, List.setIfInBounds_toArray, List.set_cons_zero, List.set_cons_succ]
            refine takeH_now (i := 4) (some 69) (v := ?_) rfl (by kernel_rfl) (by kernel_rfl) (by kernel_rfl) (fun _ _ _ h => h) (Or.inl ⟨by rfl, ?_⟩) rfl (by assumption) ?_
            rotate_left
            focus (intro w9 hS9; obtain ⟨aC, aL, aK, xC, xL, xK⟩ := HCell.out w9 hS9; clear hS9; go_simp; try with_reducible rfl)
            try simp only [Act.put, List.setIfInBounds_toArray, List.set_cons_zero, List.set_cons_succ]
            refine takeH_now (i := 5) (some 70) (v := ?_) rfl (by kernel_rfl) (by kernel_rfl) (by kernel_rfl) (fun _ _ _ h => h) (Or.inl ⟨by rfl, ?_⟩) rfl (by assumption) ?_
            rotate_left
            focus (intro w9 hS9; go_simp; try with_reducible rfl)
            try simp only [Act.put, List.setIfInBounds_toArray, List.set_cons_zero, List.set_cons_succ]
            refine takeH_now (i := 7) (some 72) (v := ?_) rfl (by kernel_rfl) (by kernel_rfl) (by kernel_rfl) (fun _ _ _ h => h) (Or.inl ⟨by rfl, ?_⟩) rfl (by assumption) ?_
            rotate_left
            focus (intro w9 hS9; obtain ⟨aC, aL, aK, xC, xL, xK⟩ := HCell.out w9 hS9; clear hS9; go_simp; try with_reducible rfl)
            try simp only [Act.put, List.setIfInBounds_toArray, List.set_cons_zero, List.set_cons_succ]
            refine takeH_now (i := 8) (some 73) (v := ?_) rfl (by kernel_rfl) (by kernel_rfl) (by kernel_rfl) (fun _ _ _ h => h) (Or.inl ⟨by rfl, ?_⟩) rfl (by assumption) ?_
            rotate_left
            focus (intro w9 hS9; go_simp; try with_reducible rfl)
            try simp only [Act.put, List.setIfInBounds_toArray, List.set_cons_zero, List.set_cons_succ]
            refine wpAnyH_ready (rs := [6]) (by kernel_rfl) (by simp) ?_
            refine AllReadyH.cons (o := { dst := some 71, op := Op.call { callee := Callee.value (Operand.func 23), args := #[Operand.tmp 69, Operand.tmp 70], argTypes := #[24, 32] }, type := 4, pos := "law.go:248", after := #[{ on := 4, ground := Ground.data }, { on := 5, ground := Ground.data }, { on := 3, ground := Ground.chain }, { on := 3, ground := Ground.guard }], guard := some (3, true) }) rfl (fun K' hK' => ?_) AllReadyH.nil
            rw [if_pos (by kernel_rfl)]
            go_simp
            refine (HVx.out _ hHeld).mono ?_
            rintro e wa ⟨rfl, hba⟩
            have hHa := HK.out _ _ hHeld hba
            clear hHeld hba
            refine hK'.out _ _ hHa (fun hHeld => ?_)
            clear hK' hHa
            try simp only [Act.put, List.setIfInBounds_toArray, List.set_cons_zero, List.set_cons_succ]
            refine wpAnyH_ready (rs := [9]) (by kernel_rfl) (by simp) ?_
            refine AllReadyH.cons (o := { dst := some 74, op := Op.call { callee := Callee.value (Operand.func 23), args := #[Operand.tmp 72, Operand.tmp 73], argTypes := #[24, 32] }, type := 4, pos := "law.go:248", after := #[{ on := 7, ground := Ground.data }, { on := 8, ground := Ground.data }, { on := 6, ground := Ground.chain }, { on := 3, ground := Ground.guard }], guard := some (3, true) }) rfl (fun K' hK' => ?_) AllReadyH.nil
            rw [if_pos (by kernel_rfl)]
            go_simp
            refine (HVl.out _ hHeld).mono ?_
            rintro e wa ⟨rfl, hba⟩
            have hHa := HK.out _ _ hHeld hba
            clear hHeld hba
            refine hK'.out _ _ hHa (fun hHeld => ?_)
            clear hK' hHa
            try simp only [Act.put, List.setIfInBounds_toArray, List.set_cons_zero, List.set_cons_succ]
            refine takeH_now (i := 10) (some 75) (v := ?_) rfl (by kernel_rfl) (by kernel_rfl) (by kernel_rfl) (fun _ _ _ h => h) (Or.inl ⟨by rfl, ?_⟩) rfl (by assumption) ?_
            rotate_left
            focus (intro w9 hS9; go_simp; try with_reducible rfl)
            try simp only [Act.put, List.setIfInBounds_toArray, List.set_cons_zero, List.set_cons_succ]
            refine takeH_now (i := 11) (some 76) (v := ?_) rfl (by kernel_rfl) (by kernel_rfl) (by kernel_rfl) (fun _ _ _ h => h) (Or.inl ⟨by rfl, ?_⟩) rfl (by assumption) ?_
            rotate_left
            focus (intro w9 hS9; go_simp; try with_reducible rfl)
            try simp only [Act.put, List.setIfInBounds_toArray, List.set_cons_zero, List.set_cons_succ]
            refine takeH_now (i := 12) (some 77) (v := ?_) rfl (by kernel_rfl) (by kernel_rfl) (by kernel_rfl) (fun _ _ _ h => h) (Or.inl ⟨by rfl, ?_⟩) rfl (by assumption) ?_
            rotate_left
            focus (intro w9 hS9; go_simp; try with_reducible rfl)
            try simp only [Act.put, List.setIfInBounds_toArray, List.set_cons_zero, List.set_cons_succ]
            refine takeH_now (i := 13) (some 78) (v := ?_) rfl (by kernel_rfl) (by kernel_rfl) (by kernel_rfl) (fun _ _ _ h => h) (Or.inl ⟨by rfl, ?_⟩) rfl (by assumption) ?_
            rotate_left
            focus (intro w9 hS9; go_simp; try with_reducible rfl)
            try simp only [Act.put, List.setIfInBounds_toArray, List.set_cons_zero, List.set_cons_succ]
            refine takeH_now (i := 14) (some 79) (v := ?_) rfl (by kernel_rfl) (by kernel_rfl) (by kernel_rfl) (fun _ _ _ h => h) (Or.inl ⟨by rfl, ?_⟩) rfl (by assumption) ?_
            rotate_left
            focus (intro w9 hS9; go_simp; try with_reducible rfl)
            try simp only [Act.put, List.setIfInBounds_toArray, List.set_cons_zero, List.set_cons_succ]
            refine takeH_now (i := 15) (some 80) (v := undef) rfl (by kernel_rfl) (by kernel_rfl) (by kernel_rfl) (fun _ _ _ h => h) (Or.inr ⟨by rfl, rfl⟩) rfl (by assumption) ?_
            try simp only [Act.put, List.setIfInBounds_toArray, List.set_cons_zero, List.set_cons_succ]
            refine takeH_now (i := 16) (some 81) (v := ?_) rfl (by kernel_rfl) (by kernel_rfl) (by kernel_rfl) (fun _ _ _ h => h) (Or.inl ⟨by rfl, ?_⟩) rfl (by assumption) ?_
            rotate_left
            focus (intro w9 hS9; go_simp; try with_reducible rfl)
            try simp only [Act.put, List.setIfInBounds_toArray, List.set_cons_zero, List.set_cons_succ]
            refine takeH_now (i := 17) (some 82) (v := ?_) rfl (by kernel_rfl) (by kernel_rfl) (by kernel_rfl) (fun _ _ _ h => h) (Or.inl ⟨by rfl, ?_⟩) rfl (by assumption) ?_
            rotate_left
            focus (intro w9 hS9; go_simp; try with_reducible rfl)
            try simp only [Act.put, List.setIfInBounds_toArray, List.set_cons_zero, List.set_cons_succ]
            refine takeH_now (i := 18) (some 83) (v := ?_) rfl (by kernel_rfl) (by kernel_rfl) (by kernel_rfl) (fun _ _ _ h => h) (Or.inl ⟨by rfl, ?_⟩) rfl (by assumption) ?_
            rotate_left
            focus (intro w9 hS9; go_simp; try with_reducible rfl)
            try simp only [Act.put, List.setIfInBounds_toArray, List.set_cons_zero, List.set_cons_succ]
            refine takeH_now (i := 19) (some 84) (v := ?_) rfl (by kernel_rfl) (by kernel_rfl) (by kernel_rfl) (fun _ _ _ h => h) (Or.inl ⟨by rfl, ?_⟩) rfl (by assumption) ?_
            rotate_left
            focus (intro w9 hS9; go_simp; try with_reducible rfl)
            try simp only [Act.put, List.setIfInBounds_toArray, List.set_cons_zero, List.set_cons_succ]
            refine takeH_now (i := 20) (some 85) (v := ?_) rfl (by kernel_rfl) (by kernel_rfl) (by kernel_rfl) (fun _ _ _ h => h) (Or.inl ⟨by rfl, ?_⟩) rfl (by assumption) ?_
            rotate_left
            focus (intro w9 hS9; go_simp; try with_reducible rfl)
            try simp only [Act.put, List.setIfInBounds_toArray, List.set_cons_zero, List.set_cons_succ]
            refine takeH_now (i := 21) (some 86) (v := undef) rfl (by kernel_rfl) (by kernel_rfl) (by kernel_rfl) (fun _ _ _ h => h) (Or.inr ⟨by rfl, rfl⟩) rfl (by assumption) ?_
            try simp only [Act.put, List.setIfInBounds_toArray, List.set_cons_zero, List.set_cons_succ]
            refine takeH_now (i := 22) (some 87) (v := undef) rfl (by kernel_rfl) (by kernel_rfl) (by kernel_rfl) (fun _ _ _ h => h) (Or.inr ⟨by rfl, rfl⟩) rfl (by assumption) ?_
            try simp only [Act.put, List.setIfInBounds_toArray, List.set_cons_zero, List.set_cons_succ]
            refine takeH_now (i := 23) (some 88) (v := undef) rfl (by kernel_rfl) (by kernel_rfl) (by kernel_rfl) (fun _ _ _ h => h) (Or.inr ⟨by rfl, rfl⟩) rfl (by assumption) ?_
            try simp only [Act.put, List.setIfInBounds_toArray, List.set_cons_zero, List.set_cons_succ]
            refine takeH_now (i := 24) (some 89) (v := ?_) rfl (by kernel_rfl) (by kernel_rfl) (by kernel_rfl) (fun _ _ _ h => h) (Or.inl ⟨by rfl, ?_⟩) rfl (by assumption) ?_
            rotate_left
            focus (intro w9 hS9; go_simp; try with_reducible rfl)
            try simp only [Act.put, List.setIfInBounds_toArray, List.set_cons_zero, List.set_cons_succ]
            refine takeH_now (i := 25) (some 90) (v := ?_) rfl (by kernel_rfl) (by kernel_rfl) (by kernel_rfl) (fun _ _ _ h => h) (Or.inl ⟨by rfl, ?_⟩) rfl (by assumption) ?_
            rotate_left
            focus (intro w9 hS9; go_simp; try with_reducible rfl)
            try simp only [Act.put, List.setIfInBounds_toArray, List.set_cons_zero, List.set_cons_succ]
            refine takeH_now (i := 26) (some 91) (v := ?_) rfl (by kernel_rfl) (by kernel_rfl) (by kernel_rfl) (fun _ _ _ h => h) (Or.inl ⟨by rfl, ?_⟩) rfl (by assumption) ?_
            rotate_left
            focus (intro w9 hS9; go_simp; try with_reducible rfl)
            try simp only [Act.put, List.setIfInBounds_toArray, List.set_cons_zero, List.set_cons_succ]
            refine takeH_now (i := 27) (some 92) (v := ?_) rfl (by kernel_rfl) (by kernel_rfl) (by kernel_rfl) (fun _ _ _ h => h) (Or.inl ⟨by rfl, ?_⟩) rfl (by assumption) ?_
            rotate_left
            focus (intro w9 hS9; go_simp; try with_reducible rfl)
            try simp only [Act.put, List.setIfInBounds_toArray, List.set_cons_zero, List.set_cons_succ]
            refine takeH_now (i := 28) (some 93) (v := ?_) rfl (by kernel_rfl) (by kernel_rfl) (by kernel_rfl) (fun _ _ _ h => h) (Or.inl ⟨by rfl, ?_⟩) rfl (by assumption) ?_
            rotate_left
            focus (intro w9 hS9; go_simp; try with_reducible rfl)
            try simp only [Act.put, List.setIfInBounds_toArray, List.set_cons_zero, List.set_cons_succ]
            refine takeH_now (i := 29) (some 94) (v := ?_) rfl (by kernel_rfl) (by kernel_rfl) (by kernel_rfl) (fun _ _ _ h => h) (Or.inl ⟨by rfl, ?_⟩) rfl (by assumption) ?_
            rotate_left
            focus (intro w9 hS9; obtain ⟨aC, aL, aK, xC, xL, xK⟩ := HCell.out w9 hS9; clear hS9; go_simp; try with_reducible rfl)
            try simp only [Act.put, List.setIfInBounds_toArray, List.set_cons_zero, List.set_cons_succ]
            refine takeH_now (i := 31) (some 96) (v := ?_) rfl (by kernel_rfl) (by kernel_rfl) (by kernel_rfl) (fun _ _ _ h => h) (Or.inl ⟨by rfl, ?_⟩) rfl (by assumption) ?_
            rotate_left
            focus (intro w9 hS9; go_simp; try with_reducible rfl)
            try simp only [Act.put, List.setIfInBounds_toArray, List.set_cons_zero, List.set_cons_succ]
            refine wpAnyH_ready (rs := [30]) (by kernel_rfl) (by simp) ?_
            refine AllReadyH.cons (o := { dst := some 95, op := Op.call { callee := Callee.value (Operand.func 15), args := #[Operand.tmp 94], argTypes := #[24] }, type := 24, pos := "law.go:248", after := #[{ on := 29, ground := Ground.data }, { on := 28, ground := Ground.chain }, { on := 28, ground := Ground.guard }], guard := some (28, false) }) rfl (fun K' hK' => ?_) AllReadyH.nil
            rw [if_pos (by kernel_rfl)]
            go_simp
            refine (HN.out _ hHeld).mono ?_
            rintro e wb ⟨B1, e1, B2, e2, rfl, hba⟩
            have hHa := HK.out _ _ hHeld hba
            clear hHeld hba
            refine hK'.out _ _ hHa (fun hHeld => ?_)
            clear hK' hHa
            try simp only [Act.put, List.setIfInBounds_toArray, List.set_cons_zero, List.set_cons_succ]
            refine wpAnyH_ready (rs := [32]) (by kernel_rfl) (by simp) ?_
            refine AllReadyH.cons (o := { dst := some 97, op := Op.call { callee := Callee.value (Operand.func 19), args := #[Operand.tmp 95, Operand.tmp 96], argTypes := #[24, 24] }, type := 4, pos := "law.go:248", after := #[{ on := 30, ground := Ground.data }, { on := 31, ground := Ground.data }, { on := 30, ground := Ground.chain }, { on := 28, ground := Ground.guard }], guard := some (28, false) }) rfl (fun K' hK' => ?_) AllReadyH.nil
            rw [if_pos (by kernel_rfl)]
            go_simp
            refine (HSa.out _ _ _ _ _ _).mono ?_
            rintro e wa ⟨rfl, hba⟩
            have hHa := HK.out _ _ hHeld hba
            clear hHeld hba
            refine hK'.out _ _ hHa (fun hHeld => ?_)
            clear hK' hHa
            try simp only [Act.put, List.setIfInBounds_toArray, List.set_cons_zero, List.set_cons_succ]
            refine takeH_now (i := 33) (some 98) (v := ?_) rfl (by kernel_rfl) (by kernel_rfl) (by kernel_rfl) (fun _ _ _ h => h) (Or.inl ⟨by rfl, ?_⟩) rfl (by assumption) ?_
            rotate_left
            focus (intro w9 hS9; go_simp; try with_reducible rfl)
            try simp only [Act.put, List.setIfInBounds_toArray, List.set_cons_zero, List.set_cons_succ]
            refine takeH_now (i := 34) (some 99) (v := ?_) rfl (by kernel_rfl) (by kernel_rfl) (by kernel_rfl) (fun _ _ _ h => h) (Or.inl ⟨by rfl, ?_⟩) rfl (by assumption) ?_
            rotate_left
            focus (intro w9 hS9; go_simp; try with_reducible rfl)
            try simp only [Act.put, List.setIfInBounds_toArray, List.set_cons_zero, List.set_cons_succ]
            refine takeH_now (i := 35) (some 100) (v := ?_) rfl (by kernel_rfl) (by kernel_rfl) (by kernel_rfl) (fun _ _ _ h => h) (Or.inl ⟨by rfl, ?_⟩) rfl (by assumption) ?_
            rotate_left
            focus (intro w9 hS9; go_simp; try with_reducible rfl)
            try simp only [Act.put, List.setIfInBounds_toArray, List.set_cons_zero, List.set_cons_succ]
            refine takeH_now (i := 36) (some 101) (v := ?_) rfl (by kernel_rfl) (by kernel_rfl) (by kernel_rfl) (fun _ _ _ h => h) (Or.inl ⟨by rfl, ?_⟩) rfl (by assumption) ?_
            rotate_left
            focus (intro w9 hS9; go_simp; try with_reducible rfl)
            try simp only [Act.put, List.setIfInBounds_toArray, List.set_cons_zero, List.set_cons_succ]
            refine takeH_now (i := 37) (some 102) (v := ?_) rfl (by kernel_rfl) (by kernel_rfl) (by kernel_rfl) (fun _ _ _ h => h) (Or.inl ⟨by rfl, ?_⟩) rfl (by assumption) ?_
            rotate_left
            focus (intro w9 hS9; go_simp; try with_reducible rfl)
            try simp only [Act.put, List.setIfInBounds_toArray, List.set_cons_zero, List.set_cons_succ]
            refine takeH_now (i := 38) (some 103) (v := undef) rfl (by kernel_rfl) (by kernel_rfl) (by kernel_rfl) (fun _ _ _ h => h) (Or.inr ⟨by rfl, rfl⟩) rfl (by assumption) ?_
            try simp only [Act.put, List.setIfInBounds_toArray, List.set_cons_zero, List.set_cons_succ]
            refine takeH_now (i := 39) (some 104) (v := undef) rfl (by kernel_rfl) (by kernel_rfl) (by kernel_rfl) (fun _ _ _ h => h) (Or.inr ⟨by rfl, rfl⟩) rfl (by assumption) ?_
            try simp only [Act.put, List.setIfInBounds_toArray, List.set_cons_zero, List.set_cons_succ]
            refine takeH_now (i := 40) (some 105) (v := undef) rfl (by kernel_rfl) (by kernel_rfl) (by kernel_rfl) (fun _ _ _ h => h) (Or.inr ⟨by rfl, rfl⟩) rfl (by assumption) ?_
            try simp only [Act.put, List.setIfInBounds_toArray, List.set_cons_zero, List.set_cons_succ]
            refine takeH_now (i := 41) (some 106) (v := undef) rfl (by kernel_rfl) (by kernel_rfl) (by kernel_rfl) (fun _ _ _ h => h) (Or.inr ⟨by rfl, rfl⟩) rfl (by assumption) ?_
            try simp only [Act.put, List.setIfInBounds_toArray, List.set_cons_zero, List.set_cons_succ]
            refine takeH_now (i := 42) (some 107) (v := ?_) rfl (by kernel_rfl) (by kernel_rfl) (by kernel_rfl) (fun _ _ _ h => h) (Or.inl ⟨by rfl, ?_⟩) rfl (by assumption) ?_
            rotate_left
            focus (intro w9 hS9; go_simp; try with_reducible rfl)
            try simp only [Act.put, List.setIfInBounds_toArray, List.set_cons_zero, List.set_cons_succ]
            refine takeH_now (i := 43) (some 108) (v := ?_) rfl (by kernel_rfl) (by kernel_rfl) (by kernel_rfl) (fun _ _ _ h => h) (Or.inl ⟨by rfl, ?_⟩) rfl (by assumption) ?_
            rotate_left
            focus (intro w9 hS9; go_simp; try with_reducible rfl)
            try simp only [Act.put, List.setIfInBounds_toArray, List.set_cons_zero, List.set_cons_succ]
            refine takeH_now (i := 44) (some 4) (v := ?_) rfl (by kernel_rfl) (by kernel_rfl) (by kernel_rfl) (fun _ _ _ h => h) (Or.inl ⟨by rfl, ?_⟩) rfl (by assumption) ?_
            rotate_left
            focus (intro w9 hS9; go_simp; try with_reducible rfl)
            try simp only [Act.put, List.setIfInBounds_toArray, List.set_cons_zero, List.set_cons_succ]
            refine wpAnyH_done (by kernel_rfl) ?_ _
            have hend := HFin.out _ hHeld
            clear hHeld
            go_wp2_with fail
            go_ret
            exact ⟨by simp, hend⟩
      | false =>
        have HN := hN1 rfl
        obtain rfl : M7 = 0 := hm7 rfl
        clear hm7 hN1 hN0
        obtain rfl : q2 = true := by
          rcases Hor.out with q | q
          · cases q
          · exact q
        clear Hor
        cases ra with
        | true =>
          go_wp2_with fail
          refine wp_region_held_drew (S := fun W => Below y42.heap.size y42 W) (by kernel_rfl) hstart (fun hHeld => ?_)
          clear hstart
          refine takeH_now (i := 0) (some 65) (v := ?_) rfl (by kernel_rfl) (by kernel_rfl) (by kernel_rfl) (fun _ _ _ h => h) (Or.inl ⟨by rfl, ?_⟩) rfl (by assumption) ?_
          rotate_left
          focus (intro w9 hS9; obtain ⟨aC, aL, aK, xC, xL, xK⟩ := HCell.out w9 hS9; clear hS9; go_simp; try with_reducible rfl)
          try simp only [Act.put, List.setIfInBounds_toArray, List.set_cons_zero, List.set_cons_succ]
          refine wpAnyH_ready (rs := [1]) (by kernel_rfl) (by simp) ?_
          refine AllReadyH.cons (o := { dst := some 66, op := Op.call { callee := Callee.value (Operand.func 17), args := #[Operand.tmp 65, Operand.const (Value.int IntKind.i64 65536)], argTypes := #[24, 3] }, type := 29, pos := "law.go:248", after := #[{ on := 0, ground := Ground.data }], guard := none }) rfl (fun K' hK' => ?_) AllReadyH.nil
          rw [if_pos (by kernel_rfl)]
          go_simp
          refine (HCk.out _ hHeld).mono ?_
          rintro e wa ⟨rfl, hba⟩
          have hHa := HK.out _ _ hHeld hba
          clear hHeld hba
          refine hK'.out _ _ hHa (fun hHeld => ?_)
          clear hK' hHa
          try simp only [Act.put, List.setIfInBounds_toArray, List.set_cons_zero, List.set_cons_succ]
          refine takeH_now (i := 2) (some 67) (v := ?_) rfl (by kernel_rfl) (by kernel_rfl) (by kernel_rfl) (fun _ _ _ h => h) (Or.inl ⟨by rfl, ?_⟩) rfl (by assumption) ?_
          rotate_left
          focus (intro w9 hS9; go_simp; try with_reducible rfl)
          try simp only [Act.put, List.setIfInBounds_toArray, List.set_cons_zero, List.set_cons_succ]
          refine takeH_now (i := 3) (some 68) (v := ?_) rfl (by kernel_rfl) (by kernel_rfl) (by kernel_rfl) (fun _ _ _ h => h) (Or.inl ⟨by rfl, ?_⟩) rfl (by assumption) ?_
          rotate_left
          focus (intro w9 hS9; go_simp; try with_reducible rfl)
          try simp only [Act.put, List.setIfInBounds_toArray, List.set_cons_zero, List.set_cons_succ]
          refine takeH_now (i := 4) (some 69) (v := ?_) rfl (by kernel_rfl) (by kernel_rfl) (by kernel_rfl) (fun _ _ _ h => h) (Or.inl ⟨by rfl, ?_⟩) rfl (by assumption) ?_
          rotate_left
          focus (intro w9 hS9; obtain ⟨aC, aL, aK, xC, xL, xK⟩ := HCell.out w9 hS9; clear hS9; go_simp; try with_reducible rfl)
          try simp only [Act.put, List.setIfInBounds_toArray, List.set_cons_zero, List.set_cons_succ]
          refine takeH_now (i := 5) (some 70) (v := ?_) rfl (by kernel_rfl) (by kernel_rfl) (by kernel_rfl) (fun _ _ _ h => h) (Or.inl ⟨by rfl, ?_⟩) rfl (by assumption) ?_
          rotate_left
          focus (intro w9 hS9; go_simp; try with_reducible rfl)
          try simp only [Act.put, List.setIfInBounds_toArray, List.set_cons_zero, List.set_cons_succ]
          refine takeH_now (i := 7) (some 72) (v := ?_) rfl (by kernel_rfl) (by kernel_rfl) (by kernel_rfl) (fun _ _ _ h => h) (Or.inl ⟨by rfl, ?_⟩) rfl (by assumption) ?_
          rotate_left
          focus (intro w9 hS9; obtain ⟨aC, aL, aK, xC, xL, xK⟩ := HCell.out w9 hS9; clear hS9; go_simp; try with_reducible rfl)
          try simp only [Act.put, List.setIfInBounds_toArray, List.set_cons_zero, List.set_cons_succ]
          refine takeH_now (i := 8) (some 73) (v := ?_) rfl (by kernel_rfl) (by kernel_rfl) (by kernel_rfl) (fun _ _ _ h => h) (Or.inl ⟨by rfl, ?_⟩) rfl (by assumption) ?_
          rotate_left
          focus (intro w9 hS9; go_simp; try with_reducible rfl)
          try simp only [Act.put, List.setIfInBounds_toArray, List.set_cons_zero, List.set_cons_succ]
          refine wpAnyH_ready (rs := [6]) (by kernel_rfl) (by simp) ?_
          refine AllReadyH.cons (o := { dst := some 71, op := Op.call { callee := Callee.value (Operand.func 23), args := #[Operand.tmp 69, Operand.tmp 70], argTypes := #[24, 32] }, type := 4, pos := "law.go:248", after := #[{ on := 4, ground := Ground.data }, { on := 5, ground := Ground.data }, { on := 3, ground := Ground.chain }, { on := 3, ground := Ground.guard }], guard := some (3, true) }) rfl (fun K' hK' => ?_) AllReadyH.nil
          rw [if_pos (by kernel_rfl)]
          go_simp
          refine (HVx.out _ hHeld).mono ?_
          rintro e wa ⟨rfl, hba⟩
          have hHa := HK.out _ _ hHeld hba
          clear hHeld hba
          refine hK'.out _ _ hHa (fun hHeld => ?_)
          clear hK' hHa
          try simp only [Act.put, List.setIfInBounds_toArray, List.set_cons_zero, List.set_cons_succ]
          refine wpAnyH_ready (rs := [9]) (by kernel_rfl) (by simp) ?_
          refine AllReadyH.cons (o := { dst := some 74, op := Op.call { callee := Callee.value (Operand.func 23), args := #[Operand.tmp 72, Operand.tmp 73], argTypes := #[24, 32] }, type := 4, pos := "law.go:248", after := #[{ on := 7, ground := Ground.data }, { on := 8, ground := Ground.data }, { on := 6, ground := Ground.chain }, { on := 3, ground := Ground.guard }], guard := some (3, true) }) rfl (fun K' hK' => ?_) AllReadyH.nil
          rw [if_pos (by kernel_rfl)]
          go_simp
          refine (HVl.out _ hHeld).mono ?_
          rintro e wa ⟨rfl, hba⟩
          have hHa := HK.out _ _ hHeld hba
          clear hHeld hba
          refine hK'.out _ _ hHa (fun hHeld => ?_)
          clear hK' hHa
          try simp only [Act.put, List.setIfInBounds_toArray, List.set_cons_zero, List.set_cons_succ]
          refine takeH_now (i := 10) (some 75) (v := ?_) rfl (by kernel_rfl) (by kernel_rfl) (by kernel_rfl) (fun _ _ _ h => h) (Or.inl ⟨by rfl, ?_⟩) rfl (by assumption) ?_
          rotate_left
          focus (intro w9 hS9; go_simp; try with_reducible rfl)
          try simp only [Act.put, List.setIfInBounds_toArray, List.set_cons_zero, List.set_cons_succ]
          refine takeH_now (i := 11) (some 76) (v := ?_) rfl (by kernel_rfl) (by kernel_rfl) (by kernel_rfl) (fun _ _ _ h => h) (Or.inl ⟨by rfl, ?_⟩) rfl (by assumption) ?_
          rotate_left
          focus (intro w9 hS9; go_simp; try with_reducible rfl)
          try simp only [Act.put, List.setIfInBounds_toArray, List.set_cons_zero, List.set_cons_succ]
          refine takeH_now (i := 12) (some 77) (v := ?_) rfl (by kernel_rfl) (by kernel_rfl) (by kernel_rfl) (fun _ _ _ h => h) (Or.inl ⟨by rfl, ?_⟩) rfl (by assumption) ?_
          rotate_left
          focus (intro w9 hS9; go_simp; try with_reducible rfl)
          try simp only [Act.put, List.setIfInBounds_toArray, List.set_cons_zero, List.set_cons_succ]
          refine takeH_now (i := 13) (some 78) (v := ?_) rfl (by kernel_rfl) (by kernel_rfl) (by kernel_rfl) (fun _ _ _ h => h) (Or.inl ⟨by rfl, ?_⟩) rfl (by assumption) ?_
          rotate_left
          focus (intro w9 hS9; go_simp; try with_reducible rfl)
          try simp only [Act.put, List.setIfInBounds_toArray, List.set_cons_zero, List.set_cons_succ]
          refine takeH_now (i := 14) (some 79) (v := ?_) rfl (by kernel_rfl) (by kernel_rfl) (by kernel_rfl) (fun _ _ _ h => h) (Or.inl ⟨by rfl, ?_⟩) rfl (by assumption) ?_
          rotate_left
          focus (intro w9 hS9; go_simp; try with_reducible rfl)
          try simp only [Act.put, List.setIfInBounds_toArray, List.set_cons_zero, List.set_cons_succ]
          refine takeH_now (i := 15) (some 80) (v := ?_) rfl (by kernel_rfl) (by kernel_rfl) (by kernel_rfl) (fun _ _ _ h => h) (Or.inl ⟨by rfl, ?_⟩) rfl (by assumption) ?_
          rotate_left
          focus (intro w9 hS9; go_simp; try with_reducible rfl)
          try simp only [Act.put, List.setIfInBounds_toArray, List.set_cons_zero, List.set_cons_succ]
          refine takeH_now (i := 16) (some 81) (v := ?_) rfl (by kernel_rfl) (by kernel_rfl) (by kernel_rfl) (fun _ _ _ h => h) (Or.inl ⟨by rfl, ?_⟩) rfl (by assumption) ?_
          rotate_left
          focus (intro w9 hS9; go_simp; try with_reducible rfl)
          try simp only [Act.put, List.setIfInBounds_toArray, List.set_cons_zero, List.set_cons_succ]
          refine takeH_now (i := 17) (some 82) (v := ?_) rfl (by kernel_rfl) (by kernel_rfl) (by kernel_rfl) (fun _ _ _ h => h) (Or.inl ⟨by rfl, ?_⟩) rfl (by assumption) ?_
          rotate_left
          focus (intro w9 hS9; go_simp; try with_reducible rfl)
          try simp only [Act.put, List.setIfInBounds_toArray, List.set_cons_zero, List.set_cons_succ]
          refine takeH_now (i := 18) (some 83) (v := ?_) rfl (by kernel_rfl) (by kernel_rfl) (by kernel_rfl) (fun _ _ _ h => h) (Or.inl ⟨by rfl, ?_⟩) rfl (by assumption) ?_
          rotate_left
          focus (intro w9 hS9; go_simp; try with_reducible rfl)
          try simp only [Act.put, List.setIfInBounds_toArray, List.set_cons_zero, List.set_cons_succ]
          refine takeH_now (i := 19) (some 84) (v := ?_) rfl (by kernel_rfl) (by kernel_rfl) (by kernel_rfl) (fun _ _ _ h => h) (Or.inl ⟨by rfl, ?_⟩) rfl (by assumption) ?_
          rotate_left
          focus (intro w9 hS9; go_simp; try with_reducible rfl)
          try simp only [Act.put, List.setIfInBounds_toArray, List.set_cons_zero, List.set_cons_succ]
          refine takeH_now (i := 20) (some 85) (v := ?_) rfl (by kernel_rfl) (by kernel_rfl) (by kernel_rfl) (fun _ _ _ h => h) (Or.inl ⟨by rfl, ?_⟩) rfl (by assumption) ?_
          rotate_left
          focus (intro w9 hS9; go_simp; try with_reducible rfl)
          try simp only [Act.put, List.setIfInBounds_toArray, List.set_cons_zero, List.set_cons_succ]
          refine takeH_now (i := 21) (some 86) (v := ?_) rfl (by kernel_rfl) (by kernel_rfl) (by kernel_rfl) (fun _ _ _ h => h) (Or.inl ⟨by rfl, ?_⟩) rfl (by assumption) ?_
          rotate_left
          focus (intro w9 hS9; go_simp; try with_reducible rfl)
          try simp only [Act.put, List.setIfInBounds_toArray, List.set_cons_zero, List.set_cons_succ]
          refine takeH_now (i := 22) (some 87) (v := ?_) rfl (by kernel_rfl) (by kernel_rfl) (by kernel_rfl) (fun _ _ _ h => h) (Or.inl ⟨by rfl, ?_⟩) rfl (by assumption) ?_
          rotate_left
          focus (intro w9 hS9; go_simp; try with_reducible rfl)
          try simp only [Act.put, List.setIfInBounds_toArray, List.set_cons_zero, List.set_cons_succ]
          refine takeH_now (i := 23) (some 88) (v := ?_) rfl (by kernel_rfl) (by kernel_rfl) (by kernel_rfl) (fun _ _ _ h => h) (Or.inl ⟨by rfl, ?_⟩) rfl (by assumption) ?_
          rotate_left
          focus (intro w9 hS9; go_simp; try with_reducible rfl)
          try simp only [Act.put, List.setIfInBounds_toArray, List.set_cons_zero, List.set_cons_succ]
          refine takeH_now (i := 24) (some 89) (v := ?_) rfl (by kernel_rfl) (by kernel_rfl) (by kernel_rfl) (fun _ _ _ h => h) (Or.inl ⟨by rfl, ?_⟩) rfl (by assumption) ?_
          rotate_left
          focus (intro w9 hS9; go_simp; try with_reducible rfl)
          try simp only [Act.put, List.setIfInBounds_toArray, List.set_cons_zero, List.set_cons_succ]
          refine takeH_now (i := 25) (some 90) (v := ?_) rfl (by kernel_rfl) (by kernel_rfl) (by kernel_rfl) (fun _ _ _ h => h) (Or.inl ⟨by rfl, ?_⟩) rfl (by assumption) ?_
          rotate_left
          focus (intro w9 hS9; go_simp; try with_reducible rfl)
          try simp only [Act.put, List.setIfInBounds_toArray, List.set_cons_zero, List.set_cons_succ]
          refine takeH_now (i := 26) (some 91) (v := ?_) rfl (by kernel_rfl) (by kernel_rfl) (by kernel_rfl) (fun _ _ _ h => h) (Or.inl ⟨by rfl, ?_⟩) rfl (by assumption) ?_
          rotate_left
          focus (intro w9 hS9; go_simp; try with_reducible rfl)
          try simp only [Act.put, List.setIfInBounds_toArray, List.set_cons_zero, List.set_cons_succ]
          refine takeH_now (i := 27) (some 92) (v := ?_) rfl (by kernel_rfl) (by kernel_rfl) (by kernel_rfl) (fun _ _ _ h => h) (Or.inl ⟨by rfl, ?_⟩) rfl (by assumption) ?_
          rotate_left
          focus (intro w9 hS9; go_simp; try with_reducible rfl)
          try simp only [Act.put, List.setIfInBounds_toArray, List.set_cons_zero, List.set_cons_succ]
          refine takeH_now (i := 28) (some 93) (v := ?_) rfl (by kernel_rfl) (by kernel_rfl) (by kernel_rfl) (fun _ _ _ h => h) (Or.inl ⟨by rfl, ?_⟩) rfl (by assumption) ?_
          rotate_left
          focus (intro w9 hS9; go_simp; try with_reducible rfl)
          try simp only [Act.put, List.setIfInBounds_toArray, List.set_cons_zero, List.set_cons_succ]
          refine takeH_now (i := 29) (some 94) (v := undef) rfl (by kernel_rfl) (by kernel_rfl) (by kernel_rfl) (fun _ _ _ h => h) (Or.inr ⟨by rfl, rfl⟩) rfl (by assumption) ?_
          try simp only [Act.put, List.setIfInBounds_toArray, List.set_cons_zero, List.set_cons_succ]
          refine takeH_now (i := 30) (some 95) (v := undef) rfl (by kernel_rfl) (by kernel_rfl) (by kernel_rfl) (fun _ _ _ h => h) (Or.inr ⟨by rfl, rfl⟩) rfl (by assumption) ?_
          try simp only [Act.put, List.setIfInBounds_toArray, List.set_cons_zero, List.set_cons_succ]
          refine takeH_now (i := 31) (some 96) (v := undef) rfl (by kernel_rfl) (by kernel_rfl) (by kernel_rfl) (fun _ _ _ h => h) (Or.inr ⟨by rfl, rfl⟩) rfl (by assumption) ?_
          try simp only [Act.put, List.setIfInBounds_toArray, List.set_cons_zero, List.set_cons_succ]
          refine takeH_now (i := 32) (some 97) (v := undef) rfl (by kernel_rfl) (by kernel_rfl) (by kernel_rfl) (fun _ _ _ h => h) (Or.inr ⟨by rfl, rfl⟩) rfl (by assumption) ?_
          try simp only [Act.put, List.setIfInBounds_toArray, List.set_cons_zero, List.set_cons_succ]
          refine takeH_now (i := 33) (some 98) (v := ?_) rfl (by kernel_rfl) (by kernel_rfl) (by kernel_rfl) (fun _ _ _ h => h) (Or.inl ⟨by rfl, ?_⟩) rfl (by assumption) ?_
          rotate_left
          focus (intro w9 hS9; go_simp; try with_reducible rfl)
          try simp only [Act.put, List.setIfInBounds_toArray, List.set_cons_zero, List.set_cons_succ]
          refine takeH_now (i := 34) (some 99) (v := ?_) rfl (by kernel_rfl) (by kernel_rfl) (by kernel_rfl) (fun _ _ _ h => h) (Or.inl ⟨by rfl, ?_⟩) rfl (by assumption) ?_
          rotate_left
          focus (intro w9 hS9; go_simp; try with_reducible rfl)
          try simp only [Act.put, List.setIfInBounds_toArray, List.set_cons_zero, List.set_cons_succ]
          refine takeH_now (i := 35) (some 100) (v := ?_) rfl (by kernel_rfl) (by kernel_rfl) (by kernel_rfl) (fun _ _ _ h => h) (Or.inl ⟨by rfl, ?_⟩) rfl (by assumption) ?_
          rotate_left
          focus (intro w9 hS9; go_simp; try with_reducible rfl)
          try simp only [Act.put, List.setIfInBounds_toArray, List.set_cons_zero, List.set_cons_succ]
          refine takeH_now (i := 36) (some 101) (v := ?_) rfl (by kernel_rfl) (by kernel_rfl) (by kernel_rfl) (fun _ _ _ h => h) (Or.inl ⟨by rfl, ?_⟩) rfl (by assumption) ?_
          rotate_left
          focus (intro w9 hS9; go_simp; try with_reducible rfl)
          try simp only [Act.put, List.setIfInBounds_toArray, List.set_cons_zero, List.set_cons_succ]
          refine takeH_now (i := 37) (some 102) (v := ?_) rfl (by kernel_rfl) (by kernel_rfl) (by kernel_rfl) (fun _ _ _ h => h) (Or.inl ⟨by rfl, ?_⟩) rfl (by assumption) ?_
          rotate_left
          focus (intro w9 hS9; go_simp; try with_reducible rfl)
          try simp only [Act.put, List.setIfInBounds_toArray, List.set_cons_zero, List.set_cons_succ]
          refine takeH_now (i := 38) (some 103) (v := ?_) rfl (by kernel_rfl) (by kernel_rfl) (by kernel_rfl) (fun _ _ _ h => h) (Or.inl ⟨by rfl, ?_⟩) rfl (by assumption) ?_
          rotate_left
          focus (intro w9 hS9; obtain ⟨aC, aL, aK, xC, xL, xK⟩ := HCell.out w9 hS9; clear hS9; go_simp; try with_reducible rfl)
          try simp only [Act.put, List.setIfInBounds_toArray, List.set_cons_zero, List.set_cons_succ]
          refine takeH_now (i := 40) (some 105) (v := ?_) rfl (by kernel_rfl) (by kernel_rfl) (by kernel_rfl) (fun _ _ _ h => h) (Or.inl ⟨by rfl, ?_⟩) rfl (by assumption) ?_
          rotate_left
          focus (intro w9 hS9; go_simp; try with_reducible rfl)
          try simp only [Act.put, List.setIfInBounds_toArray, List.set_cons_zero, List.set_cons_succ]
          refine wpAnyH_ready (rs := [39]) (by kernel_rfl) (by simp) ?_
          refine AllReadyH.cons (o := { dst := some 104, op := Op.call { callee := Callee.value (Operand.func 15), args := #[Operand.tmp 103], argTypes := #[24] }, type := 24, pos := "law.go:248", after := #[{ on := 38, ground := Ground.data }, { on := 37, ground := Ground.chain }, { on := 37, ground := Ground.guard }], guard := some (37, false) }) rfl (fun K' hK' => ?_) AllReadyH.nil
          rw [if_pos (by kernel_rfl)]
          go_simp
          refine (HN.out _ hHeld).mono ?_
          rintro e wb ⟨B1, e1, B2, e2, rfl, hba⟩
          have hHa := HK.out _ _ hHeld hba
          clear hHeld hba
          refine hK'.out _ _ hHa (fun hHeld => ?_)
          clear hK' hHa
          try simp only [Act.put, List.setIfInBounds_toArray, List.set_cons_zero, List.set_cons_succ]
          refine wpAnyH_ready (rs := [41]) (by kernel_rfl) (by simp) ?_
          refine AllReadyH.cons (o := { dst := some 106, op := Op.call { callee := Callee.value (Operand.func 19), args := #[Operand.tmp 104, Operand.tmp 105], argTypes := #[24, 24] }, type := 4, pos := "law.go:248", after := #[{ on := 39, ground := Ground.data }, { on := 40, ground := Ground.data }, { on := 39, ground := Ground.chain }, { on := 37, ground := Ground.guard }], guard := some (37, false) }) rfl (fun K' hK' => ?_) AllReadyH.nil
          rw [if_pos (by kernel_rfl)]
          go_simp
          refine (HSa.out _ _ _ _ _ _).mono ?_
          rintro e wa ⟨rfl, hba⟩
          have hHa := HK.out _ _ hHeld hba
          clear hHeld hba
          refine hK'.out _ _ hHa (fun hHeld => ?_)
          clear hK' hHa
          try simp only [Act.put, List.setIfInBounds_toArray, List.set_cons_zero, List.set_cons_succ]
          refine takeH_now (i := 42) (some 107) (v := ?_) rfl (by kernel_rfl) (by kernel_rfl) (by kernel_rfl) (fun _ _ _ h => h) (Or.inl ⟨by rfl, ?_⟩) rfl (by assumption) ?_
          rotate_left
          focus (intro w9 hS9; go_simp; try with_reducible rfl)
          try simp only [Act.put, List.setIfInBounds_toArray, List.set_cons_zero, List.set_cons_succ]
          refine takeH_now (i := 43) (some 108) (v := ?_) rfl (by kernel_rfl) (by kernel_rfl) (by kernel_rfl) (fun _ _ _ h => h) (Or.inl ⟨by rfl, ?_⟩) rfl (by assumption) ?_
          rotate_left
          focus (intro w9 hS9; go_simp; try with_reducible rfl)
          try simp only [Act.put, List.setIfInBounds_toArray, List.set_cons_zero, List.set_cons_succ]
          refine takeH_now (i := 44) (some 4) (v := ?_) rfl (by kernel_rfl) (by kernel_rfl) (by kernel_rfl) (fun _ _ _ h => h) (Or.inl ⟨by rfl, ?_⟩) rfl (by assumption) ?_
          rotate_left
          focus (intro w9 hS9; go_simp; try with_reducible rfl)
          try simp only [Act.put, List.setIfInBounds_toArray, List.set_cons_zero, List.set_cons_succ]
          refine wpAnyH_done (by kernel_rfl) ?_ _
          have hend := HFin.out _ hHeld
          clear hHeld
          go_wp2_with fail
          go_ret
          exact ⟨by simp, hend⟩
        | false =>
          go_wp2_with fail
          refine wp_region_held_drew (S := fun W => Below y42.heap.size y42 W) (by kernel_rfl) hstart (fun hHeld => ?_)
          clear hstart
          refine takeH_now (i := 0) (some 65) (v := ?_) rfl (by kernel_rfl) (by kernel_rfl) (by kernel_rfl) (fun _ _ _ h => h) (Or.inl ⟨by rfl, ?_⟩) rfl (by assumption) ?_
          rotate_left
          focus (intro w9 hS9; obtain ⟨aC, aL, aK, xC, xL, xK⟩ := HCell.out w9 hS9; clear hS9; go_simp; try with_reducible rfl)
          try simp only [Act.put, List.setIfInBounds_toArray, List.set_cons_zero, List.set_cons_succ]
          refine wpAnyH_ready (rs := [1]) (by kernel_rfl) (by simp) ?_
          refine AllReadyH.cons (o := { dst := some 66, op := Op.call { callee := Callee.value (Operand.func 17), args := #[Operand.tmp 65, Operand.const (Value.int IntKind.i64 65536)], argTypes := #[24, 3] }, type := 29, pos := "law.go:248", after := #[{ on := 0, ground := Ground.data }], guard := none }) rfl (fun K' hK' => ?_) AllReadyH.nil
          rw [if_pos (by kernel_rfl)]
          go_simp
          refine (HCk.out _ hHeld).mono ?_
          rintro e wa ⟨rfl, hba⟩
          have hHa := HK.out _ _ hHeld hba
          clear hHeld hba
          refine hK'.out _ _ hHa (fun hHeld => ?_)
          clear hK' hHa
          try simp only [Act.put, List.setIfInBounds_toArray, List.set_cons_zero, List.set_cons_succ]
          refine takeH_now (i := 2) (some 67) (v := ?_) rfl (by kernel_rfl) (by kernel_rfl) (by kernel_rfl) (fun _ _ _ h => h) (Or.inl ⟨by rfl, ?_⟩) rfl (by assumption) ?_
          rotate_left
          focus (intro w9 hS9; go_simp; try with_reducible rfl)
          try simp only [Act.put, List.setIfInBounds_toArray, List.set_cons_zero, List.set_cons_succ]
          refine takeH_now (i := 3) (some 68) (v := ?_) rfl (by kernel_rfl) (by kernel_rfl) (by kernel_rfl) (fun _ _ _ h => h) (Or.inl ⟨by rfl, ?_⟩) rfl (by assumption) ?_
          rotate_left
          focus (intro w9 hS9; go_simp; try with_reducible rfl)
          try simp only [Act.put, List.setIfInBounds_toArray, List.set_cons_zero, List.set_cons_succ]
          refine takeH_now (i := 4) (some 69) (v := ?_) rfl (by kernel_rfl) (by kernel_rfl) (by kernel_rfl) (fun _ _ _ h => h) (Or.inl ⟨by rfl, ?_⟩) rfl (by assumption) ?_
          rotate_left
          focus (intro w9 hS9; obtain ⟨aC, aL, aK, xC, xL, xK⟩ := HCell.out w9 hS9; clear hS9; go_simp; try with_reducible rfl)
          try simp only [Act.put, List.setIfInBounds_toArray, List.set_cons_zero, List.set_cons_succ]
          refine takeH_now (i := 5) (some 70) (v := ?_) rfl (by kernel_rfl) (by kernel_rfl) (by kernel_rfl) (fun _ _ _ h => h) (Or.inl ⟨by rfl, ?_⟩) rfl (by assumption) ?_
          rotate_left
          focus (intro w9 hS9; go_simp; try with_reducible rfl)
          try simp only [Act.put, List.setIfInBounds_toArray, List.set_cons_zero, List.set_cons_succ]
          refine takeH_now (i := 7) (some 72) (v := ?_) rfl (by kernel_rfl) (by kernel_rfl) (by kernel_rfl) (fun _ _ _ h => h) (Or.inl ⟨by rfl, ?_⟩) rfl (by assumption) ?_
          rotate_left
          focus (intro w9 hS9; obtain ⟨aC, aL, aK, xC, xL, xK⟩ := HCell.out w9 hS9; clear hS9; go_simp; try with_reducible rfl)
          try simp only [Act.put, List.setIfInBounds_toArray, List.set_cons_zero, List.set_cons_succ]
          refine takeH_now (i := 8) (some 73) (v := ?_) rfl (by kernel_rfl) (by kernel_rfl) (by kernel_rfl) (fun _ _ _ h => h) (Or.inl ⟨by rfl, ?_⟩) rfl (by assumption) ?_
          rotate_left
          focus (intro w9 hS9; go_simp; try with_reducible rfl)
          try simp only [Act.put, List.setIfInBounds_toArray, List.set_cons_zero, List.set_cons_succ]
          refine wpAnyH_ready (rs := [6]) (by kernel_rfl) (by simp) ?_
          refine AllReadyH.cons (o := { dst := some 71, op := Op.call { callee := Callee.value (Operand.func 23), args := #[Operand.tmp 69, Operand.tmp 70], argTypes := #[24, 32] }, type := 4, pos := "law.go:248", after := #[{ on := 4, ground := Ground.data }, { on := 5, ground := Ground.data }, { on := 3, ground := Ground.chain }, { on := 3, ground := Ground.guard }], guard := some (3, true) }) rfl (fun K' hK' => ?_) AllReadyH.nil
          rw [if_pos (by kernel_rfl)]
          go_simp
          refine (HVx.out _ hHeld).mono ?_
          rintro e wa ⟨rfl, hba⟩
          have hHa := HK.out _ _ hHeld hba
          clear hHeld hba
          refine hK'.out _ _ hHa (fun hHeld => ?_)
          clear hK' hHa
          try simp only [Act.put, List.setIfInBounds_toArray, List.set_cons_zero, List.set_cons_succ]
          refine wpAnyH_ready (rs := [9]) (by kernel_rfl) (by simp) ?_
          refine AllReadyH.cons (o := { dst := some 74, op := Op.call { callee := Callee.value (Operand.func 23), args := #[Operand.tmp 72, Operand.tmp 73], argTypes := #[24, 32] }, type := 4, pos := "law.go:248", after := #[{ on := 7, ground := Ground.data }, { on := 8, ground := Ground.data }, { on := 6, ground := Ground.chain }, { on := 3, ground := Ground.guard }], guard := some (3, true) }) rfl (fun K' hK' => ?_) AllReadyH.nil
          rw [if_pos (by kernel_rfl)]
          go_simp
          refine (HVl.out _ hHeld).mono ?_
          rintro e wa ⟨rfl, hba⟩
          have hHa := HK.out _ _ hHeld hba
          clear hHeld hba
          refine hK'.out _ _ hHa (fun hHeld => ?_)
          clear hK' hHa
          try simp only [Act.put, List.setIfInBounds_toArray, List.set_cons_zero, List.set_cons_succ]
          refine takeH_now (i := 10) (some 75) (v := ?_) rfl (by kernel_rfl) (by kernel_rfl) (by kernel_rfl) (fun _ _ _ h => h) (Or.inl ⟨by rfl, ?_⟩) rfl (by assumption) ?_
          rotate_left
          focus (intro w9 hS9; go_simp; try with_reducible rfl)
          try simp only [Act.put, List.setIfInBounds_toArray, List.set_cons_zero, List.set_cons_succ]
          refine takeH_now (i := 11) (some 76) (v := ?_) rfl (by kernel_rfl) (by kernel_rfl) (by kernel_rfl) (fun _ _ _ h => h) (Or.inl ⟨by rfl, ?_⟩) rfl (by assumption) ?_
          rotate_left
          focus (intro w9 hS9; go_simp; try with_reducible rfl)
          try simp only [Act.put, List.setIfInBounds_toArray, List.set_cons_zero, List.set_cons_succ]
          refine takeH_now (i := 12) (some 77) (v := ?_) rfl (by kernel_rfl) (by kernel_rfl) (by kernel_rfl) (fun _ _ _ h => h) (Or.inl ⟨by rfl, ?_⟩) rfl (by assumption) ?_
          rotate_left
          focus (intro w9 hS9; go_simp; try with_reducible rfl)
          try simp only [Act.put, List.setIfInBounds_toArray, List.set_cons_zero, List.set_cons_succ]
          refine takeH_now (i := 13) (some 78) (v := ?_) rfl (by kernel_rfl) (by kernel_rfl) (by kernel_rfl) (fun _ _ _ h => h) (Or.inl ⟨by rfl, ?_⟩) rfl (by assumption) ?_
          rotate_left
          focus (intro w9 hS9; go_simp; try with_reducible rfl)
          try simp only [Act.put, List.setIfInBounds_toArray, List.set_cons_zero, List.set_cons_succ]
          refine takeH_now (i := 14) (some 79) (v := ?_) rfl (by kernel_rfl) (by kernel_rfl) (by kernel_rfl) (fun _ _ _ h => h) (Or.inl ⟨by rfl, ?_⟩) rfl (by assumption) ?_
          rotate_left
          focus (intro w9 hS9; go_simp; try with_reducible rfl)
          try simp only [Act.put, List.setIfInBounds_toArray, List.set_cons_zero, List.set_cons_succ]
          refine takeH_now (i := 15) (some 80) (v := ?_) rfl (by kernel_rfl) (by kernel_rfl) (by kernel_rfl) (fun _ _ _ h => h) (Or.inl ⟨by rfl, ?_⟩) rfl (by assumption) ?_
          rotate_left
          focus (intro w9 hS9; go_simp; try with_reducible rfl)
          try simp only [Act.put, List.setIfInBounds_toArray, List.set_cons_zero, List.set_cons_succ]
          refine takeH_now (i := 16) (some 81) (v := ?_) rfl (by kernel_rfl) (by kernel_rfl) (by kernel_rfl) (fun _ _ _ h => h) (Or.inl ⟨by rfl, ?_⟩) rfl (by assumption) ?_
          rotate_left
          focus (intro w9 hS9; go_simp; try with_reducible rfl)
          try simp only [Act.put, List.setIfInBounds_toArray, List.set_cons_zero, List.set_cons_succ]
          refine takeH_now (i := 17) (some 82) (v := ?_) rfl (by kernel_rfl) (by kernel_rfl) (by kernel_rfl) (fun _ _ _ h => h) (Or.inl ⟨by rfl, ?_⟩) rfl (by assumption) ?_
          rotate_left
          focus (intro w9 hS9; go_simp; try with_reducible rfl)
          try simp only [Act.put, List.setIfInBounds_toArray, List.set_cons_zero, List.set_cons_succ]
          refine takeH_now (i := 18) (some 83) (v := ?_) rfl (by kernel_rfl) (by kernel_rfl) (by kernel_rfl) (fun _ _ _ h => h) (Or.inl ⟨by rfl, ?_⟩) rfl (by assumption) ?_
          rotate_left
          focus (intro w9 hS9; go_simp; try with_reducible rfl)
          try simp only [Act.put, List.setIfInBounds_toArray, List.set_cons_zero, List.set_cons_succ]
          refine takeH_now (i := 19) (some 84) (v := ?_) rfl (by kernel_rfl) (by kernel_rfl) (by kernel_rfl) (fun _ _ _ h => h) (Or.inl ⟨by rfl, ?_⟩) rfl (by assumption) ?_
          rotate_left
          focus (intro w9 hS9; go_simp; try with_reducible rfl)
          try simp only [Act.put, List.setIfInBounds_toArray, List.set_cons_zero, List.set_cons_succ]
          refine takeH_now (i := 20) (some 85) (v := ?_) rfl (by kernel_rfl) (by kernel_rfl) (by kernel_rfl) (fun _ _ _ h => h) (Or.inl ⟨by rfl, ?_⟩) rfl (by assumption) ?_
          rotate_left
          focus (intro w9 hS9; go_simp; try with_reducible rfl)
          try simp only [Act.put, List.setIfInBounds_toArray, List.set_cons_zero, List.set_cons_succ]
          refine takeH_now (i := 21) (some 86) (v := ?_) rfl (by kernel_rfl) (by kernel_rfl) (by kernel_rfl) (fun _ _ _ h => h) (Or.inl ⟨by rfl, ?_⟩) rfl (by assumption) ?_
          rotate_left
          focus (intro w9 hS9; go_simp; try with_reducible rfl)
          try simp only [Act.put, List.setIfInBounds_toArray, List.set_cons_zero, List.set_cons_succ]
          refine takeH_now (i := 22) (some 87) (v := ?_) rfl (by kernel_rfl) (by kernel_rfl) (by kernel_rfl) (fun _ _ _ h => h) (Or.inl ⟨by rfl, ?_⟩) rfl (by assumption) ?_
          rotate_left
          focus (intro w9 hS9; go_simp; try with_reducible rfl)
          try simp only [Act.put, List.setIfInBounds_toArray, List.set_cons_zero, List.set_cons_succ]
          refine takeH_now (i := 23) (some 88) (v := ?_) rfl (by kernel_rfl) (by kernel_rfl) (by kernel_rfl) (fun _ _ _ h => h) (Or.inl ⟨by rfl, ?_⟩) rfl (by assumption) ?_
          rotate_left
          focus (intro w9 hS9; go_simp; try with_reducible rfl)
          try simp only [Act.put, List.setIfInBounds_toArray, List.set_cons_zero, List.set_cons_succ]
          refine takeH_now (i := 24) (some 89) (v := ?_) rfl (by kernel_rfl) (by kernel_rfl) (by kernel_rfl) (fun _ _ _ h => h) (Or.inl ⟨by rfl, ?_⟩) rfl (by assumption) ?_
          rotate_left
          focus (intro w9 hS9; go_simp; try with_reducible rfl)
          try simp only [Act.put, List.setIfInBounds_toArray, List.set_cons_zero, List.set_cons_succ]
          refine takeH_now (i := 25) (some 90) (v := ?_) rfl (by kernel_rfl) (by kernel_rfl) (by kernel_rfl) (fun _ _ _ h => h) (Or.inl ⟨by rfl, ?_⟩) rfl (by assumption) ?_
          rotate_left
          focus (intro w9 hS9; go_simp; try with_reducible rfl)
          try simp only [Act.put, List.setIfInBounds_toArray, List.set_cons_zero, List.set_cons_succ]
          refine takeH_now (i := 26) (some 91) (v := ?_) rfl (by kernel_rfl) (by kernel_rfl) (by kernel_rfl) (fun _ _ _ h => h) (Or.inl ⟨by rfl, ?_⟩) rfl (by assumption) ?_
          rotate_left
          focus (intro w9 hS9; go_simp; try with_reducible rfl)
          try simp only [Act.put, List.setIfInBounds_toArray, List.set_cons_zero, List.set_cons_succ]
          refine takeH_now (i := 27) (some 92) (v := ?_) rfl (by kernel_rfl) (by kernel_rfl) (by kernel_rfl) (fun _ _ _ h => h) (Or.inl ⟨by rfl, ?_⟩) rfl (by assumption) ?_
          rotate_left
          focus (intro w9 hS9; go_simp; try with_reducible rfl)
          try simp only [Act.put, List.setIfInBounds_toArray, List.set_cons_zero, List.set_cons_succ]
          refine takeH_now (i := 28) (some 93) (v := ?_) rfl (by kernel_rfl) (by kernel_rfl) (by kernel_rfl) (fun _ _ _ h => h) (Or.inl ⟨by rfl, ?_⟩) rfl (by assumption) ?_
          rotate_left
          focus (intro w9 hS9; go_simp; try with_reducible rfl)
          try simp only [Act.put, List.setIfInBounds_toArray, List.set_cons_zero, List.set_cons_succ]
          refine takeH_now (i := 29) (some 94) (v := undef) rfl (by kernel_rfl) (by kernel_rfl) (by kernel_rfl) (fun _ _ _ h => h) (Or.inr ⟨by rfl, rfl⟩) rfl (by assumption) ?_
          try simp only [Act.put, List.setIfInBounds_toArray, List.set_cons_zero, List.set_cons_succ]
          refine takeH_now (i := 30) (some 95) (v := undef) rfl (by kernel_rfl) (by kernel_rfl) (by kernel_rfl) (fun _ _ _ h => h) (Or.inr ⟨by rfl, rfl⟩) rfl (by assumption) ?_
          try simp only [Act.put, List.setIfInBounds_toArray, List.set_cons_zero, List.set_cons_succ]
          refine takeH_now (i := 31) (some 96) (v := undef) rfl (by kernel_rfl) (by kernel_rfl) (by kernel_rfl) (fun _ _ _ h => h) (Or.inr ⟨by rfl, rfl⟩) rfl (by assumption) ?_
          try simp only [Act.put, List.setIfInBounds_toArray, List.set_cons_zero, List.set_cons_succ]
          refine takeH_now (i := 32) (some 97) (v := undef) rfl (by kernel_rfl) (by kernel_rfl) (by kernel_rfl) (fun _ _ _ h => h) (Or.inr ⟨by rfl, rfl⟩) rfl (by assumption) ?_
          try simp only [Act.put, List.setIfInBounds_toArray, List.set_cons_zero, List.set_cons_succ]
          refine takeH_now (i := 33) (some 98) (v := ?_) rfl (by kernel_rfl) (by kernel_rfl) (by kernel_rfl) (fun _ _ _ h => h) (Or.inl ⟨by rfl, ?_⟩) rfl (by assumption) ?_
          rotate_left
          focus (intro w9 hS9; go_simp; try with_reducible rfl)
          try simp only [Act.put, List.setIfInBounds_toArray, List.set_cons_zero, List.set_cons_succ]
          refine takeH_now (i := 34) (some 99) (v := ?_) rfl (by kernel_rfl) (by kernel_rfl) (by kernel_rfl) (fun _ _ _ h => h) (Or.inl ⟨by rfl, ?_⟩) rfl (by assumption) ?_
          rotate_left
          focus (intro w9 hS9; go_simp; try with_reducible rfl)
          try simp only [Act.put, List.setIfInBounds_toArray, List.set_cons_zero, List.set_cons_succ]
          refine takeH_now (i := 35) (some 100) (v := ?_) rfl (by kernel_rfl) (by kernel_rfl) (by kernel_rfl) (fun _ _ _ h => h) (Or.inl ⟨by rfl, ?_⟩) rfl (by assumption) ?_
          rotate_left
          focus (intro w9 hS9; go_simp; try with_reducible rfl)
          try simp only [Act.put, List.setIfInBounds_toArray, List.set_cons_zero, List.set_cons_succ]
          refine takeH_now (i := 36) (some 101) (v := ?_) rfl (by kernel_rfl) (by kernel_rfl) (by kernel_rfl) (fun _ _ _ h => h) (Or.inl ⟨by rfl, ?_⟩) rfl (by assumption) ?_
          rotate_left
          focus (intro w9 hS9; go_simp; try with_reducible rfl)
          try simp only [Act.put, List.setIfInBounds_toArray, List.set_cons_zero, List.set_cons_succ]
          refine takeH_now (i := 37) (some 102) (v := ?_) rfl (by kernel_rfl) (by kernel_rfl) (by kernel_rfl) (fun _ _ _ h => h) (Or.inl ⟨by rfl, ?_⟩) rfl (by assumption) ?_
          rotate_left
          focus (intro w9 hS9; go_simp; try with_reducible rfl)
          try simp only [Act.put, List.setIfInBounds_toArray, List.set_cons_zero, List.set_cons_succ]
          refine takeH_now (i := 38) (some 103) (v := ?_) rfl (by kernel_rfl) (by kernel_rfl) (by kernel_rfl) (fun _ _ _ h => h) (Or.inl ⟨by rfl, ?_⟩) rfl (by assumption) ?_
          rotate_left
          focus (intro w9 hS9; obtain ⟨aC, aL, aK, xC, xL, xK⟩ := HCell.out w9 hS9; clear hS9; go_simp; try with_reducible rfl)
          try simp only [Act.put, List.setIfInBounds_toArray, List.set_cons_zero, List.set_cons_succ]
          refine takeH_now (i := 40) (some 105) (v := ?_) rfl (by kernel_rfl) (by kernel_rfl) (by kernel_rfl) (fun _ _ _ h => h) (Or.inl ⟨by rfl, ?_⟩) rfl (by assumption) ?_
          rotate_left
          focus (intro w9 hS9; go_simp; try with_reducible rfl)
          try simp only [Act.put, List.setIfInBounds_toArray, List.set_cons_zero, List.set_cons_succ]
          refine wpAnyH_ready (rs := [39]) (by kernel_rfl) (by simp) ?_
          refine AllReadyH.cons (o := { dst := some 104, op := Op.call { callee := Callee.value (Operand.func 15), args := #[Operand.tmp 103], argTypes := #[24] }, type := 24, pos := "law.go:248", after := #[{ on := 38, ground := Ground.data }, { on := 37, ground := Ground.chain }, { on := 37, ground := Ground.guard }], guard := some (37, false) }) rfl (fun K' hK' => ?_) AllReadyH.nil
          rw [if_pos (by kernel_rfl)]
          go_simp
          refine (HN.out _ hHeld).mono ?_
          rintro e wb ⟨B1, e1, B2, e2, rfl, hba⟩
          have hHa := HK.out _ _ hHeld hba
          clear hHeld hba
          refine hK'.out _ _ hHa (fun hHeld => ?_)
          clear hK' hHa
          try simp only [Act.put, List.setIfInBounds_toArray, List.set_cons_zero, List.set_cons_succ]
          refine wpAnyH_ready (rs := [41]) (by kernel_rfl) (by simp) ?_
          refine AllReadyH.cons (o := { dst := some 106, op := Op.call { callee := Callee.value (Operand.func 19), args := #[Operand.tmp 104, Operand.tmp 105], argTypes := #[24, 24] }, type := 4, pos := "law.go:248", after := #[{ on := 39, ground := Ground.data }, { on := 40, ground := Ground.data }, { on := 39, ground := Ground.chain }, { on := 37, ground := Ground.guard }], guard := some (37, false) }) rfl (fun K' hK' => ?_) AllReadyH.nil
          rw [if_pos (by kernel_rfl)]
          go_simp
          refine (HSa.out _ _ _ _ _ _).mono ?_
          rintro e wa ⟨rfl, hba⟩
          have hHa := HK.out _ _ hHeld hba
          clear hHeld hba
          refine hK'.out _ _ hHa (fun hHeld => ?_)
          clear hK' hHa
          try simp only [Act.put, List.setIfInBounds_toArray, List.set_cons_zero, List.set_cons_succ]
          refine takeH_now (i := 42) (some 107) (v := ?_) rfl (by kernel_rfl) (by kernel_rfl) (by kernel_rfl) (fun _ _ _ h => h) (Or.inl ⟨by rfl, ?_⟩) rfl (by assumption) ?_
          rotate_left
          focus (intro w9 hS9; go_simp; try with_reducible rfl)
          try simp only [Act.put, List.setIfInBounds_toArray, List.set_cons_zero, List.set_cons_succ]
          refine takeH_now (i := 43) (some 108) (v := ?_) rfl (by kernel_rfl) (by kernel_rfl) (by kernel_rfl) (fun _ _ _ h => h) (Or.inl ⟨by rfl, ?_⟩) rfl (by assumption) ?_
          rotate_left
          focus (intro w9 hS9; go_simp; try with_reducible rfl)
          try simp only [Act.put, List.setIfInBounds_toArray, List.set_cons_zero, List.set_cons_succ]
          refine takeH_now (i := 44) (some 4) (v := ?_) rfl (by kernel_rfl) (by kernel_rfl) (by kernel_rfl) (fun _ _ _ h => h) (Or.inl ⟨by rfl, ?_⟩) rfl (by assumption) ?_
          rotate_left
          focus (intro w9 hS9; go_simp; try with_reducible rfl)
          try simp only [Act.put, List.setIfInBounds_toArray, List.set_cons_zero, List.set_cons_succ]
          refine wpAnyH_done (by kernel_rfl) ?_ _
          have hend := HFin.out _ hHeld
          clear hHeld
          go_wp2_with fail
          go_ret
          exact ⟨by simp, hend⟩
theorem neg_any (A1 L1 A2 : Option Addr) (n1 m1 c1 d1 n2 c2 : Nat) (k : Int) (cs ls : List Int) (bs : List Bool) (w : World) (r1 : RdI w.heap.size w A1 cs) (r2 : RdI w.heap.size w L1 ls) (r3 : RdB w.heap.size w A2 bs) (h1 : cs.length = n1) (h2 : ls.length = m1) (h3 : bs.length = n2) :
    Calls Try.prog 11 #[.agg #[.slice A1 n1 c1, .slice L1 m1 d1, .int .i64 k], .slice A2 n2 c2] w fun e w' => e = .returned (.bool true) ∧ Below w.heap.size w w' := by
  by_cases f1 : n1 ≤ 60 ∧ m1 ≤ 60
  · by_cases f2 : 100 < n2
    · exact neg_out1 A1 L1 A2 n1 m1 c1 d1 n2 c2 k cs ls bs w r1 r2 r3 h1 h2 h3 ⟨f1, f2⟩
    · by_cases o1 : OkL cs ls k 65536
      · by_cases hk : k = -1099511627776
        · exact neg_out3 A1 L1 A2 n1 m1 c1 d1 n2 c2 k cs ls bs w r1 r2 r3 h1 h2 h3 ⟨f1, f2, o1, hk⟩
        · obtain rfl : n1 = m1 := by have := o1.2.2.1; omega
          exact neg_main A1 L1 A2 n1 c1 d1 n2 c2 k cs ls bs w r1 r2 r3 h1 h2 h3 f1.1 (by omega) o1 hk
      · exact neg_out2 A1 L1 A2 n1 m1 c1 d1 n2 c2 k cs ls bs w r1 r2 r3 h1 h2 h3 ⟨f1, f2, o1⟩
  · exact neg_out0 A1 L1 A2 n1 m1 c1 d1 n2 c2 k cs ls bs w r1 r2 r3 h1 h2 h3 f1
end Go.Proofs.Ytoacfjmefoiflaa
