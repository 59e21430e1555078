/- The walk of saturate. -/
import Derived.Test.YtoacfjmefoiflaaEach
namespace Go.Proofs.Ytoacfjmefoiflaa
open Go.RowKit Go.Maps
set_option maxRecDepth 100000

def satC (cs : List Int) (k : Int) : List Int := if k ≤ 0 then [] else if su cs < k then [] else mn cs k
def satL (cs ls : List Int) (k : Int) : List Int := if k ≤ 0 then [] else if su cs < k then [] else ls
def satK (cs : List Int) (k : Int) : Int := if k ≤ 0 then 0 else if su cs < k then 1 else k
theorem Bld.rd {w : World} {base : Nat} {v1 v2 : Value} {cs ls : List Int} (q1 : QI w base v1 cs) (q2 : QI w base v2 ls) : ∃ A1 c1 A2 c2, v1 = .slice A1 cs.length c1 ∧ v2 = .slice A2 ls.length c2 ∧ RdI w.heap.size w A1 cs ∧ RdI w.heap.size w A2 ls := by
  obtain ⟨A1, c1, e1, _, r1⟩ := q1.shape
  obtain ⟨A2, c2, e2, _, r2⟩ := q2.shape
  exact ⟨A1, c1, A2, c2, e1, e2, r1, r2⟩
set_option maxHeartbeats 8000000 in
theorem saturate_any (g base : Nat) (cs ls : List Int) (k : Int) (w : World) (B : Bld w g base cs ls k) (hk : Wf k) (hn : cs.length ≤ 64) (hl : cs.length = ls.length) (hcs : ∀ c ∈ cs, -140737488355328 ≤ c ∧ c ≤ 140737488355328) :
    Calls Try.prog 39 #[.pointer (some ⟨g, 0, none⟩)] w fun e w' => e = .returned (.tuple #[]) ∧ Bld w' g base (satC cs k) (satL cs ls k) (satK cs k) ∧ Below g w w' := by
  obtain ⟨v1, v2, hat, q1, q2, dis, hgb, hbs⟩ := B
  obtain ⟨W1, hW1⟩ : ∃ W1, W1 = w.alloc (.cells #[.pointer (some ⟨g, 0, none⟩)] 70) := ⟨_, rfl⟩
  have hbx : Boxed W1 w.heap.size 70 (.pointer (some ⟨g, 0, none⟩)) := by rw [hW1]; exact Boxed.new w 70 _
  have hlt := hat.lt
  have hb1 : Below w.heap.size w W1 := by rw [hW1]; exact (Below.refl _ _).alloc (Nat.le_refl _) _
  have hat1 := hat.below hb1
  have q11 : QI W1 base v1 cs := q1.same fun i hi => hb1.block i (q1.lt hi).2
  have q21 : QI W1 base v2 ls := q2.same fun i hi => hb1.block i (q2.lt hi).2
  have hne1 : v1.ownBlock ≠ some w.heap.size := fun e => by have := (q1.lt e).2; omega
  obtain ⟨A1, c1, A2, c2, rfl, rfl, r1, r2⟩ := Bld.rd q11 q21
  obtain ⟨n, hn1⟩ : ∃ n, cs.length = n := ⟨_, rfl⟩
  have hn2 : ls.length = n := by rw [← hl]; exact hn1
  rw [hn1] at hat hat1 q1 q11 dis hne1 hn
  rw [hn2] at hat hat1 q2 q21 dis
  have hF := foldS_any W1.heap.size A1 A2 n c1 c2 k cs ls W1 r1 r2 (Nat.le_refl _) hn1 hn2 hn hcs
  have HF := Lib.hid hF
  have HN := Lib.hid (And.intro hn1 hn2)
  have HQ := Lib.hid (And.intro q11 (And.intro q21 (And.intro dis hgb)))
  have HA := Lib.hid hat1
  have HX := Lib.hid hbx
  have HW := Lib.hid hW1
  have hs1 : W1.heap.size = w.heap.size + 1 := by rw [hW1]; simp
  obtain ⟨p0, p1, p2⟩ := hat1.cells
  have px := Boxed.cell hbx
  rw [hW1] at p0 p1 p2 px
  clear hat hat1 q1 q2 q11 q21 hn1 hn2 hl hW1 hbx dis hF r1 r2
  obtain ⟨T, hT⟩ : ∃ T, su cs = T := ⟨_, rfl⟩
  rw [hT] at HF
  have HT := Lib.hid hT
  clear hT
  obtain ⟨sc, hsc⟩ : ∃ sc, satC cs k = sc := ⟨_, rfl⟩
  obtain ⟨sl, hsl⟩ : ∃ sl, satL cs ls k = sl := ⟨_, rfl⟩
  obtain ⟨sk, hsk⟩ : ∃ sk, satK cs k = sk := ⟨_, rfl⟩
  rw [hsc, hsl, hsk]
  have HS := Lib.hid (And.intro hsc (And.intro hsl hsk))
  clear hsc hsl hsk
  go_enter Try.func39, Try.ntmps39
  go_wp2_with fail
  rw [← HW.out]
  clear HW
  refine HF.out.mono ?_
  rintro e w2 ⟨rfl, hb2⟩
  clear HF p0 p1 p2 px
  have hat2 := HA.out.below hb2
  obtain ⟨p0, p1, p2⟩ := hat2.cells
  have hbx2 : Boxed w2 w.heap.size 70 (.pointer (some ⟨g, 0, none⟩)) := (hb2.block _ (by omega)).trans HX.out
  have px := Boxed.cell hbx2
  have q12 := HQ.out.1.same (w' := w2) fun i hi => hb2.block i (HQ.out.1.lt hi).2
  have q22 := HQ.out.2.1.same (w' := w2) fun i hi => hb2.block i (HQ.out.2.1.lt hi).2
  have low2 : Below g w w2 := (hb1.mono (by omega)).trans (hb2.mono (by omega))
  have hs2 := hb2.size
  have H2 := Lib.hid (And.intro hat2 (And.intro hbx2 (And.intro q12 (And.intro q22 low2))))
  clear hat2 hbx2 q12 q22 low2 HA HX hb2
  have setAll : ∀ x : Int, Hid (Bld (((w2.setCell ⟨g, 0, none⟩ (.slice Option.none 0 0)).setCell ⟨g, 1, none⟩ (.slice Option.none 0 0)).setCell ⟨g, 2, none⟩ (.int .i64 x)) g base [] [] x ∧ Below g w (((w2.setCell ⟨g, 0, none⟩ (.slice Option.none 0 0)).setCell ⟨g, 1, none⟩ (.slice Option.none 0 0)).setCell ⟨g, 2, none⟩ (.int .i64 x))) := fun x =>
    Lib.hid ⟨⟨_, _, ((H2.out.1.set0 _).set1 _).set2 x, QI.nil _ _, QI.nil _ _, Dis2.nil _, HQ.out.2.2.2, by simp; omega⟩, ((H2.out.2.2.2.2.setCell (p := ⟨g, 0, none⟩) (Nat.le_refl _) _).setCell (p := ⟨g, 1, none⟩) (Nat.le_refl _) _).setCell (p := ⟨g, 2, none⟩) (Nat.le_refl _) _⟩
  have f0 := H2.out.1.frozen 0
  have f1 := (H2.out.1.set0 (.slice Option.none 0 0)).frozen 1
  have f2 := ((H2.out.1.set0 (.slice Option.none 0 0)).set1 (.slice Option.none 0 0)).frozen 2
  by_cases hk0 : k ≤ 0
  · have e1 : satC cs k = [] := by unfold satC; rw [if_pos hk0]
    have e2 : satL cs ls k = [] := by unfold satL; rw [if_pos hk0]
    have e3 : satK cs k = 0 := by unfold satK; rw [if_pos hk0]
    obtain ⟨x1, x2, x3⟩ := HS.out
    rw [e1] at x1
    rw [e2] at x2
    rw [e3] at x3
    subst x1
    subst x2
    subst x3
    have fin := setAll 0
    clear setAll e1 e2 e3
    go_wp2_with fail
    refine bodyPost_end (results_none rfl _ _ _) rfl ?_
    exact ⟨rfl, fin.out⟩
  · have g0 : decide (k ≤ 0) = false := decide_eq_false hk0
    by_cases hTk : T < k
    · have e1 : satC cs k = [] := by unfold satC; rw [if_neg hk0, HT.out, if_pos hTk]
      have e2 : satL cs ls k = [] := by unfold satL; rw [if_neg hk0, HT.out, if_pos hTk]
      have e3 : satK cs k = 1 := by unfold satK; rw [if_neg hk0, HT.out, if_pos hTk]
      obtain ⟨x1, x2, x3⟩ := HS.out
      rw [e1] at x1
      rw [e2] at x2
      rw [e3] at x3
      subst x1
      subst x2
      subst x3
      have fin := setAll 1
      clear setAll e1 e2 e3 hk0
      go_wp2_with fail
      refine bodyPost_end (results_none rfl _ _ _) rfl ?_
      exact ⟨rfl, fin.out⟩
    · have e1 : satC cs k = mn cs k := by unfold satC; rw [if_neg hk0, HT.out, if_neg hTk]
      have e2 : satL cs ls k = ls := by unfold satL; rw [if_neg hk0, HT.out, if_neg hTk]
      have e3 : satK cs k = k := by unfold satK; rw [if_neg hk0, HT.out, if_neg hTk]
      obtain ⟨x1, x2, x3⟩ := HS.out
      rw [e1] at x1
      rw [e2] at x2
      rw [e3] at x3
      subst x1
      subst x2
      subst x3
      have g1 : decide (T < k) = false := decide_eq_false hTk
      have hE := each_any g base w.heap.size cs ls k w2 ⟨_, _, H2.out.1, H2.out.2.2.1, H2.out.2.2.2.1, HQ.out.2.2.1, HQ.out.2.2.2, by omega⟩ H2.out.2.1 (by omega) (fun u1 u2 h => by
        have h3 := h.symm.trans H2.out.1
        injection h3 with h3
        injection h3 with h3
        injection h3 with h3
        injection h3 with h3 _
        rw [h3]; exact hne1) hk (by rw [HN.out.1]; omega)
      have HE := Lib.hid hE
      clear setAll e1 e2 e3 hk0 hTk f0 f1 f2 hE
      go_wp2_with fail
      refine HE.out.mono ?_
      rintro e w3 ⟨rfl, B3, hb3⟩
      have fin := Lib.hid (And.intro B3 (H2.out.2.2.2.2.trans hb3))
      clear HE B3 hb3
      go_wp2_with fail
      refine bodyPost_end (results_none rfl _ _ _) rfl ?_
      exact ⟨rfl, fin.out⟩
end Go.Proofs.Ytoacfjmefoiflaa
