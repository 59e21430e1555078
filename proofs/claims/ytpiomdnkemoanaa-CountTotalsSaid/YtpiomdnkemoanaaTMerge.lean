/- The walk of merge: the clauses of two halves. -/
import Derived.Test.YtpiomdnkemoanaaTAdd
namespace Go.Proofs.Ytpiomdnkemoanaa.Ttl
open Go.RowKit

theorem inner_length (a b outs : List Int) (i : Int) : ∀ m, (Tot.inner a b outs i m).length ≤ 2 * m
  | 0 => by simp [Tot.inner]
  | m + 1 => by
    have h1 := inner_length a b outs i m
    have ho : ∀ j, (Tot.opt outs j).length ≤ 1 := fun j => by unfold Tot.opt; split <;> simp
    have h2 := ho (i + m - 1)
    have h3 := ho (i + m)
    simp only [Tot.inner, Tot.step, List.length_append, List.length_map]
    omega
theorem outer_length (a b outs : List Int) : ∀ m, (Tot.outer a b outs m).length ≤ 2 * (m * (b.length + 1))
  | 0 => by simp [Tot.outer]
  | m + 1 => by
    have h1 := outer_length a b outs m
    have h2 := inner_length a b outs (m : Int) (b.length + 1)
    rw [Tot.outer, List.length_append, Nat.add_mul]
    omega
/-- What merge answers: rows of clauses, all in memory of the call's own. -/
def MergeAns (w : World) (cl : List (List Int)) (e : Ending) (w' : World) : Prop :=
  ∃ v vs, e = .returned v ∧ w'.ownsRow w.heap.size 22 1 v vs.length vs ∧ Els w' w.heap.size vs cl ∧ Below w.heap.size w w'

theorem AddIn.below {w w' : World} {B base Ba Bb Bc : Nat} {a b : List Int} {cl : List (List Int)} (h : AddIn w B base Ba Bb Bc a b cl) (hb : Below w.heap.size w w') (hB : B ≤ w.heap.size) : AddIn w' B base Ba Bb Bc a b cl := by
  obtain ⟨⟨A1, c1, h1, h2⟩, ⟨A2, c2, h3, h4⟩, h5⟩ := h
  exact ⟨⟨A1, c1, Boxed.lower h1 hb (Boxed.lt h1), h2.below hb hB⟩, ⟨A2, c2, Boxed.lower h3 hb (Boxed.lt h3), h4.below hb hB⟩, h5.below hb⟩
theorem step_eq (a b outs : List Int) (i k : Int) : Tot.step a b outs i k =
    (if elB outs (i + k - 1) then [Tot.clause a b (-1) (i - 1) (k - 1) (elV outs (i + k - 1))] else []) ++ (if elB outs (i + k) then [Tot.clause a b 1 i k (-elV outs (i + k))] else []) := by
  unfold Tot.step
  congr 1
  · cases q : elB outs (i + k - 1)
    · rw [elV_none q]; rfl
    · rw [elV_opt q]; rfl
  · cases q : elB outs (i + k)
    · rw [elV_none q]; rfl
    · rw [elV_opt q]; rfl

set_option maxRecDepth 20000 in
set_option maxHeartbeats 8000000 in
theorem merge_any (B : Nat) (A1 A2 A3 : Option Addr) (c1 c2 c3 : Nat) (a b outs : List Int) (w : World) (hra : RdI B w A1 a) (hrb : RdI B w A2 b) (hro : RdI B w A3 outs) (hB : B ≤ w.heap.size)
    (hn1 : a.length ≤ 4096) (hn2 : b.length ≤ 4096) (ha : ∀ x ∈ a, -65537 ≤ x ∧ x ≤ 65537) (hb : ∀ x ∈ b, -65537 ≤ x ∧ x ≤ 65537) (ho : ∀ x ∈ outs, -65537 ≤ x ∧ x ≤ 65537) :
    Calls Try.prog 37 #[.slice A1 a.length c1, .slice A2 b.length c2, .slice A3 outs.length c3] w (MergeAns w (Tot.merge a b outs)) := by
  have hsa : ∀ x ∈ a, -65537 ≤ -1 * x ∧ -1 * x ≤ 65537 := fun x hx => by have := ha x hx; omega
  have hsb : ∀ x ∈ b, -65537 ≤ -1 * x ∧ -1 * x ≤ 65537 := fun x hx => by have := hb x hx; omega
  have hta : ∀ x ∈ a, -65537 ≤ 1 * x ∧ 1 * x ≤ 65537 := fun x hx => by have := ha x hx; omega
  have htb : ∀ x ∈ b, -65537 ≤ 1 * x ∧ 1 * x ≤ 65537 := fun x hx => by have := hb x hx; omega
  have hel : ∀ i, elB outs i = true → -65537 ≤ elV outs i ∧ elV outs i ≤ 65537 := fun i h => ho _ (elV_mem h)
  have Hadd1 := Lib.hid (fun w' cl i k out (h : AddIn w' B (w.heap.size + 1 + 1 + 1) w.heap.size (w.heap.size + 1) (w.heap.size + 1 + 1) a b cl) (hout : Wf out) (hcl : cl.length ≤ 100000000) =>
    add_any w' B _ _ _ _ a b cl (-1) i k out h hB (by omega) (by omega) rfl hsa hsb hout hcl)
  have Hadd2 := Lib.hid (fun w' cl i k out (h : AddIn w' B (w.heap.size + 1 + 1 + 1) w.heap.size (w.heap.size + 1) (w.heap.size + 1 + 1) a b cl) (hout : Wf out) (hcl : cl.length ≤ 100000000) =>
    add_any w' B _ _ _ _ a b cl 1 i k out h hB (by omega) (by omega) rfl hta htb hout hcl)
  have Hel := Lib.hid hel
  have Hell := Lib.hid (fun w' (hb : Below w.heap.size w w') i => element_any B A3 outs.length c3 i outs w' (hro.below hb hB) rfl)
  have HI := Lib.hid (fun i m => inner_length a b outs i m)
  have HO := Lib.hid (fun m (hm : m ≤ 4096) => (by
    have h1 := outer_length a b outs m
    have h2 := Nat.mul_le_mul hm (show b.length + 1 ≤ 4097 by omega)
    omega : (Tot.outer a b outs m).length ≤ 33562624))
  have hS : Hid (∀ i k, Tot.step a b outs i k = (if elB outs (i + k - 1) then [Tot.clause a b (-1) (i - 1) (k - 1) (elV outs (i + k - 1))] else []) ++ (if elB outs (i + k) then [Tot.clause a b 1 i k (-elV outs (i + k))] else [])) := step_eq a b outs
  have h0 : AddIn (((w.alloc (.cells #[.slice A1 a.length c1] 22)).alloc (.cells #[.slice A2 b.length c2] 22)).alloc (.cells #[.slice Option.none 0 0] 24)) B (w.heap.size + 1 + 1 + 1) w.heap.size (w.heap.size + 1) (w.heap.size + 1 + 1) a b [] := by
    have hbw : Below w.heap.size w (((w.alloc (.cells #[.slice A1 a.length c1] 22)).alloc (.cells #[.slice A2 b.length c2] 22)).alloc (.cells #[.slice Option.none 0 0] 24)) := (((Below.refl _ w).alloc (Nat.le_refl _) _).alloc (by simp) _).alloc (by simp; omega) _
    refine ⟨⟨A1, c1, ((Boxed.new w 22 _).alloc _).alloc _, hra.below hbw hB⟩, ⟨A2, c2, ?_, hrb.below hbw hB⟩, .slice Option.none 0 0, [], ?_, World.ownsRow_nil _ _ _ _, Els.nil _ _⟩
    · have := (Boxed.new (w.alloc (.cells #[.slice A1 a.length c1] 22)) 22 (.slice A2 b.length c2)).alloc (.cells #[.slice Option.none 0 0] 24)
      rw [World.size_alloc] at this
      exact this
    · have := Boxed.new ((w.alloc (.cells #[.slice A1 a.length c1] 22)).alloc (.cells #[.slice A2 b.length c2] 22)) 24 (.slice Option.none 0 0)
      rw [World.size_alloc, World.size_alloc] at this
      exact this
  have hbw : Below w.heap.size w (((w.alloc (.cells #[.slice A1 a.length c1] 22)).alloc (.cells #[.slice A2 b.length c2] 22)).alloc (.cells #[.slice Option.none 0 0] 24)) := (((Below.refl _ w).alloc (Nat.le_refl _) _).alloc (by simp) _).alloc (by simp; omega) _
  clear hsa hsb hta htb hel ha hb ho hra hrb hro
  go_enter Try.func37, Try.ntmps37
  go_wp2
  generalize (((w.alloc (.cells #[.slice A1 a.length c1] 22)).alloc (.cells #[.slice A2 b.length c2] 22)).alloc (.cells #[.slice Option.none 0 0] 24)) = w1 at *
  go_loopw [20] (fun i wr => ∃ k : Nat, k ≤ a.length + 1 ∧ i = .int .i64 k ∧ AddIn wr B (w.heap.size + 1 + 1 + 1) w.heap.size (w.heap.size + 1) (w.heap.size + 1 + 1) a b (Tot.outer a b outs k) ∧ Below w.heap.size w wr) (fun i _ => a.length + 1 - (intOf i).toNat)
  case atStart => exact ⟨0, by omega, rfl, h0, hbw⟩
  case round =>
    obtain ⟨k, hk, rfl, hadd, hlow⟩ := hrel
    obtain ⟨Ab, cb, hbb, _⟩ := hadd.b
    have hcb := Boxed.cell hbb
    by_cases hlt : k < a.length + 1
    · have hol := HO.out k (by omega)
      have hout : Hid (Tot.outer a b outs (k + 1) = Tot.outer a b outs k ++ Tot.inner a b outs (k : Int) (b.length + 1)) := rfl
      have hadd0 : AddIn wr B (w.heap.size + 1 + 1 + 1) w.heap.size (w.heap.size + 1) (w.heap.size + 1 + 1) a b (Tot.outer a b outs k ++ Tot.inner a b outs (k : Int) 0) := by rw [Tot.inner, List.append_nil]; exact hadd
      clear hbb hadd
      have hdk : decide ((k : Int) < (a.length : Int) + 1) = true := decide_eq_true (by omega)
      go_wp2
      generalize Tot.outer a b outs k = os at *
      obtain ⟨wq, hwq⟩ : ∃ wq, wq = wr := ⟨_, rfl⟩
      subst hwq
      go_loopw [26] (fun i wr => ∃ m : Nat, m ≤ b.length + 1 ∧ i = .int .i64 m ∧ AddIn wr B (w.heap.size + 1 + 1 + 1) w.heap.size (w.heap.size + 1) (w.heap.size + 1 + 1) a b (os ++ Tot.inner a b outs (k : Int) m) ∧ Below w.heap.size w wr) (fun i _ => b.length + 1 - (intOf i).toNat)
      case atStart => exact ⟨0, by omega, rfl, hadd0, hlow⟩
      case round =>
        obtain ⟨m, hm, rfl, hadd, hlow2⟩ := hrel
        by_cases hlt2 : m < b.length + 1
        · have hil := HI.out (k : Int) m
          have hcl : (os ++ Tot.inner a b outs (k : Int) m).length ≤ 50000000 := by rw [List.length_append]; omega
          have hinn : Hid (os ++ Tot.inner a b outs (k : Int) (m + 1) = (os ++ Tot.inner a b outs (k : Int) m) ++ ((if elB outs ((k : Int) + m - 1) then [Tot.clause a b (-1) ((k : Int) - 1) ((m : Int) - 1) (elV outs ((k : Int) + m - 1))] else []) ++ (if elB outs ((k : Int) + m) then [Tot.clause a b 1 (k : Int) (m : Int) (-elV outs ((k : Int) + m))] else []))) := by
            show _ = _
            rw [Tot.inner, hS.out, List.append_assoc]
          have q1 := Hel.out ((k : Int) + m - 1)
          have q2 := Hel.out ((k : Int) + m)
          have E1 := Hell.out wr hlow2 ((k : Int) + m - 1)
          have E2 := Lib.hid (fun w' (hb : Below w.heap.size w w') => Hell.out w' hb ((k : Int) + m))
          generalize os ++ Tot.inner a b outs (k : Int) m = cl0 at *
          generalize elB outs ((k : Int) + m - 1) = t1 at *
          generalize elV outs ((k : Int) + m - 1) = x1 at *
          generalize elB outs ((k : Int) + m) = t2 at *
          generalize elV outs ((k : Int) + m) = x2 at *
          have Q1 := Lib.hid q1
          have Q2 := Lib.hid q2
          clear q1 q2 hil
          cases t1 <;> cases t2
          · have hfin := hinn.out
            simp only [if_false, Bool.false_eq_true, List.append_nil] at hfin
            have Hfin := Lib.hid hfin
            clear hfin hinn Q1 Q2
            go_wp2_with fail
            refine E1.mono ?_
            rintro e w' ⟨rfl, rfl⟩
            go_wp2_with fail
            refine (E2.out wr hlow2).mono ?_
            rintro e w' ⟨rfl, rfl⟩
            go_wp2
            go_roundw
            case rel => exact ⟨m + 1, by omega, by go_num, by rw [Hfin.out]; first | exact hadd | (rw [← List.append_assoc]; exact hadd), hlow2⟩
            case measure => simp [intOf]; omega
          · have r2 := Q2.out rfl
            have hfin := hinn.out
            simp only [if_true, if_false, Bool.false_eq_true, List.nil_append] at hfin
            have Hfin := Lib.hid hfin
            clear hfin hinn Q1 Q2
            go_wp2_with fail
            refine E1.mono ?_
            rintro e w' ⟨rfl, rfl⟩
            go_wp2_with fail
            refine (E2.out wr hlow2).mono ?_
            rintro e w' ⟨rfl, rfl⟩
            have G2 := Hadd2.out wr cl0 (k : Int) (m : Int) (-x2) hadd ⟨by omega, by omega⟩ (by first | omega | (simp only [List.length_append, List.length_cons, List.length_nil]; omega))
            go_wp2_with fail
            refine G2.mono ?_
            rintro e w4 ⟨⟨v4, rfl⟩, hadd4, hb4⟩
            have hlow4 := hlow2.trans (hb4.mono (by omega))
            clear G2
            go_wp2
            go_roundw
            case rel => exact ⟨m + 1, by omega, by go_num, by rw [Hfin.out]; first | exact hadd4 | (rw [← List.append_assoc]; exact hadd4), hlow4⟩
            case measure => simp [intOf]; omega
          · have r1 := Q1.out rfl
            have hfin := hinn.out
            simp only [if_true, if_false, Bool.false_eq_true, List.append_nil] at hfin
            have Hfin := Lib.hid hfin
            clear hfin hinn Q1 Q2
            go_wp2_with fail
            refine E1.mono ?_
            rintro e w' ⟨rfl, rfl⟩
            have G1 := Hadd1.out wr cl0 ((k : Int) - 1) ((m : Int) - 1) x1 hadd ⟨by omega, by omega⟩ (by omega)
            go_wp2_with fail
            refine G1.mono ?_
            rintro e w3 ⟨⟨v3, rfl⟩, hadd3, hb3⟩
            have hlow3 := hlow2.trans (hb3.mono (by omega))
            clear G1
            go_wp2_with fail
            refine (E2.out w3 hlow3).mono ?_
            rintro e w' ⟨rfl, rfl⟩
            go_wp2
            go_roundw
            case rel => exact ⟨m + 1, by omega, by go_num, by rw [Hfin.out]; first | exact hadd3 | (rw [← List.append_assoc]; exact hadd3), hlow3⟩
            case measure => simp [intOf]; omega
          · have r1 := Q1.out rfl
            have r2 := Q2.out rfl
            have hfin := hinn.out
            simp only [if_true] at hfin
            have Hfin := Lib.hid hfin
            clear hfin hinn Q1 Q2
            go_wp2_with fail
            refine E1.mono ?_
            rintro e w' ⟨rfl, rfl⟩
            have G1 := Hadd1.out wr cl0 ((k : Int) - 1) ((m : Int) - 1) x1 hadd ⟨by omega, by omega⟩ (by omega)
            go_wp2_with fail
            refine G1.mono ?_
            rintro e w3 ⟨⟨v3, rfl⟩, hadd3, hb3⟩
            have hlow3 := hlow2.trans (hb3.mono (by omega))
            clear G1
            go_wp2_with fail
            refine (E2.out w3 hlow3).mono ?_
            rintro e w' ⟨rfl, rfl⟩
            have G2 := Hadd2.out w3 (cl0 ++ [Tot.clause a b (-1) ((k : Int) - 1) ((m : Int) - 1) x1]) (k : Int) (m : Int) (-x2) hadd3 ⟨by omega, by omega⟩ (by first | omega | (simp only [List.length_append, List.length_cons, List.length_nil]; omega))
            go_wp2_with fail
            refine G2.mono ?_
            rintro e w4 ⟨⟨v4, rfl⟩, hadd4, hb4⟩
            have hlow4 := hlow3.trans (hb4.mono (by omega))
            clear G2
            go_wp2
            go_roundw
            case rel => exact ⟨m + 1, by omega, by go_num, by rw [Hfin.out]; first | exact hadd4 | (rw [← List.append_assoc]; exact hadd4), hlow4⟩
            case measure => simp [intOf]; omega
        · obtain rfl : m = b.length + 1 := by omega
          have e1 := hout.out
          rw [← e1] at hadd
          clear e1 hlt2
          go_wp2
          go_roundw
          case rel => exact ⟨k + 1, by omega, by go_num, hadd, hlow2⟩
          case measure => simp [intOf]; omega
    · obtain rfl : k = a.length + 1 := by omega
      obtain ⟨v, vs, hbc, hown, hels⟩ := hadd.c
      have hcc := hbc.cell
      clear hlt hbb
      obtain ⟨Av, cv, rfl⟩ := own_shape hown
      go_wp2
      go_ret
      exact ⟨_, vs, rfl, own_base hown (by omega), hels.base (by omega), hlow⟩
end Go.Proofs.Ytpiomdnkemoanaa.Ttl
