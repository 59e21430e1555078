/- The law LinForceComplete for all that comes in. -/
import Derived.Test.YtoacfjmefoiflaaFCw
import Derived.Test.YtoacfjmefoiflaaFCB
import Derived.Test.YtoacfjmefoiflaaForce
namespace Go.Proofs.Ytoacfjmefoiflaa
open Go.ChangeShapes Go.WideShapes Go.ChangeAt Go.RowKit
set_option maxRecDepth 100000

theorem fc_any (A1 L1 A2 : Option Addr) (n1 m1 n2 c1 d1 c2 : Nat) (k : Int) (w : World) (cs ls lits : List Int) (r1 : RdI w.heap.size w A1 cs) (r2 : RdI w.heap.size w L1 ls) (r3 : RdI w.heap.size w A2 lits) (h1 : cs.length = n1) (h2 : ls.length = m1) (h3 : lits.length = n2) (hcap : n2 ≤ c2) (hbig : n2 ≤ 9223372036854775807) :
    Calls Try.prog 8 #[.agg #[.slice A1 n1 c1, .slice L1 m1 d1, .int .i64 k], .slice A2 n2 c2] w fun e w' => e = .returned (.bool true) ∧ Below w.heap.size w w' := by
  have q1 := fun W (h : Below w.heap.size w W) => r1.below h (Nat.le_refl _)
  have q2 := fun W (h : Below w.heap.size w W) => r2.below h (Nat.le_refl _)
  have q3 := fun W (h : Below w.heap.size w W) => r3.below h (Nat.le_refl _)
  have hU : ∃ r : Bool, (r = true → ∀ j, j < n2 → goodV lits 8 j) ∧ ∀ W, Below w.heap.size w W → Calls Try.prog 31 #[.slice A2 n2 c2, .int .i64 8] W fun e w' => e = .returned (.bool r) ∧ Below W.heap.size W w' := by
    rcases firstV lits 8 n2 with hg | ⟨i, hi, hg, hb⟩
    · exact ⟨true, fun _ => hg, fun W h => Unlike_any w.heap.size n2 c2 n2 A2 8 true lits W (q3 W h) h.size h3 hbig hcap (by omega) (by omega) (Nat.le_refl _) hg (.inl ⟨rfl, rfl⟩)⟩
    · exact ⟨false, fun h => (by cases h), fun W h => Unlike_any w.heap.size n2 c2 i A2 8 false lits W (q3 W h) h.size h3 hbig hcap (by omega) (by omega) (by omega) hg (.inr ⟨hi, rfl, hb⟩)⟩
  obtain ⟨r, hg, hU⟩ := hU
  by_cases f1 : n1 ≤ 60 ∧ m1 ≤ 60
  · by_cases f2 : n2 ≤ 8
    · cases r with
      | false => exact fcw_out2 A1 L1 A2 n1 m1 n2 c1 d1 c2 k w hU ⟨f1, f2⟩
      | true =>
        have hCk := fun W (h : Below w.heap.size w W) => LinCheck_any w.heap.size A1 L1 n1 m1 c1 d1 k 8 cs ls W (q1 W h) (q2 W h) h.size h1 h2 (by omega) (by omega) (by omega)
        by_cases ok : OkL cs ls k 8
        · obtain rfl : n1 = m1 := by have := ok.2.2.1; omega
          have hA : Apt lits := apt_of (by rw [h3]; exact hg rfl)
          have hl64 : ls.length ≤ 64 := by omega
          exact fcw_main A1 L1 A2 n1 n1 n2 c1 d1 c2 k w lits (fRes lits cs ls k) (fOk lits cs ls k) (Ext lits cs ls k) (fun b => lits.all fun z => tv (tru (b : Int) 8) z) (fun b => decide (k ≤ wsum (tru (b : Int) 8) cs ls)) r3 h3 hU ⟨f1, f2⟩ (fun W h => (hCk W h).1 ok)
            (fun W h => Force_ok w.heap.size A1 L1 A2 n1 n1 c1 d1 n2 c2 k cs ls lits W (q1 W h) (q2 W h) (q3 W h) h.size h1 h2 (by omega) h3 (by omega) (fun j hj => goodU_of8 (hg rfl j hj)) ok.up)
            (fun W b h hb => agrees_any w.heap.size n2 c2 A2 (b : Int) lits W (q3 W h) h3 (by omega) hA.1 ⟨by omega, by omega⟩)
            (fun W b h hb => holds_any w.heap.size n1 c1 d1 A1 L1 k (b : Int) _ cs ls W (q1 W h) (q2 W h) h.size h1 h2 (by omega) (fun c hc => by have := ok.cs c hc; omega) (fun z hz => by have := ok.ls z hz; exact ⟨this.1, by omega, by omega⟩) ⟨by omega, by omega⟩ rfl)
            (fun b => rfl) (fc_ok ok hl64 hA) (fun h => by rw [fRes_no lits cs ls k h]; rfl) (fRes_len8 ok hl64) (fc_pos ok hl64 hA) (fc_neg ok hl64 hA)
        · exact fcw_out3 A1 L1 A2 n1 m1 n2 c1 d1 c2 k w hU ⟨f1, f2⟩ (fun W h => (hCk W h).2 ok)
    · exact fcw_out1 A1 L1 A2 n1 m1 n2 c1 d1 c2 k w r hU ⟨f1, by omega⟩
  · exact fcw_out0 A1 L1 A2 n1 m1 n2 c1 d1 c2 k w r hU f1
end Go.Proofs.Ytoacfjmefoiflaa
