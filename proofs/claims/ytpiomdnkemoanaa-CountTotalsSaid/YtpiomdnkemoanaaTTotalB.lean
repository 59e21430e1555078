/- The walk of Total where it answers. -/
import Derived.Test.YtpiomdnkemoanaaTTotal
namespace Go.Proofs.Ytpiomdnkemoanaa.Ttl
open Go.RowKit

/-- Behind the closure's call: the named results are stored back and handed over. -/
theorem ok_post {w W w5 : World} {d M m : Nat} {outs : List Int} {cl : List (List Int)} {v u : Value} {n c : Nat} {Au : Option Addr} {us : List Value} {tm : Array Value}
    (hv : RowI W (w.heap.size + 4 + d) v outs) (hci : CI d W w.heap.size M m cl) (hbu : Boxed W (w.heap.size + 1) 24 u) (hown : W.ownsRow (w.heap.size + 4 + d) 22 1 u us.length us) (hels : Els W (w.heap.size + 4 + d) us cl) (hu : u = .slice Au n c)
    (hlow : Below w.heap.size w w5) (hkp : Kp d w.heap.size w5 W)
    (h6 : tm[6]?.getD undef = v) (h7 : tm[7]?.getD undef = .pointer (some ⟨w.heap.size + 1, 0, none⟩)) (h8 : tm[8]?.getD undef = .pointer (some ⟨w.heap.size + 1 + 1, 0, none⟩)) (h9 : tm[9]?.getD undef = .int .i64 0) :
    bodyPost Try.prog Try.f25 (TotOk w outs cl m) .ret { tmps := tm, defers := [] } ((W.setCell ⟨w.heap.size + 1, 0, none⟩ u).setCell ⟨w.heap.size + 1 + 1, 0, none⟩ (.int .i64 (m : Int))) := by
  subst hu
  have b1 := (hbu.set (.slice Au n c)).other (show w.heap.size + 1 ≠ w.heap.size + 1 + 1 by omega) (.int .i64 (m : Int))
  have g1 := (hci.ba.other (show w.heap.size + 2 ≠ w.heap.size + 1 by omega) (.slice Au n c)).set (.int .i64 (m : Int))
  refine bodyPost_ret (results11 tm _ _ _ _ _ _ _ h7 h8 b1 g1) rfl ?_
  rw [h6, h9]
  have G1 := grownBy_setCell' W (w.heap.size + 1) (.slice Au n c)
  have G2 := grownBy_setCell' (W.setCell ⟨w.heap.size + 1, 0, none⟩ (.slice Au n c)) (w.heap.size + 1 + 1) (.int .i64 (m : Int))
  have m1 : (Value.slice Au n c).ownBlock = Option.none ∨ (Value.slice Au n c).ownBlock ≠ some (w.heap.size + 1) := .inr fun e => by have := (hown.lt _ e).1; omega
  have m2 : (Value.slice Au n c).ownBlock = Option.none ∨ (Value.slice Au n c).ownBlock ≠ some (w.heap.size + 1 + 1) := .inr fun e => by have := (hown.lt _ e).1; omega
  exact ⟨v, _, us, rfl, ((hv.stored (by omega)).stored (by omega)).base (by omega), own_base ((hown.kept G1 m1).kept G2 m2) (by omega), ((hels.stored (by omega)).stored (by omega)).base (by omega),
    ((hlow.trans hkp.low).setCell (p := ⟨w.heap.size + 1, 0, none⟩) (by simp) _).setCell (p := ⟨w.heap.size + 1 + 1, 0, none⟩) (by simp; omega) _⟩

theorem run_store_func {P : Program} {w : World} {a : Addr} {m : Mode} (f : Fn) (x y : Array Value) : (store a (.func f x y) m).run P w = stored P w a (.func f x y) m := run_store P w a _ m rfl
attribute [local go_sem] run_store_func

set_option maxRecDepth 20000 in
set_option maxHeartbeats 4000000 in
theorem Total_ok (A : Option Addr) (n c M m : Nat) (zs : List Int) (w : World) (hr : RdI w.heap.size w A zs) (hl : zs.length = n) (hnc : n ≤ c) (hc : c ≤ maxLen) (hn : n ≤ 4096) (h1 : 1 ≤ m) (h2 : m ≤ 65537) (hM : M ≤ 1099511627776)
    (hz : ∀ x ∈ zs, -65537 ≤ x ∧ x ≤ 65537) (hd : Tot.dist (m : Int) [] zs = true) (hs : m + Tot.size M n ≤ 65537) :
    Calls Try.prog 25 #[.slice A n c, .int .i64 (M : Int), .int .i64 (m : Int)] w (TotOk w (Tot.cnt M zs m).1 (Tot.cnt M zs m).2 (m + Tot.size M n)) := by
  have hD := distinct_any w.heap.size A n c zs (m : Int) (W3 w (M : Int)) (hr.below (W3_low w M) (Nat.le_refl _)) (W3_low w M).size hl hn (by omega) (by omega)
  rw [hd] at hD
  have hS := fun W => size_any n n M W (Nat.le_refl _) hn hM
  have K := Lib.hid (fun (W : World) (hb : Below (W3 w (M : Int)).heap.size (W3 w (M : Int)) W) => (show Boxed W w.heap.size 3 (.int .i64 (M : Int)) ∧ Boxed W (w.heap.size + 1) 24 (.slice Option.none 0 0) ∧ Boxed W (w.heap.size + 1 + 1) 3 (.int .i64 0) ∧ Below w.heap.size w W ∧ w.heap.size + 3 ≤ W.heap.size from
    ⟨Boxed.lower (W3_0 w M) hb (by rw [W3_size]; omega), Boxed.lower (W3_1 w M) hb (by rw [W3_size]; omega), Boxed.lower (W3_2 w M) hb (by rw [W3_size]; omega), (W3_low w M).trans (hb.mono (W3_low w M).size), by have := hb.size; rw [W3_size] at this; exact this⟩))
  have HC := Lib.hid (fun (d : Nat) (W W5 : World) (hlow : Below w.heap.size w W5) (hci : CI d W5 w.heap.size M m []) (hd : W.heap.size = w.heap.size + 3 + d) => (by
    have q := cnt_any d w.heap.size M hM n w.heap.size A m c zs [] W5 (by omega) (by omega) (by omega) hc (hr.below hlow (Nat.le_refl _)) (Nat.le_refl _) hz hci (by rw [hl]; exact hs) (by simp; omega)
    rw [← hd, hl] at q
    exact q : Calls Try.prog 36 #[.slice A n c, .pointer (some ⟨w.heap.size, 0, none⟩), .pointer (some ⟨W.heap.size, 0, none⟩), .pointer (some ⟨w.heap.size + 1 + 1, 0, none⟩), .pointer (some ⟨w.heap.size + 1, 0, none⟩)] W5 (CntAns d W5 w.heap.size M zs m [])))
  have HS := Lib.hid hS
  have Hl := Lib.hid hl
  unfold W3 at hD K
  have hsz := hs
  clear hd hr hl hS hz hs
  go_enter Try.func25, Try.ntmps25
  go_wp2_with fail
  refine hD.mono ?_
  rintro e W ⟨rfl, hb⟩
  obtain ⟨k0, k1, k2, klow, ksz⟩ := K.out W hb
  have hc0 := k0.cell
  have hc1 := k1.cell
  have hf1 := k1.frozen
  have hc2 := k2.cell
  have hf2 := k2.frozen
  go_wp2_with fail
  refine (HS.out W).mono ?_
  rintro e W' ⟨rfl, rfl⟩
  obtain ⟨d, hd⟩ : ∃ d, W.heap.size = w.heap.size + 3 + d := ⟨W.heap.size - (w.heap.size + 3), by omega⟩
  have HD := Lib.hid hd
  have hci := CI_start (m := m) k0 k1 k2 hd
  have hlow5 : Below w.heap.size w ((W.setCell ⟨w.heap.size + 1 + 1, 0, none⟩ (.int .i64 (m : Int))).alloc (.cells #[(.func (.func 36) #[] #[.pointer (some ⟨w.heap.size, 0, none⟩), .pointer (some ⟨W.heap.size, 0, none⟩), .pointer (some ⟨w.heap.size + 1 + 1, 0, none⟩), .pointer (some ⟨w.heap.size + 1, 0, none⟩)])] 54)) :=
    (klow.setCell (p := ⟨w.heap.size + 1 + 1, 0, none⟩) (by simp; omega) _).alloc (by simp [World.setCell]; omega) _
  have hcall := HC.out d W _ hlow5 hci hd
  have hbN : Boxed ((W.setCell ⟨w.heap.size + 1 + 1, 0, none⟩ (.int .i64 (m : Int))).alloc (.cells #[.nilFunc] 54)) W.heap.size 54 .nilFunc := by
    have := Boxed.new (W.setCell ⟨w.heap.size + 1 + 1, 0, none⟩ (.int .i64 (m : Int))) 54 .nilFunc
    rwa [show (W.setCell ⟨w.heap.size + 1 + 1, 0, none⟩ (.int .i64 (m : Int))).heap.size = W.heap.size by simp [World.setCell]] at this
  have hcN := hbN.cell
  have hfN := hbN.frozen
  have hcF' : ((W.setCell ⟨w.heap.size + 1 + 1, 0, none⟩ (.int .i64 (m : Int))).alloc (.cells #[(.func (.func 36) #[] #[.pointer (some ⟨w.heap.size, 0, none⟩), .pointer (some ⟨W.heap.size, 0, none⟩), .pointer (some ⟨w.heap.size + 1 + 1, 0, none⟩), .pointer (some ⟨w.heap.size + 1, 0, none⟩)])] 54)).cell? ⟨W.heap.size, 0, none⟩ = some (.func (.func 36) #[] #[.pointer (some ⟨w.heap.size, 0, none⟩), .pointer (some ⟨W.heap.size, 0, none⟩), .pointer (some ⟨w.heap.size + 1 + 1, 0, none⟩), .pointer (some ⟨w.heap.size + 1, 0, none⟩)]) := by
    have := Boxed.new (W.setCell ⟨w.heap.size + 1 + 1, 0, none⟩ (.int .i64 (m : Int))) 54 (.func (.func 36) #[] #[.pointer (some ⟨w.heap.size, 0, none⟩), .pointer (some ⟨W.heap.size, 0, none⟩), .pointer (some ⟨w.heap.size + 1 + 1, 0, none⟩), .pointer (some ⟨w.heap.size + 1, 0, none⟩)])
    rw [show (W.setCell ⟨w.heap.size + 1 + 1, 0, none⟩ (.int .i64 (m : Int))).heap.size = W.heap.size by simp [World.setCell]] at this
    exact this.cell
  clear hd hbN
  go_wp2_with fail
  refine hcall.mono ?_
  rintro e w9 ⟨v, rfl, hv, hci9, hkp⟩
  clear hcall hci
  rw [Hl.out, List.nil_append] at hci9
  obtain ⟨u, us, hbu, hown, hels⟩ := hci9.bc
  obtain ⟨Au, cu, rfl⟩ := own_shape hown
  have hpst := fun (tm : Array Value) => ok_post (w := w) (W := w9.drew) (tm := tm) hv (hci9.drewN 1) hbu hown hels rfl hlow5 (hkp.drewN 1)
  have Hpst := Lib.hid hpst
  have hc71 := hbu.cell
  have hf71 := hbu.frozen
  have hc72 : w9.cell? ⟨w.heap.size + 1 + 1, 0, none⟩ = some (.int .i64 ((m + Tot.size M n : Nat) : Int)) := hci9.ba.cell
  have hf72 : w9.frozen? ⟨w.heap.size + 1 + 1, 0, none⟩ = false := hci9.ba.frozen
  clear hpst hlow5 hcF' hcN hfN hkp hv hown hels hbu hci9
  obtain ⟨mm, hmm⟩ : ∃ mm, m + Tot.size M n = mm := ⟨_, rfl⟩
  rw [hmm] at hc72 Hpst ⊢
  have Hmm := Lib.hid hmm
  clear hmm
  go_wp2_with fail
  go_region
  all_goals
    go_wp2
    rw [Hmm.out]
    refine Hpst.out _ ?_ ?_ ?_ ?_ <;> rfl
end Go.Proofs.Ytpiomdnkemoanaa.Ttl
