/- The walk of Total. -/
import Derived.Test.YtpiomdnkemoanaaTCnt
import Derived.Test.YtpiomdnkemoanaaTDist
namespace Go.Proofs.Ytpiomdnkemoanaa.Ttl
open Go.RowKit

theorem results11 (tm : Array Value) (w : World) (g7 g8 n c : Nat) (m : Int) (A : Option Addr) (h7 : tm[7]?.getD undef = .pointer (some ⟨g7, 0, none⟩)) (h8 : tm[8]?.getD undef = .pointer (some ⟨g8, 0, none⟩))
    (hb : Boxed w g7 24 (.slice A n c)) (hg : Boxed w g8 3 (.int .i64 m)) : (results Try.f25 tm).run Try.prog w = .ok (.tuple #[tm[6]?.getD undef, .slice A n c, .int .i64 m, tm[9]?.getD undef]) w := by
  have hr : Try.f25.results = #[.tmp 6, .cell 7 24, .cell 8 3, .tmp 9] := rfl
  have hcb := hb.cell
  have hcg := hg.cell
  simp only [results, hr]
  simp [go_sem, h7, h8, hcb, hcg]
/-- Total refuses. -/
def TotErr (w : World) (k : Int) (e : Ending) (w' : World) : Prop := e = .returned (.tuple #[.slice Option.none 0 0, .slice Option.none 0 0, .int .i64 0, .int .i64 k]) ∧ Below w.heap.size w w'
theorem err_post {w W : World} {k : Int} {tm : Array Value} (hb : Boxed W (w.heap.size + 1) 24 (.slice Option.none 0 0)) (hg : Boxed W (w.heap.size + 1 + 1) 3 (.int .i64 0)) (hlow : Below w.heap.size w W)
    (h6 : tm[6]?.getD undef = .slice Option.none 0 0) (h7 : tm[7]?.getD undef = .pointer (some ⟨w.heap.size + 1, 0, none⟩)) (h8 : tm[8]?.getD undef = .pointer (some ⟨w.heap.size + 1 + 1, 0, none⟩)) (h9 : tm[9]?.getD undef = .int .i64 k) :
    bodyPost Try.prog Try.f25 (TotErr w k) .ret { tmps := tm, defers := [] } ((W.setCell ⟨w.heap.size + 1, 0, none⟩ (.slice Option.none 0 0)).setCell ⟨w.heap.size + 1 + 1, 0, none⟩ (.int .i64 0)) := by
  have b1 := (hb.set (.slice Option.none 0 0)).other (show w.heap.size + 1 ≠ w.heap.size + 1 + 1 by omega) (.int .i64 0)
  have g1 := (hg.other (show w.heap.size + 1 + 1 ≠ w.heap.size + 1 by omega) (.slice Option.none 0 0)).set (.int .i64 0)
  refine bodyPost_ret (results11 tm _ _ _ _ _ _ _ h7 h8 b1 g1) rfl ?_
  rw [h6, h9]
  exact ⟨rfl, (hlow.setCell (p := ⟨w.heap.size + 1, 0, none⟩) (by simp) _).setCell (p := ⟨w.heap.size + 1 + 1, 0, none⟩) (by simp; omega) _⟩
theorem err_post0 {w W : World} {k : Int} {tm : Array Value} (hb : Boxed W (w.heap.size + 1) 24 (.slice Option.none 0 0)) (hg : Boxed W (w.heap.size + 1 + 1) 3 (.int .i64 0)) (hlow : Below w.heap.size w W)
    (h6 : tm[6]?.getD undef = .slice Option.none 0 0) (h7 : tm[7]?.getD undef = .pointer (some ⟨w.heap.size + 1, 0, none⟩)) (h8 : tm[8]?.getD undef = .pointer (some ⟨w.heap.size + 1 + 1, 0, none⟩)) (h9 : tm[9]?.getD undef = .int .i64 k) :
    bodyPost Try.prog Try.f25 (TotErr w k) .ret { tmps := tm, defers := [] } W := by
  refine bodyPost_ret (results11 tm _ _ _ _ _ _ _ h7 h8 hb hg) rfl ?_
  rw [h6, h9]
  exact ⟨rfl, hlow⟩
/-- The cells of Total as it begins. -/
def W3 (w : World) (most : Int) : World := ((w.alloc (.cells #[.int .i64 most] 3)).alloc (.cells #[.slice Option.none 0 0] 24)).alloc (.cells #[.int .i64 0] 3)
theorem W3_size (w : World) (most : Int) : (W3 w most).heap.size = w.heap.size + 3 := by simp [W3]
theorem W3_low (w : World) (most : Int) : Below w.heap.size w (W3 w most) := (((Below.refl _ w).alloc (Nat.le_refl _) _).alloc (by simp) _).alloc (by simp; omega) _
theorem W3_0 (w : World) (most : Int) : Boxed (W3 w most) w.heap.size 3 (.int .i64 most) := ((Boxed.new w 3 _).alloc _).alloc _
theorem W3_1 (w : World) (most : Int) : Boxed (W3 w most) (w.heap.size + 1) 24 (.slice Option.none 0 0) := by
  have := (Boxed.new (w.alloc (.cells #[.int .i64 most] 3)) 24 (.slice Option.none 0 0)).alloc (.cells #[.int .i64 0] 3)
  rw [World.size_alloc] at this
  exact this
theorem W3_2 (w : World) (most : Int) : Boxed (W3 w most) (w.heap.size + 1 + 1) 3 (.int .i64 0) := by
  have := Boxed.new ((w.alloc (.cells #[.int .i64 most] 3)).alloc (.cells #[.slice Option.none 0 0] 24)) 3 (.int .i64 0)
  rw [World.size_alloc, World.size_alloc] at this
  exact this

set_option maxHeartbeats 2000000 in
theorem Total_arg (A : Option Addr) (n c : Nat) (most next : Int) (w : World) (h : next < 1 ∨ 65537 < next ∨ most < 0 ∨ 1099511627776 < most ∨ 4096 < (n : Int)) :
    Calls Try.prog 25 #[.slice A n c, .int .i64 most, .int .i64 next] w (TotErr w 1) := by
  have hp := fun tm => err_post0 (k := 1) (tm := tm) (W3_1 w most) (W3_2 w most) (W3_low w most)
  unfold W3 at hp
  have Hp := Lib.hid hp
  clear hp
  by_cases h1 : next < 1
  · clear h
    go_enter Try.func25, Try.ntmps25
    go_wp2
    refine Hp.out _ ?_ ?_ ?_ ?_ <;> rfl
  · by_cases h2 : 65537 < next
    · clear h h1
      go_enter Try.func25, Try.ntmps25
      go_wp2
      refine Hp.out _ ?_ ?_ ?_ ?_ <;> rfl
    · by_cases h3 : most < 0
      · have h1' : 1 ≤ next := by omega
        have h2' : next ≤ 65537 := by omega
        clear h h1 h2
        go_enter Try.func25, Try.ntmps25
        go_wp2
        refine Hp.out _ ?_ ?_ ?_ ?_ <;> rfl
      · by_cases h4 : 1099511627776 < most
        · have h1' : 1 ≤ next := by omega
          have h2' : next ≤ 65537 := by omega
          have h3' : 0 ≤ most := by omega
          clear h h1 h2 h3
          go_enter Try.func25, Try.ntmps25
          go_wp2
          refine Hp.out _ ?_ ?_ ?_ ?_ <;> rfl
        · have h1' : 1 ≤ next := by omega
          have h2' : next ≤ 65537 := by omega
          have h3' : 0 ≤ most := by omega
          have h4' : most ≤ 1099511627776 := by omega
          have h5' : 4096 < n := by omega
          clear h h1 h2 h3 h4
          go_enter Try.func25, Try.ntmps25
          go_wp2
          refine Hp.out _ ?_ ?_ ?_ ?_ <;> rfl

section
variable (A : Option Addr) (n c M : Nat) (zs : List Int) (next : Int) (w : World) (hr : RdI w.heap.size w A zs) (hl : zs.length = n) (hn : n ≤ 4096) (h1 : 1 ≤ next) (h2 : next ≤ 65537) (hM : M ≤ 1099511627776)
include hr hl hn h1 h2 hM

set_option maxHeartbeats 2000000 in
theorem Total_lit (hd : Tot.dist next [] zs = false) : Calls Try.prog 25 #[.slice A n c, .int .i64 (M : Int), .int .i64 next] w (TotErr w 140) := by
  have hD := distinct_any w.heap.size A n c zs next (W3 w (M : Int)) (hr.below (W3_low w M) (Nat.le_refl _)) (W3_low w M).size hl hn h1 h2
  rw [hd] at hD
  have hp := fun (W : World) (hb : Below (W3 w (M : Int)).heap.size (W3 w (M : Int)) W) tm => err_post (k := 140) (tm := tm) (Boxed.lower (W3_1 w M) hb (by rw [W3_size]; omega)) (Boxed.lower (W3_2 w M) hb (by rw [W3_size]; omega)) ((W3_low w M).trans (hb.mono (W3_low w M).size))
  have k1 := fun (W : World) (hb : Below (W3 w (M : Int)).heap.size (W3 w (M : Int)) W) => Boxed.lower (W3_1 w M) hb (by rw [W3_size]; omega)
  have k2 := fun (W : World) (hb : Below (W3 w (M : Int)).heap.size (W3 w (M : Int)) W) => Boxed.lower (W3_2 w M) hb (by rw [W3_size]; omega)
  have Hp := Lib.hid hp
  have K1 := Lib.hid k1
  have K2 := Lib.hid k2
  unfold W3 at hD Hp K1 K2
  clear hp k1 k2 hd hr hl
  go_enter Try.func25, Try.ntmps25
  go_wp2_with fail
  refine hD.mono ?_
  rintro e W ⟨rfl, hb⟩
  have hc1 := (K1.out W hb).cell
  have hf1 := (K1.out W hb).frozen
  have hc2 := (K2.out W hb).cell
  have hf2 := (K2.out W hb).frozen
  go_wp2
  refine Hp.out _ hb _ ?_ ?_ ?_ ?_ <;> rfl

set_option maxHeartbeats 2000000 in
theorem Total_bound (hd : Tot.dist next [] zs = true) (hbig : 65537 < next + (Tot.size M n : Nat)) : Calls Try.prog 25 #[.slice A n c, .int .i64 (M : Int), .int .i64 next] w (TotErr w 2) := by
  have hD := distinct_any w.heap.size A n c zs next (W3 w (M : Int)) (hr.below (W3_low w M) (Nat.le_refl _)) (W3_low w M).size hl hn h1 h2
  rw [hd] at hD
  have hS := fun W => size_any n n M W (Nat.le_refl _) hn hM
  have hsl := size_small_le M n hn
  have hp := fun (W : World) (hb : Below (W3 w (M : Int)).heap.size (W3 w (M : Int)) W) tm => err_post (k := 2) (tm := tm) (Boxed.lower (W3_1 w M) hb (by rw [W3_size]; omega)) (Boxed.lower (W3_2 w M) hb (by rw [W3_size]; omega)) ((W3_low w M).trans (hb.mono (W3_low w M).size))
  have k0 := fun (W : World) (hb : Below (W3 w (M : Int)).heap.size (W3 w (M : Int)) W) => Boxed.lower (W3_0 w M) hb (by rw [W3_size]; omega)
  have k1 := fun (W : World) (hb : Below (W3 w (M : Int)).heap.size (W3 w (M : Int)) W) => Boxed.lower (W3_1 w M) hb (by rw [W3_size]; omega)
  have k2 := fun (W : World) (hb : Below (W3 w (M : Int)).heap.size (W3 w (M : Int)) W) => Boxed.lower (W3_2 w M) hb (by rw [W3_size]; omega)
  have Hp := Lib.hid hp
  have K0 := Lib.hid k0
  have K1 := Lib.hid k1
  have K2 := Lib.hid k2
  have HS := Lib.hid hS
  unfold W3 at hD Hp K0 K1 K2
  clear hp k0 k1 k2 hd hr hl hS
  generalize Tot.size M n = sz at *
  go_enter Try.func25, Try.ntmps25
  go_wp2_with fail
  refine hD.mono ?_
  rintro e W ⟨rfl, hb⟩
  have hc0 := (K0.out W hb).cell
  have hc1 := (K1.out W hb).cell
  have hf1 := (K1.out W hb).frozen
  have hc2 := (K2.out W hb).cell
  have hf2 := (K2.out W hb).frozen
  go_wp2_with fail
  refine (HS.out W).mono ?_
  rintro e W' ⟨rfl, rfl⟩
  go_wp2
  refine Hp.out _ hb _ ?_ ?_ ?_ ?_ <;> rfl
end

/-- Total answers. -/
def TotOk (w : World) (outs : List Int) (cl : List (List Int)) (after : Nat) (e : Ending) (w' : World) : Prop :=
  ∃ v u us, e = .returned (.tuple #[v, u, .int .i64 (after : Int), .int .i64 0]) ∧ RowI w' w.heap.size v outs ∧ w'.ownsRow w.heap.size 22 1 u us.length us ∧ Els w' w.heap.size us cl ∧ Below w.heap.size w w'

theorem CI_start {W : World} {s d M m : Nat} (h0 : Boxed W s 3 (.int .i64 (M : Int))) (h1 : Boxed W (s + 1) 24 (.slice Option.none 0 0)) (h2 : Boxed W (s + 1 + 1) 3 (.int .i64 0)) (hd : W.heap.size = s + 3 + d) :
    CI d ((W.setCell ⟨s + 1 + 1, 0, none⟩ (.int .i64 (m : Int))).alloc (.cells #[(.func (.func 36) #[] #[.pointer (some ⟨s, 0, none⟩), .pointer (some ⟨W.heap.size, 0, none⟩), .pointer (some ⟨s + 1 + 1, 0, none⟩), .pointer (some ⟨s + 1, 0, none⟩)])] 54)) s M m [] := by
  have e0 := (h0.other (show s ≠ s + 1 + 1 by omega) (.int .i64 (m : Int))).alloc (.cells #[(.func (.func 36) #[] #[.pointer (some ⟨s, 0, none⟩), .pointer (some ⟨W.heap.size, 0, none⟩), .pointer (some ⟨s + 1 + 1, 0, none⟩), .pointer (some ⟨s + 1, 0, none⟩)])] 54)
  have e1 := (h1.other (show s + 1 ≠ s + 1 + 1 by omega) (.int .i64 (m : Int))).alloc (.cells #[(.func (.func 36) #[] #[.pointer (some ⟨s, 0, none⟩), .pointer (some ⟨W.heap.size, 0, none⟩), .pointer (some ⟨s + 1 + 1, 0, none⟩), .pointer (some ⟨s + 1, 0, none⟩)])] 54)
  have e2 := (h2.set (.int .i64 (m : Int))).alloc (.cells #[(.func (.func 36) #[] #[.pointer (some ⟨s, 0, none⟩), .pointer (some ⟨W.heap.size, 0, none⟩), .pointer (some ⟨s + 1 + 1, 0, none⟩), .pointer (some ⟨s + 1, 0, none⟩)])] 54)
  have e3 := (Boxed.new (W.setCell ⟨s + 1 + 1, 0, none⟩ (.int .i64 (m : Int))) 54 (.func (.func 36) #[] #[.pointer (some ⟨s, 0, none⟩), .pointer (some ⟨W.heap.size, 0, none⟩), .pointer (some ⟨s + 1 + 1, 0, none⟩), .pointer (some ⟨s + 1, 0, none⟩)]))
  have hs : (W.setCell ⟨s + 1 + 1, 0, none⟩ (.int .i64 (m : Int))).heap.size = W.heap.size := by simp [World.setCell]
  rw [hs] at e3
  refine ⟨e0, ⟨_, [], e1, World.ownsRow_nil _ _ _ _, Els.nil _ _⟩, e2, ?_⟩
  rw [← hd]
  exact e3
end Go.Proofs.Ytpiomdnkemoanaa.Ttl
