/- The walk of newSummer. -/
import Derived.Test.YtpeklcbjhkchlaaNewM
import Derived.Test.YtpeklcbjhkchlaaAdderM
namespace Go.Proofs.Ytpeklcbjhkchlaa
open Go.RowKit Go.Maps
set_option maxRecDepth 100000

def nats (xs : List Nat) : List Int := xs.map fun x => ((x : Nat) : Int)
theorem nats_at (xs : List Nat) (j : Nat) : (nats xs)[j]?.getD 0 = ((xs[j]?.getD 0 : Nat) : Int) := by
  unfold nats
  rw [List.getElem?_map]
  cases xs[j]? <;> rfl
theorem nats_len (xs : List Nat) : (nats xs).length = xs.length := List.length_map _

theorem NewSt.made (w : World) (xs : List Nat) (ls : List Int) (next : Nat) : NewSt w xs ls next 0 0 0 0 ((w.alloc (.map #[] 0)).alloc (.cells #[.map (some w.heap.size), .int .i64 (-1), .slice Option.none 0 0, .int .i64 (next : Int)] 58)) := by
  have hb := ((Below.refl w.heap.size w).alloc (Nat.le_refl _) (.map #[] 0)).alloc (by simp) (.cells #[.map (some w.heap.size), .int .i64 (-1), .slice Option.none 0 0, .int .i64 (next : Int)] 58)
  have hm := (QM.made w).same (w' := (w.alloc (.map #[] 0)).alloc (.cells #[.map (some w.heap.size), .int .i64 (-1), .slice Option.none 0 0, .int .i64 (next : Int)] 58)) (heap_alloc_old _ _ (by simp))
  have hc := heap_alloc_new (w.alloc (.map #[] 0)) (.cells #[.map (some w.heap.size), .int .i64 (-1), .slice Option.none 0 0, .int .i64 (next : Int)] 58)
  rw [World.size_alloc] at hc
  refine ⟨hb, fun _ => .slice Option.none 0 0, 0, by omega, rfl, ?_⟩
  rw [qb_zero]
  exact ⟨hc, hm, fun p => by simpa [qs] using QI.nil _ _, fun _ _ _ => .inl rfl, by simpa using World.ownsRow_nil _ _ _ _, Els.nil _ _, fun _ h => absurd h (by simp), by omega, by omega, by omega⟩

set_option maxHeartbeats 8000000 in
theorem newSummer_any (B n c1 c2 next : Nat) (A1 A2 : Option Addr) (xs : List Nat) (ls : List Int) (w : World) (r1 : RdI B w A1 (nats xs)) (r2 : RdI B w A2 ls) (hB : B ≤ w.heap.size) (hl1 : xs.length = n) (hl2 : ls.length = n) (hn : n ≤ 4096) (hx : ∀ x ∈ xs, x ≤ 1099511627776) (hlw : ∀ y ∈ ls, -65537 ≤ y ∧ y ≤ 65537) :
    Calls Try.prog 30 #[.slice A1 n c1, .slice A2 n c2, .int .i64 (next : Int)] w fun e w' => e = .returned (.pointer (some ⟨w.heap.size + 1, 0, none⟩)) ∧ NewSt w xs ls next n 0 0 0 w' := by
  have H0 := Lib.hid (NewSt.made w xs ls next)
  have Hl := Lib.hid (And.intro hl1 hl2)
  have Hx := Lib.hid (And.intro hx hlw)
  have R := Lib.hid (And.intro r1 r2)
  clear r1 r2 hl1 hl2 hx hlw
  have hmm := @run_makeMap Try.prog
  go_enter Try.func30, Try.ntmps30
  go_wp2_with fail
  generalize ((w.alloc (.map #[] 0)).alloc (.cells #[.map (some w.heap.size), .int .i64 (-1), .slice Option.none 0 0, .int .i64 (next : Int)] 58)) = W1 at H0 ⊢
  clear hmm
  go_loopw [17] (fun i wr => ∃ j : Nat, j ≤ n ∧ i = .int .i64 j ∧ Hid (NewSt w xs ls next j 0 0 0 wr)) (fun i _ => n - (intOf i).toNat)
  case atStart => exact ⟨0, by omega, rfl, H0⟩
  case round =>
    obtain ⟨j, hj, rfl, S⟩ := hrel
    by_cases hlt : j < n
    · obtain ⟨hl1, hl2⟩ := Hl.out
      obtain ⟨x, hxj⟩ : ∃ x, xs[j]? = some x := ⟨xs[j]'(by omega), List.getElem?_eq_getElem _⟩
      obtain ⟨l, hlj⟩ : ∃ l, ls[j]? = some l := ⟨ls[j]'(by omega), List.getElem?_eq_getElem _⟩
      have hx1 := Hx.out.1 x (List.mem_of_getElem? hxj)
      have hl3 := Hx.out.2 l (List.mem_of_getElem? hlj)
      have hb := S.out.1
      have e1 : (nats xs)[j]?.getD 0 = (x : Int) := by rw [nats_at, hxj]; rfl
      have e2 : ls[j]?.getD 0 = l := by rw [hlj]; rfl
      obtain ⟨b1, o1, hA1, hb1, hc1⟩ := (R.out.1).2 (by rw [nats_len]; omega)
      obtain ⟨b2, o2, hA2, hb2, hc2⟩ := (R.out.2).2 (by omega)
      have g1 := hc1 j (by rw [nats_len]; omega)
      have g2 := hc2 j (by omega)
      rw [e1] at g1
      rw [e2] at g2
      subst hA1; subst hA2
      have k1 := (hb.cell (p := ⟨b1, o1 + j, none⟩) (by show b1 < _; omega)).trans g1
      have k2 := (hb.cell (p := ⟨b2, o2 + j, none⟩) (by show b2 < _; omega)).trans g2
      have hL := Len_any (x : Int) wr (by omega) (by omega)
      rw [Int.toNat_natCast] at hL
      obtain ⟨L, hLL⟩ : ∃ L, Lib.bitLen x = L := ⟨_, rfl⟩
      have hL41 : L ≤ 41 := by rw [← hLL]; exact Lib.bitLen_le x 41 (by omega) (by omega)
      rw [hLL] at hL
      have HLL := Lib.hid hLL
      have G1 := Lib.hid g1
      have Hj := Lib.hid (And.intro hxj hlj)
      have hL := Lib.hid hL
      have S0 : Hid (NewSt w xs ls next j x l 0 wr) := Lib.hid S.out.start
      clear hxj hlj e1 e2 hc1 hc2 g1 g2 S hl1 hl2 hb hLL
      go_wp2_with fail
      refine hL.out.mono ?_
      rintro e w' ⟨rfl, rfl⟩
      clear hL
      go_wp2_with fail
      go_loopw [28] (fun i wr => ∃ b : Nat, b ≤ L ∧ i = .int .i64 b ∧ Hid (NewSt w xs ls next j x l b wr)) (fun i _ => L - (intOf i).toNat)
      case atStart => exact ⟨0, by omega, rfl, S0⟩
      case round =>
        obtain ⟨b, hbL, rfl, S⟩ := hrel
        by_cases hlt2 : b < L
        · have hb := S.out.1
          have k3 := (hb.cell (p := ⟨b1, o1 + j, none⟩) (by show b1 < _; omega)).trans G1.out
          have hset := fun W => set_any x b W (by omega) (by omega)
          have hset := Lib.hid hset
          clear hb
          rcases ht : x.testBit b with _ | _
          · have S3 : Hid (NewSt w xs ls next j x l (b + 1) wr) := Lib.hid (S.out.skip ht)
            rw [ht] at hset
            clear S ht
            go_wp2_with fail
            refine (hset.out _).mono ?_
            rintro e w' ⟨rfl, rfl⟩
            clear hset
            go_wp2_with fail
            go_roundw
            case rel => exact ⟨b + 1, by omega, by go_num, S3⟩
            case measure => simp [intOf]; omega
          · obtain ⟨hbl, val, nn, hnn, hgv, hSm⟩ := S.out
            have hbs : w.heap.size + 2 ≤ wr.heap.size := by have := hSm.lt; omega
            have hlen : (qb (qs (xs.take j) (ls.take j)) x l b b).length ≤ 1000000 := by
              have := qb_len (xs.take j) (ls.take j) x l b b
              rw [List.length_take] at this; omega
            have htop : ((max (hgt (xs.take j)) (lb x b) : Nat) : Int) - 1 ≤ 100000 := by
              have h1 : hgt (xs.take j) ≤ 64 := hgt_le fun y hy => by have := Hx.out.1 y (List.mem_of_mem_take hy); omega
              have := lb_le x b; omega
            have hP := push_any (w.heap.size + 1) w.heap.size (w.heap.size + 2) nn b val _ _ l _ _ _ _ wr hSm ⟨by omega, by omega⟩ (by omega) (by omega) hlen hbs ⟨by omega, htop⟩
            have hfin : Hid (∀ w2, Pushed wr (w.heap.size + 1) w.heap.size (w.heap.size + 2) nn val (qb (qs (xs.take j) (ls.take j)) x l b) (((max (hgt (xs.take j)) (lb x b) : Nat) : Int) - 1) (.slice Option.none 0 0) [] [] next b l w2 → NewSt w xs ls next j x l (b + 1) w2) :=
              Lib.hid fun w2 hw2 => NewSt.push hbl hnn hgv (by omega) ht hbs hSm.q hw2
            have hP := Lib.hid hP
            rw [ht] at hset
            clear S ht hbl hnn hgv hSm hbs hlen htop
            go_wp2_with fail
            refine (hset.out _).mono ?_
            rintro e w' ⟨rfl, rfl⟩
            clear hset
            go_wp2_with fail
            refine hP.out.mono ?_
            rintro e w2 ⟨rfl, hw2⟩
            have S3 := Lib.hid (hfin.out w2 hw2)
            clear hP hfin hw2
            go_wp2_with fail
            go_roundw
            case rel => exact ⟨b + 1, by omega, by go_num, S3⟩
            case measure => simp [intOf]; omega
        · obtain rfl : b = L := by omega
          have S3 : Hid (NewSt w xs ls next (j + 1) 0 0 0 wr) := Lib.hid (S.out.term (by omega) HLL.out.symm (by omega) Hj.out.1 Hj.out.2)
          clear S HLL Hj
          go_wp2_with fail
          go_roundw
          case rel => exact ⟨j + 1, by omega, by go_num, S3⟩
          case measure => simp [intOf]; omega
    · obtain rfl : j = n := by omega
      go_wp2_with fail
      go_ret
      exact ⟨rfl, S.out⟩
end Go.Proofs.Ytpeklcbjhkchlaa
