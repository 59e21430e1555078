/- The walk of told. -/
import Derived.Test.YtpeklcbjhkchlaaSmall
namespace Go.Proofs.Ytpeklcbjhkchlaa
open Go.ChangeShapes Go.WideShapes Go.ChangeAt Go.RowKit
set_option maxRecDepth 100000

theorem RowV.none (X : World) (base : Nat) (hb : base ≤ X.heap.size) : RowV (X.alloc (.cells #[] 4)) base (.slice (some ⟨X.heap.size, 0, Option.none⟩) 0 0) [] := by
  have := World.ownsRow_lit (base := base) (e := 4) (size := 1) X #[] 0 hb (by unfold maxLen; omega) (by simp)
  unfold RowV
  simpa using this
theorem results21 (tm : Array Value) (w : World) : (results Try.f21 tm).run Try.prog w = .ok (.tuple #[tm[8]?.getD undef, tm[9]?.getD undef]) w := by
  have hr : Try.f21.results = #[.tmp 8, .tmp 9] := rfl
  simp only [results, hr]
  simp [go_sem]
theorem tld_len (c : List (List Int)) : ∀ (n : Nat) (a b : List Bool), tld c n a = some b → b.length = a.length + n
  | 0, a, b, h => by rw [tld] at h; injection h with h; rw [h]; rfl
  | n + 1, a, b, h => by
    rw [tld] at h
    split at h
    · cases h
    · have := tld_len c n _ b h
      rw [List.length_append] at this
      simp at this; omega
theorem tld_next {c : List (List Int)} {n : Nat} {a b : List Bool} (h : tld c (n + 1) a = some b) : (frc c (a.length : Int) a == frc c (-(a.length : Int)) a) = false ∧ tld c n (a ++ [frc c (a.length : Int) a]) = some b := by
  rw [tld] at h
  split at h
  · cases h
  · rename_i h2
    exact ⟨by simpa using h2, h⟩
theorem frc_take (cl : List (List Int)) (lit : Int) (a : List Bool) (j : Nat) (h : j < cl.length) : frc (cl.take (j + 1)) lit a = (frc (cl.take j) lit a || (decide (lit ∈ cl[j]?.getD []) && oth (cl[j]?.getD []) lit a)) := by
  unfold frc
  rw [List.take_add_one, List.getElem?_eq_getElem h, Option.toList_some, List.any_append]; simp

set_option maxHeartbeats 8000000 in
theorem told_any (B C n c m d k M : Nat) (A D : Option Addr) (cl : List (List Int)) (bs b : List Bool) (w : World) (hz : RdR B w A cl) (hB : B ≤ w.heap.size) (hl : cl.length = n) (hn : n ≤ 1000000) (hb : RdB C w D bs) (hC : C ≤ w.heap.size) (hm : bs.length = m) (hm1 : 1 ≤ m) (hm2 : m + k ≤ 70000) (hM : M ≤ 70000) (hin : ∀ j, j < cl.length → (cl[j]?.getD []).length ≤ maxLen) (hx : ∀ l ∈ cl, ∀ x ∈ l, Lit M x) (ht : tld cl k bs = some b) :
    Calls Try.prog 21 #[.slice A n c, .slice D m d, .int .i64 (m : Int), .int .i64 ((m + k : Nat) : Int)] w fun e w' => ∃ E e1, e = .returned (.tuple #[.slice E (m + k) e1, .bool true]) ∧ RdB w'.heap.size w' E b ∧ Below w.heap.size w w' := by
  have hDn : D = Option.none → d = 0 := fun e => by
    obtain ⟨b0, o0, e0, _⟩ := hb (by omega)
    rw [e] at e0; cases e0
  have R := Lib.hid hz
  have RB := Lib.hid hb
  have Hl := Lib.hid hl
  have Hm := Lib.hid hm
  have Hin := Lib.hid hin
  have Hx := Lib.hid hx
  have Ht := Lib.hid ht
  have HD := Lib.hid hDn
  obtain ⟨Z, hZ⟩ : ∃ Z, Z = m + k := ⟨_, rfl⟩
  rw [← hZ]
  have HZ := Lib.hid hZ
  clear hz hb hl hm hin hx ht hDn hZ
  go_enter Try.func21, Try.ntmps21
  go_wp2_with (at_builtin; refine push_bools rfl _ _ rfl w.heap.size _ [] rfl (RowV.none w w.heap.size (Nat.le_refl _)) C D m d bs rfl (RB.out.below ((Below.refl w.heap.size w).alloc (Nat.le_refl _) _) hC) Hm.out HD.out (by simp; omega) (by simp) ?_)
  intro v1 w1 row1 low1
  have row1 : RowV w1 w.heap.size v1 bs := row1
  have low2 := ((Below.refl w.heap.size w).alloc (Nat.le_refl _) (.cells #[] 4)).trans low1
  have row1 := Lib.hid row1
  clear low1 HD RB
  go_wp2_with fail
  go_loopw [10, 11] (fun v10 v11 wr => ∃ i cur, i ≤ k ∧ v11 = .int .i64 ((m + i : Nat) : Int) ∧ cur.length = m + i ∧ tld cl (k - i) cur = some b ∧ RowV wr w.heap.size v10 cur ∧ Below w.heap.size w wr) (fun _ v _ => Z - (intOf v).toNat)
  case atStart => exact ⟨0, bs, by omega, rfl, Hm.out, Ht.out, row1.out, low2⟩
  case round =>
    obtain ⟨i, cur, hi, rfl, hcl, htl, row, low⟩ := hrel
    by_cases hlt : i < k
    · have htl2 : tld cl ((k - (i + 1)) + 1) cur = some b := by rw [show (k - (i + 1)) + 1 = k - i by omega]; exact htl
      obtain ⟨t1, t2⟩ := tld_next htl2
      rw [hcl] at t1 t2
      obtain ⟨V, hV⟩ : ∃ V, V = m + i := ⟨_, rfl⟩
      rw [← hV] at t1 t2 hcl ⊢
      obtain ⟨A8, c8, hu8, _, _, rd8⟩ := row.shape
      rw [hcl] at hu8
      subst hu8
      have hVZ : V < Z := by rw [HZ.out, hV]; omega
      have hV7 : V ≤ 70000 := by omega
      have T1 := Lib.hid t1
      have T2 := Lib.hid t2
      have HV := Lib.hid hV
      have Hcl := Lib.hid hcl
      have Row := Lib.hid row
      have Rd8 := Lib.hid rd8
      have RR := Lib.hid (R.out.below low hB)
      have ht0 : frc (cl.take 0) (V : Int) cur = false := rfl
      have ht0' : frc (cl.take 0) (-(V : Int)) cur = false := rfl
      clear t1 t2 hV hcl htl htl2 row rd8
      rename World => W0
      go_wp2_with fail
      go_loopw [12, 13, 14] (fun v12 v13 v14 wr => ∃ j q : Nat, j ≤ n ∧ v14 = .int .i64 j ∧ v12 = .bool (frc (cl.take j) (V : Int) cur) ∧ v13 = .bool (frc (cl.take j) (-(V : Int)) cur) ∧ wr = W0.drewN q) (fun _ _ v _ => n - (intOf v).toNat)
      case atStart => exact ⟨0, 0, by omega, rfl, rfl, rfl, rfl⟩
      case round =>
        obtain ⟨j, q, hj, rfl, rfl, rfl, rfl⟩ := hrel
        by_cases hjn : j < n
        · have hjl : j < cl.length := by rw [Hl.out]; exact hjn
          obtain ⟨b2, off2, hA, _, hc⟩ := RR.out (by omega)
          obtain ⟨E, ec, hc1, hr1⟩ := hc j hjl
          have hxl := Hin.out j hjl
          have hlits := Hx.out _ (show cl[j]?.getD [] ∈ cl by rw [List.getElem?_eq_getElem hjl]; exact List.getElem_mem hjl)
          have f1 := frc_take cl (V : Int) cur j hjl
          have f2 := frc_take cl (-(V : Int)) cur j hjl
          have hcell : W0.cell? ⟨b2, off2 + j, none⟩ = some (.slice E (cl[j]?.getD []).length ec) := hc1
          have F1 := Lib.hid f1
          have F2 := Lib.hid f2
          have Hlits := Lib.hid hlits
          have Hr1 := Lib.hid hr1
          clear hc hjl f1 f2 hlits hr1 hc1
          cases hA
          generalize cl[j]?.getD [] = x at *
          obtain ⟨L, hL⟩ : ∃ L, x.length = L := ⟨_, rfl⟩
          rw [hL] at hcell hxl
          have HL := Lib.hid hL
          clear hL
          have hs := fun (y : Int) (W : World) (h : Hid (∃ k, W = W0.drewN k)) => has_any B L ec E x y W (by obtain ⟨k, rfl⟩ := h.out; exact Hr1.out) HL.out hxl
          have ho := fun (y : Int) (W : World) (h : Hid (∃ k, W = W0.drewN k)) => other_any B W0.heap.size L ec V c8 M E A8 x cur y (V : Int) W (by obtain ⟨k, rfl⟩ := h.out; exact Hr1.out) HL.out hxl (by obtain ⟨k, rfl⟩ := h.out; exact Rd8.out) Hcl.out hV7 rfl Hlits.out hM
          have Hs := Lib.hid hs
          have Ho := Lib.hid ho
          clear hs ho
          obtain ⟨p1, hp1⟩ : ∃ p, decide ((V : Int) ∈ x) = p := ⟨_, rfl⟩
          obtain ⟨p2, hp2⟩ : ∃ p, decide (-(V : Int) ∈ x) = p := ⟨_, rfl⟩
          obtain ⟨o1, ho1⟩ : ∃ p, oth x (V : Int) cur = p := ⟨_, rfl⟩
          obtain ⟨o2, ho2⟩ : ∃ p, oth x (-(V : Int)) cur = p := ⟨_, rfl⟩
          have HS1 := Hs.out (V : Int)
          have HS2 := Hs.out (-(V : Int))
          have HO1 := Ho.out (V : Int)
          have HO2 := Ho.out (-(V : Int))
          have f1 := F1.out
          have f2 := F2.out
          rw [hp1] at HS1 f1
          rw [hp2] at HS2 f2
          rw [ho1] at HO1 f1
          rw [ho2] at HO2 f2
          replace HS1 := Lib.hid HS1
          replace HS2 := Lib.hid HS2
          replace HO1 := Lib.hid HO1
          replace HO2 := Lib.hid HO2
          replace F1 := Lib.hid f1
          replace F2 := Lib.hid f2
          clear hp1 hp2 ho1 ho2 f1 f2 Hs Ho Hr1 Hlits
          generalize frc (cl.take j) (V : Int) cur = z1 at *
          generalize frc (cl.take j) (-(V : Int)) cur = z2 at *
          cases z1 with
          | true =>
            cases z2 with
            | true =>
              go_wp2_with fail
              go_roundw
              case rel => exact ⟨j + 1, _, by omega, by go_num, by rw [F1.out]; rfl, by rw [F2.out]; rfl, by first | rfl | exact World.drewN_drewN .. | (rw [World.drewN_drewN, World.drewN_drewN])⟩
              case measure => simp [intOf]; omega
            | false =>
              cases p2 with
              | true =>
                go_wp2_with fail
                refine (HS2.out _ (Lib.hid ⟨_, rfl⟩)).mono ?_
                rintro e w' ⟨rfl, rfl⟩
                go_wp2_with fail
                refine (HO2.out _ (Lib.hid ⟨_, rfl⟩)).mono ?_
                rintro e w' ⟨rfl, kk2, hkk2⟩
                rw [World.drewN_drewN] at hkk2
                subst hkk2
                go_wp2_with fail
                go_roundw
                case rel => exact ⟨j + 1, _, by omega, by go_num, by rw [F1.out]; rfl, by rw [F2.out]; rfl, by first | rfl | exact World.drewN_drewN .. | (rw [World.drewN_drewN, World.drewN_drewN])⟩
                case measure => simp [intOf]; omega
              | false =>
                go_wp2_with fail
                refine (HS2.out _ (Lib.hid ⟨_, rfl⟩)).mono ?_
                rintro e w' ⟨rfl, rfl⟩
                go_wp2_with fail
                go_roundw
                case rel => exact ⟨j + 1, _, by omega, by go_num, by rw [F1.out]; rfl, by rw [F2.out]; rfl, by first | rfl | exact World.drewN_drewN .. | (rw [World.drewN_drewN, World.drewN_drewN])⟩
                case measure => simp [intOf]; omega
          | false =>
            cases p1 with
            | true =>
              cases z2 with
              | true =>
                go_wp2_with fail
                refine (HS1.out _ (Lib.hid ⟨_, rfl⟩)).mono ?_
                rintro e w' ⟨rfl, rfl⟩
                go_wp2_with fail
                refine (HO1.out _ (Lib.hid ⟨_, rfl⟩)).mono ?_
                rintro e w' ⟨rfl, kk1, hkk1⟩
                rw [World.drewN_drewN] at hkk1
                subst hkk1
                go_wp2_with fail
                go_roundw
                case rel => exact ⟨j + 1, _, by omega, by go_num, by rw [F1.out]; rfl, by rw [F2.out]; rfl, by first | rfl | exact World.drewN_drewN .. | (rw [World.drewN_drewN, World.drewN_drewN])⟩
                case measure => simp [intOf]; omega
              | false =>
                cases p2 with
                | true =>
                  go_wp2_with fail
                  refine (HS1.out _ (Lib.hid ⟨_, rfl⟩)).mono ?_
                  rintro e w' ⟨rfl, rfl⟩
                  go_wp2_with fail
                  refine (HO1.out _ (Lib.hid ⟨_, rfl⟩)).mono ?_
                  rintro e w' ⟨rfl, kk1, hkk1⟩
                  rw [World.drewN_drewN] at hkk1
                  subst hkk1
                  go_wp2_with fail
                  refine (HS2.out _ (Lib.hid ⟨_, rfl⟩)).mono ?_
                  rintro e w' ⟨rfl, rfl⟩
                  go_wp2_with fail
                  refine (HO2.out _ (Lib.hid ⟨_, rfl⟩)).mono ?_
                  rintro e w' ⟨rfl, kk2, hkk2⟩
                  rw [World.drewN_drewN] at hkk2
                  subst hkk2
                  go_wp2_with fail
                  go_roundw
                  case rel => exact ⟨j + 1, _, by omega, by go_num, by rw [F1.out]; rfl, by rw [F2.out]; rfl, by first | rfl | exact World.drewN_drewN .. | (rw [World.drewN_drewN, World.drewN_drewN])⟩
                  case measure => simp [intOf]; omega
                | false =>
                  go_wp2_with fail
                  refine (HS1.out _ (Lib.hid ⟨_, rfl⟩)).mono ?_
                  rintro e w' ⟨rfl, rfl⟩
                  go_wp2_with fail
                  refine (HO1.out _ (Lib.hid ⟨_, rfl⟩)).mono ?_
                  rintro e w' ⟨rfl, kk1, hkk1⟩
                  rw [World.drewN_drewN] at hkk1
                  subst hkk1
                  go_wp2_with fail
                  refine (HS2.out _ (Lib.hid ⟨_, rfl⟩)).mono ?_
                  rintro e w' ⟨rfl, rfl⟩
                  go_wp2_with fail
                  go_roundw
                  case rel => exact ⟨j + 1, _, by omega, by go_num, by rw [F1.out]; rfl, by rw [F2.out]; rfl, by first | rfl | exact World.drewN_drewN .. | (rw [World.drewN_drewN, World.drewN_drewN])⟩
                  case measure => simp [intOf]; omega
            | false =>
              cases z2 with
              | true =>
                go_wp2_with fail
                refine (HS1.out _ (Lib.hid ⟨_, rfl⟩)).mono ?_
                rintro e w' ⟨rfl, rfl⟩
                go_wp2_with fail
                go_roundw
                case rel => exact ⟨j + 1, _, by omega, by go_num, by rw [F1.out]; rfl, by rw [F2.out]; rfl, by first | rfl | exact World.drewN_drewN .. | (rw [World.drewN_drewN, World.drewN_drewN])⟩
                case measure => simp [intOf]; omega
              | false =>
                cases p2 with
                | true =>
                  go_wp2_with fail
                  refine (HS1.out _ (Lib.hid ⟨_, rfl⟩)).mono ?_
                  rintro e w' ⟨rfl, rfl⟩
                  go_wp2_with fail
                  refine (HS2.out _ (Lib.hid ⟨_, rfl⟩)).mono ?_
                  rintro e w' ⟨rfl, rfl⟩
                  go_wp2_with fail
                  refine (HO2.out _ (Lib.hid ⟨_, rfl⟩)).mono ?_
                  rintro e w' ⟨rfl, kk2, hkk2⟩
                  rw [World.drewN_drewN] at hkk2
                  subst hkk2
                  go_wp2_with fail
                  go_roundw
                  case rel => exact ⟨j + 1, _, by omega, by go_num, by rw [F1.out]; rfl, by rw [F2.out]; rfl, by first | rfl | exact World.drewN_drewN .. | (rw [World.drewN_drewN, World.drewN_drewN])⟩
                  case measure => simp [intOf]; omega
                | false =>
                  go_wp2_with fail
                  refine (HS1.out _ (Lib.hid ⟨_, rfl⟩)).mono ?_
                  rintro e w' ⟨rfl, rfl⟩
                  go_wp2_with fail
                  refine (HS2.out _ (Lib.hid ⟨_, rfl⟩)).mono ?_
                  rintro e w' ⟨rfl, rfl⟩
                  go_wp2_with fail
                  go_roundw
                  case rel => exact ⟨j + 1, _, by omega, by go_num, by rw [F1.out]; rfl, by rw [F2.out]; rfl, by first | rfl | exact World.drewN_drewN .. | (rw [World.drewN_drewN, World.drewN_drewN])⟩
                  case measure => simp [intOf]; omega
        · obtain rfl : j = n := by omega
          have e0 : ∀ lit : Int, frc (cl.take j) lit cur = frc cl lit cur := fun lit => by rw [← Hl.out, List.take_length]
          rw [e0, e0]
          have t1 := T1.out
          have t2 := T2.out
          generalize frc cl (V : Int) cur = z1 at *
          generalize frc cl (-(V : Int)) cur = z2 at *
          have t2 := Lib.hid t2
          have HCL := Hcl.out
          have HVV := HV.out
          have row3 := Lib.hid (Row.out.drewN q)
          have low3 := below_drewN low q
          have hlc : cur.length ≤ 1000000 := by omega
          clear e0 T2 T1 ht0 ht0' RR Row low Rd8 Hcl HV
          generalize W0.drewN q = W3 at row3 low3 ⊢
          go_wp2_with (at_builtin; refine push_bool rfl _ _ rfl w.heap.size _ cur rfl row3.out z1 rfl hlc low3.size ?_)
          intro v' w4 row4 low4
          have low5 := low3.trans low4
          clear row3 low3 low4
          obtain ⟨A9, c9, hu9, _, _, _⟩ := row4.shape
          have hu9 := Lib.hid hu9
          have row4 := Lib.hid row4
          go_wp2_with fail
          go_roundw
          case rel => exact ⟨i + 1, cur ++ [z1], by omega, by rw [show m + (i + 1) = V + 1 by omega]; go_num, by rw [List.length_append, HCL]; simp; omega, by rw [show k - (i + 1) = k - (i + 1) from rfl]; exact t2.out, row4.out, low5⟩
          case measure => simp [intOf]; omega
    · obtain rfl : i = k := by omega
      rw [Nat.sub_self, tld] at htl
      injection htl with htl
      subst htl
      obtain ⟨A8, c8, hu8, _, _, rd8⟩ := row.shape
      rw [hcl] at hu8
      subst hu8
      have HZZ := HZ.out
      rw [← HZZ]
      clear row hcl HZ
      have hZZ := Lib.hid HZZ
      clear HZZ
      go_wp2_with fail
      refine bodyPost_ret (results21 _ _) rfl ?_
      exact ⟨A8, c8, rfl, rd8, low⟩
end Go.Proofs.Ytpeklcbjhkchlaa
