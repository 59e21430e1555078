/- The walks of open, Clone, Open: what a frame's reading answers. -/
import Derived.Test.YtbhojobonihccaaSum
import Derived.WalkSpells
namespace Go.Proofs.Ytbhojobonihccaa
open Go.RowKit

theorem add_plain (b off k : Nat) : (⟨b, off, none⟩ : Addr).add k = ⟨b, off + k, none⟩ := by unfold Addr.add; split <;> simp_all

/-- Where a slice begins that is cut at k. -/
def cutA (cap k : Nat) (A : Option Addr) : Option Addr := if cap = k then A else A.map (·.add k)

theorem Rd.cut {B : Nat} {w : World} {A : Option Addr} {bs : List Nat} (h : Rd B w A bs) {k cap : Nat} (hc : bs.length ≤ cap) : Rd B w (cutA cap k A) (bs.drop k) := by
  refine ⟨fun c hx => h.1 c (List.mem_of_mem_drop hx), fun hn => ?_⟩
  rw [List.length_drop] at hn
  obtain ⟨b, off, rfl, hb, hcell⟩ := h.2 (by omega)
  refine ⟨b, off + k, ?_, hb, fun j hj => ?_⟩
  · unfold cutA; rw [if_neg (by omega)]; simp [add_plain]
  · rw [List.length_drop] at hj
    have := hcell (k + j) (by omega)
    rw [Nat.add_assoc, this, List.getElem?_drop]
theorem Rd.take {B : Nat} {w : World} {A : Option Addr} {bs : List Nat} (h : Rd B w A bs) (n : Nat) : Rd B w A (bs.take n) := by
  refine ⟨fun c hx => h.1 c (List.mem_of_mem_take hx), fun hn => ?_⟩
  rw [List.length_take] at hn
  obtain ⟨b, off, rfl, hb, hcell⟩ := h.2 (by omega)
  refine ⟨b, off, rfl, hb, fun j hj => ?_⟩
  rw [List.length_take] at hj
  rw [hcell j (by omega), List.getElem?_take_of_lt (by omega)]
theorem Rd.drewN {B : Nat} {w : World} {A : Option Addr} {bs : List Nat} (h : Rd B w A bs) (n : Nat) : Rd B (w.drewN n) A bs := h
theorem Rd.below {B B' : Nat} {w w' : World} {A : Option Addr} {bs : List Nat} (h : Rd B w A bs) (hb : Below B' w w') (hB : B ≤ B') : Rd B w' A bs := by
  refine ⟨h.1, fun hn => ?_⟩
  obtain ⟨b, off, rfl, hbl, hcell⟩ := h.2 hn
  exact ⟨b, off, rfl, hbl, fun j hj => (hb.cell (p := ⟨b, off + j, none⟩) (by show b < B'; omega)).trans (hcell j hj)⟩
theorem Rd.more {B B' : Nat} {w : World} {A : Option Addr} {bs : List Nat} (h : Rd B w A bs) (hB : B ≤ B') : Rd B' w A bs := by
  refine ⟨h.1, fun hn => ?_⟩
  obtain ⟨b, off, rfl, hbl, hcell⟩ := h.2 hn
  exact ⟨b, off, rfl, by omega, hcell⟩
theorem Rd.nil (B : Nat) (w : World) (A : Option Addr) : Rd B w A [] := ⟨by simp, fun h => absurd h (by simp)⟩

theorem be4_lt {bs : List Nat} (h : ∀ c ∈ bs, c < 256) : be4 bs < 4294967296 := by
  have hb : ∀ j : Nat, bs[j]?.getD 0 < 256 := fun j => by
    rcases Nat.lt_or_ge j bs.length with hj | hj
    · rw [List.getElem?_eq_getElem hj]; exact h _ (List.getElem_mem hj)
    · rw [List.getElem?_eq_none hj]; simp
  have := hb 0; have := hb 1; have := hb 2; have := hb 3
  unfold be4; omega

theorem elem22 : Try.prog.underlying 22 = some (.slice (Try.prog.elem 22)) := by kernel_rfl
theorem size22 (w : World) : (sizeOf (Try.prog.elem 22)).run Try.prog w = .ok 1 w := by kernel_rfl
theorem run_cut (w : World) (A : Option Addr) (len cap k : Nat) (hk : k ≤ len) :
    (Instr.slice 22 (.slice A len cap) (some (.int .i64 (k : Int))) none none).run Try.prog w = .ok (.slice (cutA cap k A) (len - k) (cap - k)) w := by
  rw [run_slice_l (P := Try.prog) w 22 A len cap elem22 .i64 (k : Int) (by omega) (by omega), size22]
  simp [Result.andThen, sliced, cutA]
theorem run_head (w : World) (A : Option Addr) (len cap k : Nat) (q : IntKind) (hk : k ≤ cap) :
    (Instr.slice 22 (.slice A len cap) none (some (.int q (k : Int))) none).run Try.prog w = .ok (.slice A k cap) w := by
  rw [run_slice_h (P := Try.prog) w 22 A len cap elem22 q (k : Int) (by omega) (by omega), size22]
  have e : (A.map fun x => x.add 0) = A := by cases A <;> simp [Addr.add]
  simp [Result.andThen, sliced, e]
theorem quiet_more {P : Program} {f : FuncId} {args : Array Value} {w : World} {a n : Nat} {v : Value} (h : Calls P f args (w.drewN (a + n)) fun e w' => e = .returned v ∧ ∃ m, w' = (w.drewN (a + n)).drewN m) :
    Calls P f args (w.drewN (a + n)) fun e w'' => e = .returned v ∧ ∃ m, w'' = w.drewN (a + m) :=
  h.mono fun _ _ ⟨he, m, hm⟩ => ⟨he, n + m, by rw [hm, World.drewN_drewN, Nat.add_assoc]⟩
theorem quiet_still {P : Program} {f : FuncId} {args : Array Value} {w : World} {a n : Nat} {v : Value} (h : Calls P f args (w.drewN (a + n)) fun e w' => e = .returned v ∧ w.drewN (a + n) = w') :
    Calls P f args (w.drewN (a + n)) fun e w'' => e = .returned v ∧ ∃ m, w'' = w.drewN (a + m) :=
  h.mono fun _ _ ⟨he, hm⟩ => ⟨he, n, hm.symm⟩

section
variable (B g : Nat) (A : Option Addr) (len cap : Nat) (bs : List Nat) (w : World)

theorem open_short (h8 : len < 8) :
    Calls Try.prog 31 #[.pointer (some ⟨g, 0, none⟩), .slice A len cap] w fun e w' => e = .returned (.tuple #[.slice none 0 0, .int .i64 10]) ∧ w = w' := by
  go_enter Try.func31, Try.ntmps31
  go_wp2
  go_ret2
  exact ⟨rfl, rfl⟩

theorem open_form (hr : Rd B w A bs) (hl : bs.length = len) (h8 : 8 ≤ len) (hn : 65536 < be4 bs) :
    Calls Try.prog 31 #[.pointer (some ⟨g, 0, none⟩), .slice A len cap] w fun e w' => e = .returned (.tuple #[.slice none 0 0, .int .i64 11]) ∧ ∃ k, w' = w.drewN k := by
  have hlt := be4_lt hr.1
  go_enter Try.func31, Try.ntmps31
  go_wp2_with (go_at_call 35; refine (word_any B _ _ _ bs _ hr hl (by omega)).mono ?_; rintro e w' ⟨rfl, kd, rfl⟩)
  go_ret2
  exact ⟨rfl, kd, rfl⟩

theorem open_short2 (hr : Rd B w A bs) (hl : bs.length = len) (h8 : 8 ≤ len) (hn : be4 bs ≤ 65536) (hs : len - 8 < be4 bs) :
    Calls Try.prog 31 #[.pointer (some ⟨g, 0, none⟩), .slice A len cap] w fun e w' => e = .returned (.tuple #[.slice none 0 0, .int .i64 10]) ∧ ∃ k, w' = w.drewN k := by
  have hc : ∀ w, (Instr.slice 22 (.slice A len cap) (some (.int .i64 8)) none none).run Try.prog w = .ok (.slice (cutA cap 8 A) (len - 8) (cap - 8)) w := fun w => run_cut w A len cap 8 h8
  go_enter Try.func31, Try.ntmps31
  go_wp2_with (go_at_call 35; refine (word_any B _ _ _ bs _ hr hl (by omega)).mono ?_; rintro e w' ⟨rfl, kd, rfl⟩)
  go_ret2
  exact ⟨rfl, kd, rfl⟩

/-- The payload of the frame with which these bytes begin. -/
def body (bs : List Nat) : List Nat := (bs.drop 8).take (be4 bs)

theorem body_length {bs : List Nat} (h : be4 bs ≤ bs.length - 8) : (body bs).length = be4 bs := by
  unfold body; rw [List.length_take, List.length_drop]; omega

theorem open_sum (ht : TabTo w g 256) (hr : Rd B w A bs) (hl : bs.length = len) (hcap : len ≤ cap) (hm : cap ≤ maxLen) (h8 : 8 ≤ len) (hn : be4 bs ≤ 65536) (hs : be4 bs ≤ len - 8)
    (hne : Crc.crc (body bs) ≠ be4 (bs.drop 4)) :
    Calls Try.prog 31 #[.pointer (some ⟨g, 0, none⟩), .slice A len cap] w fun e w' => e = .returned (.tuple #[.slice none 0 0, .int .i64 20]) ∧ ∃ k, w' = w.drewN k := by
  have hc : ∀ w, (Instr.slice 22 (.slice A len cap) (some (.int .i64 8)) none none).run Try.prog w = .ok (.slice (cutA cap 8 A) (len - 8) (cap - 8)) w := fun w => run_cut w A len cap 8 h8
  have hc4 : ∀ w, (Instr.slice 22 (.slice A len cap) (some (.int .i64 4)) none none).run Try.prog w = .ok (.slice (cutA cap 4 A) (len - 4) (cap - 4)) w := fun w => run_cut w A len cap 4 (by omega)
  have hh := fun w => run_head w (cutA cap 8 A) (len - 8) (cap - 8) (be4 bs) .u32 (by omega)
  have r8 : Rd B w (cutA cap 8 A) (body bs) := (hr.cut (by omega)).take _
  have r4 : Rd B w (cutA cap 4 A) (bs.drop 4) := hr.cut (by omega)
  have l8 : (body bs).length = be4 bs := body_length (by omega)
  have l4 : (bs.drop 4).length = len - 4 := by simp; omega
  have hb : ((Crc.crc (body bs) : Int) != (be4 (bs.drop 4) : Int)) = true := by rw [bne_iff_ne]; omega
  go_enter Try.func31, Try.ntmps31
  go_wp2_with (go_at_call 35; refine (word_any B _ _ _ bs _ hr hl (by omega)).mono ?_; rintro e w' ⟨rfl, kd, rfl⟩)
  go_quiet ((first | (go_at_call 27; exact quiet_still (sum_any B g _ _ _ (body bs) _ ht r8 l8 (by omega))) | (go_at_call 35; exact quiet_more (word_any B _ _ _ (bs.drop 4) _ r4 l4 (by omega)))))
  go_wp2
  go_ret2
  exact ⟨rfl, _, World.drewN_drewN _ _ _⟩

theorem open_ok (ht : TabTo w g 256) (hr : Rd B w A bs) (hl : bs.length = len) (hcap : len ≤ cap) (h8 : 8 ≤ len) (hn : be4 bs ≤ 65536) (hs : be4 bs ≤ len - 8)
    (heq : Crc.crc (body bs) = be4 (bs.drop 4)) :
    Calls Try.prog 31 #[.pointer (some ⟨g, 0, none⟩), .slice A len cap] w fun e w' => ∃ a, e = .returned (.tuple #[.slice (some a) (be4 bs) (cap - 8), .int .i64 0]) ∧ Rd B w (some a) (body bs) ∧ ∃ k, w' = w.drewN k := by
  obtain ⟨b, off, rfl, _, _⟩ := hr.2 (by omega)
  obtain ⟨a, ha⟩ : ∃ a, cutA cap 8 (some ⟨b, off, none⟩) = some a := by unfold cutA; split <;> simp
  have hc : ∀ w, (Instr.slice 22 (.slice (some ⟨b, off, none⟩) len cap) (some (.int .i64 8)) none none).run Try.prog w = .ok (.slice (some a) (len - 8) (cap - 8)) w := fun w => by rw [← ha]; exact run_cut w _ len cap 8 h8
  have hc4 : ∀ w, (Instr.slice 22 (.slice (some ⟨b, off, none⟩) len cap) (some (.int .i64 4)) none none).run Try.prog w = .ok (.slice (cutA cap 4 (some ⟨b, off, none⟩)) (len - 4) (cap - 4)) w := fun w => run_cut w _ len cap 4 (by omega)
  have hh := fun w => run_head w (some a) (len - 8) (cap - 8) (be4 bs) .u32 (by omega)
  have r8 : Rd B w (some a) (body bs) := by rw [← ha]; exact (hr.cut (by omega)).take _
  have r4 : Rd B w (cutA cap 4 (some ⟨b, off, none⟩)) (bs.drop 4) := hr.cut (by omega)
  have l8 : (body bs).length = be4 bs := body_length (by omega)
  have l4 : (bs.drop 4).length = len - 4 := by simp; omega
  have hb : ((Crc.crc (body bs) : Int) != (be4 (bs.drop 4) : Int)) = false := by rw [bne_eq_false_iff_eq]; omega
  clear ha heq
  go_enter Try.func31, Try.ntmps31
  go_wp2_with (go_at_call 35; refine (word_any B _ _ _ bs _ hr hl (by omega)).mono ?_; rintro e w' ⟨rfl, kd, rfl⟩)
  go_quiet ((first | (go_at_call 27; exact quiet_still (sum_any B g _ _ _ (body bs) _ ht r8 l8 (by unfold maxLen at *; omega))) | (go_at_call 35; exact quiet_more (word_any B _ _ _ (bs.drop 4) _ r4 l4 (by omega)))))
  go_wp2
  go_ret2
  exact ⟨a, rfl, r8, _, World.drewN_drewN _ _ _⟩
end

/-- The error with which a frame at the head of these bytes is read. -/
def openE (bs : List Nat) : Nat :=
  if bs.length < 8 then 10 else if 65536 < be4 bs then 11 else if bs.length - 8 < be4 bs then 10 else if Crc.crc (body bs) = be4 (bs.drop 4) then 0 else 20

theorem open_err (B g : Nat) (A : Option Addr) (len cap : Nat) (bs : List Nat) (w : World) (ht : TabTo w g 256) (hr : Rd B w A bs) (hl : bs.length = len) (hcap : len ≤ cap) (hm : cap ≤ maxLen) (hE : openE bs ≠ 0) :
    Calls Try.prog 31 #[.pointer (some ⟨g, 0, none⟩), .slice A len cap] w fun e w' => e = .returned (.tuple #[.slice none 0 0, .int .i64 (openE bs : Nat)]) ∧ ∃ k, w' = w.drewN k := by
  unfold openE at hE ⊢
  rw [hl] at hE ⊢
  by_cases h1 : len < 8
  · rw [if_pos h1]
    exact (open_short g A len cap w h1).mono fun e w' ⟨h, hw⟩ => ⟨h, 0, hw.symm⟩
  · rw [if_neg h1] at hE ⊢
    by_cases h2 : 65536 < be4 bs
    · rw [if_pos h2]; exact open_form B g A len cap bs w hr hl (by omega) h2
    · rw [if_neg h2] at hE ⊢
      by_cases h3 : len - 8 < be4 bs
      · rw [if_pos h3]; exact open_short2 B g A len cap bs w hr hl (by omega) (by omega) h3
      · rw [if_neg h3] at hE ⊢
        by_cases h4 : Crc.crc (body bs) = be4 (bs.drop 4)
        · rw [if_pos h4] at hE; exact absurd rfl hE
        · rw [if_neg h4]; exact open_sum B g A len cap bs w ht hr hl hcap hm (by omega) (by omega) (by omega) h4
theorem openE_zero {bs : List Nat} (h : openE bs = 0) : 8 ≤ bs.length ∧ be4 bs ≤ 65536 ∧ be4 bs ≤ bs.length - 8 ∧ Crc.crc (body bs) = be4 (bs.drop 4) := by
  unfold openE at h
  repeat' (split at h)
  all_goals first | omega | exact ⟨by omega, by omega, by omega, by assumption⟩
theorem open_good (B g : Nat) (A : Option Addr) (len cap : Nat) (bs : List Nat) (w : World) (ht : TabTo w g 256) (hr : Rd B w A bs) (hl : bs.length = len) (hcap : len ≤ cap) (hE : openE bs = 0) :
    Calls Try.prog 31 #[.pointer (some ⟨g, 0, none⟩), .slice A len cap] w fun e w' => ∃ a, e = .returned (.tuple #[.slice (some a) (be4 bs) (cap - 8), .int .i64 0]) ∧ Rd B w (some a) (body bs) ∧ ∃ k, w' = w.drewN k := by
  obtain ⟨h1, h2, h3, h4⟩ := openE_zero hE
  exact open_ok B g A len cap bs w ht hr hl hcap (by omega) h2 (by omega) h4

/-! ### Rows of the call's own -/
def cellsOf (bs : List Nat) : List Value := bs.map fun c : Nat => Value.int .u8 (c : Int)
def Row (w : World) (base : Nat) (v : Value) (bs : List Nat) : Prop := (∀ c ∈ bs, c < 256) ∧ w.ownsRow base 5 1 v bs.length (cellsOf bs)
theorem cellsOf_at (bs : List Nat) (j : Nat) (hj : j < bs.length) : (cellsOf bs)[j]? = some (.int .u8 (bs[j]?.getD 0 : Nat)) := by
  simp [cellsOf, hj]
theorem cellsOf_length (bs : List Nat) : (cellsOf bs).length = bs.length := by simp [cellsOf]
theorem cellsOf_one (bs : List Nat) : ∀ u ∈ cellsOf bs, u.oneCell' = true := by
  intro u hu; obtain ⟨x, _, rfl⟩ := List.mem_map.1 hu; rfl
theorem Row.shape {w : World} {base : Nat} {v : Value} {bs : List Nat} (h : Row w base v bs) : ∃ A cap, v = .slice A bs.length cap ∧ bs.length ≤ cap ∧ cap ≤ maxLen ∧ Rd w.heap.size w A bs := by
  obtain ⟨hb, h1, ⟨rfl, h2⟩ | ⟨g, cap, cur, rfl, hbase, hg, hn, hcm, hcs, ht⟩⟩ := h
  · exact ⟨none, 0, by rw [h2], by omega, Nat.zero_le _, hb, fun hp => by omega⟩
  · refine ⟨_, cap, rfl, hn, hcm, hb, fun _ => ⟨g, 0, rfl, (Array.getElem?_eq_some_iff.1 hg).1, fun j hj => ?_⟩⟩
    have hc := World.ownsRow.cellAt (w := w) (base := base) (e := 5) (size := 1) (g := g) (n := bs.length) (cap := cap) (xs := cellsOf bs) ⟨h1, .inr ⟨g, cap, cur, rfl, hbase, hg, hn, hcm, hcs, ht⟩⟩ j (by omega)
    rw [Nat.zero_add, hc, cellsOf_at bs j hj]
theorem Rd.cellAdd {B : Nat} {w : World} {a : Addr} {bs : List Nat} (h : Rd B w (some a) bs) : ∀ j u, (cellsOf bs)[j]? = some u → w.cell? (a.add j) = some u := by
  intro j u hj
  have hlt : j < bs.length := by have := (List.getElem?_eq_some_iff.1 hj).1; rwa [cellsOf_length] at this
  obtain ⟨b, off, e, _, hc⟩ := h.2 (by omega)
  injection e with e; subst e
  rw [add_plain, hc j hlt, ← cellsOf_at bs j hlt, hj]

theorem Try.info5 : (Try.prog.info? 5).map (fun i => (i.zero, i.size, i.bytes)) = some (some (.int .u8 0), 1, 1) := by kernel_rfl

set_option maxHeartbeats 1000000 in
theorem clone_any (B : Nat) (a : Addr) (n c : Nat) (bs : List Nat) (w : World) (hr : Rd B w (some a) bs) (hB : B ≤ w.heap.size) (hl : bs.length = n) (hm : n ≤ 140737488355328) :
    Calls Try.prog 32 #[.slice (some a) n c] w fun e w' => ∃ v, e = .returned v ∧ Row w' w.heap.size v bs ∧ Below w.heap.size w w' := by
  obtain ⟨i0, hi, hz0, hz1, hz2⟩ := info_parts Try.info5
  have q22 : ∀ (w : World) (a : Option Addr) (n c n' c' : Nat), (binOp .eql 22 (.slice a n c) (.slice none n' c')).run Try.prog w = .ok (.bool a.isNone) w := fun w a n c n' c' => Lib.run_eql_slice_nil w _ _ a n c n' c' Try.underlying22
  have hra : Rd B (w.alloc (.cells #[] 5)) (some a) bs := hr.below ((Below.refl B w).alloc hB _) (Nat.le_refl _)
  have hcells := Lib.hid hra.cellAdd
  have H := Lib.hid hl
  clear hl hra
  go_enter Try.func32, Try.ntmps32
  go_wp2_with (at_builtin; refine wpList_append_own _ rfl _ _ 22 rfl w.heap.size 5 i0 (.int .u8 0) 1 1 Try.underlying22 hi hz0 hz1 hz2 rfl (by decide) _ _ _ rfl (World.ownsRow_made w #[] 0 (Nat.le_refl _) (Nat.zero_le _) rfl) a n c (cellsOf bs) rfl ?qc1 hcells.out (cellsOf_one bs) ?qc4 ?qc5 ?qc6 ?_)
  case qc1 => rw [cellsOf_length, H.out]; omega
  case qc4 => unfold maxLen; omega
  case qc5 => omega
  case qc6 => simp
  intro v' w1 hown hgrow hnil
  have hb1 : Below w.heap.size w w1 := ((Below.refl _ w).alloc (Nat.le_refl _) _).grown hgrow (by simp) (by intro k hk; simp [Value.ownBlock] at hk; omega)
  go_wp2
  go_ret
  exact ⟨v', rfl, ⟨hr.1, by rw [H.out]; simpa using hown⟩, hb1⟩
end Go.Proofs.Ytbhojobonihccaa
