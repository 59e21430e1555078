/- The walks of Sum, Open, appendWord, Frame, Same. -/
import Derived.Test.YtbhojobonihccaaOpen
import Derived.Laws.AppendOwnNone
import Derived.Laws.BytesArg
namespace Go.Proofs.Ytbhojobonihccaa
open Go.RowKit

theorem Row.kept {w w' : World} {base : Nat} {v : Value} {bs : List Nat} {row : Option Nat} (h : Row w base v bs) (hg : w.grownBy w' row) (hne : v.ownBlock = none ∨ v.ownBlock ≠ row) : Row w' base v bs := ⟨h.1, h.2.kept hg hne⟩
theorem Row.alloc {w : World} {base : Nat} {v : Value} {bs : List Nat} (h : Row w base v bs) (o : Obj) : Row (w.alloc o) base v bs := ⟨h.1, h.2.alloc o⟩
theorem Row.base {w : World} {base base' : Nat} {v : Value} {bs : List Nat} (h : Row w base v bs) (hb : base' ≤ base) : Row w base' v bs := by
  refine ⟨h.1, h.2.1, ?_⟩
  rcases h.2.2 with h2 | ⟨g, cap, cur, rfl, hbase, h3⟩
  · exact .inl h2
  · exact .inr ⟨g, cap, cur, rfl, by omega, h3⟩
theorem Row.below {w w' : World} {base : Nat} {v : Value} {bs : List Nat} (h : Row w base v bs) (hb : Below w.heap.size w w') : Row w' base v bs := by
  refine ⟨h.1, h.2.1, ?_⟩
  rcases h.2.2 with h2 | ⟨g, cap, cur, rfl, hbase, hg, h3⟩
  · exact .inl h2
  · exact .inr ⟨g, cap, cur, rfl, hbase, (hb.block g (Array.getElem?_eq_some_iff.1 hg).1).trans hg, h3⟩

theorem wpList_append_row {ops : Array Oper} {rest : List Oper} {o : Oper} {a : Act} {Q : Exit → Act → World → Prop} {w : World} (hgd : o.guard = none) (s x : Operand)
    (ho : o.op = .call { callee := .builtin .append, args := #[s, x], argTypes := #[22, 22] })
    (base : Nat) (v : Value) (bs : List Nat) (hs : a.eval s = v) (hrow : Row w base v bs)
    (B : Nat) (A : Option Addr) (m c : Nat) (cs : List Nat) (hx : a.eval x = .slice A m c) (hr : Rd B w A cs) (hm : cs.length = m) (hn : A = none → c = 0)
    (hbound : bs.length + m ≤ 140737488355328) (hbase : base ≤ w.heap.size)
    (h : ∀ v' w', Row w' base v' (bs ++ cs) → w.grownBy w' v.ownBlock → wpList Try.prog ops Q rest (a.put o.dst v') w') : wpList Try.prog ops Q (o :: rest) a w := by
  obtain ⟨i0, hi, hz0, hz1, hz2⟩ := info_parts Try.info5
  cases A with
  | none =>
    have hc := hn rfl
    subst hc
    have h0 : cs = [] := by
      rcases Nat.eq_zero_or_pos cs.length with e | e
      · exact List.eq_nil_of_length_eq_zero e
      · obtain ⟨b, off, e, _⟩ := hr.2 e; cases e
    subst h0
    have hm0 : m = 0 := by rw [← hm]; rfl
    subst hm0
    exact wpList_append_own_none hgd s x 22 ho base 5 i0 1 Try.underlying22 hi v bs.length (cellsOf bs) hs hrow.2 hx (h v w (by simpa using hrow) (World.grownBy.refl w _))
  | some ad =>
    refine wpList_append_own w hgd s x 22 ho base 5 i0 (.int .u8 0) 1 1 Try.underlying22 hi hz0 hz1 hz2 rfl (by decide) v bs.length (cellsOf bs) hs hrow.2 ad m c (cellsOf cs) hx (by rw [cellsOf_length, hm, Nat.mul_one]) hr.cellAdd (cellsOf_one cs) (by unfold maxLen; omega) (by omega) hbase ?_
    intro v' w' hown hg _
    refine h v' w' ⟨?_, ?_⟩ hg
    · intro c' hc'
      rcases List.mem_append.1 hc' with h1 | h1
      · exact hrow.1 _ h1
      · exact hr.1 _ h1
    · rw [List.length_append, hm]
      simpa [cellsOf] using hown

theorem Sum_any (B : Nat) (A : Option Addr) (len cap : Nat) (bs : List Nat) (w : World) (hr : Rd B w A bs) (hB : B ≤ w.heap.size) (hl : bs.length = len) (hm : len ≤ maxLen) :
    Calls Try.prog 13 #[.slice A len cap] w fun e w' => e = .returned (.int .u32 (Crc.crc bs : Nat)) ∧ Below w.heap.size w w' := by
  go_enter Try.func13, Try.ntmps13
  go_wp2_with fail
  refine (makeSteps_any _).mono ?_
  rintro e w1 ⟨g, rfl, ht, hb⟩
  go_wp2_with fail
  refine (sum_any B g A len cap bs w1 ht (hr.below hb hB) hl hm).mono ?_
  rintro e w' ⟨rfl, rfl⟩
  go_wp2_with fail
  go_ret
  exact ⟨rfl, hb⟩

theorem Rd.fresh (w : World) (cs : Array Value) (bs : List Nat) (hb : ∀ c ∈ bs, c < 256) (h : cs = (cellsOf bs).toArray) : Rd (w.heap.size + 1) (w.alloc (.cells cs 5)) (some ⟨w.heap.size, 0, none⟩) bs := by
  refine ⟨hb, fun _ => ⟨w.heap.size, 0, rfl, by omega, fun j hj => ?_⟩⟩
  rw [Nat.zero_add, cell_of_row _ w.heap.size j cs 5 (0, 0) (heap_alloc_new w _), h, List.getElem?_toArray, cellsOf_at bs j hj]

/-- The four bytes of a number, the most significant first. -/
def w4 (x : Nat) : List Nat := [x / 16777216 % 256, x / 65536 % 256, x / 256 % 256, x % 256]
theorem w4_lt (x : Nat) : ∀ c ∈ w4 x, c < 256 := by intro c hc; simp [w4] at hc; omega

set_option maxHeartbeats 1000000 in
theorem appendWord_any (base : Nat) (v : Value) (bs : List Nat) (x : Nat) (w : World) (hrow : Row w base v bs) (hx : x < 4294967296) (hbase : base ≤ w.heap.size) (hbound : bs.length ≤ 140737488355320) :
    Calls Try.prog 29 #[v, .int .u32 (x : Int)] w fun e w' => ∃ v', e = .returned v' ∧ Row w' base v' (bs ++ w4 x) ∧ Below base w w' := by
  obtain ⟨A, cap, rfl, _, _, _⟩ := hrow.shape
  go_enter Try.func29, Try.ntmps29
  go_wp2_with (at_builtin; refine wpList_append_row rfl _ _ rfl base _ bs rfl (hrow.alloc _) (w.heap.size + 1) (some ⟨w.heap.size, 0, none⟩) 4 4 (w4 x) rfl ?r rfl (by intro h; cases h) ?b1 ?b2 ?_)
  case r => exact Rd.fresh w _ (w4 x) (w4_lt x) (by simp [cellsOf, w4]; omega)
  case b1 => omega
  case b2 => simp; omega
  intro v' w1 hr1 hg1
  go_wp2
  go_ret
  refine ⟨_, rfl, hr1, ((Below.refl _ w).alloc hbase _).grown hg1 (by simp; omega) (fun k hk => (hrow.2.lt k hk).1)⟩

def frameOf (bs : List Nat) : List Nat := (w4 bs.length ++ w4 (Crc.crc bs)) ++ bs

theorem Frame_big (A : Option Addr) (len cap : Nat) (w : World) (hbig : 65536 < len) (hm : len ≤ maxLen) :
    Calls Try.prog 15 #[.slice A len cap] w fun e w' => e = .returned (.tuple #[.slice none 0 0, .int .i64 2]) ∧ w = w' := by
  unfold maxLen at hm
  go_enter Try.func15, Try.ntmps15
  go_wp2
  go_ret2
  exact ⟨rfl, rfl⟩

set_option maxHeartbeats 1000000 in
theorem Frame_ok (B : Nat) (A : Option Addr) (len cap : Nat) (bs : List Nat) (w : World) (hr : Rd B w A bs) (hB : B ≤ w.heap.size) (hl : bs.length = len) (hn : A = none → cap = 0) (hsmall : len ≤ 65536) :
    Calls Try.prog 15 #[.slice A len cap] w fun e w' => ∃ v, e = .returned (.tuple #[v, .int .i64 0]) ∧ Row w' w.heap.size v (frameOf bs) ∧ Below w.heap.size w w' := by
  obtain ⟨i0, hi, hz0, hz1, hz2⟩ := info_parts Try.info5
  have H := Lib.hid hl
  clear hl
  have hcrc := Crc.crc_lt bs hr.1
  go_enter Try.func15, Try.ntmps15
  go_wp2_with (at_make; refine wpList_make_own _ rfl _ _ 22 rfl w.heap.size 5 i0 (.int .u8 0) 1 Try.underlying22 hi hz0 hz1 .i64 .i64 _ (8 + len) rfl rfl ?c1 ?c2 ?c3 ?c4 ?_)
  case c1 => omega
  case c2 => rw [hz2]; omega
  case c3 => unfold maxLen; omega
  case c4 => omega
  intro w1 hown hg1
  have hrow : Row w1 w.heap.size (.slice (some ⟨w.heap.size, 0, none⟩) 0 (8 + len)) [] := ⟨by simp, hown⟩
  have hb1 : Below w.heap.size w w1 := (Below.refl _ w).grown hg1 (Nat.le_refl _) (fun k hk => by cases hk)
  clear hown hg1
  have hsz1 := hb1.size
  go_wp2_with fail
  refine (appendWord_any w.heap.size _ [] len _ hrow (by omega) hsz1 (by simp)).mono ?_
  rintro e w2 ⟨v2, rfl, hr2, hb2⟩
  have hb2' := hb1.trans hb2
  have hsz2 := hb2'.size
  go_wp2_with fail
  refine (Sum_any B A len cap bs w2 (hr.below hb2' hB) (by omega) H.out (by unfold maxLen; omega)).mono ?_
  rintro e w3 ⟨rfl, hb3⟩
  have hr3 := hr2.below hb3
  have hb3' := hb2'.trans (hb3.mono hsz2)
  have hsz3 := hb3'.size
  go_wp2_with fail
  refine (appendWord_any w.heap.size _ _ _ w3 hr3 hcrc hsz3 (by simp [w4])).mono ?_
  rintro e w4' ⟨v4, rfl, hr4, hb4⟩
  have hb4' := hb3'.trans hb4
  have hsz4 := hb4'.size
  go_wp2_with (at_builtin; refine wpList_append_row rfl _ _ rfl w.heap.size _ _ rfl hr4 B A len cap bs rfl (hr.below hb4' hB) H.out hn ?d1 hsz4 ?_)
  case d1 => simp [w4]; omega
  intro v5 w5 hr5 hg5
  have hb5 := hb4'.grown hg5 hsz4 (fun k hk => (hr4.2.lt k hk).1)
  go_wp2
  go_ret2
  refine ⟨_, rfl, ?_, hb5⟩
  unfold frameOf
  rw [H.out]
  exact hr5

theorem below_drewN {B : Nat} {a w : World} (h : Below B a w) (n : Nat) : Below B a (w.drewN n) := ⟨h.os, h.tape, h.output, h.size, h.block⟩
/-! ### Open -/
theorem Open_arg (A : Option Addr) (len cap : Nat) (at_ : Int) (w : World) (hout : at_ < 0 ∨ (len : Int) < at_) :
    Calls Try.prog 18 #[.slice A len cap, .int .i64 at_] w fun e w' => e = .returned (.tuple #[.slice none 0 0, .int .i64 0, .int .i64 1]) ∧ w = w' := by
  by_cases h0 : at_ < 0
  · go_enter Try.func18, Try.ntmps18
    go_wp2
    go_ret3
    exact ⟨rfl, rfl⟩
  · have h1 : (len : Int) < at_ := by omega
    clear hout
    go_enter Try.func18, Try.ntmps18
    go_wp2
    go_ret3
    exact ⟨rfl, rfl⟩

theorem Open_err (B : Nat) (A : Option Addr) (len cap k : Nat) (bs : List Nat) (w : World) (hr : Rd B w A bs) (hB : B ≤ w.heap.size) (hl : bs.length = len) (hcap : len ≤ cap) (hm : cap ≤ maxLen) (hk : k ≤ len) (hE : openE (bs.drop k) ≠ 0) :
    Calls Try.prog 18 #[.slice A len cap, .int .i64 (k : Int)] w fun e w' => e = .returned (.tuple #[.slice none 0 0, .int .i64 0, .int .i64 (openE (bs.drop k) : Nat)]) ∧ Below w.heap.size w w' := by
  have hm' := hm
  unfold maxLen at hm'
  have hcut := fun w => run_cut w A len cap k hk
  have hrc := Lib.hid (hr.cut (k := k) (cap := cap) (by omega))
  have hlen : Hid ((bs.drop k).length = len - k) := by show _ = _; rw [List.length_drop]; omega
  generalize bs.drop k = ds at *
  have hne : ((openE ds : Int) != 0) = true := by rw [bne_iff_ne]; omega
  clear hl hr
  go_enter Try.func18, Try.ntmps18
  go_wp2_with fail
  refine (makeSteps_any _).mono ?_
  rintro e w1 ⟨g, rfl, ht, hb⟩
  go_wp2_with fail
  refine (open_err B g _ _ _ ds w1 ht (hrc.out.below hb hB) hlen.out (by omega) (by unfold maxLen; omega) hE).mono ?_
  rintro e w2 ⟨rfl, kd, rfl⟩
  go_wp2
  go_ret3
  exact ⟨rfl, below_drewN hb kd⟩

set_option maxHeartbeats 1000000 in
theorem Open_good (B : Nat) (A : Option Addr) (len cap k : Nat) (bs : List Nat) (w : World) (hr : Rd B w A bs) (hB : B ≤ w.heap.size) (hl : bs.length = len) (hcap : len ≤ cap) (hm : cap ≤ maxLen) (hk : k ≤ len) (hE : openE (bs.drop k) = 0) :
    Calls Try.prog 18 #[.slice A len cap, .int .i64 (k : Int)] w fun e w' => ∃ v, e = .returned (.tuple #[v, .int .i64 ((k + 8 + be4 (bs.drop k) : Nat) : Int), .int .i64 0]) ∧ Row w' w.heap.size v (body (bs.drop k)) ∧ Below w.heap.size w w' := by
  have hm' := hm
  unfold maxLen at hm'
  have hcut := fun w => run_cut w A len cap k hk
  have hrc := Lib.hid (hr.cut (k := k) (cap := cap) (by omega))
  have hlen : Hid ((bs.drop k).length = len - k) := by show _ = _; rw [List.length_drop]; omega
  obtain ⟨e8, e65, ele, _⟩ := openE_zero hE
  rw [hlen.out] at e8 ele
  generalize bs.drop k = ds at *
  have hbl : Hid ((body ds).length = be4 ds) := body_length (by rw [hlen.out]; exact ele)
  have HE := Lib.hid hE
  clear hl hr hE
  go_enter Try.func18, Try.ntmps18
  go_wp2_with fail
  refine (makeSteps_any _).mono ?_
  rintro e w1 ⟨g, rfl, ht, hb⟩
  have hsz1 := hb.size
  go_wp2_with fail
  refine (open_good B g _ _ _ ds w1 ht (hrc.out.below hb hB) hlen.out (by omega) HE.out).mono ?_
  rintro e w2 ⟨a, rfl, hra, kd, rfl⟩
  go_wp2_with fail
  refine (clone_any B a _ _ (body ds) _ (hra.drewN kd) (by simp; omega) hbl.out (by omega)).mono ?_
  rintro e w3 ⟨v3, rfl, hr3, hb3⟩
  go_wp2
  go_ret3
  exact ⟨_, by simp, hr3.base (by simp; omega), (below_drewN hb kd).trans (hb3.mono (by simp; omega))⟩

/-! ### Same: two byte slices as strings -/
def str (bs : List Nat) : ByteArray := ⟨(bs.map fun c => UInt8.ofNat c).toArray⟩
theorem conv_str (B : Nat) (A : Option Addr) (n c : Nat) (bs : List Nat) (w : World) (hr : Rd B w A bs) (hl : bs.length = n) :
    (convert 22 9 (.slice A n c)).run Try.prog w = .ok (.string (str bs)) w := by
  cases A with
  | none =>
    have h0 : bs = [] := by
      rcases Nat.eq_zero_or_pos bs.length with e | e
      · exact List.eq_nil_of_length_eq_zero e
      · obtain ⟨b, off, e, _⟩ := hr.2 e; cases e
    subst h0
    exact run_convert_bytes_nil w 22 5 Try.underlying22 Try.underlying5 n c 9 Try.underlying9
  | some a =>
    rcases Nat.eq_zero_or_pos bs.length with e | e
    · have h0 : bs = [] := List.eq_nil_of_length_eq_zero e
      subst h0
      have hn : n = 0 := by simpa using hl.symm
      subst hn
      rw [run_convert_bytes_string w 22 9 5 (some a) 0 c Try.underlying22 Try.underlying5 Try.underlying9, run_bytesToString w a 0 c [] (by simp [loadCells, loadCellsFrom])]
      rfl
    · obtain ⟨b, off, ea, _, hc⟩ := hr.2 e
      injection ea with ea
      subst ea
      have h := run_convert_bytes_arg (P := Try.prog) w 22 5 Try.underlying22 Try.underlying5 b off n c (bs.map fun x : Nat => (x : Int)) (by simpa using hl) (fun i hi => by
        rw [hc i (by omega)]
        simp [List.getD, show i < bs.length by omega]) 9 Try.underlying9
      rw [h]
      simp [strOfNums, str]
theorem str_list (bs : List Nat) : (str bs).toList = bs.map fun c => UInt8.ofNat c := by
  rw [ByteArray.toList_eq]; rfl
theorem str_eq {bs cs : List Nat} (hb : ∀ c ∈ bs, c < 256) (hc : ∀ c ∈ cs, c < 256) : ((str bs).toList == (str cs).toList) = decide (bs = cs) := by
  rw [str_list, str_list]
  by_cases h : bs = cs
  · subst h; simp
  · rw [decide_eq_false h, beq_eq_false_iff_ne]
    intro e1
    apply h
    have e2 := congrArg (List.map UInt8.toNat) e1
    rw [List.map_map, List.map_map] at e2
    rw [List.map_congr_left (g := id) (fun x hx => by have := hb x hx; simp; omega), List.map_congr_left (l := cs) (g := id) (fun x hx => by have := hc x hx; simp; omega), List.map_id, List.map_id] at e2
    exact e2

theorem Same_any (B C : Nat) (A D : Option Addr) (n c m d : Nat) (bs cs : List Nat) (w : World) (hr : Rd B w A bs) (hs : Rd C w D cs) (hl : bs.length = n) (hm : cs.length = m) :
    Calls Try.prog 20 #[.slice A n c, .slice D m d] w fun e w' => e = .returned (.bool (decide (bs = cs))) ∧ w = w' := by
  have h1 := conv_str B A n c bs w hr hl
  have h2 := conv_str C D m d cs w hs hm
  have heq := Lib.hid (str_eq hr.1 hs.1)
  generalize str bs = s at *
  generalize str cs = t at *
  clear hr hs hl hm
  go_enter Try.func20, Try.ntmps20
  go_wp2
  go_ret
  exact ⟨by rw [← heq.out]; rfl, rfl⟩
end Go.Proofs.Ytbhojobonihccaa
