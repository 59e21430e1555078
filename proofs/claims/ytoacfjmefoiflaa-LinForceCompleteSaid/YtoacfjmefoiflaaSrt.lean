/- What the sort and the compaction do to a row of the call's own; the compaction of a sorted list. -/
import Derived.Test.YtoacfjmefoiflaaSat
import Derived.Test.YtoacfjmefoiflaaShelf
namespace Go.Proofs.Ytoacfjmefoiflaa
open Go.RowKit Go.Maps
set_option maxRecDepth 30000

theorem QI.putRow {w : World} {base g o n c : Nat} {zs zs' : List Int} (h : QI w base (.slice (some ⟨g, o, none⟩) n c) zs) (hn : n = zs.length) (hl : zs'.length = zs.length) (hw : ∀ z ∈ zs', Wf z) (q : Nat) (os : Array Obj) :
    QI (Sort.grow (Sort.putRow (Value.int .i64) (Sort.ahead w q) g o zs'.toArray) os) base (.slice (some ⟨g, o, none⟩) n c) zs' ∧ (∀ k, k < w.heap.size → k ≠ g → (Sort.grow (Sort.putRow (Value.int .i64) (Sort.ahead w q) g o zs'.toArray) os).heap[k]? = w.heap[k]?) ∧
    w.heap.size ≤ (Sort.grow (Sort.putRow (Value.int .i64) (Sort.ahead w q) g o zs'.toArray) os).heap.size ∧ base ≤ g ∧ Sort.Holds (Value.int .i64) w g o zs.toArray ∧ g < w.heap.size := by
  subst hn
  obtain ⟨h1, ⟨e, _⟩ | ⟨g', o', c', cs, e, hbase, hg, h3, h3', h3'', h4⟩⟩ := h
  · cases e
  · injection e with e1 _ e3
    injection e1 with e1
    injection e1 with e1 e2
    subst e1; subst e2; subst e3
    have hlt := (Array.getElem?_eq_some_iff.1 hg).1
    have hold : ∀ k, k < w.heap.size → (Sort.grow (Sort.putRow (Value.int .i64) (Sort.ahead w q) g o zs'.toArray) os).heap[k]? = (w.heap.modify g (Sort.onCells (Sort.putCells (Value.int .i64) o zs'.toArray)))[k]? := fun k hk => by
      show (w.heap.modify g (Sort.onCells (Sort.putCells (Value.int .i64) o zs'.toArray)) ++ os)[k]? = _
      rw [Array.getElem?_append_left (by simpa using hk)]
    refine ⟨⟨hw, .inr ⟨g, o, c, Sort.putCells (Value.int .i64) o zs'.toArray cs, by rw [hl], hbase, ?_, by rw [hl]; exact h3, h3', by simpa [Sort.putCells] using h3'', fun j hj => ?_⟩⟩, fun k hk hne => ?_, ?_, hbase, fun j hj => ?_, hlt⟩
    · rw [hold g hlt, Array.getElem?_modify, if_pos rfl, hg]; rfl
    · have hjc : o + j < cs.size := by omega
      unfold Sort.putCells
      rw [Array.getElem?_mapIdx, Array.getElem?_eq_getElem hjc, Option.map_some, if_pos ⟨by omega, by simp; omega⟩, show o + j - o = j by omega]
      simp [hj]
    · rw [hold k hk, Array.getElem?_modify, if_neg (fun e => hne e.symm)]
    · show w.heap.size ≤ (w.heap.modify g _ ++ os).size
      simp
    · have hj' : j < zs.length := by simpa using hj
      refine ⟨?_, frozen_of_row w g (o + j) cs 3 hg⟩
      rw [cell_of_row w g (o + j) cs 3 (0, 0) hg, h4 j hj']
      simp [hj']

open Lib in
theorem compactUpTo_inc (d : Array Int) (hs : ∀ i j, i ≤ j → j < d.size → d[i]! ≤ d[j]!) : ∀ m, m ≤ d.size → (compactUpTo d m).Pairwise (· < ·) ∧ (∀ x, x ∈ compactUpTo d m ↔ ∃ j, j < m ∧ d[j]! = x)
  | 0, _ => by unfold compactUpTo; simp
  | m + 1, hm => by
    obtain ⟨h1, h2⟩ := compactUpTo_inc d hs m (by omega)
    rw [compactUpTo_succ]
    by_cases hk : keeps d m = true
    · rw [if_pos hk]
      have hlt : ∀ x ∈ compactUpTo d m, x < d[m]! := fun x hx => by
        obtain ⟨j, hj, rfl⟩ := (h2 x).1 hx
        have a1 := hs j (m - 1) (by omega) (by omega)
        have a2 := hs (m - 1) m (by omega) (by omega)
        have a3 : d[m]! ≠ d[m - 1]! := by
          unfold keeps at hk
          simp at hk
          rcases hk with hk | hk
          · omega
          · simpa using hk
        omega
      refine ⟨?_, fun x => ?_⟩
      · rw [List.pairwise_append]
        exact ⟨h1, by simp, fun a ha b hb => by rw [List.mem_singleton.1 hb]; exact hlt a ha⟩
      · rw [List.mem_append, h2, List.mem_singleton]
        constructor
        · rintro (⟨j, hj, hx⟩ | hx)
          · exact ⟨j, by omega, hx⟩
          · exact ⟨m, by omega, hx.symm⟩
        · rintro ⟨j, hj, hx⟩
          rcases Nat.lt_or_ge j m with q | q
          · exact .inl ⟨j, q, hx⟩
          · exact .inr (by rw [← hx, show j = m by omega])
    · rw [if_neg hk, List.append_nil]
      refine ⟨h1, fun x => ?_⟩
      rw [h2]
      constructor
      · rintro ⟨j, hj, hx⟩
        exact ⟨j, by omega, hx⟩
      · rintro ⟨j, hj, hx⟩
        rcases Nat.lt_or_ge j m with q | q
        · exact ⟨j, q, hx⟩
        · have hm0 : m ≠ 0 := fun e => hk (by unfold keeps; simp [e])
          have he : d[m]! = d[m - 1]! := by
            by_cases e : d[m]! = d[m - 1]!
            · exact e
            · exact absurd (by unfold keeps; simp [e]) hk
          exact ⟨m - 1, by omega, by rw [← he, ← hx, show j = m by omega]⟩
/-- The compaction of a sorted list. -/
theorem compact_sorted (zs : List Int) : let ys := Lib.compact (zs.mergeSort fun x y => decide (x ≤ y)); ys.Pairwise (· < ·) ∧ (∀ x, x ∈ ys ↔ x ∈ zs) ∧ ys.length ≤ zs.length := by
  intro ys
  obtain ⟨ss, hss⟩ : ∃ ss, (zs.mergeSort fun x y => decide (x ≤ y)) = ss := ⟨_, rfl⟩
  have hp : ss.Pairwise (fun a b => decide (a ≤ b) = true) := by
    rw [← hss]
    exact List.pairwise_mergeSort (fun a b c h1 h2 => by simp at *; omega) (fun a b => by simp; omega) zs
  have hmem : ∀ x, x ∈ ss ↔ x ∈ zs := fun x => by rw [← hss]; exact List.mem_mergeSort
  have hlen : ss.length = zs.length := by rw [← hss]; exact List.length_mergeSort zs
  have hs : ∀ i j, i ≤ j → j < ss.toArray.size → ss.toArray[i]! ≤ ss.toArray[j]! := fun i j hij hj => by
    have hj' : j < ss.length := by simpa using hj
    rw [getElem!_pos ss.toArray i (by simp; omega), getElem!_pos ss.toArray j hj]
    rcases Nat.lt_or_ge i j with q | q
    · have := List.pairwise_iff_getElem.1 hp i j (by omega) hj' q
      simpa using this
    · have : i = j := by omega
      subst this; exact Int.le_refl _
  obtain ⟨g1, g2⟩ := compactUpTo_inc ss.toArray hs ss.length (by simp)
  have hys : ys = Lib.compactUpTo ss.toArray ss.length := by show Lib.compact (zs.mergeSort fun x y => decide (x ≤ y)) = _; rw [hss]; rfl
  rw [hys]
  refine ⟨g1, fun x => ?_, ?_⟩
  · rw [g2, ← hmem, List.mem_iff_getElem]
    constructor
    · rintro ⟨j, hj, hx⟩
      exact ⟨j, hj, by rw [← hx, getElem!_pos ss.toArray j (by simpa using hj)]; simp⟩
    · rintro ⟨j, hj, hx⟩
      exact ⟨j, hj, by rw [← hx, getElem!_pos ss.toArray j (by simpa using hj)]; simp⟩
  · unfold Lib.compactUpTo
    rw [List.length_map, ← hlen]
    exact Nat.le_trans (List.length_filter_le _ _) (by simp)

def srtd (zs : List Int) : List Int := zs.mergeSort fun x y => decide (x ≤ y)
theorem srtd_mem {zs : List Int} {x : Int} : x ∈ srtd zs ↔ x ∈ zs := List.mem_mergeSort
theorem srtd_len (zs : List Int) : (srtd zs).length = zs.length := List.length_mergeSort zs
theorem srt_world {w W : World} {base g : Nat} (q : Nat) (os : Array Obj) {o : Nat} {d : Array Int} (hbase : base ≤ g) (hW : W = Sort.grow (Sort.putRow (Value.int .i64) (Sort.ahead w q) g o d) os) (hold : ∀ k, k < w.heap.size → k ≠ g → W.heap[k]? = w.heap[k]?) (hsz : w.heap.size ≤ W.heap.size) (hbs : base ≤ w.heap.size) : Below base w W := by
  subst hW
  exact ⟨rfl, rfl, rfl, hsz, fun k hk => hold k (by omega) (by omega)⟩
theorem sort_q {w : World} {base : Nat} {v : Value} {zs : List Int} (h : QI w base v zs) (hl : zs.length ≤ 100000) (hbs : base ≤ w.heap.size) :
    Calls Try.prog 36 #[v] w fun e w' => e = .returned (.tuple #[]) ∧ QI w' base v (srtd zs) ∧ Below base w w' ∧ w.heap.size ≤ w'.heap.size := by
  obtain ⟨A, c, rfl, hc, _⟩ := id h.shape
  cases A with
  | none =>
    have h0 : zs = [] := by
      rcases h.2 with ⟨_, h0⟩ | ⟨g, o, c', cs, e, _⟩
      · exact h0
      · cases e
    subst h0
    refine (slices_Sort_int_none Option.none c w).mono fun e w' hh => ?_
    obtain ⟨rfl, rfl⟩ := hh
    have e0 : srtd [] = [] := List.eq_nil_of_length_eq_zero (srtd_len [])
    exact ⟨rfl, by rw [e0]; exact h, Below.refl _ _, Nat.le_refl _⟩
  | some a =>
    obtain ⟨g, o, s⟩ := a
    have hs : s = Option.none := by
      rcases h.2 with ⟨e, _⟩ | ⟨g', o', c', cs, e, _⟩
      · cases e
      · injection e with e; injection e with e; injection e
    subst hs
    obtain ⟨_, _, _, hbg, hH, hlt⟩ := h.putRow rfl rfl h.1 0 #[]
    refine (slices_Sort_int g o c zs w hH hlt (by omega)).mono fun e w' hh => ?_
    obtain ⟨rfl, n, os, rfl⟩ := hh
    obtain ⟨p1, p2, p3, _⟩ := h.putRow (zs' := srtd zs) rfl (srtd_len zs) (fun z hz => h.1 z (srtd_mem.1 hz)) n os
    exact ⟨rfl, p1, srt_world n os hbg rfl p2 p3 hbs, p3⟩
theorem compact_q {w : World} {base : Nat} {v : Value} {zs : List Int} (h : QI w base v zs) (hl : zs.length ≤ 100000) (hbs : base ≤ w.heap.size) :
    Calls Try.prog 37 #[v] w fun e w' => ∃ A c, e = .returned (.slice A (Lib.compact zs).length c) ∧ (∀ b, (∀ k, v.ownBlock = some k → k < b) → RdI b w' A (Lib.compact zs)) ∧ Below base w w' ∧ w.heap.size ≤ w'.heap.size ∧ ∀ k, k < w.heap.size → v.ownBlock ≠ some k → w'.heap[k]? = w.heap[k]? := by
  obtain ⟨A, c, rfl, hc, _⟩ := id h.shape
  have hmem : ∀ x ∈ Lib.compact zs, x ∈ zs := fun x hx => by
    unfold Lib.compact Lib.compactUpTo at hx
    obtain ⟨j, hj, rfl⟩ := List.mem_map.1 hx
    have hj2 := List.mem_range.1 (List.mem_filter.1 hj).1
    rw [getElem!_pos zs.toArray j (by simpa using hj2)]
    simp
  have hclen : (Lib.compact zs).length ≤ zs.length := by
    unfold Lib.compact Lib.compactUpTo
    rw [List.length_map]
    exact Nat.le_trans (List.length_filter_le _ _) (by simp)
  cases A with
  | none =>
    have h0 : zs = [] := by
      rcases h.2 with ⟨_, h0⟩ | ⟨g, o, c', cs, e, _⟩
      · exact h0
      · cases e
    subst h0
    refine (slices_Compact_int_empty Option.none c w).mono fun e w' hh => ?_
    obtain ⟨rfl, rfl⟩ := hh
    exact ⟨Option.none, c, rfl, fun _ _ => RdI.nil _ _ _, Below.refl _ _, Nat.le_refl _, fun _ _ _ => rfl⟩
  | some a =>
    obtain ⟨g, o, s⟩ := a
    have hs : s = Option.none := by
      rcases h.2 with ⟨e, _⟩ | ⟨g', o', c', cs, e, _⟩
      · cases e
      · injection e with e; injection e with e; injection e
    subst hs
    obtain ⟨_, _, _, hbg, hH, hlt⟩ := h.putRow rfl rfl h.1 0 #[]
    refine (slices_Compact_int g o c zs w hH (by omega) hc).mono fun e w' hh => ?_
    obtain ⟨rfl, q, hw⟩ := hh
    have hw2 : w' = Sort.grow (Sort.putRow (Value.int .i64) (Sort.ahead w q) g o (Lib.compact zs ++ List.replicate (zs.length - (Lib.compact zs).length) 0).toArray) #[] := by rw [Sort.grow_empty]; exact hw
    obtain ⟨p1, p2, p3, _⟩ := h.putRow (zs' := Lib.compact zs ++ List.replicate (zs.length - (Lib.compact zs).length) 0) rfl (by rw [List.length_append, List.length_replicate]; omega) (fun z hz => by
      rcases List.mem_append.1 hz with q | q
      · exact h.1 z (hmem z q)
      · rw [(List.mem_replicate.1 q).2]; unfold Wf; omega) q #[]
    rw [← hw2] at p1 p2 p3
    obtain ⟨A', c', e', _, rd⟩ := p1.shape
    injection e' with e1 e2 e3
    subst e1
    have rd2 := rd.take (Lib.compact zs).length
    rw [List.take_left] at rd2
    exact ⟨_, c, rfl, fun b hb => ⟨rd2.1, fun hn => by
      obtain ⟨b0, o0, e0, _, hc0⟩ := rd2.2 hn
      injection e0 with e0
      injection e0 with e1 e2
      exact ⟨b0, o0, by rw [e1, e2], hb b0 (by rw [← e1]; rfl), hc0⟩⟩, srt_world q #[] hbg hw2 p2 p3 hbs, p3, fun k hk hne => p2 k hk (fun e => hne (by rw [e]; rfl))⟩
end Go.Proofs.Ytoacfjmefoiflaa
