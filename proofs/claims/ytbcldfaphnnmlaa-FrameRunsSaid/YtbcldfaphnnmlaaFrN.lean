/- What stands from a place on goes; the n-th loop. -/
import Derived.Test.YtbcldfaphnnmlaaFrM
namespace Go.Proofs.Ytbcldfaphnnmlaa
open Go.RowKit Go.Sort
namespace Fra
open Cls Pt Tr
/-- What a call may change: the stack's cell, the row that it had, and what is new. -/
structure Chg (w w' : World) (b : Nat) (v v' : Value) : Prop where
  os : w'.os = w.os
  tape : w'.tape = w.tape
  output : w'.output = w.output
  size : w.heap.size ≤ w'.heap.size
  block : ∀ g, g < w.heap.size → g ≠ b → v.ownBlock ≠ some g → w'.heap[g]? = w.heap[g]?
  row : v'.ownBlock = v.ownBlock ∨ ∀ g, v'.ownBlock = some g → w.heap.size ≤ g
theorem Chg.of_below {w w' : World} {b : Nat} {v : Value} (h : Below w.heap.size w w') : Chg w w' b v v := ⟨h.os, h.tape, h.output, h.size, fun g hg _ _ => h.block g hg, .inl rfl⟩
theorem Stk.ne {w : World} {B b : Nat} {v : Value} {l : List IV} (h : Stk w B b v l) : v.ownBlock ≠ some b := by
  rcases h.own.2 with ⟨rfl, _⟩ | ⟨g', cap, cur, rfl, _, hh, _⟩
  · intro e; cases e
  · intro e
    injection e with e
    subst e
    have := hh.symm.trans h.blk
    injection this with this
    injection this with _ e2
    cases e2
theorem Chg.trans {w w1 w2 : World} {b : Nat} {v v1 v2 : Value} (h : Chg w w1 b v v1) (k : Chg w1 w2 b v1 v2) : Chg w w2 b v v2 :=
  ⟨k.os.trans h.os, k.tape.trans h.tape, k.output.trans h.output, Nat.le_trans h.size k.size,
   fun g hg hb hv => by
    refine (k.block g (Nat.lt_of_lt_of_le hg h.size) hb fun e => ?_).trans (h.block g hg hb hv)
    rcases h.row with h1 | h1
    · exact hv (h1.symm.trans e)
    · exact absurd (h1 g e) (by omega),
   by
    rcases k.row with k1 | k1
    · rcases h.row with h1 | h1
      · exact .inl (k1.trans h1)
      · exact .inr fun g e => h1 g (k1.symm.trans e)
    · exact .inr fun g e => Nat.le_trans h.size (k1 g e)⟩
theorem Chg.below {B : Nat} {w w' : World} {b : Nat} {v v' : Value} (h : Chg w w' b v v') (hB : B ≤ w.heap.size) (hb : B ≤ b) (hv : ∀ g, v.ownBlock = some g → B ≤ g) : Below B w w' :=
  ⟨h.os, h.tape, h.output, h.size, fun g hg => h.block g (by omega) (by omega) fun e => by have := hv g e; omega⟩
/-- A block of another type stays. -/
theorem Chg.other {w w' : World} {B b : Nat} {v v' : Value} {l : List IV} (h : Chg w w' b v v') (hs : Stk w B b v l) {g : Nat} {cs : Array Value} {T : TypeId} {f : Nat × Nat} (hg : w.heap[g]? = some (.cells cs T f)) (h1 : T ≠ 26) (h2 : T ≠ 43) : w'.heap[g]? = some (.cells cs T f) := by
  refine (h.block g (Array.getElem?_eq_some_iff.1 hg).1 (fun e => ?_) fun e => ?_).trans hg
  · subst e
    have := hs.blk.symm.trans hg
    injection this with this
    injection this with _ e2
    exact h1 e2.symm
  · rcases hs.own.2 with ⟨rfl, _⟩ | ⟨g', cap, cur, rfl, _, hh, _⟩
    · cases e
    · injection e with e
      subst e
      have := hh.symm.trans hg
      injection this with this
      injection this with _ e2
      exact h2 e2.symm
theorem Chg.rowStays {w w' : World} {B b : Nat} {v v' : Value} {l : List IV} (h : Chg w w' b v v') (hs : Stk w B b v l) {C k n : Nat} {u : Value} {T : TypeId} {xs : List Value} (hu : w.ownsRow C T k u n xs) (h1 : T ≠ 26) (h2 : T ≠ 43) : w'.ownsRow C T k u n xs := by
  refine ⟨hu.1, hu.2.imp id ?_⟩
  rintro ⟨g, cap, cur, hv, hg, hh, r⟩
  exact ⟨g, cap, cur, hv, hg, h.other hs hh h1 h2, r⟩
theorem infoF : (Try.prog.info? 43).map (fun i => (i.zero, i.size, i.bytes)) = some (some (.agg (icells zero).toArray), 14, 232) := by kernel_rfl
theorem zero_one (n : Nat) : ∀ v ∈ (Builtin.zeroCells (Value.agg (icells zero).toArray).cells n).toList, v.oneCell' = true := by
  intro v hv
  unfold Builtin.zeroCells at hv
  rw [Array.toList_map] at hv
  obtain ⟨i, _, rfl⟩ := List.mem_map.1 hv
  have hlt : i % 14 < 14 := Nat.mod_lt _ (by decide)
  refine icells_one zero _ ?_
  show (icells zero).toArray[i % 14]! ∈ icells zero
  rw [getElem!_pos (icells zero).toArray (i % 14) (by exact hlt)]
  exact Array.mem_toList_iff.2 (Array.getElem_mem _)
theorem zero_len (n : Nat) : (Builtin.zeroCells (Value.agg (icells zero).toArray).cells n).toList.length = n * 14 := by
  unfold Builtin.zeroCells
  simp
  rfl
/-- 'clear' of the last items of a row of one's own. -/
theorem run_clear_items {w : World} {B g cap c n : Nat} {ty : TypeId} {l : List IV} (h : w.ownsRow B 43 14 (.slice (some ⟨g, 0, none⟩) l.length cap) l.length (lcells l)) (hn : n < l.length) :
    ∃ w', (Builtin.clear_ #[24] ty #[.slice (some ⟨g, n * 14, none⟩) (l.length - n) c]).run Try.prog w = .ok (.tuple #[]) w' ∧ w'.ownsRow B 43 14 (.slice (some ⟨g, 0, none⟩) (l.take n).length cap) (l.take n).length (lcells (l.take n)) ∧ w.grownBy w' (some g) ∧ w'.heap.size = w.heap.size := by
  obtain ⟨i0, hi, hz0, hz1, hz2⟩ := info_parts infoF
  rcases h.2 with ⟨h', _⟩ | ⟨g', cap', cur, h', hb, hg, hnc, hcm, hcs, htake⟩
  · cases h'
  · injection h' with e1 _ e3
    injection e1 with e1
    injection e1 with e1
    subst e1 e3
    have hfit : n * 14 + (l.length - n) * 14 ≤ cap * 14 := by
      rw [← Nat.add_mul, show n + (l.length - n) = l.length by omega]
      exact Nat.mul_le_mul_right 14 hnc
    have hst := run_storeCells_at Try.prog g (n * 14) 43 (Builtin.zeroCells (Value.agg (icells zero).toArray).cells (l.length - n)).toList 0 cur w hg (by rw [zero_len, hcs]; exact hfit) (zero_one (l.length - n))
    refine ⟨w.setRow g (cur.toList.take (n * 14 + 0) ++ (Builtin.zeroCells (Value.agg (icells zero).toArray).cells (l.length - n)).toList ++ cur.toList.drop (n * 14 + 0 + (Builtin.zeroCells (Value.agg (icells zero).toArray).cells (l.length - n)).toList.length)).toArray, ?_, ?_, ?_, ?_⟩
    rotate_left 1
    · have hnl : (l.take n).length = n := by rw [List.length_take]; omega
      rw [hnl]
      refine ⟨by rw [lcells_len, hnl], .inr ⟨g, cap, _, rfl, hb, setRow_heap w g cur _ _ _ hg, by omega, hcm, ?_, ?_⟩⟩
      · rw [List.size_toArray, List.length_append, List.length_append, List.length_take, List.length_drop, Array.length_toList, zero_len, hcs]
        omega
      · rw [List.append_assoc, List.take_append_of_le_length (by rw [List.length_take, Array.length_toList, hcs]; have := Nat.mul_le_mul_right 14 hnc; have := Nat.mul_le_mul_right 14 (Nat.le_of_lt hn); omega), Nat.add_zero, List.take_of_length_le (by rw [List.length_take]; omega)]
        have h4 := congrArg (List.take (n * 14)) htake
        rw [List.take_take, Nat.min_eq_left (Nat.mul_le_mul_right 14 (Nat.le_of_lt hn))] at h4
        rw [h4, show l = l.take n ++ l.drop n from (List.take_append_drop n l).symm, lcells_app, List.take_append_of_le_length (by rw [lcells_len, hnl]; exact Nat.le_refl _), List.take_of_length_le (by rw [lcells_len, hnl]; exact Nat.le_refl _), List.take_append_drop]
    · exact ⟨rfl, rfl, rfl, by simp, fun k _ hk => setRow_other w g k _ (fun e => hk (by rw [e]))⟩
    · simp
    · obtain ⟨m, hm⟩ : ∃ m, l.length - n = m + 1 := ⟨l.length - n - 1, by omega⟩
      have hzv : ∀ w, (zeroValue 43).run Try.prog w = .ok (.agg (icells zero).toArray) w := by
        intro w
        unfold zeroValue typeInfo
        simp [hi, hz0]
      rw [hm] at hst ⊢
      simp [Builtin.clear_, run_underlying Try.underlying24, hzv, hst]
end Fra
end Go.Proofs.Ytbcldfaphnnmlaa
