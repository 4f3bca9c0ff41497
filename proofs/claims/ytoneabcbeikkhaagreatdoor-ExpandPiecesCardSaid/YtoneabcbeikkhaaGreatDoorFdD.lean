/- strings.Builder as the third field of a struct of the project's own (field.row): WriteString, String, Reset at a block of that type. -/
/- The row's builder, read and reset; what a field gets, and where it ends. -/
import Derived.Test.YtoneabcbeikkhaaGreatDoorFdB
import Derived.Shelf.Strings.BuilderK
import Derived.Lib.Hide
import Derived.WalkKit
import Derived.Lib.AppendIntMem
import Derived.RegionTactic
import Derived.Shelf.RegionOpenPlain
import Derived.Test.YtoneabcbeikkhaaGreatDoorReg
import Derived.Test.YtoneabcbeikkhaaGreatDoorClsB
import Derived.Deep.AppendLies
set_option linter.unusedVariables false
namespace Go.Proofs.YtoneabcbeikkhaaGreatDoor
open Go.RowKit Cls
namespace Fld
/-- The row in block b: what has ended, whether one has begun, the builder. -/
structure Rw (w : World) (B b : Nat) (s : S) (av pv tv : Value) : Prop where
  base : B ≤ b
  row : w.heap[b]? = some (.cells #[av, .bool s.g, pv, tv] 104 (0, 0))
  own : w.ownsRow B 9 1 av s.E.length (s.E.map Value.string)
  buf : w.ownsRowF B 5 1 tv s.t.length (Lib.byteCells s.t)
def Row (w : World) (B b : Nat) (s : S) : Prop := ∃ av pv tv, (pv = .pointer none ∨ pv = .pointer (some ⟨b, 2, none⟩)) ∧ Rw w B b s av pv tv
section
variable {w : World} {B b : Nat} {s : S} {av pv tv : Value}
theorem Rw.lt (h : Rw w B b s av pv tv) : b < w.heap.size := (Array.getElem?_eq_some_iff.1 h.row).1
theorem Row.lt (h : Row w B b s) : b < w.heap.size := by obtain ⟨_, _, _, _, h⟩ := h; exact h.lt
theorem Row.base (h : Row w B b s) : B ≤ b := by obtain ⟨_, _, _, _, h⟩ := h; exact h.base
theorem Rw.cell (h : Rw w B b s av pv tv) (i : Nat) : w.cell? ⟨b, i, none⟩ = (#[av, .bool s.g, pv, tv] : Array Value)[i]? := cell_of_row _ _ _ _ _ _ h.row
theorem Rw.frozen (h : Rw w B b s av pv tv) (i : Nat) : w.frozen? ⟨b, i, none⟩ = false := Lib.frozen_of_heap h.row i
theorem Rw.neA (h : Rw w B b s av pv tv) : av.ownBlock ≠ some b := ownsRow_ne h.own h.row (by decide)
theorem Rw.neT (h : Rw w B b s av pv tv) : tv.ownBlock ≠ some b := Lib.ownBlock_neF h.buf h.row (by decide)
theorem ownF_keep {w w' : World} {base : Nat} {e : TypeId} {size : Nat} {v : Value} {n : Nat} {xs : List Value} (h : w.ownsRowF base e size v n xs) (hk : ∀ g, v.ownBlock = some g → w'.heap[g]? = w.heap[g]?) : w'.ownsRowF base e size v n xs := by
  refine ⟨h.1, ?_⟩
  rcases h.2 with h | ⟨g, cap, cur, fz, rfl, hb, hg, r⟩
  · exact .inl h
  · exact .inr ⟨g, cap, cur, fz, rfl, hb, (hk g rfl).trans hg, r⟩
/-- A block of bytes is none of texts. -/
theorem Rw.neAT (h : Rw w B b s av pv tv) {g : Nat} (hg : tv.ownBlock = some g) : av.ownBlock ≠ some g := by
  rcases h.buf.2 with ⟨rfl, _⟩ | ⟨k, cap, cur, fz, rfl, _, hh, _⟩
  · cases hg
  · cases hg; exact ownsRow_ne h.own hh (by decide)
theorem Rw.below {w' : World} (h : Rw w B b s av pv tv) (hb : Below w.heap.size w w') : Rw w' B b s av pv tv :=
  ⟨h.base, (hb.block _ h.lt).trans h.row, ownsRow_below h.own hb, ownF_keep h.buf fun g hg => hb.block g (h.buf.lt g hg).2⟩
theorem Row.below {w' : World} (h : Row w B b s) (hb : Below w.heap.size w w') : Row w' B b s := by
  obtain ⟨av, pv, tv, hp, h⟩ := h; exact ⟨av, pv, tv, hp, h.below hb⟩
theorem Rw.drew (h : Rw w B b s av pv tv) : Rw w.drew B b s av pv tv := ⟨h.base, h.row, h.own, h.buf⟩
/-- A cell of the row's own block is stored. -/
theorem Rw.keep (h : Rw w B b s av pv tv) (i : Nat) (x : Value) :
    (w.setCell ⟨b, i, none⟩ x).heap[b]? = some (.cells ((#[av, .bool s.g, pv, tv] : Array Value).setIfInBounds i x) 104 (0, 0)) ∧ (w.setCell ⟨b, i, none⟩ x).ownsRow B 9 1 av s.E.length (s.E.map Value.string) ∧ (w.setCell ⟨b, i, none⟩ x).ownsRowF B 5 1 tv s.t.length (Lib.byteCells s.t) :=
  ⟨heap_setCell_same _ _ i _ _ x h.row, ownsRow_keep h.own fun g hg => heap_setCell_other _ _ _ _ (fun e => h.neA (by rw [hg]; exact congrArg some e)), ownF_keep h.buf fun g hg => heap_setCell_other _ _ _ _ (fun e => h.neT (by rw [hg]; exact congrArg some e))⟩
theorem Rw.used (h : Rw w B b s av pv tv) (q : Value) : Rw (w.setCell ⟨b, 2, none⟩ q) B b s av q tv := by
  obtain ⟨h1, h2, h3⟩ := h.keep 2 q
  exact ⟨h.base, h1, h2, h3⟩
theorem Rw.begun (h : Rw w B b s av pv tv) (q : Bool) : Rw (w.setCell ⟨b, 1, none⟩ (.bool q)) B b { s with g := q } av pv tv := by
  obtain ⟨h1, h2, h3⟩ := h.keep 1 (.bool q)
  exact ⟨h.base, h1, h2, h3⟩
theorem Rw.empty (h : Rw w B b s av pv tv) : Rw (w.setCell ⟨b, 3, none⟩ (.slice none 0 0)) B b { s with t := [] } av pv (.slice none 0 0) := by
  obtain ⟨h1, h2, h3⟩ := h.keep 3 (.slice none 0 0)
  exact ⟨h.base, h1, h2, World.ownsRowF_nil _ _ _ _⟩
theorem bset {w : World} (h : Rw w B b s av pv tv) {w0 : World} (hb : Below B w0 w) (i : Nat) (x : Value) : Below B w0 (w.setCell ⟨b, i, none⟩ x) := hb.setCell (p := ⟨b, i, none⟩) h.base _
end

theorem infoW : (Tryz.prog.info? 84).map (·.size) = some 2 := by kernel_rfl
theorem liesW : liesAt Tryz.prog Tryz.prog.depth 104 (4 / Tryz.prog.cellsOf 104) 2 84 1 = true := by kernel_rfl
theorem infoByte : (Tryz.prog.info? 5).map (fun i => (i.zero, i.size, i.bytes)) = some (some (.int .u8 0), 1, 1) := by kernel_rfl

set_option maxHeartbeats 1000000 in
set_option maxRecDepth 100000 in
theorem copyCheck_used (b : Nat) (w : World) (h0 : w.cell? ⟨b, 2, none⟩ = some (.pointer (some ⟨b, 2, none⟩))) :
    Calls Tryz.prog 75 #[.pointer (some ⟨b, 2, none⟩)] w fun e w' => e = .returned (.tuple #[]) ∧ w' = w := by
  obtain ⟨j, hj, _⟩ := Option.map_eq_some_iff.1 infoW
  go_enter Tryz.func75, Tryz.ntmps75
  go_wp2
  rw [Lib.run_neq_ptr_same w _ Tryz.underlying81 hj]
  go_wp2
  go_end0
  exact ⟨rfl, rfl⟩

set_option maxHeartbeats 1000000 in
set_option maxRecDepth 100000 in
theorem copyCheck_fresh (b : Nat) (w : World) (h0 : w.cell? ⟨b, 2, none⟩ = some (.pointer none)) (hsh : w.shape? b = some (104, 4)) (hfz : w.frozen? ⟨b, 2, none⟩ = false) :
    Calls Tryz.prog 75 #[.pointer (some ⟨b, 2, none⟩)] w fun e w' => e = .returned (.tuple #[]) ∧ w' = w.setCell ⟨b, 2, none⟩ (.pointer (some ⟨b, 2, none⟩)) := by
  obtain ⟨j, hj, hjs⟩ := Option.map_eq_some_iff.1 infoW
  go_enter Tryz.func75, Tryz.ntmps75
  go_wp2
  rw [Lib.run_to_unsafe w ⟨b, 2, none⟩ Tryz.underlying81 Tryz.underlying115 hj (by rw [hjs]; decide) hsh (by show 2 < 4; decide)]
  simp only [Result.andThen]
  rw [Oper.upon_value]
  go_wp2
  rw [run_callFunc_extern Tryz.func96 (by kernel_rfl) (by kernel_rfl) (by kernel_rfl) (e := Extern.AbiNoEscape.same) (by kernel_rfl)]
  rw [Lib.run_noEscape]
  simp only [Result.andThen]
  rw [Oper.upon_value]
  go_wp2
  rw [Lib.run_from_unsafe w ⟨b, 2, none⟩ Tryz.underlying115 Tryz.underlying81 hj hsh liesW]
  simp only [Result.andThen]
  rw [Oper.upon_value]
  go_wp2
  go_end0
  exact ⟨rfl, rfl⟩

theorem copyCheck_any (B b : Nat) (s : S) (av pv tv : Value) (w : World) (hp : pv = .pointer none ∨ pv = .pointer (some ⟨b, 2, none⟩)) (h : Rw w B b s av pv tv) :
    Calls Tryz.prog 75 #[.pointer (some ⟨b, 2, none⟩)] w fun e w' => e = .returned (.tuple #[]) ∧ Rw w' B b s av (.pointer (some ⟨b, 2, none⟩)) tv ∧ Below B w w' := by
  rcases hp with rfl | rfl
  · refine (copyCheck_fresh b w (h.cell 2) (by simp [World.shape?, h.row]) (h.frozen 2)).mono ?_
    rintro e w' ⟨rfl, rfl⟩
    exact ⟨rfl, h.used _, bset h (Below.refl B w) 2 _⟩
  · refine (copyCheck_used b w (h.cell 2)).mono ?_
    rintro e w' ⟨rfl, rfl⟩
    exact ⟨rfl, h, Below.refl B _⟩

set_option maxHeartbeats 2000000 in
set_option maxRecDepth 100000 in
theorem writeString_any (B b : Nat) (st : S) (s : ByteArray) (w : World) (h : Row w B b st) (hlen : st.t.length + s.size ≤ 140737488355328) :
    Calls Tryz.prog 48 #[.pointer (some ⟨b, 2, none⟩), .string s] w fun e w' => e = .returned (.tuple #[.int .i64 s.size, .nilIface]) ∧ Row w' B b { st with t := st.t ++ bs s } ∧ Below B w w' := by
  obtain ⟨i0, hi, hz0, hz1, hz2⟩ := info_parts infoByte
  obtain ⟨av, pv, tv, hp, h⟩ := h
  have hBw : B ≤ w.heap.size := by have := h.base; have := h.lt; omega
  have hcat : Lib.byteCells (st.t ++ bs s) = Lib.byteCells st.t ++ Lib.strCells s := by rw [Lib.byteCells_append]; rfl
  go_enter Tryz.func48, Tryz.ntmps48
  go_wp2_with (go_at_call 75; refine (copyCheck_any B b st av pv tv _ hp h).mono ?_)
  rintro e w1 ⟨rfl, h1, hb1⟩
  have c0 : w1.cell? ⟨b, 2, none⟩ = some (.pointer (some ⟨b, 2, none⟩)) := h1.cell 2
  have c1 : w1.cell? ⟨b, 3, none⟩ = some tv := h1.cell 3
  go_wp2_with (at_builtin; refine Lib.wpList_append_own_stringF _ rfl _ _ 82 9 rfl B 5 i0 Tryz.underlying82 Tryz.underlying9 hi hz0 hz1 hz2 _ _ _ rfl h1.buf s rfl ?c3 ?c4 ?c5 ?_)
  case c3 => unfold maxLen; omega
  case c4 => omega
  case c5 => have := hb1.size; omega
  intro v' w2 hown' hgrow _
  have hb2 : w2.heap[b]? = some (.cells #[av, .bool st.g, .pointer (some ⟨b, 2, none⟩), tv] 104 (0, 0)) := (hgrow.block b h1.lt (fun e => h1.neT e.symm)).trans h1.row
  have hA2 : w2.ownsRow B 9 1 av st.E.length (st.E.map Value.string) := ownsRow_keep h1.own fun g hg => hgrow.block g (h1.own.lt g hg).2 (fun e => h1.neAT e.symm hg)
  have d0 : w2.cell? ⟨b, 2, none⟩ = some (.pointer (some ⟨b, 2, none⟩)) := by rw [cell_of_row _ _ _ _ _ _ hb2]; rfl
  have d1 : w2.cell? ⟨b, 3, none⟩ = some tv := by rw [cell_of_row _ _ _ _ _ _ hb2]; rfl
  have f1 : w2.frozen? ⟨b, 3, none⟩ = false := Lib.frozen_of_heap hb2 3
  obtain ⟨ao, n', cap, rfl⟩ : ∃ ao n' cap, v' = .slice ao n' cap := by
    rcases hown'.2 with ⟨hv, _⟩ | ⟨g, cap, cur, fz, hv, _⟩
    · exact ⟨_, _, _, hv⟩
    · exact ⟨_, _, _, hv⟩
  go_wp2
  go_ret2
  have hne := Lib.ownBlock_neF hown' hb2 (by decide)
  refine ⟨rfl, ⟨av, _, _, .inr rfl, ⟨h1.base, heap_setCell_same _ _ 3 _ _ _ hb2, ?_, ?_⟩⟩, ?_⟩
  · exact ownsRow_keep hA2 fun g hg => heap_setCell_other _ _ _ _ (fun e => h1.neA (by rw [hg]; exact congrArg some e))
  · show World.ownsRowF _ _ _ _ _ (st.t ++ bs s).length (Lib.byteCells (st.t ++ bs s))
    rw [hcat, List.length_append, bs_len]
    exact ownF_keep hown' fun g hg => heap_setCell_other _ _ _ _ (fun e => hne (by rw [hg]; exact congrArg some e))
  · exact (hb1.grown hgrow (by have := hb1.size; omega) (fun k hk => (h1.buf.lt k hk).1)).setCell (p := ⟨b, 3, none⟩) h1.base _
end Fld
end Go.Proofs.YtoneabcbeikkhaaGreatDoor

namespace Go.Proofs.YtoneabcbeikkhaaGreatDoor
open Go.RowKit Cls
namespace Fld
theorem ret0 : Ending.returned (.tuple #[]) = Ending.returned (.tuple #[]) := rfl
/-- Bytes that are read out are frozen. -/
theorem ownF_froze {w : World} {B e g n cap : Nat} {xs : List Value} (h : w.ownsRowF B e 1 (.slice (some ⟨g, 0, none⟩) n cap) n xs) : (w.freeze ⟨g, 0, none⟩ n).ownsRowF B e 1 (.slice (some ⟨g, 0, none⟩) n cap) n xs := by
  unfold World.freeze
  split
  · exact h
  · refine ⟨h.1, ?_⟩
    rcases h.2 with ⟨hv, _⟩ | ⟨g', cap', cur, fz, hv, hbg, hg, hfz, rest⟩
    · cases hv
    · injection hv with ha _ hcap
      injection ha with ha
      injection ha with hgg _ _
      subst hgg
      subst hcap
      obtain ⟨lo, hi⟩ := fz
      refine .inr ⟨g, _, cur, (if lo == hi then (0, 0 + n) else (min lo 0, max hi (0 + n))), rfl, hbg, ?_, ?_, rest⟩
      · simp [Array.getElem?_modify, hg]
      · simp only at hfz
        split <;> simp <;> omega
theorem freeze_other (w : World) (g n k : Nat) (h : k ≠ g) : (w.freeze ⟨g, 0, none⟩ n).heap[k]? = w.heap[k]? := by
  unfold World.freeze
  split
  · rfl
  · simp only [Array.getElem?_modify]
    rw [if_neg (Ne.symm h)]
theorem Rw.froze {w : World} {B b : Nat} {s : S} {av pv : Value} {g cap : Nat} (h : Rw w B b s av pv (.slice (some ⟨g, 0, none⟩) s.t.length cap)) : Rw (w.freeze ⟨g, 0, none⟩ s.t.length) B b s av pv (.slice (some ⟨g, 0, none⟩) s.t.length cap) :=
  ⟨h.base, (freeze_other _ _ _ _ (fun e => h.neT (by rw [e]; rfl))).trans h.row, ownsRow_keep h.own fun k hk => freeze_other _ _ _ _ (fun e => h.neAT (g := g) rfl (by rw [hk, e])), ownF_froze h.buf⟩
set_option maxHeartbeats 1000000 in
set_option maxRecDepth 100000 in
theorem string_full (B b : Nat) (s : S) (av pv tv : Value) (w : World) (h : Rw w B b s av pv tv) (h0 : s.t ≠ []) :
    Calls Tryz.prog 49 #[.pointer (some ⟨b, 2, none⟩)] w fun e w' => e = .returned (.string (tx s.t)) ∧ Rw w' B b s av pv tv ∧ Below B w w' := by
  have hl0 : s.t.length ≠ 0 := by simpa using h0
  obtain ⟨g, cap, cur, fz, rfl, hbg, hg, hnc, hcm, hcs⟩ : ∃ g cap cur fz, tv = .slice (some ⟨g, 0, none⟩) s.t.length cap ∧ B ≤ g ∧ w.heap[g]? = some (.cells cur 5 fz) ∧ s.t.length ≤ cap ∧ cap ≤ maxLen ∧ cur.size = cap * 1 := by
    rcases h.buf.2 with ⟨_, hz⟩ | ⟨g, cap, cur, fz, hv, r1, r2, _, r3, r4, r5, _⟩
    · exact absurd hz hl0
    · exact ⟨g, cap, cur, fz, hv, r1, r2, r3, r4, r5⟩
  have c1 : w.drew.cell? ⟨b, 3, none⟩ = some (.slice (some ⟨g, 0, none⟩) s.t.length cap) := h.cell 3
  have hSD : (Builtin.unsafeSliceData_ #[82] 109 #[.slice (some ⟨g, 0, none⟩) s.t.length cap]).run Tryz.prog w.drew = .ok (.pointer (some ⟨g, 0, none⟩)) w.drew :=
    Lib.run_unsafeSliceData_row _ _ _ _ _ _ (by omega)
  have hUS : (Builtin.unsafeString_ #[109, 3] 9 #[.pointer (some ⟨g, 0, none⟩), .int .i64 s.t.length]).run Tryz.prog w.drew = .ok (.string (tx s.t)) (w.drew.freeze ⟨g, 0, none⟩ s.t.length) := by
    refine Lib.run_unsafeString_row w.drew 109 3 9 5 Tryz.underlying109 (by kernel_rfl) g cur.size (by have hg' : w.drew.heap[g]? = some (.cells cur 5 fz) := hg; simp [World.shape?, hg']) s.t h0 (by omega) (by unfold maxLen at hcm; omega) ?_
    intro j x hx
    have := h.buf.cells (g := g) rfl j (.int .u8 x.toNat) (by simp [Lib.byteCells, hx])
    exact this
  have hr : Rw (w.drew.freeze ⟨g, 0, none⟩ s.t.length) B b s av pv (.slice (some ⟨g, 0, none⟩) s.t.length cap) := h.drew.froze
  have HR := Lib.hid hr
  clear hr h
  go_enter Tryz.func49, Tryz.ntmps49
  go_wp2
  go_region
  all_goals (go_wp2; go_ret; exact ⟨rfl, HR.out, Lib.below_freeze (Below.drew (Below.refl B w)) (p := ⟨g, 0, none⟩) hbg _⟩)
theorem unsafe_none (W : World) (q : Option Addr) : (Builtin.unsafeString_ #[109, 3] 9 #[.pointer q, .int .i64 0]).run Tryz.prog W = .ok (.string .empty) W := Lib.run_unsafeString_none W _ _ _ q
set_option maxHeartbeats 2000000 in
set_option maxRecDepth 100000 in
theorem string_nil (b : Nat) (w : World) (c1 : w.drew.cell? ⟨b, 3, none⟩ = some (.slice none 0 0)) :
    Calls Tryz.prog 49 #[.pointer (some ⟨b, 2, none⟩)] w fun e w' => e = .returned (.string (tx [])) ∧ w' = w.drew := by
  have hUS := unsafe_none
  have hSD : (Builtin.unsafeSliceData_ #[82] 109 #[.slice none 0 0]).run Tryz.prog w.drew = .ok (.pointer none) w.drew := rfl
  go_enter Tryz.func49, Tryz.ntmps49
  go_wp2
  go_region
  all_goals (go_wp2; go_ret; exact ⟨rfl, rfl⟩)
set_option maxHeartbeats 2000000 in
set_option maxRecDepth 100000 in
theorem string_noroom (b g : Nat) (cur : Array Value) (fz : Nat × Nat) (w : World) (hlt : b < w.heap.size) (hg : w.heap[g]? = some (.cells cur 5 fz)) (c0 : w.cell? ⟨b, 3, none⟩ = some (.slice (some ⟨g, 0, none⟩) 0 0)) :
    Calls Tryz.prog 49 #[.pointer (some ⟨b, 2, none⟩)] w fun e w' => e = .returned (.string (tx [])) ∧ w' = (w.alloc (.view ⟨g, 0, none⟩ 5)).drew := by
  have hUS := unsafe_none
  have c1 : w.drew.cell? ⟨b, 3, none⟩ = some (.slice (some ⟨g, 0, none⟩) 0 0) := c0
  have hSD : (Builtin.unsafeSliceData_ #[82] 109 #[.slice (some ⟨g, 0, none⟩) 0 0]).run Tryz.prog w.drew = .ok (.pointer (some ⟨w.drew.heap.size, 0, none⟩)) (w.drew.alloc (.view ⟨g, 0, none⟩ 5)) :=
    Lib.run_unsafeSliceData_zero w.drew _ _ 5 Tryz.underlying109 ⟨g, 0, none⟩ 0 (5, cur.size) (by have hg' : w.drew.heap[g]? = some (.cells cur 5 fz) := hg; simp [World.shape?, hg'])
  have c2 : (w.drew.alloc (.view ⟨g, 0, none⟩ 5)).cell? ⟨b, 3, none⟩ = some (.slice (some ⟨g, 0, none⟩) 0 0) := (World.cell?_of_block (a := ⟨b, 3, none⟩) (Lib.alloc_old w.drew _ b hlt)).trans c1
  have c3 : (w.alloc (.view ⟨g, 0, none⟩ 5)).drew.cell? ⟨b, 3, none⟩ = some (.slice (some ⟨g, 0, none⟩) 0 0) := c2
  go_enter Tryz.func49, Tryz.ntmps49
  go_wp2
  go_region
  all_goals (go_wp2; go_ret; exact ⟨rfl, rfl⟩)
set_option maxHeartbeats 2000000 in
set_option maxRecDepth 100000 in
theorem string_room (b g cap : Nat) (w : World) (hc0 : cap ≠ 0) (c1 : w.drew.cell? ⟨b, 3, none⟩ = some (.slice (some ⟨g, 0, none⟩) 0 cap)) :
    Calls Tryz.prog 49 #[.pointer (some ⟨b, 2, none⟩)] w fun e w' => e = .returned (.string (tx [])) ∧ w' = w.drew := by
  have hUS := unsafe_none
  have hSD : (Builtin.unsafeSliceData_ #[82] 109 #[.slice (some ⟨g, 0, none⟩) 0 cap]).run Tryz.prog w.drew = .ok (.pointer (some ⟨g, 0, none⟩)) w.drew :=
    Lib.run_unsafeSliceData_row _ _ _ _ _ _ hc0
  clear hc0
  go_enter Tryz.func49, Tryz.ntmps49
  go_wp2
  go_region
  all_goals (go_wp2; go_ret; exact ⟨rfl, rfl⟩)
/-- The bytes of the one that has begun. -/
theorem string_any (B b : Nat) (s : S) (av pv tv : Value) (w : World) (hr : Rw w B b s av pv tv) :
    Calls Tryz.prog 49 #[.pointer (some ⟨b, 2, none⟩)] w fun e w' => e = .returned (.string (tx s.t)) ∧ Rw w' B b s av pv tv ∧ Below B w w' := by
  by_cases h0 : s.t = []
  · have hBw : B ≤ w.heap.size := by have := hr.base; have := hr.lt; omega
    rw [h0]
    rcases hr.buf.2 with ⟨rfl, _⟩ | ⟨g, cap, cur, fz, rfl, hbg, hg, _, _, _, _, _⟩
    · refine (string_nil b w (hr.cell 3)).mono ?_
      rintro e w' ⟨rfl, rfl⟩
      exact ⟨rfl, hr.drew, Below.drew (Below.refl B w)⟩
    · have hl : s.t.length = 0 := by rw [h0]; rfl
      by_cases hc0 : cap = 0
      · subst hc0
        refine (string_noroom b g cur fz w hr.lt hg (by have := hr.cell 3; rw [hl] at this; exact this)).mono ?_
        rintro e w' ⟨rfl, rfl⟩
        exact ⟨rfl, (hr.below (below_alloc _ _)).drew, Below.drew ((Below.refl B w).alloc hBw _)⟩
      · refine (string_room b g cap w hc0 (by have := hr.cell 3; rw [hl] at this; exact this)).mono ?_
        rintro e w' ⟨rfl, rfl⟩
        exact ⟨rfl, hr.drew, Below.drew (Below.refl B w)⟩
  · exact string_full B b s av pv tv w hr h0
set_option maxHeartbeats 1000000 in
theorem reset_any (B b : Nat) (s : S) (w : World) (h : Row w B b s) :
    Calls Tryz.prog 86 #[.pointer (some ⟨b, 2, none⟩)] w fun e w' => e = .returned (.tuple #[]) ∧ Row w' B b { s with t := [] } ∧ Below B w w' := by
  obtain ⟨av, pv, tv, hp, hr⟩ := h
  have c0 : w.cell? ⟨b, 2, none⟩ = some pv := hr.cell 2
  have c1 : w.cell? ⟨b, 3, none⟩ = some tv := hr.cell 3
  have f0 := hr.frozen 2
  have f1 := hr.frozen 3
  have h1 := hr.used (.pointer none)
  have h2 := h1.empty
  have hb := bset h1 (bset hr (Below.refl B w) 2 (.pointer none)) 3 (.slice none 0 0)
  have HR := Lib.hid (show Row ((w.setCell ⟨b, 2, none⟩ (.pointer none)).setCell ⟨b, 3, none⟩ (.slice none 0 0)) B b { s with t := [] } from ⟨_, _, _, .inl rfl, h2⟩)
  have HB := Lib.hid hb
  clear h1 h2 hb hr hp
  go_enter Tryz.func86, Tryz.ntmps86
  go_wp2_with fail
  go_end0
  exact ⟨rfl, HR.out, HB.out⟩
/-- How much there may be. -/
def Fits (s : S) : Prop := nS s ≤ 1000000
set_option maxHeartbeats 1000000 in
theorem grow_any (B b : Nat) (s : S) (x : ByteArray) (w : World) (h : Row w B b s) (hf : Fits s) (hx : x.size ≤ 1000000) :
    Calls Tryz.prog 63 #[.pointer (some ⟨b, 0, none⟩), .string x] w fun e w' => e = .returned (.tuple #[]) ∧ Row w' B b (growS s (bs x)) ∧ Below B w w' := by
  have hlen : s.t.length + x.size ≤ 140737488355328 := by unfold Fits nS at hf; omega
  obtain ⟨av, pv, tv, hp, hr⟩ := h
  have c0 : w.cell? ⟨b, 1, none⟩ = some (.bool s.g) := hr.cell 1
  have f0 := hr.frozen 1
  have hr1 : Row (w.setCell ⟨b, 1, none⟩ (.bool true)) B b { s with g := true } := ⟨_, _, _, hp, hr.begun true⟩
  have HR := Lib.hid hr1
  have HB := Lib.hid (bset hr (Below.refl B w) 1 (.bool true))
  clear hr1 hr hp hf
  go_enter Tryz.func63, Tryz.ntmps63
  go_wp2_with fail
  refine (writeString_any B b _ x _ HR.out hlen).mono ?_
  rintro e w1 ⟨rfl, h1, hb1⟩
  have H1 := Lib.hid h1
  have HB1 := Lib.hid (HB.out.trans hb1)
  clear h1 hb1
  go_wp2_with fail
  go_end0
  exact ⟨rfl, H1.out, HB1.out⟩
end Fld
end Go.Proofs.YtoneabcbeikkhaaGreatDoor
