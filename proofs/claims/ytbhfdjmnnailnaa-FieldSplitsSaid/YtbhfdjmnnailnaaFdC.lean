/- strings.Builder as the third field of a struct of the project's own (field.row): WriteString, String, Reset at a block of that type. -/
import Derived.Test.YtbhfdjmnnailnaaFdB
import Derived.Shelf.Strings.BuilderK
import Derived.Lib.Hide
import Derived.WalkKit
import Derived.Lib.AppendIntMem
import Derived.RegionTactic
import Derived.Shelf.RegionOpenPlain
set_option linter.unusedVariables false
namespace Go.Proofs.Ytbhfdjmnnailnaa
open Go.RowKit Cls
namespace Fld
/-- The row in block b: what has ended, whether one has begun, the builder. -/
structure Rw (w : World) (B b : Nat) (s : S) (av pv tv : Value) : Prop where
  base : B ≤ b
  row : w.heap[b]? = some (.cells #[av, .bool s.g, pv, tv] 48 (0, 0))
  own : w.ownsRow B 9 1 av s.E.length (s.E.map Value.string)
  buf : w.ownsRowF B 5 1 tv s.t.length (Lib.byteCells s.t)
def Row (w : World) (B b : Nat) (s : S) : Prop := ∃ av pv tv, (pv = .pointer none ∨ pv = .pointer (some ⟨b, 2, none⟩)) ∧ Rw w B b s av pv tv
section
variable {w : World} {B b : Nat} {s : S} {av pv tv : Value}
theorem Rw.lt (h : Rw w B b s av pv tv) : b < w.heap.size := (Array.getElem?_eq_some_iff.1 h.row).1
theorem Row.lt (h : Row w B b s) : b < w.heap.size := by obtain ⟨_, _, _, _, h⟩ := h; exact h.lt
theorem Row.base (h : Row w B b s) : B ≤ b := by obtain ⟨_, _, _, _, h⟩ := h; exact h.base
theorem Rw.cell (h : Rw w B b s av pv tv) (i : Nat) : w.cell? ⟨b, i, none⟩ = (#[av, .bool s.g, pv, tv] : Array Value)[i]? := cell_of_row _ _ _ _ _ _ h.row
theorem Rw.frozen (h : Rw w B b s av pv tv) (i : Nat) : w.frozen? ⟨b, i, none⟩ = false := Lib.frozen_of_heap h.row i
theorem Rw.neA (h : Rw w B b s av pv tv) : av.ownBlock ≠ some b := ownsRow_ne h.own h.row (by decide)
theorem Rw.neT (h : Rw w B b s av pv tv) : tv.ownBlock ≠ some b := Lib.ownBlock_neF h.buf h.row (by decide)
theorem ownF_keep {w w' : World} {base : Nat} {e : TypeId} {size : Nat} {v : Value} {n : Nat} {xs : List Value} (h : w.ownsRowF base e size v n xs) (hk : ∀ g, v.ownBlock = some g → w'.heap[g]? = w.heap[g]?) : w'.ownsRowF base e size v n xs := by
  refine ⟨h.1, ?_⟩
  rcases h.2 with h | ⟨g, cap, cur, fz, rfl, hb, hg, r⟩
  · exact .inl h
  · exact .inr ⟨g, cap, cur, fz, rfl, hb, (hk g rfl).trans hg, r⟩
/-- A block of bytes is none of texts. -/
theorem Rw.neAT (h : Rw w B b s av pv tv) {g : Nat} (hg : tv.ownBlock = some g) : av.ownBlock ≠ some g := by
  rcases h.buf.2 with ⟨rfl, _⟩ | ⟨k, cap, cur, fz, rfl, _, hh, _⟩
  · cases hg
  · cases hg; exact ownsRow_ne h.own hh (by decide)
theorem Rw.below {w' : World} (h : Rw w B b s av pv tv) (hb : Below w.heap.size w w') : Rw w' B b s av pv tv :=
  ⟨h.base, (hb.block _ h.lt).trans h.row, ownsRow_below h.own hb, ownF_keep h.buf fun g hg => hb.block g (h.buf.lt g hg).2⟩
theorem Row.below {w' : World} (h : Row w B b s) (hb : Below w.heap.size w w') : Row w' B b s := by
  obtain ⟨av, pv, tv, hp, h⟩ := h; exact ⟨av, pv, tv, hp, h.below hb⟩
theorem Rw.drew (h : Rw w B b s av pv tv) : Rw w.drew B b s av pv tv := ⟨h.base, h.row, h.own, h.buf⟩
/-- A cell of the row's own block is stored. -/
theorem Rw.keep (h : Rw w B b s av pv tv) (i : Nat) (x : Value) :
    (w.setCell ⟨b, i, none⟩ x).heap[b]? = some (.cells ((#[av, .bool s.g, pv, tv] : Array Value).setIfInBounds i x) 48 (0, 0)) ∧ (w.setCell ⟨b, i, none⟩ x).ownsRow B 9 1 av s.E.length (s.E.map Value.string) ∧ (w.setCell ⟨b, i, none⟩ x).ownsRowF B 5 1 tv s.t.length (Lib.byteCells s.t) :=
  ⟨heap_setCell_same _ _ i _ _ x h.row, ownsRow_keep h.own fun g hg => heap_setCell_other _ _ _ _ (fun e => h.neA (by rw [hg]; exact congrArg some e)), ownF_keep h.buf fun g hg => heap_setCell_other _ _ _ _ (fun e => h.neT (by rw [hg]; exact congrArg some e))⟩
theorem Rw.used (h : Rw w B b s av pv tv) (q : Value) : Rw (w.setCell ⟨b, 2, none⟩ q) B b s av q tv := by
  obtain ⟨h1, h2, h3⟩ := h.keep 2 q
  exact ⟨h.base, h1, h2, h3⟩
theorem Rw.begun (h : Rw w B b s av pv tv) (q : Bool) : Rw (w.setCell ⟨b, 1, none⟩ (.bool q)) B b { s with g := q } av pv tv := by
  obtain ⟨h1, h2, h3⟩ := h.keep 1 (.bool q)
  exact ⟨h.base, h1, h2, h3⟩
theorem Rw.empty (h : Rw w B b s av pv tv) : Rw (w.setCell ⟨b, 3, none⟩ (.slice none 0 0)) B b { s with t := [] } av pv (.slice none 0 0) := by
  obtain ⟨h1, h2, h3⟩ := h.keep 3 (.slice none 0 0)
  exact ⟨h.base, h1, h2, World.ownsRowF_nil _ _ _ _⟩
theorem bset {w : World} (h : Rw w B b s av pv tv) {w0 : World} (hb : Below B w0 w) (i : Nat) (x : Value) : Below B w0 (w.setCell ⟨b, i, none⟩ x) := hb.setCell (p := ⟨b, i, none⟩) h.base _
end

theorem infoW : (Try.prog.info? 39).map (·.size) = some 2 := by kernel_rfl
theorem liesW : liesAt Try.prog Try.prog.depth 48 (4 / Try.prog.cellsOf 48) 2 39 1 = true := by kernel_rfl
theorem infoByte : (Try.prog.info? 5).map (fun i => (i.zero, i.size, i.bytes)) = some (some (.int .u8 0), 1, 1) := by kernel_rfl

set_option maxHeartbeats 1000000 in
set_option maxRecDepth 100000 in
theorem copyCheck_used (b : Nat) (w : World) (h0 : w.cell? ⟨b, 2, none⟩ = some (.pointer (some ⟨b, 2, none⟩))) :
    Calls Try.prog 25 #[.pointer (some ⟨b, 2, none⟩)] w fun e w' => e = .returned (.tuple #[]) ∧ w' = w := by
  obtain ⟨j, hj, _⟩ := Option.map_eq_some_iff.1 infoW
  go_enter Try.func25, Try.ntmps25
  go_wp2
  rw [Lib.run_neq_ptr_same w _ Try.underlying36 hj]
  go_wp2
  go_end0
  exact ⟨rfl, rfl⟩

set_option maxHeartbeats 1000000 in
set_option maxRecDepth 100000 in
theorem copyCheck_fresh (b : Nat) (w : World) (h0 : w.cell? ⟨b, 2, none⟩ = some (.pointer none)) (hsh : w.shape? b = some (48, 4)) (hfz : w.frozen? ⟨b, 2, none⟩ = false) :
    Calls Try.prog 25 #[.pointer (some ⟨b, 2, none⟩)] w fun e w' => e = .returned (.tuple #[]) ∧ w' = w.setCell ⟨b, 2, none⟩ (.pointer (some ⟨b, 2, none⟩)) := by
  obtain ⟨j, hj, hjs⟩ := Option.map_eq_some_iff.1 infoW
  go_enter Try.func25, Try.ntmps25
  go_wp2
  rw [Lib.run_to_unsafe w ⟨b, 2, none⟩ Try.underlying36 Try.underlying56 hj (by rw [hjs]; decide) hsh (by show 2 < 4; decide)]
  simp only [Result.andThen]
  rw [Oper.upon_value]
  go_wp2
  rw [run_callFunc_extern Try.func30 (by kernel_rfl) (by kernel_rfl) (by kernel_rfl) (e := Extern.AbiNoEscape.same) (by kernel_rfl)]
  rw [Lib.run_noEscape]
  simp only [Result.andThen]
  rw [Oper.upon_value]
  go_wp2
  rw [Lib.run_from_unsafe w ⟨b, 2, none⟩ Try.underlying56 Try.underlying36 hj hsh liesW]
  simp only [Result.andThen]
  rw [Oper.upon_value]
  go_wp2
  go_end0
  exact ⟨rfl, rfl⟩

theorem copyCheck_any (B b : Nat) (s : S) (av pv tv : Value) (w : World) (hp : pv = .pointer none ∨ pv = .pointer (some ⟨b, 2, none⟩)) (h : Rw w B b s av pv tv) :
    Calls Try.prog 25 #[.pointer (some ⟨b, 2, none⟩)] w fun e w' => e = .returned (.tuple #[]) ∧ Rw w' B b s av (.pointer (some ⟨b, 2, none⟩)) tv ∧ Below B w w' := by
  rcases hp with rfl | rfl
  · refine (copyCheck_fresh b w (h.cell 2) (by simp [World.shape?, h.row]) (h.frozen 2)).mono ?_
    rintro e w' ⟨rfl, rfl⟩
    exact ⟨rfl, h.used _, bset h (Below.refl B w) 2 _⟩
  · refine (copyCheck_used b w (h.cell 2)).mono ?_
    rintro e w' ⟨rfl, rfl⟩
    exact ⟨rfl, h, Below.refl B _⟩

set_option maxHeartbeats 2000000 in
set_option maxRecDepth 100000 in
theorem writeString_any (B b : Nat) (st : S) (s : ByteArray) (w : World) (h : Row w B b st) (hlen : st.t.length + s.size ≤ 140737488355328) :
    Calls Try.prog 18 #[.pointer (some ⟨b, 2, none⟩), .string s] w fun e w' => e = .returned (.tuple #[.int .i64 s.size, .nilIface]) ∧ Row w' B b { st with t := st.t ++ bs s } ∧ Below B w w' := by
  obtain ⟨i0, hi, hz0, hz1, hz2⟩ := info_parts infoByte
  obtain ⟨av, pv, tv, hp, h⟩ := h
  have hBw : B ≤ w.heap.size := by have := h.base; have := h.lt; omega
  have hcat : Lib.byteCells (st.t ++ bs s) = Lib.byteCells st.t ++ Lib.strCells s := by rw [Lib.byteCells_append]; rfl
  go_enter Try.func18, Try.ntmps18
  go_wp2_with (go_at_call 25; refine (copyCheck_any B b st av pv tv _ hp h).mono ?_)
  rintro e w1 ⟨rfl, h1, hb1⟩
  have c0 : w1.cell? ⟨b, 2, none⟩ = some (.pointer (some ⟨b, 2, none⟩)) := h1.cell 2
  have c1 : w1.cell? ⟨b, 3, none⟩ = some tv := h1.cell 3
  go_wp2_with (at_builtin; refine Lib.wpList_append_own_stringF _ rfl _ _ 37 9 rfl B 5 i0 Try.underlying37 Try.underlying9 hi hz0 hz1 hz2 _ _ _ rfl h1.buf s rfl ?c3 ?c4 ?c5 ?_)
  case c3 => unfold maxLen; omega
  case c4 => omega
  case c5 => have := hb1.size; omega
  intro v' w2 hown' hgrow _
  have hb2 : w2.heap[b]? = some (.cells #[av, .bool st.g, .pointer (some ⟨b, 2, none⟩), tv] 48 (0, 0)) := (hgrow.block b h1.lt (fun e => h1.neT e.symm)).trans h1.row
  have hA2 : w2.ownsRow B 9 1 av st.E.length (st.E.map Value.string) := ownsRow_keep h1.own fun g hg => hgrow.block g (h1.own.lt g hg).2 (fun e => h1.neAT e.symm hg)
  have d0 : w2.cell? ⟨b, 2, none⟩ = some (.pointer (some ⟨b, 2, none⟩)) := by rw [cell_of_row _ _ _ _ _ _ hb2]; rfl
  have d1 : w2.cell? ⟨b, 3, none⟩ = some tv := by rw [cell_of_row _ _ _ _ _ _ hb2]; rfl
  have f1 : w2.frozen? ⟨b, 3, none⟩ = false := Lib.frozen_of_heap hb2 3
  obtain ⟨ao, n', cap, rfl⟩ : ∃ ao n' cap, v' = .slice ao n' cap := by
    rcases hown'.2 with ⟨hv, _⟩ | ⟨g, cap, cur, fz, hv, _⟩
    · exact ⟨_, _, _, hv⟩
    · exact ⟨_, _, _, hv⟩
  go_wp2
  go_ret2
  have hne := Lib.ownBlock_neF hown' hb2 (by decide)
  refine ⟨rfl, ⟨av, _, _, .inr rfl, ⟨h1.base, heap_setCell_same _ _ 3 _ _ _ hb2, ?_, ?_⟩⟩, ?_⟩
  · exact ownsRow_keep hA2 fun g hg => heap_setCell_other _ _ _ _ (fun e => h1.neA (by rw [hg]; exact congrArg some e))
  · show World.ownsRowF _ _ _ _ _ (st.t ++ bs s).length (Lib.byteCells (st.t ++ bs s))
    rw [hcat, List.length_append, bs_len]
    exact ownF_keep hown' fun g hg => heap_setCell_other _ _ _ _ (fun e => hne (by rw [hg]; exact congrArg some e))
  · exact (hb1.grown hgrow (by have := hb1.size; omega) (fun k hk => (h1.buf.lt k hk).1)).setCell (p := ⟨b, 3, none⟩) h1.base _
end Fld
end Go.Proofs.Ytbhfdjmnnailnaa
