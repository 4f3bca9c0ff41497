/- SetArgs, SetStatus, SetLast; a row that is cloned. -/
import Derived.Test.YtoneabcbeikkhaaGreatDoorVrD
import Derived.Test.YtoneabcbeikkhaaGreatDoorShelf
namespace Go.Proofs.YtoneabcbeikkhaaGreatDoor
open Go.RowKit Go.Maps Cls
namespace Vr

/-- A slice's value that may be read as these texts. -/
def Txt (w : World) (av : Value) (xs : List ByteArray) : Prop :=
  (xs = [] ∧ ∃ a cap, av = .slice a 0 cap) ∨ ∃ b off cap, av = .slice (some ⟨b, off, none⟩) xs.length cap ∧ xs.length ≤ cap ∧ b < w.heap.size ∧ ∀ j x, xs[j]? = some x → w.cell? ⟨b, off + j, none⟩ = some (.string x)
theorem RowAt.txt {w : World} {B : Nat} {av : Value} {xs : List ByteArray} (h : RowAt w B av xs) : Txt w av xs := by
  rcases h with ⟨rfl, rfl⟩ | ⟨g, off, cap, cur, rfl, hb, h1, h2, h3, hh, h4⟩
  · exact .inl ⟨rfl, none, 0, rfl⟩
  · refine .inr ⟨g, off, cap, rfl, h1, (Array.getElem?_eq_some_iff.1 hh).1, fun j x hj => ?_⟩
    rw [cell_of_row _ _ _ _ _ _ hh]; exact h4 j x hj
theorem RowAt.shape {w : World} {B : Nat} {av : Value} {xs : List ByteArray} (h : RowAt w B av xs) : ∃ a n c, av = .slice a n c := by
  rcases h with ⟨rfl, _⟩ | ⟨g, off, cap, cur, rfl, _⟩
  · exact ⟨_, _, _, rfl⟩
  · exact ⟨_, _, _, rfl⟩
theorem RowAt.len {w : World} {B : Nat} {av : Value} {xs : List ByteArray} (h : RowAt w B av xs) : ∃ a n c, av = .slice a n c ∧ n = xs.length := by
  rcases h with ⟨rfl, rfl⟩ | ⟨g, off, cap, cur, rfl, _⟩
  · exact ⟨_, _, _, rfl, rfl⟩
  · exact ⟨_, _, _, rfl, rfl⟩
theorem Txt.stay {w w' : World} {av : Value} {xs : List ByteArray} (h : Txt w av xs) (hb : Below w.heap.size w w') : Txt w' av xs := by
  rcases h with h | ⟨b, off, cap, rfl, h1, h2, h3⟩
  · exact .inl h
  · refine .inr ⟨b, off, cap, rfl, h1, Nat.lt_of_lt_of_le h2 hb.size, fun j x hj => ?_⟩
    rw [World.cell?_of_block (hb.block b h2)]; exact h3 j x hj
theorem clone_any {w : World} {av : Value} {xs : List ByteArray} (h : Txt w av xs) (hl : xs.length ≤ 1000000) :
    Calls Tryz.prog 37 #[av] w fun e w' => ∃ a n c, e = .returned (.slice a n c) ∧ RowAt w' w.heap.size (.slice a n c) xs ∧ Below w.heap.size w w' := by
  rcases h with ⟨rfl, a, cap, rfl⟩ | ⟨b, off, cap, rfl, h1, h2, h3⟩
  · cases a with
    | none =>
      refine (Tryz.slices_Clone_string_nil 0 cap w).mono ?_
      rintro e w' ⟨rfl, rfl⟩
      exact ⟨_, _, _, rfl, .inl ⟨rfl, rfl⟩, Below.refl _ _⟩
    | some a =>
      refine (Tryz.slices_Clone_string_zero a cap w).mono ?_
      rintro e w' ⟨v', rfl, hr, _, hb⟩
      obtain ⟨a, n, c, rfl⟩ := (RowAt.ofOwn (xs := []) hr).shape
      exact ⟨_, _, _, rfl, RowAt.ofOwn (xs := []) hr, hb⟩
  · refine (Tryz.slices_Clone_string b off xs.length cap xs w (Nat.le_refl _) (by omega) (fun j hj => ?_)).mono ?_
    · rw [h3 j xs[j] (List.getElem?_eq_getElem hj), List.getD_eq_getElem?_getD, List.getElem?_eq_getElem hj]; rfl
    · rintro e w' ⟨v', rfl, hr, _, hb⟩
      rw [List.take_length] at hr
      obtain ⟨a, n, c, rfl⟩ := (RowAt.ofOwn hr).shape
      exact ⟨_, _, _, rfl, RowAt.ofOwn hr, hb⟩

set_option maxHeartbeats 1000000 in
theorem setArgs_any (s : St) (B q : Nat) (xs : List ByteArray) (w : World) (mv av lv : Value) (hsc : Sc w B q s mv av) (hB : B ≤ w.heap.size) (hx : Txt w lv xs) (hl : xs.length ≤ 1000000) :
    Calls Tryz.prog 21 #[.pointer (some ⟨q, 0, none⟩), lv] w fun e w' => e = .returned (.tuple #[]) ∧
      ∃ av', Sc w' B q { s with args := xs } mv av' ∧ Kp w w' q mv av ∧ ∀ j, av'.ownBlock = some j → w.heap.size ≤ j := by
  have hcl := clone_any hx hl
  have hc := hsc.cells
  have H := Lib.hid hsc
  have hlt := hsc.lt
  clear hsc
  go_enter Tryz.func21, Tryz.ntmps21
  go_wp2_with (go_at_call 37; refine hcl.mono ?_; rintro e w1 ⟨a1, n1, c1, rfl, hr, hb⟩; have f1 : w1.frozen? ⟨q, 1, none⟩ = false := frozen_of_row _ _ _ _ _ ((hb.block q hlt).trans hc); have d1 : w1.cell? ⟨q, 1, none⟩ = some av := cell_of_row _ _ _ _ _ _ ((hb.block q hlt).trans hc))
  go_end0
  have hrow := heap_setCell_same w1 q 1 _ _ (.slice a1 n1 c1) ((hb.block q hlt).trans hc)
  have hj : ∀ j, j < w.heap.size → j ≠ q → (w1.setCell ⟨q, 1, none⟩ (.slice a1 n1 c1)).heap[j]? = w.heap[j]? := fun j hj hq => (heap_setCell_other _ _ _ _ hq).trans (hb.block j hj)
  refine ⟨rfl, .slice a1 n1 c1, ⟨hrow, H.out.base, ?_, ?_⟩, ⟨hb.os, hb.tape, hb.output, by simpa using hb.size, fun k hk hq _ _ => hj k hk hq⟩, fun j e => (hr.own j e).1⟩
  · exact H.out.vars.stay fun j e => hj j (H.out.vars.own j e).2 (fun e2 => H.out.vars.neScope hc (by rw [e, e2]))
  · have hr2 := hr.stay (w' := w1.setCell ⟨q, 1, none⟩ (.slice a1 n1 c1)) fun j e => heap_setCell_other _ _ _ _ (by have := (hr.own j e).1; show j ≠ q; omega)
    rcases hr2 with k | ⟨g, off, cap, cur, h1, h2, h3⟩
    · exact .inl k
    · exact .inr ⟨g, off, cap, cur, h1, Nat.le_trans hB h2, h3⟩
set_option maxHeartbeats 1000000 in
theorem setStatus_any (s : St) (B q : Nat) (n : Int) (w : World) (mv av : Value) (hsc : Sc w B q s mv av) :
    Calls Tryz.prog 25 #[.pointer (some ⟨q, 0, none⟩), .int .i64 n] w fun e w' => e = .returned (.tuple #[]) ∧ Sc w' B q { s with st := n } mv av ∧ Kp w w' q mv av := by
  have hc := hsc.cells
  have c2 : w.cell? ⟨q, 2, none⟩ = some (.int .i64 s.st) := cell_of_row _ _ _ _ _ _ hc
  have f2 : w.frozen? ⟨q, 2, none⟩ = false := frozen_of_row _ _ _ _ _ hc
  have H := Lib.hid hsc
  clear hsc
  go_enter Tryz.func25, Tryz.ntmps25
  go_wp2_with fail
  go_end0
  have hrow := heap_setCell_same w q 2 _ _ (.int .i64 n) hc
  have hj : ∀ j, j ≠ q → (w.setCell ⟨q, 2, none⟩ (.int .i64 n)).heap[j]? = w.heap[j]? := fun j hq => heap_setCell_other _ _ _ _ hq
  refine ⟨rfl, ⟨hrow, H.out.base, ?_, ?_⟩, Kp.set _ _ _ _ _ _⟩
  · exact H.out.vars.stay fun j e => hj j (fun e2 => H.out.vars.neScope hc (by rw [e, e2]))
  · exact H.out.args.stay fun j e => hj j (fun e2 => H.out.args.neScope hc (by rw [e, e2]))
set_option maxHeartbeats 1000000 in
theorem setLast_any (s : St) (B q : Nat) (n : Int) (w : World) (mv av : Value) (hsc : Sc w B q s mv av) :
    Calls Tryz.prog 26 #[.pointer (some ⟨q, 0, none⟩), .int .i64 n] w fun e w' => e = .returned (.tuple #[]) ∧ Sc w' B q { s with la := n } mv av ∧ Kp w w' q mv av := by
  have hc := hsc.cells
  have c2 : w.cell? ⟨q, 3, none⟩ = some (.int .i64 s.la) := cell_of_row _ _ _ _ _ _ hc
  have f2 : w.frozen? ⟨q, 3, none⟩ = false := frozen_of_row _ _ _ _ _ hc
  have H := Lib.hid hsc
  clear hsc
  go_enter Tryz.func26, Tryz.ntmps26
  go_wp2_with fail
  go_end0
  have hrow := heap_setCell_same w q 3 _ _ (.int .i64 n) hc
  have hj : ∀ j, j ≠ q → (w.setCell ⟨q, 3, none⟩ (.int .i64 n)).heap[j]? = w.heap[j]? := fun j hq => heap_setCell_other _ _ _ _ hq
  refine ⟨rfl, ⟨hrow, H.out.base, ?_, ?_⟩, Kp.set _ _ _ _ _ _⟩
  · exact H.out.vars.stay fun j e => hj j (fun e2 => H.out.vars.neScope hc (by rw [e, e2]))
  · exact H.out.args.stay fun j e => hj j (fun e2 => H.out.args.neScope hc (by rw [e, e2]))
end Vr
end Go.Proofs.YtoneabcbeikkhaaGreatDoor
