/- A stack and a row of the reference's, both on their way; frameAlive. -/
import Derived.Test.YtbcldfaphnnmlaaFrS
namespace Go.Proofs.Ytbcldfaphnnmlaa
open Go.RowKit Go.Sort
namespace Fra
open Cls Pt Tr
/-- The stack lies at b, the other row is u; both are the call's own. -/
structure Two (W0 w : World) (b : Nat) (l : List IV) (u : Value) (m : List IV) : Prop where
  lo : W0.heap.size ≤ b
  stk : ∃ v, Stk w W0.heap.size b v l
  row : w.ownsRow W0.heap.size 41 14 u m.length (lcells m)
  on : Below W0.heap.size W0 w
theorem Two.stay {W0 w w' : World} {b : Nat} {l m : List IV} {u : Value} (h : Two W0 w b l u m) (hb : Below w.heap.size w w') : Two W0 w' b l u m :=
  ⟨h.lo, h.stk.elim fun v hv => ⟨v, hv.stay hb⟩, own_on h.row hb, h.on.trans (hb.mono h.on.size)⟩
theorem Two.chg {W0 w w' : World} {b : Nat} {l l' m : List IV} {u v v' : Value} (h : Two W0 w b l u m) (hs : Stk w W0.heap.size b v l) (hs' : Stk w' W0.heap.size b v' l') (hc : Chg w w' b v v') : Two W0 w' b l' u m :=
  ⟨h.lo, ⟨v', hs'⟩, hc.rowStays hs h.row (by decide) (by decide), h.on.trans (hc.below h.on.size h.lo fun g e => (hs.own.lt g e).1)⟩
/-- The other row is one that a call has made. -/
theorem Two.other {W0 w w' : World} {b : Nat} {l m m' : List IV} {u u' : Value} (h : Two W0 w b l u m) (hb : Below w.heap.size w w') (ho : w'.ownsRow w.heap.size 41 14 u' m'.length (lcells m')) : Two W0 w' b l u' m' :=
  ⟨h.lo, h.stk.elim fun v hv => ⟨v, hv.stay hb⟩, ⟨ho.1, ho.2.imp id fun ⟨g, cap, cur, hv, hg, r⟩ => ⟨g, cap, cur, hv, Nat.le_trans h.on.size hg, r⟩⟩, h.on.trans (hb.mono h.on.size)⟩
section
variable {W0 w : World} {b : Nat} {l m : List IV} {u : Value}
theorem Two.push {sv : Value} {k : List IV} (h : Two W0 w b l u m) (hk : LAt w sv k) (hl : l.length + k.length ≤ 100000) :
    Calls Try.prog 7 #[.pointer (some ⟨b, 0, none⟩), sv] w fun e w' => e = .returned (.tuple #[]) ∧ Two W0 w' b (l ++ k) u m := by
  obtain ⟨v, hv⟩ := h.stk
  exact (push_any hv h.on.size hk hl).mono fun e w' ⟨he, v', hs, hc⟩ => ⟨he, h.chg hv hs hc⟩
theorem Two.pop (h : Two W0 w b l u m) (hl : l.length ≤ 100000) :
    Calls Try.prog 8 #[.pointer (some ⟨b, 0, none⟩)] w fun e w' => e = .returned (topV l) ∧ Two W0 w' b (l.take (l.length - 1)) u m := by
  obtain ⟨v, hv⟩ := h.stk
  exact (pop_any hl hv).mono fun e w' ⟨he, v', hs, hc⟩ => ⟨he, h.chg hv hs hc⟩
theorem Two.brk (h : Two W0 w b l u m) (hl : l.length ≤ 100000) (n : Int) (h0 : -9223372036854775808 ≤ n) :
    Calls Try.prog 10 #[.pointer (some ⟨b, 0, none⟩), .int .i64 n] w fun e w' => e = .returned (.bool (outB (brk l n))) ∧ Two W0 w' b (brkL l n) u m := by
  obtain ⟨v, hv⟩ := h.stk
  exact (break_any hl hv n h0).mono fun e w' ⟨he, v', hs, hc⟩ => ⟨he, h.chg hv hs hc⟩
theorem Two.go (h : Two W0 w b l u m) (hl : l.length ≤ 100000) (n : Int) (h0 : -9223372036854775808 ≤ n) :
    Calls Try.prog 12 #[.pointer (some ⟨b, 0, none⟩), .int .i64 n] w fun e w' => e = .returned (.bool (outB (Fra.brk l n))) ∧ Two W0 w' b (goL l n) u m := by
  obtain ⟨v, hv⟩ := h.stk
  exact (continue_any hl hv n h0).mono fun e w' ⟨he, v', hs, hc⟩ => ⟨he, h.chg hv hs hc⟩
theorem Two.ret (h : Two W0 w b l u m) (hl : l.length ≤ 100000) :
    Calls Try.prog 14 #[.pointer (some ⟨b, 0, none⟩)] w fun e w' => e = .returned (retV l) ∧ Two W0 w' b (retL l) u m := by
  obtain ⟨v, hv⟩ := h.stk
  exact (return_any hl hv).mono fun e w' ⟨he, v', hs, hc⟩ => ⟨he, h.chg hv hs hc⟩
theorem Two.clear (h : Two W0 w b l u m) :
    Calls Try.prog 16 #[.pointer (some ⟨b, 0, none⟩)] w fun e w' => e = .returned (.tuple #[]) ∧ Two W0 w' b [] u m := by
  obtain ⟨v, hv⟩ := h.stk
  exact (clear_any hv).mono fun e w' ⟨he, v', hs, hc⟩ => ⟨he, h.chg hv hs hc⟩
theorem Two.len (h : Two W0 w b l u m) :
    Calls Try.prog 18 #[.pointer (some ⟨b, 0, none⟩)] w fun e w' => e = .returned (.int .i64 l.length) ∧ Two W0 w' b l u m := by
  obtain ⟨v, hv⟩ := h.stk
  exact (len_any hv).mono fun e w' ⟨he, hb⟩ => ⟨he, h.stay hb⟩
theorem Two.loops (h : Two W0 w b l u m) (hl : l.length ≤ 100000) :
    Calls Try.prog 20 #[.pointer (some ⟨b, 0, none⟩)] w fun e w' => e = .returned (.int .i64 (lps l l.length).length) ∧ Two W0 w' b l u m := by
  obtain ⟨v, hv⟩ := h.stk
  exact (loops_any hl hv).mono fun e w' ⟨he, hb⟩ => ⟨he, h.stay hb⟩
theorem Two.saved (h : Two W0 w b l u m) (hl : l.length ≤ 100000) :
    Calls Try.prog 21 #[.pointer (some ⟨b, 0, none⟩)] w fun e w' => e = .returned (outS (svd l l.length)) ∧ Two W0 w' b l u m := by
  obtain ⟨v, hv⟩ := h.stk
  exact (saved_any hl hv).mono fun e w' ⟨he, hb⟩ => ⟨he, h.stay hb⟩
end
/-- A new stack. -/
theorem Two.new {W0 w : World} (hb : Below W0.heap.size W0 w) : Two W0 (w.alloc (.cells #[.slice none 0 0] 26)) w.heap.size [] (.slice none 0 0) [] :=
  ⟨hb.size, ⟨_, heap_alloc_new _ _, World.ownsRow_nil _ _ _ _⟩, World.ownsRow_nil _ _ _ _, hb.trans ((bel1 _ _).mono hb.size)⟩
/-- Items in a block of their own. -/
theorem lit_items {W : World} {j : Nat} {T : TypeId} {f : Nat × Nat} {l : List IV} {n : Nat} (h : W.heap[j]? = some (.cells (lcells l).toArray T f)) (hn : n = l.length) : LAt W (.slice (some ⟨j, 0, none⟩) n n) l := by
  subst hn
  refine ⟨_, l.length, rfl, Nat.le_refl _, fun k p hk => ⟨j, 0, rfl, (Array.getElem?_eq_some_iff.1 h).1, fun i u hu => ?_⟩⟩
  have hi := (List.getElem?_eq_some_iff.1 hu).1
  rw [icells_len] at hi
  rw [show 0 + k * 14 + i = k * 14 + i by omega, Lib.cell_of_heap h, ← Array.getElem?_toList, List.toList_toArray, lcells_at hk i hi]
  exact hu
/-- An item of a kind alone. -/
def ofK (k : Int) : IV := { zero with k := k }
def al3 : List IV := [ofK 8, ofK 9, ofK 6]
theorem al_loops : (lps al3 al3.length).length = 1 := by decide
theorem al_two : brk al3 2 = none := by decide
theorem al_one : brk al3 1 = some 2 := by decide
set_option maxHeartbeats 800000 in
theorem frameAlive_any (w : World) : Calls Try.prog 5 #[] w fun e w' => e = .returned (.bool true) ∧ Below w.heap.size w w' := by
  have h0 := Two.new (Below.refl w.heap.size w)
  generalize hW : w.alloc (.cells #[.slice none 0 0] 26) = W1 at h0
  have hs1 : W1.heap.size = w.heap.size + 1 := by rw [← hW]; exact World.size_alloc _ _
  have hit : LAt (W1.alloc (.cells (lcells al3).toArray 43)) (.slice (some ⟨W1.heap.size, 0, none⟩) 3 3) al3 := lit_items (heap_alloc_new _ _) rfl
  have hp := (h0.stay (bel1 W1 (.cells (lcells al3).toArray 43))).push hit (by decide)
  rw [List.nil_append] at hp
  have hc : (lcells al3).toArray = #[.int .i64 8, .int .i64 0, .string ⟨#[]⟩, .bool false, .slice none 0 0, .slice none 0 0, .slice none 0 0, .slice none 0 0, .slice none 0 0, .int .i64 0, .int .i64 0, .bool false, .slice none 0 0, .slice none 0 0, .int .i64 9, .int .i64 0, .string ⟨#[]⟩, .bool false, .slice none 0 0, .slice none 0 0, .slice none 0 0, .slice none 0 0, .slice none 0 0, .int .i64 0, .int .i64 0, .bool false, .slice none 0 0, .slice none 0 0, .int .i64 6, .int .i64 0, .string ⟨#[]⟩, .bool false, .slice none 0 0, .slice none 0 0, .slice none 0 0, .slice none 0 0, .slice none 0 0, .int .i64 0, .int .i64 0, .bool false, .slice none 0 0, .slice none 0 0] := rfl
  rw [hc, hs1] at hp
  have HP := Lib.hid hp
  clear hp hit h0 hc
  go_enter Try.func5, Try.ntmps5
  go_wp2_with fail
  refine HP.out.mono ?_
  rintro e w2 ⟨rfl, h2⟩
  have H2 := Lib.hid h2
  clear h2
  go_wp2_with fail
  refine H2.out.len.mono ?_
  rintro e w3 ⟨rfl, h3⟩
  have H3 := Lib.hid h3
  clear h3
  go_wp2_with fail
  refine (H3.out.loops (by decide)).mono ?_
  rintro e w4 ⟨rfl, h4⟩
  have H4 := Lib.hid h4
  clear h4
  rw [al_loops]
  go_wp2_with fail
  refine (H4.out.brk (by decide) 2 (by decide)).mono ?_
  rintro e w5 ⟨rfl, h5⟩
  rw [show brkL al3 2 = al3 by unfold brkL; rw [al_two]] at h5
  have H5 := Lib.hid h5
  clear h5
  rw [al_two]
  go_wp2_with fail
  refine (H5.out.brk (by decide) 1 (by decide)).mono ?_
  rintro e w6 ⟨rfl, h6⟩
  rw [show brkL al3 1 = al3.take 2 by unfold brkL; rw [al_one]] at h6
  have H6 := Lib.hid h6
  clear h6
  rw [al_one]
  go_wp2_with fail
  refine H6.out.len.mono ?_
  rintro e w7 ⟨rfl, h7⟩
  have H7 := Lib.hid h7
  clear h7
  go_wp2_with fail
  go_ret
  exact ⟨rfl, H7.out.on⟩
end Fra
end Go.Proofs.Ytbcldfaphnnmlaa
