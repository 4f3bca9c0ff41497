/- cut, nth, Push, Clear. -/
import Derived.Test.YtbcldfaphnnmlaaFrN
namespace Go.Proofs.Ytbcldfaphnnmlaa
open Go.RowKit Go.Sort
namespace Fra
open Cls Pt Tr
theorem own_ne {w : World} {B b k n : Nat} {v : Value} {xs : List Value} {cs : Array Value} {T S : TypeId} {f : Nat × Nat} (ho : w.ownsRow B T k v n xs) (hb : w.heap[b]? = some (.cells cs S f)) (hne : T ≠ S) : v.ownBlock ≠ some b := by
  rcases ho.2 with ⟨rfl, _⟩ | ⟨g', cap, cur, rfl, _, hh, _⟩
  · intro e; cases e
  · intro e
    injection e with e
    subst e
    have := hh.symm.trans hb
    injection this with this
    injection this with _ e2
    exact hne e2
/-- Behind a store of the stack's row. -/
theorem Stk.put {w : World} {B b : Nat} {v v' : Value} {l : List IV} (hb : w.heap[b]? = some (.cells #[v] 26 (0, 0))) (ho : w.ownsRow B 43 14 v' l.length (lcells l)) : Stk (w.setCell ⟨b, 0, none⟩ v') B b v' l :=
  ⟨Lib.heap_setCell_same hb v', ownsRow_setCell_other ho (own_ne ho hb (by decide)) _⟩
theorem Chg.put {w w1 : World} {b : Nat} {v v' : Value} (h : Chg w w1 b v v') (u : Value) : Chg w (w1.setCell ⟨b, 0, none⟩ u) b v v' :=
  ⟨h.os, h.tape, h.output, by simpa [World.setCell] using h.size, fun g hg hb hv => (Below.heap_setCell w1 ⟨b, 0, none⟩ u g hb).trans (h.block g hg hb hv), h.row⟩
theorem Chg.of_grown {w w' : World} {b : Nat} {v v' : Value} (h : w.grownBy w' v.ownBlock) (hr : v'.ownBlock = v.ownBlock ∨ v'.ownBlock = some w.heap.size) : Chg w w' b v v' :=
  ⟨h.os, h.tape, h.output, h.size, fun g hg _ hv => h.block g hg (fun e => hv e.symm), hr.imp id fun e g e2 => by
    have := e.symm.trans e2
    injection this with this
    omega⟩
theorem run_clear_none (w : World) (ty : TypeId) (A : Option Addr) (c : Nat) : (Builtin.clear_ #[24] ty #[.slice A 0 c]).run Try.prog w = .ok (.tuple #[]) w := by
  cases A <;> simp [Builtin.clear_, run_underlying Try.underlying24]
set_option maxHeartbeats 1600000 in
theorem cut_any {w : World} {B b : Nat} {v : Value} {l : List IV} (hl : l.length ≤ 100000) (h : Stk w B b v l) (n : Nat) (hn : n ≤ l.length) :
    Calls Try.prog 23 #[.pointer (some ⟨b, 0, none⟩), .int .i64 (n : Int)] w fun e w' => e = .returned (.tuple #[]) ∧ ∃ v', Stk w' B b v' (l.take n) ∧ Chg w w' b v v' := by
  have hc := h.cell
  by_cases heq : n = l.length
  · subst heq
    rw [List.take_length]
    have HS := Lib.hid h
    obtain ⟨a, cap, rfl, hle, hcell⟩ := LAt.own h.own
    have hf : w.frozen? ⟨b, 0, none⟩ = false := Lib.frozen_of_heap h.blk 0
    clear h hcell
    by_cases hck : cap = l.length
    · subst hck
      have hr := run_clear_none w 0 a 0
      go_enter Try.func23, Try.ntmps23
      go_wp2_with fail
      go_end0
      exact ⟨rfl, _, Stk.put HS.out.blk HS.out.own, (Chg.of_below (Below.refl _ _)).put _⟩
    · have hr := run_clear_none w 0 (Option.map (fun x => x.add (l.length * 14)) a) (cap - l.length)
      go_enter Try.func23, Try.ntmps23
      go_wp2_with fail
      go_end0
      exact ⟨rfl, _, Stk.put HS.out.blk HS.out.own, (Chg.of_below (Below.refl _ _)).put _⟩
  · have hlt : n < l.length := by omega
    have HS := Lib.hid h
    have hown := h.own
    rcases h.own.2 with ⟨rfl, h0⟩ | ⟨g, cap, cur, rfl, hg, hb, h1, h2, h3, h4⟩
    · omega
    have hck : ¬ cap = n := by omega
    clear hb h2 h3 h4
    obtain ⟨w1, hr, ho1, hgr, hsz⟩ := run_clear_items (c := cap - n) (ty := 0) hown hlt
    have hb1 := (hgr.block b h.lt (fun e => h.ne e.symm)).trans h.blk
    have hc1 : w1.cell? ⟨b, 0, none⟩ = _ := Lib.cell_of_heap hb1 0
    have hf1 : w1.frozen? ⟨b, 0, none⟩ = false := Lib.frozen_of_heap hb1 0
    have hg1 : Chg w w1 b (.slice (some ⟨g, 0, none⟩) l.length cap) (.slice (some ⟨g, 0, none⟩) (l.take n).length cap) := Chg.of_grown hgr (.inl rfl)
    have hnl : (l.take n).length = n := by rw [List.length_take]; omega
    rw [hnl] at ho1 hg1
    clear h
    have HO := Lib.hid ho1; have HB := Lib.hid hb1; have HG := Lib.hid hg1; have HNL := Lib.hid hnl
    clear ho1 hb1 hg1 hnl hgr hsz hown
    go_enter Try.func23, Try.ntmps23
    go_wp2_with fail
    go_end0
    exact ⟨rfl, _, Stk.put HB.out (by rw [HNL.out]; exact HO.out), HG.out.put _⟩
set_option maxHeartbeats 1600000 in
theorem push_any {w : World} {B b : Nat} {v sv : Value} {l m : List IV} (h : Stk w B b v l) (hB : B ≤ w.heap.size) (hm : LAt w sv m) (hl : l.length + m.length ≤ 100000) :
    Calls Try.prog 7 #[.pointer (some ⟨b, 0, none⟩), sv] w fun e w' => e = .returned (.tuple #[]) ∧ ∃ v', Stk w' B b v' (l ++ m) ∧ Chg w w' b v v' := by
  obtain ⟨i0, hi, hz0, hz1, hz2⟩ := info_parts infoF
  have hc := h.cell
  have hf : w.frozen? ⟨b, 0, none⟩ = false := Lib.frozen_of_heap h.blk 0
  have HS := Lib.hid h; have HM := Lib.hid hm
  have hBw := h.lt
  obtain ⟨a, cap, rfl⟩ := own_slice h.own
  clear h hm
  go_enter Try.func7, Try.ntmps7
  go_wp2_with (
    at_builtin
    refine append_items rfl _ _ 24 rfl B 43 i0 _ Try.underlying24 hi hz0 hz1 hz2 rfl _ l rfl HS.out.own _ m rfl HM.out (by omega) hB ?_
    intro v' w5 hown5 hgrow5 hrow5
    obtain ⟨a5, c5, rfl⟩ := own_slice hown5
    have hb5 := (hgrow5.block b hBw (fun e => HS.out.ne e.symm)).trans HS.out.blk
    have hc5 : w5.cell? ⟨b, 0, none⟩ = _ := Lib.cell_of_heap hb5 0
    have hf5 : w5.frozen? ⟨b, 0, none⟩ = false := Lib.frozen_of_heap hb5 0
    have hg5 : Chg w w5 b (.slice a l.length cap) _ := Chg.of_grown hgrow5 hrow5
    have HO := Lib.hid hown5; have HB := Lib.hid hb5; have HG := Lib.hid hg5
    clear hown5 hgrow5 hrow5 hb5 hg5)
  go_end0
  have h1 := HO.out; have h2 := HG.out
  rw [List.length_append] at h1 h2
  exact ⟨rfl, _, Stk.put HB.out (by rw [List.length_append]; exact h1), h2.put _⟩
set_option maxHeartbeats 1600000 in
theorem clear_any {w : World} {B b : Nat} {v : Value} {l : List IV} (h : Stk w B b v l) :
    Calls Try.prog 16 #[.pointer (some ⟨b, 0, none⟩)] w fun e w' => e = .returned (.tuple #[]) ∧ ∃ v', Stk w' B b v' [] ∧ Chg w w' b v v' := by
  have hc := h.cell
  have hf : w.frozen? ⟨b, 0, none⟩ = false := Lib.frozen_of_heap h.blk 0
  have HS := Lib.hid h
  clear h
  go_enter Try.func16, Try.ntmps16
  go_wp2_with fail
  go_end0
  exact ⟨rfl, .slice none 0 0, Stk.put HS.out.blk (World.ownsRow_nil _ _ _ _), ⟨rfl, rfl, rfl, by simp [World.setCell], fun g hg hb hv => Below.heap_setCell _ _ _ _ hb, .inr fun g e => by cases e⟩⟩
end Fra
end Go.Proofs.Ytbcldfaphnnmlaa
