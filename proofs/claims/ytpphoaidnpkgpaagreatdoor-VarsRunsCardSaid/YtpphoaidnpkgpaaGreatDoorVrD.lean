/- Set: a variable's value. -/
import Derived.Test.YtpphoaidnpkgpaaGreatDoorVrC
import Derived.Test.YtpphoaidnpkgpaaGreatDoorClsC
import Derived.Maps.OwnSet
namespace Go.Proofs.YtpphoaidnpkgpaaGreatDoor
open Go.RowKit Go.Maps Cls
namespace Vr

theorem tight {w : World} {b n : Nat} {D0 : DataW Nat} (h : w.ownsMap Tryz.prog 9 (plainElem Tryz.prog 9) b n D0) : w.ownsMap Tryz.prog 9 (plainElem Tryz.prog 9) b (Maps.size D0) D0 := by
  obtain ⟨es, clock, hb, F, _, rfl⟩ := h
  exact ⟨es, clock, hb, F, by simp [Maps.size, length_sorted], rfl⟩
/-- A scope, with a variable set. -/
def setS (s : St) (n v : ByteArray) : St := if nameL (bs n) then { s with vs := setV s.vs n v } else s
theorem zeroS (w : World) : (zeroValue 9).run Tryz.prog w = .ok (.string (tx [])) w := by kernel_rfl

set_option maxHeartbeats 1000000 in
theorem set_any (s : St) (B q : Nat) (n v : ByteArray) (w : World) (mv av : Value) (hsc : Sc w B q s mv av) (hB : B ≤ w.heap.size) (hn : n.size ≤ maxLen) (hv : v.size ≤ maxLen) (hr : Srt s.vs) (hl : s.vs.length < 1000000) :
    Calls Tryz.prog 6 #[.pointer (some ⟨q, 0, none⟩), .string n, .string v] w fun e w' => e = .returned (.bool (nameL (bs n))) ∧
      ∃ mv', Sc w' B q (setS s n v) mv' av ∧ Kp w w' q mv av ∧ (mv' = mv ∨ ∀ j, mv' = .map (some j) → w.heap.size ≤ j) := by
  have hmm := @run_makeMap Tryz.prog
  have qT : ∀ (w : World) (r : Option Nat), (binOp .eql 26 (.map r) (.map none)).run Tryz.prog w = .ok (.bool r.isNone) w := fun w r => run_eql_map_nil w _ _ _ r Tryz.underlying26
  have hc := hsc.cells
  have c0 : w.cell? ⟨q, 0, none⟩ = some mv := cell_of_row _ _ _ _ _ _ hc
  have f0 : w.frozen? ⟨q, 0, none⟩ = false := frozen_of_row _ _ _ _ _ hc
  have H := Lib.hid hsc
  have hvars := hsc.vars
  have hlt := hsc.lt
  clear hsc
  have hNS : n.size ≤ 9223372036854775807 := by unfold maxLen at hn; omega
  cases hname : nameL (bs n)
  · go_enter Tryz.func6, Tryz.ntmps6
    clear c0 f0
    go_wp2_with (go_at_call 17; refine (name_any n _ hNS).mono ?_; rintro e w' ⟨rfl, rfl⟩; rw [show nameL n.data.toList = false from hname])
    go_ret
    refine ⟨rfl, mv, ?_, Kp.refl _ _ _ _, .inl rfl⟩
    rw [setS, hname]; exact H.out
  · have hset : setS s n v = { s with vs := setV s.vs n v } := by rw [setS, hname]; rfl
    have hput := put_D (H := Nat) s.vs hr n v
    have hsz := size_D (H := Nat) (setV s.vs n v)
    have hkey : keyOf Tryz.prog 9 (.string n) = some (.string (bs n)) := WideMaps.keyOf_string_mk Tryz.underlying9 hn
    have hval := plainElem_string (H := Nat) Tryz.underlying9 hv
    rcases hvars with ⟨rfl, hnil⟩ | ⟨b, rfl, hb, hown⟩
    · have hput := put_D (H := Nat) [] Srt.nil n v
      rw [hnil] at hset hsz
      have hmade : ((w.setCell ⟨q, 0, none⟩ (.map (some w.heap.size))).alloc (.map #[] 0)).ownsMap (H := Nat) Tryz.prog 9 (plainElem Tryz.prog 9) w.heap.size 0 (D []) := by
        have := World.ownsMap_made (w.setCell ⟨q, 0, none⟩ (.map (some w.heap.size))) Tryz.prog 9 (plainElem (H := Nat) Tryz.prog 9)
        rw [World.size_setCell] at this; exact this
      go_enter Tryz.func6, Tryz.ntmps6
      go_wp2_with (first
        | (go_at_call 17; refine (name_any n _ hNS).mono ?_; rintro e w' ⟨rfl, rfl⟩; rw [show nameL n.data.toList = true from hname])
        | (at_mapUpdate; refine wpList_mapUpdate_in _ rfl _ _ _ 26 rfl 9 9 keyed Tryz.underlying26 _ w.heap.size 0 (D []) rfl hmade (by unfold maxLen; omega) _ _ _ rfl rfl hkey _ [] hval ?_; intro w1 hown1 hturn1))
      go_ret
      have hg := hturn1.grown
      have hlt2 : q < ((w.setCell ⟨q, 0, none⟩ (.map (some w.heap.size))).alloc (.map #[] 0)).heap.size := by simp [World.size_alloc]; omega
      have hrow : w1.heap[q]? = some (.cells #[.map (some w.heap.size), av, .int .i64 s.st, .int .i64 s.la] 28 (0, 0)) := by
        rw [hg.block q hlt2 (by intro e; cases e; omega), Below.heap_alloc _ _ _ (by simpa using hlt)]
        exact heap_setCell_same _ _ 0 _ _ _ hc
      have hkp : Kp w w1 q (.map none) av := by
        have h1 := (Kp.set w q 0 (.map (some w.heap.size)) (.map none) av).then (Kp.alloc _ (.map #[] 0) q (.map none) av) (.inl rfl) (.inl rfl)
        exact h1.then (Kp.grown hg q av) (.inr fun j e => by cases e; omega) (.inl rfl)
      refine ⟨rfl, .map (some w.heap.size), ⟨?_, H.out.base, ?_, ?_⟩, hkp, .inr fun j e => by cases e; omega⟩
      · rw [hset]; exact hrow
      · rw [hset]
        refine .inr ⟨_, rfl, hB, ?_⟩
        rw [hput] at hown1
        have := tight hown1
        rwa [hsz] at this
      · rw [hset]
        exact H.out.args.stay fun j e => by
          have hj := (H.out.args.own j e).2
          rw [hg.block j (by simp [World.size_alloc]; omega) (by intro e2; cases e2; omega), Below.heap_alloc _ _ _ (by simpa using hj)]
          exact heap_setCell_other _ _ _ _ (fun e2 => H.out.args.neScope hc (by rw [e, show j = q from e2]))
    · go_enter Tryz.func6, Tryz.ntmps6
      have hm0 : MapAt w B (.map (some b)) s.vs := .inr ⟨b, rfl, hb, hown⟩
      go_wp2_with (first
        | (go_at_call 17; refine (name_any n _ hNS).mono ?_; rintro e w' ⟨rfl, rfl⟩; rw [show nameL n.data.toList = true from hname])
        | (at_mapUpdate; refine wpList_mapUpdate_in _ rfl _ _ _ 26 rfl 9 9 keyed Tryz.underlying26 _ b s.vs.length (D s.vs) rfl hown (by unfold maxLen; omega) _ _ _ rfl rfl hkey _ [] hval ?_; intro w1 hown1 hturn1))
      go_ret
      have hg := hturn1.grown
      have hkp := Kp.grown hg q av
      refine ⟨rfl, .map (some b), ⟨?_, H.out.base, ?_, ?_⟩, hkp, .inl rfl⟩
      · rw [hset, hg.block q hlt (fun e => hm0.neScope hc (by cases e; rfl))]; exact hc
      · rw [hset]
        refine .inr ⟨_, rfl, hb, ?_⟩
        rw [hput] at hown1
        have := tight hown1
        rwa [hsz] at this
      · rw [hset]
        exact H.out.args.stay fun j e => hg.block j (H.out.args.own j e).2 (fun e2 => by cases e2; exact H.out.args.neMap hm0 e)
end Vr
end Go.Proofs.YtpphoaidnpkgpaaGreatDoor
