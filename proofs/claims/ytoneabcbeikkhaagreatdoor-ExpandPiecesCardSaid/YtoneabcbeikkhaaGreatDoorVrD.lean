/- A scope in memory: its map, its row of arguments; what a call leaves as it was. -/
/- Set: a variable's value. -/
import Derived.Test.YtoneabcbeikkhaaGreatDoorVrB
import Derived.Test.YtoneabcbeikkhaaGreatDoorLaw
import Derived.Maps.OwnOps
import Derived.Maps.OwnIn
import Derived.Lib.QuietBelow
import Derived.Test.YtoneabcbeikkhaaGreatDoorClsN
import Derived.Maps.OwnSet
namespace Go.Proofs.YtoneabcbeikkhaaGreatDoor
open Go.RowKit Go.Maps
namespace Vr

theorem keyed : Keyed Tryz.prog 9 := string_keyed Tryz.underlying9
/-- A map's value that holds these variables. -/
def MapAt (w : World) (B : Nat) (mv : Value) (vs : Vs) : Prop :=
  (mv = .map none ∧ vs = []) ∨ ∃ b, mv = .map (some b) ∧ B ≤ b ∧ w.ownsMap (H := Nat) Tryz.prog 9 (plainElem Tryz.prog 9) b vs.length (D vs)
/-- A slice's value that holds these texts. -/
def RowAt (w : World) (B : Nat) (av : Value) (xs : List ByteArray) : Prop :=
  (av = .slice none 0 0 ∧ xs = []) ∨ ∃ g off cap cur, av = .slice (some ⟨g, off, none⟩) xs.length cap ∧ B ≤ g ∧ xs.length ≤ cap ∧ cap ≤ maxLen ∧ off + cap ≤ cur.size ∧
    w.heap[g]? = some (.cells cur 9 (0, 0)) ∧ ∀ j x, xs[j]? = some x → cur[off + j]? = some (.string x)
/-- A scope at a block. -/
structure Sc (w : World) (B q : Nat) (s : St) (mv av : Value) : Prop where
  cells : w.heap[q]? = some (.cells #[mv, av, .int .i64 s.st, .int .i64 s.la] 58 (0, 0))
  base : B ≤ q
  vars : MapAt w B mv s.vs
  args : RowAt w B av s.args

/-- What a call that writes a scope leaves as it was. -/
structure Kp (w w' : World) (q : Nat) (mv av : Value) : Prop where
  os : w'.os = w.os
  tape : w'.tape = w.tape
  output : w'.output = w.output
  size : w.heap.size ≤ w'.heap.size
  block : ∀ k, k < w.heap.size → k ≠ q → mv ≠ .map (some k) → av.ownBlock ≠ some k → w'.heap[k]? = w.heap[k]?
theorem Kp.refl (w : World) (q : Nat) (mv av : Value) : Kp w w q mv av := ⟨rfl, rfl, rfl, Nat.le_refl _, fun _ _ _ _ _ => rfl⟩
theorem Kp.ofBelow {w w' : World} (h : Below w.heap.size w w') (q : Nat) (mv av : Value) : Kp w w' q mv av :=
  ⟨h.os, h.tape, h.output, h.size, fun k hk _ _ _ => h.block k hk⟩
theorem Kp.then {w w1 w2 : World} {q : Nat} {mv av mv1 av1 : Value} (h : Kp w w1 q mv av) (k : Kp w1 w2 q mv1 av1)
    (hm : mv1 = mv ∨ ∀ j, mv1 = .map (some j) → w.heap.size ≤ j) (ha : av1.ownBlock = av.ownBlock ∨ ∀ j, av1.ownBlock = some j → w.heap.size ≤ j) : Kp w w2 q mv av := by
  refine ⟨k.os.trans h.os, k.tape.trans h.tape, k.output.trans h.output, Nat.le_trans h.size k.size, fun j hj hq h1 h2 => ?_⟩
  rw [k.block j (Nat.lt_of_lt_of_le hj h.size) hq ?_ ?_, h.block j hj hq h1 h2]
  · intro e; rcases hm with hm | hm
    · rw [hm] at e; exact h1 e
    · have := hm j e; omega
  · intro e; rcases ha with ha | ha
    · rw [ha] at e; exact h2 e
    · have := ha j e; omega
/-- .. all that it writes lies above. -/
theorem Kp.below {w w' : World} {q : Nat} {mv av : Value} (h : Kp w w' q mv av) {B : Nat} (hB : B ≤ w.heap.size) (hq : B ≤ q) (hm : ∀ j, mv = .map (some j) → B ≤ j) (ha : ∀ j, av.ownBlock = some j → B ≤ j) : Below B w w' :=
  ⟨h.os, h.tape, h.output, h.size, fun k hk => h.block k (by omega) (by omega) (fun e => by have := hm k e; omega) (fun e => by have := ha k e; omega)⟩

theorem MapAt.own {w : World} {B : Nat} {mv : Value} {vs : Vs} (h : MapAt w B mv vs) : ∀ j, mv = .map (some j) → B ≤ j ∧ j < w.heap.size := by
  rintro j rfl
  rcases h with ⟨h, _⟩ | ⟨b, h, hb, ho⟩
  · cases h
  · cases h; exact ⟨hb, ho.lt⟩
theorem RowAt.own {w : World} {B : Nat} {av : Value} {xs : List ByteArray} (h : RowAt w B av xs) : ∀ j, av.ownBlock = some j → B ≤ j ∧ j < w.heap.size := by
  intro j hj
  rcases h with ⟨rfl, _⟩ | ⟨g, off, cap, cur, rfl, hb, _, _, _, hh, _⟩
  · cases hj
  · cases hj; exact ⟨hb, (Array.getElem?_eq_some_iff.1 hh).1⟩
theorem MapAt.stay {w w' : World} {B : Nat} {mv : Value} {vs : Vs} (h : MapAt w B mv vs) (hk : ∀ j, mv = .map (some j) → w'.heap[j]? = w.heap[j]?) : MapAt w' B mv vs := by
  rcases h with h | ⟨b, h, hb, es, clock, hh, F, hs, hD⟩
  · exact .inl h
  · exact .inr ⟨b, h, hb, es, clock, (hk b h).trans hh, F, hs, hD⟩
theorem RowAt.stay {w w' : World} {B : Nat} {av : Value} {xs : List ByteArray} (h : RowAt w B av xs) (hk : ∀ j, av.ownBlock = some j → w'.heap[j]? = w.heap[j]?) : RowAt w' B av xs := by
  rcases h with h | ⟨g, off, cap, cur, rfl, hb, h1, h2, h3, hh, h4⟩
  · exact .inl h
  · exact .inr ⟨g, off, cap, cur, rfl, hb, h1, h2, h3, (hk g rfl).trans hh, h4⟩
theorem Sc.lt {w : World} {B q : Nat} {s : St} {mv av : Value} (h : Sc w B q s mv av) : q < w.heap.size := (Array.getElem?_eq_some_iff.1 h.cells).1
theorem Sc.stay {w w' : World} {B q : Nat} {s : St} {mv av : Value} (h : Sc w B q s mv av) (hb : Below w.heap.size w w') : Sc w' B q s mv av :=
  ⟨(hb.block _ h.lt).trans h.cells, h.base, h.vars.stay fun j e => hb.block _ (h.vars.own j e).2, h.args.stay fun j e => hb.block _ (h.args.own j e).2⟩
theorem Sc.low {w : World} {B B' q : Nat} {s : St} {mv av : Value} (h : Sc w B q s mv av) (hB : B' ≤ B) : Sc w B' q s mv av := by
  refine ⟨h.cells, Nat.le_trans hB h.base, ?_, ?_⟩
  · rcases h.vars with k | ⟨b, h1, h2, h3⟩
    · exact .inl k
    · exact .inr ⟨b, h1, Nat.le_trans hB h2, h3⟩
  · rcases h.args with k | ⟨g, off, cap, cur, h1, h2, h3⟩
    · exact .inl k
    · exact .inr ⟨g, off, cap, cur, h1, Nat.le_trans hB h2, h3⟩
/-- A row of its own, as texts. -/
theorem RowAt.ofOwn {w : World} {B : Nat} {v : Value} {xs : List ByteArray} (h : w.ownsRow B 9 1 v xs.length (xs.map Value.string)) : RowAt w B v xs := by
  obtain ⟨_, ⟨rfl, h0⟩ | ⟨g, cap, cur, rfl, hg, hh, h1, h2, h3, h4⟩⟩ := h
  · exact .inl ⟨rfl, List.length_eq_zero_iff.1 h0⟩
  · refine .inr ⟨g, 0, cap, cur, rfl, hg, h1, h2, by omega, hh, fun j x hj => ?_⟩
    have : (cur.toList.take (xs.length * 1))[j]? = some (.string x) := by rw [h4, List.getElem?_map, hj]; rfl
    rw [List.getElem?_take] at this
    split at this
    · simpa using this
    · cases this
theorem RowAt.neScope {w : World} {B q : Nat} {av : Value} {xs : List ByteArray} {cs : Array Value} {fr : Nat × Nat} (h : RowAt w B av xs) (hq : w.heap[q]? = some (.cells cs 58 fr)) : av.ownBlock ≠ some q := by
  intro e
  rcases h with ⟨rfl, _⟩ | ⟨g, off, cap, cur, rfl, _, _, _, _, hh, _⟩
  · cases e
  · cases e; rw [hq] at hh; injection hh with hh; injection hh with _ h2; exact absurd h2 (by decide)
theorem MapAt.neScope {w : World} {B q : Nat} {mv : Value} {vs : Vs} {cs : Array Value} {T : TypeId} {fr : Nat × Nat} (h : MapAt w B mv vs) (hq : w.heap[q]? = some (.cells cs T fr)) : mv ≠ .map (some q) := by
  rintro rfl
  rcases h with ⟨h, _⟩ | ⟨b, h, _, es, clock, hh, _⟩
  · cases h
  · cases h; rw [hq] at hh; injection hh with hh; cases hh
theorem RowAt.neMap {w : World} {B B' b : Nat} {av : Value} {xs : List ByteArray} {vs : Vs} (h : RowAt w B av xs) (hm : MapAt w B' (.map (some b)) vs) : av.ownBlock ≠ some b := by
  intro e
  rcases h with ⟨rfl, _⟩ | ⟨g, off, cap, cur, rfl, _, _, _, _, hh, _⟩
  · cases e
  · cases e; exact hm.neScope hh rfl
theorem Kp.set (w : World) (q j : Nat) (u mv av : Value) : Kp w (w.setCell ⟨q, j, none⟩ u) q mv av :=
  ⟨rfl, rfl, rfl, by simp, fun k _ hq _ _ => heap_setCell_other _ _ _ _ hq⟩
theorem Kp.alloc (w : World) (o : Obj) (q : Nat) (mv av : Value) : Kp w (w.alloc o) q mv av :=
  ⟨rfl, rfl, rfl, by simp [World.size_alloc], fun k hk _ _ _ => Below.heap_alloc _ _ _ hk⟩
theorem Kp.grown {w w' : World} {b : Nat} (h : w.grownBy w' (some b)) (q : Nat) (av : Value) : Kp w w' q (.map (some b)) av :=
  ⟨h.os, h.tape, h.output, h.size, fun k hk _ h1 _ => h.block k hk fun e => by cases e; exact h1 rfl⟩
end Vr
end Go.Proofs.YtoneabcbeikkhaaGreatDoor

namespace Go.Proofs.YtoneabcbeikkhaaGreatDoor
open Go.RowKit Go.Maps Cls
namespace Vr

theorem tight {w : World} {b n : Nat} {D0 : DataW Nat} (h : w.ownsMap Tryz.prog 9 (plainElem Tryz.prog 9) b n D0) : w.ownsMap Tryz.prog 9 (plainElem Tryz.prog 9) b (Maps.size D0) D0 := by
  obtain ⟨es, clock, hb, F, _, rfl⟩ := h
  exact ⟨es, clock, hb, F, by simp [Maps.size, length_sorted], rfl⟩
/-- A scope, with a variable set. -/
def setS (s : St) (n v : ByteArray) : St := if nameL (bs n) then { s with vs := setV s.vs n v } else s
theorem zeroS (w : World) : (zeroValue 9).run Tryz.prog w = .ok (.string (tx [])) w := by kernel_rfl

set_option maxHeartbeats 1000000 in
theorem set_any (s : St) (B q : Nat) (n v : ByteArray) (w : World) (mv av : Value) (hsc : Sc w B q s mv av) (hB : B ≤ w.heap.size) (hn : n.size ≤ maxLen) (hv : v.size ≤ maxLen) (hr : Srt s.vs) (hl : s.vs.length < 1000000) :
    Calls Tryz.prog 24 #[.pointer (some ⟨q, 0, none⟩), .string n, .string v] w fun e w' => e = .returned (.bool (nameL (bs n))) ∧
      ∃ mv', Sc w' B q (setS s n v) mv' av ∧ Kp w w' q mv av ∧ (mv' = mv ∨ ∀ j, mv' = .map (some j) → w.heap.size ≤ j) := by
  have hmm := @run_makeMap Tryz.prog
  have qT : ∀ (w : World) (r : Option Nat), (binOp .eql 56 (.map r) (.map none)).run Tryz.prog w = .ok (.bool r.isNone) w := fun w r => run_eql_map_nil w _ _ _ r Tryz.underlying56
  have hc := hsc.cells
  have c0 : w.cell? ⟨q, 0, none⟩ = some mv := cell_of_row _ _ _ _ _ _ hc
  have f0 : w.frozen? ⟨q, 0, none⟩ = false := frozen_of_row _ _ _ _ _ hc
  have H := Lib.hid hsc
  have hvars := hsc.vars
  have hlt := hsc.lt
  clear hsc
  have hNS : n.size ≤ 9223372036854775807 := by unfold maxLen at hn; omega
  cases hname : nameL (bs n)
  · go_enter Tryz.func24, Tryz.ntmps24
    clear c0 f0
    go_wp2_with (go_at_call 43; refine (name_any n _ hNS).mono ?_; rintro e w' ⟨rfl, rfl⟩; rw [show nameL n.data.toList = false from hname])
    go_ret
    refine ⟨rfl, mv, ?_, Kp.refl _ _ _ _, .inl rfl⟩
    rw [setS, hname]; exact H.out
  · have hset : setS s n v = { s with vs := setV s.vs n v } := by rw [setS, hname]; rfl
    have hput := put_D (H := Nat) s.vs hr n v
    have hsz := size_D (H := Nat) (setV s.vs n v)
    have hkey : keyOf Tryz.prog 9 (.string n) = some (.string (bs n)) := WideMaps.keyOf_string_mk Tryz.underlying9 hn
    have hval := plainElem_string (H := Nat) Tryz.underlying9 hv
    rcases hvars with ⟨rfl, hnil⟩ | ⟨b, rfl, hb, hown⟩
    · have hput := put_D (H := Nat) [] Srt.nil n v
      rw [hnil] at hset hsz
      have hmade : ((w.setCell ⟨q, 0, none⟩ (.map (some w.heap.size))).alloc (.map #[] 0)).ownsMap (H := Nat) Tryz.prog 9 (plainElem Tryz.prog 9) w.heap.size 0 (D []) := by
        have := World.ownsMap_made (w.setCell ⟨q, 0, none⟩ (.map (some w.heap.size))) Tryz.prog 9 (plainElem (H := Nat) Tryz.prog 9)
        rw [World.size_setCell] at this; exact this
      go_enter Tryz.func24, Tryz.ntmps24
      go_wp2_with (first
        | (go_at_call 43; refine (name_any n _ hNS).mono ?_; rintro e w' ⟨rfl, rfl⟩; rw [show nameL n.data.toList = true from hname])
        | (at_mapUpdate; refine wpList_mapUpdate_in _ rfl _ _ _ 56 rfl 9 9 keyed Tryz.underlying56 _ w.heap.size 0 (D []) rfl hmade (by unfold maxLen; omega) _ _ _ rfl rfl hkey _ [] hval ?_; intro w1 hown1 hturn1))
      go_ret
      have hg := hturn1.grown
      have hlt2 : q < ((w.setCell ⟨q, 0, none⟩ (.map (some w.heap.size))).alloc (.map #[] 0)).heap.size := by simp [World.size_alloc]; omega
      have hrow : w1.heap[q]? = some (.cells #[.map (some w.heap.size), av, .int .i64 s.st, .int .i64 s.la] 58 (0, 0)) := by
        rw [hg.block q hlt2 (by intro e; cases e; omega), Below.heap_alloc _ _ _ (by simpa using hlt)]
        exact heap_setCell_same _ _ 0 _ _ _ hc
      have hkp : Kp w w1 q (.map none) av := by
        have h1 := (Kp.set w q 0 (.map (some w.heap.size)) (.map none) av).then (Kp.alloc _ (.map #[] 0) q (.map none) av) (.inl rfl) (.inl rfl)
        exact h1.then (Kp.grown hg q av) (.inr fun j e => by cases e; omega) (.inl rfl)
      refine ⟨rfl, .map (some w.heap.size), ⟨?_, H.out.base, ?_, ?_⟩, hkp, .inr fun j e => by cases e; omega⟩
      · rw [hset]; exact hrow
      · rw [hset]
        refine .inr ⟨_, rfl, hB, ?_⟩
        rw [hput] at hown1
        have := tight hown1
        rwa [hsz] at this
      · rw [hset]
        exact H.out.args.stay fun j e => by
          have hj := (H.out.args.own j e).2
          rw [hg.block j (by simp [World.size_alloc]; omega) (by intro e2; cases e2; omega), Below.heap_alloc _ _ _ (by simpa using hj)]
          exact heap_setCell_other _ _ _ _ (fun e2 => H.out.args.neScope hc (by rw [e, show j = q from e2]))
    · go_enter Tryz.func24, Tryz.ntmps24
      have hm0 : MapAt w B (.map (some b)) s.vs := .inr ⟨b, rfl, hb, hown⟩
      go_wp2_with (first
        | (go_at_call 43; refine (name_any n _ hNS).mono ?_; rintro e w' ⟨rfl, rfl⟩; rw [show nameL n.data.toList = true from hname])
        | (at_mapUpdate; refine wpList_mapUpdate_in _ rfl _ _ _ 56 rfl 9 9 keyed Tryz.underlying56 _ b s.vs.length (D s.vs) rfl hown (by unfold maxLen; omega) _ _ _ rfl rfl hkey _ [] hval ?_; intro w1 hown1 hturn1))
      go_ret
      have hg := hturn1.grown
      have hkp := Kp.grown hg q av
      refine ⟨rfl, .map (some b), ⟨?_, H.out.base, ?_, ?_⟩, hkp, .inl rfl⟩
      · rw [hset, hg.block q hlt (fun e => hm0.neScope hc (by cases e; rfl))]; exact hc
      · rw [hset]
        refine .inr ⟨_, rfl, hb, ?_⟩
        rw [hput] at hown1
        have := tight hown1
        rwa [hsz] at this
      · rw [hset]
        exact H.out.args.stay fun j e => hg.block j (H.out.args.own j e).2 (fun e2 => by cases e2; exact H.out.args.neMap hm0 e)
end Vr
end Go.Proofs.YtoneabcbeikkhaaGreatDoor
