/- A scope in memory: its map, its row of arguments; what a call leaves as it was. -/
import Derived.Test.YtpphoaidnpkgpaaGreatDoorVrB
import Derived.Test.YtpphoaidnpkgpaaGreatDoorLaw
import Derived.Maps.OwnOps
import Derived.Maps.OwnIn
import Derived.Lib.QuietBelow
namespace Go.Proofs.YtpphoaidnpkgpaaGreatDoor
open Go.RowKit Go.Maps
namespace Vr

theorem keyed : Keyed Tryz.prog 9 := string_keyed Tryz.underlying9
/-- A map's value that holds these variables. -/
def MapAt (w : World) (B : Nat) (mv : Value) (vs : Vs) : Prop :=
  (mv = .map none ∧ vs = []) ∨ ∃ b, mv = .map (some b) ∧ B ≤ b ∧ w.ownsMap (H := Nat) Tryz.prog 9 (plainElem Tryz.prog 9) b vs.length (D vs)
/-- A slice's value that holds these texts. -/
def RowAt (w : World) (B : Nat) (av : Value) (xs : List ByteArray) : Prop :=
  (av = .slice none 0 0 ∧ xs = []) ∨ ∃ g off cap cur, av = .slice (some ⟨g, off, none⟩) xs.length cap ∧ B ≤ g ∧ xs.length ≤ cap ∧ cap ≤ maxLen ∧ off + cap ≤ cur.size ∧
    w.heap[g]? = some (.cells cur 9 (0, 0)) ∧ ∀ j x, xs[j]? = some x → cur[off + j]? = some (.string x)
/-- A scope at a block. -/
structure Sc (w : World) (B q : Nat) (s : St) (mv av : Value) : Prop where
  cells : w.heap[q]? = some (.cells #[mv, av, .int .i64 s.st, .int .i64 s.la] 28 (0, 0))
  base : B ≤ q
  vars : MapAt w B mv s.vs
  args : RowAt w B av s.args

/-- What a call that writes a scope leaves as it was. -/
structure Kp (w w' : World) (q : Nat) (mv av : Value) : Prop where
  os : w'.os = w.os
  tape : w'.tape = w.tape
  output : w'.output = w.output
  size : w.heap.size ≤ w'.heap.size
  block : ∀ k, k < w.heap.size → k ≠ q → mv ≠ .map (some k) → av.ownBlock ≠ some k → w'.heap[k]? = w.heap[k]?
theorem Kp.refl (w : World) (q : Nat) (mv av : Value) : Kp w w q mv av := ⟨rfl, rfl, rfl, Nat.le_refl _, fun _ _ _ _ _ => rfl⟩
theorem Kp.ofBelow {w w' : World} (h : Below w.heap.size w w') (q : Nat) (mv av : Value) : Kp w w' q mv av :=
  ⟨h.os, h.tape, h.output, h.size, fun k hk _ _ _ => h.block k hk⟩
theorem Kp.then {w w1 w2 : World} {q : Nat} {mv av mv1 av1 : Value} (h : Kp w w1 q mv av) (k : Kp w1 w2 q mv1 av1)
    (hm : mv1 = mv ∨ ∀ j, mv1 = .map (some j) → w.heap.size ≤ j) (ha : av1.ownBlock = av.ownBlock ∨ ∀ j, av1.ownBlock = some j → w.heap.size ≤ j) : Kp w w2 q mv av := by
  refine ⟨k.os.trans h.os, k.tape.trans h.tape, k.output.trans h.output, Nat.le_trans h.size k.size, fun j hj hq h1 h2 => ?_⟩
  rw [k.block j (Nat.lt_of_lt_of_le hj h.size) hq ?_ ?_, h.block j hj hq h1 h2]
  · intro e; rcases hm with hm | hm
    · rw [hm] at e; exact h1 e
    · have := hm j e; omega
  · intro e; rcases ha with ha | ha
    · rw [ha] at e; exact h2 e
    · have := ha j e; omega
/-- .. all that it writes lies above. -/
theorem Kp.below {w w' : World} {q : Nat} {mv av : Value} (h : Kp w w' q mv av) {B : Nat} (hB : B ≤ w.heap.size) (hq : B ≤ q) (hm : ∀ j, mv = .map (some j) → B ≤ j) (ha : ∀ j, av.ownBlock = some j → B ≤ j) : Below B w w' :=
  ⟨h.os, h.tape, h.output, h.size, fun k hk => h.block k (by omega) (by omega) (fun e => by have := hm k e; omega) (fun e => by have := ha k e; omega)⟩

theorem MapAt.own {w : World} {B : Nat} {mv : Value} {vs : Vs} (h : MapAt w B mv vs) : ∀ j, mv = .map (some j) → B ≤ j ∧ j < w.heap.size := by
  rintro j rfl
  rcases h with ⟨h, _⟩ | ⟨b, h, hb, ho⟩
  · cases h
  · cases h; exact ⟨hb, ho.lt⟩
theorem RowAt.own {w : World} {B : Nat} {av : Value} {xs : List ByteArray} (h : RowAt w B av xs) : ∀ j, av.ownBlock = some j → B ≤ j ∧ j < w.heap.size := by
  intro j hj
  rcases h with ⟨rfl, _⟩ | ⟨g, off, cap, cur, rfl, hb, _, _, _, hh, _⟩
  · cases hj
  · cases hj; exact ⟨hb, (Array.getElem?_eq_some_iff.1 hh).1⟩
theorem MapAt.stay {w w' : World} {B : Nat} {mv : Value} {vs : Vs} (h : MapAt w B mv vs) (hk : ∀ j, mv = .map (some j) → w'.heap[j]? = w.heap[j]?) : MapAt w' B mv vs := by
  rcases h with h | ⟨b, h, hb, es, clock, hh, F, hs, hD⟩
  · exact .inl h
  · exact .inr ⟨b, h, hb, es, clock, (hk b h).trans hh, F, hs, hD⟩
theorem RowAt.stay {w w' : World} {B : Nat} {av : Value} {xs : List ByteArray} (h : RowAt w B av xs) (hk : ∀ j, av.ownBlock = some j → w'.heap[j]? = w.heap[j]?) : RowAt w' B av xs := by
  rcases h with h | ⟨g, off, cap, cur, rfl, hb, h1, h2, h3, hh, h4⟩
  · exact .inl h
  · exact .inr ⟨g, off, cap, cur, rfl, hb, h1, h2, h3, (hk g rfl).trans hh, h4⟩
theorem Sc.lt {w : World} {B q : Nat} {s : St} {mv av : Value} (h : Sc w B q s mv av) : q < w.heap.size := (Array.getElem?_eq_some_iff.1 h.cells).1
theorem Sc.stay {w w' : World} {B q : Nat} {s : St} {mv av : Value} (h : Sc w B q s mv av) (hb : Below w.heap.size w w') : Sc w' B q s mv av :=
  ⟨(hb.block _ h.lt).trans h.cells, h.base, h.vars.stay fun j e => hb.block _ (h.vars.own j e).2, h.args.stay fun j e => hb.block _ (h.args.own j e).2⟩
theorem Sc.low {w : World} {B B' q : Nat} {s : St} {mv av : Value} (h : Sc w B q s mv av) (hB : B' ≤ B) : Sc w B' q s mv av := by
  refine ⟨h.cells, Nat.le_trans hB h.base, ?_, ?_⟩
  · rcases h.vars with k | ⟨b, h1, h2, h3⟩
    · exact .inl k
    · exact .inr ⟨b, h1, Nat.le_trans hB h2, h3⟩
  · rcases h.args with k | ⟨g, off, cap, cur, h1, h2, h3⟩
    · exact .inl k
    · exact .inr ⟨g, off, cap, cur, h1, Nat.le_trans hB h2, h3⟩
/-- A row of its own, as texts. -/
theorem RowAt.ofOwn {w : World} {B : Nat} {v : Value} {xs : List ByteArray} (h : w.ownsRow B 9 1 v xs.length (xs.map Value.string)) : RowAt w B v xs := by
  obtain ⟨_, ⟨rfl, h0⟩ | ⟨g, cap, cur, rfl, hg, hh, h1, h2, h3, h4⟩⟩ := h
  · exact .inl ⟨rfl, List.length_eq_zero_iff.1 h0⟩
  · refine .inr ⟨g, 0, cap, cur, rfl, hg, h1, h2, by omega, hh, fun j x hj => ?_⟩
    have : (cur.toList.take (xs.length * 1))[j]? = some (.string x) := by rw [h4, List.getElem?_map, hj]; rfl
    rw [List.getElem?_take] at this
    split at this
    · simpa using this
    · cases this
theorem RowAt.neScope {w : World} {B q : Nat} {av : Value} {xs : List ByteArray} {cs : Array Value} {fr : Nat × Nat} (h : RowAt w B av xs) (hq : w.heap[q]? = some (.cells cs 28 fr)) : av.ownBlock ≠ some q := by
  intro e
  rcases h with ⟨rfl, _⟩ | ⟨g, off, cap, cur, rfl, _, _, _, _, hh, _⟩
  · cases e
  · cases e; rw [hq] at hh; injection hh with hh; injection hh with _ h2; exact absurd h2 (by decide)
theorem MapAt.neScope {w : World} {B q : Nat} {mv : Value} {vs : Vs} {cs : Array Value} {T : TypeId} {fr : Nat × Nat} (h : MapAt w B mv vs) (hq : w.heap[q]? = some (.cells cs T fr)) : mv ≠ .map (some q) := by
  rintro rfl
  rcases h with ⟨h, _⟩ | ⟨b, h, _, es, clock, hh, _⟩
  · cases h
  · cases h; rw [hq] at hh; injection hh with hh; cases hh
theorem RowAt.neMap {w : World} {B B' b : Nat} {av : Value} {xs : List ByteArray} {vs : Vs} (h : RowAt w B av xs) (hm : MapAt w B' (.map (some b)) vs) : av.ownBlock ≠ some b := by
  intro e
  rcases h with ⟨rfl, _⟩ | ⟨g, off, cap, cur, rfl, _, _, _, _, hh, _⟩
  · cases e
  · cases e; exact hm.neScope hh rfl
theorem Kp.set (w : World) (q j : Nat) (u mv av : Value) : Kp w (w.setCell ⟨q, j, none⟩ u) q mv av :=
  ⟨rfl, rfl, rfl, by simp, fun k _ hq _ _ => heap_setCell_other _ _ _ _ hq⟩
theorem Kp.alloc (w : World) (o : Obj) (q : Nat) (mv av : Value) : Kp w (w.alloc o) q mv av :=
  ⟨rfl, rfl, rfl, by simp [World.size_alloc], fun k hk _ _ _ => Below.heap_alloc _ _ _ hk⟩
theorem Kp.grown {w w' : World} {b : Nat} (h : w.grownBy w' (some b)) (q : Nat) (av : Value) : Kp w w' q (.map (some b)) av :=
  ⟨h.os, h.tape, h.output, h.size, fun k hk _ h1 _ => h.block k hk fun e => by cases e; exact h1 rfl⟩
end Vr
end Go.Proofs.YtpphoaidnpkgpaaGreatDoor
