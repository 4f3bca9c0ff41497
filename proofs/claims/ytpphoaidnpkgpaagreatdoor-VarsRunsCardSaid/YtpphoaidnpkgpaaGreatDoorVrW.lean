/- VarsRuns's walk: what both scopes are, and stay. -/
import Derived.Test.YtpphoaidnpkgpaaGreatDoorVrV
import Derived.Test.YtpphoaidnpkgpaaGreatDoorVrH
namespace Go.Proofs.YtpphoaidnpkgpaaGreatDoor
open Go.RowKit Go.Maps Cls
namespace Vr

theorem RowAt.neType {w : World} {B q : Nat} {av : Value} {xs : List ByteArray} {cs : Array Value} {T : TypeId} {fr : Nat × Nat} (h : RowAt w B av xs) (hT : T ≠ 9) (hq : w.heap[q]? = some (.cells cs T fr)) : av.ownBlock ≠ some q := by
  intro e
  rcases h with ⟨rfl, _⟩ | ⟨g, off, cap, cur, rfl, _, _, _, _, hh, _⟩
  · cases e
  · cases e; rw [hq] at hh; injection hh with hh; injection hh with _ h2; exact absurd h2 hT
/-- A block of another type stays. -/
theorem Kp.other {w w' : World} {q k B B' : Nat} {mv av : Value} {vs : Vs} {xs : List ByteArray} {cs : Array Value} {T : TypeId} (h : Kp w w' q mv av) (hm : MapAt w B mv vs) (ha : RowAt w B' av xs) (hT : T ≠ 9) (hk : w.heap[k]? = some (.cells cs T (0, 0))) (hq : k ≠ q) : w'.heap[k]? = some (.cells cs T (0, 0)) :=
  (h.block k (Array.getElem?_eq_some_iff.1 hk).1 hq (hm.neScope hk) (ha.neType hT hk)).trans hk
/-- A code where the walk stands still. -/
def Mk (c : Code) : Code := c
theorem mark (c : Code) : c = Mk c := rfl
def Stop (p : Prop) : Prop := p
theorem stop_list {P : Program} {ops : Array Oper} {Q : Exit → Act → World → Prop} {rest : List Oper} {a : Act} {w : World} (h : Stop (wpList P ops Q rest a w)) : wpList P ops Q rest a w := h
/-- A slice's row is none of a scope's blocks. -/
def Offv (v : Value) (q : Nat) (mv av : Value) : Prop := ∀ j, v.ownBlock = some j → j ≠ q ∧ mv ≠ .map (some j) ∧ av.ownBlock ≠ some j
/-- The document's scope, beside a scope's blocks. -/
structure Rf (w : World) (q : Nat) (mv av vv rv : Value) (vs : Vs) (args : List ByteArray) : Prop where
  prs : Prs w vv vs
  txt : Txt w rv args
  op : vs ≠ [] → Offv vv q mv av
  oa : args ≠ [] → Offv rv q mv av
theorem Prs.lt {w : World} {v : Value} {vs : Vs} (h : Prs w v vs) (hne : vs ≠ []) : ∀ j, v.ownBlock = some j → j < w.heap.size := by
  rcases h with ⟨h, _⟩ | ⟨b, off, cap, rfl, h1, h2, h3⟩
  · exact absurd h hne
  · intro j e; cases e; exact h2
theorem Txt.lt {w : World} {v : Value} {xs : List ByteArray} (h : Txt w v xs) (hne : xs ≠ []) : ∀ j, v.ownBlock = some j → j < w.heap.size := by
  rcases h with ⟨h, _⟩ | ⟨b, off, cap, rfl, h1, h2, h3⟩
  · exact absurd h hne
  · intro j e; cases e; exact h2
theorem Prs.keep {w w' : World} {v : Value} {vs : Vs} {q : Nat} {mv av : Value} (h : Prs w v vs) (ho : vs ≠ [] → Offv v q mv av) (hk : Kp w w' q mv av) : Prs w' v vs := by
  rcases h with h | ⟨b, off, cap, rfl, h1, h2, h3⟩
  · exact .inl h
  · by_cases hne : vs = []
    · exact .inl ⟨hne, _, cap, by rw [hne]; rfl⟩
    · obtain ⟨o1, o2, o3⟩ := ho hne b rfl
      have hb := hk.block b h2 o1 o2 o3
      refine .inr ⟨b, off, cap, rfl, h1, Nat.lt_of_lt_of_le h2 hk.size, fun j p hj => ?_⟩
      exact ⟨(World.cell?_of_block (a := ⟨b, off + 2 * j, none⟩) hb).trans (h3 j p hj).1, (World.cell?_of_block (a := ⟨b, off + 2 * j + 1, none⟩) hb).trans (h3 j p hj).2⟩
theorem Txt.keep {w w' : World} {v : Value} {xs : List ByteArray} {q : Nat} {mv av : Value} (h : Txt w v xs) (ho : xs ≠ [] → Offv v q mv av) (hk : Kp w w' q mv av) : Txt w' v xs := by
  rcases h with h | ⟨b, off, cap, rfl, h1, h2, h3⟩
  · exact .inl h
  · by_cases hne : xs = []
    · exact .inl ⟨hne, _, cap, by rw [hne]; rfl⟩
    · obtain ⟨o1, o2, o3⟩ := ho hne b rfl
      have hb := hk.block b h2 o1 o2 o3
      exact .inr ⟨b, off, cap, rfl, h1, Nat.lt_of_lt_of_le h2 hk.size, fun j p hj => (World.cell?_of_block (a := ⟨b, off + j, none⟩) hb).trans (h3 j p hj)⟩
theorem Rf.stay {w w' : World} {q : Nat} {mv av vv rv : Value} {vs : Vs} {args : List ByteArray} (h : Rf w q mv av vv rv vs args) (hb : Below w.heap.size w w') : Rf w' q mv av vv rv vs args :=
  ⟨h.prs.stay hb, h.txt.stay hb, h.op, h.oa⟩
/-- What a method of the scope leaves. -/
theorem Rf.after {w w' : World} {q : Nat} {mv av vv rv mv' av' : Value} {vs : Vs} {args : List ByteArray} (h : Rf w q mv av vv rv vs args) (hk : Kp w w' q mv av)
    (hm : mv' = mv ∨ ∀ j, mv' = .map (some j) → w.heap.size ≤ j) (ha : av'.ownBlock = av.ownBlock ∨ ∀ j, av'.ownBlock = some j → w.heap.size ≤ j) : Rf w' q mv' av' vv rv vs args := by
  have key : ∀ v : Value, (∀ j, v.ownBlock = some j → j < w.heap.size) → Offv v q mv av → Offv v q mv' av' := fun v hl ho j e => by
    obtain ⟨o1, o2, o3⟩ := ho j e
    have hj := hl j e
    refine ⟨o1, fun e2 => ?_, fun e2 => ?_⟩
    · rcases hm with hm | hm
      · rw [hm] at e2; exact o2 e2
      · have := hm j e2; omega
    · rcases ha with ha | ha
      · rw [ha] at e2; exact o3 e2
      · have := ha j e2; omega
  exact ⟨h.prs.keep h.op hk, h.txt.keep h.oa hk, fun hne => key vv (h.prs.lt hne) (h.op hne), fun hne => key rv (h.txt.lt hne) (h.oa hne)⟩
/-- What holds of a scope all the time. -/
structure Inv (k : Nat) (s : St) : Prop where
  srt : Srt s.vs
  nvs : s.vs.length ≤ k
  names : ∀ p ∈ s.vs, nameL (bs p.1) = true ∧ p.1.size ≤ 2000 ∧ p.2.size ≤ 2000
  args : sumT s.args ≤ 2000
  st0 : -9223372036854775808 ≤ s.st
  st1 : s.st ≤ 9223372036854775807
  la0 : -9223372036854775808 ≤ s.la
  la1 : s.la ≤ 9223372036854775807
theorem sum_len (xs : List ByteArray) : xs.length ≤ sumT xs := by
  induction xs with
  | nil => simp
  | cons x r ih => simp only [sumT, List.map_cons, List.sum_cons, List.length_cons] at ih ⊢; omega
theorem sum_join (xs : List ByteArray) : (joinB xs).length ≤ sumT xs := by
  have : ∀ d k : Nat, k + d = xs.length → (joinB (xs.take k)).length ≤ sumT (xs.take k) := by
    intro d k
    induction k generalizing d with
    | zero => intro _; simp [joinB, Lib.join]
    | succ k ih =>
      intro h
      have hx : xs[k]? = some (xs[k]'(by omega)) := List.getElem?_eq_getElem (by omega)
      have := ih (d + 1) (by omega)
      rw [joinB_succ xs k _ hx, sumT_succ hx]
      simp only [List.length_append, lenB]
      split <;> simp <;> omega
  have := this 0 xs.length (by omega)
  rwa [List.take_length] at this
theorem Inv.good {k : Nat} {s : St} (h : Inv k s) (hk : k ≤ 1000) : Good s := by
  have h1 := sum_len s.args
  have h2 := sum_join s.args
  have h3 := h.args
  have h4 := h.nvs
  exact ⟨⟨h.srt, by omega, by omega, Nat.le_trans h2 (by omega), h.st0, h.st1, h.la0, h.la1⟩, fun p hp => ⟨(h.names p hp).1, by have := (h.names p hp).2.1; omega, by have := (h.names p hp).2.2; omega⟩, by omega⟩
theorem Inv.up {k : Nat} {s : St} (h : Inv k s) : Inv (k + 1) s := { h with nvs := by have := h.nvs; omega }
theorem Inv.set {k : Nat} {s : St} (h : Inv k s) (n v : ByteArray) (hn : n.size ≤ 2000) (hv : v.size ≤ 2000) : Inv (k + 1) (setS s n v) := by
  unfold setS
  by_cases hnn : nameL (bs n) = true
  · rw [if_pos hnn]
    refine { srt := h.srt.set n v, nvs := ?_, names := fun p hp => ?_, args := h.args, st0 := h.st0, st1 := h.st1, la0 := h.la0, la1 := h.la1 }
    · have := set_length s.vs n v; have := h.nvs; simp only; omega
    · rcases mem_set hp with e | e
      · rw [e]; exact ⟨hnn, hn, hv⟩
      · exact h.names p e
  · rw [if_neg hnn]; exact h.up
end Vr
end Go.Proofs.YtpphoaidnpkgpaaGreatDoor
