/- VarsRuns's walk: a block that is written; a row of texts that is appended. -/
import Derived.Test.YtpphoaidnpkgpaaGreatDoorVrW
import Derived.Test.YtpphoaidnpkgpaaGreatDoorVrM
import Derived.Laws.AppendOwnNone
import Derived.OwnWalk
namespace Go.Proofs.YtpphoaidnpkgpaaGreatDoor
open Go.RowKit Go.Maps Cls
namespace Vr

/-- One block is another one now. -/
structure Put (w w' : World) (g : Nat) (o : Obj) : Prop where
  os : w'.os = w.os
  tape : w'.tape = w.tape
  output : w'.output = w.output
  size : w'.heap.size = w.heap.size
  row : w'.heap[g]? = some o
  other : ∀ k, k ≠ g → w'.heap[k]? = w.heap[k]?
theorem Put.below {w w' : World} {g B : Nat} {o : Obj} (h : Put w w' g o) (hB : B ≤ g) : Below B w w' :=
  ⟨h.os, h.tape, h.output, by rw [h.size]; exact Nat.le_refl _, fun k hk => h.other k (by omega)⟩
theorem Put.trans {w w1 w2 : World} {g : Nat} {o o' : Obj} (h : Put w w1 g o) (k : Put w1 w2 g o') : Put w w2 g o' :=
  ⟨k.os.trans h.os, k.tape.trans h.tape, k.output.trans h.output, k.size.trans h.size, k.row, fun j hj => (k.other j hj).trans (h.other j hj)⟩
theorem Put.one {w : World} {g : Nat} {cs : Array Value} {T : TypeId} {i : Nat} {a : Value} (h : w.heap[g]? = some (.cells cs T (0, 0))) (x : Value) (hi : cs[i]? = some a) :
    Put w (w.setCell ⟨g, i, none⟩ x) g (.cells (cs.setIfInBounds i x) T (0, 0)) :=
  ⟨rfl, rfl, rfl, by simp, heap_setCell_same _ _ i _ _ x h, fun k hk => heap_setCell_other _ _ _ _ hk⟩
theorem put4 {w : World} {g : Nat} {T : TypeId} {a b c d : Value} (h : w.heap[g]? = some (.cells #[a, b, c, d] T (0, 0))) (x y z u : Value) :
    Put w ((((w.setCell ⟨g, 0, none⟩ x).setCell ⟨g, 1, none⟩ y).setCell ⟨g, 2, none⟩ z).setCell ⟨g, 3, none⟩ u) g (.cells #[x, y, z, u] T (0, 0)) := by
  have h0 := Put.one h x (i := 0) (a := a) rfl
  have h1 := Put.one h0.row y (i := 1) (a := b) rfl
  have h2 := Put.one h1.row z (i := 2) (a := c) rfl
  have h3 := Put.one h2.row u (i := 3) (a := d) rfl
  exact h0.trans (h1.trans (h2.trans h3))
theorem Sc.putOther {w w' : World} {B q g : Nat} {s : St} {mv av : Value} {o : Obj} {cs : Array Value} {T : TypeId} (h : Sc w B q s mv av) (hp : Put w w' g o) (hg : w.heap[g]? = some (.cells cs T (0, 0))) (h1 : T ≠ 9) (hq : g ≠ q) : Sc w' B q s mv av :=
  ⟨(hp.other _ (Ne.symm hq)).trans h.cells, h.base, h.vars.stay fun j e => hp.other _ (fun e2 => h.vars.neScope hg (by rw [e, e2])), h.args.stay fun j e => hp.other _ (fun e2 => h.args.neType h1 hg (by rw [e, e2]))⟩
/-- A block of no texts is none of a row's. -/
theorem Txt.ne {w : World} {v : Value} {xs : List ByteArray} {g : Nat} {cs : Array Value} {T : TypeId} (h : Txt w v xs) (hg : w.heap[g]? = some (.cells cs T (0, 0))) (hc : ∀ (i : Nat) (x : ByteArray), cs[i]? ≠ some (Value.string x)) (hne : xs ≠ []) : ∀ j, v.ownBlock = some j → j ≠ g := by
  rcases h with ⟨h, _⟩ | ⟨b, off, cap, rfl, h1, h2, h3⟩
  · exact absurd h hne
  · rintro j e rfl
    cases e
    cases xs with
    | nil => exact hne rfl
    | cons x r =>
      have := h3 0 x rfl
      rw [cell_of_row _ _ _ _ _ _ hg] at this
      exact hc _ _ this
theorem Prs.ne {w : World} {v : Value} {vs : Vs} {g : Nat} {cs : Array Value} {T : TypeId} (h : Prs w v vs) (hg : w.heap[g]? = some (.cells cs T (0, 0))) (hc : ∀ (i : Nat) (x : ByteArray), cs[i]? ≠ some (Value.string x)) (hne : vs ≠ []) : ∀ j, v.ownBlock = some j → j ≠ g := by
  rcases h with ⟨h, _⟩ | ⟨b, off, cap, rfl, h1, h2, h3⟩
  · exact absurd h hne
  · rintro j e rfl
    cases e
    cases vs with
    | nil => exact hne rfl
    | cons x r =>
      have := (h3 0 x rfl).1
      rw [cell_of_row _ _ _ _ _ _ hg] at this
      exact hc _ _ this
theorem no_text {a b : Option Addr} {n m c d : Nat} {s l : Int} : ∀ (i : Nat) (x : ByteArray), (#[.slice a n c, .slice b m d, .int .i64 s, .int .i64 l] : Array Value)[i]? ≠ some (Value.string x) := by
  intro i x h
  match i, h with
  | 0, h => simp at h
  | 1, h => simp at h
  | 2, h => simp at h
  | 3, h => simp at h
  | i + 4, h => simp at h
theorem Txt.put {w w' : World} {v : Value} {xs : List ByteArray} {g : Nat} {o : Obj} (h : Txt w v xs) (hp : Put w w' g o) (ho : xs ≠ [] → ∀ j, v.ownBlock = some j → j ≠ g) : Txt w' v xs := by
  rcases h with h | ⟨b, off, cap, rfl, h1, h2, h3⟩
  · exact .inl h
  · by_cases hne : xs = []
    · exact .inl ⟨hne, _, cap, by rw [hne]; rfl⟩
    · have hb := hp.other b (ho hne b rfl)
      exact .inr ⟨b, off, cap, rfl, h1, by rw [hp.size]; exact h2, fun j x hj => (World.cell?_of_block (a := ⟨b, off + j, none⟩) hb).trans (h3 j x hj)⟩
theorem Prs.put {w w' : World} {v : Value} {vs : Vs} {g : Nat} {o : Obj} (h : Prs w v vs) (hp : Put w w' g o) (ho : vs ≠ [] → ∀ j, v.ownBlock = some j → j ≠ g) : Prs w' v vs := by
  rcases h with h | ⟨b, off, cap, rfl, h1, h2, h3⟩
  · exact .inl h
  · by_cases hne : vs = []
    · exact .inl ⟨hne, _, cap, by rw [hne]; rfl⟩
    · have hb := hp.other b (ho hne b rfl)
      refine .inr ⟨b, off, cap, rfl, h1, by rw [hp.size]; exact h2, fun j p hj => ?_⟩
      exact ⟨(World.cell?_of_block (a := ⟨b, off + 2 * j, none⟩) hb).trans (h3 j p hj).1, (World.cell?_of_block (a := ⟨b, off + 2 * j + 1, none⟩) hb).trans (h3 j p hj).2⟩
/-- What is new is none of a scope's blocks. -/
theorem Sc.off {w : World} {B q : Nat} {s : St} {mv av v : Value} (h : Sc w B q s mv av) (hv : ∀ j, v.ownBlock = some j → w.heap.size ≤ j) : Offv v q mv av := fun j e =>
  ⟨by have := hv j e; have := h.lt; omega, fun e2 => by have := (h.vars.own j e2).2; have := hv j e; omega, fun e2 => by have := (h.args.own j e2).2; have := hv j e; omega⟩
theorem Sc.belowOf {w w' : World} {q : Nat} {s : St} {mv av : Value} (h : Sc w q q s mv av) (hk : Kp w w' q mv av) : Below q w w' :=
  hk.below (Nat.le_of_lt h.lt) (Nat.le_refl _) (fun j e => (h.vars.own j e).1) (fun j e => (h.args.own j e).1)
/-- A row of texts is appended to a row of its own. -/
theorem wpList_append_txt {w : World} {ops : Array Oper} {rest : List Oper} {o : Oper} {a : Act} {Q : Exit → Act → World → Prop} (hgd : o.guard = none) (s x : Operand)
    (ho : o.op = .call { callee := .builtin .append, args := #[s, x], argTypes := #[23, 23] })
    (base : Nat) (v : Value) (n : Nat) (xs : List Value) (hs : a.eval s = v) (hown : w.ownsRow base 9 1 v n xs)
    (sa : Option Addr) (c : Nat) (ys : List ByteArray) (hx : a.eval x = .slice sa ys.length c) (ht : Txt w (.slice sa ys.length c) ys) (hnil : sa = none → c = 0)
    (h63 : n + ys.length ≤ maxLen) (hbytes : (n + ys.length) * 16 ≤ 140737488355328) (hbase : base ≤ w.heap.size)
    (h : ∀ v' w', w'.ownsRow base 9 1 v' (n + ys.length) (xs ++ ys.map Value.string) → w.grownBy w' v.ownBlock → wpList Tryz.prog ops Q rest (a.put o.dst v') w') : wpList Tryz.prog ops Q (o :: rest) a w := by
  obtain ⟨i0, hi0, hz0, hz1, hz2⟩ := info_parts infoStr
  cases sa with
  | none =>
    obtain rfl : ys = [] := by
      rcases ht with ⟨h, _⟩ | ⟨b, off, cap, h, _⟩
      · exact h
      · cases h
    obtain rfl := hnil rfl
    refine wpList_append_own_none hgd s x 23 ho base 9 i0 1 Tryz.underlying23 hi0 v n xs hs hown hx (h v w ?_ (World.grownBy.refl _ _))
    simpa using hown
  | some ad =>
    refine wpList_append_own w hgd s x 23 ho base 9 i0 (.string ⟨#[]⟩) 1 16 Tryz.underlying23 hi0 hz0 hz1 hz2 rfl (by decide) v n xs hs hown ad ys.length c (ys.map Value.string) hx (by simp) ?_ ?_ h63 hbytes hbase (fun v' w' h1 h2 _ => h v' w' h1 h2)
    · intro j u hj
      rw [List.getElem?_map] at hj
      obtain ⟨y, hy, rfl⟩ := Option.map_eq_some_iff.1 hj
      rcases ht with ⟨h, _⟩ | ⟨b, off, cap, h, _, _, h3⟩
      · rw [h] at hy; simp at hy
      · cases h; rw [Lib.add_plain]; exact h3 j y hy
    · intro u hu
      obtain ⟨y, _, rfl⟩ := List.mem_map.1 hu
      rfl
theorem sum_drop (xs : List ByteArray) (m : Nat) : sumT (xs.drop m) ≤ sumT xs := by
  have : sumT xs = sumT (xs.take m) + sumT (xs.drop m) := by
    unfold sumT; rw [← List.sum_append, ← List.map_append, List.take_append_drop]
  omega
theorem sum_mem {xs : List ByteArray} {x : ByteArray} (h : x ∈ xs) : x.size ≤ sumT xs := by
  induction xs with
  | nil => cases h
  | cons y r ih =>
    have e : sumT (y :: r) = y.size + 1 + sumT r := by simp [sumT]
    rcases List.mem_cons.1 h with rfl | h
    · omega
    · have := ih h; omega
/-- All blocks stay but a row's. -/
def But (w w' : World) (v : Value) : Prop := Kp w w' w.heap.size (.map none) v
theorem But.refl (w : World) (v : Value) : But w w v := Kp.refl _ _ _ _
theorem But.other {w w' : World} {v : Value} (h : But w w' v) {k : Nat} (hk : k < w.heap.size) (hv : v.ownBlock ≠ some k) : w'.heap[k]? = w.heap[k]? :=
  h.block k hk (by omega) (by simp) hv
theorem But.put {w w1 w2 : World} {v : Value} {g : Nat} {o : Obj} (h : But w w1 v) (hp : Put w1 w2 g o) (hv : v.ownBlock = some g) : But w w2 v :=
  ⟨hp.os.trans h.os, hp.tape.trans h.tape, hp.output.trans h.output, by rw [hp.size]; exact h.size, fun k hk _ _ h3 => (hp.other k (fun e => by rw [e] at h3; exact h3 hv)).trans (h.other hk h3)⟩
theorem But.below {w w' : World} {v : Value} (h : But w w' v) {B : Nat} (hB : B ≤ w.heap.size) (hv : ∀ j, v.ownBlock = some j → B ≤ j) : Below B w w' :=
  ⟨h.os, h.tape, h.output, h.size, fun k hk => h.other (by omega) (fun e => by have := hv k e; omega)⟩
theorem Sc.but {w w' : World} {B q : Nat} {s : St} {mv av v : Value} (h : Sc w B q s mv av) (hk : But w w' v) (ho : Offv v q mv av) : Sc w' B q s mv av :=
  ⟨(hk.other h.lt (fun e => (ho q e).1 rfl)).trans h.cells, h.base, h.vars.stay fun j e => hk.other (h.vars.own j e).2 (fun e2 => (ho j e2).2.1 e), h.args.stay fun j e => hk.other (h.args.own j e).2 (fun e2 => (ho j e2).2.2 e)⟩
theorem Prs.but {w w' : World} {v u : Value} {vs : Vs} (h : Prs w v vs) (hk : But w w' u) (ho : vs ≠ [] → ∀ j, v.ownBlock = some j → u.ownBlock ≠ some j) : Prs w' v vs :=
  h.keep (fun hne j e => ⟨by have := h.lt hne j e; omega, by simp, ho hne j e⟩) hk
theorem Txt.but {w w' : World} {v u : Value} {xs : List ByteArray} (h : Txt w v xs) (hk : But w w' u) (ho : xs ≠ [] → ∀ j, v.ownBlock = some j → u.ownBlock ≠ some j) : Txt w' v xs :=
  h.keep (fun hne j e => ⟨by have := h.lt hne j e; omega, by simp, ho hne j e⟩) hk
/-- A row that is laid down is owned. -/
theorem own_lit (w : World) (B : Nat) (e : TypeId) (xs : List Value) (hB : B ≤ w.heap.size) (hl : xs.length ≤ maxLen) :
    (w.alloc (.cells xs.toArray e)).ownsRow B e 1 (.slice (some ⟨w.heap.size, 0, none⟩) xs.length xs.length) xs.length xs :=
  ⟨by simp [World.size_alloc], .inr ⟨w.heap.size, xs.length, xs.toArray, rfl, hB, heap_alloc_new w _, Nat.le_refl _, hl, by simp, by simp⟩⟩
theorem Txt.ofOwn {w : World} {B n : Nat} {v : Value} {ys : List Value} {xs : List ByteArray} (h : w.ownsRow B 9 1 v n ys) (hn : n = xs.length) (hy : ys = xs.map Value.string) : Txt w v xs := by
  subst hn; subst hy; exact (RowAt.ofOwn h).txt
/-- Acts in memory. -/
def Acs (w : World) (a : Option Addr) (l : List Ac) : Prop := ∀ j x, l[j]? = some x → ∃ b off av, a = some ⟨b, off, none⟩ ∧ b < w.heap.size ∧ w.cell? ⟨b, off + 5 * j, none⟩ = some (.int .i64 x.kind) ∧ w.cell? ⟨b, off + 5 * j + 1, none⟩ = some (.int .i64 x.n) ∧ w.cell? ⟨b, off + 5 * j + 2, none⟩ = some (.string x.name) ∧
  w.cell? ⟨b, off + 5 * j + 3, none⟩ = some (.string x.value) ∧ w.cell? ⟨b, off + 5 * j + 4, none⟩ = some av ∧ Txt w av x.args ∧ (∀ n c, av = .slice none n c → c = 0) ∧ x.args.length ≤ 140737488355328 ∧ (∀ y ∈ x.args, y.size ≤ 140737488355328) ∧ x.name.size ≤ 140737488355328 ∧ x.value.size ≤ 140737488355328 ∧ (-9223372036854775808 ≤ x.n ∧ x.n ≤ 9223372036854775807) ∧ (-9223372036854775808 ≤ x.kind ∧ x.kind ≤ 9223372036854775807)
end Vr
end Go.Proofs.YtpphoaidnpkgpaaGreatDoor
