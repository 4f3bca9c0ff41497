/- A table in memory: its map, its processes, how they ended; what a call leaves as it was. -/
import Derived.Test.YtlebglnlkkoakaaKnA
import Derived.Test.YtlebglnlkkoakaaLaw
import Derived.Maps.RangeWalk
import Derived.Lib.QuietBelow
namespace Go.Proofs.Ytlebglnlkkoakaa
open Go.RowKit Go.Maps
namespace Kn
theorem keyed : Keyed Try.prog 3 := int_keyed Try.underlying3
/-- What a map's element reads as: a process's block, or nobody's. -/
def enc : Option Nat → DataW Nat
  | none => .nil
  | some b => .lit (.int .i64 b)
def ptr (o : Option Nat) : Value := .pointer (o.map fun b => ⟨b, 0, none⟩)
def pe : Value → Option (DataW Nat × List MemPlace)
  | .pointer none => some (.nil, [])
  | .pointer (some ⟨b, 0, none⟩) => some (.lit (.int .i64 b), [])
  | _ => none
theorem pe_ptr (o : Option Nat) : pe (ptr o) = some (enc o, []) := by cases o <;> rfl
theorem enc_inj {a b : Option Nat} (h : enc a = enc b) : a = b := by
  cases a <;> cases b <;> simp [enc] at h ⊢
  exact Int.ofNat.inj h
theorem pe_inv {v : Value} {z : DataW Nat × List MemPlace} (h : pe v = some z) : ∃ o, v = ptr o ∧ z = (enc o, []) := by
  unfold pe at h
  split at h
  · cases h; exact ⟨none, rfl, rfl⟩
  · cases h; exact ⟨some _, rfl, rfl⟩
  · cases h
theorem zeroP (w : World) : (zeroValue 79).run Try.prog w = .ok (ptr none) w := by kernel_rfl
/-- What a table is told by: its block, its map's, its row of ends, what the map reads as, where each process lies. -/
structure H where
  tb : Nat
  mb : Nat
  ev : Value
  D : DataW Nat
  ad : Int → Nat
def pcells (p : P) : Array Value := #[.int .i64 p.par, .bool p.live, .int .i64 p.st, .int .u32 p.ig, .int .u32 p.ca, .int .u32 p.pe]
def ecells (l : List (Int × Int)) : List Value := l.flatMap fun e => [.int .i64 e.1, .int .i64 e.2]
structure Tb (w : World) (B : Nat) (h : H) (t : T) : Prop where
  cells : w.heap[h.tb]? = some (.cells #[.map (some h.mb), .int .i64 t.last, h.ev] 67 (0, 0))
  map : w.ownsMap Try.prog 3 pe h.mb t.l.length h.D
  keys : ∀ pid : Int, h.D.atKey (.int .i64 pid) .nil = enc ((find t pid).map fun _ => h.ad pid)
  has : ∀ pid : Int, Maps.has h.D (.int .i64 pid) = (find t pid).isSome
  size : Maps.size h.D = t.l.length
  proc : ∀ p ∈ t.l, w.heap[h.ad p.pid]? = some (.cells (pcells p) 82 (0, 0))
  apart : ∀ p ∈ t.l, ∀ q ∈ t.l, h.ad p.pid = h.ad q.pid → p.pid = q.pid
  ends : w.ownsRow B 87 2 h.ev t.ends.length (ecells t.ends)
  tb0 : B ≤ h.tb
  mb0 : B ≤ h.mb
  ad0 : ∀ p ∈ t.l, B ≤ h.ad p.pid
/-- The blocks that are a table's. -/
def Mine (h : H) (t : T) (k : Nat) : Prop := k = h.tb ∨ k = h.mb ∨ h.ev.ownBlock = some k ∨ ∃ p ∈ t.l, k = h.ad p.pid
/-- What is not of S stays. -/
structure Fr (w w' : World) (S : Nat → Prop) : Prop where
  os : w'.os = w.os
  tape : w'.tape = w.tape
  output : w'.output = w.output
  size : w.heap.size ≤ w'.heap.size
  block : ∀ k, k < w.heap.size → ¬ S k → w'.heap[k]? = w.heap[k]?
theorem Fr.refl (w : World) (S : Nat → Prop) : Fr w w S := ⟨rfl, rfl, rfl, Nat.le_refl _, fun _ _ _ => rfl⟩
theorem Fr.ofBelow {w w' : World} (h : Below w.heap.size w w') (S : Nat → Prop) : Fr w w' S := ⟨h.os, h.tape, h.output, h.size, fun k hk _ => h.block k hk⟩
theorem Fr.then {w w1 w2 : World} {S S1 : Nat → Prop} (h : Fr w w1 S) (k : Fr w1 w2 S1) (hs : ∀ j, S1 j → S j ∨ w.heap.size ≤ j) : Fr w w2 S :=
  ⟨k.os.trans h.os, k.tape.trans h.tape, k.output.trans h.output, Nat.le_trans h.size k.size, fun j hj hn =>
    (k.block j (Nat.lt_of_lt_of_le hj h.size) fun e => (hs j e).elim hn fun e => by omega).trans (h.block j hj hn)⟩
theorem Fr.below {w w' : World} {S : Nat → Prop} (h : Fr w w' S) {B : Nat} (hB : B ≤ w.heap.size) (hS : ∀ j, S j → B ≤ j) : Below B w w' :=
  ⟨h.os, h.tape, h.output, h.size, fun k hk => h.block k (by omega) fun e => by have := hS k e; omega⟩
/-- A call that changed a table. -/
structure Went (w w' : World) (h : H) (t : T) (h' : H) (t' : T) : Prop where
  fr : Fr w w' (Mine h t)
  grew : ∀ k, Mine h' t' k → Mine h t k ∨ w.heap.size ≤ k
  ad : ∀ x, x ≤ t.last → h'.ad x = h.ad x
  last : t.last ≤ t'.last
theorem Went.trans {w w1 w2 : World} {h h1 h2 : H} {t t1 t2 : T} (a : Went w w1 h t h1 t1) (b : Went w1 w2 h1 t1 h2 t2) : Went w w2 h t h2 t2 :=
  ⟨a.fr.then b.fr a.grew, fun k hk => (b.grew k hk).elim (a.grew k) fun e => .inr (Nat.le_trans a.fr.size e), fun x hx => (b.ad x (Int.le_trans hx a.last)).trans (a.ad x hx), Int.le_trans a.last b.last⟩
theorem Went.refl (w : World) (h : H) (t : T) : Went w w h t h t := ⟨Fr.refl _ _, fun _ e => .inl e, fun _ _ => rfl, Int.le_refl _⟩
theorem Tb.lt {w : World} {B : Nat} {h : H} {t : T} (T : Tb w B h t) : ∀ k, Mine h t k → B ≤ k ∧ k < w.heap.size := by
  rintro k (rfl | rfl | e | ⟨p, hp, rfl⟩)
  · exact ⟨T.tb0, (Array.getElem?_eq_some_iff.1 T.cells).1⟩
  · exact ⟨T.mb0, T.map.lt⟩
  · exact T.ends.lt k e
  · exact ⟨T.ad0 p hp, (Array.getElem?_eq_some_iff.1 (T.proc p hp)).1⟩
theorem Tb.stays {w w' : World} {B : Nat} {h : H} {t : T} (T : Tb w B h t) (hb : ∀ k, Mine h t k → w'.heap[k]? = w.heap[k]?) : Tb w' B h t := by
  obtain ⟨c, m, k, hs, s, p, a, e, b1, b2, b3⟩ := T
  refine ⟨(hb _ (.inl rfl)).trans c, ?_, k, hs, s, fun q hq => (hb _ (.inr (.inr (.inr ⟨q, hq, rfl⟩)))).trans (p q hq), a, ?_, b1, b2, b3⟩
  · obtain ⟨es, clock, hh, F, hs, hD⟩ := m
    exact ⟨es, clock, (hb _ (.inr (.inl rfl))).trans hh, F, hs, hD⟩
  · obtain ⟨h1, h2⟩ := e
    refine ⟨h1, ?_⟩
    rcases h2 with h2 | ⟨g, cap, cur, hv, hg, hh, r⟩
    · exact .inl h2
    · exact .inr ⟨g, cap, cur, hv, hg, (hb _ (.inr (.inr (.inl (by rw [hv]; rfl))))).trans hh, r⟩
theorem Tb.stay {w w' : World} {B : Nat} {h : H} {t : T} (T : Tb w B h t) (hb : Below w.heap.size w w') : Tb w' B h t := T.stays fun k hk => hb.block k (T.lt k hk).2
theorem Went.below {w w' : World} {h h' : H} {t t' : T} (g : Went w w' h t h' t') {B : Nat} (T : Tb w B h t) (hB : B ≤ w.heap.size) : Below B w w' := g.fr.below hB fun j hj => (T.lt j hj).1
/-- A process's block is no other block of the table. -/
theorem Tb.ad_ne {w : World} {B : Nat} {h : H} {t : T} (T : Tb w B h t) {p : P} (hp : p ∈ t.l) : h.ad p.pid ≠ h.tb ∧ h.ad p.pid ≠ h.mb ∧ h.ev.ownBlock ≠ some (h.ad p.pid) := by
  have c := T.proc p hp
  refine ⟨fun e => ?_, fun e => ?_, fun e => ?_⟩
  · rw [e, T.cells] at c; injection c with c; injection c with _ c; exact absurd c (by decide)
  · obtain ⟨es, clock, hh, _⟩ := T.map
    rw [e, hh] at c; cases c
  · obtain ⟨_, ⟨h1, _⟩ | ⟨g, cap, cur, hv, hg, hh, r⟩⟩ := T.ends
    · rw [h1] at e; cases e
    · rw [hv] at e
      cases e
      rw [hh] at c; injection c with c; injection c with _ c; exact absurd c (by decide)
theorem Tb.tb_ne {w : World} {B : Nat} {h : H} {t : T} (T : Tb w B h t) : h.mb ≠ h.tb ∧ h.ev.ownBlock ≠ some h.tb ∧ h.ev.ownBlock ≠ some h.mb := by
  have c := T.cells
  refine ⟨fun e => ?_, fun e => ?_, fun e => ?_⟩
  · obtain ⟨es, clock, hh, _⟩ := T.map
    rw [← e, hh] at c; cases c
  · obtain ⟨_, ⟨h1, _⟩ | ⟨g, cap, cur, hv, hg, hh, r⟩⟩ := T.ends
    · rw [h1] at e; cases e
    · rw [hv] at e
      cases e
      rw [hh] at c; injection c with c; injection c with _ c; exact absurd c (by decide)
  · obtain ⟨_, ⟨h1, _⟩ | ⟨g, cap, cur, hv, hg, hh, r⟩⟩ := T.ends
    · rw [h1] at e; cases e
    · obtain ⟨es, clock, h2, _⟩ := T.map
      rw [hv] at e
      cases e
      rw [hh] at h2; cases h2
/-- 'm[k]' of a map of pointers. -/
theorem wpList_lookup_ptr {w : World} {ops : Array Oper} {rest : List Oper} {o : Oper} {a : Act} {Q : Exit → Act → World → Prop}
    (hg : o.guard = none) (m x : Operand) (hop : o.op = Op.lookup 65 m x false) (b n : Nat) (D : DataW Nat)
    (hm : a.eval m = .map (some b)) (hown : w.ownsMap Try.prog 3 pe b n D) (key : Value) (pid : Int) (hx : a.eval x = key) (hkey : key = .int .i64 pid) (hwf : (Lit.int .i64 pid).wf = true) (f : Option Nat) (hat : D.atKey (.int .i64 pid) .nil = enc f)
    (hK : wpList Try.prog ops Q rest (a.put o.dst (ptr f)) w) :
    wpList Try.prog ops Q (o :: rest) a w := by
  refine wpList_plain hg fun K' hK' => ?_
  obtain ⟨v, ps, hrun, hv⟩ := hown.lookup keyed Try.underlying65 (zeroP w) (pe_ptr none) (key := .int .i64 pid) (kl := .int .i64 pid) (keyOf_int_mk Try.underlying3 hwf)
  obtain ⟨f', rfl, hz⟩ := pe_inv hv
  have : f' = f := enc_inj ((congrArg Prod.fst hz).symm.trans hat)
  subst this
  subst hkey
  unfold Oper.wp
  simp [execOp, hop, hm, hx, hrun, Result.andThen]
  exact hK' _ _ hK
/-- Where a live process lies. -/
def lad (h : H) (t : T) (pid : Int) : Option Nat := if live t pid then some (h.ad pid) else none
end Kn
end Go.Proofs.Ytlebglnlkkoakaa
