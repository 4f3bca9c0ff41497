/- KernRuns: both tables and the law's own variable on their way; the acts in memory. -/
import Derived.Test.YtlebglnlkkoakaaKrU
namespace Go.Proofs.Ytlebglnlkkoakaa
open Go.RowKit Go.Maps
namespace Kn
def One (g : Nat) (o : Obj) (j : Nat) (p : Obj) : Prop := j = g ∧ p = o
def Duo (g : Nat) (o : Obj) (g2 : Nat) (o2 : Obj) (j : Nat) (p : Obj) : Prop := (j = g ∧ p = o) ∨ (j = g2 ∧ p = o2)
def Tri (w : World) (B tb n : Nat) (t u : T) (lv ev : Value) (K : Nat → Obj → Prop) (wr : World) : Prop :=
  ∃ h, h.tb = tb ∧ Tb wr B h t ∧ Inv n t ∧ Below w.heap.size w wr ∧ B ≤ wr.heap.size ∧ w.heap.size ≤ B ∧ RT wr B lv ev u ∧ (∀ k, lv.ownBlock = some k → ¬ Mine h t k) ∧ (∀ k, ev.ownBlock = some k → ¬ Mine h t k) ∧ ∀ j o, K j o → ¬ Mine h t j ∧ w.heap.size ≤ j ∧ wr.heap[j]? = some o
section
variable {w wr : World} {B tb n : Nat} {t u : T} {lv ev : Value} {K : Nat → Obj → Prop}
theorem Tri.two (N : Tri w B tb n t u lv ev K wr) : Two w B tb n t u lv ev wr := by obtain ⟨h, e, T, I, b, z, z2, R, a1, a2, _⟩ := N; exact ⟨h, e, T, I, b, z, z2, R, a1, a2⟩
theorem Tri.box (N : Tri w B tb n t u lv ev K wr) {j : Nat} {o : Obj} (hj : K j o) : wr.heap[j]? = some o := by obtain ⟨h, e, T, I, b, z, z2, R, a1, a2, a3⟩ := N; exact (a3 j o hj).2.2
theorem Tri.more (N : Tri w B tb n t u lv ev K wr) {w' : World} (hb : Below wr.heap.size wr w') : Tri w B tb n t u lv ev K w' := by
  obtain ⟨h, e, T, I, b, z, z2, R, a1, a2, a3⟩ := N
  exact ⟨h, e, T.stay hb, I, b.trans (hb.mono b.size), Nat.le_trans z hb.size, z2, R.stay hb, a1, a2, fun j o hj => ⟨(a3 j o hj).1, (a3 j o hj).2.1, (hb.block j (Array.getElem?_eq_some_iff.1 (a3 j o hj).2.2).1).trans (a3 j o hj).2.2⟩⟩
theorem Tri.went {w0 : World} {h : H} {t' : T} {n' : Nat} (e : h.tb = tb) (T : Tb wr B h t) (b : Below w.heap.size w wr) (z : B ≤ wr.heap.size) (z2 : w.heap.size ≤ B) (R : RT wr B lv ev u) (a1 : ∀ k, lv.ownBlock = some k → ¬ Mine h t k) (a2 : ∀ k, ev.ownBlock = some k → ¬ Mine h t k)
    (a3 : ∀ j o, K j o → ¬ Mine h t j ∧ w.heap.size ≤ j ∧ wr.heap[j]? = some o) (c : Chg wr B h t t' w0) (I : Inv n' t') : Tri w B tb n' t' u lv ev K w0 := by
  obtain ⟨h2, e2, T2, G2⟩ := c
  refine ⟨h2, e2.trans e, T2, I, b.trans ((G2.below T z).mono z2), Nat.le_trans z G2.fr.size, z2, ⟨own_keep R.l fun k hk => G2.fr.block k (R.l.lt k hk).2 (a1 k hk), own_keep R.e fun k hk => G2.fr.block k (R.e.lt k hk).2 (a2 k hk)⟩, fun k hk hm => ?_, fun k hk hm => ?_, fun j o hj => ⟨fun hm => ?_, (a3 j o hj).2.1, (G2.fr.block j (Array.getElem?_eq_some_iff.1 (a3 j o hj).2.2).1 (a3 j o hj).1).trans (a3 j o hj).2.2⟩⟩
  · rcases G2.grew k hm with h | h
    · exact a1 k hk h
    · have := (R.l.lt k hk).2; omega
  · rcases G2.grew k hm with h | h
    · exact a2 k hk h
    · have := (R.e.lt k hk).2; omega
  · rcases G2.grew j hm with h | h
    · exact (a3 j o hj).1 h
    · have := (Array.getElem?_eq_some_iff.1 (a3 j o hj).2.2).1; omega
theorem Tri.ref (N : Tri w B tb n t u lv ev K wr) {u' : T} {lv' ev' : Value} {w' : World} (c : RCh wr B lv ev u' lv' ev' w') : Tri w B tb n t u' lv' ev' K w' := by
  obtain ⟨h, e, T, I, b, z, z2, R, a1, a2, a3⟩ := N
  refine ⟨h, e, T.stay c.below, I, b.trans (c.below.mono b.size), Nat.le_trans z c.below.size, z2, c.rt, fun k hk hm => ?_, fun k hk hm => ?_, fun j o hj => ⟨(a3 j o hj).1, (a3 j o hj).2.1, (c.below.block j (Array.getElem?_eq_some_iff.1 (a3 j o hj).2.2).1).trans (a3 j o hj).2.2⟩⟩
  · rcases c.l k hk with h | h
    · exact a1 k h hm
    · have := (T.lt k hm).2; omega
  · rcases c.e k hk with h | h
    · exact a2 k h hm
    · have := (T.lt k hm).2; omega
/-- The law's variable takes another table. -/
theorem Tri.set {g g2 : Nat} {o2 : Obj} {a0 b0 c0 : Value} (N : Tri w B tb n t u lv ev (Duo g (.cells #[a0, b0, c0] 31 (0, 0)) g2 o2) wr) (hne : g2 ≠ g) (x y v : Value) :
    Tri w B tb n t u lv ev (Duo g (.cells #[x, y, v] 31 (0, 0)) g2 o2) (((wr.setCell ⟨g, 0, none⟩ x).setCell ⟨g, 1, none⟩ y).setCell ⟨g, 2, none⟩ v) := by
  obtain ⟨h, e, T, I, b, z, z2, R, a1, a2, a3⟩ := N
  have hg := (a3 g _ (.inl ⟨rfl, rfl⟩)).2.2
  have zg := (a3 g _ (.inl ⟨rfl, rfl⟩)).2.1
  have hot : ∀ k, k ≠ g → (((wr.setCell ⟨g, 0, none⟩ x).setCell ⟨g, 1, none⟩ y).setCell ⟨g, 2, none⟩ v).heap[k]? = wr.heap[k]? := fun k hk => by
    rw [Below.heap_setCell _ ⟨g, 2, none⟩ v k hk, Below.heap_setCell _ ⟨g, 1, none⟩ y k hk, Below.heap_setCell _ ⟨g, 0, none⟩ x k hk]
  have n1 := own_ne R.l hg (by decide)
  have n2 := own_ne R.e hg (by decide)
  refine ⟨h, e, T.stays fun k hk => hot k fun e => (a3 g _ (.inl ⟨rfl, rfl⟩)).1 (e ▸ hk), I, below_set (below_set (below_set b zg _) zg _) zg _, ?_, z2, ⟨own_keep R.l fun k hk => hot k (n1 k hk), own_keep R.e fun k hk => hot k (n2 k hk)⟩, a1, a2, ?_⟩
  · simpa using z
  · rintro j o (⟨rfl, rfl⟩ | ⟨rfl, rfl⟩)
    · exact ⟨(a3 j _ (.inl ⟨rfl, rfl⟩)).1, zg, put3 hg x y v⟩
    · have h2 := a3 j o (.inr ⟨rfl, rfl⟩)
      exact ⟨h2.1, h2.2.1, (hot j hne).trans h2.2.2⟩
/-- A variable more. -/
theorem Tri.act {g : Nat} {o : Obj} (N : Tri w B tb n t u lv ev (One g o) wr) (p : Obj) : Tri w B tb n t u lv ev (Duo g o wr.heap.size p) (wr.alloc p) := by
  have hb := below_alloc wr p
  have M := N.more hb
  obtain ⟨h, e, T, I, b, z, z2, R, a1, a2, a3⟩ := N
  obtain ⟨h', e', T', I', b', z', z2', R', a1', a2', a3'⟩ := M
  refine ⟨h, e, T.stay hb, I, b', z', z2', R', a1, a2, ?_⟩
  rintro j q (⟨rfl, rfl⟩ | ⟨rfl, rfl⟩)
  · have h2 := a3 j q ⟨rfl, rfl⟩
    exact ⟨h2.1, h2.2.1, (a3' j q ⟨rfl, rfl⟩).2.2⟩
  · exact ⟨fun hm => Nat.lt_irrefl _ (T.lt _ hm).2, b.size, heap_alloc_new wr q⟩
theorem Tri.one {g g2 : Nat} {o o2 : Obj} (N : Tri w B tb n t u lv ev (Duo g o g2 o2) wr) : Tri w B tb n t u lv ev (One g o) wr := by
  obtain ⟨h, e, T, I, b, z, z2, R, a1, a2, a3⟩ := N
  exact ⟨h, e, T, I, b, z, z2, R, a1, a2, fun j q hj => a3 j q (.inl hj)⟩
theorem Tri.up (N : Tri w B tb n t u lv ev K wr) : Tri w B tb (n + 1) t u lv ev K wr := by
  obtain ⟨h, e, T, I, r⟩ := N
  exact ⟨h, e, T, I.more, r⟩
theorem Tri.fork (N : Tri w B tb n t u lv ev K wr) (hn : n ≤ 100000) (pid : Int) (hp : I64 pid) :
    Calls Try.prog 10 #[.pointer (some ⟨tb, 0, none⟩), .int .i64 pid] wr fun e w' => e = .returned (.tuple #[.int .i64 (fork t pid).2.1, .int .i64 (fork t pid).2.2]) ∧ Tri w B tb (n + 1) ((fork t pid).1) u lv ev K w' := by
  obtain ⟨h, e, T, I, b, z, z2, R, a1, a2, a3⟩ := N
  subst e
  refine (fork_any T I.ok I.sets I.pos (by have := I.last; omega) z pid hp).mono ?_
  rintro e w' ⟨rfl, c⟩
  exact ⟨rfl, Tri.went rfl T b z z2 R a1 a2 a3 c (I.fork pid)⟩
theorem Tri.exit (N : Tri w B tb n t u lv ev K wr) (hn : n ≤ 100000) (pid st : Int) (hp : I64 pid) (hs : I64 st) :
    Calls Try.prog 14 #[.pointer (some ⟨tb, 0, none⟩), .int .i64 pid, .int .i64 st] wr fun e w' => e = .returned (.bool (exit t pid st).2) ∧ Tri w B tb (n + 1) ((exit t pid st).1) u lv ev K w' := by
  obtain ⟨h, e, T, I, b, z, z2, R, a1, a2, a3⟩ := N
  subst e
  refine (exit_any T I.ok I.par (by have := I.last; omega) z (by have := I.ends; omega) pid st hp hs).mono ?_
  rintro e w' ⟨rfl, c⟩
  exact ⟨rfl, Tri.went rfl T b z z2 R a1 a2 a3 c (I.exit pid st)⟩
theorem Tri.send (N : Tri w B tb n t u lv ev K wr) (hn : n ≤ 100000) (pid s : Int) (hp : I64 pid) :
    Calls Try.prog 12 #[.pointer (some ⟨tb, 0, none⟩), .int .i64 pid, .int .i64 s] wr fun e w' => e = .returned (.bool (send Sig.mildB t pid s).2) ∧ Tri w B tb (n + 1) ((send Sig.mildB t pid s).1) u lv ev K w' := by
  obtain ⟨h, e, T, I, b, z, z2, R, a1, a2, a3⟩ := N
  subst e
  refine (send_any T I.ok I.par I.sets (by have := I.last; omega) z (by have := I.ends; omega) pid s hp).mono ?_
  rintro e w' ⟨rfl, c⟩
  exact ⟨rfl, Tri.went rfl T b z z2 R a1 a2 a3 c (I.send pid s)⟩
theorem Tri.reap (N : Tri w B tb n t u lv ev K wr) (par pid : Int) (hp : I64 par) (hp2 : I64 pid) :
    Calls Try.prog 16 #[.pointer (some ⟨tb, 0, none⟩), .int .i64 par, .int .i64 pid] wr fun e w' => e = .returned (.tuple #[.int .i64 (reap t par pid).2.1, .bool (reap t par pid).2.2]) ∧ Tri w B tb (n + 1) ((reap t par pid).1) u lv ev K w' := by
  obtain ⟨h, e, T, I, b, z, z2, R, a1, a2, a3⟩ := N
  subst e
  refine (reap_any T I.ok par pid hp hp2).mono ?_
  rintro e w' ⟨rfl, c⟩
  exact ⟨rfl, Tri.went rfl T b z z2 R a1 a2 a3 c (I.reap par pid)⟩
theorem Tri.put (N : Tri w B tb n t u lv ev K wr) (pid s k : Int) (hp : I64 pid) :
    Calls Try.prog 18 #[.pointer (some ⟨tb, 0, none⟩), .int .i64 pid, .int .i64 s, .int .i64 k] wr fun e w' => e = .returned (.bool (putS Sig.fixedB t pid s k).2) ∧ Tri w B tb (n + 1) ((putS Sig.fixedB t pid s k).1) u lv ev K w' := by
  obtain ⟨h, e, T, I, b, z, z2, R, a1, a2, a3⟩ := N
  subst e
  refine (put_any T I.ok I.sets I.sub pid s k hp).mono ?_
  rintro e w' ⟨rfl, c⟩
  exact ⟨rfl, Tri.went rfl T b z z2 R a1 a2 a3 c (I.putS pid s k)⟩
theorem Tri.take (N : Tri w B tb n t u lv ev K wr) (pid s : Int) (hp : I64 pid) :
    Calls Try.prog 20 #[.pointer (some ⟨tb, 0, none⟩), .int .i64 pid, .int .i64 s] wr fun e w' => e = .returned (.bool (take t pid s).2) ∧ Tri w B tb (n + 1) ((take t pid s).1) u lv ev K w' := by
  obtain ⟨h, e, T, I, b, z, z2, R, a1, a2, a3⟩ := N
  subst e
  refine (take_any T I.ok I.sets pid s hp).mono ?_
  rintro e w' ⟨rfl, c⟩
  exact ⟨rfl, Tri.went rfl T b z z2 R a1 a2 a3 c (I.take pid s)⟩
/-- The law's variable is laid. -/
theorem Two.tri {g : Nat} {o : Obj} (N : Two w B tb n t u lv ev wr) {w' : World} (hb : Below wr.heap.size wr w') (hg : wr.heap.size ≤ g) (hx : w'.heap[g]? = some o) : Tri w B tb n t u lv ev (One g o) w' := by
  obtain ⟨h, e, T, I, b, z, z2, R, a1, a2⟩ := N
  refine ⟨h, e, T.stay hb, I, b.trans (hb.mono b.size), Nat.le_trans z hb.size, z2, R.stay hb, a1, a2, ?_⟩
  rintro j q ⟨rfl, rfl⟩
  exact ⟨fun hm => by have := (T.lt _ hm).2; omega, Nat.le_trans b.size hg, hx⟩
end
/-- An act. -/
structure Ac where
  kind : Int
  pid : Int
  ot : Int
  s : Int
  st : Int
  how : Int
def Acts (w : World) (a : Option Addr) (l : List Ac) : Prop :=
  ∀ (j : Nat) (x : Ac), l[j]? = some x → ∃ b off, a = some ⟨b, off, none⟩ ∧ b < w.heap.size ∧ w.cell? ⟨b, off + 6 * j, none⟩ = some (.int .i64 x.kind) ∧ w.cell? ⟨b, off + 6 * j + 1, none⟩ = some (.int .i64 x.pid) ∧ w.cell? ⟨b, off + 6 * j + 2, none⟩ = some (.int .i64 x.ot) ∧
    w.cell? ⟨b, off + 6 * j + 3, none⟩ = some (.int .i64 x.s) ∧ w.cell? ⟨b, off + 6 * j + 4, none⟩ = some (.int .i64 x.st) ∧ w.cell? ⟨b, off + 6 * j + 5, none⟩ = some (.int .i64 x.how) ∧ I64 x.pid ∧ I64 x.ot ∧ I64 x.st
end Kn
end Go.Proofs.Ytlebglnlkkoakaa
