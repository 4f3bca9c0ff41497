/- Both tables on their way through the law: the program's and the document's. -/
import Derived.Test.YtlebglnlkkoakaaKrL
import Derived.Test.YtlebglnlkkoakaaKrI
namespace Go.Proofs.Ytlebglnlkkoakaa
open Go.RowKit Go.Maps
namespace Kn
theorem own_keep {w w' : World} {B : Nat} {e : TypeId} {size n : Nat} {v : Value} {xs : List Value} (h : w.ownsRow B e size v n xs) (hb : ∀ k, v.ownBlock = some k → w'.heap[k]? = w.heap[k]?) : w'.ownsRow B e size v n xs := by
  obtain ⟨h1, h2⟩ := h
  refine ⟨h1, ?_⟩
  rcases h2 with h2 | ⟨g, cap, cur, hv, hg, hh, r⟩
  · exact .inl h2
  · exact .inr ⟨g, cap, cur, hv, hg, (hb _ (by rw [hv]; rfl)).trans hh, r⟩
def Two (w : World) (B tb n : Nat) (t u : T) (lv ev : Value) (wr : World) : Prop :=
  ∃ h, h.tb = tb ∧ Tb wr B h t ∧ Inv n t ∧ Below w.heap.size w wr ∧ B ≤ wr.heap.size ∧ w.heap.size ≤ B ∧ RT wr B lv ev u ∧ (∀ k, lv.ownBlock = some k → ¬ Mine h t k) ∧ ∀ k, ev.ownBlock = some k → ¬ Mine h t k
section
variable {w wr : World} {B tb n : Nat} {t u : T} {lv ev : Value}
theorem Two.now (N : Two w B tb n t u lv ev wr) : Now w B tb n t wr := by obtain ⟨h, e, T, I, b, z, z2, _⟩ := N; exact ⟨h, e, T, I, b, z, z2⟩
theorem Two.rt (N : Two w B tb n t u lv ev wr) : RT wr B lv ev u := by obtain ⟨_, _, _, _, _, _, _, R, _⟩ := N; exact R
theorem Two.size (N : Two w B tb n t u lv ev wr) : B ≤ wr.heap.size := by obtain ⟨_, _, _, _, _, z, _⟩ := N; exact z
theorem Two.inv (N : Two w B tb n t u lv ev wr) : Inv n t := N.now.inv
theorem Two.below (N : Two w B tb n t u lv ev wr) : Below w.heap.size w wr := N.now.below
theorem Two.more (N : Two w B tb n t u lv ev wr) {w' : World} (hb : Below wr.heap.size wr w') : Two w B tb n t u lv ev w' := by
  obtain ⟨h, e, T, I, b, z, z2, R, a⟩ := N
  exact ⟨h, e, T.stay hb, I, b.trans (hb.mono b.size), Nat.le_trans z hb.size, z2, R.stay hb, a⟩
theorem Two.went {w0 : World} {h : H} {t' : T} {n' : Nat} (e : h.tb = tb) (T : Tb wr B h t) (b : Below w.heap.size w wr) (z : B ≤ wr.heap.size) (z2 : w.heap.size ≤ B) (R : RT wr B lv ev u) (a1 : ∀ k, lv.ownBlock = some k → ¬ Mine h t k) (a2 : ∀ k, ev.ownBlock = some k → ¬ Mine h t k)
    (c : Chg wr B h t t' w0) (I : Inv n' t') : Two w B tb n' t' u lv ev w0 := by
  obtain ⟨h2, e2, T2, G2⟩ := c
  refine ⟨h2, e2.trans e, T2, I, b.trans ((G2.below T z).mono z2), Nat.le_trans z G2.fr.size, z2, ⟨own_keep R.l fun k hk => G2.fr.block k (R.l.lt k hk).2 (a1 k hk), own_keep R.e fun k hk => G2.fr.block k (R.e.lt k hk).2 (a2 k hk)⟩, fun k hk hm => ?_, fun k hk hm => ?_⟩
  · rcases G2.grew k hm with h | h
    · exact a1 k hk h
    · have := (R.l.lt k hk).2; omega
  · rcases G2.grew k hm with h | h
    · exact a2 k hk h
    · have := (R.e.lt k hk).2; omega
theorem Two.ref (N : Two w B tb n t u lv ev wr) {u' : T} {lv' ev' : Value} {w' : World} (c : RCh wr B lv ev u' lv' ev' w') : Two w B tb n t u' lv' ev' w' := by
  obtain ⟨h, e, T, I, b, z, z2, R, a1, a2⟩ := N
  refine ⟨h, e, T.stay c.below, I, b.trans (c.below.mono b.size), Nat.le_trans z c.below.size, z2, c.rt, fun k hk hm => ?_, fun k hk hm => ?_⟩
  · rcases c.l k hk with h | h
    · exact a1 k h hm
    · have := (T.lt k hm).2; omega
  · rcases c.e k hk with h | h
    · exact a2 k h hm
    · have := (T.lt k hm).2; omega
theorem Two.fork (N : Two w B tb n t u lv ev wr) (hn : n ≤ 100000) (pid : Int) (hp : I64 pid) :
    Calls Try.prog 10 #[.pointer (some ⟨tb, 0, none⟩), .int .i64 pid] wr fun e w' => e = .returned (.tuple #[.int .i64 (fork t pid).2.1, .int .i64 (fork t pid).2.2]) ∧ Two w B tb (n + 1) ((fork t pid).1) u lv ev w' := by
  obtain ⟨h, e, T, I, b, z, z2, R, a1, a2⟩ := N
  subst e
  refine (fork_any T I.ok I.sets I.pos (by have := I.last; omega) z pid hp).mono ?_
  rintro e w' ⟨rfl, c⟩
  exact ⟨rfl, Two.went rfl T b z z2 R a1 a2 c (I.fork pid)⟩
theorem Two.exit (N : Two w B tb n t u lv ev wr) (hn : n ≤ 100000) (pid st : Int) (hp : I64 pid) (hs : I64 st) :
    Calls Try.prog 14 #[.pointer (some ⟨tb, 0, none⟩), .int .i64 pid, .int .i64 st] wr fun e w' => e = .returned (.bool (exit t pid st).2) ∧ Two w B tb (n + 1) ((exit t pid st).1) u lv ev w' := by
  obtain ⟨h, e, T, I, b, z, z2, R, a1, a2⟩ := N
  subst e
  refine (exit_any T I.ok I.par (by have := I.last; omega) z (by have := I.ends; omega) pid st hp hs).mono ?_
  rintro e w' ⟨rfl, c⟩
  exact ⟨rfl, Two.went rfl T b z z2 R a1 a2 c (I.exit pid st)⟩
theorem Two.send (N : Two w B tb n t u lv ev wr) (hn : n ≤ 100000) (pid s : Int) (hp : I64 pid) :
    Calls Try.prog 12 #[.pointer (some ⟨tb, 0, none⟩), .int .i64 pid, .int .i64 s] wr fun e w' => e = .returned (.bool (send Sig.mildB t pid s).2) ∧ Two w B tb (n + 1) ((send Sig.mildB t pid s).1) u lv ev w' := by
  obtain ⟨h, e, T, I, b, z, z2, R, a1, a2⟩ := N
  subst e
  refine (send_any T I.ok I.par I.sets (by have := I.last; omega) z (by have := I.ends; omega) pid s hp).mono ?_
  rintro e w' ⟨rfl, c⟩
  exact ⟨rfl, Two.went rfl T b z z2 R a1 a2 c (I.send pid s)⟩
theorem Two.reap (N : Two w B tb n t u lv ev wr) (par pid : Int) (hp : I64 par) (hp2 : I64 pid) :
    Calls Try.prog 16 #[.pointer (some ⟨tb, 0, none⟩), .int .i64 par, .int .i64 pid] wr fun e w' => e = .returned (.tuple #[.int .i64 (reap t par pid).2.1, .bool (reap t par pid).2.2]) ∧ Two w B tb (n + 1) ((reap t par pid).1) u lv ev w' := by
  obtain ⟨h, e, T, I, b, z, z2, R, a1, a2⟩ := N
  subst e
  refine (reap_any T I.ok par pid hp hp2).mono ?_
  rintro e w' ⟨rfl, c⟩
  exact ⟨rfl, Two.went rfl T b z z2 R a1 a2 c (I.reap par pid)⟩
theorem Two.put (N : Two w B tb n t u lv ev wr) (pid s k : Int) (hp : I64 pid) :
    Calls Try.prog 18 #[.pointer (some ⟨tb, 0, none⟩), .int .i64 pid, .int .i64 s, .int .i64 k] wr fun e w' => e = .returned (.bool (putS Sig.fixedB t pid s k).2) ∧ Two w B tb (n + 1) ((putS Sig.fixedB t pid s k).1) u lv ev w' := by
  obtain ⟨h, e, T, I, b, z, z2, R, a1, a2⟩ := N
  subst e
  refine (put_any T I.ok I.sets I.sub pid s k hp).mono ?_
  rintro e w' ⟨rfl, c⟩
  exact ⟨rfl, Two.went rfl T b z z2 R a1 a2 c (I.putS pid s k)⟩
theorem Two.take (N : Two w B tb n t u lv ev wr) (pid s : Int) (hp : I64 pid) :
    Calls Try.prog 20 #[.pointer (some ⟨tb, 0, none⟩), .int .i64 pid, .int .i64 s] wr fun e w' => e = .returned (.bool (take t pid s).2) ∧ Two w B tb (n + 1) ((take t pid s).1) u lv ev w' := by
  obtain ⟨h, e, T, I, b, z, z2, R, a1, a2⟩ := N
  subst e
  refine (take_any T I.ok I.sets pid s hp).mono ?_
  rintro e w' ⟨rfl, c⟩
  exact ⟨rfl, Two.went rfl T b z z2 R a1 a2 c (I.take pid s)⟩
theorem Two.new (N : Now w B tb n t wr) {w' : World} (R : RT w' wr.heap.size lv ev u) (hb : Below wr.heap.size wr w') : Two w B tb n t u lv ev w' := by
  obtain ⟨h, e, T, I, b, z, z2⟩ := N
  refine ⟨h, e, T.stay hb, I, b.trans (hb.mono b.size), Nat.le_trans z hb.size, z2, ⟨own_low R.l z, own_low R.e z⟩, fun k hk hm => ?_, fun k hk hm => ?_⟩
  · have := (T.lt k hm).2; have := (R.l.lt k hk).1; omega
  · have := (T.lt k hm).2; have := (R.e.lt k hk).1; omega
theorem AlL.mem : ∀ {l m : List P}, AlL l m → ∀ q ∈ m, ∃ p ∈ l, Al p q
  | [], [], _, _, h => by cases h
  | p :: r, q :: s, h, x, hx => by
    rcases List.mem_cons.1 hx with rfl | hx
    · exact ⟨p, List.mem_cons_self .., h.1⟩
    · obtain ⟨y, hy, a⟩ := AlL.mem h.2 x hx
      exact ⟨y, List.mem_cons_of_mem _ hy, a⟩
  | [], _ :: _, h, _, _ => h.elim
  | _ :: _, [], h, _, _ => h.elim
theorem Two.i64 (N : Two w B tb n t u lv ev wr) (S : Sim t u) (hn : n ≤ 100000) {q : P} (hq : q ∈ u.l) : I64 q.pid ∧ I64 q.par := by
  obtain ⟨p, hp, a⟩ := S.l.mem q hq
  have h1 := N.inv.par p hp
  have h2 := N.inv.ok.pos p hp
  have h3 := N.inv.last
  have e1 := a.pid
  have e2 := a.par
  unfold I64
  omega
end
end Kn
end Go.Proofs.Ytlebglnlkkoakaa
