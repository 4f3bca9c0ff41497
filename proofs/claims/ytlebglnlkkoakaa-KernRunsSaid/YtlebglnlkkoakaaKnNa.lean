/- A table on its way through a law: each call of it. -/
import Derived.Test.YtlebglnlkkoakaaKnN
namespace Go.Proofs.Ytlebglnlkkoakaa
open Go.RowKit Go.Maps
namespace Kn
def Now (w : World) (B tb n : Nat) (t : T) (wr : World) : Prop := ∃ h, h.tb = tb ∧ Tb wr B h t ∧ Inv n t ∧ Below w.heap.size w wr ∧ B ≤ wr.heap.size ∧ w.heap.size ≤ B
section
variable {w wr : World} {B tb n : Nat} {t : T}
theorem Now.inv (N : Now w B tb n t wr) : Inv n t := by obtain ⟨h, _, _, I, _⟩ := N; exact I
theorem Now.below (N : Now w B tb n t wr) : Below w.heap.size w wr := by obtain ⟨h, _, _, _, b, _⟩ := N; exact b
theorem Now.more (N : Now w B tb n t wr) {w' : World} (hb : Below wr.heap.size wr w') : Now w B tb n t w' := by
  obtain ⟨h, e, T, I, b, z, z2⟩ := N
  exact ⟨h, e, T.stay hb, I, b.trans (hb.mono b.size), Nat.le_trans z hb.size, z2⟩
theorem Now.went {w0 : World} {h : H} {t' : T} {n' : Nat} (e : h.tb = tb) (T : Tb wr B h t) (b : Below w.heap.size w wr) (z : B ≤ wr.heap.size) (z2 : w.heap.size ≤ B) (c : Chg wr B h t t' w0) (I : Inv n' t') : Now w B tb n' t' w0 := by
  obtain ⟨h2, e2, T2, G2⟩ := c
  exact ⟨h2, e2.trans e, T2, I, b.trans ((G2.below T z).mono z2), Nat.le_trans z G2.fr.size, z2⟩
theorem Now.fork (N : Now w B tb n t wr) (hn : n ≤ 100000) (pid : Int) (hp : I64 pid) :
    Calls Try.prog 10 #[.pointer (some ⟨tb, 0, none⟩), .int .i64 pid] wr fun e w' => e = .returned (.tuple #[.int .i64 (fork t pid).2.1, .int .i64 (fork t pid).2.2]) ∧ Now w B tb (n + 1) (fork t pid).1 w' := by
  obtain ⟨h, e, T, I, b, z, z2⟩ := N
  subst e
  refine (fork_any T I.ok I.sets I.pos (by have := I.last; omega) z pid hp).mono ?_
  rintro e w' ⟨rfl, c⟩
  exact ⟨rfl, Now.went rfl T b z z2 c (I.fork pid)⟩
theorem Now.exit (N : Now w B tb n t wr) (hn : n ≤ 100000) (pid st : Int) (hp : I64 pid) (hs : I64 st) :
    Calls Try.prog 14 #[.pointer (some ⟨tb, 0, none⟩), .int .i64 pid, .int .i64 st] wr fun e w' => e = .returned (.bool (exit t pid st).2) ∧ Now w B tb (n + 1) (exit t pid st).1 w' := by
  obtain ⟨h, e, T, I, b, z, z2⟩ := N
  subst e
  refine (exit_any T I.ok I.par (by have := I.last; omega) z (by have := I.ends; omega) pid st hp hs).mono ?_
  rintro e w' ⟨rfl, c⟩
  exact ⟨rfl, Now.went rfl T b z z2 c (I.exit pid st)⟩
theorem Now.send (N : Now w B tb n t wr) (hn : n ≤ 100000) (pid s : Int) (hp : I64 pid) :
    Calls Try.prog 12 #[.pointer (some ⟨tb, 0, none⟩), .int .i64 pid, .int .i64 s] wr fun e w' => e = .returned (.bool (send Sig.mildB t pid s).2) ∧ Now w B tb (n + 1) (send Sig.mildB t pid s).1 w' := by
  obtain ⟨h, e, T, I, b, z, z2⟩ := N
  subst e
  refine (send_any T I.ok I.par I.sets (by have := I.last; omega) z (by have := I.ends; omega) pid s hp).mono ?_
  rintro e w' ⟨rfl, c⟩
  exact ⟨rfl, Now.went rfl T b z z2 c (I.send pid s)⟩
theorem Now.reap (N : Now w B tb n t wr) (par pid : Int) (hp : I64 par) (hp2 : I64 pid) :
    Calls Try.prog 16 #[.pointer (some ⟨tb, 0, none⟩), .int .i64 par, .int .i64 pid] wr fun e w' => e = .returned (.tuple #[.int .i64 (reap t par pid).2.1, .bool (reap t par pid).2.2]) ∧ Now w B tb (n + 1) (reap t par pid).1 w' := by
  obtain ⟨h, e, T, I, b, z, z2⟩ := N
  subst e
  refine (reap_any T I.ok par pid hp hp2).mono ?_
  rintro e w' ⟨rfl, c⟩
  exact ⟨rfl, Now.went rfl T b z z2 c (I.reap par pid)⟩
theorem Now.put (N : Now w B tb n t wr) (pid s k : Int) (hp : I64 pid) :
    Calls Try.prog 18 #[.pointer (some ⟨tb, 0, none⟩), .int .i64 pid, .int .i64 s, .int .i64 k] wr fun e w' => e = .returned (.bool (putS Sig.fixedB t pid s k).2) ∧ Now w B tb (n + 1) (putS Sig.fixedB t pid s k).1 w' := by
  obtain ⟨h, e, T, I, b, z, z2⟩ := N
  subst e
  refine (put_any T I.ok I.sets I.sub pid s k hp).mono ?_
  rintro e w' ⟨rfl, c⟩
  exact ⟨rfl, Now.went rfl T b z z2 c (I.putS pid s k)⟩
theorem Now.take (N : Now w B tb n t wr) (pid s : Int) (hp : I64 pid) :
    Calls Try.prog 20 #[.pointer (some ⟨tb, 0, none⟩), .int .i64 pid, .int .i64 s] wr fun e w' => e = .returned (.bool (take t pid s).2) ∧ Now w B tb (n + 1) (take t pid s).1 w' := by
  obtain ⟨h, e, T, I, b, z, z2⟩ := N
  subst e
  refine (take_any T I.ok I.sets pid s hp).mono ?_
  rintro e w' ⟨rfl, c⟩
  exact ⟨rfl, Now.went rfl T b z z2 c (I.take pid s)⟩
theorem Now.len (N : Now w B tb n t wr) : Calls Try.prog 30 #[.pointer (some ⟨tb, 0, none⟩)] wr fun e w' => e = .returned (.int .i64 t.l.length) ∧ w' = wr := by
  obtain ⟨h, e, T, _⟩ := N; subst e; exact len_any T
theorem Now.live (N : Now w B tb n t wr) (pid : Int) (hp : I64 pid) : Calls Try.prog 22 #[.pointer (some ⟨tb, 0, none⟩), .int .i64 pid] wr fun e w' => e = .returned (.bool (live t pid)) ∧ w' = wr := by
  obtain ⟨h, e, T, _⟩ := N; subst e; exact live_any T pid hp
theorem Now.child (N : Now w B tb n t wr) (par pid : Int) (hq : I64 par) (hp : I64 pid) : Calls Try.prog 26 #[.pointer (some ⟨tb, 0, none⟩), .int .i64 par, .int .i64 pid] wr fun e w' => e = .returned (.bool (child t par pid)) ∧ w' = wr := by
  obtain ⟨h, e, T, _⟩ := N; subst e; exact child_any T par pid hq hp
theorem Now.how (N : Now w B tb n t wr) (pid s : Int) (hp : I64 pid) : Calls Try.prog 24 #[.pointer (some ⟨tb, 0, none⟩), .int .i64 pid, .int .i64 s] wr fun e w' => e = .returned (.int .i64 (how t pid s)) ∧ w' = wr := by
  obtain ⟨h, e, T, I, _⟩ := N; subst e; exact how_any T I.sets pid s hp
theorem Now.pending (N : Now w B tb n t wr) (pid : Int) (hp : I64 pid) : Calls Try.prog 28 #[.pointer (some ⟨tb, 0, none⟩), .int .i64 pid] wr fun e w' => e = .returned (.int .u32 (pending t pid : Nat)) ∧ w' = wr := by
  obtain ⟨h, e, T, _⟩ := N; subst e; exact pending_any T pid hp
theorem Now.procs (N : Now w B tb n t wr) : Calls Try.prog 42 #[.pointer (some ⟨tb, 0, none⟩)] wr fun e w' => ∃ v, e = .returned v ∧ w'.ownsRow wr.heap.size 3 1 v (suchL t (Kn.live t)).length ((suchL t (Kn.live t)).map (Value.int .i64)) ∧ Below wr.heap.size wr w' := by
  obtain ⟨h, e, T, I, _⟩ := N; subst e; exact procs_any T I.ok
theorem Now.children (N : Now w B tb n t wr) (par : Int) (hp : I64 par) : Calls Try.prog 32 #[.pointer (some ⟨tb, 0, none⟩), .int .i64 par] wr fun e w' => ∃ v, e = .returned v ∧ w'.ownsRow wr.heap.size 3 1 v (suchL t (Kn.child t par)).length ((suchL t (Kn.child t par)).map (Value.int .i64)) ∧ Below wr.heap.size wr w' := by
  obtain ⟨h, e, T, I, _⟩ := N; subst e; exact children_any T I.ok par hp
theorem Now.ends (N : Now w B tb n t wr) (hn : n ≤ 100000) : Calls Try.prog 31 #[.pointer (some ⟨tb, 0, none⟩)] wr fun e w' => ∃ v, e = .returned v ∧ w'.ownsRow wr.heap.size 87 2 v t.ends.length (ecells t.ends) ∧ Below wr.heap.size wr w' := by
  obtain ⟨h, e, T, I, _⟩ := N; subst e; exact ends_any T (by have := I.ends; omega)
end
theorem now_new (x : Nat) (hx : x < 4294967296) (w w1 : World) (hb : Below w.heap.size w w1) :
    Calls Try.prog 7 #[.int .u32 x] w1 fun e w' => ∃ tb, e = .returned (.pointer (some ⟨tb, 0, none⟩)) ∧ Now w w1.heap.size tb 0 (newT x) w' := by
  refine (new_any x hx w1).mono ?_
  rintro e w' ⟨h, rfl, T, hb2⟩
  exact ⟨h.tb, rfl, h, rfl, T, inv_new hx, hb.trans (hb2.mono hb.size), hb2.size, hb.size⟩
end Kn
end Go.Proofs.Ytlebglnlkkoakaa
