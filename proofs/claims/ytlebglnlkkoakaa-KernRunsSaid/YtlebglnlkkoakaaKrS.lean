/- Pure: the reference's tables, in which who has ended keeps his sets: they tell the same. -/
import Derived.Test.YtlebglnlkkoakaaKnP
namespace Go.Proofs.Ytlebglnlkkoakaa
namespace Kn
/-- What an end leaves of a process, in the reference. -/
def leftR (t : T) (pid st par : Int) (p : P) : Option P :=
  if p.pid = pid then (if live t par then some { p with live := false, st := st } else none)
  else if p.par = pid then (if p.live then some { p with par := 0 } else none) else some p
def exitR (t : T) (pid st : Int) : T × Bool :=
  match find t pid with
  | none => (t, false)
  | some p => if p.live = false then (t, false) else
    ({ t with l := t.l.filterMap (leftR t pid (st % 256) p.par), ends := t.ends ++ [(pid, st % 256)] }, true)
def sendR (t : T) (pid s : Int) : T × Bool :=
  if live t pid = false ∨ isS s = false then (t, false)
  else if how t pid s = 2 then (put t pid fun p => { p with pe := add p.pe s }, true)
  else if how t pid s = 0 ∧ Sig.mildB s = false then exitR t pid (128 + s)
  else (t, true)
/-- The set that the reference begins with. -/
def tightL (l : List Int) (y : Nat) : Nat := l.foldl (fun y s => if Sig.fixedB s then y else add y s) y
def tightN (x : Nat) : Nat := tightL (Sig.listN x 31) 0
def newR (x : Nat) : T := ⟨[⟨1, 0, 0, true, tightN x, 0, 0⟩], 1, []⟩
theorem tightL_lt : ∀ (l : List Int) {y : Nat}, y < 4294967296 → tightL l y < 4294967296
  | [], _, h => h
  | a :: r, y, h => by
    show tightL r (if Sig.fixedB a then y else add y a) < _
    refine tightL_lt r ?_
    split
    · exact h
    · exact add_lt h a
theorem has_tightL (s : Int) : ∀ (l : List Int) (y : Nat), has (tightL l y) s = (has y s || l.any fun j => !Sig.fixedB j && Sig.isB j && decide (j = s))
  | [], y => by simp [tightL]
  | a :: r, y => by
    show has (tightL r (if Sig.fixedB a then y else add y a)) s = _
    rw [has_tightL s r, List.any_cons]
    cases hf : Sig.fixedB a
    · simp only [Bool.false_eq_true, if_false, Bool.not_false, Bool.true_and]
      rw [has_add, Bool.or_assoc]
    · simp
theorem has_tightN {x : Nat} (s : Int) : has (tightN x) s = (has x s && !Sig.fixedB s) := by
  unfold tightN
  rw [has_tightL, has_zero, Bool.false_or, Bool.eq_iff_iff, List.any_eq_true]
  constructor
  · rintro ⟨j, hj, h⟩
    simp only [Bool.and_eq_true, decide_eq_true_eq, Bool.not_eq_true'] at h
    have := mem_listN.1 hj
    rw [h.2] at this h
    simp only [Bool.and_eq_true, Bool.not_eq_true']
    exact ⟨this, h.1.1⟩
  · intro h
    simp only [Bool.and_eq_true, Bool.not_eq_true'] at h
    have hs : Sig.isB s = true := by have h := h.1; unfold has Sig.hasB at h; simp only [Bool.and_eq_true] at h; exact h.1
    exact ⟨s, mem_listN.2 h.1, by simp [h.2, hs]⟩
/-- Two processes that tell the same. -/
structure Al (p q : P) : Prop where
  pid : p.pid = q.pid
  par : p.par = q.par
  st : p.st = q.st
  live : p.live = q.live
  ig : p.live = true → ∀ s, has p.ig s = has q.ig s
  ca : p.live = true → p.ca = q.ca
  pe : p.live = true → p.pe = q.pe
  b1 : p.ig < 4294967296 ∧ p.ca < 4294967296 ∧ p.pe < 4294967296
  b2 : q.ig < 4294967296 ∧ q.ca < 4294967296 ∧ q.pe < 4294967296
def AlO : Option P → Option P → Prop
  | none, none => True
  | some p, some q => Al p q
  | _, _ => False
def AlL : List P → List P → Prop
  | [], [] => True
  | p :: r, q :: s => Al p q ∧ AlL r s
  | _, _ => False
theorem AlL.len : ∀ {l m : List P}, AlL l m → l.length = m.length
  | [], [], _ => rfl
  | _ :: r, _ :: s, h => by simp [AlL.len (l := r) (m := s) h.2]
  | [], _ :: _, h => h.elim
  | _ :: _, [], h => h.elim
theorem AlL.filterMap {f g : P → Option P} (hfg : ∀ p q, Al p q → AlO (f p) (g q)) : ∀ {l m : List P}, AlL l m → AlL (l.filterMap f) (m.filterMap g)
  | [], [], _ => trivial
  | p :: r, q :: s, h => by
    have ih := AlL.filterMap hfg h.2
    have h1 := hfg p q h.1
    rw [List.filterMap_cons, List.filterMap_cons]
    cases hp : f p <;> cases hq : g q <;> rw [hp, hq] at h1
    · exact ih
    · exact h1.elim
    · exact h1.elim
    · exact ⟨h1, ih⟩
  | [], _ :: _, h => h.elim
  | _ :: _, [], h => h.elim
theorem AlL.map {f g : P → P} (hfg : ∀ p q, Al p q → Al (f p) (g q)) : ∀ {l m : List P}, AlL l m → AlL (l.map f) (m.map g)
  | [], [], _ => trivial
  | p :: r, q :: s, h => ⟨hfg p q h.1, AlL.map hfg h.2⟩
  | [], _ :: _, h => h.elim
  | _ :: _, [], h => h.elim
theorem AlL.filter {f g : P → Bool} (hfg : ∀ p q, Al p q → f p = g q) : ∀ {l m : List P}, AlL l m → AlL (l.filter f) (m.filter g)
  | [], [], _ => trivial
  | p :: r, q :: s, h => by
    have ih := AlL.filter hfg h.2
    have h1 := hfg p q h.1
    rw [List.filter_cons, List.filter_cons, h1]
    split
    · exact ⟨h.1, ih⟩
    · exact ih
  | [], _ :: _, h => h.elim
  | _ :: _, [], h => h.elim
theorem AlL.append : ∀ {l m a b : List P}, AlL l m → AlL a b → AlL (l ++ a) (m ++ b)
  | [], [], _, _, _, h => h
  | _ :: _, _ :: _, _, _, h, h2 => ⟨h.1, AlL.append h.2 h2⟩
  | [], _ :: _, _, _, h, _ => h.elim
  | _ :: _, [], _, _, h, _ => h.elim
theorem AlL.pids : ∀ {l m : List P}, AlL l m → l.map (·.pid) = m.map (·.pid)
  | [], [], _ => rfl
  | _ :: _, _ :: _, h => by simp [h.1.pid, AlL.pids h.2]
  | [], _ :: _, h => h.elim
  | _ :: _, [], h => h.elim
theorem AlL.find (pid : Int) : ∀ {l m : List P}, AlL l m → AlO (l.find? fun p => p.pid == pid) (m.find? fun p => p.pid == pid)
  | [], [], _ => trivial
  | p :: r, q :: s, h => by
    rw [List.find?_cons, List.find?_cons, h.1.pid]
    cases q.pid == pid
    · exact AlL.find pid h.2
    · exact h.1
  | [], _ :: _, h => h.elim
  | _ :: _, [], h => h.elim
theorem AlL.sets : ∀ {l m : List P}, AlL l m → ∀ q ∈ m, q.ig < 4294967296 ∧ q.ca < 4294967296 ∧ q.pe < 4294967296
  | [], [], _, _, h => by cases h
  | _ :: _, _ :: _, h, x, hx => by
    rcases List.mem_cons.1 hx with rfl | hx
    · exact h.1.b2
    · exact AlL.sets h.2 x hx
  | [], _ :: _, h, _, _ => h.elim
  | _ :: _, [], h, _, _ => h.elim
/-- Two tables that tell the same. -/
structure Sim (t u : T) : Prop where
  l : AlL t.l u.l
  last : t.last = u.last
  ends : t.ends = u.ends
section
variable {t u : T}
theorem Sim.sets (S : Sim t u) : Sets u := S.l.sets
theorem Sim.find (S : Sim t u) (pid : Int) : AlO (find t pid) (find u pid) := AlL.find pid S.l
theorem Sim.ok (S : Sim t u) (O : Ok t) : Ok u := by
  have e := S.l.pids
  refine ⟨?_, fun q hq => ?_, by rw [← S.l.len]; exact O.len⟩
  · have h1 : (t.l.map (·.pid)).Pairwise (· < ·) := List.pairwise_map.2 O.rise
    rw [e] at h1
    exact List.pairwise_map.1 h1
  · have hm : q.pid ∈ t.l.map (·.pid) := by rw [e]; exact List.mem_map.2 ⟨q, hq, rfl⟩
    obtain ⟨p, hp, e2⟩ := List.mem_map.1 hm
    rw [← e2, ← S.last]
    exact O.pos p hp
theorem Sim.live (S : Sim t u) (pid : Int) : live t pid = live u pid := by
  have h := S.find pid
  unfold Kn.live
  cases h1 : Kn.find t pid <;> cases h2 : Kn.find u pid <;> rw [h1, h2] at h
  · exact h.elim
  · exact h.elim
  · simpa using h.live
theorem Sim.child (S : Sim t u) (par pid : Int) : child t par pid = child u par pid := by
  have h := S.find pid
  unfold Kn.child
  rw [S.live par]
  cases h1 : Kn.find t pid <;> cases h2 : Kn.find u pid <;> rw [h1, h2] at h
  · exact h.elim
  · exact h.elim
  · simp [h.par]
theorem Sim.how (S : Sim t u) (pid s : Int) : how t pid s = how u pid s := by
  have h := S.find pid
  unfold Kn.how
  cases h1 : Kn.find t pid <;> cases h2 : Kn.find u pid <;> rw [h1, h2] at h
  · exact h.elim
  · exact h.elim
  · rename_i p q
    dsimp only
    rw [← h.live]
    cases hl : p.live
    · rfl
    · rw [h.ig hl s, h.ca hl]
theorem Sim.pending (S : Sim t u) (pid : Int) : pending t pid = pending u pid := by
  have h := S.find pid
  unfold Kn.pending
  cases h1 : Kn.find t pid <;> cases h2 : Kn.find u pid <;> rw [h1, h2] at h
  · exact h.elim
  · exact h.elim
  · rename_i p q
    simp only [Option.map_some, Option.getD_some]
    rw [← h.live]
    cases hl : p.live
    · rfl
    · simp [h.pe hl]
theorem Sim.procs (S : Sim t u) : procs t = procs u := (S.l.filter fun _ _ h => h.live).pids
theorem Sim.children (S : Sim t u) (par : Int) : children t par = children u par :=
  (S.l.filter fun p q h => by rw [h.pid, S.child]).pids
theorem Sim.len (S : Sim t u) : t.l.length = u.l.length := S.l.len
theorem Sim.put (S : Sim t u) (pid : Int) {f : P → P} (hf : ∀ p q, Al p q → Al (f p) (f q)) : Sim (put t pid f) (put u pid f) := by
  refine ⟨S.l.map fun p q h => ?_, S.last, S.ends⟩
  rw [h.pid]
  split
  · exact hf p q h
  · exact h
theorem Sim.take (S : Sim t u) (pid s : Int) : Sim (take t pid s).1 (take u pid s).1 ∧ (take t pid s).2 = (take u pid s).2 := by
  unfold Kn.take
  rw [S.pending pid]
  split
  · exact ⟨S, rfl⟩
  · refine ⟨S.put pid fun p q h => ⟨h.pid, h.par, h.st, h.live, h.ig, h.ca, fun hl => ?_, ⟨h.b1.1, h.b1.2.1, del_lt h.b1.2.2 s⟩, ⟨h.b2.1, h.b2.2.1, del_lt h.b2.2.2 s⟩⟩, rfl⟩
    show del p.pe s = del q.pe s
    rw [h.pe hl]
theorem al_setP {p q : P} (h : Al p q) (s k : Int) : Al (setP p s k) (setP q s k) := by
  refine ⟨h.pid, h.par, h.st, h.live, fun hl r => ?_, fun hl => ?_, fun hl => ?_, ⟨?_, ?_, ?_⟩, ⟨?_, ?_, ?_⟩⟩
  · show has (if k = 1 then _ else _) r = has (if k = 1 then _ else _) r
    have hl : p.live = true := hl
    split
    · rw [has_add, has_add, has_del h.b1.1, has_del h.b2.1, h.ig hl]
    · rw [has_del h.b1.1, has_del h.b2.1, h.ig hl]
  · show (if k = 2 then _ else _) = (if k = 2 then _ else _)
    have hl : p.live = true := hl
    rw [h.ca hl]
  · show (if k = 2 then _ else _) = (if k = 2 then _ else _)
    have hl : p.live = true := hl
    rw [h.pe hl]
  · show (if k = 1 then _ else _) < _
    split
    · exact add_lt (del_lt h.b1.1 s) s
    · exact del_lt h.b1.1 s
  · show (if k = 2 then _ else _) < _
    split
    · exact add_lt (del_lt h.b1.2.1 s) s
    · exact del_lt h.b1.2.1 s
  · show (if k = 2 then _ else _) < _
    split
    · exact h.b1.2.2
    · exact del_lt h.b1.2.2 s
  · show (if k = 1 then _ else _) < _
    split
    · exact add_lt (del_lt h.b2.1 s) s
    · exact del_lt h.b2.1 s
  · show (if k = 2 then _ else _) < _
    split
    · exact add_lt (del_lt h.b2.2.1 s) s
    · exact del_lt h.b2.2.1 s
  · show (if k = 2 then _ else _) < _
    split
    · exact h.b2.2.2
    · exact del_lt h.b2.2.2 s
theorem Sim.putS (S : Sim t u) (pid s k : Int) : Sim (putS Sig.fixedB t pid s k).1 (putS Sig.fixedB u pid s k).1 ∧ (putS Sig.fixedB t pid s k).2 = (putS Sig.fixedB u pid s k).2 := by
  unfold Kn.putS
  rw [S.live pid]
  split
  · exact ⟨S, rfl⟩
  · exact ⟨S.put pid fun p q h => al_setP h s k, rfl⟩
theorem Sim.fork (S : Sim t u) (pid : Int) : Sim (fork t pid).1 (fork u pid).1 ∧ (fork t pid).2 = (fork u pid).2 := by
  have h := S.find pid
  unfold Kn.fork
  cases h1 : Kn.find t pid <;> cases h2 : Kn.find u pid <;> rw [h1, h2] at h
  · exact ⟨S, rfl⟩
  · exact h.elim
  · exact h.elim
  · rename_i p q
    dsimp only
    rw [← h.live, ← S.len, ← S.last]
    cases hl : p.live
    · exact ⟨S, rfl⟩
    · simp only [Bool.true_eq_false, if_false]
      split
      · exact ⟨S, rfl⟩
      · exact ⟨⟨S.l.append ⟨⟨rfl, rfl, rfl, rfl, fun _ => h.ig hl, fun _ => rfl, fun _ => rfl, ⟨h.b1.1, Nat.zero_lt_succ _, Nat.zero_lt_succ _⟩, ⟨h.b2.1, Nat.zero_lt_succ _, Nat.zero_lt_succ _⟩⟩, trivial⟩, rfl, S.ends⟩, rfl⟩
theorem Sim.exit (S : Sim t u) (pid st : Int) : Sim (exit t pid st).1 (exitR u pid st).1 ∧ (exit t pid st).2 = (exitR u pid st).2 := by
  have h := S.find pid
  unfold Kn.exit exitR
  cases h1 : Kn.find t pid <;> cases h2 : Kn.find u pid <;> rw [h1, h2] at h
  · exact ⟨S, rfl⟩
  · exact h.elim
  · exact h.elim
  · rename_i p q
    dsimp only
    rw [← h.live, ← h.par, ← S.ends]
    cases hl : p.live
    · exact ⟨S, rfl⟩
    · simp only [Bool.true_eq_false, if_false]
      refine ⟨⟨S.l.filterMap fun a b ab => ?_, S.last, rfl⟩, trivial⟩
      unfold left leftR
      rw [ab.pid, ab.par, ab.live, S.live p.par]
      split
      · split
        · exact ⟨rfl, rfl, rfl, rfl, (fun e => by cases e), (fun e => by cases e), (fun e => by cases e), ⟨Nat.zero_lt_succ _, Nat.zero_lt_succ _, Nat.zero_lt_succ _⟩, ab.b2⟩
        · trivial
      · split
        · split
          · exact ⟨rfl, rfl, ab.st, rfl, (fun e => ab.ig (ab.live.trans e)), (fun e => ab.ca (ab.live.trans e)), (fun e => ab.pe (ab.live.trans e)), ab.b1, ab.b2⟩
          · trivial
        · exact ab
theorem Sim.send (S : Sim t u) (pid s : Int) : Sim (send Sig.mildB t pid s).1 (sendR u pid s).1 ∧ (send Sig.mildB t pid s).2 = (sendR u pid s).2 := by
  unfold Kn.send sendR
  rw [S.live pid, S.how pid s]
  split
  · exact ⟨S, rfl⟩
  · split
    · refine ⟨S.put pid fun p q h => ⟨h.pid, h.par, h.st, h.live, h.ig, h.ca, fun hl => ?_, ⟨h.b1.1, h.b1.2.1, add_lt h.b1.2.2 s⟩, ⟨h.b2.1, h.b2.2.1, add_lt h.b2.2.2 s⟩⟩, rfl⟩
      show add p.pe s = add q.pe s
      rw [h.pe hl]
    · split
      · exact S.exit pid _
      · exact ⟨S, rfl⟩
theorem Sim.reap (S : Sim t u) (par pid : Int) : Sim (reap t par pid).1 (reap u par pid).1 ∧ (reap t par pid).2 = (reap u par pid).2 := by
  have h := S.find pid
  unfold Kn.reap
  rw [S.child, S.live]
  split
  · exact ⟨S, rfl⟩
  · refine ⟨⟨S.l.filter fun p q h => by rw [h.pid], S.last, S.ends⟩, ?_⟩
    cases h1 : Kn.find t pid <;> cases h2 : Kn.find u pid <;> rw [h1, h2] at h
    · exact h.elim
    · exact h.elim
    · simp [h.st]
theorem sim_new {x : Nat} (hx : x < 4294967296) : Sim (newT x) (newR x) :=
  ⟨⟨⟨rfl, rfl, rfl, rfl, fun _ s => by show has (looseN x) s = has (tightN x) s; rw [has_looseN hx, has_tightN], fun _ => rfl, fun _ => rfl, ⟨looseN_lt hx, Nat.zero_lt_succ _, Nat.zero_lt_succ _⟩, ⟨tightL_lt _ (by decide), Nat.zero_lt_succ _, Nat.zero_lt_succ _⟩⟩, trivial⟩, rfl, rfl⟩
end
end Kn
end Go.Proofs.Ytlebglnlkkoakaa
