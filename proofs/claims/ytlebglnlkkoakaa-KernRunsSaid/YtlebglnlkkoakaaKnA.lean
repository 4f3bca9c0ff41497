/- Pure: processes, as the document and the reference say them: tables, what is done with them, and what stays true of them. -/
import Derived.Test.YtlebglnlkkoakaaKsA
import Derived.Lib.Hide
namespace Go.Proofs.Ytlebglnlkkoakaa
namespace Kn
def isS (s : Int) : Bool := Sig.isB s
def has (x : Nat) (s : Int) : Bool := Sig.hasB x s
def add (x : Nat) (s : Int) : Nat := x ||| Sig.bitN s
def del (x : Nat) (s : Int) : Nat := x &&& (4294967295 - Sig.bitN s)
/-- A process. -/
structure P where
  pid : Int
  par : Int
  st : Int
  live : Bool
  ig : Nat
  ca : Nat
  pe : Nat
deriving DecidableEq
/-- All that there are, how many there ever were, how they ended. -/
structure T where
  l : List P
  last : Int
  ends : List (Int × Int)
def find (t : T) (pid : Int) : Option P := t.l.find? fun p => p.pid == pid
def live (t : T) (pid : Int) : Bool := (find t pid).any (·.live)
def procs (t : T) : List Int := (t.l.filter (·.live)).map (·.pid)
def child (t : T) (par pid : Int) : Bool := ((find t pid).any fun p => p.par == par) && live t par
def children (t : T) (par : Int) : List Int := (t.l.filter fun p => child t par p.pid).map (·.pid)
/-- The process with this pid is another one. -/
def put (t : T) (pid : Int) (f : P → P) : T := { t with l := t.l.map fun p => if p.pid = pid then f p else p }
def fork (t : T) (pid : Int) : T × Int × Int :=
  match find t pid with
  | none => (t, 0, 3)
  | some p => if p.live = false then (t, 0, 3) else if 64 ≤ t.l.length then (t, 0, 4) else
    ({ t with l := t.l ++ [⟨t.last + 1, pid, 0, true, p.ig, 0, 0⟩], last := t.last + 1 }, t.last + 1, 0)
/-- What an end leaves of a process. -/
def left (t : T) (pid st par : Int) (p : P) : Option P :=
  if p.pid = pid then (if live t par then some { p with live := false, st := st, ig := 0, ca := 0, pe := 0 } else none)
  else if p.par = pid then (if p.live then some { p with par := 0 } else none) else some p
def exit (t : T) (pid st : Int) : T × Bool :=
  match find t pid with
  | none => (t, false)
  | some p => if p.live = false then (t, false) else
    ({ t with l := t.l.filterMap (left t pid (st % 256) p.par), ends := t.ends ++ [(pid, st % 256)] }, true)
def how (t : T) (pid s : Int) : Int :=
  match find t pid with
  | none => 0
  | some p => if p.live = false then 0 else if has p.ig s then 1 else if has p.ca s then 2 else 0
def send (mild : Int → Bool) (t : T) (pid s : Int) : T × Bool :=
  if live t pid = false ∨ isS s = false then (t, false)
  else if how t pid s = 2 then (put t pid fun p => { p with pe := add p.pe s }, true)
  else if how t pid s = 0 ∧ mild s = false then exit t pid (128 + s)
  else (t, true)
def reap (t : T) (par pid : Int) : T × Int × Bool :=
  if child t par pid = false ∨ live t pid = true then (t, 0, false)
  else ({ t with l := t.l.filter fun p => p.pid != pid }, ((find t pid).map (·.st)).getD 0, true)
def setP (p : P) (s h : Int) : P :=
  { p with ig := if h = 1 then add (del p.ig s) s else del p.ig s, ca := if h = 2 then add (del p.ca s) s else del p.ca s, pe := if h = 2 then p.pe else del p.pe s }
def putS (fixed : Int → Bool) (t : T) (pid s h : Int) : T × Bool :=
  if live t pid = false ∨ isS s = false ∨ fixed s = true ∨ h < 0 ∨ 2 < h then (t, false) else (put t pid fun p => setP p s h, true)
def pending (t : T) (pid : Int) : Nat := ((find t pid).map fun p => if p.live then p.pe else 0).getD 0
def take (t : T) (pid s : Int) : T × Bool :=
  if has (pending t pid) s = false then (t, false) else (put t pid fun p => { p with pe := del p.pe s }, true)
/-- What stays true: pids rise, and none is above the last one. -/
structure Ok (t : T) : Prop where
  rise : t.l.Pairwise fun p q => p.pid < q.pid
  pos : ∀ p ∈ t.l, 1 ≤ p.pid ∧ p.pid ≤ t.last
  len : t.l.length ≤ 64
theorem rise_filterMap {f : P → Option P} (hf : ∀ p q, f p = some q → q.pid = p.pid) : ∀ {l : List P}, l.Pairwise (fun p q => p.pid < q.pid) → (l.filterMap f).Pairwise fun p q => p.pid < q.pid
  | [], _ => List.Pairwise.nil
  | p :: r, h => by
    obtain ⟨h1, h2⟩ := List.pairwise_cons.1 h
    have ih := rise_filterMap hf h2
    rw [List.filterMap_cons]
    cases e : f p with
    | none => exact ih
    | some q =>
      refine List.pairwise_cons.2 ⟨fun x hx => ?_, ih⟩
      obtain ⟨y, hy, e2⟩ := List.mem_filterMap.1 hx
      rw [hf p q e, hf y x e2]
      exact h1 y hy
theorem left_pid {t : T} {pid st par : Int} (p q : P) (h : left t pid st par p = some q) : q.pid = p.pid := by
  unfold left at h
  split at h
  · split at h
    · cases h; rfl
    · cases h
  · split at h
    · split at h
      · cases h; rfl
      · cases h
    · cases h; rfl
theorem Ok.filterMap {t : T} (h : Ok t) {f : P → Option P} (hf : ∀ p q, f p = some q → q.pid = p.pid) (e : List (Int × Int)) : Ok ⟨t.l.filterMap f, t.last, e⟩ := by
  refine ⟨rise_filterMap hf h.rise, fun q hq => ?_, Nat.le_trans (List.length_filterMap_le _ _) h.len⟩
  obtain ⟨p, hp, e⟩ := List.mem_filterMap.1 hq
  rw [hf p q e]; exact h.pos p hp
theorem Ok.exit {t : T} (h : Ok t) (pid st : Int) : Ok (exit t pid st).1 := by
  unfold Kn.exit
  split
  · exact h
  · split
    · exact h
    · exact h.filterMap (fun p q => left_pid p q) _
theorem Ok.put {t : T} (h : Ok t) (pid : Int) {f : P → P} (hf : ∀ p, (f p).pid = p.pid) : Ok (put t pid f) := by
  have := h.filterMap (f := fun p => some (if p.pid = pid then f p else p)) (fun p q e => by cases e; split <;> simp [hf]) t.ends
  rwa [List.filterMap_eq_map'] at this
theorem Ok.fork {t : T} (h : Ok t) (h0 : 0 ≤ t.last) (pid : Int) : Ok (fork t pid).1 := by
  unfold Kn.fork
  split
  · exact h
  · split
    · exact h
    · split
      · exact h
      · rename_i hlen
        refine ⟨List.pairwise_append.2 ⟨h.rise, List.pairwise_singleton _ _, fun p hp q hq => ?_⟩, fun p hp => ?_, by simp; omega⟩
        · simp only [List.mem_singleton] at hq
          subst hq
          have := (h.pos p hp).2
          simp only; omega
        · rcases List.mem_append.1 hp with hp | hp
          · have := h.pos p hp; exact ⟨this.1, by simp only; omega⟩
          · simp only [List.mem_singleton] at hp
            subst hp
            exact ⟨by simp only; omega, Int.le_refl _⟩
theorem Ok.send {t : T} (h : Ok t) (mild : Int → Bool) (pid s : Int) : Ok (send mild t pid s).1 := by
  unfold Kn.send
  split
  · exact h
  · split
    · exact h.put pid fun _ => rfl
    · split
      · exact h.exit pid _
      · exact h
theorem Ok.reap {t : T} (h : Ok t) (par pid : Int) : Ok (reap t par pid).1 := by
  unfold Kn.reap
  split
  · exact h
  · refine ⟨List.Pairwise.sublist List.filter_sublist h.rise, fun p hp => h.pos p (List.mem_filter.1 hp).1, Nat.le_trans (List.length_filter_le _ _) h.len⟩
theorem Ok.putS {t : T} (h : Ok t) (fixed : Int → Bool) (pid s k : Int) : Ok (putS fixed t pid s k).1 := by
  unfold Kn.putS
  split
  · exact h
  · exact h.put pid fun _ => rfl
theorem Ok.take {t : T} (h : Ok t) (pid s : Int) : Ok (take t pid s).1 := by
  unfold Kn.take
  split
  · exact h
  · exact h.put pid fun _ => rfl
theorem ok_new (x : Nat) : Ok ⟨[⟨1, 0, 0, true, x, 0, 0⟩], 1, []⟩ :=
  ⟨List.pairwise_singleton _ _, fun p hp => by simp only [List.mem_singleton] at hp; subst hp; exact ⟨Int.le_refl _, Int.le_refl _⟩, by simp⟩
theorem filterMap_same {f : P → Option P} : ∀ l : List P, (∀ p ∈ l, f p = some p) → l.filterMap f = l
  | [], _ => rfl
  | p :: r, h => by rw [List.filterMap_cons, h p List.mem_cons_self, filterMap_same r fun x hx => h x (List.mem_cons_of_mem _ hx)]
theorem find_new {l : List P} {last : Int} {e : List (Int × Int)} {q : P} (h : ∀ p ∈ l, p.pid < q.pid) : find ⟨l ++ [q], last, e⟩ q.pid = some q := by
  unfold find
  rw [List.find?_append]
  have : l.find? (fun p => p.pid == q.pid) = none := List.find?_eq_none.2 fun p hp e => by
    have := h p hp; rw [beq_iff_eq] at e; omega
  rw [this]
  simp
/-- The first one, and n children that ended. -/
def dead (k : Nat) : P := ⟨(k : Int) + 2, 1, (k : Int) % 256, false, 0, 0, 0⟩
def one : P := ⟨1, 0, 0, true, 0, 0, 0⟩
def many (n : Nat) : T := ⟨one :: (List.range n).map dead, (n : Int) + 1, (List.range n).map fun (k : Nat) => ((k : Int) + 2, (k : Int) % 256)⟩
theorem find_one (r : List P) (a : Int) (e : List (Int × Int)) : find ⟨one :: r, a, e⟩ 1 = some one := rfl
theorem many_fork (n : Nat) (h : n < 63) : fork (many n) 1 = (⟨one :: ((List.range n).map dead ++ [⟨(n : Int) + 2, 1, 0, true, 0, 0, 0⟩]), (n : Int) + 2, (many n).ends⟩, (n : Int) + 2, 0) := by
  unfold fork
  rw [show find (many n) 1 = some one from rfl]
  have hl : ¬ 64 ≤ (many n).l.length := by simp [many]; omega
  simp only [one, Bool.true_eq_false, if_false, if_neg hl]
  simp [many, one, Int.add_assoc]
theorem many_full (n : Nat) (h : 63 ≤ n) : fork (many n) 1 = (many n, 0, 4) := by
  unfold fork
  rw [show find (many n) 1 = some one from rfl]
  have hl : 64 ≤ (many n).l.length := by simp [many]; omega
  simp only [one, Bool.true_eq_false, if_false, if_pos hl]
theorem many_exit (n : Nat) : exit ⟨one :: ((List.range n).map dead ++ [⟨(n : Int) + 2, 1, 0, true, 0, 0, 0⟩]), (n : Int) + 2, (many n).ends⟩ ((n : Int) + 2) n = (many (n + 1), true) := by
  have hf : find ⟨one :: ((List.range n).map dead ++ [⟨(n : Int) + 2, 1, 0, true, 0, 0, 0⟩]), (n : Int) + 2, (many n).ends⟩ ((n : Int) + 2) = some ⟨(n : Int) + 2, 1, 0, true, 0, 0, 0⟩ := by
    refine find_new (l := one :: (List.range n).map dead) (q := ⟨(n : Int) + 2, 1, 0, true, 0, 0, 0⟩) fun p hp => ?_
    rcases List.mem_cons.1 hp with rfl | hp
    · simp only [one]; omega
    · obtain ⟨k, hk, rfl⟩ := List.mem_map.1 hp
      have := List.mem_range.1 hk
      simp only [dead]; omega
  unfold exit
  rw [hf]
  simp only [Bool.true_eq_false, if_false]
  have hone : ∀ st, left ⟨one :: ((List.range n).map dead ++ [⟨(n : Int) + 2, 1, 0, true, 0, 0, 0⟩]), (n : Int) + 2, (many n).ends⟩ ((n : Int) + 2) st 1 one = some one := fun st => by
    unfold left
    rw [if_neg (by simp only [one]; omega), if_neg (by simp only [one]; omega)]
  have hd : ∀ st k, k < n → left ⟨one :: ((List.range n).map dead ++ [⟨(n : Int) + 2, 1, 0, true, 0, 0, 0⟩]), (n : Int) + 2, (many n).ends⟩ ((n : Int) + 2) st 1 (dead k) = some (dead k) := fun st k hk => by
    unfold left
    rw [if_neg (by simp only [dead]; omega), if_neg (by simp only [dead]; omega)]
  have hn : ∀ st, left ⟨one :: ((List.range n).map dead ++ [⟨(n : Int) + 2, 1, 0, true, 0, 0, 0⟩]), (n : Int) + 2, (many n).ends⟩ ((n : Int) + 2) st 1 ⟨(n : Int) + 2, 1, 0, true, 0, 0, 0⟩ = some ⟨(n : Int) + 2, 1, st, false, 0, 0, 0⟩ := fun st => by
    unfold left
    rw [if_pos rfl, if_pos (by rfl)]
  have hm : ∀ st, ((List.range n).map dead).filterMap (left ⟨one :: ((List.range n).map dead ++ [⟨(n : Int) + 2, 1, 0, true, 0, 0, 0⟩]), (n : Int) + 2, (many n).ends⟩ ((n : Int) + 2) st 1) = (List.range n).map dead := fun st => by
    refine filterMap_same _ fun p hp => ?_
    obtain ⟨k, hk, rfl⟩ := List.mem_map.1 hp
    exact hd st k (List.mem_range.1 hk)
  rw [List.filterMap_cons, hone]
  simp only [List.filterMap_append, hm, List.filterMap_cons, hn, List.filterMap_nil]
  simp [many, dead, List.range_succ, Int.add_assoc]
theorem many_len (n : Nat) : (many n).l.length = n + 1 := by simp [many]
theorem many_ends (n : Nat) : (many n).ends.length = n := by simp [many]
/-- The first one alone, n children having come and gone. -/
def gone (n : Nat) : T := ⟨[one], (n : Int) + 1, (many n).ends⟩
theorem gone_fork (n : Nat) : fork (gone n) 1 = (⟨[one, ⟨(n : Int) + 2, 1, 0, true, 0, 0, 0⟩], (n : Int) + 2, (many n).ends⟩, (n : Int) + 2, 0) := by
  unfold fork
  rw [show find (gone n) 1 = some one from rfl]
  have hl : ¬ 64 ≤ (gone n).l.length := by simp [gone]
  simp only [one, Bool.true_eq_false, if_false, if_neg hl]
  simp [gone, one, Int.add_assoc]
theorem gone_exit (n : Nat) : exit ⟨[one, ⟨(n : Int) + 2, 1, 0, true, 0, 0, 0⟩], (n : Int) + 2, (many n).ends⟩ ((n : Int) + 2) n = (⟨[one, dead n], (n : Int) + 2, (many (n + 1)).ends⟩, true) := by
  have hf : find ⟨[one, ⟨(n : Int) + 2, 1, 0, true, 0, 0, 0⟩], (n : Int) + 2, (many n).ends⟩ ((n : Int) + 2) = some ⟨(n : Int) + 2, 1, 0, true, 0, 0, 0⟩ := by
    refine find_new (l := [one]) (q := ⟨(n : Int) + 2, 1, 0, true, 0, 0, 0⟩) fun p hp => ?_
    obtain rfl := List.mem_singleton.1 hp
    simp only [one]; omega
  unfold exit
  rw [hf]
  simp only [Bool.true_eq_false, if_false]
  have hone : ∀ st, left ⟨[one, ⟨(n : Int) + 2, 1, 0, true, 0, 0, 0⟩], (n : Int) + 2, (many n).ends⟩ ((n : Int) + 2) st 1 one = some one := fun st => by
    unfold left
    rw [if_neg (by simp only [one]; omega), if_neg (by simp only [one]; omega)]
  have hn : ∀ st, left ⟨[one, ⟨(n : Int) + 2, 1, 0, true, 0, 0, 0⟩], (n : Int) + 2, (many n).ends⟩ ((n : Int) + 2) st 1 ⟨(n : Int) + 2, 1, 0, true, 0, 0, 0⟩ = some ⟨(n : Int) + 2, 1, st, false, 0, 0, 0⟩ := fun st => by
    unfold left
    rw [if_pos rfl, if_pos (by rfl)]
  rw [List.filterMap_cons, hone]
  simp only [List.filterMap_cons, hn, List.filterMap_nil]
  simp [many, dead, List.range_succ]
theorem gone_reap (n : Nat) : reap ⟨[one, dead n], (n : Int) + 2, (many (n + 1)).ends⟩ 1 ((n : Int) + 2) = (gone (n + 1), (n : Int) % 256, true) := by
  have hf : find ⟨[one, dead n], (n : Int) + 2, (many (n + 1)).ends⟩ ((n : Int) + 2) = some (dead n) :=
    find_new (l := [one]) (q := dead n) fun p hp => by
      obtain rfl := List.mem_singleton.1 hp
      simp only [one, dead]; omega
  have h1 : child ⟨[one, dead n], (n : Int) + 2, (many (n + 1)).ends⟩ 1 ((n : Int) + 2) = true := by
    unfold child; rw [hf]; rfl
  have h2 : live ⟨[one, dead n], (n : Int) + 2, (many (n + 1)).ends⟩ ((n : Int) + 2) = false := by
    unfold live; rw [hf]; rfl
  unfold reap
  rw [h1, h2, hf, if_neg (by simp)]
  have hne : ((1 : Int) != (n : Int) + 2) = true := by simp; omega
  simp [gone, dead, one, hne, Int.add_assoc]
theorem find_pid {t : T} {pid : Int} {p : P} (h : find t pid = some p) : p.pid = pid ∧ p ∈ t.l := by
  unfold find at h
  have h1 := List.find?_some h
  exact ⟨by simpa using h1, List.mem_of_find?_eq_some h⟩
theorem find_put {t : T} {pid : Int} {p : P} (h : find t pid = some p) {f : P → P} (hf : ∀ p, (f p).pid = p.pid) : find (put t pid f) pid = some (f p) := by
  unfold find put at *
  simp only
  rw [List.find?_map]
  have he : ((fun p => p.pid == pid) ∘ fun p => if p.pid = pid then f p else p) = fun p : P => p.pid == pid := by
    funext q
    simp only [Function.comp]
    split
    · rename_i e; rw [hf, e]
    · rfl
  rw [he, h]
  have := (List.find?_some h)
  simp only [beq_iff_eq] at this
  simp [this]
theorem find_filterMap {f : P → Option P} (hf : ∀ p q, f p = some q → q.pid = p.pid) (pid : Int) : ∀ {l : List P}, l.Pairwise (fun p q => p.pid < q.pid) → (l.filterMap f).find? (fun p => p.pid == pid) = (l.find? fun p => p.pid == pid).bind f
  | [], _ => rfl
  | p :: r, h => by
    obtain ⟨h1, h2⟩ := List.pairwise_cons.1 h
    have ih := find_filterMap hf pid h2
    rw [List.filterMap_cons]
    by_cases e : p.pid = pid
    · rw [List.find?_cons_of_pos (by simpa using e)]
      have hr : r.find? (fun p => p.pid == pid) = none := List.find?_eq_none.2 fun q hq e2 => by
        have := h1 q hq; rw [beq_iff_eq] at e2; omega
      cases hp : f p with
      | none => simp only [Option.bind_some, hp]; rw [ih, hr]; rfl
      | some q =>
        simp only [Option.bind_some, hp]
        rw [List.find?_cons_of_pos (by simp [hf p q hp, e])]
    · rw [List.find?_cons_of_neg (by simpa using e)]
      cases hp : f p with
      | none => exact ih
      | some q =>
        simp only
        rw [List.find?_cons_of_neg (by simp [hf p q hp, e])]
        exact ih
/-- Who has ended is not live. -/
theorem exit_dead {t : T} (h : Ok t) (pid st : Int) : live (exit t pid st).1 pid = false := by
  unfold exit
  split
  · rename_i hn; unfold live; rw [hn]; rfl
  · rename_i p hp
    split
    · rename_i hl; unfold live; rw [hp]; simpa using hl
    · unfold live find
      simp only
      rw [find_filterMap (fun p q => left_pid p q) pid h.rise]
      unfold find at hp
      rw [hp]
      have e := (find_pid (t := t) (pid := pid) (p := p) hp).1
      simp only [Option.bind_some]
      unfold left
      rw [if_pos e]
      split <;> rfl
theorem exit_ok {t : T} {pid st : Int} : (exit t pid st).2 = live t pid := by
  unfold exit live
  split
  · rename_i hn; rw [hn]; rfl
  · rename_i p hp
    rw [hp]
    split
    · rename_i hl; simp [hl]
    · rename_i hl; simp [Bool.not_eq_false _ |>.mp hl]
theorem dead_pending {t : T} {pid : Int} (h : live t pid = false) : pending t pid = 0 := by
  unfold live at h; unfold pending
  cases hf : find t pid with
  | none => rfl
  | some p => rw [hf] at h; simp at h; simp [h]
theorem dead_send {t : T} {pid : Int} (mild : Int → Bool) (s : Int) (h : live t pid = false) : (send mild t pid s).2 = false := by
  unfold send; rw [if_pos (.inl h)]
/-- A row of processes, each the child of the one before. -/
def chain (x n : Nat) : T := ⟨(List.range (n + 1)).map fun (k : Nat) => ⟨(k : Int) + 1, (k : Int), 0, true, x, 0, 0⟩, (n : Int) + 1, []⟩
theorem chain_snoc (x n : Nat) : (chain x n).l = (List.range n).map (fun (k : Nat) => (⟨(k : Int) + 1, (k : Int), 0, true, x, 0, 0⟩ : P)) ++ [⟨(n : Int) + 1, (n : Int), 0, true, x, 0, 0⟩] := by
  simp [chain, List.range_succ]
theorem chain_find (x n : Nat) : find (chain x n) ((n : Int) + 1) = some ⟨(n : Int) + 1, (n : Int), 0, true, x, 0, 0⟩ := by
  have : chain x n = ⟨(List.range n).map (fun (k : Nat) => (⟨(k : Int) + 1, (k : Int), 0, true, x, 0, 0⟩ : P)) ++ [⟨(n : Int) + 1, (n : Int), 0, true, x, 0, 0⟩], (n : Int) + 1, []⟩ := by
    rw [← chain_snoc]; rfl
  rw [this]
  refine find_new (q := ⟨(n : Int) + 1, (n : Int), 0, true, x, 0, 0⟩) fun p hp => ?_
  obtain ⟨k, hk, rfl⟩ := List.mem_map.1 hp
  have := List.mem_range.1 hk
  simp only; omega
theorem chain_fork (x n : Nat) (h : n < 63) : fork (chain x n) ((n : Int) + 1) = (chain x (n + 1), (n : Int) + 2, 0) := by
  unfold fork
  rw [chain_find]
  have hl : ¬ 64 ≤ (chain x n).l.length := by simp [chain]; omega
  simp only [Bool.true_eq_false, if_false, if_neg hl]
  have e : (n : Int) + 1 + 1 = (n : Int) + 2 := by omega
  simp only [chain, e]
  simp [List.range_succ, e]
end Kn
end Go.Proofs.Ytlebglnlkkoakaa
