/- Pure: an end, step by step: children are left, then the process goes. -/
import Derived.Test.YtlebglnlkkoakaaKnH
namespace Go.Proofs.Ytlebglnlkkoakaa
open Go.RowKit Go.Maps
namespace Kn
/-- A table without a process. -/
def drop (t : T) (pid : Int) : T := { t with l := t.l.filter fun p => p.pid != pid }
/-- A child whose parent ends. -/
def leave (t : T) (c : Int) : T := if live t c then put t c (fun p => { p with par := 0 }) else drop t c
def lef1 (p : P) : Option P := if p.live then some { p with par := 0 } else none
def lef (L : List Int) (p : P) : Option P := if p.pid ∈ L then lef1 p else some p
theorem filterMap_congr' {f g : P → Option P} : ∀ {l : List P}, (∀ p ∈ l, f p = g p) → l.filterMap f = l.filterMap g
  | [], _ => rfl
  | p :: r, h => by rw [List.filterMap_cons, List.filterMap_cons, h p List.mem_cons_self, filterMap_congr' fun x hx => h x (List.mem_cons_of_mem _ hx)]
theorem find_mem {t : T} (O : Ok t) {p : P} (hp : p ∈ t.l) : find t p.pid = some p := by
  have : (find t p.pid).isSome = true := find_isSome.2 ⟨p, hp, rfl⟩
  cases hf : find t p.pid with
  | none => rw [hf] at this; cases this
  | some q => rw [pid_one O hf hp rfl]
theorem live_mem {t : T} (O : Ok t) {p : P} (hp : p ∈ t.l) : live t p.pid = p.live := by unfold live; rw [find_mem O hp]; rfl
theorem drop_eq (t : T) (c : Int) : (drop t c).l = t.l.filterMap fun p => if p.pid = c then none else some p := by
  unfold drop
  simp only
  induction t.l with
  | nil => rfl
  | cons a r ih =>
    rw [List.filter_cons, List.filterMap_cons]
    by_cases h : a.pid = c
    · rw [if_pos h, if_neg (by simp [h])]; exact ih
    · rw [if_neg h, if_pos (by simpa using h)]
      simp only
      rw [ih]
theorem put_eq (t : T) (c : Int) (f : P → P) : (put t c f).l = t.l.filterMap fun p => some (if p.pid = c then f p else p) := by
  unfold put; simp only; rw [List.filterMap_eq_map']
theorem leave_eq {t : T} (O : Ok t) (c : Int) : (leave t c).l = t.l.filterMap (lef [c]) := by
  unfold leave
  split
  · rename_i hl
    rw [put_eq]
    refine filterMap_congr' fun p hp => ?_
    unfold lef lef1
    by_cases h : p.pid = c
    · have : p.live = true := by rw [← live_mem O hp, h]; exact hl
      simp [h, this]
    · simp [h]
  · rename_i hl
    rw [drop_eq]
    refine filterMap_congr' fun p hp => ?_
    unfold lef lef1
    by_cases h : p.pid = c
    · have : p.live = false := by rw [← live_mem O hp, h]; simpa using hl
      simp [h, this]
    · simp [h]
theorem lef_pid {L : List Int} (p q : P) (h : lef L p = some q) : q.pid = p.pid := by
  unfold lef lef1 at h
  split at h
  · split at h
    · cases h; rfl
    · cases h
  · cases h; rfl
theorem leave_rest (t : T) (c : Int) : (leave t c).last = t.last ∧ (leave t c).ends = t.ends := by unfold leave; split <;> exact ⟨rfl, rfl⟩
theorem T.ext {a b : T} (h1 : a.l = b.l) (h2 : a.last = b.last) (h3 : a.ends = b.ends) : a = b := by cases a; cases b; simp_all
theorem leave_t {t : T} (O : Ok t) (c : Int) : leave t c = ⟨t.l.filterMap (lef [c]), t.last, t.ends⟩ := T.ext (leave_eq O c) (leave_rest t c).1 (leave_rest t c).2
theorem Ok.leave {t : T} (O : Ok t) (c : Int) : Ok (leave t c) := by
  rw [leave_t O c]; exact O.filterMap (fun p q => lef_pid p q) _
theorem leaves_t : ∀ (L : List Int) {t : T}, Ok t → L.foldl leave t = ⟨t.l.filterMap (lef L), t.last, t.ends⟩
  | [], t, _ => by
    have : t.l.filterMap (lef []) = t.l := filterMap_same _ fun p _ => by simp [lef]
    rw [this]; rfl
  | c :: r, t, O => by
    rw [List.foldl_cons, leaves_t r (O.leave c), leave_t O c]
    refine T.ext ?_ rfl rfl
    simp only
    rw [List.filterMap_filterMap]
    refine filterMap_congr' fun p _ => ?_
    unfold lef lef1
    by_cases h1 : p.pid = c <;> by_cases h2 : p.pid ∈ r <;> cases h3 : p.live <;> simp [h1, h2, h3] <;> (try subst h1) <;> simp [h2, h3]
theorem leaves_ok (L : List Int) {t : T} (O : Ok t) : Ok (L.foldl leave t) := by rw [leaves_t L O]; exact O.filterMap (fun p q => lef_pid p q) _
/-- Whose parent is somebody, is younger. -/
def Par (t : T) : Prop := ∀ p ∈ t.l, 0 ≤ p.par ∧ p.par < p.pid
theorem mem_kids {t : T} (O : Ok t) {pid : Int} (hl : live t pid = true) {p : P} (hp : p ∈ t.l) : p.pid ∈ suchL t (child t pid) ↔ p.par = pid := by
  unfold suchL
  simp only [List.mem_map, List.mem_filter]
  constructor
  · rintro ⟨q, ⟨hq, hc⟩, e⟩
    unfold child at hc
    rw [e, find_mem O hp] at hc
    simp only [Option.any_some, Bool.and_eq_true, beq_iff_eq] at hc
    exact hc.1
  · intro e
    refine ⟨p, ⟨hp, ?_⟩, rfl⟩
    unfold child
    rw [find_mem O hp, hl]
    simp [e]
theorem find_leaves {t : T} (O : Ok t) (L : List Int) (x : Int) : find (L.foldl leave t) x = (find t x).bind (lef L) := by
  rw [leaves_t L O]
  unfold find
  exact find_filterMap (fun p q => lef_pid p q) x O.rise
theorem live_leaves {t : T} (O : Ok t) (L : List Int) (x : Int) : live (L.foldl leave t) x = live t x := by
  unfold live
  rw [find_leaves O]
  cases find t x with
  | none => rfl
  | some p =>
    simp only [Option.bind_some]
    unfold lef lef1
    split
    · cases hl : p.live <;> simp [hl]
    · rfl
def deadP (st : Int) (p : P) : P := { p with live := false, st := st, ig := 0, ca := 0, pe := 0 }
/-- An end: its children are left, then the process is a remains, or none. -/
theorem exit_t {t : T} (O : Ok t) (R : Par t) {pid st : Int} {p : P} (hf : find t pid = some p) (hp : p.live = true) :
    exit t pid st = (if live t p.par then { put ((suchL t (child t pid)).foldl leave t) pid (deadP (st % 256)) with ends := t.ends ++ [(pid, st % 256)] }
      else { drop ((suchL t (child t pid)).foldl leave t) pid with ends := t.ends ++ [(pid, st % 256)] }, true) := by
  have hl : live t pid = true := by unfold live; rw [hf]; simpa using hp
  obtain ⟨e, hm⟩ := find_pid hf
  have hpar := (R p hm).2
  unfold exit
  rw [hf]
  simp only [hp, Bool.true_eq_false, if_false]
  congr 1
  have hleft : ∀ q ∈ t.l, left t pid (st % 256) p.par q = (lef (suchL t (child t pid)) q).bind fun r => if r.pid = pid then (if live t p.par then some (deadP (st % 256) r) else none) else some r := by
    intro q hq
    unfold left lef lef1
    by_cases h1 : q.pid = pid
    · have hqp := pid_one O hf hq h1
      subst hqp
      have hno : ¬ q.pid ∈ suchL t (child t pid) := fun h => by have := (mem_kids O hl hq).1 h; omega
      rw [if_pos h1, if_neg hno]
      simp only [Option.bind_some, if_pos h1]; rfl
    · rw [if_neg h1]
      by_cases h2 : q.par = pid
      · rw [if_pos h2, if_pos ((mem_kids O hl hq).2 h2)]
        cases hq3 : q.live <;> simp [h1]
      · rw [if_neg h2, if_neg fun h => h2 ((mem_kids O hl hq).1 h)]
        simp [h1]
  split
  · rename_i hlp
    refine T.ext ?_ ?_ rfl
    · simp only [put_eq, leaves_t _ O, List.filterMap_filterMap]
      refine filterMap_congr' fun q hq => ?_
      rw [hleft q hq]
      cases lef (suchL t (child t pid)) q with
      | none => rfl
      | some r => simp only [Option.bind_some]; split <;> simp [hlp]
    · show t.last = ((suchL t (child t pid)).foldl leave t).last
      rw [leaves_t _ O]
  · rename_i hlp
    refine T.ext ?_ ?_ rfl
    · simp only [drop_eq, leaves_t _ O, List.filterMap_filterMap]
      refine filterMap_congr' fun q hq => ?_
      rw [hleft q hq]
      cases lef (suchL t (child t pid)) q with
      | none => rfl
      | some r => simp only [Option.bind_some]; split <;> simp [hlp]
    · show t.last = ((suchL t (child t pid)).foldl leave t).last
      rw [leaves_t _ O]
end Kn
end Go.Proofs.Ytlebglnlkkoakaa
