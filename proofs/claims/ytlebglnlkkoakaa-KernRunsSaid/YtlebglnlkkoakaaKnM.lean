/- Pure: what stays true of a table, whatever is done. -/
import Derived.Test.YtlebglnlkkoakaaKnL
namespace Go.Proofs.Ytlebglnlkkoakaa
open Go.RowKit Go.Maps
namespace Kn
structure Inv (n : Nat) (t : T) : Prop where
  ok : Ok t
  par : Par t
  sets : Sets t
  sub : Sub t
  pos : 0 ≤ t.last
  last : t.last ≤ n + 1
  ends : t.ends.length ≤ n
/-- What is asked of one process. -/
def Pok (p : P) : Prop := (0 ≤ p.par ∧ p.par < p.pid) ∧ (p.ig < 4294967296 ∧ p.ca < 4294967296 ∧ p.pe < 4294967296) ∧ p.pe &&& p.ca = p.pe
theorem Inv.each {n : Nat} {t : T} (I : Inv n t) : ∀ p ∈ t.l, Pok p := fun p hp => ⟨I.par p hp, I.sets p hp, I.sub p hp⟩
theorem Inv.mk' {n : Nat} {t : T} (o : Ok t) (h : ∀ p ∈ t.l, Pok p) (h0 : 0 ≤ t.last) (h1 : t.last ≤ n + 1) (h2 : t.ends.length ≤ n) : Inv n t :=
  ⟨o, fun p hp => (h p hp).1, fun p hp => (h p hp).2.1, fun p hp => (h p hp).2.2, h0, h1, h2⟩
theorem Inv.more {n : Nat} {t : T} (I : Inv n t) : Inv (n + 1) t := ⟨I.ok, I.par, I.sets, I.sub, I.pos, by have := I.last; omega, by have := I.ends; omega⟩
theorem inv_new {x : Nat} (hx : x < 4294967296) : Inv 0 (newT x) := by
  refine Inv.mk' (ok_new _) (fun p hp => ?_) (by show (0 : Int) ≤ 1; decide) (by show (1 : Int) ≤ _; decide) (Nat.le_refl _)
  obtain rfl := List.mem_singleton.1 hp
  exact ⟨⟨by show (0 : Int) ≤ 0; decide, by show (0 : Int) < 1; decide⟩, ⟨looseN_lt hx, by show (0 : Nat) < _; decide, by show (0 : Nat) < _; decide⟩, Nat.and_self 0⟩
theorem Inv.fork {n : Nat} {t : T} (I : Inv n t) (pid : Int) : Inv (n + 1) (fork t pid).1 := by
  have O := I.ok.fork I.pos pid
  cases hl : live t pid
  · rw [fork_dead hl]; exact I.more
  · by_cases h64 : 64 ≤ t.l.length
    · rw [fork_full hl h64]; exact I.more
    · obtain ⟨p, hf, hp⟩ := live_iff hl
      rw [fork_new hf hp (by omega)] at O ⊢
      obtain ⟨e, hm⟩ := find_pid hf
      have h1 := I.ok.pos p hm
      refine Inv.mk' O (fun q hq => ?_) (by show 0 ≤ t.last + 1; have := I.pos; omega) (by show t.last + 1 ≤ _; have := I.last; omega) (by show t.ends.length ≤ _; have := I.ends; omega)
      rcases List.mem_append.1 hq with hq | hq
      · exact I.each q hq
      · obtain rfl := List.mem_singleton.1 hq
        exact ⟨⟨by show 0 ≤ pid; omega, by show pid < t.last + 1; omega⟩, ⟨(I.sets p hm).1, by show (0 : Nat) < _; decide, by show (0 : Nat) < _; decide⟩, Nat.and_self 0⟩
theorem Inv.exit {n : Nat} {t : T} (I : Inv n t) (pid st : Int) : Inv (n + 1) (exit t pid st).1 := by
  have O := I.ok.exit pid st
  cases hl : live t pid
  · rw [exit_no st hl]; exact I.more
  · obtain ⟨p, hf, hp⟩ := live_iff hl
    have e : (Kn.exit t pid st).1 = ⟨t.l.filterMap (left t pid (st % 256) p.par), t.last, t.ends ++ [(pid, st % 256)]⟩ := by unfold Kn.exit; rw [hf]; simp [hp]
    rw [e] at O ⊢
    refine Inv.mk' O (fun q hq => ?_) I.pos (by show t.last ≤ _; have := I.last; omega) (by simp; exact I.ends)
    obtain ⟨r, hr, e⟩ := List.mem_filterMap.1 hq
    have hR := I.each r hr
    have h1 := I.ok.pos r hr
    unfold left at e
    split at e
    · split at e
      · cases e; exact ⟨hR.1, ⟨by show (0 : Nat) < _; decide, by show (0 : Nat) < _; decide, by show (0 : Nat) < _; decide⟩, Nat.and_self 0⟩
      · cases e
    · split at e
      · split at e
        · cases e; exact ⟨⟨Int.le_refl _, by show (0 : Int) < r.pid; omega⟩, hR.2⟩
        · cases e
      · cases e; exact hR
theorem Inv.put {n : Nat} {t : T} (I : Inv n t) (pid : Int) {f : P → P} (hf : ∀ p, (f p).pid = p.pid) (h : ∀ p ∈ t.l, p.pid = pid → Pok (f p)) : Inv n (put t pid f) := by
  refine Inv.mk' (I.ok.put pid hf) (fun q hq => ?_) I.pos I.last I.ends
  obtain ⟨r, hr, rfl⟩ := List.mem_map.1 hq
  split
  · rename_i e; exact h r hr e
  · exact I.each r hr
theorem bit_and {c : Nat} {s : Int} (h : has c s = true) : Sig.bitN s &&& c = Sig.bitN s := by
  unfold has Sig.hasB at h
  simp only [Bool.and_eq_true] at h
  apply Nat.eq_of_testBit_eq
  intro i
  rw [Nat.testBit_and, bit_bitN]
  by_cases hi : s.toNat = i
  · subst hi; simp [h.1, h.2]
  · simp [hi]
theorem Inv.send {n : Nat} {t : T} (I : Inv n t) (pid s : Int) : Inv (n + 1) (send Sig.mildB t pid s).1 := by
  unfold Kn.send
  split
  · exact I.more
  · split
    · rename_i hno hc
      refine (I.put pid (f := fun p => { p with pe := add p.pe s }) (fun _ => rfl) fun p hp e => ?_).more
      have hf : find t pid = some p := by rw [← e]; exact find_mem I.ok hp
      have hP := I.each p hp
      have hca : has p.ca s = true := by
        have hl : live t pid = true := by cases h : live t pid <;> simp_all
        have hpl : p.live = true := by unfold live at hl; rw [hf] at hl; simpa using hl
        rw [how_live s hf hpl] at hc
        unfold howP at hc
        cases h1 : has p.ig s
        · cases h2 : has p.ca s
          · simp [h1, h2] at hc
          · rfl
        · simp [h1] at hc
      refine ⟨hP.1, ⟨hP.2.1.1, hP.2.1.2.1, add_lt hP.2.1.2.2 s⟩, ?_⟩
      show (p.pe ||| Sig.bitN s) &&& p.ca = p.pe ||| Sig.bitN s
      rw [Nat.and_or_distrib_right, hP.2.2, bit_and hca]
    · split
      · exact I.exit pid _
      · exact I.more
theorem Inv.reap {n : Nat} {t : T} (I : Inv n t) (par pid : Int) : Inv (n + 1) (reap t par pid).1 := by
  have O := I.ok.reap par pid
  unfold Kn.reap at O ⊢
  split
  · exact I.more
  · rename_i h
    rw [if_neg h] at O
    exact (Inv.mk' O (fun p hp => I.each p (List.mem_filter.1 hp).1) I.pos I.last I.ends).more
theorem Inv.putS {n : Nat} {t : T} (I : Inv n t) (pid s k : Int) : Inv (n + 1) (putS Sig.fixedB t pid s k).1 := by
  unfold Kn.putS
  split
  · exact I.more
  · refine (I.put pid (f := fun p => setP p s k) (fun _ => rfl) fun p hp e => ?_).more
    have hP := I.each p hp
    refine ⟨hP.1, ⟨?_, ?_, ?_⟩, ?_⟩
    · show (if k = 1 then _ else _) < _
      split
      · exact add_lt (del_lt hP.2.1.1 s) s
      · exact del_lt hP.2.1.1 s
    · show (if k = 2 then _ else _) < _
      split
      · exact add_lt (del_lt hP.2.1.2.1 s) s
      · exact del_lt hP.2.1.2.1 s
    · show (if k = 2 then _ else _) < _
      split
      · exact hP.2.1.2.2
      · exact del_lt hP.2.1.2.2 s
    · have := setP_pe hP.2.2 hP.2.1.2.2 s k
      have h1 : (setP p s k).pe &&& (setP p s k).ca = (setP p s k).pe := by
        rw [← this, Nat.and_assoc, Nat.and_self]
      exact h1
theorem Inv.take {n : Nat} {t : T} (I : Inv n t) (pid s : Int) : Inv (n + 1) (take t pid s).1 := by
  unfold Kn.take
  split
  · exact I.more
  · refine (I.put pid (f := fun p => { p with pe := del p.pe s }) (fun _ => rfl) fun p hp e => ?_).more
    have hP := I.each p hp
    refine ⟨hP.1, ⟨hP.2.1.1, hP.2.1.2.1, del_lt hP.2.1.2.2 s⟩, ?_⟩
    show (p.pe &&& _) &&& p.ca = p.pe &&& _
    rw [Nat.and_assoc, Nat.and_comm _ p.ca, ← Nat.and_assoc, hP.2.2]
end Kn
end Go.Proofs.Ytlebglnlkkoakaa
