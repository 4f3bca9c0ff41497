/- A process is written: Take, Put. -/
import Derived.Test.YtlebglnlkkoakaaKnC
namespace Go.Proofs.Ytlebglnlkkoakaa
open Go.RowKit Go.Maps
namespace Kn
theorem Fr.set (w : World) (b j : Nat) (u : Value) : Fr w (w.setCell ⟨b, j, none⟩ u) (· = b) :=
  ⟨rfl, rfl, rfl, by simp, fun k _ hk => Below.heap_setCell _ _ _ _ hk⟩
theorem Fr.and {w w1 w2 : World} {S : Nat → Prop} (h : Fr w w1 S) (k : Fr w1 w2 S) : Fr w w2 S := h.then k fun _ e => .inl e
theorem pid_one {t : T} (O : Ok t) {pid : Int} {p q : P} (hf : find t pid = some p) (hq : q ∈ t.l) (e : q.pid = pid) : q = p := by
  obtain ⟨e2, hp⟩ := find_pid hf
  have rise : ∀ {l : List P}, l.Pairwise (fun p q => p.pid < q.pid) → p ∈ l → q ∈ l → q = p := by
    intro l
    induction l with
    | nil => intro _ h _; cases h
    | cons a r ih =>
      intro hr h1 h2
      obtain ⟨ha, hr⟩ := List.pairwise_cons.1 hr
      rcases List.mem_cons.1 h1 with e1 | k1
      · rcases List.mem_cons.1 h2 with e3 | k2
        · rw [e1, e3]
        · have := ha q k2; rw [e1] at e2; omega
      · rcases List.mem_cons.1 h2 with e3 | k2
        · have := ha p k1; rw [e3] at e; omega
        · exact ih hr k1 k2
  exact rise O.rise hp hq
theorem find_put_some {t : T} {pid : Int} {f : P → P} (hf : ∀ p, (f p).pid = p.pid) (x : Int) (a : Nat) : (find (put t pid f) x).map (fun _ => a) = (find t x).map (fun _ => a) := by
  unfold find put
  simp only
  rw [List.find?_map, Option.map_map]
  have he : ((fun p => p.pid == x) ∘ fun p => if p.pid = pid then f p else p) = fun p : P => p.pid == x := by
    funext q
    simp only [Function.comp]
    split
    · rw [hf]
    · rfl
  rw [he]; rfl
theorem find_put_isSome {t : T} {pid : Int} {f : P → P} (hf : ∀ p, (f p).pid = p.pid) (x : Int) : (find (put t pid f) x).isSome = (find t x).isSome := by
  have := congrArg Option.isSome (find_put_some (t := t) (pid := pid) hf x 0)
  simpa using this
theorem Tb.wrote {w w' : World} {B : Nat} {h : H} {t : T} (T : Tb w B h t) (O : Ok t) {pid : Int} {p : P} (hf : find t pid = some p) {f : P → P} (hfp : ∀ q, (f q).pid = q.pid)
    (F : Fr w w' (· = h.ad pid)) (hr : w'.heap[h.ad pid]? = some (.cells (pcells (f p)) 82 (0, 0))) : Tb w' B h (put t pid f) ∧ Went w w' h t h (put t pid f) := by
  obtain ⟨e, hp⟩ := find_pid hf
  subst e
  have N := T.ad_ne hp
  have N0 := T.tb_ne
  have ot : ∀ k, k < w.heap.size → k ≠ h.ad p.pid → w'.heap[k]? = w.heap[k]? := fun k hk hn => F.block k hk hn
  have mem : ∀ q ∈ (put t p.pid f).l, ∃ r ∈ t.l, r.pid = q.pid ∧ ((r = p ∧ q = f p) ∨ (r.pid ≠ p.pid ∧ q = r)) := fun q hq => by
    obtain ⟨r, hr, rfl⟩ := List.mem_map.1 hq
    by_cases e : r.pid = p.pid
    · have := pid_one O hf hr e
      subst this
      exact ⟨r, hp, by simp [hfp], .inl ⟨rfl, by simp⟩⟩
    · exact ⟨r, hr, by simp [e], .inr ⟨e, by simp [e]⟩⟩
  have mine : ∀ k, Mine h (put t p.pid f) k → Mine h t k := by
    rintro k (e | e | e | ⟨q, hq, rfl⟩)
    · exact .inl e
    · exact .inr (.inl e)
    · exact .inr (.inr (.inl e))
    · obtain ⟨r, hr, e, _⟩ := mem q hq
      exact .inr (.inr (.inr ⟨r, hr, by rw [e]⟩))
  refine ⟨⟨?_, ?_, fun x => (T.keys x).trans (congrArg enc (find_put_some hfp x _).symm), fun x => (T.has x).trans (find_put_isSome hfp x).symm, ?_, ?_, ?_, ?_, T.tb0, T.mb0, ?_⟩, ⟨?_, ?_, ?_, ?_, ?_⟩, fun k hk => .inl (mine k hk), fun _ _ => rfl, Int.le_refl _⟩
  · rw [ot _ (T.lt _ (.inl rfl)).2 (Ne.symm N.1)]; exact T.cells
  · have m := T.map
    obtain ⟨es, clock, hh, F', hs, hD⟩ := m
    exact ⟨es, clock, (ot _ (T.lt _ (.inr (.inl rfl))).2 (Ne.symm N.2.1)).trans hh, F', by simpa [put] using hs, hD⟩
  · simpa [put] using T.size
  · intro q hq
    obtain ⟨r, hr2, e, ⟨rfl, rfl⟩ | ⟨hne, rfl⟩⟩ := mem q hq
    · rw [hfp]; exact hr
    · rw [ot _ (T.lt _ (.inr (.inr (.inr ⟨q, hr2, rfl⟩)))).2 fun e => hne (T.apart q hr2 p hp e)]
      exact T.proc q hr2
  · intro q hq r hr2 e
    obtain ⟨q', hq', e1, _⟩ := mem q hq
    obtain ⟨r', hr', e2, _⟩ := mem r hr2
    rw [← e1, ← e2] at e ⊢
    exact T.apart _ hq' _ hr' e
  · obtain ⟨h1, h2⟩ := T.ends
    refine ⟨h1, ?_⟩
    rcases h2 with h2 | ⟨g, cap, cur, hv, hg, hh, r⟩
    · exact .inl h2
    · have hgo : h.ev.ownBlock = some g := by rw [hv]; rfl
      exact .inr ⟨g, cap, cur, hv, hg, (ot _ (T.lt _ (.inr (.inr (.inl hgo)))).2 fun e => N.2.2 (by rw [hgo, e])).trans hh, r⟩
  · intro q hq
    obtain ⟨r, hr2, e, _⟩ := mem q hq
    rw [← e]; exact T.ad0 r hr2
  · exact F.os
  · exact F.tape
  · exact F.output
  · exact F.size
  · exact fun k hk hn => ot k hk fun e => hn (.inr (.inr (.inr ⟨p, hp, e⟩)))
theorem take_dead {t : T} {pid : Int} (s : Int) (hl : live t pid = false) : take t pid s = (t, false) := by
  unfold take
  rw [dead_pending hl, if_pos]
  unfold has Sig.hasB
  simp
/-- A call on a table that changed it so. -/
def Chg (w : World) (B : Nat) (h : H) (t t' : T) (w' : World) : Prop := ∃ h', h'.tb = h.tb ∧ Tb w' B h' t' ∧ Went w w' h t h' t'
theorem Chg.refl {w : World} {B : Nat} {h : H} {t : T} (T : Tb w B h t) : Chg w B h t t w := ⟨h, rfl, T, Went.refl _ _ _⟩
set_option maxHeartbeats 800000 in
theorem take_any {w : World} {B : Nat} {h : H} {t : T} (T : Tb w B h t) (O : Ok t) (S : Sets t) (pid s : Int) (hpid : I64 pid) :
    Calls Try.prog 20 #[.pointer (some ⟨h.tb, 0, none⟩), .int .i64 pid, .int .i64 s] w fun e w' => e = .returned (.bool (take t pid s).2) ∧ Chg w B h t (take t pid s).1 w' := by
  have HA := Lib.hid (alive_any T pid hpid)
  cases hl : live t pid
  · rw [lad_no hl] at HA
    rw [take_dead s hl]
    have HT := Lib.hid T
    clear T
    go_enter Try.func20, Try.ntmps20
    go_wp2_with (go_at_call 46; refine HA.out.mono ?_; rintro e w' ⟨rfl, rfl⟩; rw [ptr])
    go_ret
    exact ⟨rfl, Chg.refl HT.out⟩
  · rw [lad_yes hl] at HA
    obtain ⟨p, hf, hpl⟩ := live_iff hl
    have hr := T.found hf
    have q5 : w.cell? ⟨h.ad pid, 5, none⟩ = some (.int .u32 p.pe) := Lib.cell_of_heap hr 5
    have f5 : w.frozen? ⟨h.ad pid, 5, none⟩ = false := frozen_of_row _ _ _ _ _ hr
    have HT := Lib.hid T; have HO := Lib.hid O; have HR := Lib.hid hr; have HP := Lib.hid (S.at hf).2.2; have HF := Lib.hid hf
    have hpend := pending_live hf hpl
    have HS := fun w => Sig.has_any p.pe s HP.out w
    clear T O S hr hf hl hpl
    cases hh : has p.pe s
    · rw [show take t pid s = (t, false) by unfold take; rw [hpend, hh]; rfl]
      rw [show Sig.hasB p.pe s = false from hh] at HS
      have HS := Lib.hid HS
      go_enter Try.func20, Try.ntmps20
      go_wp2_with (first
        | (go_at_call 46; refine HA.out.mono ?_; rintro e w' ⟨rfl, rfl⟩; rw [ptr])
        | (go_at_call 33; refine (HS.out _).mono ?_; rintro e w' ⟨rfl, rfl⟩))
      go_ret
      exact ⟨rfl, Chg.refl HT.out⟩
    · rw [show take t pid s = (put t pid fun p => { p with pe := del p.pe s }, true) by unfold take; rw [hpend, hh]; rfl]
      rw [show Sig.hasB p.pe s = true from hh] at HS
      have HS := Lib.hid HS
      go_enter Try.func20, Try.ntmps20
      go_wp2_with (first
        | (go_at_call 46; refine HA.out.mono ?_; rintro e w' ⟨rfl, rfl⟩; rw [ptr])
        | (go_at_call 33; refine (HS.out _).mono ?_; rintro e w' ⟨rfl, rfl⟩)
        | (go_at_call 56; refine (Sig.without_any p.pe s HP.out _).mono ?_; rintro e w' ⟨rfl, rfl⟩))
      go_ret
      have := HT.out.wrote HO.out HF.out (f := fun p => { p with pe := del p.pe s }) (fun _ => rfl) (Fr.set _ _ 5 _) (heap_setCell_same _ _ 5 _ _ _ HR.out)
      exact ⟨rfl, h, rfl, this.1, this.2⟩
end Kn
end Go.Proofs.Ytlebglnlkkoakaa
