/- An end in memory: Ends, remainder, abandon, Exit; Reap. -/
import Derived.Test.YtlebglnlkkoakaaKnI
namespace Go.Proofs.Ytlebglnlkkoakaa
open Go.RowKit Go.Maps
namespace Kn
theorem find_drop {t : T} (pid x : Int) : find (drop t pid) x = if x = pid then none else find t x := by
  unfold find drop
  simp only
  by_cases h : x = pid
  · rw [if_pos h]
    refine List.find?_eq_none.2 fun p hp e => ?_
    have := (List.mem_filter.1 hp).2
    simp at this e; omega
  · rw [if_neg h, List.find?_filter]
    congr 1
    funext p
    by_cases h2 : p.pid = x
    · simp [h2, h]
    · simp [h2]
theorem drop_mem {t : T} {pid : Int} {p : P} (h : p ∈ (drop t pid).l) : p ∈ t.l ∧ p.pid ≠ pid := by
  obtain ⟨h1, h2⟩ := List.mem_filter.1 h
  exact ⟨h1, by simpa using h2⟩
theorem drop_len {t : T} (O : Ok t) (pid : Int) : (drop t pid).l.length + (if (find t pid).isSome then 1 else 0) = t.l.length := by
  have : ∀ {l : List P}, l.Pairwise (fun p q => p.pid < q.pid) → (l.filter fun p => p.pid != pid).length + (if (l.find? fun p => p.pid == pid).isSome then 1 else 0) = l.length := by
    intro l
    induction l with
    | nil => intro _; rfl
    | cons a r ih =>
      intro h
      obtain ⟨h1, h2⟩ := List.pairwise_cons.1 h
      have := ih h2
      by_cases ha : a.pid = pid
      · have hn : r.find? (fun p => p.pid == pid) = none := List.find?_eq_none.2 fun p hp e => by
          have := h1 p hp; simp at e; omega
        rw [hn] at this
        rw [List.filter_cons_of_neg (by simp [ha]), List.find?_cons_of_pos (by simp [ha])]
        simp at this ⊢; omega
      · rw [List.filter_cons_of_pos (by simp [ha]), List.find?_cons_of_neg (by simp [ha])]
        simp only [List.length_cons]; omega
  exact this O.rise
/-- A table of which one entry was struck. -/
theorem Tb.dropped {w w' : World} {B n : Nat} {h : H} {t : T} (T : Tb w B h t) (O : Ok t) (pid : Int) (hpid : I64 pid)
    (F : Fr w w' (· = h.mb)) (hm : w'.ownsMap Try.prog 3 pe h.mb n (h.D.del (.int .i64 pid))) : Chg w B h t (drop t pid) w' := by
  have N0 := T.tb_ne
  have ot : ∀ k, Mine h t k → k ≠ h.mb → w'.heap[k]? = w.heap[k]? := fun k hk hn => F.block k (T.lt k hk).2 hn
  have hsz : Maps.size (h.D.del (.int .i64 pid)) = (drop t pid).l.length := by
    have h1 := Maps.size_del (T.map.tidy keyed) (k := .int .i64 pid)
    have h2 := drop_len O pid
    rw [T.has, T.size] at h1
    omega
  refine ⟨{ h with D := h.D.del (.int .i64 pid) }, rfl, ⟨?_, ?_, ?_, ?_, hsz, ?_, ?_, ?_, T.tb0, T.mb0, ?_⟩, ⟨⟨F.os, F.tape, F.output, F.size, fun k hk hn => F.block k hk fun e => hn (.inr (.inl e))⟩, ?_, fun _ _ => rfl, Int.le_refl _⟩⟩
  · rw [ot _ (.inl rfl) (Ne.symm N0.1)]; exact T.cells
  · have := tight hm; rwa [hsz] at this
  · intro x
    rw [find_drop]
    by_cases hx : x = pid
    · subst hx; rw [if_pos rfl]; exact Maps.atKey_del_same _
    · rw [if_neg hx]; exact (Maps.atKey_del_other (litInj hx) _).trans (T.keys x)
  · intro x
    rw [find_drop]
    by_cases hx : x = pid
    · subst hx; rw [if_pos rfl]; exact Maps.has_del_same
    · rw [if_neg hx]; exact (Maps.has_del_other (litInj hx)).trans (T.has x)
  · intro q hq
    have hq := (drop_mem hq).1
    show w'.heap[h.ad q.pid]? = _
    rw [ot _ (.inr (.inr (.inr ⟨q, hq, rfl⟩))) (T.ad_ne hq).2.1]; exact T.proc q hq
  · exact fun q hq r hr e => T.apart q (drop_mem hq).1 r (drop_mem hr).1 e
  · obtain ⟨h1, h2⟩ := T.ends
    refine ⟨h1, ?_⟩
    rcases h2 with h2 | ⟨g, cap, cur, hv, hg, hh, r⟩
    · exact .inl h2
    · have hgo : h.ev.ownBlock = some g := by rw [hv]; rfl
      exact .inr ⟨g, cap, cur, hv, hg, (ot _ (.inr (.inr (.inl hgo))) fun e => N0.2.2 (by rw [hgo, e])).trans hh, r⟩
  · exact fun q hq => T.ad0 q (drop_mem hq).1
  · rintro k (e | e | e | ⟨q, hq, e⟩)
    · exact .inl (.inl e)
    · exact .inl (.inr (.inl e))
    · exact .inl (.inr (.inr (.inl e)))
    · exact .inl (.inr (.inr (.inr ⟨q, (drop_mem hq).1, e⟩)))
theorem fr_turned {w w' : World} {b : Nat} (h : w.mapTurned w' b) : Fr w w' (· = b) := by
  have g := h.grown
  exact ⟨g.os, g.tape, g.output, g.size, fun k hk hn => g.block k hk fun e => hn (Option.some.inj e)⟩
theorem Ok.drop {t : T} (O : Ok t) (pid : Int) : Ok (drop t pid) :=
  ⟨List.Pairwise.sublist List.filter_sublist O.rise, fun p hp => O.pos p (List.mem_filter.1 hp).1, Nat.le_trans (List.length_filter_le _ _) O.len⟩
theorem infoEnd : (Try.prog.info? 87).map (fun i => (i.zero, i.size, i.bytes)) = some (some (.agg #[.int .i64 0, .int .i64 0]), 2, 16) := by kernel_rfl
theorem sizeEnd (w : World) : (Go.sizeOf 87).run Try.prog w = .ok 2 w := by kernel_rfl
theorem ecells_len (l : List (Int × Int)) : (ecells l).length = l.length * 2 := by
  unfold ecells
  induction l with
  | nil => rfl
  | cons a r ih => rw [List.flatMap_cons, List.length_append, ih]; simp; omega
theorem ecells_one {l : List (Int × Int)} : ∀ u ∈ ecells l, u.oneCell' = true := by
  intro u hu
  unfold ecells at hu
  obtain ⟨e, _, hu⟩ := List.mem_flatMap.1 hu
  simp at hu
  rcases hu with rfl | rfl <;> rfl
set_option maxRecDepth 100000 in
set_option maxHeartbeats 1600000 in
theorem clone_any {w : World} {base : Nat} {v : Value} {l : List (Int × Int)} (hown : w.ownsRow base 87 2 v l.length (ecells l)) (hl : l.length ≤ 100000) :
    Calls Try.prog 59 #[v] w fun e w' => ∃ v', e = .returned v' ∧ w'.ownsRow w.heap.size 87 2 v' l.length (ecells l) ∧ Below w.heap.size w w' := by
  obtain ⟨i0, hi, hz0, hz1, hz2⟩ := info_parts infoEnd
  have qT : ∀ (w : World) (a : Option Addr) (n c n' c' : Nat), (binOp .eql 29 (.slice a n c) (.slice none n' c')).run Try.prog w = .ok (.bool a.isNone) w := fun w a n c n' c' => Lib.run_eql_slice_nil w _ _ a n c n' c' Try.underlying29
  have hlen := ecells_len l
  have hone := @ecells_one l
  rcases hown.2 with ⟨rfl, h0⟩ | ⟨g, cap, cur, rfl, hbase, hb, h1, h2, h3, h4⟩
  · obtain rfl : l = [] := List.length_eq_zero_iff.1 h0
    clear hown
    go_enter Try.func59, Try.ntmps59
    go_wp2_with fail
    go_ret
    exact ⟨_, rfl, World.ownsRow_nil _ _ _ _, Below.refl _ _⟩
  · have hc : ∀ j u, (ecells l)[j]? = some u → w.cell? ⟨g, 0 + j, none⟩ = some u := by
      intro j u hj
      have hjl : j < (ecells l).length := (List.getElem?_eq_some_iff.1 hj).1
      have h5 : (cur.toList.take (l.length * 2))[j]? = some u := by rw [h4]; exact hj
      rw [List.getElem?_take_of_lt (by omega)] at h5
      rw [Nat.zero_add, Lib.cell_of_heap hb j]
      rw [← Array.getElem?_toList]; exact h5
    have A := Lib.hid hc; have HO := Lib.hid hone
    clear hown hc hb h3 h4 hone
    go_enter Try.func59, Try.ntmps59
    go_wp2_with (at_builtin; refine wpList_append_own _ rfl _ _ 29 rfl w.heap.size 87 i0 (.agg #[.int .i64 0, .int .i64 0]) 2 16 Try.underlying29 hi hz0 hz1 hz2 rfl (by decide) _ _ _ rfl (World.ownsRow_made w #[] 0 (Nat.le_refl _) (Nat.zero_le _) (by simp)) ⟨g, 0, none⟩ l.length cap (ecells l) rfl ?qc1 ?qc2 ?qc3 ?qc4 ?qc5 ?qc6 ?_)
    case qc1 => exact hlen
    case qc2 =>
      intro j u hj
      rw [Addr.add_lit]
      exact Lib.cell?_alloc_some _ (A.out j u hj)
    case qc3 => exact HO.out
    case qc4 => rw [Nat.zero_add]; unfold maxLen; omega
    case qc5 => rw [Nat.zero_add]; omega
    case qc6 => simp
    intro v' w1 hown' hgrow hnil
    go_wp2
    go_ret
    exact ⟨v', rfl, by simpa using hown', ((Below.refl _ w).alloc (Nat.le_refl _) _).grown hgrow (by simp) (by intro k hk; simp [Value.ownBlock] at hk; omega)⟩
set_option maxHeartbeats 800000 in
theorem ends_any {w : World} {B : Nat} {h : H} {t : T} (T : Tb w B h t) (hl : t.ends.length ≤ 100000) :
    Calls Try.prog 31 #[.pointer (some ⟨h.tb, 0, none⟩)] w fun e w' => ∃ v', e = .returned v' ∧ w'.ownsRow w.heap.size 87 2 v' t.ends.length (ecells t.ends) ∧ Below w.heap.size w w' := by
  have c2 := T.c2
  have HC := Lib.hid (clone_any T.ends hl)
  clear T
  go_enter Try.func31, Try.ntmps31
  go_wp2_with fail
  refine HC.out.mono ?_
  rintro e w1 ⟨v', rfl, hown, hb⟩
  have HO := Lib.hid hown; have HB := Lib.hid hb
  clear hown hb
  go_wp2_with fail
  go_ret
  exact ⟨v', rfl, HO.out, HB.out⟩
theorem rem_eq (s : Int) : ((s.tmod 256) + 256) % 256 = s % 256 := by
  by_cases h : 0 ≤ s
  · rw [Int.tmod_eq_emod_of_nonneg h]; omega
  · obtain ⟨n, rfl⟩ : ∃ n : Int, s = -n := ⟨-s, by omega⟩
    rw [Int.neg_tmod, Int.tmod_eq_emod_of_nonneg (show 0 ≤ n by omega)]; omega
set_option maxHeartbeats 800000 in
theorem rem_any (s : Int) (w : World) : Calls Try.prog 54 #[.int .i64 s] w fun e w' => e = .returned (.int .i64 (s % 256)) ∧ w' = w := by
  have h := rem_eq s
  have b : -255 ≤ s.tmod 256 ∧ s.tmod 256 ≤ 255 := by
    by_cases h : 0 ≤ s
    · rw [Int.tmod_eq_emod_of_nonneg h]; omega
    · obtain ⟨n, rfl⟩ : ∃ n : Int, s = -n := ⟨-s, by omega⟩
      rw [Int.neg_tmod, Int.tmod_eq_emod_of_nonneg (show 0 ≤ n by omega)]; omega
  have H := Lib.hid h
  clear h
  go_enter Try.func54, Try.ntmps54
  go_wp2_with fail
  go_ret
  exact ⟨congrArg (fun z => Ending.returned (.int .i64 z)) H.out, rfl⟩
end Kn
end Go.Proofs.Ytlebglnlkkoakaa
