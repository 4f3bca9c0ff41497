/- What a word token is read as is right; what stands between tokens. -/
import Derived.Test.YtgpnleenejjnmaaLxU
namespace Go.Proofs.Ytgpnleenejjnmaa
open Go.RowKit Go.Sort
namespace Lx
open Cls Pt

/-- There is a first part, and it isn't a bare text that begins with byte 35. -/
def headOK : PL → Prop
  | .nil => False
  | .cons k q t _ _ _ => k = 1 → q = false → ∃ c u, t.data.toList = c :: u ∧ c ≠ 35
theorem head_app : ∀ {l : PL} (m : PL), headOK l → headOK (l.app m)
  | .cons _ _ _ _ _ _, _, h => h
theorem head_text {a : A} (h : headOK a.flush) (s : List UInt8) (q : Bool) : headOK (a.text s q).flush := by
  obtain ⟨l, cur⟩ := a
  match cur, h with
  | none, h => exact head_app _ h
  | some (q', bs), h =>
    cases hq : (q' == q)
    · have he : A.text ⟨l, some (q', bs)⟩ s q = ⟨A.flush ⟨l, some (q', bs)⟩, some (q, s)⟩ := by simp [A.text, A.begins, hq, A.bytes]
      rw [he]
      exact head_app _ h
    · obtain rfl : q' = q := by simpa using hq
      have he : A.text ⟨l, some (q', bs)⟩ s q' = ⟨l, some (q', bs ++ s)⟩ := by simp [A.text, A.begins, A.bytes]
      rw [he]
      cases l with
      | nil =>
        intro h1 h2
        obtain ⟨c, u, hc, hn⟩ := h h1 h2
        refine ⟨c, u ++ s, ?_, hn⟩
        have hc' : bs = c :: u := by simpa using hc
        simp [hc']
      | cons k q2 t o f r => exact h
theorem head_add {a : A} (h : headOK a.flush) (p : PL) : headOK (a.add p).flush := head_app p h
theorem head_join : ∀ (m : PL) {a : A}, headOK a.flush → headOK (a.join m).flush
  | .nil, _, h => h
  | .cons k q t o f r, a, h => by
    rw [A.join_cons]
    refine head_join r ?_
    unfold A.step
    split
    · exact head_text h _ _
    · exact head_add h _
theorem head_bare (s : ByteArray) : ∀ n (d : Nat) (a : A) (i j : Nat) (l : PL), bareF n s d a i = .ok l j → headOK a.flush → headOK l := by
  intro n
  induction n with
  | zero => exact fun _ _ _ _ _ h => by simp [bareF] at h
  | succ n ih =>
    intro d a i j l h ha
    rw [bareF] at h
    split at h
    · cases h; exact ha
    · split at h
      · split at h
        · exact ih _ _ _ _ _ h (head_text ha _ _)
        · cases h
      · split at h
        · split at h
          · cases h
          · split at h
            · cases h
            · exact ih _ _ _ _ _ h (head_join _ ha)
        · split at h
          · split at h
            · cases h
            · refine ih _ _ _ _ _ h ?_
              unfold escA
              split
              · exact ha
              · exact head_text ha _ _
          · split at h
            · cases h
            · split at h
              · split at h
                · cases h
                · exact ih _ _ _ _ _ h (head_add ha _)
              · split at h
                · cases h; exact ha
                · exact ih _ _ _ _ _ h (head_text ha _ _)

theorem head_nz {m : PL} {d : Nat} (h : rightL none m 2 d = true) : headOK (A0.join (nz m)).flush := by
  cases m with
  | nil =>
    show headOK (A0.join (A.lit true [])).flush
    rw [A.lit, A.join_cons, A.join_nil, A.step, if_pos (by rfl)]
    intro _ h; cases h
  | cons k q t o f r =>
    rw [right_cons] at h
    simp only [Bool.and_eq_true, Bool.not_eq_true'] at h
    obtain ⟨⟨⟨h1, _⟩, h3⟩, h4⟩ := h
    obtain rfl : q = true := by cases q <;> simp_all
    show headOK (A0.join (.cons k true t o f r)).flush
    rw [A.join_cons]
    refine head_join r ?_
    unfold A.step
    split
    · intro _ h; cases h
    · intro _ h; cases h

theorem prefix_two {s : ByteArray} {i : Nat} (h : i < s.size) : Lib.hasPrefix (restAt s i) [92, 10] = (((byteAt s i).toNat : Int) == 92 && (decide (i + 1 < s.size) && ((byteAt s (i + 1)).toNat : Int) == 10)) := by
  have hu : ∀ (c m : UInt8), (m == c) = ((c.toNat : Int) == (m.toNat : Int)) := fun c m => by
    rw [Bool.eq_iff_iff, beq_iff_eq, beq_iff_eq]
    exact ⟨fun h => by rw [h], fun h => UInt8.toNat_inj.1 (by omega)⟩
  rw [restAt_cons h]
  unfold Lib.hasPrefix
  rw [List.isPrefixOf_cons_cons, hu]
  by_cases h2 : i + 1 < s.size
  · rw [restAt_cons h2, List.isPrefixOf_cons_cons, hu]
    simp [h2, byteAt]
  · rw [restAt_nil (by omega)]
    simp [h2, List.isPrefixOf]

/-- What a word token is read as. -/
theorem word_good {s : ByteArray} {i j : Nat} {l : PL} (hi : i < s.size) (h : bareF (s.size + 1) s 0 A0 i = .ok l j) (hb : blankB (byteAt s i).toNat = false) (hp : Lib.hasPrefix (restAt s i) [92, 10] = false) (h35 : ((byteAt s i).toNat : Int) ≠ 35) (h10 : byteAt s i ≠ 10) (hsg : signB (byteAt s i).toNat = false) :
    rightW l = true ∧ i < j ∧ j ≤ s.size := by
  have hr : rightL none l 0 1 = true := (right_all s (s.size + 1)).2.1 0 A0 i j l h (Rt.start _ _)
  have hh : headOK l ∧ i < j ∧ j ≤ s.size := by
    have he := (ends_all s s.size).2.1
    have hb0 := head_bare s s.size
    rw [bareF] at h
    split at h
    · omega
    · split at h
      · split at h
        · rename_i h0
          have hn : (Lib.indexByte (restAt s (i + 1)) 39).toNat < (restAt s (i + 1)).length := by
            have := (Lib.indexByte_some (l := restAt s (i + 1)) (c := 39) (o := (Lib.indexByte (restAt s (i + 1)) 39).toNat) (by omega)).1
            exact (List.getElem?_eq_some_iff.1 this).1
          rw [restAt_len] at hn
          have := he _ _ _ _ _ h (by omega)
          exact ⟨hb0 _ _ _ _ _ h (fun _ h => by cases h), by omega, this.2⟩
        · cases h
      · split at h
        · split at h
          · cases h
          · rename_i m j' hm
            have h1 := (ends_all s s.size).1 _ _ _ _ _ _ hm (by omega)
            split at h
            · cases h
            · have := he _ _ _ _ _ h (by omega)
              exact ⟨hb0 _ _ _ _ _ h (head_nz ((right_all s s.size).1 _ _ _ _ _ _ hm (Rt.start _ _))), by omega, this.2⟩
        · split at h
          · rename_i h92
            split at h
            · cases h
            · have := he _ _ _ _ _ h (by omega)
              refine ⟨hb0 _ _ _ _ _ h ?_, by omega, this.2⟩
              rw [prefix_two hi, h92] at hp
              rw [decide_eq_true (show i + 1 < s.size by omega)] at hp
              unfold escA
              rw [if_neg (by simpa using hp)]
              intro _ h; cases h
          · split at h
            · cases h
            · split at h
              · split at h
                · cases h
                · rename_i p j' hpp
                  have h1 := (ends_all s s.size).2.2 _ _ _ _ _ hpp hi
                  have := he _ _ _ _ _ h h1.2.1
                  obtain ⟨t, o, f, rfl, _⟩ := h1.2.2
                  exact ⟨hb0 _ _ _ _ _ h (fun h => by cases h), by omega, this.2⟩
              · rename_i k39 k34 k92 k96 k36
                split at h
                · rename_i hst
                  exfalso
                  have hn10 : ((byteAt s i).toNat : Int) ≠ 10 := fun h => h10 (UInt8.toNat_inj.1 (by show (byteAt s i).toNat = 10; omega))
                  unfold stopB bareB breakB quoteB at hst
                  unfold blankB at hb
                  simp_all
                · have := he _ _ _ _ _ h (by omega)
                  refine ⟨hb0 _ _ _ _ _ h (fun _ _ => ⟨byteAt s i, [], rfl, fun hc => h35 (by rw [hc]; rfl)⟩), by omega, this.2⟩
  obtain ⟨h1, h2⟩ := hh
  refine ⟨?_, h2⟩
  cases l with
  | nil => exact h1.elim
  | cons k q t o f r =>
    simp only [rightW, hr, Bool.and_true, Bool.not_eq_true']
    cases hk : (k == 1)
    · rfl
    · cases q
      · obtain ⟨c, u, hc, hn⟩ := h1 (by simpa using hk) rfl
        rw [hc]
        show (35 == c && _) = false
        rw [show ((35 : UInt8) == c) = false from by simpa using fun h => hn h.symm]
        rfl
      · rfl

/-- What stands between tokens. -/
def aheadF : Nat → ByteArray → Nat → Nat
  | 0, _, i => i
  | n + 1, s, i =>
    if s.size ≤ i then i
    else if blankB (byteAt s i).toNat then aheadF n s (i + 1)
    else if Lib.hasPrefix (restAt s i) [92, 10] then aheadF n s (i + 2)
    else if ((byteAt s i).toNat : Int) == 35 then
      if 0 ≤ Lib.indexByte (restAt s i) 10 then aheadF n s (i + (Lib.indexByte (restAt s i) 10).toNat) else s.size
    else i
theorem prefix_le {s : ByteArray} {i : Nat} (h : Lib.hasPrefix (restAt s i) [92, 10] = true) : i + 2 ≤ s.size := by
  have := (List.isPrefixOf_iff_prefix.1 h).length_le
  rw [restAt_len] at this
  simp at this
  omega
theorem index_lt {s : ByteArray} {i : Nat} {c : UInt8} (h0 : 0 ≤ Lib.indexByte (restAt s i) c) : i + (Lib.indexByte (restAt s i) c).toNat < s.size := by
  have hn : (Lib.indexByte (restAt s i) c).toNat < (restAt s i).length := by
    have := (Lib.indexByte_some (l := restAt s i) (c := c) (o := (Lib.indexByte (restAt s i) c).toNat) (by omega)).1
    exact (List.getElem?_eq_some_iff.1 this).1
  rw [restAt_len] at hn
  omega
theorem index_pos {s : ByteArray} {i : Nat} (hi : i < s.size) (h : ((byteAt s i).toNat : Int) == 35) (h0 : 0 ≤ Lib.indexByte (restAt s i) 10) : 0 < (Lib.indexByte (restAt s i) 10).toNat := by
  refine Classical.byContradiction fun hn => ?_
  have := (Lib.indexByte_some (l := restAt s i) (c := 10) (o := 0) (by omega)).1
  rw [restAt_cons hi] at this
  simp only [List.getElem?_cons_zero, Option.some.injEq] at this
  unfold byteAt at h
  rw [this] at h
  cases h
theorem ahead_le (s : ByteArray) : ∀ n i, i ≤ s.size → i ≤ aheadF n s i ∧ aheadF n s i ≤ s.size := by
  intro n
  induction n with
  | zero => exact fun i h => ⟨Nat.le_refl _, h⟩
  | succ n ih =>
    intro i hi
    rw [aheadF]
    split
    · exact ⟨Nat.le_refl _, hi⟩
    · split
      · have := ih (i + 1) (by omega); omega
      · split
        · rename_i hp
          have := ih (i + 2) (prefix_le hp); omega
        · split
          · split
            · rename_i h0
              have h1 := index_lt h0
              have := ih _ (Nat.le_of_lt h1); omega
            · omega
          · omega
theorem ahead_end (s : ByteArray) : ∀ n i, i ≤ s.size → s.size < i + n → aheadF n s i < s.size →
    blankB (byteAt s (aheadF n s i)).toNat = false ∧ Lib.hasPrefix (restAt s (aheadF n s i)) [92, 10] = false ∧ ((byteAt s (aheadF n s i)).toNat : Int) ≠ 35 := by
  intro n
  induction n with
  | zero => intro i h1 h2; omega
  | succ n ih =>
    intro i hi hn
    rw [aheadF]
    split
    · omega
    · split
      · exact ih _ (by omega) (by omega)
      · rename_i hb
        split
        · rename_i hp
          exact ih _ (prefix_le hp) (by omega)
        · rename_i hp
          split
          · rename_i h35
            split
            · rename_i h0
              have h1 := index_lt h0
              have h2 := index_pos (by omega) h35 h0
              exact ih _ (Nat.le_of_lt h1) (by omega)
            · omega
          · rename_i h35
            exact fun _ => ⟨by simpa using hb, by simpa using hp, by simpa using h35⟩

end Lx
end Go.Proofs.Ytgpnleenejjnmaa
