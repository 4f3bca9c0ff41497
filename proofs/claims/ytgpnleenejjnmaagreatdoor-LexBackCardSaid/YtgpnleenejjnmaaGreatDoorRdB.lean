/- Right words, written with a blank behind each, are the words that are read. -/
import Derived.Test.YtgpnleenejjnmaaGreatDoorRdA
import Derived.Test.YtgpnleenejjnmaaGreatDoorLxVT
namespace Go.Proofs.YtgpnleenejjnmaaGreatDoor
open Go.RowKit Go.Sort
namespace Lx
open Cls Pt Bd

theorem bare_facts : ∀ n : Fin 256, bareB n = true → blankB n = false ∧ n.val ≠ 10 ∧ signB n = false ∧ n.val ≠ 92 := by decide +kernel
/-- A right word's first byte. -/
theorem first_byte {w : PL} (h : rightW w = true) (x : List UInt8) : ∃ c z, textL w 0 ++ x = c :: z ∧ blankB c.toNat = false ∧ c ≠ 92 ∧ c ≠ 35 ∧ c ≠ 10 ∧ signB c.toNat = false := by
  cases w with
  | nil => cases h
  | cons k q t o f r =>
    simp only [rightW, Bool.and_eq_true, Bool.not_eq_true'] at h
    obtain ⟨h35, hr⟩ := h
    obtain ⟨c, z, e, hc⟩ := Uq.first x hr
    refine ⟨c, z, e, ?_⟩
    have hmark : ∀ c : UInt8, (c = 34 ∨ c = 36 ∨ c = 39) → blankB c.toNat = false ∧ c ≠ 92 ∧ c ≠ 35 ∧ c ≠ 10 ∧ signB c.toNat = false := by
      intro c hc
      rcases hc with rfl | rfl | rfl <;> decide
    rcases hc with ⟨_, h⟩ | ⟨_, n, _⟩ | ⟨_, _, _, h⟩ | ⟨e1, _, e2, h⟩
    · refine hmark c ?_
      split at h
      · exact .inl h
      · exact .inr (.inl h)
    · cases n
    · exact hmark c (.inr (.inr h))
    · subst e1 e2
      have hb : bareB c.toNat = true := by simpa [standsB] using h
      obtain ⟨g1, g2, g3, g4⟩ := bare_facts ⟨c.toNat, UInt8.toNat_lt c⟩ hb
      have ne : ∀ m : UInt8, c.toNat ≠ m.toNat → c ≠ m := fun m h e => h (by rw [e])
      refine ⟨g1, ne 92 g4, ?_, ne 10 g2, g3⟩
      obtain ⟨_, _, _, hp⟩ := Uq.right_parts hr
      rcases hp with ⟨_, _, _, ht⟩ | ⟨hk, _⟩
      · rw [textL_cons] at e
        have hpt : partT 1 false t o f 0 = t.data.toList := by simp [partT]
        rw [hpt] at e
        cases hl : t.data.toList with
        | nil => rw [hl] at ht; simp [textOK] at ht
        | cons c' t' =>
          rw [hl] at e h35
          have hcc : c' = c := (List.cons.inj e).1
          subst hcc
          rintro rfl
          simp [Lib.hasPrefix, List.isPrefixOf] at h35
      · cases hk

theorem ahead_over {s : ByteArray} {j : Nat} (h : s.size ≤ j) : ∀ n, aheadF n s j = j
  | 0 => rfl
  | n + 1 => by rw [aheadF, if_pos h]
theorem ahead_stop {s : ByteArray} {j : Nat} {c : UInt8} {z : List UInt8} (h : restAt s j = c :: z) (hb : blankB c.toNat = false) (h92 : c ≠ 92) (h35 : c ≠ 35) : ∀ n, aheadF n s j = j
  | 0 => rfl
  | n + 1 => by
    obtain ⟨h1, h2, _⟩ := rest_cons h
    have k35 : ¬ ((c.toNat : Int) == 35) = true := ne_byte h35 rfl
    have k92 : ((c.toNat : Int) == 92) = false := by rw [← Bool.not_eq_true]; exact ne_byte h92 rfl
    rw [aheadF, if_neg (by omega), h2, if_neg (by rw [hb]; decide), if_neg (by rw [prefix_two h1, h2, k92]; simp), if_neg k35]
theorem ahead_blank {s : ByteArray} {j : Nat} {z : List UInt8} (h : restAt s j = 32 :: z) (n : Nat) : aheadF (n + 1) s j = aheadF n s (j + 1) := by
  obtain ⟨h1, h2, _⟩ := rest_cons h
  rw [aheadF, if_neg (by omega), h2, if_pos (by decide)]

theorem tok_word {s : ByteArray} {j : Nat} {w : PL} {x : List UInt8} (hw : rightW w = true) (h : restAt s j = textL w 0 ++ 32 :: x) (hj : j ≤ s.size) : tokF s j = ⟨1, j, ⟨#[]⟩, w, 0, j + (textL w 0).length⟩ := by
  obtain ⟨c, z, e, _, _, _, h10, hsg⟩ := first_byte hw (32 :: x)
  obtain ⟨h1, h2, _⟩ := rest_cons (h.trans e)
  have hr : rightL none w 0 1 = true := by
    cases w with
    | nil => rfl
    | cons k q t o f r => simp only [rightW, Bool.and_eq_true] at hw; exact hw.2
  rw [tokF, if_neg (by omega), h2, if_neg h10, if_neg (by rw [hsg]; decide), word_read hr h hj]

def bodyS : List PL → List UInt8
  | [] => []
  | w :: r => textL w 0 ++ 32 :: bodyS r
/-- The tokens are these words, and an end. -/
def Back : List PL → List Tok → Prop
  | [], ts => ∃ t, ts = [t] ∧ t.k = 4
  | w :: r, ts => ∃ t ts', ts = t :: ts' ∧ t.k = 1 ∧ t.l = w ∧ Back r ts'
theorem scan_back (s : ByteArray) : ∀ (ws : List PL) (n i : Nat) (pre : List UInt8), (pre = [] ∨ pre = [32]) → (∀ w ∈ ws, rightW w = true) → restAt s i = pre ++ bodyS ws → i ≤ s.size → s.size < i + n → Back ws (scanF n s i)
  | [], n, i, pre, hpre, _, h, hi, hn => by
    obtain ⟨m, rfl⟩ : ∃ m, n = m + 1 := ⟨n - 1, by omega⟩
    have hend : s.size ≤ aheadF (s.size + 1) s i := by
      rcases hpre with rfl | rfl
      · have hl := congrArg List.length h
        rw [restAt_len] at hl
        simp [bodyS] at hl
        rw [ahead_over (by omega)]
        omega
      · have h' : restAt s i = 32 :: [] := h
        rw [ahead_blank h']
        have h2 := (rest_cons h').2.2
        have hl := congrArg List.length h2
        rw [restAt_len] at hl
        simp at hl
        rw [ahead_over (by omega)]
        omega
    have htok : (tokAt s i).k = 4 := by unfold tokAt tokF; rw [if_pos hend]
    refine ⟨tokAt s i, ?_, htok⟩
    rw [scanF, if_pos (by simp [stopT, htok])]
  | w :: r, n, i, pre, hpre, hw, h, hi, hn => by
    obtain ⟨m, rfl⟩ : ∃ m, n = m + 1 := ⟨n - 1, by omega⟩
    have hw1 := hw w (List.mem_cons_self ..)
    obtain ⟨c0, z0, e0, _⟩ := first_byte hw1 []
    have hlen : 1 ≤ (textL w 0).length := by
      have := congrArg List.length e0
      simp at this
      omega
    obtain ⟨j, hj, hij, hr, hja⟩ : ∃ j, j ≤ s.size ∧ i ≤ j ∧ restAt s j = textL w 0 ++ 32 :: bodyS r ∧ aheadF (s.size + 1) s i = j := by
      obtain ⟨c, z, e, hb, h92, h35, _⟩ := first_byte hw1 (32 :: bodyS r)
      rcases hpre with rfl | rfl
      · have h' : restAt s i = textL w 0 ++ 32 :: bodyS r := h
        exact ⟨i, hi, Nat.le_refl _, h', ahead_stop (h'.trans e) hb h92 h35 _⟩
      · have h' : restAt s i = 32 :: (textL w 0 ++ 32 :: bodyS r) := h
        obtain ⟨g1, _, g3⟩ := rest_cons h'
        exact ⟨i + 1, by omega, by omega, g3, by rw [ahead_blank h']; exact ahead_stop (g3.trans e) hb h92 h35 _⟩
    have ht : tokAt s i = ⟨1, j, ⟨#[]⟩, w, 0, j + (textL w 0).length⟩ := by unfold tokAt; rw [hja]; exact tok_word hw1 hr hj
    have hrest := rest_app hr
    have hle := rest_le hr hj
    rw [scanF, ht, if_neg (by simp [stopT])]
    exact ⟨_, _, rfl, rfl, rfl, scan_back s r m (j + (textL w 0).length) [32] (.inr rfl) (fun w' h' => hw w' (List.mem_cons_of_mem _ h')) hrest hle (by omega)⟩
theorem back_len : ∀ {ws : List PL} {ts : List Tok}, Back ws ts → ts.length = ws.length + 1
  | [], _, ⟨t, h, _⟩ => by rw [h]; rfl
  | w :: r, _, ⟨t, ts', h, _, _, hb⟩ => by rw [h, List.length_cons, back_len hb, List.length_cons]
theorem back_end : ∀ {ws : List PL} {ts : List Tok}, Back ws ts → ∃ t, ts[ws.length]? = some t ∧ t.k = 4
  | [], _, ⟨t, h, h4⟩ => ⟨t, by rw [h]; rfl, h4⟩
  | w :: r, _, ⟨t, ts', h, _, _, hb⟩ => by
    obtain ⟨t', h1, h2⟩ := back_end hb
    exact ⟨t', by rw [h, List.length_cons, List.getElem?_cons_succ]; exact h1, h2⟩
theorem back_get : ∀ {ws : List PL} {ts : List Tok} {n : Nat} {w : PL}, Back ws ts → ws[n]? = some w → ∃ t, ts[n]? = some t ∧ t.k = 1 ∧ t.l = w
  | [], _, _, _, _, h => by simp at h
  | w :: r, _, 0, _, ⟨t, ts', h, h1, h2, _⟩, hn => by
    simp only [List.getElem?_cons_zero, Option.some.injEq] at hn
    subst hn
    exact ⟨t, by rw [h]; rfl, h1, h2⟩
  | w :: r, _, n + 1, w', ⟨t, ts', h, _, _, hb⟩, hn => by
    obtain ⟨t', g1, g2⟩ := back_get (n := n) hb (by simpa using hn)
    exact ⟨t', by rw [h, List.getElem?_cons_succ]; exact g1, g2⟩
theorem same_refl : ∀ a : PL, same a a = true := by
  intro a
  induction a with
  | nil => rfl
  | cons k q t o f r ihf ihr => simp [same, ihf, ihr]
end Lx
end Go.Proofs.YtgpnleenejjnmaaGreatDoor
