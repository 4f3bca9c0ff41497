/- What FrameLoops asks, as lists. -/
import Derived.Test.YtbcldfaphnnmlaaFrT
namespace Go.Proofs.Ytbcldfaphnnmlaa
open Go.RowKit Go.Sort
namespace Fra
open Cls Pt Tr
theorem lps_take (l : List IV) (i : Nat) : ∀ n, n ≤ i → lps (l.take i) n = lps l n
  | 0, _ => rfl
  | n + 1, h => by rw [lps, lps, List.getElem?_take_of_lt (by omega), lps_take l i n (by omega)]
theorem lps_nth (l : List IV) : ∀ (m n i : Nat), (lps l n)[m]? = some i → lps l i = (lps l n).drop (m + 1)
  | 0, n, i, h => by
    cases hl : lps l n with
    | nil => rw [hl] at h; cases h
    | cons a r =>
      rw [hl] at h
      cases h
      rw [(lps_up l n _ _ hl).2]; rfl
  | m + 1, n, i, h => by
    cases hl : lps l n with
    | nil => rw [hl] at h; cases h
    | cons a r =>
      rw [hl] at h
      have hr := (lps_up l n _ _ hl).2
      rw [List.getElem?_cons_succ, ← hr] at h
      rw [lps_nth l m a i h, hr]; rfl
theorem lps_is (l : List IV) : ∀ n i, i ∈ lps l n → ∃ x, l[i]? = some x ∧ loopB x.k = true ∧ wallB x.k = false
  | 0, i, h => by simp [lps] at h
  | n + 1, i, h => by
    rw [lps] at h
    split at h
    · simp at h
    · rename_i x hx
      split at h
      · simp at h
      · rename_i hw
        split at h
        · rename_i hl
          rcases List.mem_cons.1 h with rfl | h
          · exact ⟨x, hx, hl, by simpa using hw⟩
          · exact lps_is l n i h
        · exact lps_is l n i h
theorem lps_snoc (l : List IV) (x : IV) : lps (l ++ [x]) (l ++ [x]).length = if wallB x.k then [] else if loopB x.k then l.length :: lps l l.length else lps l l.length := by
  have h := lps_take (l ++ [x]) l.length l.length (Nat.le_refl _)
  rw [List.take_left] at h
  rw [List.length_append, List.length_singleton, lps, List.getElem?_append_right (Nat.le_refl _), Nat.sub_self, ← h]
  rfl
/-- What lies below, and no wall above it. -/
def lit9 : IV := { zero with k := 9, st := 7 }
def lit12 : IV := { zero with k := 12, st := 3 }
def Ok (l : List IV) : Prop := ∃ r, l = lit9 :: r ∧ ∀ y ∈ r, wallB y.k = false
theorem Ok.base : Ok [lit9] := ⟨[], rfl, fun y h => by cases h⟩
theorem Ok.snoc {l : List IV} {x : IV} (h : Ok l) (hx : wallB x.k = false) : Ok (l ++ [x]) := by
  obtain ⟨r, rfl, hr⟩ := h
  refine ⟨r ++ [x], rfl, fun y hy => ?_⟩
  rcases List.mem_append.1 hy with hy | hy
  · exact hr y hy
  · rw [List.mem_singleton.1 hy]; exact hx
theorem Ok.take {l : List IV} {i : Nat} (h : Ok l) (hi : 0 < i) : Ok (l.take i) := by
  obtain ⟨r, rfl, hr⟩ := h
  obtain ⟨j, rfl⟩ : ∃ j, i = j + 1 := ⟨i - 1, by omega⟩
  exact ⟨r.take j, by rw [List.take_succ_cons], fun y hy => hr y (List.mem_of_mem_take hy)⟩
theorem Ok.pos {l : List IV} {n i : Nat} (h : Ok l) (hi : i ∈ lps l n) : 0 < i := by
  obtain ⟨r, rfl, hr⟩ := h
  obtain ⟨x, hx, _, hw⟩ := lps_is _ _ _ hi
  rcases Nat.eq_zero_or_pos i with rfl | h0
  · cases hx
    exact absurd hw (by decide)
  · exact h0
theorem Ok.up {l : List IV} (h : Ok l) : ∀ n, 0 < n → n ≤ l.length → upF wallB l n = some 0
  | 0, h0, _ => by omega
  | n + 1, _, hn => by
    obtain ⟨r, rfl, hr⟩ := h
    cases n with
    | zero => rfl
    | succ n =>
      obtain ⟨x, hx⟩ : ∃ x, (lit9 :: r)[n + 1]? = some x := ⟨_, List.getElem?_eq_getElem (by omega)⟩
      have hw := hr x (by rw [List.getElem?_cons_succ] at hx; exact List.mem_of_getElem? hx)
      rw [upF, hx]
      simp only [hw]
      exact Ok.up ⟨r, rfl, hr⟩ (n + 1) (by omega) (by omega)
theorem Ok.ret {l : List IV} (h : Ok l) : retV l = .tuple #[.agg (icells lit9).toArray, .bool true] ∧ retL l = [] := by
  have h2 := h
  obtain ⟨r, rfl, hr⟩ := h2
  have hru := ret_up (lit9 :: r) (lit9 :: r).length
  rw [h.up _ (by simp) (Nat.le_refl _)] at hru
  have hru2 : Fra.ret (lit9 :: r) (lit9 :: r).length = some (0, lit9) := hru
  exact ⟨by unfold retV; rw [hru2], by unfold retL; rw [hru2]; rfl⟩
theorem Ok.len {l : List IV} (h : Ok l) : 0 < l.length := by obtain ⟨r, rfl, _⟩ := h; simp
/-- Behind a wall that hides all. -/
theorem hid_loops (l : List IV) : lps (l ++ [lit12]) (l ++ [lit12]).length = [] := by rw [lps_snoc]; rfl
theorem hid_brk (l : List IV) : brk (l ++ [lit12]) 1 = none := by unfold brk; rw [hid_loops]; rfl
theorem snoc_last (l : List IV) (x : IV) : (l ++ [x])[l.length]? = some x := by rw [List.getElem?_append_right (Nat.le_refl _), Nat.sub_self]; rfl
theorem hid_ret (l : List IV) : retV (l ++ [lit12]) = .tuple #[.agg (icells zero).toArray, .bool false] ∧ retL (l ++ [lit12]) = l ++ [lit12] := by
  have h : Fra.ret (l ++ [lit12]) (l ++ [lit12]).length = none := by
    rw [List.length_append, List.length_singleton, Fra.ret, snoc_last]; rfl
  exact ⟨by unfold retV; rw [h], by unfold retL; rw [h]⟩
theorem hid_saved (l : List IV) : svd (l ++ [lit12]) (l ++ [lit12]).length = some 3 := by
  rw [List.length_append, List.length_singleton, svd, snoc_last]; rfl
/-- How many loops there are, and are left. -/
theorem brk_is (l : List IV) (k c : Nat) (hc : (lps l l.length).length = c) (h1 : 1 ≤ k) (h2 : k ≤ c) : ∃ i, brk l k = some i ∧ i ∈ lps l l.length ∧ (lps (l.take i) (l.take i).length).length = c - k ∧ lps l i = (lps l l.length).drop k ∧ i < l.length := by
  have hlt : k - 1 < (lps l l.length).length := by omega
  have hb : brk l k = some (lps l l.length)[k - 1] := by
    unfold brk
    rw [if_neg (by omega), show (k : Int).toNat - 1 = k - 1 by omega, List.getElem?_eq_getElem hlt]
  have hm : (lps l l.length)[k - 1] ∈ lps l l.length := List.getElem_mem hlt
  have hn := lps_nth l (k - 1) l.length _ (List.getElem?_eq_getElem hlt)
  rw [show k - 1 + 1 = k by omega] at hn
  have hil := lps_lt l _ _ hm
  refine ⟨_, hb, hm, ?_, hn, hil.2⟩
  rw [List.length_take, Nat.min_eq_left (Nat.le_of_lt hil.2), lps_take l _ _ (Nat.le_refl _), hn, List.length_drop, hc]
theorem brk_not (l : List IV) (k c : Nat) (hc : (lps l l.length).length = c) (h : k < 1 ∨ c < k) : brk l k = none := by
  rcases h with h | h
  · exact brk_low (by omega)
  · by_cases h1 : (k : Int) < 1
    · exact brk_low h1
    · exact brk_high h1 (by omega)
theorem goes_loop {x : IV} (h : loopB x.k = true) : loopB (goes x).k = true ∧ wallB (goes x).k = false := by
  unfold goes
  cases h8 : (x.k == 8)
  · exact ⟨rfl, rfl⟩
  · have : x.k = 8 := by simpa using h8
    rw [if_pos rfl, this]
    exact ⟨rfl, rfl⟩
/-- The lowest loop goes on: it alone is left. -/
theorem go_is (l : List IV) (c : Nat) (hc : (lps l l.length).length = c) (h1 : 1 ≤ c) (ho : Ok l) : outB (brk l c) = true ∧ (lps (goL l c) (goL l c).length).length = 1 ∧ Ok (goL l c) ∧ (goL l c).length ≤ l.length := by
  obtain ⟨i, hb, hm, _, hn, hil⟩ := brk_is l c c hc h1 (Nat.le_refl _)
  obtain ⟨x, hx, hl, hw⟩ := lps_is _ _ _ hm
  have hg := goes_loop hl
  have e : goL l c = l.take i ++ [goes x] := by unfold goL; rw [hb]; simp only [hx]
  have hkl : (l.take i).length = i := by rw [List.length_take]; omega
  refine ⟨by rw [hb]; rfl, ?_, ?_, ?_⟩
  · rw [e, lps_snoc, hg.1, hg.2, hkl, lps_take l i i (Nat.le_refl _), hn, List.drop_of_length_le (by omega)]; rfl
  · rw [e]; exact (ho.take (ho.pos hm)).snoc hg.2
  · rw [e, List.length_append, hkl, List.length_singleton]; omega
/-- What comes of a number that says of what kind a thing is. -/
def kF (n : Nat) : Int := if (1 + (n : Int) % 14 == 9 || 1 + (n : Int) % 14 == 12 || 1 + (n : Int) % 14 == 13) then 14 else 1 + (n : Int) % 14
theorem kF_wall (n : Nat) : wallB (kF n) = false := by
  unfold kF
  cases h : (1 + (n : Int) % 14 == 9 || 1 + (n : Int) % 14 == 12 || 1 + (n : Int) % 14 == 13)
  · rw [if_neg (by decide)]; exact h
  · rfl
end Fra
end Go.Proofs.Ytbcldfaphnnmlaa
