/- Patterns: what quoted texts, stars and question marks mean. -/
import Derived.Test.YtfjfgaefbldgbaaPnN
namespace Go.Proofs.Ytfjfgaefbldgbaa
open Go.RowKit
namespace Pn
theorem mt_bytes : ∀ (xs s : List Nat), mt (xs.map fun x => .byte fun c => x == c) s = (xs == s)
  | [], [] => by simp [mt]
  | [], _ :: _ => by simp [mt]
  | _ :: _, [] => by simp [mt]
  | x :: xs, c :: s => by rw [List.map_cons, mt, mt_bytes xs s]; rfl
theorem plain_U {l : List Sg} (h : ∀ j, j < l.length → plainAt l j = true) : ∀ (n i : Nat), l.length - i = n → U l i = (l.drop i).map fun x => .byte fun c => x.1 == c := by
  intro n
  induction n with
  | zero => intro i hn; rw [U_end (by omega), List.drop_eq_nil_of_le (by omega)]; rfl
  | succ n ih =>
    intro i hn
    have hi : i < l.length := by omega
    have hp := h i hi
    have hat : at' l i = l[i] := by rw [at', List.getD, List.getElem?_eq_getElem hi]; rfl
    cases hs : setEnd l i with
    | some e =>
      rw [plainAt, hs, endI, decide_eq_true (by omega)] at hp
      simp at hp
    | none =>
      rw [U_one hi hs, ih (i + 1) (by omega), List.drop_eq_getElem_cons hi, List.map_cons]
      congr 1
      rw [plainAt] at hp
      simp only [Bool.not_eq_true', Bool.or_eq_false_iff] at hp
      have h1 : ((at' l i).1 == 42 && !(at' l i).2) = false := hp.1.1
      have h2 : ((at' l i).1 == 63 && !(at' l i).2) = false := hp.1.2
      rw [one, h1, h2, hat]
      rfl
/-- A plain pattern means its own bytes alone. -/
theorem plain_mt {l : List Sg} (h : ∀ j, j < l.length → plainAt l j = true) (s : List Nat) : mt (U l 0) s = (l.map (·.1) == s) := by
  rw [plain_U h _ 0 rfl, List.drop_zero, ← mt_bytes, List.map_map]
  rfl
theorem tb_fst (t : ByteArray) (q : Bool) : (tb t q).map (·.1) = tx t := by simp [tb, tx]
theorem quoted_plain {l : List Sg} (h : ∀ j, (at' l j).2 = true) (j : Nat) : plainAt l j = true := by
  have hq : ∀ c, isAt l j c = false := fun c => by simp [isAt, h j]
  rw [plainAt, hq, hq, setEnd, hq]
  rfl
theorem tb_quoted (t : ByteArray) (j : Nat) : (at' (tb t true) j).2 = true := by
  by_cases h : j < (tb t true).length
  · rw [at', List.getD, List.getElem?_eq_getElem h]
    simp [tb]
  · rw [at', List.getD, List.getElem?_eq_none (by omega)]; rfl
theorem sg_one (t : ByteArray) (q : Bool) : sg [(t, q, false)] = tb t q := by simp [sg, one1]
theorem literal_mt (t : ByteArray) (s : List Nat) : mt (U (sg [(t, true, false)]) 0) s = (tx t == s) := by
  rw [sg_one, plain_mt fun j _ => quoted_plain (tb_quoted t) j, tb_fst]
theorem literal_plain (t : ByteArray) : (S0 (sg [(t, true, false)]) 0).all (selfAt (sg [(t, true, false)])) = true := by
  rw [all_plain _ _ 0 rfl, sg_one]
  intro j _ _
  exact quoted_plain (tb_quoted t) j
theorem loose_mt (t : ByteArray) (s : List Nat) (h : (S0 (sg [(t, false, false)]) 0).all (selfAt (sg [(t, false, false)])) = true) : mt (U (sg [(t, false, false)]) 0) s = (tx t == s) := by
  rw [all_plain _ _ 0 rfl, sg_one] at h
  rw [sg_one, plain_mt fun j hj => h j (Nat.zero_le _) hj, tb_fst]
theorem isAt_app_right {l m : List Sg} {i c : Nat} : isAt (l ++ m) (l.length + i) c = isAt m i c := by
  simp [isAt, at', List.getD, List.getElem?_append_right]
/-- No set begins where no such byte is. -/
theorem no_sets {l : List Sg} (h : ∀ j, isAt l j 91 = false) : ∀ (n i : Nat), l.length - i = n → U l i = (l.drop i).map one := by
  intro n
  induction n with
  | zero => intro i hn; rw [U_end (by omega), List.drop_eq_nil_of_le (by omega)]; rfl
  | succ n ih =>
    intro i hn
    have hi : i < l.length := by omega
    have hat : at' l i = l[i] := by rw [at', List.getD, List.getElem?_eq_getElem hi]; rfl
    have hs : setEnd l i = none := by rw [setEnd, h i]; rfl
    rw [U_one hi hs, ih (i + 1) (by omega), List.drop_eq_getElem_cons hi, List.map_cons, hat]
theorem isAt_mem {l : List Sg} {c : Nat} (h : ∀ x ∈ l, (x.1 == c && !x.2) = false) (j : Nat) : isAt l j c = false := by
  by_cases hj : j < l.length
  · rw [isAt, at', List.getD, List.getElem?_eq_getElem hj]
    exact h _ (List.getElem_mem hj)
  · exact isAt_out hj
theorem mt_star (s : List Nat) : mt [.star] s = true := by
  induction s with
  | nil => simp [mt]
  | cons c s ih => simp [mt, ih]
theorem mt_app (m : List Mn) : ∀ (xs s : List Nat), mt ((xs.map fun x => Mn.byte fun c => x == c) ++ m) (xs ++ s) = mt m s
  | [], _ => rfl
  | x :: xs, s => by
    rw [List.map_cons, List.cons_append, List.cons_append, mt, mt_app m xs s]
    simp
theorem stars_mt (a b c : ByteArray) : mt (U (sg [(⟨#[42]⟩, false, false), (b, true, false), (⟨#[42]⟩, false, false)]) 0) (tx a ++ (tx b ++ tx c)) = true := by
  have hl : sg [(⟨#[42]⟩, false, false), (b, true, false), (⟨#[42]⟩, false, false)] = (42, false) :: (tb b true ++ [(42, false)]) := by
    simp [sg, one1, tb]
  rw [hl, no_sets (isAt_mem (by
    intro x hx
    simp only [List.mem_cons, List.mem_append, List.not_mem_nil, or_false] at hx
    rcases hx with rfl | hx | rfl
    · rfl
    · simp only [tb, List.mem_map] at hx
      obtain ⟨y, _, rfl⟩ := hx
      simp
    · rfl)) _ 0 rfl, List.drop_zero, List.map_cons, List.map_append]
  have h1 : one (42, false) = .star := rfl
  have h2 : (tb b true).map one = (tx b).map fun x => Mn.byte fun c => x == c := by
    rw [tb, tx, List.map_map, List.map_map]
    apply List.map_congr_left
    intro y _
    simp [one]
  rw [h2]
  simp only [List.map_cons, List.map_nil, h1]
  refine mt_eats (mt_skip ?_) _
  rw [mt_app, mt_star]
theorem cut_mt (s : List Nat) : mt (U (sg [(⟨#[42]⟩, false, false), (⟨#[120]⟩, false, true), (⟨#[42]⟩, false, false)]) 0) s = true := by
  rw [show U (sg [(⟨#[42]⟩, false, false), (⟨#[120]⟩, false, true), (⟨#[42]⟩, false, false)]) 0 = [.star, .star] by kernel_rfl]
  exact mt_skip (mt_star s)
/-- As many question marks. -/
def marks (n : Nat) : ByteArray := ⟨(List.replicate n (63 : UInt8)).toArray⟩
theorem mt_ones : ∀ (n : Nat) (s : List Nat), mt (List.replicate n (.byte fun _ => true)) s = (n == s.length)
  | 0, [] => by simp [mt]
  | 0, _ :: _ => by simp [mt]
  | _ + 1, [] => by simp [List.replicate_succ, mt]
  | n + 1, c :: s => by rw [List.replicate_succ, mt, mt_ones n s]; simp
theorem ones_mt (n : Nat) (s : List Nat) : mt (U (sg [(marks n, false, false)]) 0) s = (n == s.length) := by
  have hl : sg [(marks n, false, false)] = List.replicate n (63, false) := by
    rw [sg_one]
    simp [tb, marks]
  rw [hl, no_sets (isAt_mem (by
    intro x hx
    rw [(List.mem_replicate.1 hx).2]; rfl)) _ 0 rfl, List.drop_zero, List.map_replicate]
  exact mt_ones n s
theorem tx_len (s : ByteArray) : (tx s).length = s.size := by simp [tx]
theorem tx_eq (a b : ByteArray) : (tx a == tx b) = (a.toList == b.toList) := by
  rw [Lib.toList_data, Lib.toList_data, Bool.eq_iff_iff, beq_iff_eq, beq_iff_eq, tx, tx]
  constructor
  · intro h
    exact (List.map_inj_right (fun x y hxy => UInt8.toNat_inj.1 hxy)).1 h
  · intro h; rw [h]
theorem tx_app (a b : ByteArray) : tx (a ++ b) = tx a ++ tx b := by simp [tx, ByteArray.data_append]
theorem marks_succ (n : Nat) : marks n ++ (⟨#[63]⟩ : ByteArray) = marks (n + 1) := by
  apply ByteArray.ext
  rw [ByteArray.data_append]
  apply Array.ext'
  simp [marks, List.replicate_succ']
theorem marks_size (n : Nat) : (marks n).size = n := by simp [marks, ByteArray.size]
end Pn
end Go.Proofs.Ytfjfgaefbldgbaa
