/- Pure: variables as a rising list of pairs; what is set, what is got; the map's datum that they are. -/
/- Pure: decimal numerals there and back; what a number of three digits at most is. -/
import Derived.Maps.OwnSet
import Derived.Maps.Ext
import Derived.Maps.StringElems
import Derived.Sort.KeysCollected
import Derived.WideShapes
import Derived.Lib.Hide
import Derived.Lib.Atoi
import Derived.Lib.ItoaMem
import Derived.Lib.ItoaLen
import Derived.Lib.Join
import Derived.Test.YtoneabcbeikkhaaGreatDoorClsB
namespace Go.Proofs.YtoneabcbeikkhaaGreatDoor
open Go.RowKit
namespace Vr

abbrev Vs := List (ByteArray × ByteArray)
/-- A text's bytes. -/
abbrev bs (a : ByteArray) : List UInt8 := a.data.toList
theorem bs_inj {a b : ByteArray} (h : bs a = bs b) : a = b := by
  cases a; cases b; simp only [bs] at h; congr; exact Array.ext' h
theorem less_before : ∀ a b : List UInt8, Op.bytesLess a b = bytesBefore a b
  | [], [] => rfl
  | [], _ :: _ => rfl
  | _ :: _, [] => rfl
  | a :: x, b :: y => by simp [Op.bytesLess, bytesBefore, less_before x y]
/-- Does a text stand before another one? -/
def lt (a b : ByteArray) : Bool := bytesBefore (bs a) (bs b)
theorem lt_irrefl (a : ByteArray) : lt a a = false := WideAt.bytes_irrefl _
theorem lt_trans {a b c : ByteArray} (h : lt a b = true) (k : lt b c = true) : lt a c = true := WideShapes.bytes_trans _ _ _ h k
theorem lt_total {a b : ByteArray} (h : a ≠ b) : lt a b = true ∨ lt b a = true := WideAt.bytes_total _ _ fun e => h (bs_inj e)
theorem lt_ne {a b : ByteArray} (h : lt a b = true) : a ≠ b := by rintro rfl; rw [lt_irrefl] at h; cases h
theorem lt_asymm {a b : ByteArray} (h : lt a b = true) : lt b a = false := by
  cases k : lt b a
  · rfl
  · have := lt_trans h k; rw [lt_irrefl] at this; cases this

/-- They rise. -/
def Srt (vs : Vs) : Prop := vs.Pairwise fun p q => lt p.1 q.1 = true
theorem Srt.nil : Srt [] := List.Pairwise.nil
/-- One is set. -/
def setV (vs : Vs) (n v : ByteArray) : Vs := vs.filter (fun p => lt p.1 n) ++ (n, v) :: vs.filter (fun p => lt n p.1)
/-- One is got. -/
def getV : Vs → ByteArray → Option ByteArray
  | [], _ => none
  | p :: r, n => if p.1 = n then some p.2 else getV r n

theorem Srt.set {vs : Vs} (h : Srt vs) (n v : ByteArray) : Srt (setV vs n v) := by
  unfold Srt setV
  rw [List.pairwise_append]
  refine ⟨h.filter _, ?_, ?_⟩
  · rw [List.pairwise_cons]
    exact ⟨fun p hp => (List.mem_filter.1 hp).2, h.filter _⟩
  · intro p hp q hq
    have hp2 := (List.mem_filter.1 hp).2
    rcases List.mem_cons.1 hq with rfl | hq
    · exact hp2
    · exact lt_trans hp2 (List.mem_filter.1 hq).2

theorem getV_none {vs : Vs} {n : ByteArray} (h : ∀ p ∈ vs, p.1 ≠ n) : getV vs n = none := by
  induction vs with
  | nil => rfl
  | cons p r ih =>
    rw [getV, if_neg (h p (by simp))]
    exact ih fun q hq => h q (by simp [hq])
theorem getV_append (a b : Vs) (n : ByteArray) : getV (a ++ b) n = (getV a n).or (getV b n) := by
  induction a with
  | nil => simp [getV]
  | cons p r ih =>
    rw [List.cons_append, getV, getV, ih]
    by_cases h : p.1 = n
    · simp [h]
    · simp [h]
theorem getV_filter (vs : Vs) (f : ByteArray → Bool) (n : ByteArray) : getV (vs.filter fun p => f p.1) n = if f n then getV vs n else none := by
  induction vs with
  | nil => simp [getV]
  | cons p r ih =>
    rw [List.filter_cons]
    by_cases hp : p.1 = n
    · subst hp
      by_cases hf : f p.1 = true
      · simp [hf, getV]
      · have hff : f p.1 = false := by simpa using hf
        simp only [hff] at ih ⊢
        simpa using ih
    · by_cases hf : f p.1 = true
      · simp only [hf, if_true, getV, hp, if_false, ih]
      · have hff : f p.1 = false := by simpa using hf
        simp only [hff, getV, hp, if_false]
        simpa using ih
theorem get_set (vs : Vs) (n v m : ByteArray) : getV (setV vs n v) m = if m = n then some v else getV vs m := by
  unfold setV
  rw [getV_append, getV, getV_filter vs (fun x => lt x n), getV_filter vs (fun x => lt n x)]
  by_cases h : m = n
  · subst h; simp [lt_irrefl]
  · have h2 : ¬ n = m := fun e => h e.symm
    rcases lt_total h with k | k
    · simp [k, lt_asymm k, h, h2]
    · simp [k, lt_asymm k, h, h2]
theorem get_mem {vs : Vs} {n v : ByteArray} (h : getV vs n = some v) : (n, v) ∈ vs := by
  induction vs with
  | nil => cases h
  | cons p r ih =>
    rw [getV] at h
    by_cases e : p.1 = n
    · rw [if_pos e] at h; cases h; subst e; simp
    · rw [if_neg e] at h; exact List.mem_cons_of_mem _ (ih h)
theorem Srt.get {vs : Vs} (h : Srt vs) {n v : ByteArray} (hm : (n, v) ∈ vs) : getV vs n = some v := by
  induction vs with
  | nil => cases hm
  | cons p r ih =>
    have hc := List.pairwise_cons.1 h
    rcases List.mem_cons.1 hm with e | hm
    · subst e; rw [getV, if_pos rfl]
    · rw [getV, if_neg (fun e => ?_)]
      · exact ih hc.2 hm
      · have := lt_ne (hc.1 _ hm); exact this e
theorem mem_set {vs : Vs} {n v : ByteArray} {p : ByteArray × ByteArray} (h : p ∈ setV vs n v) : p = (n, v) ∨ p ∈ vs := by
  unfold setV at h
  rw [List.mem_append, List.mem_cons, List.mem_filter, List.mem_filter] at h
  rcases h with h | h | h
  · exact .inr h.1
  · exact .inl h
  · exact .inr h.1
theorem set_length (vs : Vs) (n v : ByteArray) : (setV vs n v).length ≤ vs.length + 1 := by
  unfold setV
  rw [List.length_append, List.length_cons]
  have : (vs.filter fun p => lt p.1 n).length + (vs.filter fun p => lt n p.1).length ≤ vs.length := by
    induction vs with
    | nil => simp
    | cons p r ih =>
      rw [List.filter_cons, List.filter_cons]
      cases h1 : lt p.1 n <;> cases h2 : lt n p.1 <;> simp <;> try omega
      rw [lt_asymm h1] at h2; cases h2
  omega

section
variable {H : Type}
/-- A pair as a map's entry. -/
def ent (p : ByteArray × ByteArray) : Lit × DataW H := (.string (bs p.1), .lit (.string (bs p.2)))
/-- What reads as the variables. -/
def D (vs : Vs) : DataW H := .map (vs.map ent)
theorem D_nil : (D [] : DataW H) = .map [] := rfl
theorem size_D (vs : Vs) : Maps.size (D vs : DataW H) = vs.length := by simp [D, Maps.size_eq]
theorem same_key (a b : ByteArray) : (Lit.string (bs a)).sameKey (.string (bs b)) = decide (a = b) := by
  simp only [Lit.sameKey]
  by_cases h : a = b
  · subst h; simp
  · rw [decide_eq_false h, beq_eq_false_iff_ne]; exact fun e => h (bs_inj e)
theorem has_D (vs : Vs) (n : ByteArray) : Maps.has (D vs : DataW H) (.string (bs n)) = (getV vs n).isSome := by
  induction vs with
  | nil => rfl
  | cons p r ih =>
    rw [D, Maps.has_eq] at ih ⊢
    rw [List.map_cons, List.any_cons, ih, getV]
    simp only [ent, same_key]
    by_cases h : p.1 = n <;> simp [h]
theorem at_D (vs : Vs) (n : ByteArray) (z : DataW H) : (D vs : DataW H).atKey (.string (bs n)) z = match getV vs n with | some v => .lit (.string (bs v)) | none => z := by
  induction vs with
  | nil => rfl
  | cons p r ih =>
    rw [D, DataW.atKey] at ih ⊢
    rw [List.map_cons, List.find?_cons, getV]
    simp only [ent, same_key]
    by_cases h : p.1 = n
    · simp [h]
    · simp only [h, decide_false, if_false]
      exact ih
theorem insert_D (p : ByteArray × ByteArray) (l : Vs) (h : Srt l) (hp : ∀ q ∈ l, p.1 ≠ q.1) : DataW.insert (ent p : Lit × DataW H) (l.map ent) = (l.filter (fun q => lt q.1 p.1) ++ p :: l.filter (fun q => lt p.1 q.1)).map ent := by
  induction l with
  | nil => rfl
  | cons q r ih =>
    have hc := List.pairwise_cons.1 h
    rw [List.map_cons, DataW.insert]
    have hb : (ent p : Lit × DataW H).1.before (ent q : Lit × DataW H).1 = lt p.1 q.1 := rfl
    rw [hb]
    cases hk : lt p.1 q.1
    · have hk2 : lt q.1 p.1 = true := by
        rcases lt_total (hp q (by simp)) with e | e
        · rw [e] at hk; cases hk
        · exact e
      simp only [Bool.false_eq_true, if_false]
      rw [ih hc.2 fun x hx => hp x (by simp [hx]), List.filter_cons, List.filter_cons, hk, hk2]
      simp
    · rw [if_pos rfl]
      have hr : ∀ x ∈ r, lt p.1 x.1 = true := fun x hx => lt_trans hk (hc.1 x hx)
      have h1 : (q :: r).filter (fun x => lt x.1 p.1) = [] := by
        rw [List.filter_eq_nil_iff]
        intro x hx
        rcases List.mem_cons.1 hx with rfl | hx
        · simp [lt_asymm hk]
        · simp [lt_asymm (hr x hx)]
      have h2 : (q :: r).filter (fun x => lt p.1 x.1) = q :: r := by
        rw [List.filter_eq_self]
        intro x hx
        rcases List.mem_cons.1 hx with rfl | hx
        · exact hk
        · exact hr x hx
      rw [h1, h2]; simp
theorem put_D (vs : Vs) (h : Srt vs) (n v : ByteArray) : (D vs : DataW H).put (.string (bs n)) (.lit (.string (bs v))) = D (setV vs n v) := by
  have hf : ((vs.map ent : List (Lit × DataW H)).filter fun p => !p.1.sameKey (.string (bs n))) = (vs.filter fun p => !decide (p.1 = n)).map ent := by
    rw [List.filter_map]; congr 1
    apply List.filter_congr
    intro p _
    simp only [Function.comp_apply, ent, same_key]
  rw [D, DataW.put, hf, D]
  have hi := insert_D (H := H) (n, v) (vs.filter fun p => !decide (p.1 = n)) (h.filter _) (fun q hq => by
    have := (List.mem_filter.1 hq).2
    simp only [Bool.not_eq_true', decide_eq_false_iff_not] at this
    exact fun e => this e.symm)
  have he : (ent (n, v) : Lit × DataW H) = (.string (bs n), .lit (.string (bs v))) := rfl
  rw [he] at hi
  rw [hi, List.filter_filter, List.filter_filter]
  unfold setV
  have e1 : (vs.filter fun p => lt p.1 n && !decide (p.1 = n)) = vs.filter fun p => lt p.1 n := by
    apply List.filter_congr
    intro p _
    cases hk : lt p.1 n
    · rfl
    · have := lt_ne hk; simp [this]
  have e2 : (vs.filter fun p => lt n p.1 && !decide (p.1 = n)) = vs.filter fun p => lt n p.1 := by
    apply List.filter_congr
    intro p _
    cases hk : lt n p.1
    · rfl
    · have := lt_ne hk; simp [Ne.symm this]
  simp only [e1, e2]
theorem keys_D (vs : Vs) : strKeys (D vs : DataW H) = vs.map fun p => bs p.1 := by
  rw [D, strKeys, List.map_map]; rfl
/-- The keys, sorted, are the names. -/
theorem sorted_D (vs : Vs) (h : Srt vs) {ss : List (List UInt8)} (hp : ss.Perm (strKeys (D vs : DataW H))) : ss.mergeSort (fun x y => decide (x ≤ y)) = vs.map fun p => bs p.1 := by
  rw [keys_D] at hp
  have hlt : ∀ a b : List UInt8, bytesBefore a b = true → a < b := by
    intro a
    induction a with
    | nil => intro b h; cases b with
      | nil => cases h
      | cons y s => exact List.nil_lt_cons _ _
    | cons x r ih =>
      intro b h
      cases b with
      | nil => cases h
      | cons y s =>
        simp only [bytesBefore, Bool.or_eq_true, Bool.and_eq_true, decide_eq_true_eq, beq_iff_eq] at h
        rw [List.cons_lt_cons_iff]
        rcases h with h | ⟨h, k⟩
        · exact .inl h
        · exact .inr ⟨h, ih s k⟩
  have hs1 : (ss.mergeSort (fun x y => decide (x ≤ y))).Pairwise (fun x y => x ≤ y) := by
    have := List.pairwise_mergeSort (le := fun x y : List UInt8 => decide (x ≤ y)) (fun a b c h1 h2 => by
      simp only [decide_eq_true_eq] at h1 h2 ⊢; exact List.le_trans h1 h2) (fun a b => by
      simp only [Bool.or_eq_true, decide_eq_true_eq]; exact List.le_total a b) ss
    exact this.imp fun h => of_decide_eq_true h
  have hs2 : (vs.map fun p => bs p.1).Pairwise (fun x y => x ≤ y) := by
    rw [List.pairwise_map]
    exact h.imp fun {a b} k => List.le_of_lt (hlt _ _ k)
  exact ((List.mergeSort_perm ss _).trans hp).eq_of_pairwise (fun a b _ _ h1 h2 => List.le_antisymm h1 h2) hs1 hs2
end
end Vr
end Go.Proofs.YtoneabcbeikkhaaGreatDoor

namespace Go.Proofs.YtoneabcbeikkhaaGreatDoor
open Go.RowKit
namespace Vr
open Lib Cls

theorem decFrom_append (a : List UInt8) : ∀ (acc : Nat) (b : UInt8), decFrom acc (a ++ [b]) = match decFrom acc a, digitVal b with | some x, some d => some (x * 10 + d) | _, _ => none := by
  induction a with
  | nil => intro acc b; simp only [List.nil_append, decFrom]; cases digitVal b <;> rfl
  | cons c r ih =>
    intro acc b
    rw [List.cons_append, decFrom, decFrom]
    cases h : digitVal c
    · rfl
    · exact ih _ b
theorem digitVal_of (d : Nat) (h : d < 10) : digitVal (UInt8.ofNat (48 + d)) = some d := by
  have : ∀ d : Fin 10, digitVal (UInt8.ofNat (48 + d.val)) = some d.val := by decide +kernel
  exact this ⟨d, h⟩
theorem decFrom_digits (u : Nat) : decFrom 0 (decDigits u) = some u := by
  induction u using Nat.strongRecOn with
  | ind u ih =>
    rw [decDigits]
    by_cases h : u < 10
    · rw [dif_pos h]; simp only [decFrom, digitVal_of u h]; simp
    · rw [dif_neg h, decFrom_append, ih (u / 10) (by omega), digitVal_of _ (Nat.mod_lt _ (by omega))]
      simp only [Option.some.injEq]; omega
theorem digits_inj {a b : Nat} (h : decDigits a = decDigits b) : a = b := by
  have := decFrom_digits a; rw [h, decFrom_digits b] at this; injection this with this; exact this.symm

theorem digit_range {x : UInt8} (h : digitB x.toNat = true) : ∃ d, d < 10 ∧ x = UInt8.ofNat (48 + d) ∧ x.toNat = 48 + d := by
  have h' := of_decide_eq_true h
  refine ⟨x.toNat - 48, by omega, ?_, by omega⟩
  apply UInt8.toNat_inj.1
  rw [UInt8.toNat_ofNat_of_lt' (by show _ < 256; omega)]; omega

/-- What number a text is that is one from 1 on. -/
theorem number_of {l : List UInt8} (h : numberL l = true) (h0 : l ≠ [48]) : ∃ n, 1 ≤ n ∧ n ≤ 999 ∧ l = decDigits n := by
  simp only [numberL, Bool.and_eq_true, decide_eq_true_eq, digitsL, List.all_eq_true, Bool.or_eq_true, Bool.not_eq_true', beq_iff_eq, beq_eq_false_iff_ne] at h
  obtain ⟨⟨⟨h1, h2⟩, h3⟩, h4⟩ := h
  have h3 := h3.resolve_right h0
  match l, h1, h2, h3, h4 with
  | [a], _, _, h3, h4 =>
    obtain ⟨d, hd, rfl, e⟩ := digit_range (h4 a (by simp))
    have : d ≠ 0 := by rintro rfl; exact h3 (by simp)
    exact ⟨d, by omega, by omega, by rw [decDigits, dif_pos hd]⟩
  | [a, b], _, _, h3, h4 =>
    obtain ⟨d, hd, rfl, e⟩ := digit_range (h4 a (by simp))
    obtain ⟨d2, hd2, rfl, e2⟩ := digit_range (h4 b (by simp))
    have : d ≠ 0 := by rintro rfl; exact h3 (by simp)
    refine ⟨d * 10 + d2, by omega, by omega, ?_⟩
    rw [decDigits, dif_neg (by omega), show (d * 10 + d2) / 10 = d by omega, show (d * 10 + d2) % 10 = d2 by omega, decDigits, dif_pos hd]; rfl
  | [a, b, c], _, _, h3, h4 =>
    obtain ⟨d, hd, rfl, e⟩ := digit_range (h4 a (by simp))
    obtain ⟨d2, hd2, rfl, e2⟩ := digit_range (h4 b (by simp))
    obtain ⟨d3, hd3, rfl, e3⟩ := digit_range (h4 c (by simp))
    have : d ≠ 0 := by rintro rfl; exact h3 (by simp)
    refine ⟨d * 100 + d2 * 10 + d3, by omega, by omega, ?_⟩
    rw [decDigits, dif_neg (by omega), show (d * 100 + d2 * 10 + d3) / 10 = d * 10 + d2 by omega, show (d * 100 + d2 * 10 + d3) % 10 = d3 by omega, decDigits, dif_neg (by omega), show (d * 10 + d2) / 10 = d by omega, show (d * 10 + d2) % 10 = d2 by omega, decDigits, dif_pos hd]; rfl

/-- A scope. -/
structure St where
  vs : Vs
  args : List ByteArray
  st : Int
  la : Int

/-- The argument of a number. -/
def argV (args : List ByteArray) (l : List UInt8) : Option ByteArray :=
  match atoi l with
  | some n => if 1 ≤ n ∧ n ≤ args.length then args[n.toNat - 1]? else none
  | none => none
theorem atoi_digits (n : Nat) : atoi (decDigits n) = some (n : Int) := by
  have hne : decDigits n ≠ [] := by
    intro e; have := decDigits_length n; rw [e] at this; have := nDigits_pos n; simp at *; omega
  have hd := decFrom_digits n
  match hl : decDigits n, hne with
  | b :: r, _ =>
    rw [hl] at hd
    have hb : ∃ d, digitVal b = some d := by
      rw [decFrom] at hd
      cases h : digitVal b
      · rw [h] at hd; cases hd
      · exact ⟨_, rfl⟩
    obtain ⟨d, hb⟩ := hb
    have := digitVal_eq hb
    have h1 : (b == 45) = false := by rw [beq_eq_false_iff_ne]; rintro rfl; simp at this
    have h2 : (b == 43) = false := by rw [beq_eq_false_iff_ne]; rintro rfl; simp at this
    simp only [atoi, h1, h2, Bool.false_eq_true, if_false, decNat, List.isEmpty_cons, hd, Option.map_some]
theorem argV_digits (args : List ByteArray) (n : Nat) (h1 : 1 ≤ n) : argV args (decDigits n) = args[n - 1]? := by
  rw [argV, atoi_digits]
  simp only
  by_cases h : n ≤ args.length
  · rw [if_pos ⟨by omega, by omega⟩]; simp
  · rw [if_neg (by omega), List.getElem?_eq_none (by omega)]

/-- A text of these bytes. -/
def tx (l : List UInt8) : ByteArray := ⟨l.toArray⟩
theorem bs_tx (l : List UInt8) : bs (tx l) = l := by simp [bs, tx]
/-- What a parameter means. -/
def val (s : St) (n : ByteArray) : Option ByteArray :=
  if nameL (bs n) then getV s.vs n
  else if paramL (bs n) = false then none
  else if bs n = [48] then some (tx [115, 104])
  else if bs n = [35] then some (tx (itoa s.args.length))
  else if bs n = [63] then some (tx (itoa s.st))
  else if bs n = [36] then some (tx [49])
  else if bs n = [33] then if s.la = 0 then none else some (tx (itoa s.la))
  else if bs n = [64] ∨ bs n = [42] then if s.args = [] then none else some (tx (Lib.join (s.args.map bs) [32]))
  else argV s.args (bs n)
/-- .. as it is answered. -/
abbrev out (o : Option ByteArray) : Value := .tuple #[.string (o.getD (tx [])), .bool o.isSome]
end Vr
end Go.Proofs.YtoneabcbeikkhaaGreatDoor
