/- Pure: what comes of a word (package expand): pieces, the scope behind them, a fault. -/
/- Pure: what stays of a scope; how much comes. -/
/- Pure: how large pieces are. -/
/- Pure: quoted words are one field; a text is itself; all arguments are just they. -/
import Derived.Test.YtoneabcbeikkhaaGreatDoorVrB
import Derived.Test.YtoneabcbeikkhaaGreatDoorFdA
import Derived.Test.YtoneabcbeikkhaaGreatDoorPtA
namespace Go.Proofs.YtoneabcbeikkhaaGreatDoor
open Go.RowKit Cls
namespace Ex
open Vr (St val setV)
open Fld (Pc bs tx joinS cutP)
open Pt (PL)
/-- A variable gets a value, if that is a name. -/
def setE (s : St) (n v : ByteArray) : St := if nameL (bs n) then { s with vs := setV s.vs n v } else s
structure Got where
  L : List Pc
  S : St
  k : Int
  t : ByteArray
def hasC (o : ByteArray) (c : Nat) : Bool := (bs o).any fun x => x.toNat == c
/-- All arguments, as pieces. -/
def argsP (q : Bool) : List ByteArray → List Pc
  | [] => []
  | x :: r => (x, q, false) :: r.flatMap fun y => [cutP, (y, q, false)]
theorem argsP_snoc (q : Bool) (l : List ByteArray) (y : ByteArray) : argsP q (l ++ [y]) = argsP q l ++ ((bif l.isEmpty then [] else [cutP]) ++ [(y, q, false)]) := by
  cases l with
  | nil => rfl
  | cons x r => simp [argsP]
/-- Does a parameter mean all arguments, apart? -/
def apart (t : ByteArray) (q : Bool) : Bool := bs t == [64] || (bs t == [42] && !q)
def valuesP (s : St) (q : Bool) (t : ByteArray) : List Pc :=
  match val s t with
  | none => []
  | some v => bif apart t q then argsP q s.args else [(v, q, false)]
def emptyP (l : List Pc) (q : Bool) : List Pc := bif l.isEmpty && q then [(tx [], true, false)] else l
def usable (s : St) (t o : ByteArray) : Bool :=
  match val s t with
  | none => false
  | some v => !hasC o 58 || !(bs v).isEmpty
def notSet : ByteArray := tx [110, 111, 116, 32, 115, 101, 116]
def afterP (q : Bool) (t o : ByteArray) (flen : Nat) (g : Got) : Got :=
  bif !(g.k == 0) then g
  else bif hasC o 61 then ⟨[(tx (joinS g.L), q, false)], setE g.S t (tx (joinS g.L)), 0, tx []⟩
  else bif hasC o 63 then ⟨[], g.S, 1, tx (bs t ++ ([58, 32] ++ bs (bif flen == 0 then notSet else tx (joinS g.L))))⟩
  else ⟨emptyP g.L q, g.S, 0, tx []⟩
def ownG (s : St) (q : Bool) (t : ByteArray) : Got := ⟨emptyP (valuesP s q t) (q && !(bs t == [64])), s, 0, tx []⟩
def paramG (s : St) (q : Bool) (t o : ByteArray) (flen : Nat) (F : St → Got) : Got :=
  bif (bs o).isEmpty || (usable s t o && !hasC o 43) then ownG s q t
  else bif hasC o 43 && !usable s t o then ⟨emptyP [] q, s, 0, tx []⟩
  else afterP q t o flen (F s)
def ex : PL → St → List Pc → Got
  | .nil, s, acc => ⟨acc, s, 0, tx []⟩
  | .cons k q t o f r, s, acc =>
    let g := bif k == 2 then paramG s q t o f.len (fun s => ex f s []) else ⟨[(t, q, false)], s, 0, tx []⟩
    bif !(g.k == 0) then ⟨[], g.S, g.k, g.t⟩
    else bif decide (65536 < (joinS (acc ++ g.L)).length) then ⟨[], g.S, 2, tx []⟩
    else ex r g.S (acc ++ g.L)
/-- What comes of a part. -/
def partG (k : Int) (q : Bool) (t o : ByteArray) (f : PL) (s : St) : Got := bif k == 2 then paramG s q t o f.len (fun s => ex f s []) else ⟨[(t, q, false)], s, 0, tx []⟩
theorem ex_cons (k : Int) (q : Bool) (t o : ByteArray) (f r : PL) (s : St) (acc : List Pc) :
    ex (.cons k q t o f r) s acc = bif !((partG k q t o f s).k == 0) then ⟨[], (partG k q t o f s).S, (partG k q t o f s).k, (partG k q t o f s).t⟩
      else bif decide (65536 < (joinS (acc ++ (partG k q t o f s).L)).length) then ⟨[], (partG k q t o f s).S, 2, tx []⟩
      else ex r (partG k q t o f s).S (acc ++ (partG k q t o f s).L) := rfl
end Ex
end Go.Proofs.YtoneabcbeikkhaaGreatDoor

namespace Go.Proofs.YtoneabcbeikkhaaGreatDoor
open Go.RowKit Cls
namespace Ex
open Vr (St val setV Srt)
open Fld (Pc bs tx joinS cutP joinP)
open Pt (PL)
theorem PL.len_size : ∀ l : PL, l.len ≤ l.size
  | .nil => Nat.le_refl _
  | .cons _ _ _ _ _ r => by have := PL.len_size r; simp only [PL.len, PL.size]; omega
/-- A scope as it may have become: its arguments and numbers as they were, its variables names that rise, no more than m, none of them large. -/
structure OKs (z : St) (m : Nat) (s : St) : Prop where
  args : s.args = z.args
  st : s.st = z.st
  la : s.la = z.la
  srt : Srt s.vs
  nvs : s.vs.length ≤ m
  vs : ∀ p ∈ s.vs, nameL (bs p.1) = true ∧ p.1.size ≤ 100000 ∧ p.2.size ≤ 100000
theorem OKs.up {z s : St} {m n : Nat} (h : OKs z m s) (hn : m ≤ n) : OKs z n s := { h with nvs := Nat.le_trans h.nvs hn }
theorem OKs.set {z s : St} {m : Nat} (h : OKs z m s) (n v : ByteArray) (hn : n.size ≤ 100000) (hv : v.size ≤ 100000) : OKs z (m + 1) (setE s n v) := by
  unfold setE
  split
  · rename_i hnm
    refine ⟨h.args, h.st, h.la, h.srt.set _ _, ?_, fun p hp => ?_⟩
    · have := Vr.set_length s.vs n v
      have := h.nvs
      simp only
      omega
    · rcases Vr.mem_set hp with e | e
      · rw [e]; exact ⟨hnm, hn, hv⟩
      · exact h.vs p e
  · exact h.up (Nat.le_succ m)
/-- The names that a word's parts have are not long. -/
def texts : PL → List ByteArray
  | .nil => []
  | .cons _ _ t _ f r => t :: (texts f ++ texts r)
theorem join_app (l m : List Pc) : joinS (l ++ m) = joinS l ++ joinS m := by simp [joinS]
theorem ex_join : ∀ (l : PL) (s : St) (acc : List Pc), (joinS acc).length ≤ 65536 → (joinS (ex l s acc).L).length ≤ 65536
  | .nil, s, acc, h => h
  | .cons k q t o f r, s, acc, h => by
    rw [ex_cons]
    cases hk : (partG k q t o f s).k == 0
    · simp [joinS]
    · simp only [Bool.not_true, cond_false]
      cases hd : decide (65536 < (joinS (acc ++ (partG k q t o f s).L)).length)
      · simp only [cond_false]
        exact ex_join r _ _ (by have := of_decide_eq_false hd; omega)
      · simp [joinS]
theorem own_S (s : St) (q : Bool) (t : ByteArray) : (ownG s q t).S = s := rfl
theorem after_ok {z : St} {m : Nat} {g : Got} (q : Bool) (t o : ByteArray) (flen : Nat) (hg : OKs z m g.S) (ht : t.size ≤ 100000) (hj : (joinS g.L).length ≤ 65536) : OKs z (m + 1) (afterP q t o flen g).S := by
  unfold afterP
  cases g.k == 0
  · exact hg.up (Nat.le_succ m)
  · cases hasC o 61
    · cases hasC o 63
      · exact hg.up (Nat.le_succ m)
      · exact hg.up (Nat.le_succ m)
    · exact hg.set t _ ht (by rw [Fld.tx_size]; omega)
theorem part_ok {z : St} {m n : Nat} (k : Int) (q : Bool) (t o : ByteArray) (f : PL) (s : St) (hs : OKs z m s) (ht : t.size ≤ 100000) (hf : OKs z (m + n) (ex f s []).S) : OKs z (m + n + 1) (partG k q t o f s).S := by
  have h0 : OKs z (m + n + 1) s := hs.up (by omega)
  unfold partG
  cases k == 2
  · exact h0
  · unfold paramG
    simp only [cond_true]
    cases (bs o).isEmpty || (usable s t o && !hasC o 43)
    · cases hasC o 43 && !usable s t o
      · exact after_ok q t o f.len hf ht (ex_join f s [] (by simp [joinS]))
      · exact h0
    · exact h0
theorem ex_ok {z : St} : ∀ (l : PL) (s : St) (acc : List Pc) (m : Nat), OKs z m s → (∀ t ∈ texts l, t.size ≤ 100000) → OKs z (m + l.size) (ex l s acc).S
  | .nil, s, acc, m, h, _ => h
  | .cons k q t o f r, s, acc, m, h, ht => by
    have hf := ex_ok f s [] m h (fun x hx => ht x (by simp [texts, hx]))
    have hp := part_ok k q t o f s h (ht t (by simp [texts])) hf
    have hpu : OKs z (m + (PL.cons k q t o f r).size) (partG k q t o f s).S := hp.up (by simp only [PL.size]; omega)
    rw [ex_cons]
    cases (partG k q t o f s).k == 0
    · exact hpu
    · simp only [Bool.not_true, cond_false]
      cases decide (65536 < (joinS (acc ++ (partG k q t o f s).L)).length)
      · have := ex_ok r (partG k q t o f s).S (acc ++ (partG k q t o f s).L) (m + f.size + 1) hp (fun x hx => ht x (by simp [texts, hx]))
        simp only [cond_false]
        exact this.up (by simp only [PL.size]; omega)
      · exact hpu
/-! How many pieces. -/
theorem argsP_len (q : Bool) (l : List ByteArray) : (argsP q l).length ≤ 2 * l.length := by
  have h : ∀ r : List ByteArray, (r.flatMap fun y => [cutP, (y, q, false)]).length = 2 * r.length := by
    intro r
    induction r with
    | nil => rfl
    | cons x r ih => simp only [List.flatMap_cons, List.length_append, List.length_cons, List.length_nil, ih]; omega
  cases l with
  | nil => simp [argsP]
  | cons x r => simp only [argsP, List.length_cons, h]; omega
theorem values_len (s : St) (q : Bool) (t : ByteArray) : (valuesP s q t).length ≤ 2 * s.args.length + 1 := by
  unfold valuesP
  cases val s t with
  | none => simp
  | some v =>
    simp only
    cases apart t q
    · simp
    · have := argsP_len q s.args; simp only [cond_true]; omega
theorem empty_len (l : List Pc) (q : Bool) : (emptyP l q).length ≤ l.length + 1 := by
  unfold emptyP; cases l.isEmpty && q <;> simp
theorem part_len {N : Nat} (k : Int) (q : Bool) (t o : ByteArray) (f : PL) (s : St) (hN : 2 * s.args.length + 2 ≤ N) (M : Nat) (hf : (ex f s []).L.length ≤ M) : (partG k q t o f s).L.length ≤ M + N := by
  unfold partG
  cases k == 2
  · simp; omega
  · unfold paramG ownG afterP
    simp only [cond_true]
    have h1 := empty_len (valuesP s q t) (q && !(bs t == [64]))
    have h2 := values_len s q t
    cases (bs o).isEmpty || (usable s t o && !hasC o 43)
    · cases hasC o 43 && !usable s t o
      · simp only [cond_false]
        cases (ex f s []).k == 0
        · simp only [Bool.not_false, cond_true]; omega
        · cases hasC o 61
          · cases hasC o 63
            · have := empty_len (ex f s []).L q; simp only [Bool.not_true, cond_false]; omega
            · simp
          · simp; omega
      · have := empty_len [] q; simp only [cond_true, cond_false, List.length_nil] at this ⊢; omega
    · simp only [cond_true]; omega
end Ex
end Go.Proofs.YtoneabcbeikkhaaGreatDoor

namespace Go.Proofs.YtoneabcbeikkhaaGreatDoor
open Go.RowKit Cls
namespace Ex
open Vr (St val setV Srt getV argV)
open Fld (Pc bs tx joinS cutP joinP weight)
open Pt (PL)
/-- Pieces weigh little more than their bytes. -/
def W (l : List Pc) (c : Nat) : Prop := weight l ≤ 3 * (joinS l).length + c
theorem W.nil : W [] 0 := by simp [W, weight, joinS]
theorem W.app {l m : List Pc} {c d : Nat} (h : W l c) (k : W m d) : W (l ++ m) (c + d) := by
  unfold W at *
  rw [Fld.weight_app, join_app, List.length_append]; omega
theorem W.up {l : List Pc} {c d : Nat} (h : W l c) (hd : c ≤ d) : W l d := Nat.le_trans h (by omega)
theorem W.one (t : ByteArray) (q : Bool) : W [(t, q, false)] 1 := by
  simp [W, weight, joinS, joinP]; omega
theorem W.args (q : Bool) (l : List ByteArray) : W (argsP q l) 1 := by
  cases l with
  | nil => exact W.nil.up (by omega)
  | cons x r =>
    have h : ∀ r : List ByteArray, weight (r.flatMap fun y => [cutP, (y, q, false)]) ≤ 3 * (joinS (r.flatMap fun y => [cutP, (y, q, false)])).length := by
      intro r
      induction r with
      | nil => simp [weight, joinS]
      | cons y r ih =>
        rw [List.flatMap_cons, Fld.weight_app, join_app, List.length_append]
        have h1 : weight [cutP, (y, q, false)] = 0 + 1 + (y.size + 1) := by simp [weight, cutP, Fld.tx_size]
        have h2 : (joinS [cutP, (y, q, false)]).length = 1 + y.size := by simp [joinS, joinP, cutP]; omega
        omega
    show W ([(x, q, false)] ++ r.flatMap fun y => [cutP, (y, q, false)]) 1
    exact (W.one x q).app (d := 0) (h r)
theorem W.values (s : St) (q : Bool) (t : ByteArray) : W (valuesP s q t) 1 := by
  unfold valuesP
  cases val s t with
  | none => exact W.nil.up (by omega)
  | some v =>
    simp only
    cases apart t q
    · exact W.one v q
    · exact W.args q s.args
theorem W.empty {l : List Pc} {c : Nat} (h : W l c) (q : Bool) : W (emptyP l q) (c + 1) := by
  unfold emptyP
  cases l.isEmpty && q
  · exact h.up (by omega)
  · exact (W.one (tx []) true).up (by omega)
theorem W.part {c : Nat} (k : Int) (q : Bool) (t o : ByteArray) (f : PL) (s : St) (hf : W (ex f s []).L c) : W (partG k q t o f s).L (c + 2) := by
  unfold partG
  cases k == 2
  · exact (W.one t q).up (by omega)
  · unfold paramG ownG afterP
    simp only [cond_true]
    cases (bs o).isEmpty || (usable s t o && !hasC o 43)
    · cases hasC o 43 && !usable s t o
      · simp only [cond_false]
        cases (ex f s []).k == 0
        · simp only [Bool.not_false, cond_true]; exact hf.up (by omega)
        · cases hasC o 61
          · cases hasC o 63
            · simp only [Bool.not_true, cond_false]; exact (hf.empty q).up (by omega)
            · exact W.nil.up (by omega)
          · exact (W.one _ q).up (by omega)
      · simp only [cond_true, cond_false]; exact (W.nil.empty q).up (by omega)
    · simp only [cond_true]; exact ((W.values s q t).empty _).up (by omega)
theorem W.ex : ∀ (l : PL) (s : St) (acc : List Pc) (c : Nat), W acc c → W (ex l s acc).L (c + 2 * l.size)
  | .nil, s, acc, c, h => h.up (by simp [PL.size])
  | .cons k q t o f r, s, acc, c, h => by
    have hf := W.ex f s [] 0 W.nil
    have hp := W.part k q t o f s hf
    rw [ex_cons]
    cases (partG k q t o f s).k == 0
    · exact W.nil.up (by omega)
    · simp only [Bool.not_true, cond_false]
      cases decide (65536 < (joinS (acc ++ (partG k q t o f s).L)).length)
      · have := W.ex r (partG k q t o f s).S (acc ++ (partG k q t o f s).L) _ (h.app hp)
        simp only [cond_false]
        exact this.up (by simp only [PL.size]; omega)
      · exact W.nil.up (by omega)
/-- What a scope's values may take. -/
structure Small (s : St) : Prop where
  vs : ∀ p ∈ s.vs, p.2.size ≤ 100000
  join : (Lib.join (s.args.map bs) [32]).length ≤ 100000
  args : ∀ a ∈ s.args, a.size ≤ 100000
  st0 : -9223372036854775808 ≤ s.st
  st1 : s.st ≤ 9223372036854775807
  la0 : -9223372036854775808 ≤ s.la
  la1 : s.la ≤ 9223372036854775807
  nargs : s.args.length ≤ 100000
theorem inter_snoc (s x : List UInt8) : ∀ l : List (List UInt8), l ≠ [] → s.intercalate (l ++ [x]) = s.intercalate l ++ s ++ x
  | [], h => absurd rfl h
  | [a], _ => by simp [List.intercalate]
  | a :: b :: r, _ => by
    have ih := inter_snoc s x (b :: r) (by simp)
    simp only [List.intercalate, List.cons_append, List.intersperse_cons_cons, List.flatten_cons] at ih ⊢
    rw [ih]; simp
/-- The arguments' pieces have the bytes of the arguments, with blanks between. -/
theorem join_args (q : Bool) (l : List ByteArray) : joinS (argsP q l) = Lib.join (l.map bs) [32] := by
  have h : ∀ n, ∀ l : List ByteArray, l.length = n → joinS (argsP q l) = Lib.join (l.map bs) [32] := by
    intro n
    induction n with
    | zero => intro l hl; rw [List.length_eq_zero_iff.1 hl]; rfl
    | succ n ih =>
      intro l hl
      rcases List.eq_nil_or_concat l with rfl | ⟨m, y, rfl⟩
      · simp at hl
      · have hm : m.length = n := by simpa using hl
        rw [List.concat_eq_append, argsP_snoc, join_app, ih m hm]
        cases m with
        | nil => simp [joinS, joinP, Lib.join]
        | cons a r =>
          unfold Lib.join
          rw [List.map_append, List.map_cons]
          show _ = [32].intercalate ((bs a :: r.map bs) ++ [bs y])
          rw [inter_snoc [32] (bs y) _ (by simp)]
          simp [joinS, joinP, cutP]
  exact h _ l rfl
theorem itoa_le (n : Int) (h0 : -9223372036854775808 ≤ n) (h1 : n ≤ 9223372036854775807) : (Vr.tx (Lib.itoa n)).size ≤ 21 := by
  have := Lib.itoa_length_le n h0 h1
  simpa [Vr.tx, ByteArray.size] using this
theorem val_small {s : St} (h : Small s) {t v : ByteArray} (hv : val s t = some v) : v.size ≤ 100000 := by
  unfold val at hv
  split at hv
  · exact h.vs _ (Vr.get_mem hv)
  split at hv
  · cases hv
  split at hv
  · cases hv; decide
  split at hv
  · cases hv; have := itoa_le s.args.length (by omega) (by have := h.nargs; omega); omega
  split at hv
  · cases hv; have := itoa_le s.st h.st0 h.st1; omega
  split at hv
  · cases hv; decide
  split at hv
  · split at hv
    · cases hv
    · cases hv; have := itoa_le s.la h.la0 h.la1; omega
  split at hv
  · split at hv
    · cases hv
    · cases hv
      have := h.join
      simpa [Vr.tx, ByteArray.size] using this
  · unfold argV at hv
    split at hv
    · split at hv
      · exact h.args _ (List.mem_of_getElem? hv)
      · cases hv
    · cases hv
theorem values_join {s : St} (h : Small s) (q : Bool) (t : ByteArray) : (joinS (valuesP s q t)).length ≤ 100000 := by
  unfold valuesP
  cases hv : val s t with
  | none => simp [joinS]
  | some v =>
    simp only
    cases apart t q
    · have := val_small h hv
      simp [joinS, joinP]; omega
    · simp only [cond_true]; rw [join_args]; exact h.join
theorem empty_join (l : List Pc) (q : Bool) : joinS (emptyP l q) = joinS l := by
  unfold emptyP
  cases hl : l.isEmpty && q
  · rfl
  · have : l = [] := by
      cases l with
      | nil => rfl
      | cons => simp at hl
    subst this; rfl
theorem part_join {s : St} (h : Small s) (k : Int) (q : Bool) (t o : ByteArray) (f : PL) (ht : t.size ≤ 100000) : (joinS (partG k q t o f s).L).length ≤ 100000 := by
  have hj := ex_join f s [] (by simp [joinS])
  unfold partG
  cases k == 2
  · simp [joinS, joinP]; omega
  · unfold paramG ownG afterP
    simp only [cond_true]
    cases (bs o).isEmpty || (usable s t o && !hasC o 43)
    · cases hasC o 43 && !usable s t o
      · simp only [cond_false]
        cases (ex f s []).k == 0
        · simp only [Bool.not_false, cond_true]; omega
        · cases hasC o 61
          · cases hasC o 63
            · simp only [Bool.not_true, cond_false, empty_join]; omega
            · simp [joinS]
          · have : joinS [(tx (joinS (ex f s []).L), q, false)] = joinS (ex f s []).L := by simp [joinS, joinP, tx]
            simp only [Bool.not_true, cond_false, cond_true, this]; omega
      · simp only [cond_true, cond_false, empty_join]; simp [joinS]
    · simp only [cond_true, empty_join]; exact values_join h q t
theorem OKs.small {z s : St} {m : Nat} (hz : Small z) (h : OKs z m s) : Small s :=
  ⟨fun p hp => (h.vs p hp).2.2, by rw [h.args]; exact hz.join, by rw [h.args]; exact hz.args, by rw [h.st]; exact hz.st0, by rw [h.st]; exact hz.st1, by rw [h.la]; exact hz.la0, by rw [h.la]; exact hz.la1, by rw [h.args]; exact hz.nargs⟩
end Ex
end Go.Proofs.YtoneabcbeikkhaaGreatDoor

namespace Go.Proofs.YtoneabcbeikkhaaGreatDoor
open Go.RowKit Cls
namespace Ex
open Vr (St val)
open Fld (Pc bs tx joinS cutP joinP S s0 splitS pieceS piecesS growS endS)
open Pt (PL)
/-- All pieces are quoted, none is a cut. -/
def AllQ (l : List Pc) : Prop := ∀ p ∈ l, p.2.1 = true ∧ p.2.2 = false
theorem AllQ.app {l m : List Pc} (h : AllQ l) (k : AllQ m) : AllQ (l ++ m) := fun p hp => (List.mem_append.1 hp).elim (h p) (k p)
theorem AllQ.nil : AllQ [] := fun p hp => by cases hp
theorem AllQ.one (t : ByteArray) : AllQ [(t, true, false)] := fun p hp => by
  obtain rfl := List.mem_singleton.1 hp; exact ⟨rfl, rfl⟩
theorem quoted_state : ∀ (l : List Pc) (E : List ByteArray) (t : List UInt8), AllQ l → ∃ u, piecesS ⟨E, true, t⟩ l = ⟨E, true, u⟩
  | [], E, t, _ => ⟨t, rfl⟩
  | p :: r, E, t, h => by
    have hp := h p List.mem_cons_self
    have h1 : pieceS ⟨E, true, t⟩ p = ⟨E, true, t ++ bs p.1⟩ := by unfold pieceS; rw [hp.1, hp.2]; rfl
    show ∃ u, piecesS (pieceS ⟨E, true, t⟩ p) r = _
    rw [h1]
    exact quoted_state r E _ fun x hx => h x (List.mem_cons_of_mem _ hx)
/-- Quoted pieces, at least one, are one field. -/
theorem split_one {l : List Pc} (h : AllQ l) (hne : l ≠ []) : (splitS l).length = 1 := by
  cases l with
  | nil => exact absurd rfl hne
  | cons p r =>
    have hp := h p List.mem_cons_self
    have h1 : pieceS s0 p = ⟨[], true, bs p.1⟩ := by unfold pieceS; rw [hp.1, hp.2]; rfl
    obtain ⟨u, hu⟩ := quoted_state r [] (bs p.1) fun x hx => h x (List.mem_cons_of_mem _ hx)
    unfold splitS
    show (endS (piecesS (pieceS s0 p) r)).E.length = 1
    rw [h1, hu]; rfl
/-- Are all parts quoted, and is none all arguments? -/
def quotedL : PL → Bool
  | .nil => true
  | .cons k q t _ f r => q && !(k == 2 && bs t == [64]) && quotedL f && quotedL r
theorem values_q (s : St) (t : ByteArray) (h : bs t ≠ [64]) : AllQ (valuesP s true t) := by
  unfold valuesP
  cases val s t with
  | none => exact AllQ.nil
  | some v =>
    have : apart t true = false := by simp [apart, h]
    simp only [this, cond_false]
    exact AllQ.one v
theorem empty_q {l : List Pc} (h : AllQ l) : AllQ (emptyP l true) ∧ emptyP l true ≠ [] := by
  cases l with
  | nil => exact ⟨AllQ.one _, by simp [emptyP]⟩
  | cons p r => exact ⟨h, by simp [emptyP]⟩
theorem part_q (k : Int) (t o : ByteArray) (f : PL) (s : St) (h : (k == 2 && bs t == [64]) = false) (hf : (ex f s []).k = 0 → AllQ (ex f s []).L) (h0 : (partG k true t o f s).k = 0) : AllQ (partG k true t o f s).L ∧ (partG k true t o f s).L ≠ [] := by
  revert h0
  unfold partG
  cases hk : k == 2
  · intro _; exact ⟨AllQ.one t, by simp⟩
  · have ht : bs t ≠ [64] := by rw [hk] at h; simpa using h
    have hb : (bs t == [64]) = false := by simpa using ht
    unfold paramG ownG afterP
    simp only [cond_true, hb]
    cases (bs o).isEmpty || (usable s t o && !hasC o 43)
    · cases hasC o 43 && !usable s t o
      · simp only [cond_false]
        cases hg : (ex f s []).k == 0
        · intro h0; simp only [Bool.not_false, cond_true] at h0; rw [h0] at hg; cases hg
        · cases hasC o 61
          · cases hasC o 63
            · intro _; exact empty_q (hf (by simpa using hg))
            · intro h0; simp at h0
          · intro _; exact ⟨AllQ.one _, by simp⟩
      · intro _; exact empty_q AllQ.nil
    · intro _; exact empty_q (values_q s t ht)
theorem ex_q : ∀ (l : PL) (s : St) (acc : List Pc), quotedL l = true → AllQ acc → (ex l s acc).k = 0 → AllQ (ex l s acc).L ∧ ((l ≠ .nil ∨ acc ≠ []) → (ex l s acc).L ≠ [])
  | .nil, s, acc, _, ha, _ => ⟨ha, fun h => h.elim (fun h => absurd rfl h) id⟩
  | .cons k q t o f r, s, acc, h, ha, h0 => by
    simp only [quotedL, Bool.and_eq_true, Bool.not_eq_true'] at h
    obtain ⟨⟨⟨rfl, hk⟩, hf⟩, hr⟩ := h
    rw [ex_cons] at h0 ⊢
    cases hg : (partG k true t o f s).k == 0
    · rw [hg] at h0; simp only [Bool.not_false, cond_true] at h0; rw [h0] at hg; cases hg
    · rw [hg] at h0
      simp only [Bool.not_true, cond_false] at h0 ⊢
      have hp := part_q k t o f s hk (fun h => (ex_q f s [] hf AllQ.nil h).1) (by simpa using hg)
      cases hd : decide (65536 < (joinS (acc ++ (partG k true t o f s).L)).length)
      · rw [hd] at h0
        simp only [cond_false] at h0 ⊢
        have := ex_q r _ (acc ++ (partG k true t o f s).L) hr (ha.app hp.1) h0
        exact ⟨this.1, fun _ => this.2 (.inr fun e => hp.2 (List.append_eq_nil_iff.1 e).2)⟩
      · rw [hd] at h0; simp at h0
/-- A text is itself. -/
theorem ex_text (x : ByteArray) (s : St) (h : x.size ≤ 65536) : ex (.cons 1 true x (tx []) .nil .nil) s [] = ⟨[(x, true, false)], s, 0, tx []⟩ := by
  rw [ex_cons]
  have h1 : partG 1 true x (tx []) .nil s = ⟨[(x, true, false)], s, 0, tx []⟩ := rfl
  rw [h1]
  have h2 : decide (65536 < (joinS ([] ++ [(x, true, false)])).length) = false := decide_eq_false (by simp [joinS, joinP]; omega)
  rw [h2]
  rfl
theorem split_text (x : ByteArray) : splitS [(x, true, false)] = [x] := by
  show [tx ([] ++ bs x)] = [x]
  rw [List.nil_append, Fld.tx_bs]
theorem args_qP (l : List ByteArray) : argsP true l = Fld.qP l := by cases l <;> rfl
theorem param64 : paramL [64] = true := by decide
theorem name64 : nameL [64] = false := by decide
theorem val_at (s : St) : val s (tx [64]) = if s.args = [] then none else some (Vr.tx (Lib.join (s.args.map bs) [32])) := by
  unfold val
  rw [show Vr.bs (tx [64]) = [64] from rfl, if_neg (by rw [name64]; simp), if_neg (by rw [param64]; simp), if_neg (by decide), if_neg (by decide), if_neg (by decide), if_neg (by decide), if_neg (by decide), if_pos (.inl rfl)]
theorem values_at (s : St) : valuesP s true (tx [64]) = Fld.qP s.args := by
  unfold valuesP
  rw [val_at]
  by_cases h : s.args = []
  · rw [if_pos h, h]; rfl
  · rw [if_neg h, ← args_qP]; rfl
/-- All arguments, quoted, are just they. -/
theorem ex_args (s : St) : ex (.cons 2 true (tx [64]) (tx []) .nil .nil) s [] = bif decide (65536 < (joinS (Fld.qP s.args)).length) then ⟨[], s, 2, tx []⟩ else ⟨Fld.qP s.args, s, 0, tx []⟩ := by
  rw [ex_cons]
  have h1 : partG 2 true (tx [64]) (tx []) .nil s = ⟨Fld.qP s.args, s, 0, tx []⟩ := by
    show ownG s true (tx [64]) = _
    unfold ownG
    rw [values_at]
    have : emptyP (Fld.qP s.args) (true && !(bs (tx [64]) == [64])) = Fld.qP s.args := by
      have h2 : (true && !(bs (tx [64]) == [64])) = false := by decide
      rw [h2]; unfold emptyP; rw [Bool.and_false]; rfl
    rw [this]
  rw [h1]
  rfl
end Ex
end Go.Proofs.YtoneabcbeikkhaaGreatDoor
