/- Items of a stack (layer 15): what they are, in memory; loops and walls. -/
import Derived.Test.YtbcldfaphnnmlaaRtN
import Derived.Test.YtbcldfaphnnmlaaTrV
import Derived.Lib.AppendIntMem
import Derived.Lib.QuietBelow
namespace Go.Proofs.Ytbcldfaphnnmlaa
open Go.RowKit Go.Sort
namespace Fra
open Cls Pt Tr

/-- An item, with where its rows lie. -/
structure IV where
  k : Int
  nk : Int
  nm : ByteArray
  g : Bool
  az : List (ByteArray × PL)
  nw : List PL
  ks : NL
  bs : List Bool
  cz : NL
  a1 : Option Addr
  c1 : Nat
  a2 : Option Addr
  c2 : Nat
  a3 : Option Addr
  c3 : Nat
  a4 : Option Addr
  c4 : Nat
  a5 : Option Addr
  c5 : Nat
  pl : Int
  st : Int
  fr : Bool
  ws : List ByteArray
  wa : Option Addr
  wc : Nat
  ps : List Int
  pa : Option Addr
  pc : Nat
/-- The cells of an item. -/
def icells (y : IV) : List Value := [.int .i64 y.k, .int .i64 y.nk, .string y.nm, .bool y.g, .slice y.a1 y.az.length y.c1, .slice y.a2 y.nw.length y.c2, .slice y.a3 y.ks.len y.c3, .slice y.a4 y.bs.length y.c4, .slice y.a5 y.cz.len y.c5, .int .i64 y.pl, .int .i64 y.st, .bool y.fr, .slice y.wa y.ws.length y.wc, .slice y.pa y.ps.length y.pc]
theorem icells_len (y : IV) : (icells y).length = 14 := rfl
/-- The item that is none. -/
def zero : IV := ⟨0, 0, ⟨#[]⟩, false, [], [], .nil, [], .nil, none, 0, none, 0, none, 0, none, 0, none, 0, 0, 0, false, [], none, 0, [], none, 0⟩
/-- What a loop is when it goes on. -/
def again (y : IV) : IV := { zero with k := 7, nk := y.nk, nm := y.nm, g := y.g, az := y.az, nw := y.nw, ks := y.ks, bs := y.bs, cz := y.cz, a1 := y.a1, c1 := y.c1, a2 := y.a2, c2 := y.c2, a3 := y.a3, c3 := y.c3, a4 := y.a4, c4 := y.c4, a5 := y.a5, c5 := y.c5, fr := y.fr }
/-- What an item's rows hold lies in memory. -/
structure Good (w : World) (y : IV) : Prop where
  nd : Holds w y.nm y.az y.nw y.ks y.bs y.cz y.a1 y.c1 y.a2 y.c2 y.a3 y.c3 y.a4 y.c4 y.a5 y.c5
  nw : y.ws.length ≤ 140737488351232
  ws : ∀ j t, y.ws[j]? = some t → ∃ b o, y.wa = some ⟨b, o, none⟩ ∧ w.cell? ⟨b, o + j, none⟩ = some (.string t)
  np : y.ps.length ≤ 140737488351232
  ps : ∀ j t, y.ps[j]? = some t → ∃ b o, y.pa = some ⟨b, o, none⟩ ∧ w.cell? ⟨b, o + j, none⟩ = some (.int .i64 t)
theorem Good.stay {w w' : World} {y : IV} (h : Good w y) (hb : Below w.heap.size w w') : Good w' y :=
  ⟨h.nd.below hb, h.nw, fun j t e => by obtain ⟨b, o, e1, e2⟩ := h.ws j t e; exact ⟨b, o, e1, cell_below hb e2⟩, h.np, fun j t e => by obtain ⟨b, o, e1, e2⟩ := h.ps j t e; exact ⟨b, o, e1, cell_below hb e2⟩⟩
theorem sl_none {T : Type} (k : Nat) (P : Nat → Nat → T → Prop) : Sl k P none 0 [] := ⟨Nat.le_refl _, Nat.zero_le _, .inl rfl⟩
theorem zero_holds (w : World) : Holds w ⟨#[]⟩ [] [] .nil [] .nil none 0 none 0 none 0 none 0 none 0 :=
  ⟨Nat.zero_le _, sl_none _ _, sl_none _ _, ⟨Nat.le_refl _, Nat.zero_le _, .inl rfl⟩, sl_none _ _, ⟨Nat.le_refl _, Nat.zero_le _, .inl rfl⟩, rfl, rfl⟩
theorem zero_good (w : World) : Good w zero := ⟨zero_holds w, Nat.zero_le _, fun j t h => by simp [zero] at h, Nat.zero_le _, fun j t h => by simp [zero] at h⟩
theorem again_good {w : World} {y : IV} (h : Good w y) : Good w (again y) := ⟨h.nd, Nat.zero_le _, fun j t h => by simp [again, zero] at h, Nat.zero_le _, fun j t h => by simp [again, zero] at h⟩

/-- All cells of a row of items. -/
def lcells (l : List IV) : List Value := l.flatMap icells
theorem lcells_len (l : List IV) : (lcells l).length = l.length * 14 := by
  unfold lcells
  induction l with
  | nil => rfl
  | cons a r ih => rw [List.flatMap_cons, List.length_append, ih, icells_len, List.length_cons]; omega
theorem lcells_app (l m : List IV) : lcells (l ++ m) = lcells l ++ lcells m := by unfold lcells; rw [List.flatMap_append]
theorem lcells_at {l : List IV} {j : Nat} {p : IV} (h : l[j]? = some p) (i : Nat) (hi : i < 14) : (lcells l)[j * 14 + i]? = (icells p)[i]? := by
  induction l generalizing j with
  | nil => simp at h
  | cons a r ih =>
    unfold lcells
    rw [List.flatMap_cons]
    cases j with
    | zero =>
      simp at h; subst h
      rw [List.getElem?_append_left (by rw [icells_len]; omega)]; simp
    | succ j =>
      simp at h
      rw [List.getElem?_append_right (by rw [icells_len]; omega)]
      have := ih h
      rw [icells_len, show (j + 1) * 14 + i - 14 = j * 14 + i by omega]
      exact this
/-- A row of items that lies in memory. -/
def LAt (w : World) (v : Value) (l : List IV) : Prop := ∃ a cap, v = .slice a l.length cap ∧ l.length ≤ cap ∧ ∀ j p, l[j]? = some p → ∃ b o, a = some ⟨b, o, none⟩ ∧ b < w.heap.size ∧ ∀ i u, (icells p)[i]? = some u → w.cell? ⟨b, o + j * 14 + i, none⟩ = some u
theorem LAt.stay {w w' : World} {v : Value} {l : List IV} (h : LAt w v l) (hb : Below w.heap.size w w') : LAt w' v l := by
  obtain ⟨a, cap, e, hle, h⟩ := h
  refine ⟨a, cap, e, hle, fun j p hj => ?_⟩
  obtain ⟨b, o, e2, hl, h2⟩ := h j p hj
  exact ⟨b, o, e2, Nat.lt_of_lt_of_le hl hb.size, fun i u hi => (World.cell?_of_block (hb.block b hl)).trans (h2 i u hi)⟩
theorem LAt.nil (w : World) : LAt w (.slice none 0 0) [] := ⟨none, 0, rfl, Nat.le_refl _, fun j p h => by simp at h⟩
/-- The first ones of a row are a row. -/
theorem LAt.take {w : World} {a : Option Addr} {cap : Nat} {l : List IV} (h : LAt w (.slice a l.length cap) l) (n c : Nat) (hn : n ≤ l.length) (hc : n ≤ c) : LAt w (.slice a n c) (l.take n) := by
  obtain ⟨a', cap', e, _, h⟩ := h
  injection e with e1 _ e3
  subst e1
  refine ⟨a, c, by rw [List.length_take, Nat.min_eq_left hn], by rw [List.length_take]; omega, fun j p hj => h j p ?_⟩
  have hlt := (List.getElem?_eq_some_iff.1 hj).1
  rw [List.length_take] at hlt
  rw [List.getElem?_take_of_lt (by omega)] at hj
  exact hj
theorem LAt.own {w : World} {B : Nat} {e : TypeId} {v : Value} {l : List IV} (h : w.ownsRow B e 14 v l.length (lcells l)) : LAt w v l := by
  rcases h.2 with ⟨rfl, h0⟩ | ⟨g, cap, cur, rfl, hg, hb, h1, h2, h3, h4⟩
  · exact ⟨none, 0, by rw [h0], by omega, fun j p hj => by have := (List.getElem?_eq_some_iff.1 hj).1; omega⟩
  · refine ⟨_, cap, rfl, h1, fun j p hj => ⟨g, 0, rfl, (Array.getElem?_eq_some_iff.1 hb).1, fun i u hi => ?_⟩⟩
    have hjl := (List.getElem?_eq_some_iff.1 hj).1
    have hi7 : i < 14 := by have := (List.getElem?_eq_some_iff.1 hi).1; rwa [icells_len] at this
    have h5 : (cur.toList.take (l.length * 14))[j * 14 + i]? = some u := by rw [h4, lcells_at hj i hi7]; exact hi
    rw [List.getElem?_take_of_lt (by omega)] at h5
    rw [show (0 : Nat) + j * 14 + i = j * 14 + i by omega, Lib.cell_of_heap hb (j * 14 + i), ← Array.getElem?_toList]; exact h5

/-- Is it a loop? a wall? -/
def loopB (k : Int) : Bool := k == 6 || k == 7 || k == 8
def wallB (k : Int) : Bool := k == 9 || k == 12 || k == 13
/-- The places of the loops among the first n, above the uppermost wall, from above. -/
def lps (l : List IV) : Nat → List Nat
  | 0 => []
  | n + 1 => match l[n]? with
    | none => []
    | some x => if wallB x.k then [] else if loopB x.k then n :: lps l n else lps l n
theorem lps_len (l : List IV) : ∀ n, (lps l n).length ≤ n
  | 0 => Nat.le_refl _
  | n + 1 => by
    have := lps_len l n
    rw [lps]
    split
    · exact Nat.zero_le _
    · split
      · exact Nat.zero_le _
      · split
        · simp only [List.length_cons]; omega
        · omega
theorem lps_lt (l : List IV) : ∀ n i, i ∈ lps l n → i < n ∧ i < l.length
  | 0, i, h => by simp [lps] at h
  | n + 1, i, h => by
    rw [lps] at h
    split at h
    · simp at h
    · rename_i x hx
      split at h
      · simp at h
      · split at h
        · rcases List.mem_cons.1 h with rfl | h
          · exact ⟨Nat.lt_succ_self _, (List.getElem?_eq_some_iff.1 hx).1⟩
          · have := lps_lt l n i h; omega
        · have := lps_lt l n i h; omega
/-- What Break, Continue, Return and Saved answer. -/
def brk (l : List IV) (n : Int) : Option Nat := if n < 1 then none else (lps l l.length)[n.toNat - 1]?
def goes (x : IV) : IV := if x.k == 8 then x else again x
def ret (l : List IV) : Nat → Option (Nat × IV)
  | 0 => none
  | n + 1 => match l[n]? with
    | none => none
    | some x => if wallB x.k then (if x.k == 9 then some (n, x) else none) else ret l n
def svd (l : List IV) : Nat → Option Int
  | 0 => none
  | n + 1 => match l[n]? with
    | none => none
    | some x => if x.k == 12 || x.k == 13 then some x.st else svd l n
end Fra
end Go.Proofs.Ytbcldfaphnnmlaa
