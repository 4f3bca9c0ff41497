/- Rows that are appended to a row of the call's own; a piece in new memory. -/
import Derived.Test.YtoneabcbeikkhaaGreatDoorFdE
import Derived.Laws.AppendOwnNone
namespace Go.Proofs.YtoneabcbeikkhaaGreatDoor
open Go.RowKit Cls
namespace Fld
theorem one_piece (w : World) (t : ByteArray) (q c : Bool) : Pcs (w.alloc (.cells #[.string t, .bool q, .bool c] 69)) (some ⟨w.heap.size, 0, none⟩) [(t, q, c)] := by
  refine .inr ⟨_, 0, rfl, by simp, fun i hi => ?_⟩
  obtain rfl : i = 0 := by simp at hi; omega
  exact ⟨World.cell?_alloc_at _ _ _ _ rfl, World.cell?_alloc_at _ _ _ _ rfl, World.cell?_alloc_at _ _ _ _ rfl⟩
theorem own_len {w : World} {b : Nat} {e : TypeId} {s : Nat} {v : Value} {n : Nat} {xs : List Value} (h : w.ownsRow b e s v n xs) : ∃ a cap, v = .slice a n cap ∧ (a = none → cap = 0) := by
  rcases h.2 with ⟨rfl, h0⟩ | ⟨g, cap, cur, rfl, _⟩
  · exact ⟨none, 0, by rw [h0], fun _ => rfl⟩
  · exact ⟨_, cap, rfl, fun h => by cases h⟩
theorem infoPc : (Tryz.prog.info? 69).map (fun i => (i.zero, i.size, i.bytes)) = some (some (.agg #[.string ⟨#[]⟩, .bool false, .bool false]), 3, 24) := by kernel_rfl
/-- Pieces are appended to a row of its own. -/
theorem wpList_append_pcs {w : World} {ops : Array Oper} {rest : List Oper} {o : Oper} {a : Act} {Q : Exit → Act → World → Prop} (hgd : o.guard = none) (s x : Operand)
    (ho : o.op = .call { callee := .builtin .append, args := #[s, x], argTypes := #[34, 34] })
    (base : Nat) (v : Value) (n : Nat) (xs : List Value) (hs : a.eval s = v) (hown : w.ownsRow base 69 3 v n xs)
    (sa : Option Addr) (c : Nat) (ps : List Pc) (hx : a.eval x = .slice sa ps.length c) (ht : Pcs w sa ps) (hnil : sa = none → c = 0)
    (h63 : n + ps.length ≤ maxLen) (hbytes : (n + ps.length) * 24 ≤ 140737488355328) (hbase : base ≤ w.heap.size)
    (h : ∀ v' w', w'.ownsRow base 69 3 v' (n + ps.length) (xs ++ pcells ps) → w.grownBy w' v.ownBlock → wpList Tryz.prog ops Q rest (a.put o.dst v') w') : wpList Tryz.prog ops Q (o :: rest) a w := by
  obtain ⟨i0, hi0, hz0, hz1, hz2⟩ := info_parts infoPc
  cases sa with
  | none =>
    obtain rfl : ps = [] := by
      rcases ht with h | ⟨b, o, h, _⟩
      · exact h
      · cases h
    obtain rfl := hnil rfl
    refine wpList_append_own_none hgd s x 34 ho base 69 i0 3 Tryz.underlying34 hi0 v n xs hs hown hx (h v w ?_ (World.grownBy.refl _ _))
    simpa [pcells] using hown
  | some ad =>
    refine wpList_append_own w hgd s x 34 ho base 69 i0 (.agg #[.string ⟨#[]⟩, .bool false, .bool false]) 3 24 Tryz.underlying34 hi0 hz0 hz1 hz2 rfl (by decide) v n xs hs hown ad ps.length c (pcells ps) hx (pcells_len ps) ?_ (pcells_one ps) h63 hbytes hbase (fun v' w' h1 h2 _ => h v' w' h1 h2)
    intro j u hj
    by_cases hne : ps = []
    · subst hne; simp [pcells] at hj
    · obtain ⟨b, o, h, hc⟩ := ht.cells hne
      cases h
      rw [Go.WideShapes.add_plain]
      exact hc j u hj
/-- Texts are appended to a row of its own. -/
theorem wpList_append_txt {w : World} {ops : Array Oper} {rest : List Oper} {o : Oper} {a : Act} {Q : Exit → Act → World → Prop} (hgd : o.guard = none) (s x : Operand)
    (ho : o.op = .call { callee := .builtin .append, args := #[s, x], argTypes := #[23, 23] })
    (base : Nat) (v : Value) (n : Nat) (xs : List Value) (hs : a.eval s = v) (hown : w.ownsRow base 9 1 v n xs)
    (sa : Option Addr) (c : Nat) (ys : List ByteArray) (hx : a.eval x = .slice sa ys.length c) (ht : Txt w (.slice sa ys.length c) ys) (hnil : sa = none → c = 0)
    (h63 : n + ys.length ≤ maxLen) (hbytes : (n + ys.length) * 16 ≤ 140737488355328) (hbase : base ≤ w.heap.size)
    (h : ∀ v' w', w'.ownsRow base 9 1 v' (n + ys.length) (xs ++ ys.map Value.string) → w.grownBy w' v.ownBlock → wpList Tryz.prog ops Q rest (a.put o.dst v') w') : wpList Tryz.prog ops Q (o :: rest) a w := by
  obtain ⟨i0, hi0, hz0, hz1, hz2⟩ := info_parts infoStr
  cases sa with
  | none =>
    obtain rfl : ys = [] := by
      rcases ht with ⟨h, _⟩ | ⟨b, off, cap, h, _⟩
      · exact h
      · cases h
    obtain rfl := hnil rfl
    refine wpList_append_own_none hgd s x 23 ho base 9 i0 1 Tryz.underlying23 hi0 v n xs hs hown hx (h v w ?_ (World.grownBy.refl _ _))
    simpa using hown
  | some ad =>
    refine wpList_append_own w hgd s x 23 ho base 9 i0 (.string ⟨#[]⟩) 1 16 Tryz.underlying23 hi0 hz0 hz1 hz2 rfl (by decide) v n xs hs hown ad ys.length c (ys.map Value.string) hx (by simp) ?_ ?_ h63 hbytes hbase (fun v' w' h1 h2 _ => h v' w' h1 h2)
    · intro j u hj
      rw [List.getElem?_map] at hj
      obtain ⟨y, hy, rfl⟩ := Option.map_eq_some_iff.1 hj
      rcases ht with ⟨h, _⟩ | ⟨b, off, cap, h, _, _, h3⟩
      · rw [h] at hy; simp at hy
      · cases h; rw [Go.WideShapes.add_plain]; exact h3 j y hy
    · intro u hu
      obtain ⟨y, _, rfl⟩ := List.mem_map.1 hu
      rfl
theorem grown_below {w0 w w' : World} {v : Value} {b : Nat} {e : TypeId} {s n : Nat} {xs : List Value} (hb : Below w0.heap.size w0 w) (h : w.ownsRow b e s v n xs) (hB : w0.heap.size ≤ b) (hg : w.grownBy w' v.ownBlock) : Below w0.heap.size w0 w' :=
  hb.grown hg hb.size fun k hk => Nat.le_trans hB (h.lt k hk).1
end Fld
end Go.Proofs.YtoneabcbeikkhaaGreatDoor
