/- FieldParts's walk: rows that are appended to a row of the call's own. -/
import Derived.Test.YtbhfdjmnnailnaaFdN
import Derived.Laws.AppendOwnNone
namespace Go.Proofs.Ytbhfdjmnnailnaa
open Go.RowKit Cls
namespace Fld
theorem infoPc : (Try.prog.info? 31).map (fun i => (i.zero, i.size, i.bytes)) = some (some (.agg #[.string ⟨#[]⟩, .bool false, .bool false]), 3, 24) := by kernel_rfl
/-- Pieces are appended to a row of its own. -/
theorem wpList_append_pcs {w : World} {ops : Array Oper} {rest : List Oper} {o : Oper} {a : Act} {Q : Exit → Act → World → Prop} (hgd : o.guard = none) (s x : Operand)
    (ho : o.op = .call { callee := .builtin .append, args := #[s, x], argTypes := #[22, 22] })
    (base : Nat) (v : Value) (n : Nat) (xs : List Value) (hs : a.eval s = v) (hown : w.ownsRow base 31 3 v n xs)
    (sa : Option Addr) (c : Nat) (ps : List Pc) (hx : a.eval x = .slice sa ps.length c) (ht : Pcs w sa ps) (hnil : sa = none → c = 0)
    (h63 : n + ps.length ≤ maxLen) (hbytes : (n + ps.length) * 24 ≤ 140737488355328) (hbase : base ≤ w.heap.size)
    (h : ∀ v' w', w'.ownsRow base 31 3 v' (n + ps.length) (xs ++ pcells ps) → w.grownBy w' v.ownBlock → wpList Try.prog ops Q rest (a.put o.dst v') w') : wpList Try.prog ops Q (o :: rest) a w := by
  obtain ⟨i0, hi0, hz0, hz1, hz2⟩ := info_parts infoPc
  cases sa with
  | none =>
    obtain rfl : ps = [] := by
      rcases ht with h | ⟨b, o, h, _⟩
      · exact h
      · cases h
    obtain rfl := hnil rfl
    refine wpList_append_own_none hgd s x 22 ho base 31 i0 3 Try.underlying22 hi0 v n xs hs hown hx (h v w ?_ (World.grownBy.refl _ _))
    simpa [pcells] using hown
  | some ad =>
    refine wpList_append_own w hgd s x 22 ho base 31 i0 (.agg #[.string ⟨#[]⟩, .bool false, .bool false]) 3 24 Try.underlying22 hi0 hz0 hz1 hz2 rfl (by decide) v n xs hs hown ad ps.length c (pcells ps) hx (pcells_len ps) ?_ (pcells_one ps) h63 hbytes hbase (fun v' w' h1 h2 _ => h v' w' h1 h2)
    intro j u hj
    by_cases hne : ps = []
    · subst hne; simp [pcells] at hj
    · obtain ⟨b, o, h, hc⟩ := ht.cells hne
      cases h
      rw [Go.WideShapes.add_plain]
      exact hc j u hj
/-- Texts are appended to a row of its own. -/
theorem wpList_append_txt {w : World} {ops : Array Oper} {rest : List Oper} {o : Oper} {a : Act} {Q : Exit → Act → World → Prop} (hgd : o.guard = none) (s x : Operand)
    (ho : o.op = .call { callee := .builtin .append, args := #[s, x], argTypes := #[27, 27] })
    (base : Nat) (v : Value) (n : Nat) (xs : List Value) (hs : a.eval s = v) (hown : w.ownsRow base 9 1 v n xs)
    (sa : Option Addr) (c : Nat) (ys : List ByteArray) (hx : a.eval x = .slice sa ys.length c) (ht : Txt w (.slice sa ys.length c) ys) (hnil : sa = none → c = 0)
    (h63 : n + ys.length ≤ maxLen) (hbytes : (n + ys.length) * 16 ≤ 140737488355328) (hbase : base ≤ w.heap.size)
    (h : ∀ v' w', w'.ownsRow base 9 1 v' (n + ys.length) (xs ++ ys.map Value.string) → w.grownBy w' v.ownBlock → wpList Try.prog ops Q rest (a.put o.dst v') w') : wpList Try.prog ops Q (o :: rest) a w := by
  obtain ⟨i0, hi0, hz0, hz1, hz2⟩ := info_parts infoStr
  cases sa with
  | none =>
    obtain rfl : ys = [] := by
      rcases ht with ⟨h, _⟩ | ⟨b, off, cap, h, _⟩
      · exact h
      · cases h
    obtain rfl := hnil rfl
    refine wpList_append_own_none hgd s x 27 ho base 9 i0 1 Try.underlying27 hi0 v n xs hs hown hx (h v w ?_ (World.grownBy.refl _ _))
    simpa using hown
  | some ad =>
    refine wpList_append_own w hgd s x 27 ho base 9 i0 (.string ⟨#[]⟩) 1 16 Try.underlying27 hi0 hz0 hz1 hz2 rfl (by decide) v n xs hs hown ad ys.length c (ys.map Value.string) hx (by simp) ?_ ?_ h63 hbytes hbase (fun v' w' h1 h2 _ => h v' w' h1 h2)
    · intro j u hj
      rw [List.getElem?_map] at hj
      obtain ⟨y, hy, rfl⟩ := Option.map_eq_some_iff.1 hj
      rcases ht with ⟨h, _⟩ | ⟨b, off, cap, h, _, _, h3⟩
      · rw [h] at hy; simp at hy
      · cases h; rw [Go.WideShapes.add_plain]; exact h3 j y hy
    · intro u hu
      obtain ⟨y, _, rfl⟩ := List.mem_map.1 hu
      rfl
theorem grown_below {w0 w w' : World} {v : Value} {b : Nat} {e : TypeId} {s n : Nat} {xs : List Value} (hb : Below w0.heap.size w0 w) (h : w.ownsRow b e s v n xs) (hB : w0.heap.size ≤ b) (hg : w.grownBy w' v.ownBlock) : Below w0.heap.size w0 w' :=
  hb.grown hg hb.size fun k hk => Nat.le_trans hB (h.lt k hk).1
set_option maxHeartbeats 1600000 in
theorem parts_big (a b : Option Addr) (cap capb : Nat) (ps qs : List Pc) (w : World) (h : Pcs w a ps) (hq : Pcs w b qs) (hl : ps.length ≤ R) (hR : ∀ p ∈ ps, p.1.size ≤ R) (hlq : qs.length ≤ R) (hRq : ∀ p ∈ qs, p.1.size ≤ R) (hg : 5000 < weight ps ∨ 5000 < weight qs) :
    Calls Try.prog 4 #[.slice a ps.length cap, .slice b qs.length capb] w fun e w' => e = .returned (.bool true) ∧ Below w.heap.size w w' := by
  have H := Lib.hid h; have HQ := Lib.hid hq; clear h hq
  by_cases hga : 5000 < weight ps
  · go_enter Try.func4, Try.ntmps4
    go_wp2_with fail
    refine (alive_any _).mono ?_
    rintro e w1 ⟨rfl, hb1⟩
    have HB1 := Lib.hid hb1
    clear hb1
    go_wp2_with fail
    refine (heavy_any a cap ps _ (H.out.below HB1.out) hl hR).mono ?_
    rintro e w2 ⟨rfl, hb2⟩
    rw [hvy_big hga]
    have HB2 := Lib.hid (HB1.out.trans (hb2.mono HB1.out.size))
    clear hb2
    go_wp2_with fail
    go_ret
    exact ⟨rfl, HB2.out⟩
  · have hgb : 5000 < weight qs := by omega
    go_enter Try.func4, Try.ntmps4
    go_wp2_with fail
    refine (alive_any _).mono ?_
    rintro e w1 ⟨rfl, hb1⟩
    have HB1 := Lib.hid hb1
    clear hb1
    go_wp2_with fail
    refine (heavy_any a cap ps _ (H.out.below HB1.out) hl hR).mono ?_
    rintro e w2 ⟨rfl, hb2⟩
    rw [hvy_small hga]
    have HB2 := Lib.hid (HB1.out.trans (hb2.mono HB1.out.size))
    clear hb2
    go_wp2_with fail
    refine (heavy_any b capb qs _ (HQ.out.below HB2.out) hlq hRq).mono ?_
    rintro e w3 ⟨rfl, hb3⟩
    rw [hvy_big hgb]
    have HB3 := Lib.hid (HB2.out.trans (hb3.mono HB2.out.size))
    clear hb3
    go_wp2_with fail
    go_ret
    exact ⟨rfl, HB3.out⟩
end Fld
end Go.Proofs.Ytbhfdjmnnailnaa
