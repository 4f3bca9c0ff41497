/- The reference's Rest: for all parts. -/
import Derived.Test.YtpjdpmlneefafaaDoorSpC
import Derived.Test.YtpjdpmlneefafaaDoorOwn
namespace Go.Proofs.YtpjdpmlneefafaaDoor
open Go.RowKit Go.Sort
namespace Sp
open Cls Pt

/-- The parts behind the first: where they begin, and their cells. -/
theorem tail_cells {w : World} {b p cap : Nat} {k : Int} {q : Bool} {t o : ByteArray} {f r : PL} (h : Lies w (some ⟨b, p, none⟩) cap (.cons k q t o f r)) :
    ∃ ys, CellsP w r ys ∧ ∀ j u, ys[j]? = some u → w.cell? ((⟨b, p + 5, none⟩ : Addr).add j) = some u := by
  rcases h.2.2 with h3 | ⟨b', o', ha, _, _, h3⟩
  · cases h3
  · cases ha
    obtain ⟨ys, hy, hc⟩ := CellsP.of_at h3
    exact ⟨ys, hy, fun j u hu => by rw [Go.WideShapes.add_plain]; exact hc j u hu⟩
theorem tail_none' {w w' : World} {r : PL} {ys : List Value} (h : CellsP w r ys) (hr : r.len = 0) (a : Nat → Addr) : ∀ j u, ys[j]? = some u → w'.cell? (a j) = some u := by
  cases r with
  | nil => cases h; intro j u hu; simp at hu
  | cons => simp [PL.len] at hr

set_option maxHeartbeats 800000 in
set_option maxRecDepth 100000 in
theorem rrest_any (k : Int) (q : Bool) (t o : ByteArray) (f r : PL) (n : Nat) (a : Option Addr) (cap : Nat) (w : World) (hl : Lies w a cap (.cons k q t o f r)) (hsz : (PL.cons k q t o f r).size ≤ 1000000) (hn : n < t.size) :
    Calls Tryd.prog 13 #[.slice a (r.len + 1) cap, .int .i64 n] w fun e w' => (∃ a' cap', e = .returned (.slice a' (restP (.cons k q t o f r) n).len cap') ∧ Lies w' a' cap' (restP (.cons k q t o f r) n)) ∧ Below w.heap.size w w' := by
  obtain ⟨i0, hi, hz0, hz1, hz2⟩ := info_parts infoPart
  obtain ⟨b1, p1, rfl, hb1, c10, c11, c12, c13, ht, ho, a1, ca1, c14, hl1⟩ := hl.get (i := 0) rfl
  rw [Nat.zero_mul, Nat.add_zero] at c10 c11 c12 c13 c14
  have hle := hl.le
  have hrs : r.len ≤ 1000000 := by have := len_size (.cons k q t o f r); simp only [PL.len] at this; omega
  have hle2 : r.len ≤ 140737488351232 := by omega
  obtain ⟨ys, hy, hyc⟩ := tail_cells hl
  have hyl := hy.len
  have hy1 := hy.one
  obtain ⟨A, C, hA, hAC⟩ : ∃ (A : Addr) (C : Nat), ((cap = 1 ∧ A = ⟨b1, p1, none⟩ ∧ C = 0) ∨ (¬ cap = 1 ∧ A = ⟨b1, p1 + 5, none⟩ ∧ C = cap - 1)) ∧ ∀ w', Below w.heap.size w w' → ∀ j u, ys[j]? = some u → w'.cell? (A.add j) = some u := by
    by_cases h1 : cap = 1
    · refine ⟨⟨b1, p1, none⟩, 0, .inl ⟨h1, rfl, rfl⟩, fun w' _ => tail_none' hy (by have := hl.1; simp only [PL.len] at this; omega) (fun j => (⟨b1, p1, none⟩ : Addr).add j)⟩
    · refine ⟨⟨b1, p1 + 5, none⟩, cap - 1, .inr ⟨h1, rfl, rfl⟩, fun w' hb j u hu => ?_⟩
      have := hyc j u hu
      rw [Go.WideShapes.add_plain] at this ⊢
      exact (hb.cell (p := ⟨b1, p1 + 5 + j, none⟩) hb1).trans this
  have HL := Lib.hid hl; have HL1 := Lib.hid hl1; have HY := Lib.hid hy; have HYL := Lib.hid hyl; have HY1 := Lib.hid hy1; have HAC := Lib.hid hAC
  unfold R at ht
  clear hl hl1 hsz hle hyc hy hyl hy1 hAC
  by_cases hr : t.size ≤ n + 1
  · have hg : ¬ (n + 1 < t.size) := by omega
    have HR := Lib.hid hr; clear hr
    have hown := World.ownsRow_made (e := 29) (size := 5) w #[] 0 (Nat.le_refl _) (Nat.zero_le _) rfl
    have HO := Lib.hid hown; clear hown
    rcases hA with ⟨hc1, rfl, rfl⟩ | ⟨hc1, rfl, rfl⟩
    all_goals
      go_enter Tryd.func13, Tryd.ntmps13
      go_wp2_with (at_builtin; refine wpList_append_own _ rfl (.tmp 29) (.tmp 31) 23 rfl w.heap.size 29 i0 (.agg #[.int .i64 0, .bool false, .string ⟨#[]⟩, .string ⟨#[]⟩, .slice none 0 0]) 5 72 Tryd.underlying23 hi hz0 hz1 hz2 rfl (by decide) _ _ _ rfl HO.out _ r.len _ ys rfl ?c0 ?c1 ?c2 ?c3 ?c4 ?c5 ?_)
      case c0 => exact HYL.out
      case c1 => exact HAC.out _ (bel1 _ _)
      case c2 => exact HY1.out
      case c3 => unfold maxLen; omega
      case c4 => omega
      case c5 => simp
      intro v' w1 hown' hgrow _
      have HO' := Lib.hid hown'; have HG := Lib.hid hgrow; clear hown' hgrow
      go_wp2
      go_ret
      have hb := (bel1 w (.cells #[] 29)).grown HG.out (by simp) (fun k hk => (HO.out.lt k hk).1)
      have hR : restP (PL.cons k q t o f r) n = r := if_pos HR.out
      rw [hR]
      obtain ⟨a', cap', rfl, hli⟩ := lies_own HO'.out (HY.out.below hb) (by unfold R; omega)
      exact ⟨⟨a', cap', rfl, hli⟩, hb⟩
  · have hg : n + 1 < t.size := by omega
    have HR := Lib.hid hr; clear hr
    have hown := World.ownsRow_made (e := 29) (size := 5) w #[] 0 (Nat.le_refl _) (Nat.zero_le _) rfl
    have HO := Lib.hid hown; clear hown
    rcases hA with ⟨hc1, rfl, rfl⟩ | ⟨hc1, rfl, rfl⟩
    all_goals
      go_enter Tryd.func13, Tryd.ntmps13
      go_wp2_with (at_builtin; refine wpList_append_own _ rfl (.tmp 25) (.tmp 27) 23 rfl w.heap.size 29 i0 (.agg #[.int .i64 0, .bool false, .string ⟨#[]⟩, .string ⟨#[]⟩, .slice none 0 0]) 5 72 Tryd.underlying23 hi hz0 hz1 hz2 rfl (by decide) _ _ _ rfl ((HO.out.alloc _).alloc _) _ 1 1 [.int .i64 k, .bool q, .string (t.extract (n + 1) t.size), .string o, .slice a1 f.len ca1] rfl rfl ?c1 ?c2 ?c3 ?c4 ?c5 ?_)
      case c1 =>
        intro j u hu
        rw [Go.WideShapes.add_plain, World.cell?_alloc_at _ _ _ _ (by simp)]
        simpa using hu
      case c2 =>
        intro u hu
        simp only [List.mem_cons, List.not_mem_nil, or_false] at hu
        rcases hu with rfl | rfl | rfl | rfl | rfl <;> rfl
      case c3 => unfold maxLen; omega
      case c4 => omega
      case c5 => simp; omega
      intro v' w1 hown' hgrow _
      have hb := (((bel1 w (.cells #[] 29)).alloc (by simp) _).alloc (by simp; omega) _).grown hgrow (by simp; omega) (fun k hk => (HO.out.lt k hk).1)
      have HO' := Lib.hid hown'; have HB := Lib.hid hb; clear hown' hgrow hb
      go_wp2_with (at_builtin; refine wpList_append_own _ rfl (.tmp 29) (.tmp 31) 23 rfl w.heap.size 29 i0 (.agg #[.int .i64 0, .bool false, .string ⟨#[]⟩, .string ⟨#[]⟩, .slice none 0 0]) 5 72 Tryd.underlying23 hi hz0 hz1 hz2 rfl (by decide) _ _ _ rfl HO'.out _ r.len _ ys rfl ?c0 ?c1 ?c2 ?c3 ?c4 ?c5 ?_)
      case c0 => exact HYL.out
      case c1 => exact HAC.out _ HB.out
      case c2 => exact HY1.out
      case c3 => unfold maxLen; omega
      case c4 => omega
      case c5 => exact HB.out.size
      intro v2 w2 hown2 hgrow2 _
      have hb2 := HB.out.grown hgrow2 HB.out.size (fun k hk => (HO'.out.lt k hk).1)
      have HO2 := Lib.hid hown2; have HB2 := Lib.hid hb2; clear hown2 hgrow2 hb2
      go_wp2
      go_ret
      have hR : restP (PL.cons k q t o f r) n = .cons k q (t.extract (n + 1) t.size) o f r := by
        rw [Lib.extract_eq, List.take_of_length_le (by rw [List.length_drop, lenB]; omega)]
        exact if_neg HR.out
      rw [hR]
      have h1 := HO2.out
      rw [show 0 + 1 + r.len = (PL.cons k q (t.extract (n + 1) t.size) o f r).len by simp only [PL.len]; omega] at h1
      obtain ⟨a', cap', rfl, hli⟩ := lies_own (l := .cons k q (t.extract (n + 1) t.size) o f r) h1 ⟨a1, ca1, ys, rfl, by simp [ByteArray.size_extract]; unfold R; omega, ho, HL1.out.below HB2.out, HY.out.below HB2.out⟩ (by simp only [PL.len]; unfold R; omega)
      exact ⟨⟨a', cap', rfl, hli⟩, HB2.out⟩
end Sp
end Go.Proofs.YtpjdpmlneefafaaDoor
