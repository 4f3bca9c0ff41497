/- The reference's Quote, for every text (not too long). -/
import Derived.Test.YtpjdpmlneefafaaDoorWrB
import Derived.Laws.BytesString
namespace Go.Proofs.YtpjdpmlneefafaaDoor
open Go.RowKit Go.Sort
namespace Rf
open Cls Pt Bd

theorem push_all : ∀ (l : List UInt8) (s : ByteArray), (l.map fun b => ((b.toNat : Nat) : Int)).foldl (fun r n => r.push (UInt8.ofNat n.toNat)) s = ⟨s.data ++ l.toArray⟩
  | [], s => by simp
  | c :: l, s => by
    simp only [List.map_cons, List.foldl_cons]
    rw [push_all l]
    simp [ByteArray.push]

/-- A slice of the call's own, turned to a text. -/
theorem run_string_own {w : World} {B : Nat} {l : List UInt8} {v : Value} (h : w.ownsRow B 5 1 v (Lib.byteCells l).length (Lib.byteCells l)) (h0 : l ≠ []) :
    (convert 41 9 v).run Tryd.prog w = .ok (.string ⟨l.toArray⟩) w := by
  obtain ⟨g, cap, rfl⟩ : ∃ g cap, v = .slice (some ⟨g, 0, none⟩) (Lib.byteCells l).length cap := by
    rcases h.2 with ⟨_, hz⟩ | ⟨g, cap, cur, hv, _⟩
    · rw [Lib.byteCells_length] at hz
      exact absurd (List.length_eq_zero_iff.1 hz) h0
    · exact ⟨g, cap, hv⟩
  rw [run_convert_bytes_string w _ _ 5 _ _ _ Tryd.underlying41 Tryd.underlying5 Tryd.underlying9]
  rw [run_bytesToString w ⟨g, 0, none⟩ _ cap (l.map fun b => ((b.toNat : Nat) : Int)) (by
    have := run_loadCells_list (P := Tryd.prog) (w := w) ⟨g, 0, none⟩ (Lib.byteCells l) (fun j x hj => by
      have := h.cells (g := g) rfl j x hj
      simpa [Addr.add] using this)
    rw [this]
    simp [Lib.byteCells, List.map_map, Function.comp_def])]
  rw [push_all]
  simp

set_option maxHeartbeats 1000000 in
set_option maxRecDepth 100000 in
theorem rquote_any (s : ByteArray) (w : World) (hs : s.size ≤ 100000) :
    Calls Tryd.prog 8 #[.string s] w fun e w' => e = .returned (.string ⟨(quoteL s.data.toList).toArray⟩) ∧ Below w.heap.size w w' := by
  obtain ⟨i0, hi, hz0, hz1, hz2⟩ := info_parts infoByte
  have HN := Lib.hid (lenB s)
  go_enter Tryd.func8, Tryd.ntmps8
  go_wp2
  go_loopw [3, 4] (fun v i wr => ∃ k : Nat, k ≤ s.size ∧ i = .int .i64 k ∧ wr.ownsRow w.heap.size 5 1 v (Lib.byteCells (39 :: marksL (s.data.toList.take k))).length (Lib.byteCells (39 :: marksL (s.data.toList.take k))) ∧ Below w.heap.size w wr) (fun _ i wr => s.size - (intOf i).toNat)
  case atStart =>
    exact ⟨0, Nat.zero_le _, rfl, ⟨rfl, .inr ⟨w.heap.size, 1, #[.int .u8 39], rfl, Nat.le_refl _, heap_alloc_new w _, Nat.le_refl _, by unfold maxLen; omega, rfl, rfl⟩⟩, bel1 _ _⟩
  case round =>
    obtain ⟨k, hk, rfl, hown, hb⟩ := hrel
    have hml := marks_len (s.data.toList.take k)
    have htk : (s.data.toList.take k).length ≤ s.size := by rw [List.length_take, lenB]; omega
    have hbl := Lib.byteCells_length (39 :: marksL (s.data.toList.take k))
    rw [List.length_cons] at hbl
    have hlen : (Lib.byteCells (39 :: marksL (s.data.toList.take k))).length ≤ 500000 := by omega
    generalize hL : (39 :: marksL (s.data.toList.take k)) = L at hown hlen
    have HL := Lib.hid hL
    clear hml htk hbl hL
    by_cases hlt : k < s.size
    · have hlt' : k < s.data.toList.length := by simpa using hlt
      have HG := Lib.hid (getB hlt)
      cases hc : ((s[k].toNat : Int) == 39)
      · have HC := Lib.hid (show (s[k] == 39) = false by
          cases h : (s[k] == 39)
          · rfl
          · rw [beq_iff_eq.1 h] at hc; simp at hc)
        go_wp2_with (at_builtin; refine wpList_append_own _ rfl _ _ 41 rfl w.heap.size 5 i0 (.int .u8 0) 1 1 Tryd.underlying41 hi hz0 hz1 hz2 rfl (by decide) _ _ _ rfl (hown.alloc _) ⟨wr.heap.size, 0, none⟩ 1 1 [.int .u8 s[k].toNat] rfl rfl ?c1 ?c2 ?c3 ?c4 ?c5 ?_)
        case c1 =>
          intro j u hj
          match j, hj with
          | 0, hj => simp at hj; subst hj; simp [Addr.add]
        case c2 => intro u hu; simp at hu; subst hu; rfl
        case c3 => unfold maxLen; omega
        case c4 => omega
        case c5 => have := hb.size; simp; omega
        intro v' w1 hown' hgrow _
        have HO := Lib.hid hown'
        have HB1 := Lib.hid ((hb.alloc (by have := hb.size; omega) (.cells #[.int .u8 s[k].toNat] 5)).grown hgrow (by have := hb.size; simp; omega) (fun k hk => (hown.lt k hk).1))
        clear hown' hgrow
        go_wp2
        go_roundw
        case rel =>
          refine ⟨k + 1, by omega, by go_num, ?_, HB1.out⟩
          have h1 : (39 :: marksL (s.data.toList.take (k + 1))) = L ++ [s[k]] := by
            rw [List.take_succ_eq_append_getElem hlt', ← HL.out]
            have h2 : s.data.toList[k] = s[k] := by have := HG.out; simp only [List.getD, List.getElem?_eq_getElem hlt', Option.getD_some] at this; exact this.symm
            simp only [marksL, List.flatMap_append, List.flatMap_cons, List.flatMap_nil, h2, HC.out]
            simp
          rw [h1]
          have := HO.out
          rw [Lib.byteCells_append, List.length_append]
          exact this
        case measure => simp [intOf]; omega
      · have hcs : s[k] = 39 := by
          have h1 : s[k].toNat = 39 := by have := beq_iff_eq.1 hc; omega
          exact UInt8.toNat_inj.1 h1
        have HC := Lib.hid hcs
        clear hcs
        go_wp2_with (at_builtin; refine wpList_append_own _ rfl _ _ 41 rfl w.heap.size 5 i0 (.int .u8 0) 1 1 Tryd.underlying41 hi hz0 hz1 hz2 rfl (by decide) _ _ _ rfl (hown.alloc _) ⟨wr.heap.size, 0, none⟩ 1 1 [.int .u8 s[k].toNat] rfl rfl ?c1 ?c2 ?c3 ?c4 ?c5 ?_)
        case c1 =>
          intro j u hj
          match j, hj with
          | 0, hj => simp at hj; subst hj; simp [Addr.add]
        case c2 => intro u hu; simp at hu; subst hu; rfl
        case c3 => unfold maxLen; omega
        case c4 => omega
        case c5 => have := hb.size; simp; omega
        intro v' w1 hown' hgrow _
        have hb1 := (hb.alloc (by have := hb.size; omega) (.cells #[.int .u8 s[k].toNat] 5)).grown hgrow (by have := hb.size; simp; omega) (fun k hk => (hown.lt k hk).1)
        have hown2 : w1.ownsRow w.heap.size 5 1 v' (Lib.byteCells (L ++ [s[k]])).length (Lib.byteCells (L ++ [s[k]])) := by
          rw [Lib.byteCells_append, List.length_append]; exact hown'
        have hlen2 : (Lib.byteCells (L ++ [s[k]])).length ≤ 500001 := by rw [Lib.byteCells_append, List.length_append]; simp [Lib.byteCells] at hlen ⊢; omega
        generalize hL2 : L ++ [s[k]] = L2 at hown2 hlen2
        have HL2 := Lib.hid hL2
        clear hown' hgrow hown hL2
        go_wp2_with (at_builtin; refine wpList_append_own _ rfl _ _ 41 rfl w.heap.size 5 i0 (.int .u8 0) 1 1 Tryd.underlying41 hi hz0 hz1 hz2 rfl (by decide) _ _ _ rfl (hown2.alloc _) ⟨w1.heap.size, 0, none⟩ 3 3 [.int .u8 92, .int .u8 39, .int .u8 39] rfl rfl ?c1 ?c2 ?c3 ?c4 ?c5 ?_)
        case c1 =>
          intro j u hj
          match j, hj with
          | 0, hj => simp at hj; subst hj; simp [Addr.add]
          | 1, hj => simp at hj; subst hj; simp [Addr.add]
          | 2, hj => simp at hj; subst hj; simp [Addr.add]
        case c2 => intro u hu; simp at hu; rcases hu with rfl | rfl <;> rfl
        case c3 => unfold maxLen; omega
        case c4 => omega
        case c5 => have := hb1.size; simp; omega
        intro v2 w2 hown3 hgrow _
        have HO := Lib.hid hown3
        have HB1 := Lib.hid ((hb1.alloc (by have := hb1.size; omega) (.cells #[.int .u8 92, .int .u8 39, .int .u8 39] 5)).grown hgrow (by have := hb1.size; simp; omega) (fun k hk => (hown2.lt k hk).1))
        clear hown3 hgrow
        go_wp2
        go_roundw
        case rel =>
          refine ⟨k + 1, by omega, by go_num, ?_, HB1.out⟩
          have h1 : (39 :: marksL (s.data.toList.take (k + 1))) = L2 ++ [92, 39, 39] := by
            rw [List.take_succ_eq_append_getElem hlt', ← HL2.out, ← HL.out]
            have h2 : s.data.toList[k] = s[k] := by have := HG.out; simp only [List.getD, List.getElem?_eq_getElem hlt', Option.getD_some] at this; exact this.symm
            simp only [marksL, List.flatMap_append, List.flatMap_cons, List.flatMap_nil, h2, HC.out]
            simp
          rw [h1]
          have := HO.out
          rw [Lib.byteCells_append, List.length_append]
          exact this
        case measure => simp [intOf]; omega
    · obtain rfl : k = s.size := by omega
      go_wp2_with (at_builtin; refine wpList_append_own _ rfl _ _ 41 rfl w.heap.size 5 i0 (.int .u8 0) 1 1 Tryd.underlying41 hi hz0 hz1 hz2 rfl (by decide) _ _ _ rfl (hown.alloc _) ⟨wr.heap.size, 0, none⟩ 1 1 [.int .u8 39] rfl rfl ?c1 ?c2 ?c3 ?c4 ?c5 ?_)
      case c1 =>
        intro j u hj
        match j, hj with
        | 0, hj => simp at hj; subst hj; simp [Addr.add]
      case c2 => intro u hu; simp at hu; subst hu; rfl
      case c3 => unfold maxLen; omega
      case c4 => omega
      case c5 => have := hb.size; simp; omega
      intro v' w1 hown' hgrow _
      have HB1 := Lib.hid ((hb.alloc (by have := hb.size; omega) (.cells #[.int .u8 39] 5)).grown hgrow (by have := hb.size; simp; omega) (fun k hk => (hown.lt k hk).1))
      have hq : quoteL s.data.toList = L ++ [39] := by rw [← HL.out, List.take_of_length_le (by rw [HN.out]; exact Nat.le_refl _)]; rfl
      have hcv := run_string_own (w := w1) (B := w.heap.size) (l := L ++ [39]) (v := v') (by rw [Lib.byteCells_append, List.length_append]; exact hown') (by simp)
      have HQ := Lib.hid hq
      clear hown' hgrow hq
      go_wp2
      go_ret
      exact ⟨by rw [HQ.out]; rfl, HB1.out⟩
end Rf
end Go.Proofs.YtpjdpmlneefafaaDoor
