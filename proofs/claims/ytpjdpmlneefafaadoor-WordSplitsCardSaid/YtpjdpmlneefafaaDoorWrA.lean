/- What the program writes: escaped bytes, a text between marks. -/
import Derived.Test.YtpjdpmlneefafaaDoorPtV
import Derived.Test.YtpjdpmlneefafaaDoorBld
import Derived.Test.YtpjdpmlneefafaaDoorQTail
import Derived.Test.YtpjdpmlneefafaaDoorShelf
namespace Go.Proofs.YtpjdpmlneefafaaDoor
open Go.RowKit Go.Sort
namespace Bd
open Cls Pt

theorem Is.below {b : Nat} {l : List UInt8} {w w' : World} (h : Is b l w) (hb : Below w.heap.size w w') : Is b l w' := by
  have key : ∀ p, Lib.BuilderAtF 45 5 b b p (Lib.byteCells l) w → Lib.BuilderAtF 45 5 b b p (Lib.byteCells l) w' := by
    rintro p ⟨hB, v, hbk, hown, hne⟩
    have hlt : ∀ {k : Nat} {o : Obj}, w.heap[k]? = some o → w'.heap[k]? = some o := fun {k o} h => (hb.block k (Array.getElem?_eq_some_iff.1 h).1).trans h
    refine ⟨hB, v, hlt hbk, ⟨hown.1, ?_⟩, hne⟩
    rcases hown.2 with h | ⟨g, cap, cur, fz, hv, hg, hh, hr⟩
    · exact .inl h
    · exact .inr ⟨g, cap, cur, fz, hv, hg, hlt hh, hr⟩
  exact h.elim (fun x => .inl (key _ x)) (fun x => .inr (key _ x))
theorem Kept.of_below {b : Nat} {w w' : World} (h : Below w.heap.size w w') (hb : b ≤ w.heap.size) : Kept b w w' :=
  ⟨h.mono hb, fun k _ hk _ _ => (h.block k (Array.getElem?_eq_some_iff.1 hk).1).trans hk⟩

def escL (l : List UInt8) : List UInt8 := l.flatMap fun c => if escB c.toNat then [92, c] else [c]
theorem escL_snoc {l : List UInt8} {k : Nat} (hk : k < l.length) : escL (l.take (k + 1)) = escL (l.take k) ++ (if escB (l.getD k 0).toNat then [92, l.getD k 0] else [l.getD k 0]) := by
  rw [List.take_succ_eq_append_getElem hk]
  simp only [escL, List.flatMap_append, List.flatMap_cons, List.flatMap_nil, List.append_nil, List.getD, List.getElem?_eq_getElem hk, Option.getD_some]
theorem escL_len (l : List UInt8) : (escL l).length ≤ 2 * l.length := by
  induction l with
  | nil => simp [escL]
  | cons c l ih =>
    simp only [escL, List.flatMap_cons, List.length_append, List.length_cons] at ih ⊢
    split <;> simp only [List.length_cons, List.length_nil] <;> omega
theorem escL_take_len (l : List UInt8) (k : Nat) : (escL (l.take k)).length ≤ 2 * l.length :=
  Nat.le_trans (escL_len _) (by simp; omega)

set_option maxHeartbeats 2000000 in
set_option maxRecDepth 100000 in
theorem escape_any (b : Nat) (l : List UInt8) (s : ByteArray) (w : World) (h : Is b l w) (hlen : l.length + 2 * s.size ≤ 70368744177664) :
    Calls Tryd.prog 35 #[.pointer (some ⟨b, 0, none⟩), .string s] w fun e w' => e = .returned (.tuple #[]) ∧ Is b (l ++ escL s.data.toList) w' ∧ Kept b w w' := by
  have HI := Lib.hid h; clear h
  have HN := Lib.hid (lenB s)
  have hs : s.size ≤ 140737488351232 := by omega
  have HLn := Lib.hid hlen; clear hlen
  go_enter Tryd.func35, Tryd.ntmps35
  go_wp2
  go_loopw [7] (fun i wr => ∃ k : Nat, k ≤ s.size ∧ i = .int .i64 k ∧ Is b (l ++ escL (s.data.toList.take k)) wr ∧ Kept b w wr) (fun i wr => s.size - (intOf i).toNat)
  case atStart => exact ⟨0, Nat.zero_le _, rfl, by simpa [escL] using HI.out, Kept.refl _ _⟩
  case round =>
    obtain ⟨k, hk, rfl, hi, hkp⟩ := hrel
    have HIs := Lib.hid hi; have HK := Lib.hid hkp; clear hi hkp
    by_cases hlt : k < s.size
    · have hlt' : k < s.data.toList.length := by simpa using hlt
      have HG := Lib.hid (getB hlt)
      have HB := Lib.hid (escL_take_len s.data.toList k)
      cases he : escB s[k].toNat
      · have HE := Lib.hid he
        have hX := fun w2 (hb : Below wr.heap.size wr w2) => writeByte_any b _ s[k] w2 (HIs.out.below hb) (by have := HB.out; have := HLn.out; have := HN.out; simp only [List.length_append]; omega)
        have HX := Lib.hid hX; clear hX
        go_wp2_with (go_at_call 44; refine (escaped_any _ _).mono ?_; rintro e w' ⟨rfl, rfl⟩)
        refine Qu.region_tail 6 (by kernel_rfl) (by kernel_rfl) ?_
        simp only [List.take_succ_cons, List.take_zero, List.drop_succ_cons, List.drop_zero]
        repeat (first
          | (first | refine Qu.carry0 rfl (fun K hK => ?_) | refine Qu.carryG rfl rfl rfl (fun K hK => ?_)
             go_simp
             first
             | (refine hK _ ?_; clear hK K)
             | (apply Exists.intro; refine ⟨fun _ => ?_, hK _ ?_⟩; fail; clear hK K))
          | (refine Qu.passG rfl rfl rfl (fun K hK => ?_); go_simp; refine hK _ ?_; clear hK K))
        refine Qu.fin ?_
        rintro ⟨dq, osq⟩
        go_wp2_with (go_at_call 25; refine (HX.out _ (below_regrown _ dq osq)).mono ?_; rintro e w' ⟨rfl, h1, h2⟩)
        have H1 := Lib.hid h1; have H2 := Lib.hid h2; clear h1 h2
        go_roundw
        case rel => exact ⟨k + 1, by omega, by go_num, by rw [escL_snoc hlt', ← HG.out, HE.out, ← List.append_assoc]; exact H1.out, HK.out.trans ((Kept.of_below (below_regrown _ dq osq) (Nat.le_of_lt HIs.out.lt)).trans H2.out)⟩
        case measure => simp [intOf]; omega
      · have HE := Lib.hid he
        have hX := writeByte_any b _ 92 wr HIs.out (by have := HB.out; have := HLn.out; have := HN.out; simp only [List.length_append]; omega)
        have HX := Lib.hid hX; clear hX
        go_wp2_with (first
          | (go_at_call 44; refine (escaped_any _ _).mono ?_; rintro e w' ⟨rfl, rfl⟩)
          | (go_at_call 25; refine (HX.out).mono ?_; rintro e w1 ⟨rfl, h1, h2⟩))
        have H1 := Lib.hid h1; have H2 := Lib.hid h2; clear h1 h2
        refine Qu.region_tail 6 (by kernel_rfl) (by kernel_rfl) ?_
        simp only [List.take_succ_cons, List.take_zero, List.drop_succ_cons, List.drop_zero]
        repeat (first
          | (first | refine Qu.carry0 rfl (fun K hK => ?_) | refine Qu.carryG rfl rfl rfl (fun K hK => ?_)
             go_simp
             first
             | (refine hK _ ?_; clear hK K)
             | (apply Exists.intro; refine ⟨fun _ => ?_, hK _ ?_⟩; fail; clear hK K))
          | (refine Qu.passG rfl rfl rfl (fun K hK => ?_); go_simp; refine hK _ ?_; clear hK K))
        refine Qu.fin ?_
        rintro ⟨dq, osq⟩
        have hY := writeByte_any b _ s[k] _ (H1.out.below (below_regrown _ dq osq)) (by have := HB.out; have := HLn.out; have := HN.out; simp only [List.length_append, List.length_cons, List.length_nil]; omega)
        have HY := Lib.hid hY; clear hY
        go_wp2_with (go_at_call 25; refine (HY.out).mono ?_; rintro e w' ⟨rfl, h3, h4⟩)
        have H3 := Lib.hid h3; have H4 := Lib.hid h4; clear h3 h4
        go_roundw
        case rel =>
          refine ⟨k + 1, by omega, by go_num, ?_, HK.out.trans (H2.out.trans ((Kept.of_below (below_regrown _ dq osq) (Nat.le_of_lt H1.out.lt)).trans H4.out))⟩
          rw [escL_snoc hlt', ← HG.out, HE.out, if_pos rfl]
          simpa only [List.append_assoc, List.cons_append, List.nil_append] using H3.out
        case measure => simp [intOf]; omega
    · obtain rfl : k = s.size := by omega
      go_wp2
      go_end0
      exact ⟨rfl, by have := HIs.out; rwa [List.take_of_length_le (by rw [HN.out]; exact Nat.le_refl _)] at this, HK.out⟩

/-- A text with each mark written as four bytes. -/
def marksL (l : List UInt8) : List UInt8 := l.flatMap fun c => if c == 39 then [39, 92, 39, 39] else [c]
def quoteL (l : List UInt8) : List UInt8 := 39 :: (marksL l ++ [39])
theorem marks_none {l : List UInt8} (h : 39 ∉ l) : marksL l = l := by
  induction l with
  | nil => rfl
  | cons c l ih =>
    have hc : (c == 39) = false := by simp; rintro rfl; simp at h
    have hl : 39 ∉ l := fun hm => h (List.mem_cons_of_mem _ hm)
    have := ih hl
    simp only [marksL, List.flatMap_cons, hc] at this ⊢
    rw [this]
    rfl
theorem marks_len (l : List UInt8) : (marksL l).length ≤ 4 * l.length := by
  induction l with
  | nil => simp [marksL]
  | cons c l ih =>
    simp only [marksL, List.flatMap_cons, List.length_append, List.length_cons] at ih ⊢
    split <;> simp only [List.length_cons, List.length_nil] <;> omega
theorem index_cons {b : UInt8} {l : List UInt8} {i : Nat} (hb : b ≠ 39) (h : Lib.index l [39] = i) : Lib.index (b :: l) [39] = ((i + 1 : Nat) : Int) := by
  have h1 : ([39] : List UInt8).isPrefixOf (b :: l) = false := by simp [List.isPrefixOf]; exact fun e => hb e.symm
  have h2 : (Lib.index l [39] == -1) = false := by rw [h]; simp
  rw [Lib.index, h1, h2, h]
  simp
theorem replace_marks (l : List UInt8) : Lib.replaceK [39] [39, 92, 39, 39] (l.count 39) l = marksL l := by
  induction l with
  | nil => rfl
  | cons b l ih =>
    by_cases hb : b = 39
    · subst hb
      have h0 : Lib.index (39 :: l) [39] = ((0 : Nat) : Int) := by simp [Lib.index, List.isPrefixOf]
      rw [List.count_cons_self, Lib.replaceK_hit _ _ _ _ 0 h0]
      simp [ih, marksL]
    · have hc : (b :: l).count 39 = l.count 39 := List.count_cons_of_ne hb
      rw [hc]
      have hbb : (b == 39) = false := by simpa using hb
      have hm : marksL (b :: l) = b :: marksL l := by simp only [marksL, List.flatMap_cons, hbb]; rfl
      rw [hm, ← ih]
      cases hn : l.count 39 with
      | zero => rfl
      | succ n =>
        obtain ⟨i, hi⟩ := Lib.index_of_count (s := l) (old := [39]) (by rw [Lib.count_one]; omega)
        rw [Lib.replaceK_hit _ _ _ _ _ (index_cons hb hi), Lib.replaceK_hit _ _ _ _ _ hi]
        simp
theorem replaceAll_marks (l : List UInt8) : Lib.replaceAll l [39] [39, 92, 39, 39] = marksL l := by
  unfold Lib.replaceAll Lib.replace Lib.replaceNum
  rw [if_neg (by decide), if_pos (.inl (by decide)), Lib.count_one]
  exact replace_marks l

set_option maxHeartbeats 2000000 in
set_option maxRecDepth 100000 in
theorem quote_any (b : Nat) (l : List UInt8) (s : ByteArray) (m : Int) (w : World) (h : Is b l w) (hm : w.cell? ⟨0, 0, none⟩ = some (.int .i64 m)) (hb0 : 0 < b) (hs : s.size ≤ 100000) (hlen : l.length + 4 * s.size + 2 ≤ 70368744177664) :
    Calls Tryd.prog 16 #[.pointer (some ⟨b, 0, none⟩), .string s] w fun e w' => e = .returned (.tuple #[]) ∧ Is b (l ++ quoteL s.data.toList) w' ∧ Kept b w w' := by
  have HX := Lib.hid (writeByte_any b l 39 w h (by omega))
  have HN := Lib.hid (lenB s)
  have HM := Lib.hid hm; have HL := Lib.hid hlen; have HML := Lib.hid (marks_len s.data.toList)
  clear h hlen hm
  go_enter Tryd.func16, Tryd.ntmps16
  go_wp2_with (go_at_call 25; refine (HX.out).mono ?_; rintro e w1 ⟨rfl, h1, h2⟩)
  have H1 := Lib.hid h1; have H2 := Lib.hid h2; clear h1 h2
  have hR : ∀ dd os, Calls Tryd.prog 27 #[.string s, .string ⟨#[39]⟩, .string ⟨#[39, 92, 39, 39]⟩] (grow (redrawn w1 dd) os) fun e w'' => e = .returned (.string ⟨(marksL s.data.toList).toArray⟩) ∧ ∃ p : Regrown, w'' = grow (redrawn w1 p.d) p.os := fun dd os => by
    have := Tryd.strings_ReplaceAll s ⟨#[39]⟩ ⟨#[39, 92, 39, 39]⟩ m (grow (redrawn w1 dd) os) (by omega) (by
      rw [(below_regrown w1 dd os).cell (p := ⟨0, 0, none⟩) (Nat.lt_trans hb0 H1.out.lt), H2.out.1.cell (p := ⟨0, 0, none⟩) hb0]
      exact HM.out) (by decide) (by
      have := Lib.countB_le ⟨#[39]⟩ (by decide) s.size s (Nat.le_refl _)
      have h4 : ByteArray.size ⟨#[39, 92, 39, 39]⟩ = 4 := rfl
      rw [h4]
      omega)
    rw [show Lib.replaceAll s.data.toList (ByteArray.data ⟨#[39]⟩).toList (ByteArray.data ⟨#[39, 92, 39, 39]⟩).toList = marksL s.data.toList from replaceAll_marks _] at this
    exact Calls.regrown_of this
  have HR := Lib.hid hR; clear hR
  refine Qu.region_tail 5 (by kernel_rfl) (by kernel_rfl) ?_
  simp only [List.take_succ_cons, List.take_zero, List.drop_succ_cons, List.drop_zero]
  repeat (first
    | (first | refine Qu.carry0 rfl (fun K hK => ?_) | refine Qu.carryG rfl rfl rfl (fun K hK => ?_)
       go_simp
       first
       | (refine hK _ ?_; clear hK K)
       | (apply Exists.intro; refine ⟨fun _ => ?_, hK _ ?_⟩; exact HR.out _ _; clear hK K))
    | (refine Qu.passG rfl rfl rfl (fun K hK => ?_); go_simp; refine hK _ ?_; clear hK K))
  refine Qu.fin ?_
  rintro ⟨dq, osq⟩
  have hY := writeString_any b _ ⟨(marksL s.data.toList).toArray⟩ _ (H1.out.below (below_regrown _ dq osq)) (by
    have := HL.out; have := HN.out; have := HML.out
    have h5 : ByteArray.size ⟨(marksL s.data.toList).toArray⟩ = (marksL s.data.toList).length := by simp [ByteArray.size]
    rw [h5]; simp only [List.length_append, List.length_cons, List.length_nil]; omega)
  have HY := Lib.hid hY; clear hY
  go_wp2_with (go_at_call 26; refine (HY.out).mono ?_; rintro e w2 ⟨rfl, h3, h4⟩)
  have H3 := Lib.hid h3; have H4 := Lib.hid h4; clear h3 h4
  have hZ := writeByte_any b _ 39 w2 H3.out (by
    have := HL.out; have := HN.out; have := HML.out
    simp only [List.length_append, List.length_cons, List.length_nil]; omega)
  have HZ := Lib.hid hZ; clear hZ
  go_wp2_with (go_at_call 25; refine (HZ.out).mono ?_; rintro e w3 ⟨rfl, h5, h6⟩)
  go_end0
  refine ⟨rfl, ?_, H2.out.trans ((Kept.of_below (below_regrown _ dq osq) (Nat.le_of_lt H1.out.lt)).trans (H4.out.trans h6))⟩
  simpa [quoteL, List.append_assoc] using h5
end Bd
end Go.Proofs.YtpjdpmlneefafaaDoor
