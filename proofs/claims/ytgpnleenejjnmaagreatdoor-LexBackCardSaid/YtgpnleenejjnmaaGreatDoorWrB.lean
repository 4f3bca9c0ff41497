/- What the program writes: escaped bytes, a text between marks. -/
/- What the program writes of parts. -/
import Derived.Test.YtgpnleenejjnmaaGreatDoorPtV
import Derived.Test.YtgpnleenejjnmaaGreatDoorBld
import Derived.Test.YtgpnleenejjnmaaGreatDoorQTail
import Derived.Test.YtgpnleenejjnmaaGreatDoorShelf
import Derived.Test.YtgpnleenejjnmaaGreatDoorPtY
namespace Go.Proofs.YtgpnleenejjnmaaGreatDoor
open Go.RowKit Go.Sort
namespace Bd
open Cls Pt

theorem Is.below {b : Nat} {l : List UInt8} {w w' : World} (h : Is b l w) (hb : Below w.heap.size w w') : Is b l w' := by
  have key : ∀ p, Lib.BuilderAtF 43 5 b b p (Lib.byteCells l) w → Lib.BuilderAtF 43 5 b b p (Lib.byteCells l) w' := by
    rintro p ⟨hB, v, hbk, hown, hne⟩
    have hlt : ∀ {k : Nat} {o : Obj}, w.heap[k]? = some o → w'.heap[k]? = some o := fun {k o} h => (hb.block k (Array.getElem?_eq_some_iff.1 h).1).trans h
    refine ⟨hB, v, hlt hbk, ⟨hown.1, ?_⟩, hne⟩
    rcases hown.2 with h | ⟨g, cap, cur, fz, hv, hg, hh, hr⟩
    · exact .inl h
    · exact .inr ⟨g, cap, cur, fz, hv, hg, hlt hh, hr⟩
  exact h.elim (fun x => .inl (key _ x)) (fun x => .inr (key _ x))
theorem Kept.of_below {b : Nat} {w w' : World} (h : Below w.heap.size w w') (hb : b ≤ w.heap.size) : Kept b w w' :=
  ⟨h.mono hb, fun k _ hk _ _ => (h.block k (Array.getElem?_eq_some_iff.1 hk).1).trans hk⟩

def escL (l : List UInt8) : List UInt8 := l.flatMap fun c => if escB c.toNat then [92, c] else [c]
theorem escL_snoc {l : List UInt8} {k : Nat} (hk : k < l.length) : escL (l.take (k + 1)) = escL (l.take k) ++ (if escB (l.getD k 0).toNat then [92, l.getD k 0] else [l.getD k 0]) := by
  rw [List.take_succ_eq_append_getElem hk]
  simp only [escL, List.flatMap_append, List.flatMap_cons, List.flatMap_nil, List.append_nil, List.getD, List.getElem?_eq_getElem hk, Option.getD_some]
theorem escL_len (l : List UInt8) : (escL l).length ≤ 2 * l.length := by
  induction l with
  | nil => simp [escL]
  | cons c l ih =>
    simp only [escL, List.flatMap_cons, List.length_append, List.length_cons] at ih ⊢
    split <;> simp only [List.length_cons, List.length_nil] <;> omega
theorem escL_take_len (l : List UInt8) (k : Nat) : (escL (l.take k)).length ≤ 2 * l.length :=
  Nat.le_trans (escL_len _) (by simp; omega)

set_option maxHeartbeats 2000000 in
set_option maxRecDepth 100000 in
theorem escape_any (b : Nat) (l : List UInt8) (s : ByteArray) (w : World) (h : Is b l w) (hlen : l.length + 2 * s.size ≤ 70368744177664) :
    Calls Tryz.prog 18 #[.pointer (some ⟨b, 0, none⟩), .string s] w fun e w' => e = .returned (.tuple #[]) ∧ Is b (l ++ escL s.data.toList) w' ∧ Kept b w w' := by
  have HI := Lib.hid h; clear h
  have HN := Lib.hid (lenB s)
  have hs : s.size ≤ 140737488351232 := by omega
  have HLn := Lib.hid hlen; clear hlen
  go_enter Tryz.func18, Tryz.ntmps18
  go_wp2
  go_loopw [7] (fun i wr => ∃ k : Nat, k ≤ s.size ∧ i = .int .i64 k ∧ Is b (l ++ escL (s.data.toList.take k)) wr ∧ Kept b w wr) (fun i wr => s.size - (intOf i).toNat)
  case atStart => exact ⟨0, Nat.zero_le _, rfl, by simpa [escL] using HI.out, Kept.refl _ _⟩
  case round =>
    obtain ⟨k, hk, rfl, hi, hkp⟩ := hrel
    have HIs := Lib.hid hi; have HK := Lib.hid hkp; clear hi hkp
    by_cases hlt : k < s.size
    · have hlt' : k < s.data.toList.length := by simpa using hlt
      have HG := Lib.hid (getB hlt)
      have HB := Lib.hid (escL_take_len s.data.toList k)
      cases he : escB s[k].toNat
      · have HE := Lib.hid he
        have hX := fun w2 (hb : Below wr.heap.size wr w2) => writeByte_any b _ s[k] w2 (HIs.out.below hb) (by have := HB.out; have := HLn.out; have := HN.out; simp only [List.length_append]; omega)
        have HX := Lib.hid hX; clear hX
        go_wp2_with (go_at_call 31; refine (escaped_any _ _).mono ?_; rintro e w' ⟨rfl, rfl⟩)
        refine Qu.region_tail 6 (by kernel_rfl) (by kernel_rfl) ?_
        simp only [List.take_succ_cons, List.take_zero, List.drop_succ_cons, List.drop_zero]
        repeat (first
          | (first | refine Qu.carry0 rfl (fun K hK => ?_) | refine Qu.carryG rfl rfl rfl (fun K hK => ?_)
             go_simp
             first
             | (refine hK _ ?_; clear hK K)
             | (apply Exists.intro; refine ⟨fun _ => ?_, hK _ ?_⟩; fail; clear hK K))
          | (refine Qu.passG rfl rfl rfl (fun K hK => ?_); go_simp; refine hK _ ?_; clear hK K))
        refine Qu.fin ?_
        rintro ⟨dq, osq⟩
        go_wp2_with (go_at_call 29; refine (HX.out _ (below_regrown _ dq osq)).mono ?_; rintro e w' ⟨rfl, h1, h2⟩)
        have H1 := Lib.hid h1; have H2 := Lib.hid h2; clear h1 h2
        go_roundw
        case rel => exact ⟨k + 1, by omega, by go_num, by rw [escL_snoc hlt', ← HG.out, HE.out, ← List.append_assoc]; exact H1.out, HK.out.trans ((Kept.of_below (below_regrown _ dq osq) (Nat.le_of_lt HIs.out.lt)).trans H2.out)⟩
        case measure => simp [intOf]; omega
      · have HE := Lib.hid he
        have hX := writeByte_any b _ 92 wr HIs.out (by have := HB.out; have := HLn.out; have := HN.out; simp only [List.length_append]; omega)
        have HX := Lib.hid hX; clear hX
        go_wp2_with (first
          | (go_at_call 31; refine (escaped_any _ _).mono ?_; rintro e w' ⟨rfl, rfl⟩)
          | (go_at_call 29; refine (HX.out).mono ?_; rintro e w1 ⟨rfl, h1, h2⟩))
        have H1 := Lib.hid h1; have H2 := Lib.hid h2; clear h1 h2
        refine Qu.region_tail 6 (by kernel_rfl) (by kernel_rfl) ?_
        simp only [List.take_succ_cons, List.take_zero, List.drop_succ_cons, List.drop_zero]
        repeat (first
          | (first | refine Qu.carry0 rfl (fun K hK => ?_) | refine Qu.carryG rfl rfl rfl (fun K hK => ?_)
             go_simp
             first
             | (refine hK _ ?_; clear hK K)
             | (apply Exists.intro; refine ⟨fun _ => ?_, hK _ ?_⟩; fail; clear hK K))
          | (refine Qu.passG rfl rfl rfl (fun K hK => ?_); go_simp; refine hK _ ?_; clear hK K))
        refine Qu.fin ?_
        rintro ⟨dq, osq⟩
        have hY := writeByte_any b _ s[k] _ (H1.out.below (below_regrown _ dq osq)) (by have := HB.out; have := HLn.out; have := HN.out; simp only [List.length_append, List.length_cons, List.length_nil]; omega)
        have HY := Lib.hid hY; clear hY
        go_wp2_with (go_at_call 29; refine (HY.out).mono ?_; rintro e w' ⟨rfl, h3, h4⟩)
        have H3 := Lib.hid h3; have H4 := Lib.hid h4; clear h3 h4
        go_roundw
        case rel =>
          refine ⟨k + 1, by omega, by go_num, ?_, HK.out.trans (H2.out.trans ((Kept.of_below (below_regrown _ dq osq) (Nat.le_of_lt H1.out.lt)).trans H4.out))⟩
          rw [escL_snoc hlt', ← HG.out, HE.out, if_pos rfl]
          simpa only [List.append_assoc, List.cons_append, List.nil_append] using H3.out
        case measure => simp [intOf]; omega
    · obtain rfl : k = s.size := by omega
      go_wp2
      go_end0
      exact ⟨rfl, by have := HIs.out; rwa [List.take_of_length_le (by rw [HN.out]; exact Nat.le_refl _)] at this, HK.out⟩

/-- A text with each mark written as four bytes. -/
def marksL (l : List UInt8) : List UInt8 := l.flatMap fun c => if c == 39 then [39, 92, 39, 39] else [c]
def quoteL (l : List UInt8) : List UInt8 := 39 :: (marksL l ++ [39])
theorem marks_none {l : List UInt8} (h : 39 ∉ l) : marksL l = l := by
  induction l with
  | nil => rfl
  | cons c l ih =>
    have hc : (c == 39) = false := by simp; rintro rfl; simp at h
    have hl : 39 ∉ l := fun hm => h (List.mem_cons_of_mem _ hm)
    have := ih hl
    simp only [marksL, List.flatMap_cons, hc] at this ⊢
    rw [this]
    rfl
theorem marks_len (l : List UInt8) : (marksL l).length ≤ 4 * l.length := by
  induction l with
  | nil => simp [marksL]
  | cons c l ih =>
    simp only [marksL, List.flatMap_cons, List.length_append, List.length_cons] at ih ⊢
    split <;> simp only [List.length_cons, List.length_nil] <;> omega
theorem index_cons {b : UInt8} {l : List UInt8} {i : Nat} (hb : b ≠ 39) (h : Lib.index l [39] = i) : Lib.index (b :: l) [39] = ((i + 1 : Nat) : Int) := by
  have h1 : ([39] : List UInt8).isPrefixOf (b :: l) = false := by simp [List.isPrefixOf]; exact fun e => hb e.symm
  have h2 : (Lib.index l [39] == -1) = false := by rw [h]; simp
  rw [Lib.index, h1, h2, h]
  simp
theorem replace_marks (l : List UInt8) : Lib.replaceK [39] [39, 92, 39, 39] (l.count 39) l = marksL l := by
  induction l with
  | nil => rfl
  | cons b l ih =>
    by_cases hb : b = 39
    · subst hb
      have h0 : Lib.index (39 :: l) [39] = ((0 : Nat) : Int) := by simp [Lib.index, List.isPrefixOf]
      rw [List.count_cons_self, Lib.replaceK_hit _ _ _ _ 0 h0]
      simp [ih, marksL]
    · have hc : (b :: l).count 39 = l.count 39 := List.count_cons_of_ne hb
      rw [hc]
      have hbb : (b == 39) = false := by simpa using hb
      have hm : marksL (b :: l) = b :: marksL l := by simp only [marksL, List.flatMap_cons, hbb]; rfl
      rw [hm, ← ih]
      cases hn : l.count 39 with
      | zero => rfl
      | succ n =>
        obtain ⟨i, hi⟩ := Lib.index_of_count (s := l) (old := [39]) (by rw [Lib.count_one]; omega)
        rw [Lib.replaceK_hit _ _ _ _ _ (index_cons hb hi), Lib.replaceK_hit _ _ _ _ _ hi]
        simp
theorem replaceAll_marks (l : List UInt8) : Lib.replaceAll l [39] [39, 92, 39, 39] = marksL l := by
  unfold Lib.replaceAll Lib.replace Lib.replaceNum
  rw [if_neg (by decide), if_pos (.inl (by decide)), Lib.count_one]
  exact replace_marks l

set_option maxHeartbeats 2000000 in
set_option maxRecDepth 100000 in
theorem quote_any (b : Nat) (l : List UInt8) (s : ByteArray) (m : Int) (w : World) (h : Is b l w) (hm : w.cell? ⟨0, 0, none⟩ = some (.int .i64 m)) (hb0 : 0 < b) (hs : s.size ≤ 100000) (hlen : l.length + 4 * s.size + 2 ≤ 70368744177664) :
    Calls Tryz.prog 19 #[.pointer (some ⟨b, 0, none⟩), .string s] w fun e w' => e = .returned (.tuple #[]) ∧ Is b (l ++ quoteL s.data.toList) w' ∧ Kept b w w' := by
  have HX := Lib.hid (writeByte_any b l 39 w h (by omega))
  have HN := Lib.hid (lenB s)
  have HM := Lib.hid hm; have HL := Lib.hid hlen; have HML := Lib.hid (marks_len s.data.toList)
  clear h hlen hm
  go_enter Tryz.func19, Tryz.ntmps19
  go_wp2_with (go_at_call 29; refine (HX.out).mono ?_; rintro e w1 ⟨rfl, h1, h2⟩)
  have H1 := Lib.hid h1; have H2 := Lib.hid h2; clear h1 h2
  have hR : ∀ dd os, Calls Tryz.prog 32 #[.string s, .string ⟨#[39]⟩, .string ⟨#[39, 92, 39, 39]⟩] (grow (redrawn w1 dd) os) fun e w'' => e = .returned (.string ⟨(marksL s.data.toList).toArray⟩) ∧ ∃ p : Regrown, w'' = grow (redrawn w1 p.d) p.os := fun dd os => by
    have := Tryz.strings_ReplaceAll s ⟨#[39]⟩ ⟨#[39, 92, 39, 39]⟩ m (grow (redrawn w1 dd) os) (by omega) (by
      rw [(below_regrown w1 dd os).cell (p := ⟨0, 0, none⟩) (Nat.lt_trans hb0 H1.out.lt), H2.out.1.cell (p := ⟨0, 0, none⟩) hb0]
      exact HM.out) (by decide) (by
      have := Lib.countB_le ⟨#[39]⟩ (by decide) s.size s (Nat.le_refl _)
      have h4 : ByteArray.size ⟨#[39, 92, 39, 39]⟩ = 4 := rfl
      rw [h4]
      omega)
    rw [show Lib.replaceAll s.data.toList (ByteArray.data ⟨#[39]⟩).toList (ByteArray.data ⟨#[39, 92, 39, 39]⟩).toList = marksL s.data.toList from replaceAll_marks _] at this
    exact Calls.regrown_of this
  have HR := Lib.hid hR; clear hR
  refine Qu.region_tail 5 (by kernel_rfl) (by kernel_rfl) ?_
  simp only [List.take_succ_cons, List.take_zero, List.drop_succ_cons, List.drop_zero]
  repeat (first
    | (first | refine Qu.carry0 rfl (fun K hK => ?_) | refine Qu.carryG rfl rfl rfl (fun K hK => ?_)
       go_simp
       first
       | (refine hK _ ?_; clear hK K)
       | (apply Exists.intro; refine ⟨fun _ => ?_, hK _ ?_⟩; exact HR.out _ _; clear hK K))
    | (refine Qu.passG rfl rfl rfl (fun K hK => ?_); go_simp; refine hK _ ?_; clear hK K))
  refine Qu.fin ?_
  rintro ⟨dq, osq⟩
  have hY := writeString_any b _ ⟨(marksL s.data.toList).toArray⟩ _ (H1.out.below (below_regrown _ dq osq)) (by
    have := HL.out; have := HN.out; have := HML.out
    have h5 : ByteArray.size ⟨(marksL s.data.toList).toArray⟩ = (marksL s.data.toList).length := by simp [ByteArray.size]
    rw [h5]; simp only [List.length_append, List.length_cons, List.length_nil]; omega)
  have HY := Lib.hid hY; clear hY
  go_wp2_with (go_at_call 20; refine (HY.out).mono ?_; rintro e w2 ⟨rfl, h3, h4⟩)
  have H3 := Lib.hid h3; have H4 := Lib.hid h4; clear h3 h4
  have hZ := writeByte_any b _ 39 w2 H3.out (by
    have := HL.out; have := HN.out; have := HML.out
    simp only [List.length_append, List.length_cons, List.length_nil]; omega)
  have HZ := Lib.hid hZ; clear hZ
  go_wp2_with (go_at_call 29; refine (HZ.out).mono ?_; rintro e w3 ⟨rfl, h5, h6⟩)
  go_end0
  refine ⟨rfl, ?_, H2.out.trans ((Kept.of_below (below_regrown _ dq osq) (Nat.le_of_lt H1.out.lt)).trans (H4.out.trans h6))⟩
  simpa [quoteL, List.append_assoc] using h5
end Bd
end Go.Proofs.YtgpnleenejjnmaaGreatDoor

namespace Go.Proofs.YtgpnleenejjnmaaGreatDoor
open Go.RowKit Go.Sort
namespace Bd
open Cls Pt

/-- How much there is in all: parts and bytes. -/
def bytes : PL → Nat
  | .nil => 0
  | .cons _ _ t o f r => 1 + t.size + o.size + bytes f + bytes r
/-- A parameter's text, without and with marks; parts' text in a place. -/
def textL : PL → Nat → List UInt8
  | .nil, _ => []
  | .cons k q t o f r, at' =>
    (if k == 2 then (if q && !(at' == 2) then 34 :: (36 :: 123 :: (t.data.toList ++ o.data.toList) ++ textL f (wth q) ++ [125]) ++ [34] else 36 :: 123 :: (t.data.toList ++ o.data.toList) ++ textL f (wth q) ++ [125])
     else if at' == 2 then escL t.data.toList else if q then quoteL t.data.toList else t.data.toList) ++ textL r at'
def paramT (q : Bool) (t o : ByteArray) (f : PL) (at' : Nat) : List UInt8 :=
  if q && !(at' == 2) then 34 :: (36 :: 123 :: (t.data.toList ++ o.data.toList) ++ textL f (wth q) ++ [125]) ++ [34] else 36 :: 123 :: (t.data.toList ++ o.data.toList) ++ textL f (wth q) ++ [125]
def partT (k : Int) (q : Bool) (t o : ByteArray) (f : PL) (at' : Nat) : List UInt8 :=
  if k == 2 then paramT q t o f at' else if at' == 2 then escL t.data.toList else if q then quoteL t.data.toList else t.data.toList
theorem textL_cons (k : Int) (q : Bool) (t o : ByteArray) (f r : PL) (at' : Nat) : textL (.cons k q t o f r) at' = partT k q t o f at' ++ textL r at' := rfl
theorem quote_len (l : List UInt8) : (quoteL l).length ≤ 4 * l.length + 2 := by
  have := marks_len l
  simp only [quoteL, List.length_cons, List.length_append, List.length_nil]; omega
theorem text_len : ∀ (l : PL) (at' : Nat), (textL l at').length ≤ 5 * bytes l
  | .nil, _ => Nat.zero_le _
  | .cons k q t o f r, at' => by
    have h1 := text_len f (wth q)
    have h2 := text_len r at'
    have h3 := escL_len t.data.toList
    have h4 := quote_len t.data.toList
    have ht : t.data.toList.length = t.size := lenB t
    have ho : o.data.toList.length = o.size := lenB o
    rw [textL_cons, List.length_append]
    simp only [partT, paramT, bytes]
    repeat' split
    all_goals (try simp only [List.length_cons, List.length_append, List.length_nil])
    all_goals omega
theorem part_len (k : Int) (q : Bool) (t o : ByteArray) (f : PL) (at' : Nat) : (partT k q t o f at').length ≤ 5 * (1 + t.size + o.size + bytes f) := by
  have h1 := text_len f (wth q)
  have h3 := escL_len t.data.toList
  have h4 := quote_len t.data.toList
  have ht : t.data.toList.length = t.size := lenB t
  have ho : o.data.toList.length = o.size := lenB o
  simp only [partT, paramT]
  repeat' split
  all_goals (try simp only [List.length_cons, List.length_append, List.length_nil])
  all_goals omega

/-- A part in a block of its own. -/
def Box (w : World) (c : Nat) (k : Int) (q : Bool) (t o : ByteArray) (a : Option Addr) (n cap : Nat) : Prop :=
  w.heap[c]? = some (.cells #[.int .i64 k, .bool q, .string t, .string o, .slice a n cap] 37 (0, 0))
theorem Box.kept {w w' : World} {b c : Nat} {k : Int} {q : Bool} {t o : ByteArray} {a : Option Addr} {n cap : Nat} (h : Box w c k q t o a n cap) (hk : Kept b w w') (hc : c ≠ b) : Box w' c k q t o a n cap :=
  hk.2 c _ h (fun e => hc (Option.some.inj e)) (fun _ _ e => by cases e)
theorem Box.cell {w : World} {c : Nat} {k : Int} {q : Bool} {t o : ByteArray} {a : Option Addr} {n cap : Nat} (h : Box w c k q t o a n cap) (j : Nat) : w.cell? ⟨c, j, none⟩ = #[Value.int .i64 k, .bool q, .string t, .string o, .slice a n cap][j]? :=
  Lib.cell_of_heap h j

set_option maxHeartbeats 800000 in
set_option maxRecDepth 100000 in
theorem param_walk (w0 : World) (k : Int) (q : Bool) (t o : ByteArray) (a : Option Addr) (cap at' : Nat) (f : PL) (acc : List UInt8) (w : World) (ha : at' ≤ 2) (h : Is w0.heap.size acc w) (h0 : Below w0.heap.size w0 w)
    (hsz : 1 + t.size + o.size + bytes f ≤ 100000) (hlen : acc.length + 5 * (1 + t.size + o.size + bytes f) ≤ 70368744177664)
    (hS : ∀ acc w, Is w0.heap.size acc w → Below w0.heap.size w0 w → acc.length + 5 * bytes f ≤ 70368744177664 → Calls Tryz.prog 12 #[.pointer (some ⟨w0.heap.size, 0, none⟩), .slice a f.len cap, .int .i64 (wth q)] w fun e w' => e = .returned (.tuple #[]) ∧ Is w0.heap.size (acc ++ textL f (wth q)) w' ∧ Kept w0.heap.size w w') :
    Calls Tryz.prog 17 #[.pointer (some ⟨w0.heap.size, 0, none⟩), pv k q t o a f.len cap, .int .i64 at'] w fun e w' => e = .returned (.tuple #[]) ∧ Is w0.heap.size (acc ++ paramT q t o f at') w' ∧ Kept w0.heap.size w w' := by
  have ht : t.data.toList.length = t.size := lenB t
  have ho : o.data.toList.length = o.size := lenB o
  have hT := text_len f (wth q)
  have h2s : ByteArray.size ⟨#[36, 123]⟩ = 2 := rfl
  have n1 : ¬ 9223372036854775807 < 2 + t.size := by omega
  have n2 : ¬ 9223372036854775807 < 2 + t.size + o.size := by omega
  have HI := Lib.hid (h.below (bel1 w (.cells #[.int .i64 k, .bool q, .string t, .string o, .slice a f.len cap] 37)))
  have HNE := Lib.hid (show w.heap.size ≠ w0.heap.size from Ne.symm (Nat.ne_of_lt h.lt))
  have HBX0 := Lib.hid (show Box (w.alloc (.cells #[.int .i64 k, .bool q, .string t, .string o, .slice a f.len cap] 37)) w.heap.size k q t o a f.len cap from heap_alloc_new w _)
  have HKA := Lib.hid (Kept.of_below (bel1 w (.cells #[.int .i64 k, .bool q, .string t, .string o, .slice a f.len cap] 37)) (Nat.le_of_lt h.lt))
  have HB0 := Lib.hid (h0.trans HKA.out.1)
  have HS := Lib.hid hS
  clear hS h h0
  unfold pv
  cases hm : (q && !((at' : Int) == 2))
  · have HM := Lib.hid (show (q && !(at' == 2)) = false by rw [← natI2]; exact hm)
    have hmm : ((q = false) ∨ (q = true ∧ (at' : Int) = 2)) := by cases q <;> simp_all
    go_enter Tryz.func17, Tryz.ntmps17
    rcases hmm with rfl | ⟨rfl, hat⟩
    · clear hm
      go_wp2
      generalize w.alloc (.cells #[.int .i64 k, .bool false, .string t, .string o, .slice a f.len cap] 37) = w1 at HI HBX0 HKA HB0 ⊢
      have H1 := HI
      have H2 := Lib.hid (Kept.refl w0.heap.size w1)
      have HB1 := Lib.hid (HBX0.out.kept H2.out HNE.out)
      have kw10 : w1.cell? ⟨w.heap.size, 0, none⟩ = some (.int .i64 k) := HB1.out.cell 0
      have kw11 : w1.cell? ⟨w.heap.size, 1, none⟩ = some (.bool false) := HB1.out.cell 1
      have kw12 : w1.cell? ⟨w.heap.size, 2, none⟩ = some (.string t) := HB1.out.cell 2
      have kw13 : w1.cell? ⟨w.heap.size, 3, none⟩ = some (.string o) := HB1.out.cell 3
      have kw14 : w1.cell? ⟨w.heap.size, 4, none⟩ = some (.slice a f.len cap) := HB1.out.cell 4
      have r2 := cell_regrown kw12
      have r3 := cell_regrown kw13
      clear kw10 kw11 kw12 kw13 kw14
      refine Qu.region_tail 9 (by kernel_rfl) (by kernel_rfl) ?_
      simp only [List.take_succ_cons, List.take_zero, List.drop_succ_cons, List.drop_zero]
      repeat (first
        | (first | refine Qu.carry0 rfl (fun K hK => ?_) | refine Qu.carryG rfl rfl rfl (fun K hK => ?_)
           go_simp
           first
           | (refine hK _ ?_; clear hK K)
           | (apply Exists.intro; refine ⟨fun _ => ?_, hK _ ?_⟩; fail; clear hK K))
        | (refine Qu.passG rfl rfl rfl (fun K hK => ?_); go_simp; refine hK _ ?_; clear hK K))
      refine Qu.fin ?_
      rintro ⟨dq, osq⟩
      clear r2 r3
      have hY := writeString_any _ _ (⟨#[36, 123]⟩ ++ t ++ o) _ (H1.out.below (below_regrown _ dq osq)) (by
        simp only [ByteArray.size_append, h2s]
        try simp only [List.length_append, List.length_cons, List.length_nil]
        omega)
      have HK1 := Lib.hid (H2.out.trans (Kept.of_below (below_regrown w1 dq osq) (Nat.le_of_lt H1.out.lt)))
      have HY := Lib.hid hY; clear hY
      generalize hwv : grow (redrawn w1 dq) osq = wv at HY HK1 ⊢
      clear hwv
      go_wp2_with (go_at_call 20; refine (HY.out).mono ?_; rintro e w2 ⟨rfl, h3, h4⟩)
      have H3 := Lib.hid h3; have H4 := Lib.hid h4; clear h3 h4
      have HK2 := Lib.hid (HK1.out.trans H4.out)
      have HB2 := Lib.hid (HBX0.out.kept HK2.out HNE.out)
      have kw20 : w2.cell? ⟨w.heap.size, 0, none⟩ = some (.int .i64 k) := HB2.out.cell 0
      have kw21 : w2.cell? ⟨w.heap.size, 1, none⟩ = some (.bool false) := HB2.out.cell 1
      have kw22 : w2.cell? ⟨w.heap.size, 2, none⟩ = some (.string t) := HB2.out.cell 2
      have kw23 : w2.cell? ⟨w.heap.size, 3, none⟩ = some (.string o) := HB2.out.cell 3
      have kw24 : w2.cell? ⟨w.heap.size, 4, none⟩ = some (.slice a f.len cap) := HB2.out.cell 4
      have s0 := cell_regrown kw20
      have s1 := cell_regrown kw21
      have s2 := cell_regrown kw22
      have s3 := cell_regrown kw23
      have s4 := cell_regrown kw24
      clear kw20 kw21 kw22 kw23 kw24
      have HW := Lib.hid (fun dd os => Calls.regrown_of (within_any k false t o a f.len cap (grow (redrawn w2 dd) os)))
      refine Qu.region_tail 5 (by kernel_rfl) (by kernel_rfl) ?_
      simp only [List.take_succ_cons, List.take_zero, List.drop_succ_cons, List.drop_zero]
      repeat (first
        | (first | refine Qu.carry0 rfl (fun K hK => ?_) | refine Qu.carryG rfl rfl rfl (fun K hK => ?_)
           go_simp
           first
           | (refine hK _ ?_; clear hK K)
           | (apply Exists.intro; refine ⟨fun _ => ?_, hK _ ?_⟩; exact HW.out _ _; clear hK K))
        | (refine Qu.passG rfl rfl rfl (fun K hK => ?_); go_simp; refine hK _ ?_; clear hK K))
      refine Qu.fin ?_
      rintro ⟨dq, osq⟩
      clear s0 s1 s2 s3 s4
      have hP := HS.out _ _ (H3.out.below (below_regrown _ dq osq)) (HB0.out.trans (HK2.out.1.trans ((below_regrown w2 dq osq).mono (Nat.le_of_lt H3.out.lt)))) (by
        simp only [ByteArray.data_append, Array.toList_append, List.length_append, List.length_cons, List.length_nil]
        omega)
      have HK3 := Lib.hid (HK2.out.trans (Kept.of_below (below_regrown w2 dq osq) (Nat.le_of_lt H3.out.lt)))
      have HP := Lib.hid hP; clear hP
      generalize hwv2 : grow (redrawn w2 dq) osq = wv2 at HP HK3 ⊢
      clear hwv2
      go_wp2_with (go_at_call 12; refine (HP.out).mono ?_; rintro e w3 ⟨rfl, h5, h6⟩)
      have H5 := Lib.hid h5; have H6 := Lib.hid h6; clear h5 h6
      have HZ := Lib.hid (writeByte_any _ _ 125 w3 H5.out (by
        simp only [ByteArray.data_append, Array.toList_append, List.length_append, List.length_cons, List.length_nil]
        omega))
      go_wp2_with (go_at_call_of 29 (Value.int IntKind.u8 125); refine (HZ.out).mono ?_; rintro e w4 ⟨rfl, h7, h8⟩)
      go_end0
      refine ⟨rfl, ?_, HKA.out.trans (HK3.out.trans (H6.out.trans h8))⟩
      simpa [paramT, HM.out, List.append_assoc] using h7
    · have hne : ((at' : Int) != 2) = false := by rw [hat]; rfl
      clear hm hat
      go_wp2
      generalize w.alloc (.cells #[.int .i64 k, .bool true, .string t, .string o, .slice a f.len cap] 37) = w1 at HI HBX0 HKA HB0 ⊢
      have H1 := HI
      have H2 := Lib.hid (Kept.refl w0.heap.size w1)
      have HB1 := Lib.hid (HBX0.out.kept H2.out HNE.out)
      have kw10 : w1.cell? ⟨w.heap.size, 0, none⟩ = some (.int .i64 k) := HB1.out.cell 0
      have kw11 : w1.cell? ⟨w.heap.size, 1, none⟩ = some (.bool true) := HB1.out.cell 1
      have kw12 : w1.cell? ⟨w.heap.size, 2, none⟩ = some (.string t) := HB1.out.cell 2
      have kw13 : w1.cell? ⟨w.heap.size, 3, none⟩ = some (.string o) := HB1.out.cell 3
      have kw14 : w1.cell? ⟨w.heap.size, 4, none⟩ = some (.slice a f.len cap) := HB1.out.cell 4
      have r2 := cell_regrown kw12
      have r3 := cell_regrown kw13
      clear kw10 kw11 kw12 kw13 kw14
      refine Qu.region_tail 9 (by kernel_rfl) (by kernel_rfl) ?_
      simp only [List.take_succ_cons, List.take_zero, List.drop_succ_cons, List.drop_zero]
      repeat (first
        | (first | refine Qu.carry0 rfl (fun K hK => ?_) | refine Qu.carryG rfl rfl rfl (fun K hK => ?_)
           go_simp
           first
           | (refine hK _ ?_; clear hK K)
           | (apply Exists.intro; refine ⟨fun _ => ?_, hK _ ?_⟩; fail; clear hK K))
        | (refine Qu.passG rfl rfl rfl (fun K hK => ?_); go_simp; refine hK _ ?_; clear hK K))
      refine Qu.fin ?_
      rintro ⟨dq, osq⟩
      clear r2 r3
      have hY := writeString_any _ _ (⟨#[36, 123]⟩ ++ t ++ o) _ (H1.out.below (below_regrown _ dq osq)) (by
        simp only [ByteArray.size_append, h2s]
        try simp only [List.length_append, List.length_cons, List.length_nil]
        omega)
      have HK1 := Lib.hid (H2.out.trans (Kept.of_below (below_regrown w1 dq osq) (Nat.le_of_lt H1.out.lt)))
      have HY := Lib.hid hY; clear hY
      generalize hwv : grow (redrawn w1 dq) osq = wv at HY HK1 ⊢
      clear hwv
      go_wp2_with (go_at_call 20; refine (HY.out).mono ?_; rintro e w2 ⟨rfl, h3, h4⟩)
      have H3 := Lib.hid h3; have H4 := Lib.hid h4; clear h3 h4
      have HK2 := Lib.hid (HK1.out.trans H4.out)
      have HB2 := Lib.hid (HBX0.out.kept HK2.out HNE.out)
      have kw20 : w2.cell? ⟨w.heap.size, 0, none⟩ = some (.int .i64 k) := HB2.out.cell 0
      have kw21 : w2.cell? ⟨w.heap.size, 1, none⟩ = some (.bool true) := HB2.out.cell 1
      have kw22 : w2.cell? ⟨w.heap.size, 2, none⟩ = some (.string t) := HB2.out.cell 2
      have kw23 : w2.cell? ⟨w.heap.size, 3, none⟩ = some (.string o) := HB2.out.cell 3
      have kw24 : w2.cell? ⟨w.heap.size, 4, none⟩ = some (.slice a f.len cap) := HB2.out.cell 4
      have s0 := cell_regrown kw20
      have s1 := cell_regrown kw21
      have s2 := cell_regrown kw22
      have s3 := cell_regrown kw23
      have s4 := cell_regrown kw24
      clear kw20 kw21 kw22 kw23 kw24
      have HW := Lib.hid (fun dd os => Calls.regrown_of (within_any k true t o a f.len cap (grow (redrawn w2 dd) os)))
      refine Qu.region_tail 5 (by kernel_rfl) (by kernel_rfl) ?_
      simp only [List.take_succ_cons, List.take_zero, List.drop_succ_cons, List.drop_zero]
      repeat (first
        | (first | refine Qu.carry0 rfl (fun K hK => ?_) | refine Qu.carryG rfl rfl rfl (fun K hK => ?_)
           go_simp
           first
           | (refine hK _ ?_; clear hK K)
           | (apply Exists.intro; refine ⟨fun _ => ?_, hK _ ?_⟩; exact HW.out _ _; clear hK K))
        | (refine Qu.passG rfl rfl rfl (fun K hK => ?_); go_simp; refine hK _ ?_; clear hK K))
      refine Qu.fin ?_
      rintro ⟨dq, osq⟩
      clear s0 s1 s2 s3 s4
      have hP := HS.out _ _ (H3.out.below (below_regrown _ dq osq)) (HB0.out.trans (HK2.out.1.trans ((below_regrown w2 dq osq).mono (Nat.le_of_lt H3.out.lt)))) (by
        simp only [ByteArray.data_append, Array.toList_append, List.length_append, List.length_cons, List.length_nil]
        omega)
      have HK3 := Lib.hid (HK2.out.trans (Kept.of_below (below_regrown w2 dq osq) (Nat.le_of_lt H3.out.lt)))
      have HP := Lib.hid hP; clear hP
      generalize hwv2 : grow (redrawn w2 dq) osq = wv2 at HP HK3 ⊢
      clear hwv2
      go_wp2_with (go_at_call 12; refine (HP.out).mono ?_; rintro e w3 ⟨rfl, h5, h6⟩)
      have H5 := Lib.hid h5; have H6 := Lib.hid h6; clear h5 h6
      have HZ := Lib.hid (writeByte_any _ _ 125 w3 H5.out (by
        simp only [ByteArray.data_append, Array.toList_append, List.length_append, List.length_cons, List.length_nil]
        omega))
      go_wp2_with (go_at_call_of 29 (Value.int IntKind.u8 125); refine (HZ.out).mono ?_; rintro e w4 ⟨rfl, h7, h8⟩)
      go_end0
      refine ⟨rfl, ?_, HKA.out.trans (HK3.out.trans (H6.out.trans h8))⟩
      simpa [paramT, HM.out, List.append_assoc] using h7
  · have HM := Lib.hid (show (q && !(at' == 2)) = true by rw [← natI2]; exact hm)
    have hq : q = true := by cases q <;> simp_all
    subst hq
    have hne : ((at' : Int) != 2) = true := by simpa [bne] using hm
    clear hm
    go_enter Tryz.func17, Tryz.ntmps17
    have HX := Lib.hid (writeByte_any _ acc 34 _ HI.out (by omega))
    go_wp2_with (go_at_call 29; refine (HX.out).mono ?_; rintro e w1 ⟨rfl, h1, h2⟩)
    have H1 := Lib.hid h1; have H2 := Lib.hid h2; clear h1 h2
    have HB1 := Lib.hid (HBX0.out.kept H2.out HNE.out)
    have kw10 : w1.cell? ⟨w.heap.size, 0, none⟩ = some (.int .i64 k) := HB1.out.cell 0
    have kw11 : w1.cell? ⟨w.heap.size, 1, none⟩ = some (.bool true) := HB1.out.cell 1
    have kw12 : w1.cell? ⟨w.heap.size, 2, none⟩ = some (.string t) := HB1.out.cell 2
    have kw13 : w1.cell? ⟨w.heap.size, 3, none⟩ = some (.string o) := HB1.out.cell 3
    have kw14 : w1.cell? ⟨w.heap.size, 4, none⟩ = some (.slice a f.len cap) := HB1.out.cell 4
    have r2 := cell_regrown kw12
    have r3 := cell_regrown kw13
    clear kw10 kw11 kw12 kw13 kw14
    refine Qu.region_tail 9 (by kernel_rfl) (by kernel_rfl) ?_
    simp only [List.take_succ_cons, List.take_zero, List.drop_succ_cons, List.drop_zero]
    repeat (first
      | (first | refine Qu.carry0 rfl (fun K hK => ?_) | refine Qu.carryG rfl rfl rfl (fun K hK => ?_)
         go_simp
         first
         | (refine hK _ ?_; clear hK K)
         | (apply Exists.intro; refine ⟨fun _ => ?_, hK _ ?_⟩; fail; clear hK K))
      | (refine Qu.passG rfl rfl rfl (fun K hK => ?_); go_simp; refine hK _ ?_; clear hK K))
    refine Qu.fin ?_
    rintro ⟨dq, osq⟩
    clear r2 r3
    have hY := writeString_any _ _ (⟨#[36, 123]⟩ ++ t ++ o) _ (H1.out.below (below_regrown _ dq osq)) (by
      simp only [ByteArray.size_append, h2s]
      try simp only [List.length_append, List.length_cons, List.length_nil]
      omega)
    have HK1 := Lib.hid (H2.out.trans (Kept.of_below (below_regrown w1 dq osq) (Nat.le_of_lt H1.out.lt)))
    have HY := Lib.hid hY; clear hY
    generalize hwv : grow (redrawn w1 dq) osq = wv at HY HK1 ⊢
    clear hwv
    go_wp2_with (go_at_call 20; refine (HY.out).mono ?_; rintro e w2 ⟨rfl, h3, h4⟩)
    have H3 := Lib.hid h3; have H4 := Lib.hid h4; clear h3 h4
    have HK2 := Lib.hid (HK1.out.trans H4.out)
    have HB2 := Lib.hid (HBX0.out.kept HK2.out HNE.out)
    have kw20 : w2.cell? ⟨w.heap.size, 0, none⟩ = some (.int .i64 k) := HB2.out.cell 0
    have kw21 : w2.cell? ⟨w.heap.size, 1, none⟩ = some (.bool true) := HB2.out.cell 1
    have kw22 : w2.cell? ⟨w.heap.size, 2, none⟩ = some (.string t) := HB2.out.cell 2
    have kw23 : w2.cell? ⟨w.heap.size, 3, none⟩ = some (.string o) := HB2.out.cell 3
    have kw24 : w2.cell? ⟨w.heap.size, 4, none⟩ = some (.slice a f.len cap) := HB2.out.cell 4
    have s0 := cell_regrown kw20
    have s1 := cell_regrown kw21
    have s2 := cell_regrown kw22
    have s3 := cell_regrown kw23
    have s4 := cell_regrown kw24
    clear kw20 kw21 kw22 kw23 kw24
    have HW := Lib.hid (fun dd os => Calls.regrown_of (within_any k true t o a f.len cap (grow (redrawn w2 dd) os)))
    refine Qu.region_tail 5 (by kernel_rfl) (by kernel_rfl) ?_
    simp only [List.take_succ_cons, List.take_zero, List.drop_succ_cons, List.drop_zero]
    repeat (first
      | (first | refine Qu.carry0 rfl (fun K hK => ?_) | refine Qu.carryG rfl rfl rfl (fun K hK => ?_)
         go_simp
         first
         | (refine hK _ ?_; clear hK K)
         | (apply Exists.intro; refine ⟨fun _ => ?_, hK _ ?_⟩; exact HW.out _ _; clear hK K))
      | (refine Qu.passG rfl rfl rfl (fun K hK => ?_); go_simp; refine hK _ ?_; clear hK K))
    refine Qu.fin ?_
    rintro ⟨dq, osq⟩
    clear s0 s1 s2 s3 s4
    have hP := HS.out _ _ (H3.out.below (below_regrown _ dq osq)) (HB0.out.trans (HK2.out.1.trans ((below_regrown w2 dq osq).mono (Nat.le_of_lt H3.out.lt)))) (by
      simp only [ByteArray.data_append, Array.toList_append, List.length_append, List.length_cons, List.length_nil]
      omega)
    have HK3 := Lib.hid (HK2.out.trans (Kept.of_below (below_regrown w2 dq osq) (Nat.le_of_lt H3.out.lt)))
    have HP := Lib.hid hP; clear hP
    generalize hwv2 : grow (redrawn w2 dq) osq = wv2 at HP HK3 ⊢
    clear hwv2
    go_wp2_with (go_at_call 12; refine (HP.out).mono ?_; rintro e w3 ⟨rfl, h5, h6⟩)
    have H5 := Lib.hid h5; have H6 := Lib.hid h6; clear h5 h6
    have HZ := Lib.hid (writeByte_any _ _ 125 w3 H5.out (by
      simp only [ByteArray.data_append, Array.toList_append, List.length_append, List.length_cons, List.length_nil]
      omega))
    go_wp2_with (go_at_call_of 29 (Value.int IntKind.u8 125); refine (HZ.out).mono ?_; rintro e w4 ⟨rfl, h7, h8⟩)
    have H7 := Lib.hid h7; have H8 := Lib.hid h8; clear h7 h8
    have HZ2 := Lib.hid (writeByte_any _ _ 34 w4 H7.out (by
      simp only [ByteArray.data_append, Array.toList_append, List.length_append, List.length_cons, List.length_nil]
      omega))
    go_wp2_with (go_at_call_of 29 (Value.int IntKind.u8 34); refine (HZ2.out).mono ?_; rintro e w5 ⟨rfl, h9, h10⟩)
    go_end0
    refine ⟨rfl, ?_, HKA.out.trans (HK3.out.trans (H6.out.trans (H8.out.trans h10)))⟩
    simpa [paramT, HM.out, List.append_assoc] using h9
end Bd
end Go.Proofs.YtgpnleenejjnmaaGreatDoor
