/- Patterns: the program's small functions, and what a set has. -/
import Derived.Test.YtfjfgaefbldgbaaPnF
namespace Go.Proofs.Ytfjfgaefbldgbaa
open Go.RowKit
namespace Pn
set_option maxHeartbeats 800000 in
theorem firstM_any (l : List Sg) (a : Option Addr) (cap i : Nat) (w : World) (h : Sgs w a l) (hl : l.length ≤ 1000) (hi : i ≤ 1000) :
    Calls Try.prog 23 #[.slice a l.length cap, .int .i64 i] w fun e w' => e = .returned (.int .i64 (firstAt l i)) ∧ Below w.heap.size w w' := by
  by_cases hlt : i + 1 < l.length
  · obtain ⟨b, o, rfl, hb, c0, c1⟩ := h.get hlt
    have HE := Lib.hid (show isAt l (i + 1) 33 = ((at' l (i + 1)).1 == 33 && !(at' l (i + 1)).2) from rfl)
    revert c0 c1 HE
    generalize (at' l (i + 1)).1 = x
    generalize (at' l (i + 1)).2 = q
    intro c0 c1 HE
    cases hr : (x == 33 && !q)
    all_goals
      have HR := Lib.hid hr; clear hr
      go_enter Try.func23, Try.ntmps23
      go_wp2_with fail
      refine (is_any x q 33 _).mono ?_
      rintro e w1 ⟨rfl, hb1⟩
      rw [HR.out]
      have HB1 := Lib.hid hb1; clear hb1
      go_wp2_with fail
      go_ret
      exact ⟨by rw [firstAt, HE.out, HR.out]; rfl, HB1.out⟩
  · have HI := Lib.hid (isAt_out (l := l) (c := 33) hlt)
    go_enter Try.func23, Try.ntmps23
    go_wp2_with fail
    go_ret
    exact ⟨by rw [firstAt, HI.out]; rfl, Below.refl _ _⟩
/-- The last place where a set may end. -/
def lastI (l : List Sg) : Nat → Int
  | 0 => -1
  | k + 1 => if isAt l k 93 then (k : Int) else lastI l k
theorem lastI_none {l : List Sg} : ∀ {k : Nat}, lastI l k = -1 ↔ ∀ j, j < k → isAt l j 93 = false
  | 0 => by simp [lastI]
  | k + 1 => by
    rw [lastI]
    split
    · rename_i h
      refine ⟨fun e => by omega, fun e => ?_⟩
      rw [e k (by omega)] at h; cases h
    · rename_i h
      rw [lastI_none (k := k)]
      refine ⟨fun e j hj => ?_, fun e j hj => e j (by omega)⟩
      by_cases hjk : j = k
      · subst hjk; simpa using h
      · exact e j (by omega)
theorem lastI_some {l : List Sg} : ∀ {k n : Nat}, (n : Int) < lastI l k ↔ ∃ j, n < j ∧ j < k ∧ isAt l j 93 = true
  | 0, n => by
    simp only [lastI]
    constructor
    · intro h; omega
    · rintro ⟨j, _, h, _⟩; omega
  | k + 1, n => by
    rw [lastI]
    split
    · rename_i h
      constructor
      · intro e; exact ⟨k, by omega, by omega, h⟩
      · rintro ⟨j, h1, h2, h3⟩; omega
    · rename_i h
      rw [lastI_some (k := k)]
      constructor
      · rintro ⟨j, h1, h2, h3⟩; exact ⟨j, h1, by omega, h3⟩
      · rintro ⟨j, h1, h2, h3⟩
        by_cases hjk : j = k
        · subst hjk; exact absurd h3 (by simpa using h)
        · exact ⟨j, h1, by omega, h3⟩
set_option maxHeartbeats 800000 in
theorem last_any (l : List Sg) (a : Option Addr) (cap : Nat) (w : World) (h : Sgs w a l) (hl : l.length ≤ 1000) :
    Calls Try.prog 22 #[.slice a l.length cap] w fun e w' => e = .returned (.int .i64 (lastI l l.length)) ∧ Below w.heap.size w w' := by
  have H := Lib.hid h; clear h
  go_enter Try.func22, Try.ntmps22
  go_wp2_with fail
  go_loopw [3] (fun x wr => ∃ k : Nat, k ≤ l.length ∧ x = .int .i64 ((k : Int) - 1) ∧ lastI l l.length = lastI l k ∧ Below w.heap.size w wr) (fun x _ => (intOf x + 1).toNat)
  case atStart => exact ⟨l.length, Nat.le_refl _, rfl, rfl, Below.refl _ _⟩
  case round =>
    obtain ⟨k, hk, rfl, hla, hbw⟩ := hrel
    have HLA := Lib.hid hla; have HW := Lib.hid hbw
    have hws := hbw.size
    clear hla hbw
    cases k with
    | zero =>
      go_wp2_with fail
      go_ret
      exact ⟨by rw [HLA.out]; rfl, HW.out⟩
    | succ k =>
      obtain ⟨b, o, rfl, hb, c0, c1⟩ := (H.out.below HW.out).get (i := k) (by omega)
      have HE := Lib.hid (show isAt l k 93 = ((at' l k).1 == 93 && !(at' l k).2) from rfl)
      revert c0 c1 HE
      generalize (at' l k).1 = x
      generalize (at' l k).2 = q
      intro c0 c1 HE
      rw [show ((k + 1 : Nat) : Int) - 1 = (k : Int) by omega]
      cases hr : (x == 93 && !q)
      · have HR := Lib.hid hr; clear hr
        go_wp2_with fail
        refine (is_any x q 93 _).mono ?_
        rintro e w1 ⟨rfl, hb1⟩
        rw [HR.out]
        have HB1 := Lib.hid (HW.out.trans (hb1.mono hws)); clear hb1
        go_wp2_with fail
        go_roundw
        case rel => exact ⟨k, by omega, rfl, by rw [HLA.out, lastI, HE.out, HR.out]; rfl, HB1.out⟩
        case measure => simp [intOf]
      · have HR := Lib.hid hr; clear hr
        go_wp2_with fail
        refine (is_any x q 93 _).mono ?_
        rintro e w1 ⟨rfl, hb1⟩
        rw [HR.out]
        have HB1 := Lib.hid (HW.out.trans (hb1.mono hws)); clear hb1
        go_wp2_with fail
        go_ret
        exact ⟨by rw [HLA.out, lastI, HE.out, HR.out]; rfl, HB1.out⟩
theorem two_blocks (w : World) (x y : Obj) : ((w.alloc x).alloc y).heap[w.heap.size]? = some x ∧ ((w.alloc x).alloc y).heap[w.heap.size + 1]? = some y := by
  constructor
  · show ((w.heap.push x).push y)[w.heap.size]? = some x
    rw [Array.getElem?_push, if_neg (by simp), Array.getElem?_push, if_pos rfl]
  · show ((w.heap.push x).push y)[w.heap.size + 1]? = some y
    rw [Array.getElem?_push, if_pos (by simp)]
theorem put3 {w : World} {g : Nat} {T : TypeId} {a b c : Value} (h : w.heap[g]? = some (.cells #[a, b, c] T (0, 0))) (x y z : Value) :
    (((w.setCell ⟨g, 0, none⟩ x).setCell ⟨g, 1, none⟩ y).setCell ⟨g, 2, none⟩ z).heap[g]? = some (.cells #[x, y, z] T (0, 0)) :=
  heap_setCell_same _ _ 2 _ _ z (heap_setCell_same _ _ 1 _ _ y (heap_setCell_same _ _ 0 _ _ x h))
theorem lt2 (w : World) (x y : Obj) : w.heap.size < ((w.alloc x).alloc y).heap.size := by simp only [World.size_alloc]; omega
theorem lt3 (w : World) (x y : Obj) : w.heap.size + 1 < ((w.alloc x).alloc y).heap.size := by simp only [World.size_alloc]; omega
/-- What a byte means that begins no set: its kind, and its byte. -/
def kindOne (x : Sg) : Nat := if x.1 == 63 && !x.2 then 1 else if x.1 == 42 && !x.2 then 2 else 0
def byteOne (x : Sg) : Nat := if kindOne x = 0 then x.1 else 0
set_option maxHeartbeats 800000 in
theorem single_any (x : Nat) (q : Bool) (w : World) :
    Calls Try.prog 26 #[.agg #[.int .u8 x, .bool q]] w fun e w' => e = .returned (.agg #[.int .i64 (kindOne (x, q) : Nat), .int .u8 (byteOne (x, q) : Nat), .pointer none]) ∧ Below w.heap.size w w' := by
  cases h1 : (x == 63 && !q)
  · cases h2 : (x == 42 && !q)
    · have HK : kindOne (x, q) = 0 := by simp only [kindOne, h1, h2]; rfl
      have HC : byteOne (x, q) = x := by rw [byteOne, if_pos HK]
      rw [HK, HC]
      have H1 := Lib.hid h1; have H2 := Lib.hid h2
      clear h1 h2 HK HC
      go_enter Try.func26, Try.ntmps26
      go_wp2_with fail
      refine (is_any x q 63 _).mono ?_
      rintro e w1 ⟨rfl, hb1⟩
      rw [H1.out]
      obtain ⟨g0, g1⟩ := two_blocks w (.cells #[.int .u8 (x : Int), .bool q] 51) (.cells #[.int .i64 0, .int .u8 0, .pointer none] 36)
      have x0 := (hb1.block _ (lt2 _ _ _)).trans g0
      have x1 := (hb1.block _ (lt3 _ _ _)).trans g1
      have b0 : w1.cell? ⟨w.heap.size, 0, none⟩ = some (.int .u8 (x : Int)) := Lib.cell_of_heap x0 0
      have b1 : w1.cell? ⟨w.heap.size, 1, none⟩ = some (.bool q) := Lib.cell_of_heap x0 1
      have m0 : w1.cell? ⟨w.heap.size + 1, 0, none⟩ = some (.int .i64 0) := Lib.cell_of_heap x1 0
      have m1 : w1.cell? ⟨w.heap.size + 1, 1, none⟩ = some (.int .u8 0) := Lib.cell_of_heap x1 1
      have m2 : w1.cell? ⟨w.heap.size + 1, 2, none⟩ = some (.pointer none) := Lib.cell_of_heap x1 2
      have f0 : w1.frozen? ⟨w.heap.size + 1, 0, none⟩ = false := frozen_of_row _ _ _ _ _ x1
      have f1 : w1.frozen? ⟨w.heap.size + 1, 1, none⟩ = false := frozen_of_row _ _ _ _ _ x1
      have f2 : w1.frozen? ⟨w.heap.size + 1, 2, none⟩ = false := frozen_of_row _ _ _ _ _ x1
      have hsz : w.heap.size + 1 < w1.heap.size := (Array.getElem?_eq_some_iff.1 x1).1
      have HB1 := Lib.hid ((((Below.refl _ w).alloc (Nat.le_refl _) _).alloc (by simp) _).trans (hb1.mono (Nat.le_of_lt (lt2 _ _ _)))); have HX0 := Lib.hid x0; have HX1 := Lib.hid x1
      clear hb1 x0 x1 g0 g1
      go_wp2_with fail
      refine (is_any x q 42 _).mono ?_
      rintro e w2 ⟨rfl, hb2⟩
      rw [H2.out]
      have x0 := (hb2.block _ (by omega)).trans HX0.out
      have x1 := (hb2.block _ hsz).trans HX1.out
      have HB2 := Lib.hid (HB1.out.trans (hb2.mono HB1.out.size))
      clear hb2 b0 b1 m0 m1 m2 f0 f1 f2 hsz
      have b0 : w2.cell? ⟨w.heap.size, 0, none⟩ = some (.int .u8 (x : Int)) := Lib.cell_of_heap x0 0
      have b1 : w2.cell? ⟨w.heap.size, 1, none⟩ = some (.bool q) := Lib.cell_of_heap x0 1
      have m0 : w2.cell? ⟨w.heap.size + 1, 0, none⟩ = some (.int .i64 0) := Lib.cell_of_heap x1 0
      have m1 : w2.cell? ⟨w.heap.size + 1, 1, none⟩ = some (.int .u8 0) := Lib.cell_of_heap x1 1
      have m2 : w2.cell? ⟨w.heap.size + 1, 2, none⟩ = some (.pointer none) := Lib.cell_of_heap x1 2
      have f0 : w2.frozen? ⟨w.heap.size + 1, 0, none⟩ = false := frozen_of_row _ _ _ _ _ x1
      have f1 : w2.frozen? ⟨w.heap.size + 1, 1, none⟩ = false := frozen_of_row _ _ _ _ _ x1
      have f2 : w2.frozen? ⟨w.heap.size + 1, 2, none⟩ = false := frozen_of_row _ _ _ _ _ x1
      have hsz : w.heap.size + 1 < w2.heap.size := (Array.getElem?_eq_some_iff.1 x1).1
      have HX2 := Lib.hid x1
      clear x0 x1
      go_wp2_with fail
      have hf := put3 HX2.out (.int .i64 0) (.int .u8 (x : Nat)) (.pointer none)
      refine bodyPost_ret (v := .agg #[.int .i64 0, .int .u8 (x : Nat), .pointer none]) (results_cell_row rfl _ _ (w.heap.size + 1) _ _ _ _ rfl hf Try.underlying36 rfl (by kernel_rfl)) rfl ⟨rfl, ?_⟩
      exact ((HB2.out.setCell (p := ⟨w.heap.size + 1, 0, none⟩) (by simp) _).setCell (p := ⟨w.heap.size + 1, 1, none⟩) (by simp) _).setCell (p := ⟨w.heap.size + 1, 2, none⟩) (by simp) _
    · have HK : kindOne (x, q) = 2 := by simp only [kindOne, h1, h2]; rfl
      have HC : byteOne (x, q) = 0 := by rw [byteOne, if_neg (by rw [HK]; decide)]
      rw [HK, HC]
      have H1 := Lib.hid h1; have H2 := Lib.hid h2
      clear h1 h2 HK HC
      go_enter Try.func26, Try.ntmps26
      go_wp2_with fail
      refine (is_any x q 63 _).mono ?_
      rintro e w1 ⟨rfl, hb1⟩
      rw [H1.out]
      obtain ⟨g0, g1⟩ := two_blocks w (.cells #[.int .u8 (x : Int), .bool q] 51) (.cells #[.int .i64 0, .int .u8 0, .pointer none] 36)
      have x0 := (hb1.block _ (lt2 _ _ _)).trans g0
      have x1 := (hb1.block _ (lt3 _ _ _)).trans g1
      have b0 : w1.cell? ⟨w.heap.size, 0, none⟩ = some (.int .u8 (x : Int)) := Lib.cell_of_heap x0 0
      have b1 : w1.cell? ⟨w.heap.size, 1, none⟩ = some (.bool q) := Lib.cell_of_heap x0 1
      have m0 : w1.cell? ⟨w.heap.size + 1, 0, none⟩ = some (.int .i64 0) := Lib.cell_of_heap x1 0
      have m1 : w1.cell? ⟨w.heap.size + 1, 1, none⟩ = some (.int .u8 0) := Lib.cell_of_heap x1 1
      have m2 : w1.cell? ⟨w.heap.size + 1, 2, none⟩ = some (.pointer none) := Lib.cell_of_heap x1 2
      have f0 : w1.frozen? ⟨w.heap.size + 1, 0, none⟩ = false := frozen_of_row _ _ _ _ _ x1
      have f1 : w1.frozen? ⟨w.heap.size + 1, 1, none⟩ = false := frozen_of_row _ _ _ _ _ x1
      have f2 : w1.frozen? ⟨w.heap.size + 1, 2, none⟩ = false := frozen_of_row _ _ _ _ _ x1
      have hsz : w.heap.size + 1 < w1.heap.size := (Array.getElem?_eq_some_iff.1 x1).1
      have HB1 := Lib.hid ((((Below.refl _ w).alloc (Nat.le_refl _) _).alloc (by simp) _).trans (hb1.mono (Nat.le_of_lt (lt2 _ _ _)))); have HX0 := Lib.hid x0; have HX1 := Lib.hid x1
      clear hb1 x0 x1 g0 g1
      go_wp2_with fail
      refine (is_any x q 42 _).mono ?_
      rintro e w2 ⟨rfl, hb2⟩
      rw [H2.out]
      have x0 := (hb2.block _ (by omega)).trans HX0.out
      have x1 := (hb2.block _ hsz).trans HX1.out
      have HB2 := Lib.hid (HB1.out.trans (hb2.mono HB1.out.size))
      clear hb2 b0 b1 m0 m1 m2 f0 f1 f2 hsz
      have b0 : w2.cell? ⟨w.heap.size, 0, none⟩ = some (.int .u8 (x : Int)) := Lib.cell_of_heap x0 0
      have b1 : w2.cell? ⟨w.heap.size, 1, none⟩ = some (.bool q) := Lib.cell_of_heap x0 1
      have m0 : w2.cell? ⟨w.heap.size + 1, 0, none⟩ = some (.int .i64 0) := Lib.cell_of_heap x1 0
      have m1 : w2.cell? ⟨w.heap.size + 1, 1, none⟩ = some (.int .u8 0) := Lib.cell_of_heap x1 1
      have m2 : w2.cell? ⟨w.heap.size + 1, 2, none⟩ = some (.pointer none) := Lib.cell_of_heap x1 2
      have f0 : w2.frozen? ⟨w.heap.size + 1, 0, none⟩ = false := frozen_of_row _ _ _ _ _ x1
      have f1 : w2.frozen? ⟨w.heap.size + 1, 1, none⟩ = false := frozen_of_row _ _ _ _ _ x1
      have f2 : w2.frozen? ⟨w.heap.size + 1, 2, none⟩ = false := frozen_of_row _ _ _ _ _ x1
      have hsz : w.heap.size + 1 < w2.heap.size := (Array.getElem?_eq_some_iff.1 x1).1
      have HX2 := Lib.hid x1
      clear x0 x1
      go_wp2_with fail
      have hf := put3 HX2.out (.int .i64 2) (.int .u8 (0 : Nat)) (.pointer none)
      refine bodyPost_ret (v := .agg #[.int .i64 2, .int .u8 (0 : Nat), .pointer none]) (results_cell_row rfl _ _ (w.heap.size + 1) _ _ _ _ rfl hf Try.underlying36 rfl (by kernel_rfl)) rfl ⟨rfl, ?_⟩
      exact ((HB2.out.setCell (p := ⟨w.heap.size + 1, 0, none⟩) (by simp) _).setCell (p := ⟨w.heap.size + 1, 1, none⟩) (by simp) _).setCell (p := ⟨w.heap.size + 1, 2, none⟩) (by simp) _
  · have HK : kindOne (x, q) = 1 := by simp only [kindOne, h1]; rfl
    have HC : byteOne (x, q) = 0 := by rw [byteOne, if_neg (by rw [HK]; decide)]
    rw [HK, HC]
    have H1 := Lib.hid h1
    clear h1 HK HC
    go_enter Try.func26, Try.ntmps26
    go_wp2_with fail
    refine (is_any x q 63 _).mono ?_
    rintro e w1 ⟨rfl, hb1⟩
    rw [H1.out]
    obtain ⟨g0, g1⟩ := two_blocks w (.cells #[.int .u8 (x : Int), .bool q] 51) (.cells #[.int .i64 0, .int .u8 0, .pointer none] 36)
    have x0 := (hb1.block _ (lt2 _ _ _)).trans g0
    have x1 := (hb1.block _ (lt3 _ _ _)).trans g1
    have b0 : w1.cell? ⟨w.heap.size, 0, none⟩ = some (.int .u8 (x : Int)) := Lib.cell_of_heap x0 0
    have b1 : w1.cell? ⟨w.heap.size, 1, none⟩ = some (.bool q) := Lib.cell_of_heap x0 1
    have m0 : w1.cell? ⟨w.heap.size + 1, 0, none⟩ = some (.int .i64 0) := Lib.cell_of_heap x1 0
    have m1 : w1.cell? ⟨w.heap.size + 1, 1, none⟩ = some (.int .u8 0) := Lib.cell_of_heap x1 1
    have m2 : w1.cell? ⟨w.heap.size + 1, 2, none⟩ = some (.pointer none) := Lib.cell_of_heap x1 2
    have f0 : w1.frozen? ⟨w.heap.size + 1, 0, none⟩ = false := frozen_of_row _ _ _ _ _ x1
    have f1 : w1.frozen? ⟨w.heap.size + 1, 1, none⟩ = false := frozen_of_row _ _ _ _ _ x1
    have f2 : w1.frozen? ⟨w.heap.size + 1, 2, none⟩ = false := frozen_of_row _ _ _ _ _ x1
    have hsz : w.heap.size + 1 < w1.heap.size := (Array.getElem?_eq_some_iff.1 x1).1
    have HB1 := Lib.hid ((((Below.refl _ w).alloc (Nat.le_refl _) _).alloc (by simp) _).trans (hb1.mono (Nat.le_of_lt (lt2 _ _ _)))); have HX0 := Lib.hid x0; have HX1 := Lib.hid x1
    clear hb1 x0 x1 g0 g1
    go_wp2_with fail
    have hf := put3 HX1.out (.int .i64 1) (.int .u8 (0 : Nat)) (.pointer none)
    refine bodyPost_ret (v := .agg #[.int .i64 1, .int .u8 (0 : Nat), .pointer none]) (results_cell_row rfl _ _ (w.heap.size + 1) _ _ _ _ rfl hf Try.underlying36 rfl (by kernel_rfl)) rfl ⟨rfl, ?_⟩
    exact ((HB1.out.setCell (p := ⟨w.heap.size + 1, 0, none⟩) (by simp) _).setCell (p := ⟨w.heap.size + 1, 1, none⟩) (by simp) _).setCell (p := ⟨w.heap.size + 1, 2, none⟩) (by simp) _
set_option maxHeartbeats 800000 in
theorem add_any (sb c d : Nat) (S : Nat → Bool) (w : World) (h : BOwn w sb 256 S) (hc : c < 256) (hd : d < 256) :
    Calls Try.prog 30 #[.pointer (some ⟨sb, 0, none⟩), .int .u8 c, .int .u8 d] w fun e w' => e = .returned (.tuple #[]) ∧ BOwn w' sb 256 (fun x => S x || decide (c ≤ x ∧ x ≤ d)) ∧ (∀ b, b ≠ sb → w'.heap[b]? = w.heap[b]?) ∧ Below sb w w' := by
  have H := Lib.hid h; clear h
  go_enter Try.func30, Try.ntmps30
  go_wp2_with fail
  go_loopw [6] (fun x wr => ∃ k : Nat, c ≤ k ∧ k ≤ max c (d + 1) ∧ x = .int .i64 k ∧ BOwn wr sb 256 (fun x => S x || decide (c ≤ x ∧ x < k)) ∧ (∀ b, b ≠ sb → wr.heap[b]? = w.heap[b]?) ∧ Below sb w wr) (fun x _ => 300 - (intOf x).toNat)
  case atStart => exact ⟨c, Nat.le_refl _, by omega, rfl, by
    have : (fun x => S x || decide (c ≤ x ∧ x < c)) = S := by
      funext x
      rw [decide_eq_false (by omega), Bool.or_false]
    rw [this]; exact H.out, fun _ _ => rfl, Below.refl _ _⟩
  case round =>
    obtain ⟨k, hk, hk2, rfl, hrow, hoth, hbw⟩ := hrel
    have HR := Lib.hid hrow; have HW := Lib.hid hbw; have HOT := Lib.hid hoth
    have hfz := hrow.2
    have hsl := hrow.1.1
    clear hrow hbw hoth
    by_cases hle : k ≤ d
    · have ck := HR.out.1.2 k (by omega)
      rw [Nat.zero_add] at ck
      revert ck
      generalize (S k || decide (c ≤ k ∧ k < k)) = y
      intro ck
      go_wp2_with fail
      go_roundw
      case rel => exact ⟨k + 1, by omega, by omega, by go_num, by
        have := HR.out.set (j := k) (by omega) true
        have e : (fun x => S x || decide (c ≤ x ∧ x < k + 1)) = upd (fun x => S x || decide (c ≤ x ∧ x < k)) k true := by
          funext x
          unfold upd
          by_cases hx : x = k
          · subst hx; rw [if_pos rfl, decide_eq_true (by omega), Bool.or_true]
          · rw [if_neg hx]
            congr 1
            exact decide_eq_decide.2 (by omega)
        rw [e]; exact this, fun b hb => (Below.heap_setCell _ _ _ _ hb).trans (HOT.out b hb), HW.out.setCell (p := ⟨sb, k, none⟩) (Nat.le_refl _) _⟩
      case measure => simp [intOf]; omega
    · go_wp2_with fail
      go_end0
      refine ⟨rfl, ?_, HOT.out, HW.out⟩
      have e : (fun x => S x || decide (c ≤ x ∧ x ≤ d)) = (fun x => S x || decide (c ≤ x ∧ x < k)) := by
        funext x
        congr 1
        exact decide_eq_decide.2 (by omega)
      rw [e]
      exact HR.out
theorem zeroSet : ∃ row : Array Value, row.size = 256 ∧ (∀ i, i < 256 → row[i]? = some (.bool false)) ∧ ∀ w : World, (zeroValue 59).run Try.prog w = .ok (.agg row) w :=
  ⟨Array.replicate 256 (.bool false), by simp, fun i hi => by simp [hi], fun w => by kernel_rfl⟩
end Pn
end Go.Proofs.Ytfjfgaefbldgbaa
