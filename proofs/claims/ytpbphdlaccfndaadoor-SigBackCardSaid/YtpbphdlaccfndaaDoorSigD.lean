/- What Mild, Fixed, Cond answer, in the program and in the reference, for every number and every text; and that the law's own example holds. -/
import Derived.Test.YtpbphdlaccfndaaDoorSigC
namespace Go.Proofs.YtpbphdlaccfndaaDoor
open Go.RowKit
namespace Sig

theorem number_at (t : ByteArray) (n : Nat) (b : Bool) (w : World) (hn : Names w) (h : numUp t 31 = n) (hb : decide (n ≠ 0) = b) :
    Calls Tryd.prog 6 #[.string t] w fun e w' => e = .returned (.tuple #[.int .i64 n, .bool b]) ∧ w = w' := by
  subst h; subst hb; exact number_any t w hn
theorem rnumber_at (t : ByteArray) (n : Nat) (w : World) (h : numUp t 31 = n) :
    Calls Tryd.prog 8 #[.string t] w fun e w' => e = .returned (.int .i64 n) ∧ Below w.heap.size w w' := by
  subst h; exact rnumber_any t w

/-- Is it 0 or EXIT? -/
def endB (t : ByteArray) : Bool := t.toList == [48] || t.toList == [69, 88, 73, 84]
set_option maxHeartbeats 400000 in
theorem cond_end (t : ByteArray) (w : World) (h : endB t = true) :
    Calls Tryd.prog 7 #[.string t] w fun e w' => e = .returned (.tuple #[.int .i64 0, .bool true]) ∧ w = w' := by
  unfold endB at h
  cases h1 : t.toList == [48]
  · have h2 : (t.toList == [69, 88, 73, 84]) = true := by simpa [h1] using h
    clear h
    go_enter Tryd.func7, Tryd.ntmps7
    go_wp2
    go_ret2
    exact ⟨rfl, rfl⟩
  · clear h
    go_enter Tryd.func7, Tryd.ntmps7
    go_wp2
    go_ret2
    exact ⟨rfl, rfl⟩
set_option maxHeartbeats 400000 in
theorem cond_else (t : ByteArray) (n : Nat) (b : Bool) (w : World) (hn : Names w) (hu : numUp t 31 = n) (hb : decide (n ≠ 0) = b) (h : endB t = false) :
    Calls Tryd.prog 7 #[.string t] w fun e w' => e = .returned (.tuple #[.int .i64 n, .bool b]) ∧ w = w' := by
  obtain ⟨h1, h2⟩ : (t.toList == [48]) = false ∧ (t.toList == [69, 88, 73, 84]) = false := by simpa [endB] using h
  have HN := Lib.hid (number_at t n b w hn hu hb)
  clear hn hu hb h
  go_enter Tryd.func7, Tryd.ntmps7
  go_wp2_with (go_at_call 6; refine HN.out.mono ?_; rintro e w' ⟨rfl, rfl⟩)
  go_ret2
  exact ⟨rfl, rfl⟩

set_option maxHeartbeats 400000 in
theorem rcond_end (t : ByteArray) (w : World) (h : endB t = true) :
    Calls Tryd.prog 9 #[.string t] w fun e w' => e = .returned (.int .i64 0) ∧ Below w.heap.size w w' := by
  unfold endB at h
  cases h1 : t.toList == [48]
  · have h2 : (t.toList == [69, 88, 73, 84]) = true := by simpa [h1] using h
    clear h
    go_enter Tryd.func9, Tryd.ntmps9
    go_wp2
    go_ret
    exact ⟨rfl, Below.refl _ _⟩
  · clear h
    go_enter Tryd.func9, Tryd.ntmps9
    go_wp2
    go_ret
    exact ⟨rfl, Below.refl _ _⟩
set_option maxHeartbeats 400000 in
theorem rcond_none (t : ByteArray) (w : World) (hu : numUp t 31 = 0) (h : endB t = false) :
    Calls Tryd.prog 9 #[.string t] w fun e w' => e = .returned (.int .i64 (-1)) ∧ Below w.heap.size w w' := by
  obtain ⟨h1, h2⟩ : (t.toList == [48]) = false ∧ (t.toList == [69, 88, 73, 84]) = false := by simpa [endB] using h
  have HU := Lib.hid hu
  clear hu h
  go_enter Tryd.func9, Tryd.ntmps9
  go_wp2_with (go_at_call 8; refine (rnumber_at t 0 _ HU.out).mono ?_; rintro e w1 ⟨rfl, hb1⟩)
  go_ret
  exact ⟨rfl, hb1⟩
set_option maxHeartbeats 400000 in
theorem rcond_some (t : ByteArray) (n : Nat) (w : World) (hu : numUp t 31 = n) (h0 : 1 ≤ n) (h : endB t = false) :
    Calls Tryd.prog 9 #[.string t] w fun e w' => e = .returned (.int .i64 n) ∧ Below w.heap.size w w' := by
  obtain ⟨h1, h2⟩ : (t.toList == [48]) = false ∧ (t.toList == [69, 88, 73, 84]) = false := by simpa [endB] using h
  have HU := Lib.hid hu
  clear hu h
  go_enter Tryd.func9, Tryd.ntmps9
  go_wp2_with fail
  refine (rnumber_at t n _ HU.out).mono ?_
  rintro e w1 ⟨rfl, hb1⟩
  go_wp2_with fail
  refine (rnumber_at t n _ HU.out).mono ?_
  rintro e w2 ⟨rfl, hb2⟩
  go_wp2_with fail
  go_ret
  exact ⟨rfl, hb1.trans (hb2.mono hb1.size)⟩

/-- Nobody dies of it. -/
def mildB (s : Int) : Bool := s == 17 || s == 18 || s == 23 || s == 28
def fixedB (s : Int) : Bool := s == 9 || s == 19
set_option maxHeartbeats 400000 in
theorem mild_any (s : Int) (w : World) :
    Calls Tryd.prog 14 #[.int .i64 s] w fun e w' => e = .returned (.bool (mildB s)) ∧ w = w' := by
  unfold mildB
  cases h1 : s == 17 <;> cases h2 : s == 18 <;> cases h3 : s == 23 <;> cases h4 : s == 28
  all_goals
    go_enter Tryd.func14, Tryd.ntmps14
    go_wp2
    go_ret
    exact ⟨rfl, rfl⟩
set_option maxHeartbeats 400000 in
theorem fixed_any (s : Int) (w : World) :
    Calls Tryd.prog 16 #[.int .i64 s] w fun e w' => e = .returned (.bool (fixedB s)) ∧ w = w' := by
  unfold fixedB
  cases h1 : s == 9 <;> cases h2 : s == 19
  all_goals
    go_enter Tryd.func16, Tryd.ntmps16
    go_wp2
    go_ret
    exact ⟨rfl, rfl⟩

/-- Whose name it is. -/
theorem nm_only (x : List UInt8) (k : Nat) (h : ∀ j : Fin 32, (nm j == x) = ((j : Nat) == k)) (hk : 1 ≤ k) (hk' : k < 32) (s : Int) : ((nmB s.toNat).toList == x) = (s == k) := by
  have e : (nmB s.toNat).toList = nm s.toNat := by rw [nmB, Lib.toList_data]
  rw [e]
  by_cases hs : 1 ≤ s ∧ s ≤ 31
  · have := h ⟨s.toNat, by omega⟩
    rw [show nm s.toNat = nm (⟨s.toNat, by omega⟩ : Fin 32) from rfl, this, Bool.eq_iff_iff]
    simp; omega
  · rw [nm_out hs]
    have := h ⟨0, by omega⟩
    rw [show ([] : List UInt8) = nm (⟨0, by omega⟩ : Fin 32) from rfl, this]
    rw [Bool.eq_iff_iff]; simp; omega
set_option maxHeartbeats 400000 in
theorem rmild_any (s : Int) (w : World) :
    Calls Tryd.prog 15 #[.int .i64 s] w fun e w' => e = .returned (.bool (mildB s)) ∧ Below w.heap.size w w' := by
  have e1 : ((nmB s.toNat).toList == [67, 72, 76, 68]) = (s == 17) := nm_only [67, 72, 76, 68] 17 (by decide) (by omega) (by omega) s
  have e2 : ((nmB s.toNat).toList == [67, 79, 78, 84]) = (s == 18) := nm_only [67, 79, 78, 84] 18 (by decide) (by omega) (by omega) s
  have e3 : ((nmB s.toNat).toList == [85, 82, 71]) = (s == 23) := nm_only [85, 82, 71] 23 (by decide) (by omega) (by omega) s
  have e4 : ((nmB s.toNat).toList == [87, 73, 78, 67, 72]) = (s == 28) := nm_only [87, 73, 78, 67, 72] 28 (by decide) (by omega) (by omega) s
  unfold mildB
  cases h1 : s == 17 <;> cases h2 : s == 18 <;> cases h3 : s == 23 <;> cases h4 : s == 28
  all_goals
    rw [h1] at e1; rw [h2] at e2; rw [h3] at e3; rw [h4] at e4
    clear h1 h2 h3 h4
    go_enter Tryd.func15, Tryd.ntmps15
    go_wp2_with (go_at_call 13; refine (rname_any _ _).mono ?_; rintro e w1 ⟨rfl, hb1⟩)
    go_ret
    exact ⟨rfl, hb1⟩
set_option maxHeartbeats 400000 in
theorem rfixed_any (s : Int) (w : World) :
    Calls Tryd.prog 17 #[.int .i64 s] w fun e w' => e = .returned (.bool (fixedB s)) ∧ Below w.heap.size w w' := by
  have e1 : ((nmB s.toNat).toList == [75, 73, 76, 76]) = (s == 9) := nm_only [75, 73, 76, 76] 9 (by decide) (by omega) (by omega) s
  have e2 : ((nmB s.toNat).toList == [83, 84, 79, 80]) = (s == 19) := nm_only [83, 84, 79, 80] 19 (by decide) (by omega) (by omega) s
  unfold fixedB
  cases h1 : s == 9 <;> cases h2 : s == 19
  all_goals
    rw [h1] at e1; rw [h2] at e2
    clear h1 h2
    go_enter Tryd.func17, Tryd.ntmps17
    go_wp2_with fail
    refine (rname_any _ _).mono ?_
    rintro e w1 ⟨rfl, hb1⟩
    go_wp2_with (go_at_call 13; refine (rname_any _ _).mono ?_; rintro e w2 ⟨rfl, hb2⟩)
    go_ret
    first
    | exact ⟨rfl, hb1⟩
    | exact ⟨rfl, hb1.trans (hb2.mono hb1.size)⟩
end Sig
end Go.Proofs.YtpbphdlaccfndaaDoor
