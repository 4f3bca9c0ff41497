/- The row's builder, read and reset; what a field gets, and where it ends. -/
import Derived.Test.YtbhfdjmnnailnaaFdC
import Derived.Test.YtbhfdjmnnailnaaRegN
import Derived.Test.YtbhfdjmnnailnaaClsB
import Derived.Deep.AppendLies
namespace Go.Proofs.Ytbhfdjmnnailnaa
open Go.RowKit Cls
namespace Fld
theorem ret0 : Ending.returned (.tuple #[]) = Ending.returned (.tuple #[]) := rfl
/-- Bytes that are read out are frozen. -/
theorem ownF_froze {w : World} {B e g n cap : Nat} {xs : List Value} (h : w.ownsRowF B e 1 (.slice (some ⟨g, 0, none⟩) n cap) n xs) : (w.freeze ⟨g, 0, none⟩ n).ownsRowF B e 1 (.slice (some ⟨g, 0, none⟩) n cap) n xs := by
  unfold World.freeze
  split
  · exact h
  · refine ⟨h.1, ?_⟩
    rcases h.2 with ⟨hv, _⟩ | ⟨g', cap', cur, fz, hv, hbg, hg, hfz, rest⟩
    · cases hv
    · injection hv with ha _ hcap
      injection ha with ha
      injection ha with hgg _ _
      subst hgg
      subst hcap
      obtain ⟨lo, hi⟩ := fz
      refine .inr ⟨g, _, cur, (if lo == hi then (0, 0 + n) else (min lo 0, max hi (0 + n))), rfl, hbg, ?_, ?_, rest⟩
      · simp [Array.getElem?_modify, hg]
      · simp only at hfz
        split <;> simp <;> omega
theorem freeze_other (w : World) (g n k : Nat) (h : k ≠ g) : (w.freeze ⟨g, 0, none⟩ n).heap[k]? = w.heap[k]? := by
  unfold World.freeze
  split
  · rfl
  · simp only [Array.getElem?_modify]
    rw [if_neg (Ne.symm h)]
theorem Rw.froze {w : World} {B b : Nat} {s : S} {av pv : Value} {g cap : Nat} (h : Rw w B b s av pv (.slice (some ⟨g, 0, none⟩) s.t.length cap)) : Rw (w.freeze ⟨g, 0, none⟩ s.t.length) B b s av pv (.slice (some ⟨g, 0, none⟩) s.t.length cap) :=
  ⟨h.base, (freeze_other _ _ _ _ (fun e => h.neT (by rw [e]; rfl))).trans h.row, ownsRow_keep h.own fun k hk => freeze_other _ _ _ _ (fun e => h.neAT (g := g) rfl (by rw [hk, e])), ownF_froze h.buf⟩
set_option maxHeartbeats 1000000 in
set_option maxRecDepth 100000 in
theorem string_full (B b : Nat) (s : S) (av pv tv : Value) (w : World) (h : Rw w B b s av pv tv) (h0 : s.t ≠ []) :
    Calls Try.prog 19 #[.pointer (some ⟨b, 2, none⟩)] w fun e w' => e = .returned (.string (tx s.t)) ∧ Rw w' B b s av pv tv ∧ Below B w w' := by
  have hl0 : s.t.length ≠ 0 := by simpa using h0
  obtain ⟨g, cap, cur, fz, rfl, hbg, hg, hnc, hcm, hcs⟩ : ∃ g cap cur fz, tv = .slice (some ⟨g, 0, none⟩) s.t.length cap ∧ B ≤ g ∧ w.heap[g]? = some (.cells cur 5 fz) ∧ s.t.length ≤ cap ∧ cap ≤ maxLen ∧ cur.size = cap * 1 := by
    rcases h.buf.2 with ⟨_, hz⟩ | ⟨g, cap, cur, fz, hv, r1, r2, _, r3, r4, r5, _⟩
    · exact absurd hz hl0
    · exact ⟨g, cap, cur, fz, hv, r1, r2, r3, r4, r5⟩
  have c1 : w.drew.cell? ⟨b, 3, none⟩ = some (.slice (some ⟨g, 0, none⟩) s.t.length cap) := h.cell 3
  have hSD : (Builtin.unsafeSliceData_ #[37] 54 #[.slice (some ⟨g, 0, none⟩) s.t.length cap]).run Try.prog w.drew = .ok (.pointer (some ⟨g, 0, none⟩)) w.drew :=
    Lib.run_unsafeSliceData_row _ _ _ _ _ _ (by omega)
  have hUS : (Builtin.unsafeString_ #[54, 3] 9 #[.pointer (some ⟨g, 0, none⟩), .int .i64 s.t.length]).run Try.prog w.drew = .ok (.string (tx s.t)) (w.drew.freeze ⟨g, 0, none⟩ s.t.length) := by
    refine Lib.run_unsafeString_row w.drew 54 3 9 5 Try.underlying54 (by kernel_rfl) g cur.size (by have hg' : w.drew.heap[g]? = some (.cells cur 5 fz) := hg; simp [World.shape?, hg']) s.t h0 (by omega) (by unfold maxLen at hcm; omega) ?_
    intro j x hx
    have := h.buf.cells (g := g) rfl j (.int .u8 x.toNat) (by simp [Lib.byteCells, hx])
    exact this
  have hr : Rw (w.drew.freeze ⟨g, 0, none⟩ s.t.length) B b s av pv (.slice (some ⟨g, 0, none⟩) s.t.length cap) := h.drew.froze
  have HR := Lib.hid hr
  clear hr h
  go_enter Try.func19, Try.ntmps19
  go_wp2
  go_region
  all_goals (go_wp2; go_ret; exact ⟨rfl, HR.out, Lib.below_freeze (Below.drew (Below.refl B w)) (p := ⟨g, 0, none⟩) hbg _⟩)
theorem unsafe_none (W : World) (q : Option Addr) : (Builtin.unsafeString_ #[54, 3] 9 #[.pointer q, .int .i64 0]).run Try.prog W = .ok (.string .empty) W := Lib.run_unsafeString_none W _ _ _ q
set_option maxHeartbeats 2000000 in
set_option maxRecDepth 100000 in
theorem string_nil (b : Nat) (w : World) (c1 : w.drew.cell? ⟨b, 3, none⟩ = some (.slice none 0 0)) :
    Calls Try.prog 19 #[.pointer (some ⟨b, 2, none⟩)] w fun e w' => e = .returned (.string (tx [])) ∧ w' = w.drew := by
  have hUS := unsafe_none
  have hSD : (Builtin.unsafeSliceData_ #[37] 54 #[.slice none 0 0]).run Try.prog w.drew = .ok (.pointer none) w.drew := rfl
  go_enter Try.func19, Try.ntmps19
  go_wp2
  go_region
  all_goals (go_wp2; go_ret; exact ⟨rfl, rfl⟩)
set_option maxHeartbeats 2000000 in
set_option maxRecDepth 100000 in
theorem string_noroom (b g : Nat) (cur : Array Value) (fz : Nat × Nat) (w : World) (hlt : b < w.heap.size) (hg : w.heap[g]? = some (.cells cur 5 fz)) (c0 : w.cell? ⟨b, 3, none⟩ = some (.slice (some ⟨g, 0, none⟩) 0 0)) :
    Calls Try.prog 19 #[.pointer (some ⟨b, 2, none⟩)] w fun e w' => e = .returned (.string (tx [])) ∧ w' = (w.alloc (.view ⟨g, 0, none⟩ 5)).drew := by
  have hUS := unsafe_none
  have c1 : w.drew.cell? ⟨b, 3, none⟩ = some (.slice (some ⟨g, 0, none⟩) 0 0) := c0
  have hSD : (Builtin.unsafeSliceData_ #[37] 54 #[.slice (some ⟨g, 0, none⟩) 0 0]).run Try.prog w.drew = .ok (.pointer (some ⟨w.drew.heap.size, 0, none⟩)) (w.drew.alloc (.view ⟨g, 0, none⟩ 5)) :=
    Lib.run_unsafeSliceData_zero w.drew _ _ 5 Try.underlying54 ⟨g, 0, none⟩ 0 (5, cur.size) (by have hg' : w.drew.heap[g]? = some (.cells cur 5 fz) := hg; simp [World.shape?, hg'])
  have c2 : (w.drew.alloc (.view ⟨g, 0, none⟩ 5)).cell? ⟨b, 3, none⟩ = some (.slice (some ⟨g, 0, none⟩) 0 0) := (World.cell?_of_block (a := ⟨b, 3, none⟩) (Lib.alloc_old w.drew _ b hlt)).trans c1
  have c3 : (w.alloc (.view ⟨g, 0, none⟩ 5)).drew.cell? ⟨b, 3, none⟩ = some (.slice (some ⟨g, 0, none⟩) 0 0) := c2
  go_enter Try.func19, Try.ntmps19
  go_wp2
  go_region
  all_goals (go_wp2; go_ret; exact ⟨rfl, rfl⟩)
set_option maxHeartbeats 2000000 in
set_option maxRecDepth 100000 in
theorem string_room (b g cap : Nat) (w : World) (hc0 : cap ≠ 0) (c1 : w.drew.cell? ⟨b, 3, none⟩ = some (.slice (some ⟨g, 0, none⟩) 0 cap)) :
    Calls Try.prog 19 #[.pointer (some ⟨b, 2, none⟩)] w fun e w' => e = .returned (.string (tx [])) ∧ w' = w.drew := by
  have hUS := unsafe_none
  have hSD : (Builtin.unsafeSliceData_ #[37] 54 #[.slice (some ⟨g, 0, none⟩) 0 cap]).run Try.prog w.drew = .ok (.pointer (some ⟨g, 0, none⟩)) w.drew :=
    Lib.run_unsafeSliceData_row _ _ _ _ _ _ hc0
  clear hc0
  go_enter Try.func19, Try.ntmps19
  go_wp2
  go_region
  all_goals (go_wp2; go_ret; exact ⟨rfl, rfl⟩)
/-- The bytes of the one that has begun. -/
theorem string_any (B b : Nat) (s : S) (av pv tv : Value) (w : World) (hr : Rw w B b s av pv tv) :
    Calls Try.prog 19 #[.pointer (some ⟨b, 2, none⟩)] w fun e w' => e = .returned (.string (tx s.t)) ∧ Rw w' B b s av pv tv ∧ Below B w w' := by
  by_cases h0 : s.t = []
  · have hBw : B ≤ w.heap.size := by have := hr.base; have := hr.lt; omega
    rw [h0]
    rcases hr.buf.2 with ⟨rfl, _⟩ | ⟨g, cap, cur, fz, rfl, hbg, hg, _, _, _, _, _⟩
    · refine (string_nil b w (hr.cell 3)).mono ?_
      rintro e w' ⟨rfl, rfl⟩
      exact ⟨rfl, hr.drew, Below.drew (Below.refl B w)⟩
    · have hl : s.t.length = 0 := by rw [h0]; rfl
      by_cases hc0 : cap = 0
      · subst hc0
        refine (string_noroom b g cur fz w hr.lt hg (by have := hr.cell 3; rw [hl] at this; exact this)).mono ?_
        rintro e w' ⟨rfl, rfl⟩
        exact ⟨rfl, (hr.below (below_alloc _ _)).drew, Below.drew ((Below.refl B w).alloc hBw _)⟩
      · refine (string_room b g cap w hc0 (by have := hr.cell 3; rw [hl] at this; exact this)).mono ?_
        rintro e w' ⟨rfl, rfl⟩
        exact ⟨rfl, hr.drew, Below.drew (Below.refl B w)⟩
  · exact string_full B b s av pv tv w hr h0
set_option maxHeartbeats 1000000 in
theorem reset_any (B b : Nat) (s : S) (w : World) (h : Row w B b s) :
    Calls Try.prog 27 #[.pointer (some ⟨b, 2, none⟩)] w fun e w' => e = .returned (.tuple #[]) ∧ Row w' B b { s with t := [] } ∧ Below B w w' := by
  obtain ⟨av, pv, tv, hp, hr⟩ := h
  have c0 : w.cell? ⟨b, 2, none⟩ = some pv := hr.cell 2
  have c1 : w.cell? ⟨b, 3, none⟩ = some tv := hr.cell 3
  have f0 := hr.frozen 2
  have f1 := hr.frozen 3
  have h1 := hr.used (.pointer none)
  have h2 := h1.empty
  have hb := bset h1 (bset hr (Below.refl B w) 2 (.pointer none)) 3 (.slice none 0 0)
  have HR := Lib.hid (show Row ((w.setCell ⟨b, 2, none⟩ (.pointer none)).setCell ⟨b, 3, none⟩ (.slice none 0 0)) B b { s with t := [] } from ⟨_, _, _, .inl rfl, h2⟩)
  have HB := Lib.hid hb
  clear h1 h2 hb hr hp
  go_enter Try.func27, Try.ntmps27
  go_wp2_with fail
  go_end0
  exact ⟨rfl, HR.out, HB.out⟩
/-- How much there may be. -/
def Fits (s : S) : Prop := nS s ≤ 1000000
set_option maxHeartbeats 1000000 in
theorem grow_any (B b : Nat) (s : S) (x : ByteArray) (w : World) (h : Row w B b s) (hf : Fits s) (hx : x.size ≤ 1000000) :
    Calls Try.prog 21 #[.pointer (some ⟨b, 0, none⟩), .string x] w fun e w' => e = .returned (.tuple #[]) ∧ Row w' B b (growS s (bs x)) ∧ Below B w w' := by
  have hlen : s.t.length + x.size ≤ 140737488355328 := by unfold Fits nS at hf; omega
  obtain ⟨av, pv, tv, hp, hr⟩ := h
  have c0 : w.cell? ⟨b, 1, none⟩ = some (.bool s.g) := hr.cell 1
  have f0 := hr.frozen 1
  have hr1 : Row (w.setCell ⟨b, 1, none⟩ (.bool true)) B b { s with g := true } := ⟨_, _, _, hp, hr.begun true⟩
  have HR := Lib.hid hr1
  have HB := Lib.hid (bset hr (Below.refl B w) 1 (.bool true))
  clear hr1 hr hp hf
  go_enter Try.func21, Try.ntmps21
  go_wp2_with fail
  refine (writeString_any B b _ x _ HR.out hlen).mono ?_
  rintro e w1 ⟨rfl, h1, hb1⟩
  have H1 := Lib.hid h1
  have HB1 := Lib.hid (HB.out.trans hb1)
  clear h1 hb1
  go_wp2_with fail
  go_end0
  exact ⟨rfl, H1.out, HB1.out⟩
end Fld
end Go.Proofs.Ytbhfdjmnnailnaa
