/- Names; Args, Status, Last. -/
/- Args, Status, Last, Shift, Clone. -/
import Derived.Test.YtoneabcbeikkhaaGreatDoorVrE
import Derived.Test.YtoneabcbeikkhaaGreatDoorIter
import Derived.Test.YtoneabcbeikkhaaGreatDoorReg
namespace Go.Proofs.YtoneabcbeikkhaaGreatDoor
open Go.RowKit Go.Maps Go.Sort Go.Shelf Cls
namespace Vr

theorem sorts (m : Nat) : AnyZ.SortsIn Tryz.prog Tryz.sorted60_ren Fence.wide m :=
  ⟨fun blk off cap ss W hH hblk hsz => callsIn_wide.2 (AnyM.slices_Sort_string Tryz.sort84 blk off cap ss W hH hblk hsz),
   fun p cap W => callsIn_wide.2 (AnyM.slices_Sort_string_none Tryz.sort84 p cap W)⟩
theorem keys_any (mb : Option Nat) (W : World) : CallsIn Fence.wide 5 Tryz.prog 61 #[.map mb] W fun e w' => e = .returned (.func (.func 85) #[] #[.pointer (some ⟨W.heap.size, 0, none⟩)]) ∧ w' = W.alloc (.cells #[.map mb] 56) :=
  AnyZ.keys_in Tryz.keys61 Fence.wide 5 trivial rfl mb W
set_option maxHeartbeats 1000000 in
theorem sorted_any (b nn : Nat) (D0 : DataW Nat) (R : Value → Option (DataW Nat × List MemPlace)) (w : World) (hown : w.ownsMap Tryz.prog 9 R b nn D0) (hmax : Maps.size D0 ≤ maxLen) (hbytes : Maps.size D0 * 16 ≤ 140737488355328) :
    CallsIn Fence.wide 5 Tryz.prog 60 #[.func (.func 85) #[] #[.pointer (some ⟨w.heap.size, 0, none⟩)]] (w.alloc (.cells #[.map (some b)] 56)) fun e w' => ∃ (v : Value) (ss : List (List UInt8)), e = .returned v ∧ ss.Perm (strKeys D0) ∧
      w'.ownsRow (w.alloc (.cells #[.map (some b)] 56)).heap.size 9 1 v ss.length ((ss.mergeSort (fun x y => decide (x ≤ y))).map encStr) ∧ (v = .slice none 0 0 ↔ ss = []) ∧ Below (w.alloc (.cells #[.map (some b)] 56)).heap.size (w.alloc (.cells #[.map (some b)] 56)) w' := by
  have hbl := hown.lt
  have hseq : SeqGives Fence.wide 2 Tryz.prog 85 #[.pointer (some ⟨w.heap.size, 0, none⟩)] encStr (fun ss => ss.Perm (strKeys D0)) (Maps.size D0) (w.alloc (.cells #[.map (some b)] 56)) :=
    AnyZ.keys_gives (ρ := Tryz.keys61_ren) { Tryz.keys61 with } Fence.wide _ trivial rfl (by omega) w.heap.size b nn D0 _ (by simp) (by simp) (by
      obtain ⟨es, clock, hb, Ft, hs, hD⟩ := hown
      exact ⟨es, clock, (Below.heap_alloc _ _ b hbl).trans hb, Ft, hs, hD⟩)
  exact AnyZ.sorted_in Tryz.sorted60 Fence.wide 5 trivial trivial trivial trivial rfl (by omega) (sorts _) (enters_of Tryz.func84 (by kernel_rfl) rfl) 85 #[.pointer (some ⟨w.heap.size, 0, none⟩)] trivial (enters_of Tryz.func85 (by kernel_rfl) rfl) _ _ hmax hbytes _ hseq
set_option maxHeartbeats 1000000 in
theorem sorted_nil (w : World) :
    CallsIn Fence.wide 5 Tryz.prog 60 #[.func (.func 85) #[] #[.pointer (some ⟨w.heap.size, 0, none⟩)]] (w.alloc (.cells #[.map none] 56)) fun e w' => ∃ (v : Value) (ss : List (List UInt8)), e = .returned v ∧ ss = [] ∧
      w'.ownsRow (w.alloc (.cells #[.map none] 56)).heap.size 9 1 v ss.length ((ss.mergeSort (fun x y => decide (x ≤ y))).map encStr) ∧ (v = .slice none 0 0 ↔ ss = []) ∧ Below (w.alloc (.cells #[.map none] 56)).heap.size (w.alloc (.cells #[.map none] 56)) w' := by
  have hseq : SeqGives Fence.wide 2 Tryz.prog 85 #[.pointer (some ⟨w.heap.size, 0, none⟩)] encStr (fun ss : List (List UInt8) => ss = []) 0 (w.alloc (.cells #[.map none] 56)) :=
    AnyZ.keys_gives_nil (ρ := Tryz.keys61_ren) { Tryz.keys61 with } Fence.wide _ trivial rfl w.heap.size _ (by simp) (by simp)
  exact AnyZ.sorted_in Tryz.sorted60 Fence.wide 5 trivial trivial trivial trivial rfl (by omega) (sorts _) (enters_of Tryz.func84 (by kernel_rfl) rfl) 85 #[.pointer (some ⟨w.heap.size, 0, none⟩)] trivial (enters_of Tryz.func85 (by kernel_rfl) rfl) _ 0 (Nat.zero_le _) (by omega) _ hseq

theorem enc_bs (x : ByteArray) : encStr (bs x) = .string x := by simp [encStr, bs]
set_option maxHeartbeats 1000000 in
/-- Names: the names, rising, in new memory. -/
theorem names_any (s : St) (B q : Nat) (w : World) (mv av : Value) (hsc : Sc w B q s mv av) (hr : Srt s.vs) (hl : s.vs.length ≤ 1000000) :
    Calls Tryz.prog 32 #[.pointer (some ⟨q, 0, none⟩)] w fun e w' => ∃ a n c, e = .returned (.slice a n c) ∧ RowAt w' w.heap.size (.slice a n c) (s.vs.map (·.1)) ∧ Below w.heap.size w w' := by
  have c0 : w.cell? ⟨q, 0, none⟩ = some mv := cell_of_row _ _ _ _ _ _ hsc.cells
  have hvars := hsc.vars
  have key : ∀ (v : Value) (ss : List (List UInt8)) (w1 w' : World), w.heap.size ≤ w1.heap.size → ss.mergeSort (fun x y => decide (x ≤ y)) = s.vs.map (fun p => bs p.1) → w'.ownsRow w1.heap.size 9 1 v ss.length ((ss.mergeSort (fun x y => decide (x ≤ y))).map encStr) →
      ∃ a n c, v = .slice a n c ∧ RowAt w' w.heap.size (.slice a n c) (s.vs.map (·.1)) := by
    intro v ss w1 w' hw he hrow
    have hlen : ss.length = (s.vs.map (·.1)).length := by
      have := congrArg List.length he; simpa using this
    rw [he, hlen, List.map_map] at hrow
    have e2 : s.vs.map (encStr ∘ fun p => bs p.1) = (s.vs.map (·.1)).map Value.string := by
      rw [List.map_map]; apply List.map_congr_left; intro p _; exact enc_bs p.1
    rw [e2] at hrow
    have h1 := RowAt.ofOwn (ownsRow_base_a hrow hw)
    obtain ⟨a, n, c, rfl⟩ := h1.shape
    exact ⟨a, n, c, rfl, h1⟩
  clear hsc
  refine (callsIn_wide (n := 6)).1 ?_
  have hfK : Fence.wide.fn 61 := trivial
  have hfS : Fence.wide.fn 60 := trivial
  rcases hvars with ⟨rfl, hnil⟩ | ⟨b, rfl, hb, hown⟩
  · refine callsIn_of_wp Tryz.func32 rfl trivial ?_ rfl
    simp only [Tryz.ntmps32, List.size_toArray, List.length_cons, List.length_nil, Nat.reduceAdd, Nat.reduceSub, Array.replicate_succ, Array.replicate_zero, List.push_toArray, List.append_toArray, List.nil_append, List.cons_append]
    gi_wp2_with (first
      | (gi_at_call 61; refine (keys_any _ _).mono ?_; rintro e w' ⟨rfl, rfl⟩)
      | (gi_at_call 60; refine (sorted_nil w).mono ?_; rintro e w' ⟨v, ss, rfl, rfl, hrow, _, hb⟩))
    go_ret
    obtain ⟨a, n, c, rfl, h1⟩ := key v [] _ w' (by simp) (by rw [hnil]; simp) hrow
    exact ⟨a, n, c, rfl, h1, ((Below.refl _ w).alloc (Nat.le_refl _) _).trans (hb.mono (by simp))⟩
  · refine callsIn_of_wp Tryz.func32 rfl trivial ?_ rfl
    have hsz := size_D (H := Nat) s.vs
    simp only [Tryz.ntmps32, List.size_toArray, List.length_cons, List.length_nil, Nat.reduceAdd, Nat.reduceSub, Array.replicate_succ, Array.replicate_zero, List.push_toArray, List.append_toArray, List.nil_append, List.cons_append]
    gi_wp2_with (first
      | (gi_at_call 61; refine (keys_any _ _).mono ?_; rintro e w' ⟨rfl, rfl⟩)
      | (gi_at_call 60; refine (sorted_any b _ _ _ w hown (by rw [hsz]; unfold maxLen; omega) (by rw [hsz]; omega)).mono ?_; rintro e w' ⟨v, ss, rfl, hS, hrow, _, hb⟩))
    go_ret
    obtain ⟨a, n, c, rfl, h1⟩ := key v ss _ w' (by simp) (sorted_D s.vs hr hS) hrow
    exact ⟨a, n, c, rfl, h1, ((Below.refl _ w).alloc (Nat.le_refl _) _).trans (hb.mono (by simp))⟩
end Vr
end Go.Proofs.YtoneabcbeikkhaaGreatDoor

namespace Go.Proofs.YtoneabcbeikkhaaGreatDoor
open Go.RowKit Go.Maps Cls
namespace Vr

set_option maxHeartbeats 1000000 in
theorem args_any (s : St) (B q : Nat) (w : World) (mv av : Value) (hsc : Sc w B q s mv av) (hl : s.args.length ≤ 1000000) :
    Calls Tryz.prog 33 #[.pointer (some ⟨q, 0, none⟩)] w fun e w' => ∃ a n c, e = .returned (.slice a n c) ∧ RowAt w' w.heap.size (.slice a n c) s.args ∧ Below w.heap.size w w' := by
  have c1 : w.cell? ⟨q, 1, none⟩ = some av := cell_of_row _ _ _ _ _ _ hsc.cells
  have hcl := clone_any hsc.args.txt hl
  obtain ⟨a0, n0, k0, rfl⟩ := hsc.args.shape
  clear hsc
  go_enter Tryz.func33, Tryz.ntmps33
  go_wp2_with (go_at_call 37; refine hcl.mono ?_; rintro e w1 ⟨a1, n1, c1, rfl, hr, hb⟩)
  go_ret
  exact ⟨a1, n1, c1, rfl, hr, hb⟩
set_option maxHeartbeats 1000000 in
theorem status_any (s : St) (B q : Nat) (w : World) (mv av : Value) (hsc : Sc w B q s mv av) :
    Calls Tryz.prog 34 #[.pointer (some ⟨q, 0, none⟩)] w fun e w' => e = .returned (.int .i64 s.st) ∧ w' = w := by
  have c1 : w.cell? ⟨q, 2, none⟩ = some (.int .i64 s.st) := cell_of_row _ _ _ _ _ _ hsc.cells
  clear hsc
  go_enter Tryz.func34, Tryz.ntmps34
  go_wp2_with fail
  go_ret
  exact ⟨rfl, rfl⟩
set_option maxHeartbeats 1000000 in
theorem last_any (s : St) (B q : Nat) (w : World) (mv av : Value) (hsc : Sc w B q s mv av) :
    Calls Tryz.prog 35 #[.pointer (some ⟨q, 0, none⟩)] w fun e w' => e = .returned (.int .i64 s.la) ∧ w' = w := by
  have c1 : w.cell? ⟨q, 3, none⟩ = some (.int .i64 s.la) := cell_of_row _ _ _ _ _ _ hsc.cells
  clear hsc
  go_enter Tryz.func35, Tryz.ntmps35
  go_wp2_with fail
  go_ret
  exact ⟨rfl, rfl⟩
end Vr
end Go.Proofs.YtoneabcbeikkhaaGreatDoor
