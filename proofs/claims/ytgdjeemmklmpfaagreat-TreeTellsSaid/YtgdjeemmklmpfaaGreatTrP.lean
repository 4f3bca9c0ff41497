/- rightAt, Right, Program: for all nodes. -/
/- treeAlive, Program. -/
import Derived.Test.YtgdjeemmklmpfaaGreatTrN
namespace Go.Proofs.YtgdjeemmklmpfaaGreat
open Go.RowKit Go.Sort
namespace Tr
open Cls Pt

theorem right_step (n : Nat) (hR : RightAt n) : RightAt (n + 1) := by
  intro k nm g az ws ks bs cz x1 d1 x2 d2 x3 d3 x4 d4 x5 d5 d m w hsz hd h hok hfk hfc hm
  have hks : ks.size ≤ n := by omega
  have hcs : cz.size ≤ n := by omega
  cases hc : countsB k
  · cases ho : ownB k nm g az ws ks bs cz
    · exact right_own_false n hR k nm g az ws ks bs cz x1 d1 x2 d2 x3 d3 x4 d4 x5 d5 d m w hks hcs hd h hok hfk hfc hm hc (.inr hc) ho
    · have hlo : ∀ j : Int, 6 ≤ j → j ≤ 13 → (k == j) = false := by
        intro j h1 h2
        rw [beq_eq_false_iff_ne]
        rintro rfl
        simp [countsB, h1, h2] at hc
      by_cases e1 : k = 1
      · subst e1
        exact right_1 n hR nm g az ws ks bs cz x1 d1 x2 d2 x3 d3 x4 d4 x5 d5 d m w hks hcs hd h hok hfk hfc hm ho
      have g1 : (k == 1) = false := by rw [beq_eq_false_iff_ne]; exact e1
      by_cases e2 : k = 2
      · subst e2
        exact right_2 n hR nm g az ws ks bs cz x1 d1 x2 d2 x3 d3 x4 d4 x5 d5 d m w hks hcs hd h hok hfk hfc hm ho
      have g2 : (k == 2) = false := by rw [beq_eq_false_iff_ne]; exact e2
      by_cases e3 : k = 3
      · subst e3
        exact right_3 n hR nm g az ws ks bs cz x1 d1 x2 d2 x3 d3 x4 d4 x5 d5 d m w hks hcs hd h hok hfk hfc hm ho
      have g3 : (k == 3) = false := by rw [beq_eq_false_iff_ne]; exact e3
      by_cases e4 : k = 4
      · subst e4
        exact right_4 n hR nm g az ws ks bs cz x1 d1 x2 d2 x3 d3 x4 d4 x5 d5 d m w hks hcs hd h hok hfk hfc hm ho
      have g4 : (k == 4) = false := by rw [beq_eq_false_iff_ne]; exact e4
      by_cases e5 : k = 5
      · subst e5
        exact right_5 n hR nm g az ws ks bs cz x1 d1 x2 d2 x3 d3 x4 d4 x5 d5 d m w hks hcs hd h hok hfk hfc hm ho
      have g5 : (k == 5) = false := by rw [beq_eq_false_iff_ne]; exact e5
      exact right_no n hR k nm g az ws ks bs cz x1 d1 x2 d2 x3 d3 x4 d4 x5 d5 d m w hks hcs hd h hok hfk hfc hm hc g1 g2 g3 g4 g5 (hlo 6 (by decide) (by decide)) (hlo 7 (by decide) (by decide)) (hlo 8 (by decide) (by decide)) (hlo 9 (by decide) (by decide)) (hlo 10 (by decide) (by decide)) (hlo 11 (by decide) (by decide)) (hlo 12 (by decide) (by decide)) (hlo 13 (by decide) (by decide)) ho
  · by_cases h2 : 200 < d
    · exact right_deep n hR k nm g az ws ks bs cz x1 d1 x2 d2 x3 d3 x4 d4 x5 d5 d m w hks hcs hd h hok hfk hfc hm hc h2
    · have hd2 : d ≤ 200 := by omega
      cases ho : ownB k nm g az ws ks bs cz
      · exact right_own_true n hR k nm g az ws ks bs cz x1 d1 x2 d2 x3 d3 x4 d4 x5 d5 d m w hks hcs hd h hok hfk hfc hm hc (.inl hd2) ho
      · have hk : 6 ≤ k ∧ k ≤ 13 := by simpa [countsB] using hc
        have hkk : k = 6 ∨ k = 7 ∨ k = 8 ∨ k = 9 ∨ k = 10 ∨ k = 11 ∨ k = 12 ∨ k = 13 := by omega
        rcases hkk with rfl | rfl | rfl | rfl | rfl | rfl | rfl | rfl
        · exact right_6 n hR nm g az ws ks bs cz x1 d1 x2 d2 x3 d3 x4 d4 x5 d5 d m w hks hcs hd h hok hfk hfc hm hd2 ho
        · exact right_7 n hR nm g az ws ks bs cz x1 d1 x2 d2 x3 d3 x4 d4 x5 d5 d m w hks hcs hd h hok hfk hfc hm hd2 ho
        · exact right_8 n hR nm g az ws ks bs cz x1 d1 x2 d2 x3 d3 x4 d4 x5 d5 d m w hks hcs hd h hok hfk hfc hm hd2 ho
        · exact right_9 n hR nm g az ws ks bs cz x1 d1 x2 d2 x3 d3 x4 d4 x5 d5 d m w hks hcs hd h hok hfk hfc hm hd2 ho
        · exact right_10 n hR nm g az ws ks bs cz x1 d1 x2 d2 x3 d3 x4 d4 x5 d5 d m w hks hcs hd h hok hfk hfc hm hd2 ho
        · exact right_11 n hR nm g az ws ks bs cz x1 d1 x2 d2 x3 d3 x4 d4 x5 d5 d m w hks hcs hd h hok hfk hfc hm hd2 ho
        · exact right_12 n hR nm g az ws ks bs cz x1 d1 x2 d2 x3 d3 x4 d4 x5 d5 d m w hks hcs hd h hok hfk hfc hm hd2 ho
        · exact right_13 n hR nm g az ws ks bs cz x1 d1 x2 d2 x3 d3 x4 d4 x5 d5 d m w hks hcs hd h hok hfk hfc hm hd2 ho
theorem right_at : ∀ n, RightAt n
  | 0 => fun _ _ _ _ _ _ _ _ _ _ _ _ _ _ _ _ _ _ _ _ _ h => absurd h (Nat.not_lt_zero _)
  | n + 1 => right_step n (right_at n)

set_option maxHeartbeats 800000 in
set_option maxRecDepth 100000 in
theorem right_top (k : Int) (nm : ByteArray) (g : Bool) (az : List (ByteArray × PL)) (ws : List PL) (ks : NL) (bs : List Bool) (cz : NL) (x1 : Option Addr) (d1 : Nat) (x2 : Option Addr) (d2 : Nat) (x3 : Option Addr) (d3 : Nat) (x4 : Option Addr) (d4 : Nat) (x5 : Option Addr) (d5 : Nat) (m : Int) (w : World) (h : Holds w nm az ws ks bs cz x1 d1 x2 d2 x3 d3 x4 d4 x5 d5) (hok : ∀ l ∈ ws, wOK l) (hfk : fitN ks) (hfc : fitN cz) (hm : w.cell? ⟨0, 0, none⟩ = some (.int .i64 m)) :
    Calls Tryz.prog 9 #[.agg (nodeV k nm g x1 az.length d1 x2 ws.length d2 x3 ks.len d3 x4 bs.length d4 x5 cz.len d5)] w fun e w' => e = .returned (.bool (nodeR k nm g az ws ks bs cz 1)) ∧ Below w.heap.size w w' := by
  have hR := right_at (ks.size + cz.size + 1) k nm g az ws ks bs cz x1 d1 x2 d2 x3 d3 x4 d4 x5 d5 1 m (w.alloc (.cells #[.int .i64 k, .string nm, .bool g, .slice x1 az.length d1, .slice x2 ws.length d2, .slice x3 ks.len d3, .slice x4 bs.length d4, .slice x5 cz.len d5] 28)) (Nat.lt_succ_self _) (by omega) (h.below (bel1 _ _)) hok hfk hfc (cell_below (bel1 _ _) hm)
  unfold nodeV at hR ⊢
  have HR := Lib.hid hR
  clear hR h hok hfk hfc hm
  go_enter Tryz.func9, Tryz.ntmps9
  go_wp2_with (go_at_call 21; refine (HR.out).mono ?_; rintro e w1 ⟨rfl, hb⟩)
  go_ret
  exact ⟨rfl, thru (bel1 _ _) (by assumption)⟩
end Tr
end Go.Proofs.YtgdjeemmklmpfaaGreat

namespace Go.Proofs.YtgdjeemmklmpfaaGreat
open Go.RowKit Go.Sort
namespace Tr
open Cls Pt

def wIf : PL := .cons 1 false ⟨#[105, 102]⟩ ⟨#[]⟩ .nil .nil
theorem alive_no : nodeR 1 ⟨#[]⟩ false [] [wIf] .nil [] .nil 1 = false := by kernel_rfl
theorem alive_yes : nodeR 1 ⟨#[]⟩ false [(⟨#[120]⟩, .nil)] [wIf] .nil [] .nil 1 = true := by kernel_rfl
theorem wIf_ok : ∀ l ∈ [wIf], wOK l := by
  intro l hl
  rw [List.mem_singleton] at hl
  subst hl
  refine ⟨by decide, fun k q t o f r h => ?_⟩
  cases h
  decide

set_option maxHeartbeats 1600000 in
set_option maxRecDepth 100000 in
theorem treeAlive_any (m : Int) (w : World) (hm : w.cell? ⟨0, 0, none⟩ = some (.int .i64 m)) :
    Calls Tryz.prog 6 #[] w fun e w' => e = .returned (.bool true) ∧ Below w.heap.size w w' := by
  have hb0 := bel2 w (.cells #[.int .i64 1, .bool false, .string ⟨#[105, 102]⟩, .string ⟨#[]⟩, .slice none 0 0] 45) (.cells #[.slice (some ⟨w.heap.size, 0, none⟩) 1 1] 40)
  have r1 : ((w.alloc (.cells #[.int .i64 1, .bool false, .string ⟨#[105, 102]⟩, .string ⟨#[]⟩, .slice none 0 0] 45)).alloc (.cells #[.slice (some ⟨w.heap.size, 0, none⟩) 1 1] 40)).heap[w.heap.size]? = some (.cells #[.int .i64 1, .bool false, .string ⟨#[105, 102]⟩, .string ⟨#[]⟩, .slice none 0 0] 45 (0, 0)) := (Below.heap_alloc _ _ _ (by simp only [World.size_alloc]; omega)).trans (heap_new' _ _)
  have r2 : ((w.alloc (.cells #[.int .i64 1, .bool false, .string ⟨#[105, 102]⟩, .string ⟨#[]⟩, .slice none 0 0] 45)).alloc (.cells #[.slice (some ⟨w.heap.size, 0, none⟩) 1 1] 40)).heap[w.heap.size + 1]? = some (.cells #[.slice (some ⟨w.heap.size, 0, none⟩) 1 1] 40 (0, 0)) := by
    have h := heap_new' (w.alloc (.cells #[.int .i64 1, .bool false, .string ⟨#[105, 102]⟩, .string ⟨#[]⟩, .slice none 0 0] 45)) (.cells #[.slice (some ⟨w.heap.size, 0, none⟩) 1 1] 40)
    simp only [World.size_alloc] at h
    exact h
  generalize hW : (w.alloc (.cells #[.int .i64 1, .bool false, .string ⟨#[105, 102]⟩, .string ⟨#[]⟩, .slice none 0 0] 45)).alloc (.cells #[.slice (some ⟨w.heap.size, 0, none⟩) 1 1] 40) = W at hb0 r1 r2
  have hlie : Lies W (some ⟨w.heap.size, 0, none⟩) 1 wIf := ⟨Nat.le_refl _, by decide, .inr ⟨_, _, rfl, ⟨Lib.cell_of_heap r1 0, Lib.cell_of_heap r1 1, Lib.cell_of_heap r1 2, Lib.cell_of_heap r1 3, by decide, by decide⟩, ⟨none, 0, Lib.cell_of_heap r1 4, Nat.le_refl _, Nat.zero_le _, .inl rfl⟩, trivial⟩⟩
  have hws : Sl 1 (PW W) (some ⟨w.heap.size + 1, 0, none⟩) 1 [wIf] := ⟨Nat.le_refl _, by decide, .inr ⟨_, _, rfl, ⟨_, _, Lib.cell_of_heap r2 0, hlie⟩, trivial⟩⟩
  have h1 : Holds W ⟨#[]⟩ [] [wIf] .nil [] .nil none 0 (some ⟨w.heap.size + 1, 0, none⟩) 1 none 0 none 0 none 0 := ⟨by decide, sl_nil _ _, hws, nl_nil _, sl_nil _ _, nl_nil _, rfl, rfl⟩
  have hR1 := right_top 1 ⟨#[]⟩ false [] [wIf] .nil [] .nil none 0 (some ⟨w.heap.size + 1, 0, none⟩) 1 none 0 none 0 none 0 m W h1 wIf_ok trivial trivial (cell_below hb0 hm)
  rw [alive_no] at hR1
  have hR2 := fun w' (hb : Below W.heap.size W w') => right_top 1 ⟨#[]⟩ false [(⟨#[120]⟩, .nil)] [wIf] .nil [] .nil (some ⟨w'.heap.size, 0, none⟩) 1 (some ⟨w.heap.size + 1, 0, none⟩) 1 none 0 none 0 none 0 m (w'.alloc (.cells #[.string ⟨#[120]⟩, .slice none 0 0] 47))
    ⟨by decide, ⟨Nat.le_refl _, (by decide : 1 ≤ R), .inr ⟨_, _, rfl, ⟨Lib.cell_of_heap (heap_new' _ _) 0, by decide, none, 0, Lib.cell_of_heap (heap_new' _ _) 1, Nat.le_refl _, Nat.zero_le _, .inl rfl⟩, trivial⟩⟩, sl_below (P := PW) (fun h => h.below (thru hb (bel1 w' _))) hws, nl_nil _, sl_nil _ _, nl_nil _, rfl, rfl⟩ wIf_ok trivial trivial (cell_below (thru hb0 (thru hb (bel1 w' _))) hm)
  rw [alive_yes] at hR2
  unfold nodeV at hR1 hR2
  simp only [List.length_nil, List.length_singleton, NL.len] at hR1 hR2
  subst hW
  have HR1 := Lib.hid hR1; have HR2 := Lib.hid hR2; have HB0 := Lib.hid hb0
  clear hR1 hR2 hb0 r1 r2 hlie hws h1 hm
  go_enter Tryz.func6, Tryz.ntmps6
  go_wp2_with fail
  refine (HR1.out).mono ?_
  rintro e w1 ⟨rfl, hb1⟩
  have HB1 := Lib.hid hb1
  clear hb1
  go_wp2_with fail
  refine (HR2.out _ HB1.out).mono ?_
  rintro e w2 ⟨rfl, hb2⟩
  have HB2 := Lib.hid hb2
  clear hb2
  go_wp2_with fail
  go_ret
  exact ⟨rfl, thru HB0.out (thru HB1.out (thru (bel1 _ _) HB2.out))⟩
end Tr
end Go.Proofs.YtgdjeemmklmpfaaGreat
