/- The reference's loop, wall, loops, Loops, Saved. -/
import Derived.Test.YtbcldfaphnnmlaaFrA
import Derived.Maps.AppendAt
namespace Go.Proofs.Ytbcldfaphnnmlaa
open Go.RowKit Go.Sort
namespace Fra
open Cls Pt Tr
set_option maxHeartbeats 400000 in
theorem rloop_any (k : Int) (w : World) : Calls Try.prog 43 #[.int .i64 k] w fun e w' => e = .returned (.bool (loopB k)) ∧ w = w' := by
  go_enter Try.func43, Try.ntmps43
  go_wp2_with fail
  all_goals (go_ret; exact ⟨ret_bool (by first | rfl | (simp only [loopB, *]; done) | (simp only [loopB, *]; rfl)), rfl⟩)
set_option maxHeartbeats 400000 in
theorem rwall_any (k : Int) (w : World) : Calls Try.prog 31 #[.int .i64 k] w fun e w' => e = .returned (.bool (wallB k)) ∧ w = w' := by
  go_enter Try.func31, Try.ntmps31
  go_wp2_with fail
  all_goals (go_ret; exact ⟨ret_bool (by first | rfl | (simp only [wallB, *]; done) | (simp only [wallB, *]; rfl)), rfl⟩)
theorem infoInt : (Try.prog.info? 3).map (fun i => (i.zero, i.size, i.bytes)) = some (some (.int .i64 0), 1, 8) := by kernel_rfl
def nI (l : List Nat) : List Value := l.map fun n : Nat => Value.int .i64 (n : Int)
theorem nI_snoc (l : List Nat) (n : Nat) : nI (l ++ [n]) = nI l ++ [.int .i64 n] := by unfold nI; rw [List.map_append]; rfl
set_option maxHeartbeats 1600000 in
theorem rloops_any {w : World} {v : Value} {l : List IV} (hL : LAt w v l) (hn : l.length ≤ 100000) :
    Calls Try.prog 28 #[v] w fun e w' => ∃ u, e = .returned u ∧ w'.ownsRow w.heap.size 3 1 u (lps l l.length).length (nI (lps l l.length)) ∧ Below w.heap.size w w' := by
  obtain ⟨i0, hi, hz0, hz1, hz2⟩ := info_parts infoInt
  obtain ⟨a, cap, rfl, _, hc⟩ := hL
  have HC := Lib.hid hc
  clear hc
  go_enter Try.func28, Try.ntmps28
  go_wp2_with fail
  have ho0 := World.ownsRow_made (base := w.heap.size) (e := 3) (size := 1) w #[] 0 (Nat.le_refl _) (Nat.zero_le _) (by simp)
  have HO0 := Lib.hid ho0; have HB0 := Lib.hid (bel1 w (.cells #[] 3))
  clear ho0
  go_loopw [3, 4] (fun v i wr => ∃ (n : Nat) (A : List Nat), n ≤ l.length ∧ i = .int .i64 ((n : Int) - 1) ∧ A ++ lps l n = lps l l.length ∧ wr.ownsRow w.heap.size 3 1 v A.length (nI A) ∧ Below w.heap.size w wr) (fun _ i _ => (intOf i + 1).toNat)
  case atStart => exact ⟨l.length, [], Nat.le_refl _, rfl, rfl, HO0.out, HB0.out⟩
  case round =>
    obtain ⟨n, A, hk, rfl, hA, hown, hb⟩ := hrel
    have hAl : A.length ≤ 100000 := by
      have := congrArg List.length hA
      rw [List.length_append] at this
      have := lps_len l l.length
      omega
    have HO := Lib.hid hown; have HB := Lib.hid hb; have HA := Lib.hid hA
    clear hown hb hA
    cases n with
    | zero =>
      have h0 : lps l 0 = [] := rfl
      have hA := HA.out
      rw [h0, List.append_nil] at hA
      subst hA
      go_wp2_with fail
      go_ret
      exact ⟨_, rfl, HO.out, HB.out⟩
    | succ n =>
      have hlt : n < l.length := by omega
      obtain ⟨p, hp⟩ : ∃ p, l[n]? = some p := ⟨_, List.getElem?_eq_getElem hlt⟩
      obtain ⟨b, o, rfl, hbl, hcell⟩ := HC.out n p hp
      have r0 : wr.cell? ⟨b, o + n * 14, none⟩ = some (.int .i64 p.k) := (World.cell?_of_block (HB.out.block b hbl)).trans (hcell 0 _ rfl)
      have hst : lps l (n + 1) = if wallB p.k then [] else if loopB p.k then n :: lps l n else lps l n := by rw [lps, hp]
      have HST := Lib.hid hst
      have hcast : ((n + 1 : Nat) : Int) - 1 = (n : Int) := by omega
      rw [hcast]
      clear hcell hst hp hcast
      cases hw : wallB p.k
      · rw [hw] at HST
        cases hl : loopB p.k
        · have HW := Lib.hid hw; have HLP := Lib.hid hl
          rw [hl] at HST
          clear hw hl
          go_wp2_with (first
            | (go_at_call 31; refine (rwall_any _ _).mono ?_; rintro e w2 ⟨rfl, rfl⟩; rw [HW.out])
            | (go_at_call 43; refine (rloop_any _ _).mono ?_; rintro e w2 ⟨rfl, rfl⟩; rw [HLP.out]))
          go_roundw
          case rel => exact ⟨n, A, by omega, rfl, by rw [← HA.out, HST.out]; simp, HO.out, HB.out⟩
          case measure => simp [intOf]
        · have HW := Lib.hid hw; have HLP := Lib.hid hl
          rw [hl] at HST
          clear hw hl
          have hone : ∀ j u, [Value.int .i64 (n : Int)][j]? = some u → (wr.alloc (.cells #[.int .i64 (n : Int)] 3)).cell? ((⟨wr.heap.size, 0, none⟩ : Addr).add j) = some u := cell_one_new wr (.int .i64 (n : Int)) 3
          have hsz5 : w.heap.size ≤ (wr.alloc (.cells #[.int .i64 (n : Int)] 3)).heap.size := by
            rw [World.size_alloc]; have := HB.out.size; omega
          have HONE := Lib.hid hone; have HSZ5 := Lib.hid hsz5
          clear hone hsz5
          go_wp2_with (first
            | (go_at_call 31; refine (rwall_any _ _).mono ?_; rintro e w2 ⟨rfl, rfl⟩; rw [HW.out])
            | (go_at_call 43; refine (rloop_any _ _).mono ?_; rintro e w2 ⟨rfl, rfl⟩; rw [HLP.out])
            | (at_builtin; refine wpList_append_own_at _ rfl _ _ 39 rfl w.heap.size 3 i0 (.int .i64 0) 1 8 Try.underlying39 hi hz0 hz1 hz2 rfl (by decide) _ _ _ rfl (HO.out.alloc _) ⟨_, 0, none⟩ 1 1 [.int .i64 (n : Int)] rfl rfl HONE.out (by intro u hu; simp at hu; subst hu; rfl) (by unfold maxLen; omega) (by omega) HSZ5.out ?_; intro v' w5 hown5 hgrow5 hnil5 hloc5))
          clear hnil5 hloc5
          have hlo : ∀ g, u3.ownBlock = some g → w.heap.size ≤ g := fun g e => (HO.out.lt g e).1
          have hb5 := (HB.out.alloc (Nat.le_trans HB.out.size (Nat.le_refl _)) (.cells #[.int .i64 (n : Int)] 3)).grown hgrow5 HSZ5.out hlo
          have H1 := Lib.hid hown5; have H2 := Lib.hid hb5
          clear hown5 hb5 hgrow5 hlo
          go_wp2_with fail
          go_roundw
          case rel => exact ⟨n, A ++ [n], by omega, rfl, by rw [← HA.out, HST.out]; simp, by rw [List.length_append, nI_snoc]; exact H1.out, H2.out⟩
          case measure => simp [intOf]
      · have HW := Lib.hid hw
        rw [hw] at HST
        clear hw
        go_wp2_with (go_at_call 31; refine (rwall_any _ _).mono ?_; rintro e w2 ⟨rfl, rfl⟩; rw [HW.out])
        have hA := HA.out
        rw [HST.out] at hA
        simp only [if_true, List.append_nil] at hA
        subst hA
        go_ret
        exact ⟨_, rfl, HO.out, HB.out⟩
end Fra
end Go.Proofs.Ytbcldfaphnnmlaa
