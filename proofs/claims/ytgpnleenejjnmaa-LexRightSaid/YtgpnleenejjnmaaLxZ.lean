/- lexAlive, and the walk of LexRight. -/
import Derived.Test.YtgpnleenejjnmaaLxY
import Derived.Test.YtgpnleenejjnmaaPtY
namespace Go.Proofs.Ytgpnleenejjnmaa
open Go.RowKit Go.Sort
namespace Lx
open Cls Pt

def aliveS : ByteArray := ⟨#[97, 32, 36, 98, 59]⟩
theorem alive_scan : (scanF (aliveS.size + 1) aliveS 0).map (fun t => (t.k, t.i)) = [(1, 0), (1, 2), (2, 4), (4, 5)] := by kernel_rfl
theorem alive_list : ∃ t0 t1 t2 t3 : Tok, scanF (aliveS.size + 1) aliveS 0 = [t0, t1, t2, t3] ∧ t0.i = 0 ∧ t1.i = 2 ∧ t1.k = 1 ∧ t2.i = 4 ∧ t2.k = 2 ∧ t3.i = 5 ∧ t3.k = 4 := by
  have h := alive_scan
  generalize scanF (aliveS.size + 1) aliveS 0 = L at h ⊢
  obtain ⟨t0, L1, rfl, h0, h⟩ := List.map_eq_cons_iff.1 h
  obtain ⟨t1, L2, rfl, h1, h⟩ := List.map_eq_cons_iff.1 h
  obtain ⟨t2, L3, rfl, h2, h⟩ := List.map_eq_cons_iff.1 h
  obtain ⟨t3, L4, rfl, h3, h⟩ := List.map_eq_cons_iff.1 h
  obtain rfl := List.map_eq_nil_iff.1 h
  simp only [Prod.mk.injEq] at h0 h1 h2 h3
  exact ⟨t0, t1, t2, t3, rfl, h0.2, h1.2, h1.1, h2.2, h2.1, h3.2, h3.1⟩

set_option maxHeartbeats 1600000 in
set_option maxRecDepth 100000 in
theorem lexAlive_any (w : World) :
    Calls Try.prog 6 #[] w fun e w' => e = .returned (.bool true) ∧ Below w.heap.size w w' := by
  obtain ⟨t0, t1, t2, t3, hL, h0, h1, h1k, h2, h2k, h3, h3k⟩ := alive_list
  have hS := scan_any aliveS (by decide) w
  rw [hL] at hS
  have HS := Lib.hid hS
  clear hS hL
  go_enter Try.func6, Try.ntmps6
  go_wp2_with fail
  refine (HS.out).mono ?_
  rintro e w1 ⟨g, cap, rfl, hI, hb⟩
  obtain ⟨⟨a0, a1, _, _⟩, _, ⟨b0, b1, _, _⟩, _, ⟨c0, c1, _, _⟩, _, ⟨d0, d1, _, _⟩, _, _⟩ := hI
  rw [h0] at a1
  rw [h1] at b1
  rw [h1k] at b0
  rw [h2] at c1
  rw [h2k] at c0
  rw [h3] at d1
  rw [h3k] at d0
  have HB := Lib.hid hb
  clear hb
  simp only [Nat.zero_add, Nat.reduceAdd] at a0 a1 b0 b1 c0 c1 d0 d1
  simp only [List.length_cons, List.length_nil, Nat.zero_add, Nat.reduceAdd]
  go_wp2_with fail
  go_ret
  exact ⟨rfl, HB.out⟩

theorem good_drop {s : ByteArray} {b : Nat} {L : List Tok} {n : Nat} (h : goodL s b (L.drop n)) : ∃ t, L[n]? = some t ∧ b ≤ t.i ∧ t.i ≤ s.size ∧ (t.k = 1 → rightW t.l = true) ∧ (t.k = 5 ↔ t.err ≠ 0) ∧ (stopT t = true → n + 1 = L.length) ∧ (stopT t = false → n + 1 < L.length ∧ goodL s t.i (L.drop (n + 1))) := by
  cases hd : L.drop n with
  | nil => rw [hd] at h; exact h.elim
  | cons t r =>
    rw [hd] at h
    obtain ⟨h1, h2, h3, h4, h5, h6⟩ := h
    have hg : L[n]? = some t := by
      have := congrArg (·[0]?) hd
      simpa using this
    have hdr : L.drop (n + 1) = r := by
      have := congrArg List.tail hd
      simpa using this
    have hlen := congrArg List.length hd
    simp only [List.length_drop, List.length_cons] at hlen
    refine ⟨t, hg, h1, h2, h3, h4, fun hs => ?_, fun hs => ?_⟩
    · rw [h5 hs] at hlen
      simp only [List.length_nil] at hlen
      omega
    · have h7 := h6 hs
      rw [hdr]
      refine ⟨?_, h7⟩
      cases r with
      | nil => exact h7.elim
      | cons => simp only [List.length_cons] at hlen; omega

set_option maxHeartbeats 3200000 in
set_option maxRecDepth 100000 in
theorem right_law (s : ByteArray) (hs : s.size ≤ 9223372036854775807) (w : World) :
    Calls Try.prog 3 #[.string s] w fun e w' => e = .returned (.bool true) ∧ Below w.heap.size w w' := by
  by_cases h2 : 2000 < s.size
  · go_enter Try.func3, Try.ntmps3
    go_wp2_with fail
    refine (lexAlive_any _).mono ?_
    rintro e w1 ⟨rfl, hb1⟩
    go_wp2_with fail
    go_ret
    exact ⟨rfl, hb1⟩
  · have hS := fun w => scan_any s (by omega) w
    have hG := scan_good s (s.size + 1) 0 0 (Nat.zero_le _) (by omega) (Nat.le_refl _)
    have hLn := scan_len s (s.size + 1) 0
    generalize scanF (s.size + 1) s 0 = L at hS hG hLn
    have hpos : 0 < L.length := by
      cases L with
      | nil => exact hG.elim
      | cons => simp
    have HS := Lib.hid hS; have HG := Lib.hid hG
    clear hS hG
    go_enter Try.func3, Try.ntmps3
    go_wp2_with fail
    refine (lexAlive_any _).mono ?_
    rintro e w1 ⟨rfl, hb1⟩
    have HB1 := Lib.hid hb1
    clear hb1
    go_wp2_with fail
    refine (HS.out _).mono ?_
    rintro e w2 ⟨g, cap, rfl, hI, hb2⟩
    have HI := Lib.hid hI; have HB2 := Lib.hid (hb2.mono HB1.out.size |> fun h => HB1.out.trans h)
    clear hI hb2
    go_wp2
    go_loopw [4, 16] (fun last x wr => ∃ (n b : Nat) (z : Int), n ≤ L.length ∧ x = .int .i64 n ∧ last = .int .i64 z ∧ z ≤ b ∧ (n < L.length → goodL s b (L.drop n)) ∧ TokI wr g 0 L ∧ Below w.heap.size w wr) (fun last x wr => L.length - (intOf x).toNat)
    case atStart => exact ⟨0, 0, -1, Nat.zero_le _, rfl, rfl, by omega, fun _ => HG.out, HI.out, HB2.out⟩
    case round =>
      obtain ⟨n, b, z, hn, rfl, rfl, hz, hgd, hI3, hbw⟩ := hrel
      by_cases hlt : n < L.length
      · obtain ⟨t, hget, g1, g2, g3, g4, g5, g6⟩ := good_drop (hgd hlt)
        obtain ⟨⟨c0, c1, c2, c4⟩, a, ca, c3, hli⟩ := hI3.get hget
        simp only [Nat.zero_add] at c0 c1 c2 c3 c4
        have hst : stopT t = (((t.k : Int) == 4) || ((t.k : Int) == 5)) := by
          unfold stopT
          rw [Bool.eq_iff_iff]
          simp only [Bool.or_eq_true, beq_iff_eq]
          omega
        have hc1 : ((t.i : Int) < z) = False := by simp; omega
        have hc2 : (s.size < t.i) = False := by simp; omega
        have hRt := right_any t.l a ca (wr.alloc (.cells #[.int .i64 t.k, .int .i64 t.i, .string t.t, .slice a t.l.len ca, .int .i64 t.err] 29)) (hli.below ((Below.refl _ _).alloc (Nat.le_refl _) _))
        have hrow : (wr.alloc (.cells #[.int .i64 t.k, .int .i64 t.i, .string t.t, .slice a t.l.len ca, .int .i64 t.err] 29)).heap[wr.heap.size]? = some (.cells #[.int .i64 t.k, .int .i64 t.i, .string t.t, .slice a t.l.len ca, .int .i64 t.err] 29 (0, 0)) := heap_alloc_new _ _
        have hws := hbw.size
        have hI4 := hI3.below ((Below.refl wr.heap.size wr).alloc (Nat.le_refl _) (.cells #[.int .i64 t.k, .int .i64 t.i, .string t.t, .slice a t.l.len ca, .int .i64 t.err] 29))
        have hB4 := hbw.alloc hws (.cells #[.int .i64 t.k, .int .i64 t.i, .string t.t, .slice a t.l.len ca, .int .i64 t.err] 29)
        have HRT := Lib.hid hRt; have HROW := Lib.hid hrow; have HI4 := Lib.hid hI4; have HB4 := Lib.hid hB4
        clear hRt hrow hI4 hB4 hI3 hbw hli hget hgd
        cases k4 : ((t.k : Int) == 4)
        · cases k5 : ((t.k : Int) == 5)
          · rw [k4, k5] at hst
            obtain ⟨g7, g8⟩ := g6 hst
            have hc3 : ((n : Int) == (L.length : Int) - 1) = false := by simp; omega
            have herr : ((t.err : Int) != 0) = false := by
              have : ¬ t.k = 5 := by simp at k5; omega
              have : t.err = 0 := by
                refine Classical.byContradiction fun h => this (g4.2 h)
              simp [this]
            have HG8 := Lib.hid g8
            cases k1 : ((t.k : Int) == 1)
            · clear g3 g4 g5 g6 hst g8
              go_wp2_with fail
              go_roundw
              case rel => exact ⟨n + 1, t.i, t.i, by omega, by go_num, rfl, by omega, fun _ => HG8.out, HI4.out, HB4.out⟩
              case measure => simp [intOf]; omega
            · have hr1 : rightW t.l = true := g3 (by simp at k1; omega)
              rw [hr1] at HRT
              clear g3 g4 g5 g6 hst g8 hr1
              go_wp2_with (go_at_call 8; refine (HRT.out).mono ?_; rintro e w5 ⟨rfl, hb5⟩; have q0 : w5.cell? ⟨wr.heap.size, 0, none⟩ = some (.int .i64 t.k) := Lib.cell_of_heap ((hb5.block _ (by simp)).trans HROW.out) 0; have q1 : w5.cell? ⟨wr.heap.size, 1, none⟩ = some (.int .i64 t.i) := Lib.cell_of_heap ((hb5.block _ (by simp)).trans HROW.out) 1; have q4 : w5.cell? ⟨wr.heap.size, 4, none⟩ = some (.int .i64 t.err) := Lib.cell_of_heap ((hb5.block _ (by simp)).trans HROW.out) 4; have HB5 := Lib.hid hb5; clear hb5)
              go_roundw
              case rel => exact ⟨n + 1, t.i, t.i, by omega, by go_num, rfl, by omega, fun _ => HG8.out, HI4.out.below HB5.out, HB4.out.trans (HB5.out.mono (by simp only [World.size_alloc]; omega))⟩
              case measure => simp [intOf]; omega
          · rw [k4, k5] at hst
            have g7 := g5 hst
            have hc3 : ((n : Int) == (L.length : Int) - 1) = true := by simp; omega
            have k1 : ((t.k : Int) == 1) = false := by simp at k5 ⊢; omega
            have herr : ((t.err : Int) != 0) = true := by
              have := g4.1 (by simp at k5; omega)
              simp; omega
            clear g3 g4 g5 g6 hst
            go_wp2_with fail
            go_roundw
            case rel => exact ⟨n + 1, t.i, t.i, by omega, by go_num, rfl, by omega, fun h => by omega, HI4.out, HB4.out⟩
            case measure => simp [intOf]; omega
        · rw [k4] at hst
          have g7 := g5 hst
          have hc3 : ((n : Int) == (L.length : Int) - 1) = true := by simp; omega
          have k1 : ((t.k : Int) == 1) = false := by simp at k4 ⊢; omega
          have k5 : ((t.k : Int) == 5) = false := by simp at k4 ⊢; omega
          have herr : ((t.err : Int) != 0) = false := by
            have : ¬ t.k = 5 := by simp at k5; omega
            have : t.err = 0 := by
              refine Classical.byContradiction fun h => this (g4.2 h)
            simp [this]
          clear g3 g4 g5 g6 hst
          go_wp2_with fail
          go_roundw
          case rel => exact ⟨n + 1, t.i, t.i, by omega, by go_num, rfl, by omega, fun h => by omega, HI4.out, HB4.out⟩
          case measure => simp [intOf]; omega
      · obtain rfl : n = L.length := by omega
        have HBW := Lib.hid hbw
        clear hgd hI3 hbw
        go_wp2_with fail
        go_ret
        exact ⟨rfl, HBW.out⟩
end Lx
end Go.Proofs.Ytgpnleenejjnmaa
