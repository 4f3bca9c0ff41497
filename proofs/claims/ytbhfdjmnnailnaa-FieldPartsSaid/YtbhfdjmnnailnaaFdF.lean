/- Split, Bytes and Join of package field. -/
import Derived.Test.YtbhfdjmnnailnaaFdE
import Derived.Test.YtbhfdjmnnailnaaBldS
import Derived.Test.YtbhfdjmnnailnaaShelf
namespace Go.Proofs.Ytbhfdjmnnailnaa
open Go.RowKit Cls
namespace Fld
theorem row_new (w : World) : Row (w.alloc (.cells #[.slice none 0 0, .bool false, .pointer none, .slice none 0 0] 48)) w.heap.size w.heap.size s0 :=
  ⟨_, _, _, .inl rfl, ⟨Nat.le_refl _, heap_alloc_new w _, World.ownsRow_nil _ _ _ _, World.ownsRowF_nil _ _ _ _⟩⟩
theorem piecesS_step {ps : List Pc} {k : Nat} (h : k < ps.length) (s : S) : piecesS s (ps.take (k + 1)) = pieceS (piecesS s (ps.take k)) (pc ps k) := by rw [take_snoc h, pieces_snoc]
set_option maxHeartbeats 2000000 in
theorem split_any (a : Option Addr) (cap : Nat) (ps : List Pc) (w : World) (h : Pcs w a ps) (hw : weight ps ≤ 200000) :
    Calls Try.prog 10 #[.slice a ps.length cap] w fun e w' => ∃ v, e = .returned v ∧ w'.ownsRow w.heap.size 9 1 v (splitS ps).length ((splitS ps).map Value.string) ∧ Below w.heap.size w w' := by
  have H := Lib.hid h; clear h
  have hpl := len_le ps
  have HW := Lib.hid hw
  have hN0 := Lib.hid (row_new w)
  go_enter Try.func10, Try.ntmps10
  go_wp2_with fail
  go_loopw [8] (fun x wr => ∃ k : Nat, k ≤ ps.length ∧ x = .int .i64 k ∧ Row wr w.heap.size w.heap.size (piecesS s0 (ps.take k)) ∧ Below w.heap.size w wr) (fun x _ => ps.length - (intOf x).toNat)
  case atStart => exact ⟨0, Nat.zero_le _, rfl, hN0.out, below_alloc _ _⟩
  case round =>
    obtain ⟨k, hk, rfl, hr, hbw⟩ := hrel
    have HR := Lib.hid hr; have HB := Lib.hid hbw
    have hws := hbw.size
    clear hr hbw
    have hnk : nS (piecesS s0 (ps.take k)) ≤ 2 * weight (ps.take k) := by have := nS_pieces s0 (ps.take k); have h0 : nS s0 = 0 := rfl; omega
    have hwk := weight_take ps k
    have hfit : Fits (piecesS s0 (ps.take k)) := by unfold Fits; omega
    have HFIT := Lib.hid hfit
    clear hfit
    by_cases hlt : k < ps.length
    · obtain ⟨b, o, rfl, hb, c0, c1, c2⟩ := (H.out.below HB.out).get hlt
      have HT := Lib.hid (piecesS_step hlt s0)
      have hsz : (pc ps k).1.size + 1 ≤ weight ps := weight_mem (pc_mem hlt)
      have HNK := Lib.hid hnk
      clear hnk hwk
      have hsum : nS (piecesS s0 (ps.take k)) + 2 * (pc ps k).1.size ≤ 900000 := by have := HNK.out; have := weight_take ps k; omega
      have HSUM := Lib.hid hsum
      clear hsum
      revert c0 c1 c2 HT hsz HSUM
      generalize pc ps k = p
      obtain ⟨t, q, u⟩ := p
      intro c0 c1 c2 HT hsz HSUM
      have hts : t.size ≤ 1000000 := by simp only at hsz; omega
      have HSZ := Lib.hid hsz
      clear hsz
      have HRA := Lib.hid (HR.out.below (below_alloc wr (.cells #[.string t, .bool q, .bool u] 31)))
      have HBA := Lib.hid (HB.out.alloc hws (.cells #[.string t, .bool q, .bool u] 31))
      cases u
      · cases q
        · go_wp2_with fail
          refine (part_any _ _ _ t _ HRA.out HSUM.out).mono ?_
          rintro e w1 ⟨rfl, h1, hb1⟩
          have H1 := Lib.hid h1; have HB1 := Lib.hid (HBA.out.trans hb1)
          clear h1 hb1
          go_wp2_with fail
          go_roundw
          case rel => exact ⟨k + 1, by omega, by go_num, by rw [HT.out]; exact H1.out, HB1.out⟩
          case measure => simp [intOf]; omega
        · go_wp2_with fail
          refine (grow_any _ _ _ t _ HRA.out HFIT.out hts).mono ?_
          rintro e w1 ⟨rfl, h1, hb1⟩
          have H1 := Lib.hid h1; have HB1 := Lib.hid (HBA.out.trans hb1)
          clear h1 hb1
          go_wp2_with fail
          go_roundw
          case rel => exact ⟨k + 1, by omega, by go_num, by rw [HT.out]; exact H1.out, HB1.out⟩
          case measure => simp [intOf]; omega
      · go_wp2_with fail
        refine (end_any _ _ _ _ HRA.out HFIT.out).mono ?_
        rintro e w1 ⟨rfl, h1, hb1⟩
        have H1 := Lib.hid h1; have HB1 := Lib.hid (HBA.out.trans hb1)
        clear h1 hb1
        go_wp2_with fail
        go_roundw
        case rel => exact ⟨k + 1, by omega, by go_num, by rw [HT.out]; exact H1.out, HB1.out⟩
        case measure => simp [intOf]; omega
    · obtain rfl : k = ps.length := by omega
      go_wp2_with fail
      refine (end_any _ _ _ _ HR.out HFIT.out).mono ?_
      rintro e w1 ⟨rfl, h1, hb1⟩
      rw [List.take_length] at h1
      obtain ⟨av, pv, tv, _, h1⟩ := h1
      have c0 : w1.cell? ⟨w.heap.size, 0, none⟩ = some av := h1.cell 0
      have H1 := Lib.hid h1; have HB1 := Lib.hid (HB.out.trans hb1)
      clear h1 hb1
      go_wp2_with fail
      go_ret
      exact ⟨_, rfl, H1.out.own, HB1.out⟩
set_option maxHeartbeats 1000000 in
theorem bytes_any (a : Option Addr) (cap : Nat) (ps : List Pc) (w : World) (h : Pcs w a ps) (hw : weight ps ≤ 200000) :
    Calls Try.prog 13 #[.slice a ps.length cap] w fun e w' => e = .returned (.int .i64 (joinS ps).length) ∧ Below w.heap.size w w' := by
  have H := Lib.hid h; clear h
  have hpl := len_le ps
  go_enter Try.func13, Try.ntmps13
  go_wp2_with fail
  go_loopw [3, 8] (fun v x wr => ∃ k : Nat, k ≤ ps.length ∧ x = .int .i64 k ∧ v = .int .i64 ((joinS (ps.take k)).length : Nat) ∧ Below w.heap.size w wr) (fun _ x _ => ps.length - (intOf x).toNat)
  case atStart => exact ⟨0, Nat.zero_le _, rfl, rfl, Below.refl _ _⟩
  case round =>
    obtain ⟨k, hk, rfl, rfl, hbw⟩ := hrel
    have HB := Lib.hid hbw
    have hws := hbw.size
    clear hbw
    by_cases hlt : k < ps.length
    · obtain ⟨b, o, rfl, hb, c0, c1, c2⟩ := (H.out.below HB.out).get hlt
      have hsz : (pc ps k).1.size + 1 ≤ weight ps := weight_mem (pc_mem hlt)
      have hJ : joinS (ps.take (k + 1)) = joinS (ps.take k) ++ joinP (pc ps k) := by rw [take_snoc hlt, join_snoc]
      have hjl : (joinS (ps.take k)).length ≤ 200000 := Nat.le_trans (joinS_len _) (Nat.le_trans (weight_take ps k) hw)
      have HJ := Lib.hid hJ
      clear hJ
      revert c0 c1 c2 HJ hsz
      generalize pc ps k = p
      obtain ⟨t, q, u⟩ := p
      intro c0 c1 c2 hsz HJ
      have hts : t.size ≤ 1000000 := by simp only at hsz; omega
      have HSZ := Lib.hid hsz
      clear hsz
      cases u
      · go_wp2_with fail
        go_roundw
        case rel => exact ⟨k + 1, by omega, by go_num, by rw [HJ.out, List.length_append]; show _ = Value.int .i64 ((_ + (bs t).length : Nat) : Int); rw [bs_len]; go_num, HB.out.alloc hws _⟩
        case measure => simp [intOf]; omega
      · go_wp2_with fail
        go_roundw
        case rel => exact ⟨k + 1, by omega, by go_num, by rw [HJ.out, List.length_append]; show _ = Value.int .i64 ((_ + 1 : Nat) : Int); go_num, HB.out.alloc hws _⟩
        case measure => simp [intOf]; omega
    · obtain rfl : k = ps.length := by omega
      rw [List.take_length]
      go_wp2_with fail
      go_ret
      exact ⟨rfl, HB.out⟩
end Fld
end Go.Proofs.Ytbhfdjmnnailnaa
