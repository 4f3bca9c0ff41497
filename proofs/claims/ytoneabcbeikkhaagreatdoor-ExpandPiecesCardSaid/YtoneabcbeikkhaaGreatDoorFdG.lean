/- Split, Bytes and Join of package field. -/
/- Join of package field, and the reference's. -/
import Derived.Test.YtoneabcbeikkhaaGreatDoorFdE
import Derived.Test.YtoneabcbeikkhaaGreatDoorBldS
import Derived.Test.YtoneabcbeikkhaaGreatDoorShelf
namespace Go.Proofs.YtoneabcbeikkhaaGreatDoor
open Go.RowKit Cls
namespace Fld
theorem row_new (w : World) : Row (w.alloc (.cells #[.slice none 0 0, .bool false, .pointer none, .slice none 0 0] 104)) w.heap.size w.heap.size s0 :=
  ⟨_, _, _, .inl rfl, ⟨Nat.le_refl _, heap_alloc_new w _, World.ownsRow_nil _ _ _ _, World.ownsRowF_nil _ _ _ _⟩⟩
theorem piecesS_step {ps : List Pc} {k : Nat} (h : k < ps.length) (s : S) : piecesS s (ps.take (k + 1)) = pieceS (piecesS s (ps.take k)) (pc ps k) := by rw [take_snoc h, pieces_snoc]
set_option maxHeartbeats 2000000 in
theorem split_any (a : Option Addr) (cap : Nat) (ps : List Pc) (w : World) (h : Pcs w a ps) (hw : weight ps ≤ 200000) :
    Calls Tryz.prog 36 #[.slice a ps.length cap] w fun e w' => ∃ v, e = .returned v ∧ w'.ownsRow w.heap.size 9 1 v (splitS ps).length ((splitS ps).map Value.string) ∧ Below w.heap.size w w' := by
  have H := Lib.hid h; clear h
  have hpl := len_le ps
  have HW := Lib.hid hw
  have hN0 := Lib.hid (row_new w)
  go_enter Tryz.func36, Tryz.ntmps36
  go_wp2_with fail
  go_loopw [8] (fun x wr => ∃ k : Nat, k ≤ ps.length ∧ x = .int .i64 k ∧ Row wr w.heap.size w.heap.size (piecesS s0 (ps.take k)) ∧ Below w.heap.size w wr) (fun x _ => ps.length - (intOf x).toNat)
  case atStart => exact ⟨0, Nat.zero_le _, rfl, hN0.out, below_alloc _ _⟩
  case round =>
    obtain ⟨k, hk, rfl, hr, hbw⟩ := hrel
    have HR := Lib.hid hr; have HB := Lib.hid hbw
    have hws := hbw.size
    clear hr hbw
    have hnk : nS (piecesS s0 (ps.take k)) ≤ 2 * weight (ps.take k) := by have := nS_pieces s0 (ps.take k); have h0 : nS s0 = 0 := rfl; omega
    have hwk := weight_take ps k
    have hfit : Fits (piecesS s0 (ps.take k)) := by unfold Fits; omega
    have HFIT := Lib.hid hfit
    clear hfit
    by_cases hlt : k < ps.length
    · obtain ⟨b, o, rfl, hb, c0, c1, c2⟩ := (H.out.below HB.out).get hlt
      have HT := Lib.hid (piecesS_step hlt s0)
      have hsz : (pc ps k).1.size + 1 ≤ weight ps := weight_mem (pc_mem hlt)
      have HNK := Lib.hid hnk
      clear hnk hwk
      have hsum : nS (piecesS s0 (ps.take k)) + 2 * (pc ps k).1.size ≤ 900000 := by have := HNK.out; have := weight_take ps k; omega
      have HSUM := Lib.hid hsum
      clear hsum
      revert c0 c1 c2 HT hsz HSUM
      generalize pc ps k = p
      obtain ⟨t, q, u⟩ := p
      intro c0 c1 c2 HT hsz HSUM
      have hts : t.size ≤ 1000000 := by simp only at hsz; omega
      have HSZ := Lib.hid hsz
      clear hsz
      have HRA := Lib.hid (HR.out.below (below_alloc wr (.cells #[.string t, .bool q, .bool u] 69)))
      have HBA := Lib.hid (HB.out.alloc hws (.cells #[.string t, .bool q, .bool u] 69))
      cases u
      · cases q
        · go_wp2_with fail
          refine (part_any _ _ _ t _ HRA.out HSUM.out).mono ?_
          rintro e w1 ⟨rfl, h1, hb1⟩
          have H1 := Lib.hid h1; have HB1 := Lib.hid (HBA.out.trans hb1)
          clear h1 hb1
          go_wp2_with fail
          go_roundw
          case rel => exact ⟨k + 1, by omega, by go_num, by rw [HT.out]; exact H1.out, HB1.out⟩
          case measure => simp [intOf]; omega
        · go_wp2_with fail
          refine (grow_any _ _ _ t _ HRA.out HFIT.out hts).mono ?_
          rintro e w1 ⟨rfl, h1, hb1⟩
          have H1 := Lib.hid h1; have HB1 := Lib.hid (HBA.out.trans hb1)
          clear h1 hb1
          go_wp2_with fail
          go_roundw
          case rel => exact ⟨k + 1, by omega, by go_num, by rw [HT.out]; exact H1.out, HB1.out⟩
          case measure => simp [intOf]; omega
      · go_wp2_with fail
        refine (end_any _ _ _ _ HRA.out HFIT.out).mono ?_
        rintro e w1 ⟨rfl, h1, hb1⟩
        have H1 := Lib.hid h1; have HB1 := Lib.hid (HBA.out.trans hb1)
        clear h1 hb1
        go_wp2_with fail
        go_roundw
        case rel => exact ⟨k + 1, by omega, by go_num, by rw [HT.out]; exact H1.out, HB1.out⟩
        case measure => simp [intOf]; omega
    · obtain rfl : k = ps.length := by omega
      go_wp2_with fail
      refine (end_any _ _ _ _ HR.out HFIT.out).mono ?_
      rintro e w1 ⟨rfl, h1, hb1⟩
      rw [List.take_length] at h1
      obtain ⟨av, pv, tv, _, h1⟩ := h1
      have c0 : w1.cell? ⟨w.heap.size, 0, none⟩ = some av := h1.cell 0
      have H1 := Lib.hid h1; have HB1 := Lib.hid (HB.out.trans hb1)
      clear h1 hb1
      go_wp2_with fail
      go_ret
      exact ⟨_, rfl, H1.out.own, HB1.out⟩
set_option maxHeartbeats 1000000 in
theorem bytes_wide (a : Option Addr) (cap : Nat) (ps : List Pc) (w : World) (h : Pcs w a ps) (hw : weight ps ≤ 1000000) :
    Calls Tryz.prog 28 #[.slice a ps.length cap] w fun e w' => e = .returned (.int .i64 (joinS ps).length) ∧ Below w.heap.size w w' := by
  have H := Lib.hid h; clear h
  have hpl := len_le ps
  go_enter Tryz.func28, Tryz.ntmps28
  go_wp2_with fail
  go_loopw [3, 8] (fun v x wr => ∃ k : Nat, k ≤ ps.length ∧ x = .int .i64 k ∧ v = .int .i64 ((joinS (ps.take k)).length : Nat) ∧ Below w.heap.size w wr) (fun _ x _ => ps.length - (intOf x).toNat)
  case atStart => exact ⟨0, Nat.zero_le _, rfl, rfl, Below.refl _ _⟩
  case round =>
    obtain ⟨k, hk, rfl, rfl, hbw⟩ := hrel
    have HB := Lib.hid hbw
    have hws := hbw.size
    clear hbw
    by_cases hlt : k < ps.length
    · obtain ⟨b, o, rfl, hb, c0, c1, c2⟩ := (H.out.below HB.out).get hlt
      have hsz : (pc ps k).1.size + 1 ≤ weight ps := weight_mem (pc_mem hlt)
      have hJ : joinS (ps.take (k + 1)) = joinS (ps.take k) ++ joinP (pc ps k) := by rw [take_snoc hlt, join_snoc]
      have hjl : (joinS (ps.take k)).length ≤ 1000000 := Nat.le_trans (joinS_len _) (Nat.le_trans (weight_take ps k) hw)
      have HJ := Lib.hid hJ
      clear hJ
      revert c0 c1 c2 HJ hsz
      generalize pc ps k = p
      obtain ⟨t, q, u⟩ := p
      intro c0 c1 c2 hsz HJ
      have hts : t.size ≤ 1000000 := by simp only at hsz; omega
      have HSZ := Lib.hid hsz
      clear hsz
      cases u
      · go_wp2_with fail
        go_roundw
        case rel => exact ⟨k + 1, by omega, by go_num, by rw [HJ.out, List.length_append]; show _ = Value.int .i64 ((_ + (bs t).length : Nat) : Int); rw [bs_len]; go_num, HB.out.alloc hws _⟩
        case measure => simp [intOf]; omega
      · go_wp2_with fail
        go_roundw
        case rel => exact ⟨k + 1, by omega, by go_num, by rw [HJ.out, List.length_append]; show _ = Value.int .i64 ((_ + 1 : Nat) : Int); go_num, HB.out.alloc hws _⟩
        case measure => simp [intOf]; omega
    · obtain rfl : k = ps.length := by omega
      rw [List.take_length]
      go_wp2_with fail
      go_ret
      exact ⟨rfl, HB.out⟩
theorem bytes_any (a : Option Addr) (cap : Nat) (ps : List Pc) (w : World) (h : Pcs w a ps) (hw : weight ps ≤ 200000) :
    Calls Tryz.prog 28 #[.slice a ps.length cap] w fun e w' => e = .returned (.int .i64 (joinS ps).length) ∧ Below w.heap.size w w' :=
  bytes_wide a cap ps w h (by omega)
end Fld
end Go.Proofs.YtoneabcbeikkhaaGreatDoor

namespace Go.Proofs.YtoneabcbeikkhaaGreatDoor
open Go.RowKit Cls
namespace Fld
theorem isF_below {b : Nat} {l : List UInt8} {w w' : World} (h : Bd.Is b l w) (hb : Below w.heap.size w w') : Bd.Is b l w' := by
  have key : ∀ p, Lib.BuilderAtF 84 5 b b p (Lib.byteCells l) w → Lib.BuilderAtF 84 5 b b p (Lib.byteCells l) w' := by
    rintro p ⟨hB, v, hbk, hown, hne⟩
    have hlt : ∀ {k : Nat} {o : Obj}, w.heap[k]? = some o → w'.heap[k]? = some o := fun {k o} h => (hb.block k (Array.getElem?_eq_some_iff.1 h).1).trans h
    exact ⟨hB, v, hlt hbk, ownF_keep hown fun g hg => hb.block g (hown.lt g hg).2, hne⟩
  exact h.elim (fun x => .inl (key _ x)) (fun x => .inr (key _ x))
set_option maxHeartbeats 1000000 in
theorem join_any (a : Option Addr) (cap : Nat) (ps : List Pc) (w : World) (h : Pcs w a ps) (hw : weight ps ≤ 200000) :
    Calls Tryz.prog 29 #[.slice a ps.length cap] w fun e w' => e = .returned (.string (tx (joinS ps))) ∧ Below w.heap.size w w' := by
  have hpl := len_le ps
  have hjl := joinS_len ps
  have H0 := Lib.hid (h.below (below_alloc w (.cells #[.pointer none, .slice none 0 0] 84)))
  have H := Lib.hid h; clear h
  have hrow := heap_alloc_new w (.cells #[.pointer none, .slice none 0 0] 84)
  have HRW := Lib.hid hrow
  clear hrow
  go_enter Tryz.func29, Tryz.ntmps29
  go_wp2_with fail
  refine (bytes_any a cap ps _ H0.out hw).mono ?_
  rintro e w1 ⟨rfl, hb1⟩
  have hs1 := hb1.size
  have HRW1 := Lib.hid ((hb1.block w.heap.size (by simp [World.size_alloc])).trans HRW.out)
  have HB1 := Lib.hid ((below_alloc w (.cells #[.pointer none, .slice none 0 0] 84)).trans (hb1.mono (by simp [World.size_alloc])))
  clear hb1 HRW
  rw [World.size_alloc] at hs1
  go_wp2_with fail
  refine (Tryz.Builder_Grow_fresh w.heap.size w.heap.size _ w1 (Nat.le_refl _) HRW1.out (by omega) (by omega)).mono ?_
  rintro e w2 ⟨rfl, hbd, hb2⟩
  have HI := Lib.hid (show Bd.Is w.heap.size [] w2 from Lib.IsBuilderF.of (.inr hbd))
  have HB2 := Lib.hid (HB1.out.trans hb2)
  clear hbd hb2 HRW1 HB1 hs1
  go_wp2_with fail
  go_loopw [11] (fun x wr => ∃ k : Nat, k ≤ ps.length ∧ x = .int .i64 k ∧ Bd.Is w.heap.size (joinS (ps.take k)) wr ∧ Below w.heap.size w wr) (fun x _ => ps.length - (intOf x).toNat)
  case atStart => exact ⟨0, Nat.zero_le _, rfl, HI.out, HB2.out⟩
  case round =>
    obtain ⟨k, hk, rfl, his, hbw⟩ := hrel
    have HB := Lib.hid hbw; have HIS := Lib.hid his
    have hws := hbw.size
    clear hbw his
    by_cases hlt : k < ps.length
    · obtain ⟨b, o, rfl, hb, c0, c1, c2⟩ := (H.out.below HB.out).get hlt
      have hsz : (pc ps k).1.size + 1 ≤ weight ps := weight_mem (pc_mem hlt)
      have hJ : joinS (ps.take (k + 1)) = joinS (ps.take k) ++ joinP (pc ps k) := by rw [take_snoc hlt, join_snoc]
      have hjk : (joinS (ps.take k)).length ≤ 200000 := Nat.le_trans (joinS_len _) (Nat.le_trans (weight_take ps k) hw)
      have HJ := Lib.hid hJ; have HJK := Lib.hid hjk
      clear hJ hjk
      revert c0 c1 c2 HJ hsz
      generalize pc ps k = p
      obtain ⟨t, q, u⟩ := p
      intro c0 c1 c2 hsz HJ
      have hts : t.size ≤ 1000000 := by simp only at hsz; omega
      have HSZ := Lib.hid hsz
      clear hsz
      have HIA := Lib.hid (isF_below HIS.out (below_alloc wr (.cells #[.string t, .bool q, .bool u] 69)))
      have HBA := Lib.hid (HB.out.alloc hws (.cells #[.string t, .bool q, .bool u] 69))
      cases u
      · go_wp2_with fail
        refine (Bd.writeString_any _ _ t _ HIA.out (by have := HJK.out; omega)).mono ?_
        rintro e w3 ⟨rfl, h3, hk3⟩
        have H3 := Lib.hid h3; have HB3 := Lib.hid (HBA.out.trans hk3.1)
        clear h3 hk3
        go_wp2_with fail
        go_roundw
        case rel => exact ⟨k + 1, by omega, by go_num, by rw [HJ.out]; exact H3.out, HB3.out⟩
        case measure => simp [intOf]; omega
      · have hX := Bd.writeByte_any w.heap.size _ 32 _ HIA.out (by have := HJK.out; omega)
        have HX := Lib.hid hX
        clear hX
        go_wp2_with fail
        refine (HX.out).mono ?_
        rintro e w3 ⟨rfl, h3, hk3⟩
        have H3 := Lib.hid h3; have HB3 := Lib.hid (HBA.out.trans hk3.1)
        clear h3 hk3
        go_wp2_with fail
        go_roundw
        case rel => exact ⟨k + 1, by omega, by go_num, by rw [HJ.out]; exact H3.out, HB3.out⟩
        case measure => simp [intOf]; omega
    · obtain rfl : k = ps.length := by omega
      have HS := Lib.hid (Tryz.Builder_String_any_k w.heap.size w.heap.size (joinS ps) wr (by have := HIS.out; rw [List.take_length] at this; exact this) hws)
      go_wp2_with fail
      refine (HS.out).mono ?_
      rintro e w3 ⟨rfl, _, hb3, _⟩
      have HB3 := Lib.hid (HB.out.trans hb3)
      clear hb3
      go_wp2_with fail
      go_ret
      exact ⟨rfl, HB3.out⟩
set_option maxHeartbeats 1000000 in
theorem rjoin_wide (a : Option Addr) (cap : Nat) (ps : List Pc) (w : World) (h : Pcs w a ps) (hw : weight ps ≤ 1000000) :
    Calls Tryz.prog 15 #[.slice a ps.length cap] w fun e w' => e = .returned (.string (tx (joinS ps))) ∧ Below w.heap.size w w' := by
  have H := Lib.hid h; clear h
  have hpl := len_le ps
  go_enter Tryz.func15, Tryz.ntmps15
  go_wp2_with fail
  go_loopw [3, 8] (fun v x wr => ∃ k : Nat, k ≤ ps.length ∧ x = .int .i64 k ∧ v = .string (tx (joinS (ps.take k))) ∧ Below w.heap.size w wr) (fun _ x _ => ps.length - (intOf x).toNat)
  case atStart => exact ⟨0, Nat.zero_le _, rfl, rfl, Below.refl _ _⟩
  case round =>
    obtain ⟨k, hk, rfl, rfl, hbw⟩ := hrel
    have HB := Lib.hid hbw
    have hws := hbw.size
    clear hbw
    by_cases hlt : k < ps.length
    · obtain ⟨b, o, rfl, hb, c0, c1, c2⟩ := (H.out.below HB.out).get hlt
      have hsz : (pc ps k).1.size + 1 ≤ weight ps := weight_mem (pc_mem hlt)
      have hJ : joinS (ps.take (k + 1)) = joinS (ps.take k) ++ joinP (pc ps k) := by rw [take_snoc hlt, join_snoc]
      have hjk : (tx (joinS (ps.take k))).size ≤ 1000000 := by rw [tx_size]; exact Nat.le_trans (joinS_len _) (Nat.le_trans (weight_take ps k) hw)
      have HJ := Lib.hid hJ
      clear hJ
      revert c0 c1 c2 HJ hsz
      generalize pc ps k = p
      obtain ⟨t, q, u⟩ := p
      intro c0 c1 c2 hsz HJ
      have hts : t.size ≤ 1000000 := by simp only at hsz; omega
      have HSZ := Lib.hid hsz
      clear hsz
      generalize hjj : tx (joinS (ps.take k)) = J at hjk ⊢
      have HJJ := Lib.hid hjj
      clear hjj
      cases u
      · go_wp2_with fail
        go_roundw
        case rel => exact ⟨k + 1, by omega, by go_num, by rw [HJ.out]; exact congrArg Value.string (by rw [← HJJ.out]; exact tx_cat _ (bs t)), HB.out.alloc hws _⟩
        case measure => simp [intOf]; omega
      · go_wp2_with fail
        go_roundw
        case rel => exact ⟨k + 1, by omega, by go_num, by rw [HJ.out]; exact congrArg Value.string (by rw [← HJJ.out]; exact tx_cat _ [32]), HB.out.alloc hws _⟩
        case measure => simp [intOf]; omega
    · obtain rfl : k = ps.length := by omega
      rw [List.take_length]
      go_wp2_with fail
      go_ret
      exact ⟨rfl, HB.out⟩
theorem rjoin_any (a : Option Addr) (cap : Nat) (ps : List Pc) (w : World) (h : Pcs w a ps) (hw : weight ps ≤ 200000) :
    Calls Tryz.prog 15 #[.slice a ps.length cap] w fun e w' => e = .returned (.string (tx (joinS ps))) ∧ Below w.heap.size w w' :=
  rjoin_wide a cap ps w h (by omega)
end Fld
end Go.Proofs.YtoneabcbeikkhaaGreatDoor
