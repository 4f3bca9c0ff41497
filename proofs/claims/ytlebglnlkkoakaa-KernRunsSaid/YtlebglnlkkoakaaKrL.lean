/- The reference's New. -/
import Derived.Test.YtlebglnlkkoakaaKrK
namespace Go.Proofs.Ytlebglnlkkoakaa
open Go.RowKit Go.Maps
namespace Kn
theorem tightL_snoc (l : List Int) (a : Int) (y : Nat) : tightL (l ++ [a]) y = if Sig.fixedB a then tightL l y else add (tightL l y) a := by
  unfold tightL
  rw [List.foldl_append]
  rfl
set_option maxRecDepth 4000 in
set_option maxHeartbeats 3200000 in
theorem rnew_any (x : Nat) (hx : x < 4294967296) (w : World) :
    Calls Try.prog 8 #[.int .u32 x] w fun e w' => ∃ lv, e = .returned (tv (newR x) lv (.slice none 0 0)) ∧ RT w' w.heap.size lv (.slice none 0 0) (newR x) ∧ Below w.heap.size w w' := by
  have HL := fun w => Sig.rlist_any x hx w
  unfold tv
  have hlen : (Sig.listN x 31).length ≤ 31 := Sig.listN_len x 31
  have htl : tightN x = tightL (Sig.listN x 31) 0 := rfl
  unfold newR
  rw [htl]
  generalize Sig.listN x 31 = l at HL hlen
  have HLE := Lib.hid hlen
  clear hlen htl
  go_enter Try.func8, Try.ntmps8
  have hbz := below_alloc w (.cells #[.slice none 0 0, .int .i64 0, .slice none 0 0] 31)
  have hz := heap_alloc_new w (.cells #[.slice none 0 0, .int .i64 0, .slice none 0 0] 31)
  go_wp2_with fail
  refine (HL _).mono ?_
  rintro e w1 ⟨v, rfl, ho, hb⟩
  obtain ⟨a, cap, rfl, hc⟩ := slice_of_owns ho
  have hbw := hbz.trans (hb.mono hbz.size)
  have hz1 := (hb.block _ (Array.getElem?_eq_some_iff.1 hz).1).trans hz
  have HC := Lib.hid hc; have HO := Lib.hid ho; have HBW := Lib.hid hbw; have HZ := Lib.hid hz1
  clear hc ho hbz hz hb hbw hz1 HL
  go_wp2_with fail
  go_loopw [3, 9] (fun y i wr => ∃ k : Nat, k ≤ l.length ∧ i = .int .i64 k ∧ y = .int .u32 (tightL (l.take k) 0 : Nat) ∧ Below w1.heap.size w1 wr) (fun _ i _ => l.length - (intOf i).toNat)
  case atStart => exact ⟨0, Nat.zero_le _, rfl, rfl, Below.refl _ _⟩
  case round =>
    have hle := HLE.out
    obtain ⟨k, hk, rfl, rfl, hb⟩ := hrel
    have HB := Lib.hid hb
    have hlt32 : tightL (l.take k) 0 < 4294967296 := tightL_lt _ (by decide)
    clear hb
    by_cases hlt : k < l.length
    · obtain ⟨b, rfl, h1⟩ := HC.out k hlt
      have q1 := (World.cell?_of_block (HB.out.block b (HO.out.lt b rfl).2)).trans h1
      have hl := List.getElem?_eq_getElem hlt
      have HT := Lib.hid (List.take_succ_eq_append_getElem hlt)
      have hg : l.getD k 0 = l[k] := by rw [List.getD_eq_getElem?_getD, hl]; rfl
      rw [hg] at q1
      clear h1 hl hg
      generalize l[k] = s at q1 HT
      have H32 := Lib.hid hlt32
      clear hlt32
      cases hf : Sig.fixedB s
      · have ht : tightL (l.take (k + 1)) 0 = tightL (l.take k) 0 ||| Sig.bitN s := by rw [HT.out, tightL_snoc, hf]; rfl
        have HTT := Lib.hid ht; have HF := Lib.hid hf
        clear ht hf
        generalize tightL (l.take k) 0 = y at HTT H32 ⊢
        go_wp2_with (first
          | (go_at_call 39; refine (Sig.rfixed_any s _).mono ?_; rw [HF.out]; refine hold ?_)
          | (go_at_call 40; refine (Sig.rwith_any y s H32.out _).mono ?_; rintro e w' ⟨rfl, rfl⟩))
        refine Hold.out ?_
        rintro e w2 ⟨rfl, hb2⟩
        have HB2 := Lib.hid (HB.out.trans (hb2.mono HB.out.size))
        clear hb2
        go_wp2_with (first
          | (go_at_call 40; refine (Sig.rwith_any y s H32.out _).mono ?_; rintro e w' ⟨rfl, rfl⟩))
        go_roundw
        case rel => exact ⟨k + 1, by omega, by go_num, by rw [HTT.out], HB2.out⟩
        case measure => simp [intOf]; omega
      · have ht : tightL (l.take (k + 1)) 0 = tightL (l.take k) 0 := by rw [HT.out, tightL_snoc, hf]; rfl
        have HTT := Lib.hid ht; have HF := Lib.hid hf
        clear ht hf
        generalize tightL (l.take k) 0 = y at HTT H32 ⊢
        go_wp2_with (first
          | (go_at_call 39; refine (Sig.rfixed_any s _).mono ?_; rw [HF.out]; refine hold ?_))
        refine Hold.out ?_
        rintro e w2 ⟨rfl, hb2⟩
        have HB2 := Lib.hid (HB.out.trans (hb2.mono HB.out.size))
        clear hb2
        go_wp2_with fail
        go_roundw
        case rel => exact ⟨k + 1, by omega, by go_num, by rw [HTT.out], HB2.out⟩
        case measure => simp [intOf]; omega
    · obtain rfl : k = l.length := by omega
      have htk : l.take l.length = l := List.take_length
      rw [htk]
      clear hlt htk
      generalize hy : tightL l 0 = y at hlt32 ⊢
      have HY := Lib.hid hy
      clear hy
      have hbr := HBW.out.trans (HB.out.mono HBW.out.size)
      have hbn := below_alloc wr (.cells #[.int .i64 1, .int .i64 0, .int .i64 0, .bool true, .int .u32 y, .int .u32 0, .int .u32 0] 73)
      have hb2 : Below w.heap.size w (wr.alloc (.cells #[.int .i64 1, .int .i64 0, .int .i64 0, .bool true, .int .u32 y, .int .u32 0, .int .u32 0] 73)) := hbr.trans (hbn.mono hbr.size)
      have hzr := (HB.out.block _ (Array.getElem?_eq_some_iff.1 HZ.out).1).trans HZ.out
      have hz2 := (hbn.block _ (Array.getElem?_eq_some_iff.1 hzr).1).trans hzr
      have hne : w.heap.size < wr.heap.size := (Array.getElem?_eq_some_iff.1 hzr).1
      have ez0 : (wr.alloc (.cells #[.int .i64 1, .int .i64 0, .int .i64 0, .bool true, .int .u32 y, .int .u32 0, .int .u32 0] 73)).cell? ⟨w.heap.size, 0, none⟩ = some (.slice none 0 0) := Lib.cell_of_heap hz2 0
      have ef0 : (wr.alloc (.cells #[.int .i64 1, .int .i64 0, .int .i64 0, .bool true, .int .u32 y, .int .u32 0, .int .u32 0] 73)).frozen? ⟨w.heap.size, 0, none⟩ = false := frozen_of_row _ _ _ _ _ hz2
      have ez1 : (wr.alloc (.cells #[.int .i64 1, .int .i64 0, .int .i64 0, .bool true, .int .u32 y, .int .u32 0, .int .u32 0] 73)).cell? ⟨w.heap.size, 1, none⟩ = some (.int .i64 0) := Lib.cell_of_heap hz2 1
      have ef1 : (wr.alloc (.cells #[.int .i64 1, .int .i64 0, .int .i64 0, .bool true, .int .u32 y, .int .u32 0, .int .u32 0] 73)).frozen? ⟨w.heap.size, 1, none⟩ = false := frozen_of_row _ _ _ _ _ hz2
      have ez2 : (wr.alloc (.cells #[.int .i64 1, .int .i64 0, .int .i64 0, .bool true, .int .u32 y, .int .u32 0, .int .u32 0] 73)).cell? ⟨w.heap.size, 2, none⟩ = some (.slice none 0 0) := Lib.cell_of_heap hz2 2
      have ef2 : (wr.alloc (.cells #[.int .i64 1, .int .i64 0, .int .i64 0, .bool true, .int .u32 y, .int .u32 0, .int .u32 0] 73)).frozen? ⟨w.heap.size, 2, none⟩ = false := frozen_of_row _ _ _ _ _ hz2
      have hown : (wr.alloc (.cells #[.int .i64 1, .int .i64 0, .int .i64 0, .bool true, .int .u32 y, .int .u32 0, .int .u32 0] 73)).ownsRow w.heap.size 73 7 (.slice (some ⟨wr.heap.size, 0, none⟩) 1 1) 1 (lcells [⟨1, 0, 0, true, y, 0, 0⟩]) := ⟨rfl, .inr ⟨wr.heap.size, 1, _, rfl, Nat.le_of_lt hne, heap_alloc_new wr _, Nat.le_refl _, by decide, rfl, rfl⟩⟩
      have H2 := Lib.hid hb2; have HZ2 := Lib.hid hz2; have HN := Lib.hid hne; have HOW := Lib.hid hown
      clear hbr hbn hb2 hzr hz2 hne hown
      go_wp2_with fail
      refine bodyPost_ret (results_cell_row rfl _ _ w.heap.size _ _ _ _ rfl (put3 HZ2.out _ _ _) Try.underlying31 rfl (by kernel_rfl)) rfl ⟨_, rfl, ?_⟩
      have hy := HY.out
      clear HY
      subst hy
      have n1 := own_ne HOW.out HZ2.out (by decide)
      exact ⟨⟨own_other (own_other (own_other HOW.out n1 _) n1 _) n1 _, ⟨rfl, .inl ⟨rfl, rfl⟩⟩⟩, below_set (below_set (below_set H2.out (Nat.le_refl _) _) (Nat.le_refl _) _) (Nat.le_refl _) _⟩
end Kn
end Go.Proofs.Ytlebglnlkkoakaa
