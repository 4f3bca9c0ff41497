/- FrameLoops. -/
import Derived.Test.YtbcldfaphnnmlaaFrU
namespace Go.Proofs.Ytbcldfaphnnmlaa
open Go.RowKit Go.Sort
namespace Fra
open Cls Pt Tr
/-- An item of a kind, with a node. -/
def ofB (k : Int) (nk : Int) (nm : ByteArray) (g : Bool) (az : List (ByteArray × PL)) (nw : List PL) (ks : NL) (bs : List Bool) (cz : NL) (a1 : Option Addr) (c1 : Nat) (a2 : Option Addr) (c2 : Nat) (a3 : Option Addr) (c3 : Nat) (a4 : Option Addr) (c4 : Nat) (a5 : Option Addr) (c5 : Nat) : IV := { zero with k := k, nk := nk, nm := nm, g := g, az := az, nw := nw, ks := ks, bs := bs, cz := cz, a1 := a1, c1 := c1, a2 := a2, c2 := c2, a3 := a3, c3 := c3, a4 := a4, c4 := c4, a5 := a5, c5 := c5 }
set_option maxRecDepth 100000 in
set_option maxHeartbeats 6400000 in
theorem loops_law (W : World) (a : Option Addr) (cap : Nat) (ns : List Nat) (hns : ∀ (j x : Nat), ns[j]? = some x → x < 256 ∧ ∃ b o, a = some ⟨b, o, none⟩ ∧ W.cell? ⟨b, o + j, none⟩ = some (.int .u8 (x : Int))) (hlen : ns.length ≤ 140737488351232) (n : Nat) (hn : n < 256)
    (k : Int) (nm : ByteArray) (g : Bool) (az : List (ByteArray × PL)) (nw : List PL) (ks : NL) (bs : List Bool) (cz : NL) (a1 : Option Addr) (c1 : Nat) (a2 : Option Addr) (c2 : Nat) (a3 : Option Addr) (c3 : Nat) (a4 : Option Addr) (c4 : Nat) (a5 : Option Addr) (c5 : Nat) (hh : Holds W nm az nw ks bs cz a1 c1 a2 c2 a3 c3 a4 c4 a5 c5) :
    Calls Try.prog 4 #[.slice a ns.length cap, .int .u8 (n : Int), .agg #[.int .i64 k, .string nm, .bool g, .slice a1 az.length c1, .slice a2 nw.length c2, .slice a3 ks.len c3, .slice a4 bs.length c4, .slice a5 cz.len c5]] W fun e w' => e = .returned (.bool true) ∧ Below W.heap.size W w' := by
  have HNS := Lib.hid hns; have HH := Lib.hid hh
  have hz := heap_alloc_new W (.cells #[.int .i64 k, .string nm, .bool g, .slice a1 az.length c1, .slice a2 nw.length c2, .slice a3 ks.len c3, .slice a4 bs.length c4, .slice a5 cz.len c5] 37)
  have hb0 := bel1 W (.cells #[.int .i64 k, .string nm, .bool g, .slice a1 az.length c1, .slice a2 nw.length c2, .slice a3 ks.len c3, .slice a4 bs.length c4, .slice a5 cz.len c5] 37)
  have HZ := Lib.hid hz; have HB0 := Lib.hid hb0
  have HALIVE := fun w => frameAlive_any w
  have HAL := Lib.hid HALIVE
  clear hz hb0 HALIVE hh hns
  go_enter Try.func4, Try.ntmps4
  go_wp2_with fail
  refine (HAL.out _).mono ?_
  rintro e w1 ⟨rfl, hb1⟩
  have HB1 := Lib.hid (thru HB0.out hb1)
  have HZ1 := Lib.hid ((hb1.block W.heap.size (Array.getElem?_eq_some_iff.1 HZ.out).1).trans HZ.out)
  clear hb1
  have p0 : w1.cell? ⟨W.heap.size, 0, none⟩ = some (.int .i64 k) := Lib.cell_of_heap HZ1.out 0
  have p1 : w1.cell? ⟨W.heap.size, 1, none⟩ = some (.string nm) := Lib.cell_of_heap HZ1.out 1
  have p2 : w1.cell? ⟨W.heap.size, 2, none⟩ = some (.bool g) := Lib.cell_of_heap HZ1.out 2
  have p3 : w1.cell? ⟨W.heap.size, 3, none⟩ = some (.slice a1 az.length c1) := Lib.cell_of_heap HZ1.out 3
  have p4 : w1.cell? ⟨W.heap.size, 4, none⟩ = some (.slice a2 nw.length c2) := Lib.cell_of_heap HZ1.out 4
  have p5 : w1.cell? ⟨W.heap.size, 5, none⟩ = some (.slice a3 ks.len c3) := Lib.cell_of_heap HZ1.out 5
  have p6 : w1.cell? ⟨W.heap.size, 6, none⟩ = some (.slice a4 bs.length c4) := Lib.cell_of_heap HZ1.out 6
  have p7 : w1.cell? ⟨W.heap.size, 7, none⟩ = some (.slice a5 cz.len c5) := Lib.cell_of_heap HZ1.out 7
  by_cases h60 : 60 < ns.length
  · go_wp2_with fail
    go_ret
    exact ⟨rfl, HB1.out⟩
  have hW := weight_at (ks.size + cz.size + 1) k nm g az nw ks bs cz a1 c1 a2 c2 a3 c3 a4 c4 a5 c5 0 w1 (by omega) (by omega) (HH.out.below HB1.out)
  have HW := Lib.hid hW
  unfold nodeV Heavy at HW
  clear hW
  go_wp2_with fail
  refine HW.out.mono ?_
  rintro e w2 ⟨⟨x, rfl, _, _⟩, hb2⟩
  have HB2 := Lib.hid (thru HB1.out hb2)
  have HZ2 := Lib.hid ((hb2.block W.heap.size (Array.getElem?_eq_some_iff.1 HZ1.out).1).trans HZ1.out)
  clear hb2 p0 p1 p2 p3 p4 p5 p6 p7
  by_cases h3 : 300 < x
  · go_wp2_with fail
    go_ret
    exact ⟨rfl, HB2.out⟩
  have h0 := Two.new (Below.refl w2.heap.size w2)
  generalize hW3 : w2.alloc (.cells #[.slice none 0 0] 26) = W3 at h0
  have hs3 : W3.heap.size = w2.heap.size + 1 := by rw [← hW3]; exact World.size_alloc _ _
  have hit : LAt (W3.alloc (.cells #[.int .i64 9, .int .i64 0, .string ⟨#[]⟩, .bool false, .slice none 0 0, .slice none 0 0, .slice none 0 0, .slice none 0 0, .slice none 0 0, .int .i64 0, .int .i64 7, .bool false, .slice none 0 0, .slice none 0 0] 43)) (.slice (some ⟨W3.heap.size, 0, none⟩) 1 1) [lit9] := lit_items (heap_alloc_new _ _) rfl
  have hp := (h0.stay (bel1 W3 (.cells #[.int .i64 9, .int .i64 0, .string ⟨#[]⟩, .bool false, .slice none 0 0, .slice none 0 0, .slice none 0 0, .slice none 0 0, .slice none 0 0, .int .i64 0, .int .i64 7, .bool false, .slice none 0 0, .slice none 0 0] 43))).push hit (by decide)
  rw [List.nil_append, hs3] at hp
  have HP := Lib.hid hp
  have HLT := Lib.hid (Array.getElem?_eq_some_iff.1 HZ2.out).1
  clear hp hit h0
  go_wp2_with fail
  refine HP.out.mono ?_
  rintro e w4 ⟨rfl, h4⟩
  have H4 := Lib.hid h4
  clear h4
  go_wp2_with fail
  go_loopw [8, 34] (fun c i wr => ∃ (j : Nat) (l : List IV), j ≤ ns.length ∧ i = .int .i64 j ∧ c = .int .i64 ((lps l l.length).length : Nat) ∧ l.length = j + 1 ∧ Ok l ∧ Two w2 wr w2.heap.size l (.slice none 0 0) []) (fun _ i _ => ns.length - (intOf i).toNat)
  case atStart => exact ⟨0, [lit9], Nat.zero_le _, rfl, rfl, rfl, Ok.base, H4.out⟩
  case round =>
    obtain ⟨j, l, hj, rfl, rfl, hll, hok, ht⟩ := hrel
    have hl60 : l.length ≤ 61 := by omega
    have HOK := Lib.hid hok; have HT := Lib.hid ht; have HL := Lib.hid hll
    clear hok ht hll
    have hbw := thru HB2.out (HT.out.on)
    have HBW := Lib.hid hbw
    by_cases hlt : j < ns.length
    · obtain ⟨x, hx⟩ : ∃ x, ns[j]? = some x := ⟨_, List.getElem?_eq_getElem hlt⟩
      obtain ⟨hx256, ba, o, rfl, hcb⟩ := HNS.out j x hx
      have q := cell_below hbw hcb
      have HZ5 := Lib.hid ((HT.out.on.block W.heap.size HLT.out).trans HZ2.out)
      clear hcb hx hbw
      have p0 : wr.cell? ⟨W.heap.size, 0, none⟩ = some (.int .i64 k) := Lib.cell_of_heap HZ5.out 0
      have p1 : wr.cell? ⟨W.heap.size, 1, none⟩ = some (.string nm) := Lib.cell_of_heap HZ5.out 1
      have p2 : wr.cell? ⟨W.heap.size, 2, none⟩ = some (.bool g) := Lib.cell_of_heap HZ5.out 2
      have p3 : wr.cell? ⟨W.heap.size, 3, none⟩ = some (.slice a1 az.length c1) := Lib.cell_of_heap HZ5.out 3
      have p4 : wr.cell? ⟨W.heap.size, 4, none⟩ = some (.slice a2 nw.length c2) := Lib.cell_of_heap HZ5.out 4
      have p5 : wr.cell? ⟨W.heap.size, 5, none⟩ = some (.slice a3 ks.len c3) := Lib.cell_of_heap HZ5.out 5
      have p6 : wr.cell? ⟨W.heap.size, 6, none⟩ = some (.slice a4 bs.length c4) := Lib.cell_of_heap HZ5.out 6
      have p7 : wr.cell? ⟨W.heap.size, 7, none⟩ = some (.slice a5 cz.len c5) := Lib.cell_of_heap HZ5.out 7
      have hpu : ∀ K : Int, wallB K = false → Calls Try.prog 7 #[.pointer (some ⟨w2.heap.size, 0, none⟩), .slice (some ⟨wr.heap.size, 0, none⟩) 1 1] (wr.alloc (.cells #[.int .i64 K, .int .i64 k, .string nm, .bool g, .slice a1 az.length c1, .slice a2 nw.length c2, .slice a3 ks.len c3, .slice a4 bs.length c4, .slice a5 cz.len c5, .int .i64 0, .int .i64 0, .bool false, .slice none 0 0, .slice none 0 0] 43)) fun e w' => e = .returned (.tuple #[]) ∧ Two w2 w' w2.heap.size (l ++ [ofB K k nm g az nw ks bs cz a1 c1 a2 c2 a3 c3 a4 c4 a5 c5]) (.slice none 0 0) [] := fun K _ =>
        (HT.out.stay (bel1 wr _)).push (lit_items (l := [ofB K k nm g az nw ks bs cz a1 c1 a2 c2 a3 c3 a4 c4 a5 c5]) (heap_alloc_new wr _) rfl) (by rw [List.length_singleton]; omega)
      have HPU := Lib.hid hpu
      have hcl : (lps l l.length).length ≤ 100000 := Nat.le_trans (lps_len l _) (by omega)
      clear hpu
      cases h9 : (1 + (x : Int) % 14 == 9)
      · skip
        cases h12 : (1 + (x : Int) % 14 == 12)
        · skip
          cases h13 : (1 + (x : Int) % 14 == 13)
          · skip
            cases h6 : (1 + (x : Int) % 14 == 6)
            · skip
              cases h7 : (1 + (x : Int) % 14 == 7)
              · skip
                cases h8 : (1 + (x : Int) % 14 == 8)
                · skip
                  go_wp2_with fail
                  refine (HPU.out (1 + (x : Int) % 14) (by show wallB (1 + (x : Int) % 14) = false; unfold wallB; rw [h9, h12, h13]; rfl)).mono ?_
                  rintro e w5 ⟨rfl, h5⟩
                  have H5 := Lib.hid h5
                  clear h5
                  go_wp2_with fail
                  go_roundw
                  case rel => exact ⟨j + 1, l ++ [ofB (1 + (x : Int) % 14) k nm g az nw ks bs cz a1 c1 a2 c2 a3 c3 a4 c4 a5 c5], by omega, by go_num, by rw [lps_snoc, show wallB (ofB (1 + (x : Int) % 14) k nm g az nw ks bs cz a1 c1 a2 c2 a3 c3 a4 c4 a5 c5).k = false from (by show wallB (1 + (x : Int) % 14) = false; unfold wallB; rw [h9, h12, h13]; rfl), show loopB (ofB (1 + (x : Int) % 14) k nm g az nw ks bs cz a1 c1 a2 c2 a3 c3 a4 c4 a5 c5).k = false from (by show loopB (1 + (x : Int) % 14) = false; unfold loopB; rw [h6, h7, h8]; rfl)]; rfl, by rw [List.length_append, HL.out]; rfl, HOK.out.snoc (by show wallB (1 + (x : Int) % 14) = false; unfold wallB; rw [h9, h12, h13]; rfl), H5.out⟩
                  case measure => simp [intOf]; omega
                · skip
                  go_wp2_with fail
                  refine (HPU.out (1 + (x : Int) % 14) (by show wallB (1 + (x : Int) % 14) = false; unfold wallB; rw [h9, h12, h13]; rfl)).mono ?_
                  rintro e w5 ⟨rfl, h5⟩
                  have H5 := Lib.hid h5
                  clear h5
                  go_wp2_with fail
                  go_roundw
                  case rel => exact ⟨j + 1, l ++ [ofB (1 + (x : Int) % 14) k nm g az nw ks bs cz a1 c1 a2 c2 a3 c3 a4 c4 a5 c5], by omega, by go_num, by rw [lps_snoc, show wallB (ofB (1 + (x : Int) % 14) k nm g az nw ks bs cz a1 c1 a2 c2 a3 c3 a4 c4 a5 c5).k = false from (by show wallB (1 + (x : Int) % 14) = false; unfold wallB; rw [h9, h12, h13]; rfl), show loopB (ofB (1 + (x : Int) % 14) k nm g az nw ks bs cz a1 c1 a2 c2 a3 c3 a4 c4 a5 c5).k = true from (by show loopB (1 + (x : Int) % 14) = true; unfold loopB; rw [h6, h7, h8]; first | rfl | (cases ((1 + (x : Int) % 14) == 7) <;> rfl) | simp)]; go_num, by rw [List.length_append, HL.out]; rfl, HOK.out.snoc (by show wallB (1 + (x : Int) % 14) = false; unfold wallB; rw [h9, h12, h13]; rfl), H5.out⟩
                  case measure => simp [intOf]; omega
              · skip
                go_wp2_with fail
                refine (HPU.out (1 + (x : Int) % 14) (by show wallB (1 + (x : Int) % 14) = false; unfold wallB; rw [h9, h12, h13]; rfl)).mono ?_
                rintro e w5 ⟨rfl, h5⟩
                have H5 := Lib.hid h5
                clear h5
                go_wp2_with fail
                go_roundw
                case rel => exact ⟨j + 1, l ++ [ofB (1 + (x : Int) % 14) k nm g az nw ks bs cz a1 c1 a2 c2 a3 c3 a4 c4 a5 c5], by omega, by go_num, by rw [lps_snoc, show wallB (ofB (1 + (x : Int) % 14) k nm g az nw ks bs cz a1 c1 a2 c2 a3 c3 a4 c4 a5 c5).k = false from (by show wallB (1 + (x : Int) % 14) = false; unfold wallB; rw [h9, h12, h13]; rfl), show loopB (ofB (1 + (x : Int) % 14) k nm g az nw ks bs cz a1 c1 a2 c2 a3 c3 a4 c4 a5 c5).k = true from (by show loopB (1 + (x : Int) % 14) = true; unfold loopB; rw [h6, h7]; first | rfl | (cases ((1 + (x : Int) % 14) == 7) <;> rfl) | simp)]; go_num, by rw [List.length_append, HL.out]; rfl, HOK.out.snoc (by show wallB (1 + (x : Int) % 14) = false; unfold wallB; rw [h9, h12, h13]; rfl), H5.out⟩
                case measure => simp [intOf]; omega
            · skip
              go_wp2_with fail
              refine (HPU.out (1 + (x : Int) % 14) (by show wallB (1 + (x : Int) % 14) = false; unfold wallB; rw [h9, h12, h13]; rfl)).mono ?_
              rintro e w5 ⟨rfl, h5⟩
              have H5 := Lib.hid h5
              clear h5
              go_wp2_with fail
              go_roundw
              case rel => exact ⟨j + 1, l ++ [ofB (1 + (x : Int) % 14) k nm g az nw ks bs cz a1 c1 a2 c2 a3 c3 a4 c4 a5 c5], by omega, by go_num, by rw [lps_snoc, show wallB (ofB (1 + (x : Int) % 14) k nm g az nw ks bs cz a1 c1 a2 c2 a3 c3 a4 c4 a5 c5).k = false from (by show wallB (1 + (x : Int) % 14) = false; unfold wallB; rw [h9, h12, h13]; rfl), show loopB (ofB (1 + (x : Int) % 14) k nm g az nw ks bs cz a1 c1 a2 c2 a3 c3 a4 c4 a5 c5).k = true from (by show loopB (1 + (x : Int) % 14) = true; unfold loopB; rw [h6]; first | rfl | (cases ((1 + (x : Int) % 14) == 7) <;> rfl) | simp)]; go_num, by rw [List.length_append, HL.out]; rfl, HOK.out.snoc (by show wallB (1 + (x : Int) % 14) = false; unfold wallB; rw [h9, h12, h13]; rfl), H5.out⟩
              case measure => simp [intOf]; omega
          · skip
            go_wp2_with fail
            refine (HPU.out 14 rfl).mono ?_
            rintro e w5 ⟨rfl, h5⟩
            have H5 := Lib.hid h5
            clear h5
            go_wp2_with fail
            go_roundw
            case rel => exact ⟨j + 1, l ++ [ofB 14 k nm g az nw ks bs cz a1 c1 a2 c2 a3 c3 a4 c4 a5 c5], by omega, by go_num, by rw [lps_snoc, show wallB (ofB 14 k nm g az nw ks bs cz a1 c1 a2 c2 a3 c3 a4 c4 a5 c5).k = false from rfl, show loopB (ofB 14 k nm g az nw ks bs cz a1 c1 a2 c2 a3 c3 a4 c4 a5 c5).k = false from rfl]; rfl, by rw [List.length_append, HL.out]; rfl, HOK.out.snoc rfl, H5.out⟩
            case measure => simp [intOf]; omega
        · skip
          go_wp2_with fail
          refine (HPU.out 14 rfl).mono ?_
          rintro e w5 ⟨rfl, h5⟩
          have H5 := Lib.hid h5
          clear h5
          go_wp2_with fail
          go_roundw
          case rel => exact ⟨j + 1, l ++ [ofB 14 k nm g az nw ks bs cz a1 c1 a2 c2 a3 c3 a4 c4 a5 c5], by omega, by go_num, by rw [lps_snoc, show wallB (ofB 14 k nm g az nw ks bs cz a1 c1 a2 c2 a3 c3 a4 c4 a5 c5).k = false from rfl, show loopB (ofB 14 k nm g az nw ks bs cz a1 c1 a2 c2 a3 c3 a4 c4 a5 c5).k = false from rfl]; rfl, by rw [List.length_append, HL.out]; rfl, HOK.out.snoc rfl, H5.out⟩
          case measure => simp [intOf]; omega
      · skip
        go_wp2_with fail
        refine (HPU.out 14 rfl).mono ?_
        rintro e w5 ⟨rfl, h5⟩
        have H5 := Lib.hid h5
        clear h5
        go_wp2_with fail
        go_roundw
        case rel => exact ⟨j + 1, l ++ [ofB 14 k nm g az nw ks bs cz a1 c1 a2 c2 a3 c3 a4 c4 a5 c5], by omega, by go_num, by rw [lps_snoc, show wallB (ofB 14 k nm g az nw ks bs cz a1 c1 a2 c2 a3 c3 a4 c4 a5 c5).k = false from rfl, show loopB (ofB 14 k nm g az nw ks bs cz a1 c1 a2 c2 a3 c3 a4 c4 a5 c5).k = false from rfl]; rfl, by rw [List.length_append, HL.out]; rfl, HOK.out.snoc rfl, H5.out⟩
        case measure => simp [intOf]; omega
    · obtain rfl : j = ns.length := by omega
      have hcl : (lps l l.length).length ≤ 100000 := Nat.le_trans (lps_len l _) (by omega)
      have C4 := HT.out.loops (by omega)
      generalize hc : (lps l l.length).length = c at hcl C4 ⊢
      have HC := Lib.hid hc
      clear hc
      go_wp2_with fail
      refine (C4).mono ?_
      rintro e w5 ⟨rfl, h5⟩
      have H5 := Lib.hid h5
      clear h5
      have C5 := H5.out.brk (by omega) n (by omega)
      by_cases hk : 1 ≤ n ∧ n ≤ c
      · obtain ⟨hk1, hk2⟩ := hk
        obtain ⟨i, hb, hm, hcount, _, hil⟩ := brk_is l n c HC.out hk1 hk2
        have hbl : brkL l n = l.take i := by unfold brkL; rw [hb]
        rw [hb, hbl, show outB (some i) = true from rfl] at C5
        have hok1 := HOK.out.take (HOK.out.pos hm)
        have hl1 : (l.take i).length ≤ 61 := by rw [List.length_take]; omega
        generalize l.take i = L1 at C5 hcount hok1 hl1
        have hw1 : IntKind.i64.wrap ((c : Int) - n) = ((c - n : Nat) : Int) := by rw [show (c : Int) - n = ((c - n : Nat) : Int) by omega]; exact (wrapEq _).trans (IntWalk.wrap64_in _ ⟨by omega, by omega⟩)
        have hC1 : ((c - n : Nat) : Int) = (c : Int) - n := by omega
        obtain ⟨dd, hC⟩ : ∃ dd, dd = c - n := ⟨_, rfl⟩
        rw [← hC] at hw1 hcount
        have hC1l : dd ≤ 100000 := by omega
        have HC1 := Lib.hid hcount; have HO1 := Lib.hid hok1
        have hn1 : decide (1 ≤ (n : Int)) = true := decide_eq_true (by omega)
        have hn2 : decide ((n : Int) ≤ (c : Int)) = true := decide_eq_true (by omega)
        clear hcount hok1 hb hbl hm hC1 hC
        go_wp2_with fail
        refine (C5).mono ?_
        rintro e w6 ⟨rfl, h6⟩
        have H6 := Lib.hid h6
        clear h6
        have C6 := H6.out.loops (by omega)
        rw [HC1.out] at C6
        by_cases hpos : 1 ≤ dd
        · skip
          go_wp2_with fail
          refine (C6).mono ?_
          rintro e w7 ⟨rfl, h7⟩
          have H7 := Lib.hid h7
          clear h7
          have C7 := H7.out.go (by omega) ((dd : Int) + 1) (by omega)
          have hn7 : brk L1 ((dd : Int) + 1) = none := brk_not L1 (dd + 1) dd HC1.out (.inr (by omega))
          have hg7 : goL L1 ((dd : Int) + 1) = L1 := by unfold goL; rw [hn7]
          rw [hn7, hg7] at C7
          go_wp2_with fail
          refine (C7).mono ?_
          rintro e w8 ⟨rfl, h8⟩
          have H8 := Lib.hid h8
          clear h8
          obtain ⟨hgo, hg1, hok2, hl2⟩ := go_is L1 dd HC1.out hpos HO1.out
          have C8 := H8.out.go (by omega) (dd : Int) (by omega)
          rw [hgo] at C8
          generalize goL L1 dd = L2 at hg1 hok2 hl2 C8
          go_wp2_with fail
          refine (C8).mono ?_
          rintro e w9 ⟨rfl, h9⟩
          have H9 := Lib.hid h9
          clear h9
          have C9 := H9.out.loops (by omega)
          rw [hg1] at C9
          go_wp2_with fail
          refine (C9).mono ?_
          rintro e w10 ⟨rfl, h10⟩
          have H10 := Lib.hid h10
          clear h10
          have HO2 := Lib.hid hok2
          clear hg1 hok2
          have C10 := (H10.out.stay (bel1 w10 (.cells #[.int .i64 12, .int .i64 0, .string ⟨#[]⟩, .bool false, .slice none 0 0, .slice none 0 0, .slice none 0 0, .slice none 0 0, .slice none 0 0, .int .i64 0, .int .i64 3, .bool false, .slice none 0 0, .slice none 0 0] 43))).push (lit_items (l := [lit12]) (heap_alloc_new w10 _) rfl) (by rw [List.length_singleton]; omega)
          go_wp2_with fail
          refine (C10).mono ?_
          rintro e w11 ⟨rfl, h11⟩
          have H11 := Lib.hid h11
          clear h11
          have hl3 : (L2 ++ [lit12]).length ≤ 100000 := by rw [List.length_append, List.length_singleton]; omega
          have C11 := H11.out.ret hl3
          rw [(hid_ret L2).1, (hid_ret L2).2, show (icells zero).toArray = #[.int .i64 0, .int .i64 0, .string ⟨#[]⟩, .bool false, .slice none 0 0, .slice none 0 0, .slice none 0 0, .slice none 0 0, .slice none 0 0, .int .i64 0, .int .i64 0, .bool false, .slice none 0 0, .slice none 0 0] from rfl] at C11
          go_wp2_with fail
          refine (C11).mono ?_
          rintro e w12 ⟨rfl, h12⟩
          have H12 := Lib.hid h12
          clear h12
          have hs12 := heap_alloc_new w12 (.cells #[.int .i64 0, .int .i64 0, .string ⟨#[]⟩, .bool false, .slice none 0 0, .slice none 0 0, .slice none 0 0, .slice none 0 0, .slice none 0 0, .int .i64 0, .int .i64 0, .bool false, .slice none 0 0, .slice none 0 0] 43)
          have C12 := (H12.out.stay (bel1 w12 (.cells #[.int .i64 0, .int .i64 0, .string ⟨#[]⟩, .bool false, .slice none 0 0, .slice none 0 0, .slice none 0 0, .slice none 0 0, .slice none 0 0, .int .i64 0, .int .i64 0, .bool false, .slice none 0 0, .slice none 0 0] 43))).loops hl3
          rw [hid_loops L2] at C12
          clear hs12
          go_wp2_with fail
          refine (C12).mono ?_
          rintro e w13 ⟨rfl, h13⟩
          have H13 := Lib.hid h13
          clear h13
          have C13 := H13.out.brk hl3 1 (by omega)
          have hg13 : brkL (L2 ++ [lit12]) 1 = L2 ++ [lit12] := by unfold brkL; rw [hid_brk]
          rw [hid_brk, hg13] at C13
          go_wp2_with fail
          refine (C13).mono ?_
          rintro e w14 ⟨rfl, h14⟩
          have H14 := Lib.hid h14
          clear h14
          have C14 := H14.out.saved hl3
          rw [hid_saved] at C14
          simp only [outS] at C14
          go_wp2_with fail
          refine (C14).mono ?_
          rintro e w15 ⟨rfl, h15⟩
          have H15 := Lib.hid h15
          clear h15
          have C15 := H15.out.pop hl3
          have ht15 : (L2 ++ [lit12]).take ((L2 ++ [lit12]).length - 1) = L2 := by rw [List.length_append, List.length_singleton, Nat.add_sub_cancel, List.take_left]
          rw [ht15] at C15
          have hv15 : topV (L2 ++ [lit12]) = .tuple #[.agg (icells lit12).toArray, .bool true] := by unfold topV; rw [List.getLast?_concat]
          rw [hv15, show (icells lit12).toArray = #[.int .i64 12, .int .i64 0, .string ⟨#[]⟩, .bool false, .slice none 0 0, .slice none 0 0, .slice none 0 0, .slice none 0 0, .slice none 0 0, .int .i64 0, .int .i64 3, .bool false, .slice none 0 0, .slice none 0 0] from rfl] at C15
          go_wp2_with fail
          refine (C15).mono ?_
          rintro e w16 ⟨rfl, h16⟩
          have H16 := Lib.hid h16
          clear h16
          have C16 := H16.out.ret (by omega)
          rw [HO2.out.ret.1, HO2.out.ret.2, show (icells lit9).toArray = #[.int .i64 9, .int .i64 0, .string ⟨#[]⟩, .bool false, .slice none 0 0, .slice none 0 0, .slice none 0 0, .slice none 0 0, .slice none 0 0, .int .i64 0, .int .i64 7, .bool false, .slice none 0 0, .slice none 0 0] from rfl] at C16
          go_wp2_with fail
          refine (C16).mono ?_
          rintro e w17 ⟨rfl, h17⟩
          have H17 := Lib.hid h17
          clear h17
          have C17 := (H17.out.stay (bel1 w17 (.cells #[.int .i64 9, .int .i64 0, .string ⟨#[]⟩, .bool false, .slice none 0 0, .slice none 0 0, .slice none 0 0, .slice none 0 0, .slice none 0 0, .int .i64 0, .int .i64 7, .bool false, .slice none 0 0, .slice none 0 0] 43))).len
          go_wp2_with fail
          refine (C17).mono ?_
          rintro e w18 ⟨rfl, h18⟩
          have H18 := Lib.hid h18
          clear h18
          go_wp2_with fail
          go_ret
          exact ⟨rfl, thru HB2.out H18.out.on⟩
        · skip
          obtain rfl : dd = 0 := by omega
          go_wp2_with fail
          refine (C6).mono ?_
          rintro e w7 ⟨rfl, h7⟩
          have H7 := Lib.hid h7
          clear h7
          have C7 := H7.out.go (by omega) 1 (by omega)
          have hn7 : brk L1 1 = none := brk_not L1 1 0 HC1.out (.inr (by omega))
          have hg7 : goL L1 1 = L1 := by unfold goL; rw [hn7]
          rw [hn7, hg7] at C7
          go_wp2_with fail
          refine (C7).mono ?_
          rintro e w8 ⟨rfl, h8⟩
          have H8 := Lib.hid h8
          clear h8
          obtain ⟨L2, hL2⟩ : ∃ L2, L2 = L1 := ⟨_, rfl⟩
          have HO2 := HO1
          have hl2 : L2.length ≤ L1.length := by rw [hL2]; exact Nat.le_refl _
          have H10 := H8
          rw [← hL2] at HO2 H10
          clear hL2 H8
          have C10 := (H10.out.stay (bel1 w8 (.cells #[.int .i64 12, .int .i64 0, .string ⟨#[]⟩, .bool false, .slice none 0 0, .slice none 0 0, .slice none 0 0, .slice none 0 0, .slice none 0 0, .int .i64 0, .int .i64 3, .bool false, .slice none 0 0, .slice none 0 0] 43))).push (lit_items (l := [lit12]) (heap_alloc_new w8 _) rfl) (by rw [List.length_singleton]; omega)
          go_wp2_with fail
          refine (C10).mono ?_
          rintro e w11 ⟨rfl, h11⟩
          have H11 := Lib.hid h11
          clear h11
          have hl3 : (L2 ++ [lit12]).length ≤ 100000 := by rw [List.length_append, List.length_singleton]; omega
          have C11 := H11.out.ret hl3
          rw [(hid_ret L2).1, (hid_ret L2).2, show (icells zero).toArray = #[.int .i64 0, .int .i64 0, .string ⟨#[]⟩, .bool false, .slice none 0 0, .slice none 0 0, .slice none 0 0, .slice none 0 0, .slice none 0 0, .int .i64 0, .int .i64 0, .bool false, .slice none 0 0, .slice none 0 0] from rfl] at C11
          go_wp2_with fail
          refine (C11).mono ?_
          rintro e w12 ⟨rfl, h12⟩
          have H12 := Lib.hid h12
          clear h12
          have hs12 := heap_alloc_new w12 (.cells #[.int .i64 0, .int .i64 0, .string ⟨#[]⟩, .bool false, .slice none 0 0, .slice none 0 0, .slice none 0 0, .slice none 0 0, .slice none 0 0, .int .i64 0, .int .i64 0, .bool false, .slice none 0 0, .slice none 0 0] 43)
          have C12 := (H12.out.stay (bel1 w12 (.cells #[.int .i64 0, .int .i64 0, .string ⟨#[]⟩, .bool false, .slice none 0 0, .slice none 0 0, .slice none 0 0, .slice none 0 0, .slice none 0 0, .int .i64 0, .int .i64 0, .bool false, .slice none 0 0, .slice none 0 0] 43))).loops hl3
          rw [hid_loops L2] at C12
          clear hs12
          go_wp2_with fail
          refine (C12).mono ?_
          rintro e w13 ⟨rfl, h13⟩
          have H13 := Lib.hid h13
          clear h13
          have C13 := H13.out.brk hl3 1 (by omega)
          have hg13 : brkL (L2 ++ [lit12]) 1 = L2 ++ [lit12] := by unfold brkL; rw [hid_brk]
          rw [hid_brk, hg13] at C13
          go_wp2_with fail
          refine (C13).mono ?_
          rintro e w14 ⟨rfl, h14⟩
          have H14 := Lib.hid h14
          clear h14
          have C14 := H14.out.saved hl3
          rw [hid_saved] at C14
          simp only [outS] at C14
          go_wp2_with fail
          refine (C14).mono ?_
          rintro e w15 ⟨rfl, h15⟩
          have H15 := Lib.hid h15
          clear h15
          have C15 := H15.out.pop hl3
          have ht15 : (L2 ++ [lit12]).take ((L2 ++ [lit12]).length - 1) = L2 := by rw [List.length_append, List.length_singleton, Nat.add_sub_cancel, List.take_left]
          rw [ht15] at C15
          have hv15 : topV (L2 ++ [lit12]) = .tuple #[.agg (icells lit12).toArray, .bool true] := by unfold topV; rw [List.getLast?_concat]
          rw [hv15, show (icells lit12).toArray = #[.int .i64 12, .int .i64 0, .string ⟨#[]⟩, .bool false, .slice none 0 0, .slice none 0 0, .slice none 0 0, .slice none 0 0, .slice none 0 0, .int .i64 0, .int .i64 3, .bool false, .slice none 0 0, .slice none 0 0] from rfl] at C15
          go_wp2_with fail
          refine (C15).mono ?_
          rintro e w16 ⟨rfl, h16⟩
          have H16 := Lib.hid h16
          clear h16
          have C16 := H16.out.ret (by omega)
          rw [HO2.out.ret.1, HO2.out.ret.2, show (icells lit9).toArray = #[.int .i64 9, .int .i64 0, .string ⟨#[]⟩, .bool false, .slice none 0 0, .slice none 0 0, .slice none 0 0, .slice none 0 0, .slice none 0 0, .int .i64 0, .int .i64 7, .bool false, .slice none 0 0, .slice none 0 0] from rfl] at C16
          go_wp2_with fail
          refine (C16).mono ?_
          rintro e w17 ⟨rfl, h17⟩
          have H17 := Lib.hid h17
          clear h17
          have C17 := (H17.out.stay (bel1 w17 (.cells #[.int .i64 9, .int .i64 0, .string ⟨#[]⟩, .bool false, .slice none 0 0, .slice none 0 0, .slice none 0 0, .slice none 0 0, .slice none 0 0, .int .i64 0, .int .i64 7, .bool false, .slice none 0 0, .slice none 0 0] 43))).len
          go_wp2_with fail
          refine (C17).mono ?_
          rintro e w18 ⟨rfl, h18⟩
          have H18 := Lib.hid h18
          clear h18
          go_wp2_with fail
          go_ret
          exact ⟨rfl, thru HB2.out H18.out.on⟩
      · have hb : brk l n = none := brk_not l n c HC.out (by omega)
        have hbl : brkL l n = l := by unfold brkL; rw [hb]
        rw [hb, hbl, show outB none = false from rfl] at C5
        clear hb hbl
        by_cases h1 : 1 ≤ n
        · skip
          have hn1 : decide (1 ≤ (n : Int)) = true := decide_eq_true (by omega)
          have hn2 : decide ((n : Int) ≤ (c : Int)) = false := decide_eq_false (by omega)
          have hn3 : decide (n ≤ c) = false := decide_eq_false (by omega)
          go_wp2_with fail
          refine (C5).mono ?_
          rintro e w6 ⟨rfl, h6⟩
          have H6 := Lib.hid h6
          clear h6
          have C6 := H6.out.loops (by omega)
          rw [HC.out] at C6
          by_cases hpos : 1 ≤ c
          · skip
            go_wp2_with fail
            refine (C6).mono ?_
            rintro e w7 ⟨rfl, h7⟩
            have H7 := Lib.hid h7
            clear h7
            have C7 := H7.out.go (by omega) ((c : Int) + 1) (by omega)
            have hn7 : brk l ((c : Int) + 1) = none := brk_not l (c + 1) c HC.out (.inr (by omega))
            have hg7 : goL l ((c : Int) + 1) = l := by unfold goL; rw [hn7]
            rw [hn7, hg7] at C7
            go_wp2_with fail
            refine (C7).mono ?_
            rintro e w8 ⟨rfl, h8⟩
            have H8 := Lib.hid h8
            clear h8
            obtain ⟨hgo, hg1, hok2, hl2⟩ := go_is l c HC.out hpos HOK.out
            have C8 := H8.out.go (by omega) (c : Int) (by omega)
            rw [hgo] at C8
            generalize goL l c = L2 at hg1 hok2 hl2 C8
            go_wp2_with fail
            refine (C8).mono ?_
            rintro e w9 ⟨rfl, h9⟩
            have H9 := Lib.hid h9
            clear h9
            have C9 := H9.out.loops (by omega)
            rw [hg1] at C9
            go_wp2_with fail
            refine (C9).mono ?_
            rintro e w10 ⟨rfl, h10⟩
            have H10 := Lib.hid h10
            clear h10
            have HO2 := Lib.hid hok2
            clear hg1 hok2
            have C10 := (H10.out.stay (bel1 w10 (.cells #[.int .i64 12, .int .i64 0, .string ⟨#[]⟩, .bool false, .slice none 0 0, .slice none 0 0, .slice none 0 0, .slice none 0 0, .slice none 0 0, .int .i64 0, .int .i64 3, .bool false, .slice none 0 0, .slice none 0 0] 43))).push (lit_items (l := [lit12]) (heap_alloc_new w10 _) rfl) (by rw [List.length_singleton]; omega)
            go_wp2_with fail
            refine (C10).mono ?_
            rintro e w11 ⟨rfl, h11⟩
            have H11 := Lib.hid h11
            clear h11
            have hl3 : (L2 ++ [lit12]).length ≤ 100000 := by rw [List.length_append, List.length_singleton]; omega
            have C11 := H11.out.ret hl3
            rw [(hid_ret L2).1, (hid_ret L2).2, show (icells zero).toArray = #[.int .i64 0, .int .i64 0, .string ⟨#[]⟩, .bool false, .slice none 0 0, .slice none 0 0, .slice none 0 0, .slice none 0 0, .slice none 0 0, .int .i64 0, .int .i64 0, .bool false, .slice none 0 0, .slice none 0 0] from rfl] at C11
            go_wp2_with fail
            refine (C11).mono ?_
            rintro e w12 ⟨rfl, h12⟩
            have H12 := Lib.hid h12
            clear h12
            have hs12 := heap_alloc_new w12 (.cells #[.int .i64 0, .int .i64 0, .string ⟨#[]⟩, .bool false, .slice none 0 0, .slice none 0 0, .slice none 0 0, .slice none 0 0, .slice none 0 0, .int .i64 0, .int .i64 0, .bool false, .slice none 0 0, .slice none 0 0] 43)
            have C12 := (H12.out.stay (bel1 w12 (.cells #[.int .i64 0, .int .i64 0, .string ⟨#[]⟩, .bool false, .slice none 0 0, .slice none 0 0, .slice none 0 0, .slice none 0 0, .slice none 0 0, .int .i64 0, .int .i64 0, .bool false, .slice none 0 0, .slice none 0 0] 43))).loops hl3
            rw [hid_loops L2] at C12
            clear hs12
            go_wp2_with fail
            refine (C12).mono ?_
            rintro e w13 ⟨rfl, h13⟩
            have H13 := Lib.hid h13
            clear h13
            have C13 := H13.out.brk hl3 1 (by omega)
            have hg13 : brkL (L2 ++ [lit12]) 1 = L2 ++ [lit12] := by unfold brkL; rw [hid_brk]
            rw [hid_brk, hg13] at C13
            go_wp2_with fail
            refine (C13).mono ?_
            rintro e w14 ⟨rfl, h14⟩
            have H14 := Lib.hid h14
            clear h14
            have C14 := H14.out.saved hl3
            rw [hid_saved] at C14
            simp only [outS] at C14
            go_wp2_with fail
            refine (C14).mono ?_
            rintro e w15 ⟨rfl, h15⟩
            have H15 := Lib.hid h15
            clear h15
            have C15 := H15.out.pop hl3
            have ht15 : (L2 ++ [lit12]).take ((L2 ++ [lit12]).length - 1) = L2 := by rw [List.length_append, List.length_singleton, Nat.add_sub_cancel, List.take_left]
            rw [ht15] at C15
            have hv15 : topV (L2 ++ [lit12]) = .tuple #[.agg (icells lit12).toArray, .bool true] := by unfold topV; rw [List.getLast?_concat]
            rw [hv15, show (icells lit12).toArray = #[.int .i64 12, .int .i64 0, .string ⟨#[]⟩, .bool false, .slice none 0 0, .slice none 0 0, .slice none 0 0, .slice none 0 0, .slice none 0 0, .int .i64 0, .int .i64 3, .bool false, .slice none 0 0, .slice none 0 0] from rfl] at C15
            go_wp2_with fail
            refine (C15).mono ?_
            rintro e w16 ⟨rfl, h16⟩
            have H16 := Lib.hid h16
            clear h16
            have C16 := H16.out.ret (by omega)
            rw [HO2.out.ret.1, HO2.out.ret.2, show (icells lit9).toArray = #[.int .i64 9, .int .i64 0, .string ⟨#[]⟩, .bool false, .slice none 0 0, .slice none 0 0, .slice none 0 0, .slice none 0 0, .slice none 0 0, .int .i64 0, .int .i64 7, .bool false, .slice none 0 0, .slice none 0 0] from rfl] at C16
            go_wp2_with fail
            refine (C16).mono ?_
            rintro e w17 ⟨rfl, h17⟩
            have H17 := Lib.hid h17
            clear h17
            have C17 := (H17.out.stay (bel1 w17 (.cells #[.int .i64 9, .int .i64 0, .string ⟨#[]⟩, .bool false, .slice none 0 0, .slice none 0 0, .slice none 0 0, .slice none 0 0, .slice none 0 0, .int .i64 0, .int .i64 7, .bool false, .slice none 0 0, .slice none 0 0] 43))).len
            go_wp2_with fail
            refine (C17).mono ?_
            rintro e w18 ⟨rfl, h18⟩
            have H18 := Lib.hid h18
            clear h18
            go_wp2_with fail
            go_ret
            exact ⟨rfl, thru HB2.out H18.out.on⟩
          · skip
            obtain rfl : c = 0 := by omega
            go_wp2_with fail
            refine (C6).mono ?_
            rintro e w7 ⟨rfl, h7⟩
            have H7 := Lib.hid h7
            clear h7
            have C7 := H7.out.go (by omega) 1 (by omega)
            have hn7 : brk l 1 = none := brk_not l 1 0 HC.out (.inr (by omega))
            have hg7 : goL l 1 = l := by unfold goL; rw [hn7]
            rw [hn7, hg7] at C7
            go_wp2_with fail
            refine (C7).mono ?_
            rintro e w8 ⟨rfl, h8⟩
            have H8 := Lib.hid h8
            clear h8
            obtain ⟨L2, hL2⟩ : ∃ L2, L2 = l := ⟨_, rfl⟩
            have HO2 := HOK
            have hl2 : L2.length ≤ l.length := by rw [hL2]; exact Nat.le_refl _
            have H10 := H8
            rw [← hL2] at HO2 H10
            clear hL2 H8
            have C10 := (H10.out.stay (bel1 w8 (.cells #[.int .i64 12, .int .i64 0, .string ⟨#[]⟩, .bool false, .slice none 0 0, .slice none 0 0, .slice none 0 0, .slice none 0 0, .slice none 0 0, .int .i64 0, .int .i64 3, .bool false, .slice none 0 0, .slice none 0 0] 43))).push (lit_items (l := [lit12]) (heap_alloc_new w8 _) rfl) (by rw [List.length_singleton]; omega)
            go_wp2_with fail
            refine (C10).mono ?_
            rintro e w11 ⟨rfl, h11⟩
            have H11 := Lib.hid h11
            clear h11
            have hl3 : (L2 ++ [lit12]).length ≤ 100000 := by rw [List.length_append, List.length_singleton]; omega
            have C11 := H11.out.ret hl3
            rw [(hid_ret L2).1, (hid_ret L2).2, show (icells zero).toArray = #[.int .i64 0, .int .i64 0, .string ⟨#[]⟩, .bool false, .slice none 0 0, .slice none 0 0, .slice none 0 0, .slice none 0 0, .slice none 0 0, .int .i64 0, .int .i64 0, .bool false, .slice none 0 0, .slice none 0 0] from rfl] at C11
            go_wp2_with fail
            refine (C11).mono ?_
            rintro e w12 ⟨rfl, h12⟩
            have H12 := Lib.hid h12
            clear h12
            have hs12 := heap_alloc_new w12 (.cells #[.int .i64 0, .int .i64 0, .string ⟨#[]⟩, .bool false, .slice none 0 0, .slice none 0 0, .slice none 0 0, .slice none 0 0, .slice none 0 0, .int .i64 0, .int .i64 0, .bool false, .slice none 0 0, .slice none 0 0] 43)
            have C12 := (H12.out.stay (bel1 w12 (.cells #[.int .i64 0, .int .i64 0, .string ⟨#[]⟩, .bool false, .slice none 0 0, .slice none 0 0, .slice none 0 0, .slice none 0 0, .slice none 0 0, .int .i64 0, .int .i64 0, .bool false, .slice none 0 0, .slice none 0 0] 43))).loops hl3
            rw [hid_loops L2] at C12
            clear hs12
            go_wp2_with fail
            refine (C12).mono ?_
            rintro e w13 ⟨rfl, h13⟩
            have H13 := Lib.hid h13
            clear h13
            have C13 := H13.out.brk hl3 1 (by omega)
            have hg13 : brkL (L2 ++ [lit12]) 1 = L2 ++ [lit12] := by unfold brkL; rw [hid_brk]
            rw [hid_brk, hg13] at C13
            go_wp2_with fail
            refine (C13).mono ?_
            rintro e w14 ⟨rfl, h14⟩
            have H14 := Lib.hid h14
            clear h14
            have C14 := H14.out.saved hl3
            rw [hid_saved] at C14
            simp only [outS] at C14
            go_wp2_with fail
            refine (C14).mono ?_
            rintro e w15 ⟨rfl, h15⟩
            have H15 := Lib.hid h15
            clear h15
            have C15 := H15.out.pop hl3
            have ht15 : (L2 ++ [lit12]).take ((L2 ++ [lit12]).length - 1) = L2 := by rw [List.length_append, List.length_singleton, Nat.add_sub_cancel, List.take_left]
            rw [ht15] at C15
            have hv15 : topV (L2 ++ [lit12]) = .tuple #[.agg (icells lit12).toArray, .bool true] := by unfold topV; rw [List.getLast?_concat]
            rw [hv15, show (icells lit12).toArray = #[.int .i64 12, .int .i64 0, .string ⟨#[]⟩, .bool false, .slice none 0 0, .slice none 0 0, .slice none 0 0, .slice none 0 0, .slice none 0 0, .int .i64 0, .int .i64 3, .bool false, .slice none 0 0, .slice none 0 0] from rfl] at C15
            go_wp2_with fail
            refine (C15).mono ?_
            rintro e w16 ⟨rfl, h16⟩
            have H16 := Lib.hid h16
            clear h16
            have C16 := H16.out.ret (by omega)
            rw [HO2.out.ret.1, HO2.out.ret.2, show (icells lit9).toArray = #[.int .i64 9, .int .i64 0, .string ⟨#[]⟩, .bool false, .slice none 0 0, .slice none 0 0, .slice none 0 0, .slice none 0 0, .slice none 0 0, .int .i64 0, .int .i64 7, .bool false, .slice none 0 0, .slice none 0 0] from rfl] at C16
            go_wp2_with fail
            refine (C16).mono ?_
            rintro e w17 ⟨rfl, h17⟩
            have H17 := Lib.hid h17
            clear h17
            have C17 := (H17.out.stay (bel1 w17 (.cells #[.int .i64 9, .int .i64 0, .string ⟨#[]⟩, .bool false, .slice none 0 0, .slice none 0 0, .slice none 0 0, .slice none 0 0, .slice none 0 0, .int .i64 0, .int .i64 7, .bool false, .slice none 0 0, .slice none 0 0] 43))).len
            go_wp2_with fail
            refine (C17).mono ?_
            rintro e w18 ⟨rfl, h18⟩
            have H18 := Lib.hid h18
            clear h18
            go_wp2_with fail
            go_ret
            exact ⟨rfl, thru HB2.out H18.out.on⟩
        · skip
          have hn1 : decide (1 ≤ (n : Int)) = false := decide_eq_false (by omega)
          go_wp2_with fail
          refine (C5).mono ?_
          rintro e w6 ⟨rfl, h6⟩
          have H6 := Lib.hid h6
          clear h6
          have C6 := H6.out.loops (by omega)
          rw [HC.out] at C6
          by_cases hpos : 1 ≤ c
          · skip
            go_wp2_with fail
            refine (C6).mono ?_
            rintro e w7 ⟨rfl, h7⟩
            have H7 := Lib.hid h7
            clear h7
            have C7 := H7.out.go (by omega) ((c : Int) + 1) (by omega)
            have hn7 : brk l ((c : Int) + 1) = none := brk_not l (c + 1) c HC.out (.inr (by omega))
            have hg7 : goL l ((c : Int) + 1) = l := by unfold goL; rw [hn7]
            rw [hn7, hg7] at C7
            go_wp2_with fail
            refine (C7).mono ?_
            rintro e w8 ⟨rfl, h8⟩
            have H8 := Lib.hid h8
            clear h8
            obtain ⟨hgo, hg1, hok2, hl2⟩ := go_is l c HC.out hpos HOK.out
            have C8 := H8.out.go (by omega) (c : Int) (by omega)
            rw [hgo] at C8
            generalize goL l c = L2 at hg1 hok2 hl2 C8
            go_wp2_with fail
            refine (C8).mono ?_
            rintro e w9 ⟨rfl, h9⟩
            have H9 := Lib.hid h9
            clear h9
            have C9 := H9.out.loops (by omega)
            rw [hg1] at C9
            go_wp2_with fail
            refine (C9).mono ?_
            rintro e w10 ⟨rfl, h10⟩
            have H10 := Lib.hid h10
            clear h10
            have HO2 := Lib.hid hok2
            clear hg1 hok2
            have C10 := (H10.out.stay (bel1 w10 (.cells #[.int .i64 12, .int .i64 0, .string ⟨#[]⟩, .bool false, .slice none 0 0, .slice none 0 0, .slice none 0 0, .slice none 0 0, .slice none 0 0, .int .i64 0, .int .i64 3, .bool false, .slice none 0 0, .slice none 0 0] 43))).push (lit_items (l := [lit12]) (heap_alloc_new w10 _) rfl) (by rw [List.length_singleton]; omega)
            go_wp2_with fail
            refine (C10).mono ?_
            rintro e w11 ⟨rfl, h11⟩
            have H11 := Lib.hid h11
            clear h11
            have hl3 : (L2 ++ [lit12]).length ≤ 100000 := by rw [List.length_append, List.length_singleton]; omega
            have C11 := H11.out.ret hl3
            rw [(hid_ret L2).1, (hid_ret L2).2, show (icells zero).toArray = #[.int .i64 0, .int .i64 0, .string ⟨#[]⟩, .bool false, .slice none 0 0, .slice none 0 0, .slice none 0 0, .slice none 0 0, .slice none 0 0, .int .i64 0, .int .i64 0, .bool false, .slice none 0 0, .slice none 0 0] from rfl] at C11
            go_wp2_with fail
            refine (C11).mono ?_
            rintro e w12 ⟨rfl, h12⟩
            have H12 := Lib.hid h12
            clear h12
            have hs12 := heap_alloc_new w12 (.cells #[.int .i64 0, .int .i64 0, .string ⟨#[]⟩, .bool false, .slice none 0 0, .slice none 0 0, .slice none 0 0, .slice none 0 0, .slice none 0 0, .int .i64 0, .int .i64 0, .bool false, .slice none 0 0, .slice none 0 0] 43)
            have C12 := (H12.out.stay (bel1 w12 (.cells #[.int .i64 0, .int .i64 0, .string ⟨#[]⟩, .bool false, .slice none 0 0, .slice none 0 0, .slice none 0 0, .slice none 0 0, .slice none 0 0, .int .i64 0, .int .i64 0, .bool false, .slice none 0 0, .slice none 0 0] 43))).loops hl3
            rw [hid_loops L2] at C12
            clear hs12
            go_wp2_with fail
            refine (C12).mono ?_
            rintro e w13 ⟨rfl, h13⟩
            have H13 := Lib.hid h13
            clear h13
            have C13 := H13.out.brk hl3 1 (by omega)
            have hg13 : brkL (L2 ++ [lit12]) 1 = L2 ++ [lit12] := by unfold brkL; rw [hid_brk]
            rw [hid_brk, hg13] at C13
            go_wp2_with fail
            refine (C13).mono ?_
            rintro e w14 ⟨rfl, h14⟩
            have H14 := Lib.hid h14
            clear h14
            have C14 := H14.out.saved hl3
            rw [hid_saved] at C14
            simp only [outS] at C14
            go_wp2_with fail
            refine (C14).mono ?_
            rintro e w15 ⟨rfl, h15⟩
            have H15 := Lib.hid h15
            clear h15
            have C15 := H15.out.pop hl3
            have ht15 : (L2 ++ [lit12]).take ((L2 ++ [lit12]).length - 1) = L2 := by rw [List.length_append, List.length_singleton, Nat.add_sub_cancel, List.take_left]
            rw [ht15] at C15
            have hv15 : topV (L2 ++ [lit12]) = .tuple #[.agg (icells lit12).toArray, .bool true] := by unfold topV; rw [List.getLast?_concat]
            rw [hv15, show (icells lit12).toArray = #[.int .i64 12, .int .i64 0, .string ⟨#[]⟩, .bool false, .slice none 0 0, .slice none 0 0, .slice none 0 0, .slice none 0 0, .slice none 0 0, .int .i64 0, .int .i64 3, .bool false, .slice none 0 0, .slice none 0 0] from rfl] at C15
            go_wp2_with fail
            refine (C15).mono ?_
            rintro e w16 ⟨rfl, h16⟩
            have H16 := Lib.hid h16
            clear h16
            have C16 := H16.out.ret (by omega)
            rw [HO2.out.ret.1, HO2.out.ret.2, show (icells lit9).toArray = #[.int .i64 9, .int .i64 0, .string ⟨#[]⟩, .bool false, .slice none 0 0, .slice none 0 0, .slice none 0 0, .slice none 0 0, .slice none 0 0, .int .i64 0, .int .i64 7, .bool false, .slice none 0 0, .slice none 0 0] from rfl] at C16
            go_wp2_with fail
            refine (C16).mono ?_
            rintro e w17 ⟨rfl, h17⟩
            have H17 := Lib.hid h17
            clear h17
            have C17 := (H17.out.stay (bel1 w17 (.cells #[.int .i64 9, .int .i64 0, .string ⟨#[]⟩, .bool false, .slice none 0 0, .slice none 0 0, .slice none 0 0, .slice none 0 0, .slice none 0 0, .int .i64 0, .int .i64 7, .bool false, .slice none 0 0, .slice none 0 0] 43))).len
            go_wp2_with fail
            refine (C17).mono ?_
            rintro e w18 ⟨rfl, h18⟩
            have H18 := Lib.hid h18
            clear h18
            go_wp2_with fail
            go_ret
            exact ⟨rfl, thru HB2.out H18.out.on⟩
          · skip
            obtain rfl : c = 0 := by omega
            go_wp2_with fail
            refine (C6).mono ?_
            rintro e w7 ⟨rfl, h7⟩
            have H7 := Lib.hid h7
            clear h7
            have C7 := H7.out.go (by omega) 1 (by omega)
            have hn7 : brk l 1 = none := brk_not l 1 0 HC.out (.inr (by omega))
            have hg7 : goL l 1 = l := by unfold goL; rw [hn7]
            rw [hn7, hg7] at C7
            go_wp2_with fail
            refine (C7).mono ?_
            rintro e w8 ⟨rfl, h8⟩
            have H8 := Lib.hid h8
            clear h8
            obtain ⟨L2, hL2⟩ : ∃ L2, L2 = l := ⟨_, rfl⟩
            have HO2 := HOK
            have hl2 : L2.length ≤ l.length := by rw [hL2]; exact Nat.le_refl _
            have H10 := H8
            rw [← hL2] at HO2 H10
            clear hL2 H8
            have C10 := (H10.out.stay (bel1 w8 (.cells #[.int .i64 12, .int .i64 0, .string ⟨#[]⟩, .bool false, .slice none 0 0, .slice none 0 0, .slice none 0 0, .slice none 0 0, .slice none 0 0, .int .i64 0, .int .i64 3, .bool false, .slice none 0 0, .slice none 0 0] 43))).push (lit_items (l := [lit12]) (heap_alloc_new w8 _) rfl) (by rw [List.length_singleton]; omega)
            go_wp2_with fail
            refine (C10).mono ?_
            rintro e w11 ⟨rfl, h11⟩
            have H11 := Lib.hid h11
            clear h11
            have hl3 : (L2 ++ [lit12]).length ≤ 100000 := by rw [List.length_append, List.length_singleton]; omega
            have C11 := H11.out.ret hl3
            rw [(hid_ret L2).1, (hid_ret L2).2, show (icells zero).toArray = #[.int .i64 0, .int .i64 0, .string ⟨#[]⟩, .bool false, .slice none 0 0, .slice none 0 0, .slice none 0 0, .slice none 0 0, .slice none 0 0, .int .i64 0, .int .i64 0, .bool false, .slice none 0 0, .slice none 0 0] from rfl] at C11
            go_wp2_with fail
            refine (C11).mono ?_
            rintro e w12 ⟨rfl, h12⟩
            have H12 := Lib.hid h12
            clear h12
            have hs12 := heap_alloc_new w12 (.cells #[.int .i64 0, .int .i64 0, .string ⟨#[]⟩, .bool false, .slice none 0 0, .slice none 0 0, .slice none 0 0, .slice none 0 0, .slice none 0 0, .int .i64 0, .int .i64 0, .bool false, .slice none 0 0, .slice none 0 0] 43)
            have C12 := (H12.out.stay (bel1 w12 (.cells #[.int .i64 0, .int .i64 0, .string ⟨#[]⟩, .bool false, .slice none 0 0, .slice none 0 0, .slice none 0 0, .slice none 0 0, .slice none 0 0, .int .i64 0, .int .i64 0, .bool false, .slice none 0 0, .slice none 0 0] 43))).loops hl3
            rw [hid_loops L2] at C12
            clear hs12
            go_wp2_with fail
            refine (C12).mono ?_
            rintro e w13 ⟨rfl, h13⟩
            have H13 := Lib.hid h13
            clear h13
            have C13 := H13.out.brk hl3 1 (by omega)
            have hg13 : brkL (L2 ++ [lit12]) 1 = L2 ++ [lit12] := by unfold brkL; rw [hid_brk]
            rw [hid_brk, hg13] at C13
            go_wp2_with fail
            refine (C13).mono ?_
            rintro e w14 ⟨rfl, h14⟩
            have H14 := Lib.hid h14
            clear h14
            have C14 := H14.out.saved hl3
            rw [hid_saved] at C14
            simp only [outS] at C14
            go_wp2_with fail
            refine (C14).mono ?_
            rintro e w15 ⟨rfl, h15⟩
            have H15 := Lib.hid h15
            clear h15
            have C15 := H15.out.pop hl3
            have ht15 : (L2 ++ [lit12]).take ((L2 ++ [lit12]).length - 1) = L2 := by rw [List.length_append, List.length_singleton, Nat.add_sub_cancel, List.take_left]
            rw [ht15] at C15
            have hv15 : topV (L2 ++ [lit12]) = .tuple #[.agg (icells lit12).toArray, .bool true] := by unfold topV; rw [List.getLast?_concat]
            rw [hv15, show (icells lit12).toArray = #[.int .i64 12, .int .i64 0, .string ⟨#[]⟩, .bool false, .slice none 0 0, .slice none 0 0, .slice none 0 0, .slice none 0 0, .slice none 0 0, .int .i64 0, .int .i64 3, .bool false, .slice none 0 0, .slice none 0 0] from rfl] at C15
            go_wp2_with fail
            refine (C15).mono ?_
            rintro e w16 ⟨rfl, h16⟩
            have H16 := Lib.hid h16
            clear h16
            have C16 := H16.out.ret (by omega)
            rw [HO2.out.ret.1, HO2.out.ret.2, show (icells lit9).toArray = #[.int .i64 9, .int .i64 0, .string ⟨#[]⟩, .bool false, .slice none 0 0, .slice none 0 0, .slice none 0 0, .slice none 0 0, .slice none 0 0, .int .i64 0, .int .i64 7, .bool false, .slice none 0 0, .slice none 0 0] from rfl] at C16
            go_wp2_with fail
            refine (C16).mono ?_
            rintro e w17 ⟨rfl, h17⟩
            have H17 := Lib.hid h17
            clear h17
            have C17 := (H17.out.stay (bel1 w17 (.cells #[.int .i64 9, .int .i64 0, .string ⟨#[]⟩, .bool false, .slice none 0 0, .slice none 0 0, .slice none 0 0, .slice none 0 0, .slice none 0 0, .int .i64 0, .int .i64 7, .bool false, .slice none 0 0, .slice none 0 0] 43))).len
            go_wp2_with fail
            refine (C17).mono ?_
            rintro e w18 ⟨rfl, h18⟩
            have H18 := Lib.hid h18
            clear h18
            go_wp2_with fail
            go_ret
            exact ⟨rfl, thru HB2.out H18.out.on⟩
end Fra
end Go.Proofs.Ytbcldfaphnnmlaa
