/- The law PatternParts, walked by its callees' contracts. -/
import Derived.Test.YtfjfgaefbldgbaaPnO
namespace Go.Proofs.Ytfjfgaefbldgbaa
open Go.RowKit Go.Sort
namespace Pn
set_option maxHeartbeats 400000 in
theorem lit_any (s : ByteArray) (w : World) : Calls Try.prog 11 #[.string s] w fun e w' => e = .returned (.slice (some ⟨w.heap.size, 0, none⟩) 1 1) ∧ w' = w.alloc (.cells #[.string s, .bool true, .bool false] 27) := by
  go_enter Try.func11, Try.ntmps11
  go_wp2_with fail
  go_ret
  exact ⟨rfl, rfl⟩
set_option maxHeartbeats 800000 in
theorem same_any (t : ByteArray) (q u : Bool) (b1 o1 b2 o2 c1 c2 : Nat) (w : World) (h1 : Pcs w (some ⟨b1, o1, none⟩) [(t, q, u)]) (h2 : Pcs w (some ⟨b2, o2, none⟩) [(t, q, u)]) :
    Calls Try.prog 12 #[.slice (some ⟨b1, o1, none⟩) 1 c1, .slice (some ⟨b2, o2, none⟩) 1 c2] w fun e w' => e = .returned (.bool true) ∧ Below w.heap.size w w' := by
  obtain ⟨_, _, e1, hb1, x0, x1, x2⟩ := h1.get (i := 0) (by simp)
  cases e1
  obtain ⟨_, _, e2, hb2, y0, y1, y2⟩ := h2.get (i := 0) (by simp)
  cases e2
  rw [Nat.zero_mul, Nat.add_zero] at x0 x1 x2 y0 y1 y2
  have hee : (t.toList == t.toList) = true := beq_self_eq_true _
  go_enter Try.func12, Try.ntmps12
  go_wp2_with fail
  go_loopw [13] (fun x wr => (x = .int .i64 0 ∨ x = .int .i64 1) ∧ Below w.heap.size w wr) (fun x _ => 1 - (intOf x).toNat)
  case atStart => exact ⟨.inl rfl, Below.refl _ _⟩
  case round =>
    obtain ⟨hx, hbw⟩ := hrel
    have HW := Lib.hid hbw
    rcases hx with rfl | rfl
    · have k0 := cell_regrown ((hbw.cell (p := ⟨b1, o1, none⟩) hb1).trans x0)
      have k1 := cell_regrown ((hbw.cell (p := ⟨b1, o1 + 1, none⟩) hb1).trans x1)
      have k2 := cell_regrown ((hbw.cell (p := ⟨b1, o1 + 2, none⟩) hb1).trans x2)
      have k3 := cell_regrown ((hbw.cell (p := ⟨b2, o2, none⟩) hb2).trans y0)
      have k4 := cell_regrown ((hbw.cell (p := ⟨b2, o2 + 1, none⟩) hb2).trans y1)
      have k5 := cell_regrown ((hbw.cell (p := ⟨b2, o2 + 2, none⟩) hb2).trans y2)
      have HBR := Lib.hid (fun dq osq => HW.out.trans ((below_regrown wr dq osq).mono HW.out.size))
      clear hbw
      go_wp2_with fail
      refine Qu.region (by kernel_rfl) (by kernel_rfl) ?_
      repeat (first
        | (first | refine Qu.carry0 rfl (fun K hK => ?_) | refine Qu.carryG rfl rfl rfl (fun K hK => ?_)
           go_simp
           first
           | (refine hK _ ?_; clear hK K)
           | (apply Exists.intro; refine ⟨fun _ => ?_, hK _ ?_⟩; fail; clear hK K))
        | (refine Qu.passG rfl rfl rfl (fun K hK => ?_); go_simp; refine hK _ ?_; clear hK K))
      refine Qu.fin ?_
      rintro ⟨dq, osq⟩
      go_wp2_with fail
      go_roundw
      case rel => exact ⟨.inr rfl, HBR.out _ _⟩
      case measure => simp [intOf]
    · go_wp2_with fail
      go_ret
      exact ⟨rfl, HW.out⟩
/-- The law's two pieces, as they lie in memory. -/
structure St (w w1 W : World) (b : ByteArray) : Prop where
  s : W.heap[w1.heap.size]? = some (.cells #[.string ⟨#[42]⟩, .bool false, .bool false] 27 (0, 0))
  q : W.heap[w1.heap.size + 1]? = some (.cells #[.string b, .bool true, .bool false] 27 (0, 0))
  b : Below w.heap.size w W
theorem St.below {w w1 W W' : World} {b : ByteArray} (h : St w w1 W b) (hb : Below W.heap.size W W') : St w w1 W' b :=
  ⟨(hb.block _ (Array.getElem?_eq_some_iff.1 h.s).1).trans h.s, (hb.block _ (Array.getElem?_eq_some_iff.1 h.q).1).trans h.q, h.b.trans (hb.mono h.b.size)⟩
theorem three_pieces (w : World) (t1 t2 t3 : ByteArray) (q1 q2 q3 c1 c2 c3 : Bool) : Pcs (w.alloc (.cells #[.string t1, .bool q1, .bool c1, .string t2, .bool q2, .bool c2, .string t3, .bool q3, .bool c3] 27)) (some ⟨w.heap.size, 0, none⟩) [(t1, q1, c1), (t2, q2, c2), (t3, q3, c3)] := by
  refine .inr ⟨_, 0, rfl, by simp, fun i hi => ?_⟩
  have h : i = 0 ∨ i = 1 ∨ i = 2 := by simp at hi; omega
  rcases h with rfl | rfl | rfl <;> exact ⟨World.cell?_alloc_at _ _ _ _ rfl, World.cell?_alloc_at _ _ _ _ rfl, World.cell?_alloc_at _ _ _ _ rfl⟩
theorem one_pieceH {w : World} {H : Nat} (h : w.heap.size = H) (t : ByteArray) (q c : Bool) : Pcs (w.alloc (.cells #[.string t, .bool q, .bool c] 27)) (some ⟨H, 0, none⟩) [(t, q, c)] := by subst h; exact one_piece w t q c
theorem bel1 (w : World) (o : Obj) : Below w.heap.size w (w.alloc o) := (Below.refl _ w).alloc (Nat.le_refl _) _
set_option maxHeartbeats 4000000 in
theorem parts_law (a b c : ByteArray) (w : World) (ha : a.size ≤ 9223372036854775807) (hb : b.size ≤ 9223372036854775807) (hc : c.size ≤ 9223372036854775807) :
    Calls Try.prog 4 #[.string a, .string b, .string c] w fun e w' => e = .returned (.bool true) ∧ Below w.heap.size w w' := by
  by_cases hbig : 100 < a.size ∨ 100 < b.size ∨ 100 < c.size
  · go_enter Try.func4, Try.ntmps4
    have HBG := Lib.hid hbig
    clear hbig
    go_wp2_with fail
    refine (alive_any _).mono ?_
    rintro e w1 ⟨rfl, hb1⟩
    have HB1 := Lib.hid hb1
    clear hb1
    rcases (show 100 < a.size ∨ (¬ 100 < a.size ∧ 100 < b.size) ∨ (¬ 100 < a.size ∧ ¬ 100 < b.size ∧ 100 < c.size) by have := HBG.out; omega) with h1 | ⟨h1, h2⟩ | ⟨h1, h2, h3⟩
    all_goals
      go_wp2_with fail
      go_ret
      exact ⟨rfl, HB1.out⟩
  · have h1 : a.size ≤ 100 := by omega
    have h2 : b.size ≤ 100 := by omega
    have h3 : c.size ≤ 100 := by omega
    clear hbig
    have HAB := Lib.hid (tx_eq a b)
    cases hr : (a.toList == b.toList)
    all_goals
      have HR := Lib.hid hr
      go_enter Try.func4, Try.ntmps4
      go_wp2_with fail
      refine (alive_any _).mono ?_
      rintro e w1 ⟨rfl, hb1⟩
      obtain ⟨q0, q1, -⟩ := three_blocks w1 (.cells #[.string ⟨#[42]⟩, .bool false, .bool false] 27) (.cells #[.string b, .bool true, .bool false] 27) (.cells #[.string a, .bool true, .bool false] 27)
      have HP2 := Lib.hid (one_pieceH (w := (w1.alloc (.cells #[.string ⟨#[42]⟩, .bool false, .bool false] 27)).alloc (.cells #[.string b, .bool true, .bool false] 27)) (H := w1.heap.size + 1 + 1) (by simp) a true false)
      have HS2 := Lib.hid (show St w w1 _ b from ⟨q0, q1, ((hb1.alloc hb1.size _).alloc (by have := hb1.size; simp; omega) _).alloc (by have := hb1.size; simp; omega) _⟩)
      clear hb1 q0 q1
      go_wp2_with fail
      refine (lit_any a _).mono ?_
      rintro e w2 ⟨rfl, rfl⟩
      go_wp2_with fail
      generalize ((w1.alloc (.cells #[.string ⟨#[42]⟩, .bool false, .bool false] 27)).alloc (.cells #[.string b, .bool true, .bool false] 27)).alloc (.cells #[.string a, .bool true, .bool false] 27) = W2 at HP2 HS2 ⊢
      refine (match_any _ _ [(a, true, false)] b _ HP2.out (by simp [weight]; omega) (by omega)).mono ?_
      rintro e w3 ⟨rfl, hb3⟩
      rw [literal_mt, HAB.out, HR.out]
      have HS3 := Lib.hid (HS2.out.below hb3)
      clear hb3 HP2 HS2
      have s0 := Lib.cell_of_heap HS3.out.s 0
      have s1 := Lib.cell_of_heap HS3.out.s 1
      have s2 := Lib.cell_of_heap HS3.out.s 2
      have t0 := Lib.cell_of_heap HS3.out.q 0
      have t1 := Lib.cell_of_heap HS3.out.q 1
      have t2 := Lib.cell_of_heap HS3.out.q 2
      have hl1 := (Array.getElem?_eq_some_iff.1 HS3.out.s).1
      have hl2 := (Array.getElem?_eq_some_iff.1 HS3.out.q).1
      go_wp2_with fail
      refine (match_any _ _ [(⟨#[42]⟩, false, false), (b, true, false), (⟨#[42]⟩, false, false)] (a ++ b ++ c) _ (three_pieces w3 ⟨#[42]⟩ b ⟨#[42]⟩ false true false false false false) (by show 1 + 1 + (b.size + 1 + (1 + 1 + 0)) ≤ 1000; omega) (by rw [ByteArray.size_append, ByteArray.size_append]; omega)).mono ?_
      rintro e w4 ⟨rfl, hb4⟩
      rw [show mt (U (sg [(⟨#[42]⟩, false, false), (b, true, false), (⟨#[42]⟩, false, false)]) 0) (tx (a ++ b ++ c)) = true by rw [tx_app, tx_app, List.append_assoc]; exact stars_mt a b c]
      have HS4 := Lib.hid (HS3.out.below ((bel1 w3 _).trans (hb4.mono (by simp))))
      clear hb4 s0 s1 s2 t0 t1 t2 hl1 hl2 HS3
      have s0 := Lib.cell_of_heap HS4.out.s 0
      have s1 := Lib.cell_of_heap HS4.out.s 1
      have s2 := Lib.cell_of_heap HS4.out.s 2
      have t0 := Lib.cell_of_heap HS4.out.q 0
      have t1 := Lib.cell_of_heap HS4.out.q 1
      have t2 := Lib.cell_of_heap HS4.out.q 2
      have hl1 := (Array.getElem?_eq_some_iff.1 HS4.out.s).1
      have hl2 := (Array.getElem?_eq_some_iff.1 HS4.out.q).1
      go_wp2_with fail
      refine (match_any _ _ [(⟨#[42]⟩, false, false), (⟨#[120]⟩, false, true), (⟨#[42]⟩, false, false)] a _ (three_pieces w4 ⟨#[42]⟩ ⟨#[120]⟩ ⟨#[42]⟩ false false false false true false) (by decide) (by omega)).mono ?_
      rintro e w5 ⟨rfl, hb5⟩
      rw [cut_mt]
      have HS5 := Lib.hid (HS4.out.below ((bel1 w4 _).trans (hb5.mono (by simp))))
      clear hb5 s0 s1 s2 t0 t1 t2 hl1 hl2 HS4
      go_wp2_with fail
      refine (lit_any a _).mono ?_
      rintro e w6 ⟨rfl, rfl⟩
      go_wp2_with fail
      have HA5 := Lib.hid (one_piece w5 a true false)
      have HA6 := Lib.hid (one_pieceH (w := w5.alloc (.cells #[.string a, .bool true, .bool false] 27)) (H := w5.heap.size + 1) (by simp) a true false)
      have HS6 := Lib.hid ((HS5.out.below (bel1 w5 (.cells #[.string a, .bool true, .bool false] 27))).below (bel1 _ (.cells #[.string a, .bool true, .bool false] 27)))
      have HA7 := Lib.hid (HA5.out.below (bel1 _ (.cells #[.string a, .bool true, .bool false] 27)))
      clear HA5
      generalize (w5.alloc (.cells #[.string a, .bool true, .bool false] 27)).alloc (.cells #[.string a, .bool true, .bool false] 27) = W6 at HA6 HA7 HS6 ⊢
      refine (same_any a true false _ _ _ _ _ _ _ HA7.out HA6.out).mono ?_
      rintro e w7 ⟨rfl, hb7⟩
      have HS7 := Lib.hid (HS6.out.below hb7)
      clear hb7 HA6 HA7 HS6
      go_wp2_with fail
      have HL7 := Lib.hid (one_piece w7 a false false)
      have HB7 := Lib.hid (HS7.out.b.alloc HS7.out.b.size (.cells #[.string a, .bool false, .bool false] 27))
      clear HS7
      generalize w7.alloc (.cells #[.string a, .bool false, .bool false] 27) = W7 at HL7 HB7 ⊢
      refine (plain_any _ _ [(a, false, false)] _ HL7.out (by show a.size + 1 + 0 ≤ 1000; omega)).mono ?_
      rintro e w8 ⟨rfl, hb8⟩
      have HL8 := Lib.hid (HL7.out.below hb8)
      have HB8 := Lib.hid (HB7.out.trans (hb8.mono HB7.out.size))
      clear hb8
      cases hpl : (S0 (sg [(a, false, false)]) 0).all (selfAt (sg [(a, false, false)]))
      · clear hpl
        go_wp2_with fail
        go_loopw [10, 84] (fun v x wr => ∃ k : Nat, k ≤ a.size ∧ v = .string (marks k) ∧ x = .int .i64 k ∧ Below w8.heap.size w8 wr) (fun _ x _ => a.size - (intOf x).toNat)
        case atStart => exact ⟨0, Nat.zero_le _, rfl, rfl, Below.refl _ _⟩
        case round =>
          obtain ⟨k, hk, rfl, rfl, hbw⟩ := hrel
          have HW := Lib.hid (HB8.out.trans (hbw.mono HB8.out.size))
          have HW0 := Lib.hid hbw
          clear hbw
          have hms : (marks k).size = k := marks_size k
          by_cases hlt : k < a.size
          · have HMS := Lib.hid (marks_succ k)
            go_wp2_with fail
            go_roundw
            case rel => exact ⟨k + 1, by omega, by rw [← HMS.out], by go_num, HW0.out⟩
            case measure => simp [intOf]; omega
          · obtain rfl : k = a.size := by omega
            go_wp2_with fail
            refine (match_any _ _ [(marks a.size, false, false)] b _ (one_piece wr (marks a.size) false false) (by show (marks a.size).size + 1 + 0 ≤ 1000; omega) (by omega)).mono ?_
            rintro e wa ⟨rfl, hba⟩
            have HBA := Lib.hid ((HW.out.alloc HW.out.size _).trans (hba.mono (Nat.le_trans HW.out.size (by simp))))
            rw [ones_mt, tx_len, ← int_beq]
            clear hba HW0
            cases hq : ((a.size : Int) == (b.size : Int))
            all_goals
              go_wp2_with fail
              refine (lit_any a _).mono ?_
              rintro e wb ⟨rfl, rfl⟩
              go_wp2_with fail
              refine (plain_any _ _ [(a, true, false)] _ (one_piece wa a true false) (by show a.size + 1 + 0 ≤ 1000; omega)).mono ?_
              rintro e wc ⟨rfl, hbc⟩
              rw [literal_plain]
              have HBC := Lib.hid ((HBA.out.alloc HBA.out.size _).trans (hbc.mono (Nat.le_trans HBA.out.size (by simp))))
              clear hbc
              go_wp2_with fail
              go_ret
              exact ⟨rfl, HBC.out⟩
      · have HLM := Lib.hid (loose_mt a (tx b) hpl)
        clear hpl
        go_wp2_with fail
        refine (match_any _ _ [(a, false, false)] b _ HL8.out (by show a.size + 1 + 0 ≤ 1000; omega) (by omega)).mono ?_
        rintro e w9 ⟨rfl, hb9⟩
        rw [HLM.out, HAB.out, HR.out]
        have HB9 := Lib.hid (HB8.out.trans (hb9.mono HB8.out.size))
        clear hb9
        go_wp2_with fail
        go_loopw [10, 84] (fun v x wr => ∃ k : Nat, k ≤ a.size ∧ v = .string (marks k) ∧ x = .int .i64 k ∧ Below w9.heap.size w9 wr) (fun _ x _ => a.size - (intOf x).toNat)
        case atStart => exact ⟨0, Nat.zero_le _, rfl, rfl, Below.refl _ _⟩
        case round =>
          obtain ⟨k, hk, rfl, rfl, hbw⟩ := hrel
          have HW := Lib.hid (HB9.out.trans (hbw.mono HB9.out.size))
          have HW0 := Lib.hid hbw
          clear hbw
          have hms : (marks k).size = k := marks_size k
          by_cases hlt : k < a.size
          · have HMS := Lib.hid (marks_succ k)
            go_wp2_with fail
            go_roundw
            case rel => exact ⟨k + 1, by omega, by rw [← HMS.out], by go_num, HW0.out⟩
            case measure => simp [intOf]; omega
          · obtain rfl : k = a.size := by omega
            go_wp2_with fail
            refine (match_any _ _ [(marks a.size, false, false)] b _ (one_piece wr (marks a.size) false false) (by show (marks a.size).size + 1 + 0 ≤ 1000; omega) (by omega)).mono ?_
            rintro e wa ⟨rfl, hba⟩
            have HBA := Lib.hid ((HW.out.alloc HW.out.size _).trans (hba.mono (Nat.le_trans HW.out.size (by simp))))
            rw [ones_mt, tx_len, ← int_beq]
            clear hba HW0
            cases hq : ((a.size : Int) == (b.size : Int))
            all_goals
              go_wp2_with fail
              refine (lit_any a _).mono ?_
              rintro e wb ⟨rfl, rfl⟩
              go_wp2_with fail
              refine (plain_any _ _ [(a, true, false)] _ (one_piece wa a true false) (by show a.size + 1 + 0 ≤ 1000; omega)).mono ?_
              rintro e wc ⟨rfl, hbc⟩
              rw [literal_plain]
              have HBC := Lib.hid ((HBA.out.alloc HBA.out.size _).trans (hbc.mono (Nat.le_trans HBA.out.size (by simp))))
              clear hbc
              go_wp2_with fail
              go_ret
              exact ⟨rfl, HBC.out⟩
end Pn
end Go.Proofs.Ytfjfgaefbldgbaa
