/- FieldParts's walk. -/
import Derived.Test.YtbhfdjmnnailnaaFdO
namespace Go.Proofs.Ytbhfdjmnnailnaa
open Go.RowKit Cls
namespace Fld
def xP : Pc := (tx [120], false, true)
theorem weight_both (ps qs : List Pc) : weight (ps ++ xP :: qs) = weight ps + 2 + weight qs := by
  rw [weight_app]
  show _ + (1 + 1 + weight qs) = _
  omega
def anyQ (ps : List Pc) : Bool := ps.any fun p => p.2.1
theorem anyQ_snoc (l : List Pc) (p : Pc) : anyQ (l ++ [p]) = (anyQ l || p.2.1) := by simp [anyQ]
theorem anyQ_no {ps : List Pc} (h : anyQ ps = false) : ∀ p ∈ ps, p.2.1 = false := by
  intro p hp
  have := List.any_eq_false.1 h p hp
  simpa using this
theorem size_mem {F : List ByteArray} {f : ByteArray} (h : f ∈ F) : f.size ≤ (F.map fun x => x.size).sum := by
  induction F with
  | nil => cases h
  | cons y r ih =>
    simp only [List.map_cons, List.sum_cons]
    rcases List.mem_cons.1 h with rfl | h
    · omega
    · have := ih h; omega
set_option maxHeartbeats 1600000 in
theorem parts_law (a b : Option Addr) (cap capb : Nat) (ps qs : List Pc) (w : World) (h : Pcs w a ps) (hq : Pcs w b qs) (hna : a = none → cap = 0) (hnb : b = none → capb = 0) (hl : ps.length ≤ R) (hR : ∀ p ∈ ps, p.1.size ≤ R) (hlq : qs.length ≤ R) (hRq : ∀ p ∈ qs, p.1.size ≤ R) (hga : ¬ 5000 < weight ps) (hgb : ¬ 5000 < weight qs) :
    Calls Try.prog 4 #[.slice a ps.length cap, .slice b qs.length capb] w fun e w' => e = .returned (.bool true) ∧ Below w.heap.size w w' := by
  have H := Lib.hid h; have HQ := Lib.hid hq; have HNA := Lib.hid hna; have HNB := Lib.hid hnb; clear h hq hna hnb
  have hpl := len_le ps
  have hql := len_le qs
  have hwb := weight_both ps qs
  have HWB := Lib.hid hwb
  have hns := nlen ps (by omega)
  have hnq := nlen qs (by omega)
  clear hwb
  go_enter Try.func4, Try.ntmps4
  go_wp2_with fail
  refine (alive_any _).mono ?_
  rintro e w1 ⟨rfl, hb1⟩
  have HB1 := Lib.hid hb1
  clear hb1
  go_wp2_with fail
  refine (heavy_any a cap ps _ (H.out.below HB1.out) hl hR).mono ?_
  rintro e w2 ⟨rfl, hb2⟩
  rw [hvy_small hga]
  have HB2 := Lib.hid (HB1.out.trans (hb2.mono HB1.out.size))
  clear hb2
  go_wp2_with fail
  refine (heavy_any b capb qs _ (HQ.out.below HB2.out) hlq hRq).mono ?_
  rintro e w3 ⟨rfl, hb3⟩
  rw [hvy_small hgb]
  have HB3 := Lib.hid (HB2.out.trans (hb3.mono HB2.out.size))
  clear hb3 HB1 HB2
  have hs3 := HB3.out.size
  have HX := Lib.hid (HB3.out.alloc hs3 (.cells #[] 31))
  have HO := Lib.hid (World.ownsRow_made (e := 31) (size := 3) w3 #[] 0 (Nat.le_refl w3.heap.size) (Nat.zero_le _) rfl)
  go_wp2_with (at_builtin; refine wpList_append_pcs rfl _ _ rfl w3.heap.size _ 0 [] rfl HO.out a cap ps rfl (H.out.below HX.out) HNA.out ?c1 ?c2 ?c3 ?_)
  case c1 => unfold maxLen; omega
  case c2 => omega
  case c3 => simp [World.size_alloc]
  intro v4 w4 ho4 hg4
  have HB4 := Lib.hid (grown_below HX.out HO.out hs3 hg4)
  have HO4 := Lib.hid ho4
  have hs4 := HB4.out.size
  have hs34 : w3.heap.size ≤ w4.heap.size := by have := hg4.size; rw [World.size_alloc] at this; omega
  clear ho4 hg4 HX HO
  go_wp2_with (at_builtin; go_loud (refine wpList_append_pcs rfl _ _ rfl w3.heap.size _ _ _ rfl (HO4.out.alloc _) (some ⟨w4.heap.size, 0, none⟩) 1 [xP] rfl (one_piece w4 (tx [120]) false true) (fun h => by cases h) ?d1 ?d2 ?d3 ?_))
  case d1 => unfold maxLen; simp only [List.length_cons, List.length_nil]; omega
  case d2 => simp only [List.length_cons, List.length_nil]; omega
  case d3 => simp [World.size_alloc]; omega
  intro v5 w5 ho5 hg5
  have HB5 := Lib.hid (grown_below (HB4.out.alloc hs4 (.cells #[.string (tx [120]), .bool false, .bool true] 31)) (HO4.out.alloc _) hs3 hg5)
  have HO5 := Lib.hid ho5
  have hs5 := HB5.out.size
  have hs45 : w3.heap.size ≤ w5.heap.size := by have := hg5.size; rw [World.size_alloc] at this; omega
  clear ho5 hg5 HB4 HO4 hs34 hs4
  go_wp2_with (at_builtin; refine wpList_append_pcs rfl _ _ rfl w3.heap.size _ _ _ rfl HO5.out b capb qs rfl (HQ.out.below HB5.out) HNB.out ?e1 ?e2 ?e3 ?_)
  case e1 => unfold maxLen; omega
  case e2 => omega
  case e3 => omega
  intro v6 w6 ho6 hg6
  have HB6 := Lib.hid (grown_below HB5.out HO5.out hs3 hg6)
  obtain ⟨BL, hBL⟩ : ∃ BL, BL = ps ++ xP :: qs := ⟨_, rfl⟩
  obtain ⟨a6, c6, rfl, hp6⟩ := pcs_own (l := BL) ho6 (by rw [hBL]; simp only [List.length_append, List.length_cons]; omega) (by rw [hBL, pcells_app]; rfl)
  have HBL := Lib.hid hBL
  have hwB : weight BL ≤ 200000 := by rw [hBL, HWB.out]; omega
  have hnB := nlen BL hwB
  clear hBL
  have HP6 := Lib.hid hp6
  clear ho6 hg6 hp6 HB5 HO5 hs45 hs5
  go_wp2_with fail
  refine (split_any a6 c6 BL _ HP6.out hwB).mono ?_
  rintro e w7 ⟨v7, rfl, ho7, hb7⟩
  have HB7 := Lib.hid (HB6.out.trans (hb7.mono HB6.out.size))
  have HT7 := Lib.hid (Txt.ofOwn ho7 rfl rfl)
  clear ho7 hb7 HP6 HB6 hs3
  have HO7 := Lib.hid (World.ownsRow_made (e := 9) (size := 1) w7 #[] 0 (Nat.le_refl w7.heap.size) (Nat.zero_le _) rfl)
  have HB7a := Lib.hid (HB7.out.alloc HB7.out.size (.cells #[] 9))
  have HT7a := Lib.hid (HT7.out.stay (below_alloc w7 (.cells #[] 9)))
  go_wp2_with fail
  refine (split_any a cap ps _ (H.out.below HB7a.out) (by omega)).mono ?_
  rintro e w8 ⟨v8, rfl, ho8, hb8⟩
  have HB8 := Lib.hid (HB7a.out.trans (hb8.mono HB7a.out.size))
  have HT8 := Lib.hid (HT7a.out.stay hb8)
  have HO8 := Lib.hid (ownsRow_below HO7.out hb8)
  obtain ⟨a8, c8, rfl, hn8⟩ := own_len ho8
  have HX8 := Lib.hid (Txt.ofOwn ho8 rfl rfl)
  have hs8 := HB8.out.size
  have hs78 : w7.heap.size ≤ w8.heap.size := by have := hb8.size; rw [World.size_alloc] at this; omega
  have HB78 := Lib.hid ((below_alloc w7 (.cells #[] 9)).trans (hb8.mono (by simp [World.size_alloc])))
  clear ho8 hb8 HO7 HB7a HT7a
  have hs7 := HB7.out.size
  go_wp2_with (at_builtin; refine wpList_append_txt rfl _ _ rfl w7.heap.size _ 0 [] rfl HO8.out a8 c8 (splitS ps) rfl HX8.out hn8 ?f1 ?f2 ?f3 ?_)
  case f1 => unfold maxLen; omega
  case f2 => omega
  case f3 => omega
  intro v9 w9 ho9 hg9
  have HB79 := Lib.hid (grown_below HB78.out HO8.out (Nat.le_refl _) hg9)
  have HB9 := Lib.hid (HB7.out.trans (HB79.out.mono hs7))
  have HO9 := Lib.hid ho9
  clear ho9 hg9 HB78 HO8 HX8 HT8 HB8 hs8 hs78 hn8
  go_wp2_with fail
  refine (split_any b capb qs _ (HQ.out.below HB9.out) (by omega)).mono ?_
  rintro e w10 ⟨v10, rfl, ho10, hb10⟩
  have HB710 := Lib.hid (HB79.out.trans (hb10.mono HB79.out.size))
  have HO10 := Lib.hid (ownsRow_below HO9.out hb10)
  obtain ⟨a10, c10, rfl, hn10⟩ := own_len ho10
  have HX10 := Lib.hid (Txt.ofOwn ho10 rfl rfl)
  have hs710 := HB710.out.size
  clear ho10 hb10 HO9 HB79 HB9
  go_wp2_with (at_builtin; refine wpList_append_txt rfl _ _ rfl w7.heap.size _ _ _ rfl HO10.out a10 c10 (splitS qs) rfl HX10.out hn10 ?g1 ?g2 ?g3 ?_)
  case g1 => unfold maxLen; omega
  case g2 => omega
  case g3 => omega
  intro v11 w11 ho11 hg11
  have HB711 := Lib.hid (grown_below HB710.out HO10.out (Nat.le_refl _) hg11)
  have HB11 := Lib.hid (HB7.out.trans (HB711.out.mono hs7))
  have HX11 := Lib.hid (show Txt w11 v11 (splitS BL) from Txt.ofOwn ho11 (by rw [HBL.out, xP, split_both, List.length_append]) (by rw [HBL.out, xP, split_both, List.map_append]))
  have HT11 := Lib.hid (HT7.out.stay HB711.out)
  clear ho11 hg11 HB710 HB711 HO10 HX10 HT7 hn10 hs710
  go_wp2_with fail
  refine (same_yes (splitS BL) v7 v11 _ HT11.out HX11.out hnB).mono ?_
  rintro e w12 ⟨rfl, hb12⟩
  have HB12 := Lib.hid (HB11.out.trans (hb12.mono HB11.out.size))
  clear hb12 HB11 HT11 HX11 HBL hnB hwB
  go_wp2_with fail
  go_loopw [6, 43] (fun v x wr => ∃ k : Nat, k ≤ ps.length ∧ x = .int .i64 k ∧ v = .bool (anyQ (ps.take k)) ∧ Below w.heap.size w wr) (fun _ x _ => ps.length - (intOf x).toNat)
  case atStart => exact ⟨0, Nat.zero_le _, rfl, rfl, HB12.out⟩
  case round =>
    obtain ⟨k, hk, rfl, rfl, hbw⟩ := hrel
    have HB := Lib.hid hbw
    have hws := hbw.size
    clear hbw
    by_cases hlt : k < ps.length
    · obtain ⟨bk, o, rfl, hb, c0, c1, c2⟩ := (H.out.below HB.out).get hlt
      have HQS := Lib.hid (show anyQ (ps.take (k + 1)) = (anyQ (ps.take k) || (pc ps k).2.1) by rw [take_snoc hlt, anyQ_snoc])
      revert c0 c1 c2 HQS
      generalize pc ps k = p
      generalize anyQ (ps.take k) = qf
      obtain ⟨t, q, u⟩ := p
      intro c0 c1 c2 HQS
      cases qf <;> cases q
      all_goals
        go_wp2_with fail
        go_roundw
        case rel => exact ⟨k + 1, by omega, by go_num, by rw [HQS.out]; rfl, HB.out.alloc hws _⟩
        case measure => simp [intOf]; omega
    · obtain rfl : k = ps.length := by omega
      rw [List.take_length]
      go_wp2_with fail
      refine (split_any a cap ps _ (H.out.below HB.out) (by omega)).mono ?_
      rintro e w13 ⟨v13, rfl, ho13, hb13⟩
      have HB13 := Lib.hid (HB.out.trans (hb13.mono HB.out.size))
      obtain ⟨a13, c13, hv13, hc13⟩ := (Txt.ofOwn ho13 rfl rfl).cell
      subst hv13
      have HC := Lib.hid hc13
      clear ho13 hb13 hc13
      have HSZ := Lib.hid (nS_split ps)
      have HFN := Lib.hid (fun h => split_fine (ps := ps) (anyQ_no h))
      generalize splitS ps = F at hns HC HSZ HFN ⊢
      generalize hQ0 : anyQ ps = Q
      have HQ0 := Lib.hid hQ0
      clear hQ0
      clear HB3 hnq
      cases Q
      · have HF2 := Lib.hid (HFN.out HQ0.out)
        clear HFN
        go_wp2_with fail
        go_loopw [56] (fun x wr => ∃ k : Nat, k ≤ F.length ∧ x = .int .i64 k ∧ wr = w13) (fun x _ => F.length - (intOf x).toNat)
        case atStart => exact ⟨0, Nat.zero_le _, rfl, rfl⟩
        case round =>
          obtain ⟨k, hk2, rfl, rfl⟩ := hrel
          by_cases hlt2 : k < F.length
          · have hF : F[k]? = some (F[k]'hlt2) := List.getElem?_eq_getElem hlt2
            obtain ⟨bf, off, rfl, hbf, c0⟩ := HC.out k _ hF
            obtain ⟨hne, hnb⟩ := HF2.out _ (List.getElem_mem hlt2)
            have hsz := size_mem (List.getElem_mem hlt2)
            have hsz2 := HSZ.out
            generalize F[k]'hlt2 = f at c0 hne hnb hsz
            have hfs : f.size ≤ 10000 := by omega
            have he1 : f.toList.isEmpty = false := by
              rw [Lib.toList_data]
              cases hx : f.data.toList with
              | nil => exact absurd hx hne
              | cons c r => rfl
            have HN := Lib.hid hnb
            clear hF hnb hsz hsz2 hne
            go_wp2_with fail
            go_loopw [11] (fun x wq => ∃ j : Nat, j ≤ f.size ∧ x = .int .i64 j ∧ wq = wr) (fun x _ => f.size - (intOf x).toNat)
            case atStart => exact ⟨0, Nat.zero_le _, rfl, rfl⟩
            case round =>
              obtain ⟨j, hj, rfl, rfl⟩ := hrel
              by_cases hlj : j < f.size
              · have hbr : breakB f[j].toNat = false := HN.out _ (Array.getElem_mem_toList hlj)
                have HBR := Lib.hid hbr
                clear hbr
                go_wp2_with fail
                refine (break_any _ _).mono ?_
                rintro e w' ⟨rfl, rfl⟩
                rw [HBR.out]
                go_wp2_with fail
                go_roundw
                case rel => exact ⟨j + 1, by omega, by go_num, by first | rfl | trivial⟩
                case measure => simp [intOf]; omega
              · go_wp2_with fail
                go_roundw
                case rel => exact ⟨k + 1, by omega, by go_num, by first | rfl | trivial⟩
                case measure => simp [intOf]; omega
          · go_wp2_with fail
            go_ret
            exact ⟨rfl, HB13.out⟩
      · clear HFN
        go_wp2_with fail
        go_loopw [56] (fun x wr => ∃ k : Nat, k ≤ F.length ∧ x = .int .i64 k ∧ wr = w13) (fun x _ => F.length - (intOf x).toNat)
        case atStart => exact ⟨0, Nat.zero_le _, rfl, rfl⟩
        case round =>
          obtain ⟨k, hk2, rfl, rfl⟩ := hrel
          by_cases hlt2 : k < F.length
          · have hF : F[k]? = some (F[k]'hlt2) := List.getElem?_eq_getElem hlt2
            obtain ⟨bf, off, rfl, hbf, c0⟩ := HC.out k _ hF
            have hsz := size_mem (List.getElem_mem hlt2)
            have hsz2 := HSZ.out
            generalize F[k]'hlt2 = f at c0 hsz
            have hfs : f.size ≤ 10000 := by omega
            clear hF hsz hsz2
            go_wp2_with fail
            go_loopw [11] (fun x wq => ∃ j : Nat, j ≤ f.size ∧ x = .int .i64 j ∧ wq = wr) (fun x _ => f.size - (intOf x).toNat)
            case atStart => exact ⟨0, Nat.zero_le _, rfl, rfl⟩
            case round =>
              obtain ⟨j, hj, rfl, rfl⟩ := hrel
              by_cases hlj : j < f.size
              · go_wp2_with fail
                go_roundw
                case rel => exact ⟨j + 1, by omega, by go_num, by first | rfl | trivial⟩
                case measure => simp [intOf]; omega
              · go_wp2_with fail
                go_roundw
                case rel => exact ⟨k + 1, by omega, by go_num, by first | rfl | trivial⟩
                case measure => simp [intOf]; omega
          · go_wp2_with fail
            go_ret
            exact ⟨rfl, HB13.out⟩
end Fld
end Go.Proofs.Ytbhfdjmnnailnaa
