/- FieldQuotes's walk. -/
import Derived.Test.YtbhfdjmnnailnaaFdO
namespace Go.Proofs.Ytbhfdjmnnailnaa
open Go.RowKit Cls
namespace Fld
theorem qP_take (l : List ByteArray) (k : Nat) (x : ByteArray) (h : l[k]? = some x) : qP (l.take (k + 1)) = qP (l.take k) ++ ((bif decide (k = 0) then [] else [cutP]) ++ [quoP x]) := by
  rw [List.take_add_one, h]
  show qP (l.take k ++ [x]) = _
  rw [qP_snoc]
  have hlt : k < l.length := (List.getElem?_eq_some_iff.1 h).1
  by_cases h0 : k = 0
  · subst h0; rfl
  · rw [decide_eq_false h0]
    cases hh : l.take k with
    | nil => exfalso; have := congrArg List.length hh; rw [List.length_take, List.length_nil] at this; omega
    | cons y r => rfl
theorem qPn (l : List ByteArray) (k : Nat) (h : k ≤ l.length) : (qP (l.take k)).length ≤ 2 * k := by
  have := qP_len (l.take k)
  rw [List.length_take] at this
  omega
theorem all_size {l : List ByteArray} {n k : Nat} (h : ∀ j, j < k → ∀ x, l[j]? = some x → x.size ≤ n) : ∀ x ∈ l.take k, x.size ≤ n := by
  intro x hx
  obtain ⟨j, hj, e⟩ := List.mem_iff_getElem.1 hx
  have hk : j < k := by rw [List.length_take] at hj; omega
  refine h j hk x ?_
  rw [← e, List.getElem_take]
  exact List.getElem?_eq_getElem _
theorem joinQ_len (l : List ByteArray) (hl : l.length ≤ 200) (h : ∀ x ∈ l, x.size ≤ 500) (k : Nat) : (joinS (qP (l.take k))).length ≤ 4194304 := by
  have h1 := joinS_len (qP (l.take k))
  have h2 := qP_weight (l.take k) 500 (fun x hx => h x (List.mem_of_mem_take hx))
  have h3 : (l.take k).length ≤ 200 := by rw [List.length_take]; omega
  have h4 : (l.take k).length * 502 ≤ 200 * 502 := Nat.mul_le_mul_right _ h3
  omega
set_option maxHeartbeats 1600000 in
theorem quotes_law (a : Option Addr) (cap : Nat) (xs : List ByteArray) (w : World) (h : Txt w (.slice a xs.length cap) xs) (hl : xs.length ≤ R) (hR : ∀ x ∈ xs, x.size ≤ R) :
    Calls Try.prog 5 #[.slice a xs.length cap] w fun e w' => e = .returned (.bool true) ∧ Below w.heap.size w w' := by
  have H := Lib.hid h
  obtain ⟨a', cap', hv, hcell⟩ := h.cell
  cases hv
  have HC := Lib.hid hcell; have HR := Lib.hid hR
  clear h hcell hR
  unfold R at hl
  by_cases hbig : 200 < xs.length
  · go_enter Try.func5, Try.ntmps5
    go_wp2_with fail
    refine (alive_any _).mono ?_
    rintro e w1 ⟨rfl, hb1⟩
    have HB1 := Lib.hid hb1
    clear hb1
    go_wp2_with fail
    go_ret
    exact ⟨rfl, HB1.out⟩
  · obtain ⟨i0, hi, hz0, hz1, hz2⟩ := info_parts infoPc
    have HI := Lib.hid hi; have HZ0 := Lib.hid hz0; have HZ1 := Lib.hid hz1; have HZ2 := Lib.hid hz2
    clear hi hz0 hz1 hz2
    go_enter Try.func5, Try.ntmps5
    go_wp2_with fail
    refine (alive_any _).mono ?_
    rintro e w1 ⟨rfl, hb1⟩
    have HB1 := Lib.hid hb1
    have HO1 := Lib.hid (World.ownsRow_made (e := 31) (size := 3) w1 #[] 0 hb1.size (Nat.zero_le _) rfl)
    have HB1a := Lib.hid (hb1.alloc hb1.size (.cells #[] 31))
    clear hb1
    go_wp2_with fail
    go_loopw [3, 14] (fun v x wr => ∃ k : Nat, k ≤ xs.length ∧ x = .int .i64 k ∧ wr.ownsRow w.heap.size 31 3 v (qP (xs.take k)).length (pcells (qP (xs.take k))) ∧ (∀ j, j < k → ∀ x, xs[j]? = some x → x.size ≤ 500) ∧ Below w.heap.size w wr) (fun _ x _ => xs.length - (intOf x).toNat)
    case atStart => exact ⟨0, Nat.zero_le _, rfl, HO1.out, fun j hj => absurd hj (Nat.not_lt_zero j), HB1a.out⟩
    case round =>
      obtain ⟨k, hk, rfl, hown, hsz, hbw⟩ := hrel
      have HO := Lib.hid hown; have HS := Lib.hid hsz; have HB := Lib.hid hbw
      have hws := hbw.size
      clear hown hsz hbw
      have hqn := qPn xs k hk
      by_cases hlt : k < xs.length
      · have hx : xs[k]? = some (xs[k]'hlt) := List.getElem?_eq_getElem hlt
        obtain ⟨b, off, rfl, hb, hc⟩ := HC.out k _ hx
        have hx2 : (xs[k]'hlt).size ≤ R := HR.out _ (List.getElem_mem hlt)
        have c0 : wr.cell? ⟨b, off + k, none⟩ = some (.string (xs[k]'hlt)) := (World.cell?_of_block (a := ⟨b, off + k, none⟩) (HB.out.block b hb)).trans hc
        have HQT := Lib.hid (qP_take xs k _ hx)
        have HX := Lib.hid hx
        unfold R at hx2
        clear hc hx
        generalize xs[k]'hlt = y at c0 hx2 HQT HX
        generalize hL : qP (xs.take k) = L at *
        have HL := Lib.hid hL
        clear hL
        by_cases hy : 500 < y.size
        · go_wp2_with fail
          go_ret
          exact ⟨rfl, HB.out⟩
        · by_cases h0 : k = 0
          · subst h0
            simp only [Nat.add_zero] at c0
            go_wp2_with (at_builtin; refine wpList_append_own _ rfl _ _ 22 rfl w.heap.size 31 i0 (.agg #[.string ⟨#[]⟩, .bool false, .bool false]) 3 24 Try.underlying22 HI.out HZ0.out HZ1.out HZ2.out rfl (by decide) _ _ _ rfl (HO.out.alloc _) ⟨wr.heap.size, 0, none⟩ 1 1 [.string y, .bool true, .bool false] rfl rfl (World.news_of_block (cs := #[.string y, .bool true, .bool false]) (t := 31) (fr := (0, 0)) (heap_alloc_new wr _)) (by simp [Value.oneCell']) ?a3 ?a4 ?a5 ?_)
            case a3 => unfold maxLen; omega
            case a4 => omega
            case a5 => first | omega | (simp [World.size_alloc]; omega)
            intro v' w2 hown' hgrow _
            have HO2 := Lib.hid hown'
            have HB2 := Lib.hid (grown_below (HB.out.alloc hws (.cells #[.string y, .bool true, .bool false] 31)) (HO.out.alloc _) (Nat.le_refl _) hgrow)
            clear hown' hgrow
            go_wp2_with fail
            go_roundw
            case rel => exact ⟨1, by omega, by go_num, by
              rw [HQT.out]
              show World.ownsRow _ _ _ _ _ (L ++ [quoP y]).length (pcells (L ++ [quoP y]))
              rw [List.length_append, pcells_app]; exact HO2.out, by
              intro j hj x hx
              obtain rfl : j = 0 := by omega
              rw [HX.out] at hx; cases hx; omega, HB2.out⟩
            case measure => simp [intOf]; omega
          · have hpos : 0 < k := by omega
            go_wp2_with (at_builtin; refine wpList_append_own _ rfl _ _ 22 rfl w.heap.size 31 i0 (.agg #[.string ⟨#[]⟩, .bool false, .bool false]) 3 24 Try.underlying22 HI.out HZ0.out HZ1.out HZ2.out rfl (by decide) _ _ _ rfl (HO.out.alloc _) ⟨wr.heap.size, 0, none⟩ 1 1 [.string ⟨#[]⟩, .bool false, .bool true] rfl rfl (World.news_of_block (cs := #[.string ⟨#[]⟩, .bool false, .bool true]) (t := 31) (fr := (0, 0)) (heap_alloc_new wr _)) (by simp [Value.oneCell']) ?b3 ?b4 ?b5 ?_)
            case b3 => unfold maxLen; omega
            case b4 => omega
            case b5 => first | omega | (simp [World.size_alloc]; omega)
            intro v' w2 hown' hgrow _
            have HO2 := Lib.hid hown'
            have HB2 := Lib.hid (grown_below (HB.out.alloc hws (.cells #[.string ⟨#[]⟩, .bool false, .bool true] 31)) (HO.out.alloc _) (Nat.le_refl _) hgrow)
            have hw2 := HB2.out.size
            clear hown' hgrow
            go_wp2_with (at_builtin; refine wpList_append_own _ rfl _ _ 22 rfl w.heap.size 31 i0 (.agg #[.string ⟨#[]⟩, .bool false, .bool false]) 3 24 Try.underlying22 HI.out HZ0.out HZ1.out HZ2.out rfl (by decide) _ _ _ rfl (HO2.out.alloc _) ⟨w2.heap.size, 0, none⟩ 1 1 [.string y, .bool true, .bool false] rfl rfl (World.news_of_block (cs := #[.string y, .bool true, .bool false]) (t := 31) (fr := (0, 0)) (heap_alloc_new w2 _)) (by simp [Value.oneCell']) ?d3 ?d4 ?d5 ?_)
            case d3 => unfold maxLen; omega
            case d4 => omega
            case d5 => first | omega | (simp [World.size_alloc]; omega)
            intro v3 w3 hown3 hgrow3 _
            have HO3 := Lib.hid hown3
            have HB3 := Lib.hid (grown_below (HB2.out.alloc hw2 (.cells #[.string y, .bool true, .bool false] 31)) (HO2.out.alloc _) (Nat.le_refl _) hgrow3)
            clear hown3 hgrow3
            go_wp2_with fail
            go_roundw
            case rel => exact ⟨k + 1, by omega, by go_num, by
              rw [HQT.out, decide_eq_false h0]
              show World.ownsRow _ _ _ _ _ (L ++ ([cutP] ++ [quoP y])).length (pcells (L ++ ([cutP] ++ [quoP y])))
              rw [List.length_append, pcells_app]
              have h1 := HO3.out
              first | exact h1 | (rw [List.append_assoc] at h1; exact h1), by
              intro j hj x hx
              by_cases hjk : j = k
              · subst hjk; rw [HX.out] at hx; cases hx; omega
              · exact HS.out j (by omega) x hx, HB3.out⟩
            case measure => simp [intOf]; omega
      · obtain rfl : k = xs.length := by omega
        have HXS : Hid (∀ x ∈ xs, x.size ≤ 500) := Lib.hid (by have := all_size HS.out; rwa [List.take_length] at this)
        have hqw : weight (qP xs) ≤ 200000 := by
          have h1 := qP_weight xs 500 HXS.out
          have h2 : xs.length * 502 ≤ 200 * 502 := Nat.mul_le_mul_right _ (by omega)
          omega
        rw [List.take_length] at HO
        obtain ⟨a2, c2, rfl, hp2⟩ := pcs_own HO.out rfl rfl
        have HP := Lib.hid hp2
        clear hp2 HO
        have HJL := Lib.hid (joinQ_len xs (by omega) HXS.out)
        have hsq := split_quotes xs
        generalize hQ : qP xs = Q at *
        have HSQ := Lib.hid hsq; have HQ := Lib.hid hQ
        clear hsq hQ hqn
        go_wp2_with fail
        refine (split_any a2 c2 Q _ HP.out hqw).mono ?_
        rintro e w2 ⟨v2, rfl, ho2, hb2⟩
        have HB2 := Lib.hid (HB.out.trans (hb2.mono hws))
        have HP2 := Lib.hid (HP.out.below hb2)
        have HT2 := Lib.hid (Txt.ofOwn (xs := xs) ho2 (by rw [HSQ.out]) (by rw [HSQ.out]))
        clear ho2 hb2 HP
        go_wp2_with fail
        refine (same_yes xs v2 _ _ HT2.out (H.out.stay HB2.out) (by omega)).mono ?_
        rintro e w3 ⟨rfl, hb3⟩
        have HB3 := Lib.hid (HB2.out.trans (hb3.mono HB2.out.size))
        have HP3 := Lib.hid (HP2.out.below hb3)
        clear hb3 HP2 HT2
        go_wp2_with fail
        refine (join_any a2 c2 Q _ HP3.out hqw).mono ?_
        rintro e w4 ⟨rfl, hb4⟩
        have HB4 := Lib.hid (HB3.out.trans (hb4.mono HB3.out.size))
        clear hb4 HP3
        have HR9 := Lib.hid (rjoin9_any xs _ w4 (H.out.stay HB4.out) (by omega) HJL.out (fun x hx => by have := HXS.out x hx; omega))
        rw [HQ.out] at HR9
        generalize tx (joinS Q) = J at HR9 ⊢
        have e1 : (J.toList == J.toList) = true := by simp
        go_wp2_with fail
        refine (HR9.out).mono ?_
        rintro e w5 ⟨rfl, rfl⟩
        go_wp2_with fail
        go_ret
        exact ⟨rfl, HB4.out⟩
end Fld
end Go.Proofs.Ytbhfdjmnnailnaa
