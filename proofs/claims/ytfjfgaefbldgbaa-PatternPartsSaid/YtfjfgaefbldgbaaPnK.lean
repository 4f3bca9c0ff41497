/- Patterns: all places from which a star may be passed over: the closure in Match. -/
import Derived.Test.YtfjfgaefbldgbaaPnJ
namespace Go.Proofs.Ytfjfgaefbldgbaa
open Go.RowKit
namespace Pn
theorem spread_more {M : List Mn} : ∀ {f g : Nat} {t : List Nat} {p : Nat}, M.length ≤ p + f → f ≤ g → spreadF M g t p = spreadF M f t p
  | 0, 0, _, _, _, _ => rfl
  | 0, g + 1, t, p, h, _ => by
    rw [spreadF, spreadF, if_neg]
    intro hs
    have := starAt_lt hs
    omega
  | f + 1, 0, _, _, _, h => by omega
  | f + 1, g + 1, t, p, h, hg => by
    rw [spreadF, spreadF]
    split
    · exact spread_more (by omega) (by omega)
    · rfl
def SP (M : List Mn) (t : List Nat) (p : Nat) : List Nat := spreadF M M.length t p
theorem SP_star {M : List Mn} {t : List Nat} {p : Nat} (h : starAt M p = true) : SP M t p = SP M [p] (p + 1) := by
  have hlt := starAt_lt h
  obtain ⟨n, hn⟩ : ∃ n, M.length = n + 1 := ⟨M.length - 1, by omega⟩
  have h1 : SP M t p = spreadF M n [p] (p + 1) := by rw [SP, hn, spreadF, if_pos h]
  rw [h1, SP, hn]
  exact (spread_more (by omega) (by omega)).symm
theorem SP_not {M : List Mn} {t : List Nat} {p : Nat} (h : starAt M p = false) : SP M t p = t ++ [p] := by
  rw [SP]
  cases M.length with
  | zero => rfl
  | succ n => rw [spreadF, if_neg (by simp [h])]
theorem starAt_kind (l : List Sg) (us : List Nat) (i : Nat) : starAt (us.map (mn l)) i = (decide (i < us.length) && kindAt l (us.getD i 0) == 2) := by
  by_cases h : i < us.length
  · rw [starAt, List.getElem?_map, List.getD, List.getElem?_eq_getElem h, decide_eq_true h]
    simp only [Option.map_some, Option.getD_some, Bool.true_and]
    cases hs : setEnd l us[i] with
    | some e =>
      obtain ⟨hk, _, _⟩ := kindAt_set hs
      have hm : mn l us[i] = .byte (hasB l us[i] e) := by simp [mn, hs]
      rw [hm, hk, kindSet]
      split <;> split <;> simp_all
    | none =>
      obtain ⟨hk, _, _⟩ := kindAt_one hs
      have hm : mn l us[i] = one (at' l us[i]) := by simp [mn, hs]
      rw [hm, hk]
      by_cases h1 : ((at' l us[i]).1 == 63 && !(at' l us[i]).2) = true
      · rw [one, if_pos h1, kindOne, if_pos h1]; rfl
      · by_cases h2 : ((at' l us[i]).1 == 42 && !(at' l us[i]).2) = true
        · rw [one, if_neg h1, if_pos h2, kindOne, if_neg h1, if_pos h2]; rfl
        · rw [one, if_neg h1, if_neg h2, kindOne, if_neg h1, if_neg h2]; rfl
  · rw [starAt, List.getElem?_map, List.getElem?_eq_none (by omega), decide_eq_false h]
    rfl
theorem infoInt : (Try.prog.info? 3).map (fun i => (i.zero, i.size, i.bytes)) = some (some (.int .i64 0), 1, 8) := by kernel_rfl
/-- A row of places. -/
theorem own_other {w : World} {base : Nat} {e : TypeId} {size : Nat} {v : Value} {n : Nat} {xs : List Value} (h : w.ownsRow base e size v n xs) {a : Addr} (ha : ∀ g, v.ownBlock = some g → g ≠ a.block) (u : Value) : (w.setCell a u).ownsRow base e size v n xs := by
  obtain ⟨h1, h2⟩ := h
  refine ⟨h1, ?_⟩
  rcases h2 with h2 | ⟨g, cap, cur, rfl, hb, hg, hr⟩
  · exact .inl h2
  · exact .inr ⟨g, cap, cur, rfl, hb, (Below.heap_setCell _ _ _ _ (ha g rfl)).trans hg, hr⟩
/-- .. behind whatever left its block alone. -/
def ints (t : List Nat) : List Value := t.map fun (x : Nat) => .int .i64 (x : Int)
def OwnI (w : World) (base : Nat) (v : Value) (t : List Nat) : Prop := w.ownsRow base 3 1 v t.length (ints t)
/-- The first none of a row. -/
theorem own_empty {w : World} {base : Nat} {v : Value} {t : List Nat} (h : OwnI w base v t) : (v = .slice none 0 0 ∧ t = []) ∨ ∃ g cap, v = .slice (some ⟨g, 0, none⟩) t.length cap ∧ OwnI w base (.slice (some ⟨g, 0, none⟩) 0 cap) [] := by
  rcases h.2 with ⟨rfl, h0⟩ | ⟨g, cap, cur, rfl, hb, hg, h1, h2, h3, _⟩
  · exact .inl ⟨rfl, List.length_eq_zero_iff.1 h0⟩
  · exact .inr ⟨g, cap, rfl, ⟨rfl, .inr ⟨g, cap, cur, rfl, hb, hg, Nat.zero_le _, h2, h3, by simp [ints]⟩⟩⟩
set_option maxHeartbeats 1600000 in
theorem spread_any (l : List Sg) (g c A T p : Nat) (us t : List Nat) (v : Value) (w0 w : World) (hA : w.heap[A]? = some (.cells #[.slice (some ⟨g, 0, none⟩) us.length c] 31 (0, 0))) (hT : w.heap[T]? = some (.cells #[v] 33 (0, 0)))
    (hM : MAt w0 l g us) (hb0 : Below w0.heap.size w0 w) (hT0 : w0.heap.size ≤ T) (hAT : A ≠ T) (hown : OwnI w w0.heap.size v t) (hvA : v.ownBlock ≠ some A) (hvT : v.ownBlock ≠ some T) (hp : p ≤ us.length) (hul : us.length ≤ 1000) (htl : t.length ≤ 100000) :
    Calls Try.prog 14 #[.int .i64 p, .pointer (some ⟨A, 0, none⟩), .pointer (some ⟨T, 0, none⟩)] w fun r w' => r = .returned (.tuple #[]) ∧ ∃ v', w'.heap[T]? = some (.cells #[v'] 33 (0, 0)) ∧ OwnI w' w0.heap.size v' (SP (us.map (mn l)) t p) ∧
      (v'.ownBlock = v.ownBlock ∨ ∃ g', v'.ownBlock = some g' ∧ w.heap.size ≤ g') ∧ (∀ b, b < w.heap.size → b ≠ T → v.ownBlock ≠ some b → w'.heap[b]? = w.heap[b]?) ∧ w.heap.size ≤ w'.heap.size ∧ Below w0.heap.size w0 w' := by
  obtain ⟨i0, hi, hz0, hz1, hz2⟩ := info_parts infoInt
  have HI := Lib.hid hi; have HZ0 := Lib.hid hz0; have HZ1 := Lib.hid hz1; have HZ2 := Lib.hid hz2
  have HA := Lib.hid hA; have HT := Lib.hid hT; have HM := Lib.hid hM; have HB0 := Lib.hid hb0; have HO := Lib.hid hown; have HVA := Lib.hid hvA; have HVT := Lib.hid hvT
  have hAl := (Array.getElem?_eq_some_iff.1 hA).1
  have hTl := (Array.getElem?_eq_some_iff.1 hT).1
  clear hi hz0 hz1 hz2 hA hT hM hb0 hown hvA hvT
  go_enter Try.func14, Try.ntmps14
  go_wp2_with fail
  go_loopw [0] (fun x wr => ∃ (q : Nat) (t' : List Nat) (v' : Value), q ≤ us.length ∧ x = .int .i64 q ∧ wr.heap[T]? = some (.cells #[v'] 33 (0, 0)) ∧ OwnI wr w0.heap.size v' t' ∧ SP (us.map (mn l)) t p = SP (us.map (mn l)) t' q ∧ t'.length ≤ 100000 ∧
    (v'.ownBlock = v.ownBlock ∨ ∃ g', v'.ownBlock = some g' ∧ w.heap.size ≤ g') ∧ (∀ b, b < w.heap.size → b ≠ T → v.ownBlock ≠ some b → wr.heap[b]? = w.heap[b]?) ∧ w.heap.size ≤ wr.heap.size ∧ Below w0.heap.size w0 wr) (fun x _ => us.length + 1 - (intOf x).toNat)
  case atStart => exact ⟨p, t, v, hp, rfl, HT.out, HO.out, rfl, htl, .inl rfl, fun _ _ _ _ => rfl, Nat.le_refl _, HB0.out⟩
  case round =>
    obtain ⟨q, t', v', hq, rfl, hTr, hor, hsp, htl', hvo, hfr, hsz, hbr⟩ := hrel
    have hAr := (hfr A hAl hAT (fun e => HVA.out e)).trans HA.out
    have HTR := Lib.hid hTr; have HOR := Lib.hid hor; have HSP := Lib.hid hsp; have HVO := Lib.hid hvo; have HFR := Lib.hid hfr; have HBR := Lib.hid hbr; have HAR := Lib.hid hAr
    have a0 := Lib.cell_of_heap hAr 0
    have t0 := Lib.cell_of_heap hTr 0
    have tf : wr.frozen? ⟨T, 0, none⟩ = false := frozen_of_row _ _ _ _ _ hTr
    have hAl2 := (Array.getElem?_eq_some_iff.1 hAr).1
    have hTl2 := (Array.getElem?_eq_some_iff.1 hTr).1
    have hvT' : v'.ownBlock ≠ some T := by
      rcases hvo with h | ⟨g', h, h2⟩
      · rw [h]; exact HVT.out
      · rw [h]; intro e; injection e with e; omega
    have HVT' := Lib.hid hvT'
    have HMR := Lib.hid (HM.out.keep hbr)
    have hgl := HMR.out.1
    clear hTr hor hsp hvo hfr hbr hAr hvT'
    cases hst : starAt (us.map (mn l)) q
    · have HST := Lib.hid hst
      rw [starAt_kind] at hst
      by_cases hlt : q < us.length
      · obtain ⟨pp, m0, m1, m2, _⟩ := HMR.out.2 q hlt
        rw [decide_eq_true hlt, Bool.true_and] at hst
        revert m0 m1 hst
        generalize us.getD q 0 = u
        intro hst m0 m1
        have hk2 : (((kindAt l u : Nat) : Int) == 2) = false := by
          rw [beq_eq_false_iff_ne] at hst ⊢
          omega
        clear hst
        rcases own_empty HOR.out with ⟨rfl, rfl⟩ | ⟨g1, cap1, rfl, hemp⟩
        · clear HOR
          go_wp2_with (at_builtin; refine wpList_append_lies _ rfl (.tmp 23) (.tmp 25) 33 rfl w0.heap.size 3 i0 (.int .i64 0) 1 8 Try.underlying33 HI.out HZ0.out HZ1.out HZ2.out rfl (by decide) _ 0 [] rfl (World.ownsRow_nil _ _ _ _) ⟨_, 0, none⟩ 1 1 [.int .i64 (q : Int)] rfl rfl ?c1 ?c2 (by decide) ?c3 ?c4 ?c5 _ rfl ?_)
          case c1 =>
            intro j u hu
            rw [Go.WideShapes.add_plain, World.cell?_alloc_at _ _ _ _ rfl]
            simpa using hu
          case c2 =>
            intro u hu
            simp only [List.mem_cons, List.not_mem_nil, or_false] at hu
            subst hu; rfl
          case c3 => unfold maxLen; omega
          case c4 => omega
          case c5 => have := HBR.out.size; simp only [World.size_alloc]; omega
          intro g2 cap2 w2 hown2 hgrow2 hat2 hlt2
          have hT2 := (hgrow2.block T (by simp only [World.size_alloc]; omega) (Ne.symm (show (Value.slice none 0 0).ownBlock ≠ some T by intro e; cases e))).trans ((Below.heap_alloc _ _ _ hTl2).trans HTR.out)
          have hgT : g2 ≠ T := by
            rcases hat2 with h | h
            · intro e; rw [e] at h; exact (show (Value.slice none 0 0).ownBlock ≠ some T by intro e; cases e) h
            · first | omega | (simp only [World.size_alloc] at h; omega)
          have hfr2 : ∀ b, b < w.heap.size → b ≠ T → v.ownBlock ≠ some b → w2.heap[b]? = w.heap[b]? := fun b h1 h2 h3 => (hgrow2.block b (by simp only [World.size_alloc]; omega) (by
            rcases HVO.out with h | ⟨g', h, h4⟩
            · intro e; exact h3 (h.symm.trans e.symm)
            · intro e
              have e2 := e.trans h
              injection e2 with e2
              omega)).trans ((Below.heap_alloc _ _ _ (by omega)).trans (HFR.out b h1 h2 h3))
          have hvo2 : some g2 = v.ownBlock ∨ ∃ g', some g2 = some g' ∧ w.heap.size ≤ g' := by
            rcases hat2 with h | h
            · rcases HVO.out with h2 | ⟨g', h2, h3⟩
              · exact .inl (h.symm.trans h2)
              · exact .inr ⟨g2, rfl, by have e := h.symm.trans h2; injection e with e; omega⟩
            · exact .inr ⟨g2, rfl, by first | omega | (simp only [World.size_alloc] at h; omega)⟩
          have hsz2 : w.heap.size ≤ w2.heap.size := by have := hgrow2.size; simp only [World.size_alloc] at this; omega
          have hb2 : Below w0.heap.size w0 w2 := ((HBR.out.alloc HBR.out.size _).grown hgrow2 (by have := HBR.out.size; simp only [World.size_alloc]; omega) (fun k hk => by cases hk))
          have t2 := Lib.cell_of_heap hT2 0
          have f2 : w2.frozen? ⟨T, 0, none⟩ = false := frozen_of_row _ _ _ _ _ hT2
          have hTl3 := (Array.getElem?_eq_some_iff.1 hT2).1
          have HT2 := Lib.hid hT2; have HFR2 := Lib.hid hfr2; have HVO2 := Lib.hid hvo2; have HB2 := Lib.hid hb2; have HO2 := Lib.hid hown2
          clear hT2 hfr2 hvo2 hb2 hown2 hgrow2 hat2 t0 tf
          go_wp2_with fail
          go_end0
          exact ⟨rfl, (.slice (some ⟨g2, 0, none⟩) (0 + 1) cap2), heap_setCell_same _ _ 0 _ _ (.slice (some ⟨g2, 0, none⟩) (0 + 1) cap2) HT2.out, by rw [HSP.out, SP_not HST.out]; exact (show OwnI _ w0.heap.size (.slice (some ⟨g2, 0, none⟩) (0 + 1) cap2) ([] ++ [q]) from by have h := own_other HO2.out (a := ⟨T, 0, none⟩) (fun g e => by injection e with e; subst e; exact hgT) (.slice (some ⟨g2, 0, none⟩) (0 + 1) cap2); simpa [OwnI, ints] using h), HVO2.out, fun b h1 h2 h3 => (Below.heap_setCell _ _ _ _ h2).trans (HFR2.out b h1 h2 h3), by simp; exact hsz2, HB2.out.setCell (p := ⟨T, 0, none⟩) hT0 _⟩
        · have HEM := Lib.hid hemp
          clear hemp
          have hown0 : ∀ n', (Value.slice (some ⟨g1, 0, none⟩) n' cap1).ownBlock ≠ some T := fun _ => HVT'.out
          have hg1 : w0.heap.size ≤ g1 := (HOR.out.lt _ rfl).1
          go_wp2_with (at_builtin; refine wpList_append_lies _ rfl (.tmp 23) (.tmp 25) 33 rfl w0.heap.size 3 i0 (.int .i64 0) 1 8 Try.underlying33 HI.out HZ0.out HZ1.out HZ2.out rfl (by decide) _ t'.length (ints t') rfl (World.ownsRow.alloc HOR.out _) ⟨_, 0, none⟩ 1 1 [.int .i64 (q : Int)] rfl rfl ?c1 ?c2 (by decide) ?c3 ?c4 ?c5 _ rfl ?_)
          case c1 =>
            intro j u hu
            rw [Go.WideShapes.add_plain, World.cell?_alloc_at _ _ _ _ rfl]
            simpa using hu
          case c2 =>
            intro u hu
            simp only [List.mem_cons, List.not_mem_nil, or_false] at hu
            subst hu; rfl
          case c3 => unfold maxLen; omega
          case c4 => omega
          case c5 => have := HBR.out.size; simp only [World.size_alloc]; omega
          intro g2 cap2 w2 hown2 hgrow2 hat2 hlt2
          have hT2 := (hgrow2.block T (by simp only [World.size_alloc]; omega) (Ne.symm (hown0 t'.length))).trans ((Below.heap_alloc _ _ _ hTl2).trans HTR.out)
          have hgT : g2 ≠ T := by
            rcases hat2 with h | h
            · intro e; rw [e] at h; exact (hown0 t'.length) h
            · first | omega | (simp only [World.size_alloc] at h; omega)
          have hfr2 : ∀ b, b < w.heap.size → b ≠ T → v.ownBlock ≠ some b → w2.heap[b]? = w.heap[b]? := fun b h1 h2 h3 => (hgrow2.block b (by simp only [World.size_alloc]; omega) (by
            rcases HVO.out with h | ⟨g', h, h4⟩
            · intro e; exact h3 (h.symm.trans e.symm)
            · intro e
              have e2 := e.trans h
              injection e2 with e2
              omega)).trans ((Below.heap_alloc _ _ _ (by omega)).trans (HFR.out b h1 h2 h3))
          have hvo2 : some g2 = v.ownBlock ∨ ∃ g', some g2 = some g' ∧ w.heap.size ≤ g' := by
            rcases hat2 with h | h
            · rcases HVO.out with h2 | ⟨g', h2, h3⟩
              · exact .inl (h.symm.trans h2)
              · exact .inr ⟨g2, rfl, by have e := h.symm.trans h2; injection e with e; omega⟩
            · exact .inr ⟨g2, rfl, by first | omega | (simp only [World.size_alloc] at h; omega)⟩
          have hsz2 : w.heap.size ≤ w2.heap.size := by have := hgrow2.size; simp only [World.size_alloc] at this; omega
          have hb2 : Below w0.heap.size w0 w2 := ((HBR.out.alloc HBR.out.size _).grown hgrow2 (by have := HBR.out.size; simp only [World.size_alloc]; omega) (fun k hk => by rcases (show g1 = k by simpa [Value.ownBlock] using hk) with rfl; omega))
          have t2 := Lib.cell_of_heap hT2 0
          have f2 : w2.frozen? ⟨T, 0, none⟩ = false := frozen_of_row _ _ _ _ _ hT2
          have hTl3 := (Array.getElem?_eq_some_iff.1 hT2).1
          have HT2 := Lib.hid hT2; have HFR2 := Lib.hid hfr2; have HVO2 := Lib.hid hvo2; have HB2 := Lib.hid hb2; have HO2 := Lib.hid hown2
          clear hT2 hfr2 hvo2 hb2 hown2 hgrow2 hat2 t0 tf
          go_wp2_with fail
          go_end0
          exact ⟨rfl, (.slice (some ⟨g2, 0, none⟩) (t'.length + 1) cap2), heap_setCell_same _ _ 0 _ _ (.slice (some ⟨g2, 0, none⟩) (t'.length + 1) cap2) HT2.out, by rw [HSP.out, SP_not HST.out]; exact (show OwnI _ w0.heap.size (.slice (some ⟨g2, 0, none⟩) (t'.length + 1) cap2) (t' ++ [q]) from by have h := own_other HO2.out (a := ⟨T, 0, none⟩) (fun g e => by injection e with e; subst e; exact hgT) (.slice (some ⟨g2, 0, none⟩) (t'.length + 1) cap2); simpa [OwnI, ints] using h), HVO2.out, fun b h1 h2 h3 => (Below.heap_setCell _ _ _ _ h2).trans (HFR2.out b h1 h2 h3), by simp; exact hsz2, HB2.out.setCell (p := ⟨T, 0, none⟩) hT0 _⟩
      · clear hst
        rcases own_empty HOR.out with ⟨rfl, rfl⟩ | ⟨g1, cap1, rfl, hemp⟩
        · clear HOR
          go_wp2_with (at_builtin; refine wpList_append_lies _ rfl (.tmp 23) (.tmp 25) 33 rfl w0.heap.size 3 i0 (.int .i64 0) 1 8 Try.underlying33 HI.out HZ0.out HZ1.out HZ2.out rfl (by decide) _ 0 [] rfl (World.ownsRow_nil _ _ _ _) ⟨_, 0, none⟩ 1 1 [.int .i64 (q : Int)] rfl rfl ?c1 ?c2 (by decide) ?c3 ?c4 ?c5 _ rfl ?_)
          case c1 =>
            intro j u hu
            rw [Go.WideShapes.add_plain, World.cell?_alloc_at _ _ _ _ rfl]
            simpa using hu
          case c2 =>
            intro u hu
            simp only [List.mem_cons, List.not_mem_nil, or_false] at hu
            subst hu; rfl
          case c3 => unfold maxLen; omega
          case c4 => omega
          case c5 => have := HBR.out.size; simp only [World.size_alloc]; omega
          intro g2 cap2 w2 hown2 hgrow2 hat2 hlt2
          have hT2 := (hgrow2.block T (by simp only [World.size_alloc]; omega) (Ne.symm (show (Value.slice none 0 0).ownBlock ≠ some T by intro e; cases e))).trans ((Below.heap_alloc _ _ _ hTl2).trans HTR.out)
          have hgT : g2 ≠ T := by
            rcases hat2 with h | h
            · intro e; rw [e] at h; exact (show (Value.slice none 0 0).ownBlock ≠ some T by intro e; cases e) h
            · first | omega | (simp only [World.size_alloc] at h; omega)
          have hfr2 : ∀ b, b < w.heap.size → b ≠ T → v.ownBlock ≠ some b → w2.heap[b]? = w.heap[b]? := fun b h1 h2 h3 => (hgrow2.block b (by simp only [World.size_alloc]; omega) (by
            rcases HVO.out with h | ⟨g', h, h4⟩
            · intro e; exact h3 (h.symm.trans e.symm)
            · intro e
              have e2 := e.trans h
              injection e2 with e2
              omega)).trans ((Below.heap_alloc _ _ _ (by omega)).trans (HFR.out b h1 h2 h3))
          have hvo2 : some g2 = v.ownBlock ∨ ∃ g', some g2 = some g' ∧ w.heap.size ≤ g' := by
            rcases hat2 with h | h
            · rcases HVO.out with h2 | ⟨g', h2, h3⟩
              · exact .inl (h.symm.trans h2)
              · exact .inr ⟨g2, rfl, by have e := h.symm.trans h2; injection e with e; omega⟩
            · exact .inr ⟨g2, rfl, by first | omega | (simp only [World.size_alloc] at h; omega)⟩
          have hsz2 : w.heap.size ≤ w2.heap.size := by have := hgrow2.size; simp only [World.size_alloc] at this; omega
          have hb2 : Below w0.heap.size w0 w2 := ((HBR.out.alloc HBR.out.size _).grown hgrow2 (by have := HBR.out.size; simp only [World.size_alloc]; omega) (fun k hk => by cases hk))
          have t2 := Lib.cell_of_heap hT2 0
          have f2 : w2.frozen? ⟨T, 0, none⟩ = false := frozen_of_row _ _ _ _ _ hT2
          have hTl3 := (Array.getElem?_eq_some_iff.1 hT2).1
          have HT2 := Lib.hid hT2; have HFR2 := Lib.hid hfr2; have HVO2 := Lib.hid hvo2; have HB2 := Lib.hid hb2; have HO2 := Lib.hid hown2
          clear hT2 hfr2 hvo2 hb2 hown2 hgrow2 hat2 t0 tf
          go_wp2_with fail
          go_end0
          exact ⟨rfl, (.slice (some ⟨g2, 0, none⟩) (0 + 1) cap2), heap_setCell_same _ _ 0 _ _ (.slice (some ⟨g2, 0, none⟩) (0 + 1) cap2) HT2.out, by rw [HSP.out, SP_not HST.out]; exact (show OwnI _ w0.heap.size (.slice (some ⟨g2, 0, none⟩) (0 + 1) cap2) ([] ++ [q]) from by have h := own_other HO2.out (a := ⟨T, 0, none⟩) (fun g e => by injection e with e; subst e; exact hgT) (.slice (some ⟨g2, 0, none⟩) (0 + 1) cap2); simpa [OwnI, ints] using h), HVO2.out, fun b h1 h2 h3 => (Below.heap_setCell _ _ _ _ h2).trans (HFR2.out b h1 h2 h3), by simp; exact hsz2, HB2.out.setCell (p := ⟨T, 0, none⟩) hT0 _⟩
        · have HEM := Lib.hid hemp
          clear hemp
          have hown0 : ∀ n', (Value.slice (some ⟨g1, 0, none⟩) n' cap1).ownBlock ≠ some T := fun _ => HVT'.out
          have hg1 : w0.heap.size ≤ g1 := (HOR.out.lt _ rfl).1
          go_wp2_with (at_builtin; refine wpList_append_lies _ rfl (.tmp 23) (.tmp 25) 33 rfl w0.heap.size 3 i0 (.int .i64 0) 1 8 Try.underlying33 HI.out HZ0.out HZ1.out HZ2.out rfl (by decide) _ t'.length (ints t') rfl (World.ownsRow.alloc HOR.out _) ⟨_, 0, none⟩ 1 1 [.int .i64 (q : Int)] rfl rfl ?c1 ?c2 (by decide) ?c3 ?c4 ?c5 _ rfl ?_)
          case c1 =>
            intro j u hu
            rw [Go.WideShapes.add_plain, World.cell?_alloc_at _ _ _ _ rfl]
            simpa using hu
          case c2 =>
            intro u hu
            simp only [List.mem_cons, List.not_mem_nil, or_false] at hu
            subst hu; rfl
          case c3 => unfold maxLen; omega
          case c4 => omega
          case c5 => have := HBR.out.size; simp only [World.size_alloc]; omega
          intro g2 cap2 w2 hown2 hgrow2 hat2 hlt2
          have hT2 := (hgrow2.block T (by simp only [World.size_alloc]; omega) (Ne.symm (hown0 t'.length))).trans ((Below.heap_alloc _ _ _ hTl2).trans HTR.out)
          have hgT : g2 ≠ T := by
            rcases hat2 with h | h
            · intro e; rw [e] at h; exact (hown0 t'.length) h
            · first | omega | (simp only [World.size_alloc] at h; omega)
          have hfr2 : ∀ b, b < w.heap.size → b ≠ T → v.ownBlock ≠ some b → w2.heap[b]? = w.heap[b]? := fun b h1 h2 h3 => (hgrow2.block b (by simp only [World.size_alloc]; omega) (by
            rcases HVO.out with h | ⟨g', h, h4⟩
            · intro e; exact h3 (h.symm.trans e.symm)
            · intro e
              have e2 := e.trans h
              injection e2 with e2
              omega)).trans ((Below.heap_alloc _ _ _ (by omega)).trans (HFR.out b h1 h2 h3))
          have hvo2 : some g2 = v.ownBlock ∨ ∃ g', some g2 = some g' ∧ w.heap.size ≤ g' := by
            rcases hat2 with h | h
            · rcases HVO.out with h2 | ⟨g', h2, h3⟩
              · exact .inl (h.symm.trans h2)
              · exact .inr ⟨g2, rfl, by have e := h.symm.trans h2; injection e with e; omega⟩
            · exact .inr ⟨g2, rfl, by first | omega | (simp only [World.size_alloc] at h; omega)⟩
          have hsz2 : w.heap.size ≤ w2.heap.size := by have := hgrow2.size; simp only [World.size_alloc] at this; omega
          have hb2 : Below w0.heap.size w0 w2 := ((HBR.out.alloc HBR.out.size _).grown hgrow2 (by have := HBR.out.size; simp only [World.size_alloc]; omega) (fun k hk => by rcases (show g1 = k by simpa [Value.ownBlock] using hk) with rfl; omega))
          have t2 := Lib.cell_of_heap hT2 0
          have f2 : w2.frozen? ⟨T, 0, none⟩ = false := frozen_of_row _ _ _ _ _ hT2
          have hTl3 := (Array.getElem?_eq_some_iff.1 hT2).1
          have HT2 := Lib.hid hT2; have HFR2 := Lib.hid hfr2; have HVO2 := Lib.hid hvo2; have HB2 := Lib.hid hb2; have HO2 := Lib.hid hown2
          clear hT2 hfr2 hvo2 hb2 hown2 hgrow2 hat2 t0 tf
          go_wp2_with fail
          go_end0
          exact ⟨rfl, (.slice (some ⟨g2, 0, none⟩) (t'.length + 1) cap2), heap_setCell_same _ _ 0 _ _ (.slice (some ⟨g2, 0, none⟩) (t'.length + 1) cap2) HT2.out, by rw [HSP.out, SP_not HST.out]; exact (show OwnI _ w0.heap.size (.slice (some ⟨g2, 0, none⟩) (t'.length + 1) cap2) (t' ++ [q]) from by have h := own_other HO2.out (a := ⟨T, 0, none⟩) (fun g e => by injection e with e; subst e; exact hgT) (.slice (some ⟨g2, 0, none⟩) (t'.length + 1) cap2); simpa [OwnI, ints] using h), HVO2.out, fun b h1 h2 h3 => (Below.heap_setCell _ _ _ _ h2).trans (HFR2.out b h1 h2 h3), by simp; exact hsz2, HB2.out.setCell (p := ⟨T, 0, none⟩) hT0 _⟩
    · have HST := Lib.hid hst
      rw [starAt_kind, Bool.and_eq_true, decide_eq_true_eq] at hst
      obtain ⟨hlt, hk2⟩ := hst
      obtain ⟨pp, m0, m1, m2, _⟩ := HMR.out.2 q hlt
      rw [beq_iff_eq.1 hk2] at m0
      clear hk2
      rcases own_empty HOR.out with ⟨rfl, rfl⟩ | ⟨g1, cap1, rfl, hemp⟩
      · clear HOR
        go_wp2_with (at_builtin; refine wpList_append_lies _ rfl (.tmp 17) (.tmp 19) 33 rfl w0.heap.size 3 i0 (.int .i64 0) 1 8 Try.underlying33 HI.out HZ0.out HZ1.out HZ2.out rfl (by decide) _ 0 [] rfl (World.ownsRow_nil _ _ _ _) ⟨_, 0, none⟩ 1 1 [.int .i64 (q : Int)] rfl rfl ?c1 ?c2 (by decide) ?c3 ?c4 ?c5 _ rfl ?_)
        case c1 =>
          intro j u hu
          rw [Go.WideShapes.add_plain, World.cell?_alloc_at _ _ _ _ rfl]
          simpa using hu
        case c2 =>
          intro u hu
          simp only [List.mem_cons, List.not_mem_nil, or_false] at hu
          subst hu; rfl
        case c3 => unfold maxLen; omega
        case c4 => omega
        case c5 => have := HBR.out.size; simp only [World.size_alloc]; omega
        intro g2 cap2 w2 hown2 hgrow2 hat2 hlt2
        have hT2 := (hgrow2.block T (by simp only [World.size_alloc]; omega) (Ne.symm (show (Value.slice none 0 0).ownBlock ≠ some T by intro e; cases e))).trans ((Below.heap_alloc _ _ _ hTl2).trans HTR.out)
        have hgT : g2 ≠ T := by
          rcases hat2 with h | h
          · intro e; rw [e] at h; exact (show (Value.slice none 0 0).ownBlock ≠ some T by intro e; cases e) h
          · first | omega | (simp only [World.size_alloc] at h; omega)
        have hfr2 : ∀ b, b < w.heap.size → b ≠ T → v.ownBlock ≠ some b → w2.heap[b]? = w.heap[b]? := fun b h1 h2 h3 => (hgrow2.block b (by simp only [World.size_alloc]; omega) (by
          rcases HVO.out with h | ⟨g', h, h4⟩
          · intro e; exact h3 (h.symm.trans e.symm)
          · intro e
            have e2 := e.trans h
            injection e2 with e2
            omega)).trans ((Below.heap_alloc _ _ _ (by omega)).trans (HFR.out b h1 h2 h3))
        have hvo2 : some g2 = v.ownBlock ∨ ∃ g', some g2 = some g' ∧ w.heap.size ≤ g' := by
          rcases hat2 with h | h
          · rcases HVO.out with h2 | ⟨g', h2, h3⟩
            · exact .inl (h.symm.trans h2)
            · exact .inr ⟨g2, rfl, by have e := h.symm.trans h2; injection e with e; omega⟩
          · exact .inr ⟨g2, rfl, by first | omega | (simp only [World.size_alloc] at h; omega)⟩
        have hsz2 : w.heap.size ≤ w2.heap.size := by have := hgrow2.size; simp only [World.size_alloc] at this; omega
        have hb2 : Below w0.heap.size w0 w2 := ((HBR.out.alloc HBR.out.size _).grown hgrow2 (by have := HBR.out.size; simp only [World.size_alloc]; omega) (fun k hk => by cases hk))
        have t2 := Lib.cell_of_heap hT2 0
        have f2 : w2.frozen? ⟨T, 0, none⟩ = false := frozen_of_row _ _ _ _ _ hT2
        have hTl3 := (Array.getElem?_eq_some_iff.1 hT2).1
        have HT2 := Lib.hid hT2; have HFR2 := Lib.hid hfr2; have HVO2 := Lib.hid hvo2; have HB2 := Lib.hid hb2; have HO2 := Lib.hid hown2
        clear hT2 hfr2 hvo2 hb2 hown2 hgrow2 hat2 t0 tf
        go_wp2_with fail
        go_roundw
        case rel => exact ⟨q + 1, [q], (.slice (some ⟨g2, 0, none⟩) (0 + 1) cap2), by omega, by go_num, heap_setCell_same _ _ 0 _ _ (.slice (some ⟨g2, 0, none⟩) (0 + 1) cap2) HT2.out, (show OwnI _ w0.heap.size (.slice (some ⟨g2, 0, none⟩) (0 + 1) cap2) [q] from by have h := own_other HO2.out (a := ⟨T, 0, none⟩) (fun g e => by injection e with e; subst e; exact hgT) (.slice (some ⟨g2, 0, none⟩) (0 + 1) cap2); simpa [OwnI, ints] using h), HSP.out.trans (SP_star HST.out), by simp, HVO2.out, fun b h1 h2 h3 => (Below.heap_setCell _ _ _ _ h2).trans (HFR2.out b h1 h2 h3), by simp; exact hsz2, HB2.out.setCell (p := ⟨T, 0, none⟩) hT0 _⟩
        case measure => simp [intOf]; omega
      · have HEM := Lib.hid hemp
        clear hemp
        have hown0 : ∀ n', (Value.slice (some ⟨g1, 0, none⟩) n' cap1).ownBlock ≠ some T := fun _ => HVT'.out
        have hg1 : w0.heap.size ≤ g1 := (HOR.out.lt _ rfl).1
        go_wp2_with (at_builtin; refine wpList_append_lies _ rfl (.tmp 17) (.tmp 19) 33 rfl w0.heap.size 3 i0 (.int .i64 0) 1 8 Try.underlying33 HI.out HZ0.out HZ1.out HZ2.out rfl (by decide) _ 0 [] rfl (World.ownsRow.alloc HEM.out _) ⟨_, 0, none⟩ 1 1 [.int .i64 (q : Int)] rfl rfl ?c1 ?c2 (by decide) ?c3 ?c4 ?c5 _ rfl ?_)
        case c1 =>
          intro j u hu
          rw [Go.WideShapes.add_plain, World.cell?_alloc_at _ _ _ _ rfl]
          simpa using hu
        case c2 =>
          intro u hu
          simp only [List.mem_cons, List.not_mem_nil, or_false] at hu
          subst hu; rfl
        case c3 => unfold maxLen; omega
        case c4 => omega
        case c5 => have := HBR.out.size; simp only [World.size_alloc]; omega
        intro g2 cap2 w2 hown2 hgrow2 hat2 hlt2
        have hT2 := (hgrow2.block T (by simp only [World.size_alloc]; omega) (Ne.symm (hown0 0))).trans ((Below.heap_alloc _ _ _ hTl2).trans HTR.out)
        have hgT : g2 ≠ T := by
          rcases hat2 with h | h
          · intro e; rw [e] at h; exact (hown0 0) h
          · first | omega | (simp only [World.size_alloc] at h; omega)
        have hfr2 : ∀ b, b < w.heap.size → b ≠ T → v.ownBlock ≠ some b → w2.heap[b]? = w.heap[b]? := fun b h1 h2 h3 => (hgrow2.block b (by simp only [World.size_alloc]; omega) (by
          rcases HVO.out with h | ⟨g', h, h4⟩
          · intro e; exact h3 (h.symm.trans e.symm)
          · intro e
            have e2 := e.trans h
            injection e2 with e2
            omega)).trans ((Below.heap_alloc _ _ _ (by omega)).trans (HFR.out b h1 h2 h3))
        have hvo2 : some g2 = v.ownBlock ∨ ∃ g', some g2 = some g' ∧ w.heap.size ≤ g' := by
          rcases hat2 with h | h
          · rcases HVO.out with h2 | ⟨g', h2, h3⟩
            · exact .inl (h.symm.trans h2)
            · exact .inr ⟨g2, rfl, by have e := h.symm.trans h2; injection e with e; omega⟩
          · exact .inr ⟨g2, rfl, by first | omega | (simp only [World.size_alloc] at h; omega)⟩
        have hsz2 : w.heap.size ≤ w2.heap.size := by have := hgrow2.size; simp only [World.size_alloc] at this; omega
        have hb2 : Below w0.heap.size w0 w2 := ((HBR.out.alloc HBR.out.size _).grown hgrow2 (by have := HBR.out.size; simp only [World.size_alloc]; omega) (fun k hk => by rcases (show g1 = k by simpa [Value.ownBlock] using hk) with rfl; omega))
        have t2 := Lib.cell_of_heap hT2 0
        have f2 : w2.frozen? ⟨T, 0, none⟩ = false := frozen_of_row _ _ _ _ _ hT2
        have hTl3 := (Array.getElem?_eq_some_iff.1 hT2).1
        have HT2 := Lib.hid hT2; have HFR2 := Lib.hid hfr2; have HVO2 := Lib.hid hvo2; have HB2 := Lib.hid hb2; have HO2 := Lib.hid hown2
        clear hT2 hfr2 hvo2 hb2 hown2 hgrow2 hat2 t0 tf
        go_wp2_with fail
        go_roundw
        case rel => exact ⟨q + 1, [q], (.slice (some ⟨g2, 0, none⟩) (0 + 1) cap2), by omega, by go_num, heap_setCell_same _ _ 0 _ _ (.slice (some ⟨g2, 0, none⟩) (0 + 1) cap2) HT2.out, (show OwnI _ w0.heap.size (.slice (some ⟨g2, 0, none⟩) (0 + 1) cap2) [q] from by have h := own_other HO2.out (a := ⟨T, 0, none⟩) (fun g e => by injection e with e; subst e; exact hgT) (.slice (some ⟨g2, 0, none⟩) (0 + 1) cap2); simpa [OwnI, ints] using h), HSP.out.trans (SP_star HST.out), by simp, HVO2.out, fun b h1 h2 h3 => (Below.heap_setCell _ _ _ _ h2).trans (HFR2.out b h1 h2 h3), by simp; exact hsz2, HB2.out.setCell (p := ⟨T, 0, none⟩) hT0 _⟩
        case measure => simp [intOf]; omega
end Pn
end Go.Proofs.Ytfjfgaefbldgbaa
