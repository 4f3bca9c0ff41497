/- Patterns: pieces in memory, and their bytes, one behind the other, on both sides. -/
import Derived.Test.YtfjfgaefbldgbaaPnD
import Derived.Test.YtfjfgaefbldgbaaRegN
import Derived.Deep.AppendLies
namespace Go.Proofs.Ytfjfgaefbldgbaa
open Go.RowKit
namespace Pn
theorem drewn {B : Nat} {w w' : World} (h : Below B w w') : Below B w w'.drew := ⟨h.os, h.tape, h.output, h.size, h.block⟩
/-- A piece: its text, whether it is quoted, whether it is a cut. -/
abbrev Pc := ByteArray × Bool × Bool
def pc (ps : List Pc) (i : Nat) : Pc := ps.getD i (⟨#[]⟩, false, false)
def PAt (w : World) (b o : Nat) (ps : List Pc) : Prop := ∀ i, i < ps.length → w.cell? ⟨b, o + i * 3, none⟩ = some (.string (pc ps i).1) ∧ w.cell? ⟨b, o + i * 3 + 1, none⟩ = some (.bool (pc ps i).2.1) ∧ w.cell? ⟨b, o + i * 3 + 2, none⟩ = some (.bool (pc ps i).2.2)
def Pcs (w : World) (a : Option Addr) (ps : List Pc) : Prop := ps = [] ∨ ∃ b o, a = some ⟨b, o, none⟩ ∧ b < w.heap.size ∧ PAt w b o ps
theorem Pcs.below {w w' : World} {a : Option Addr} {ps : List Pc} (h : Pcs w a ps) (hb : Below w.heap.size w w') : Pcs w' a ps := by
  rcases h with h | ⟨b, o, ha, hlt, h⟩
  · exact .inl h
  · exact .inr ⟨b, o, ha, Nat.lt_of_lt_of_le hlt hb.size, fun i hi => ⟨(hb.cell (p := ⟨b, _, none⟩) hlt).trans (h i hi).1, (hb.cell (p := ⟨b, _, none⟩) hlt).trans (h i hi).2.1, (hb.cell (p := ⟨b, _, none⟩) hlt).trans (h i hi).2.2⟩⟩
theorem Pcs.get {w : World} {a : Option Addr} {ps : List Pc} {i : Nat} (h : Pcs w a ps) (hi : i < ps.length) :
    ∃ b o, a = some ⟨b, o, none⟩ ∧ b < w.heap.size ∧ w.cell? ⟨b, o + i * 3, none⟩ = some (.string (pc ps i).1) ∧ w.cell? ⟨b, o + i * 3 + 1, none⟩ = some (.bool (pc ps i).2.1) ∧ w.cell? ⟨b, o + i * 3 + 2, none⟩ = some (.bool (pc ps i).2.2) := by
  rcases h with rfl | ⟨b, o, ha, hlt, h⟩
  · exact absurd hi (Nat.not_lt_zero i)
  · exact ⟨b, o, ha, hlt, h i hi⟩
/-- A text's bytes as signs. -/
def tb (t : ByteArray) (q : Bool) : List Sg := t.data.toList.map fun c => (c.toNat, q)
def one1 (p : Pc) : List Sg := if p.2.2 then [] else tb p.1 p.2.1
/-- The signs of pieces. -/
def sg (ps : List Pc) : List Sg := ps.flatMap one1
def weight (ps : List Pc) : Nat := (ps.map fun p => p.1.size + 1).sum
/-- The cells of signs. -/
def scells (l : List Sg) : List Value := l.flatMap fun s => [.int .u8 (s.1 : Int), .bool s.2]
theorem tb_len (t : ByteArray) (q : Bool) : (tb t q).length = t.size := by simp [tb]
theorem tb_snoc (t : ByteArray) (q : Bool) {j : Nat} (h : j < t.size) : (tb t q).take (j + 1) = (tb t q).take j ++ [(t[j].toNat, q)] := by
  have hl : j < (tb t q).length := by rw [tb_len]; exact h
  rw [List.take_succ_eq_append_getElem hl]
  congr 2
  simp [tb]
  rfl
theorem scells_len (l : List Sg) : (scells l).length = l.length * 2 := by induction l with
  | nil => rfl
  | cons x r ih => simp only [scells, List.flatMap_cons, List.length_append, List.length_cons, List.length_nil] at ih ⊢; omega
theorem scells_app (l m : List Sg) : scells (l ++ m) = scells l ++ scells m := by simp [scells]
theorem weight_take (ps : List Pc) : ∀ k, weight (ps.take k) ≤ weight ps := by
  induction ps with
  | nil => intro k; simp
  | cons p r ih =>
    intro k
    cases k with
    | zero => simp [weight]
    | succ k => have := ih k; simp only [weight, List.take_succ_cons, List.map_cons, List.sum_cons] at this ⊢; omega
theorem weight_snoc (l : List Pc) (p : Pc) : weight (l ++ [p]) = weight l + (p.1.size + 1) := by simp [weight]
theorem sg_snoc (l : List Pc) (p : Pc) : sg (l ++ [p]) = sg l ++ one1 p := by simp [sg]
theorem one1_len (p : Pc) : (one1 p).length ≤ p.1.size := by
  unfold one1
  split
  · simp
  · rw [tb_len]; exact Nat.le_refl _
theorem sg_len (ps : List Pc) : (sg ps).length ≤ weight ps := by
  induction ps with
  | nil => simp [sg]
  | cons p r ih =>
    have := one1_len p
    simp only [sg, weight, List.flatMap_cons, List.length_append, List.map_cons, List.sum_cons] at ih ⊢
    omega
theorem take_snoc {ps : List Pc} {k : Nat} (h : k < ps.length) : ps.take (k + 1) = ps.take k ++ [pc ps k] := by
  rw [List.take_succ_eq_append_getElem h, pc, List.getD, List.getElem?_eq_getElem h]
  rfl
theorem len_le (ps : List Pc) : ps.length ≤ weight ps := by
  induction ps with
  | nil => simp
  | cons p r ih => simp only [weight, List.map_cons, List.sum_cons, List.length_cons] at ih ⊢; omega
theorem infoSign : (Try.prog.info? 51).map (fun i => (i.zero, i.size, i.bytes)) = some (some (.agg #[.int .u8 0, .bool false]), 2, 2) := by kernel_rfl
set_option maxHeartbeats 800000 in
theorem signs_any (a : Option Addr) (cap : Nat) (ps : List Pc) (w : World) (h : Pcs w a ps) (hw : weight ps ≤ 1000) :
    Calls Try.prog 21 #[.slice a ps.length cap] w fun e w' => (∃ v, e = .returned v ∧ w'.ownsRow w.heap.size 51 2 v (sg ps).length (scells (sg ps))) ∧ Below w.heap.size w w' := by
  obtain ⟨i0, hi, hz0, hz1, hz2⟩ := info_parts infoSign
  have H := Lib.hid h; clear h
  have HI := Lib.hid hi; have HZ0 := Lib.hid hz0; have HZ1 := Lib.hid hz1; have HZ2 := Lib.hid hz2
  clear hi hz0 hz1 hz2
  have hpl := len_le ps
  go_enter Try.func21, Try.ntmps21
  go_wp2_with fail
  go_loopw [3, 9] (fun v x wr => ∃ k : Nat, k ≤ ps.length ∧ x = .int .i64 k ∧ wr.ownsRow w.heap.size 51 2 v (sg (ps.take k)).length (scells (sg (ps.take k))) ∧ Below w.heap.size w wr) (fun _ x _ => ps.length - (intOf x).toNat)
  case atStart => exact ⟨0, Nat.zero_le _, rfl, World.ownsRow_nil _ _ _ _, Below.refl _ _⟩
  case round =>
    obtain ⟨k, hk, rfl, hown, hbw⟩ := hrel
    have HO := Lib.hid hown; have HW := Lib.hid hbw
    have hws := hbw.size
    clear hown hbw
    by_cases hlt : k < ps.length
    · obtain ⟨b, o, rfl, hb, c0, c1, c2⟩ := (H.out.below HW.out).get hlt
      have HT := Lib.hid (take_snoc hlt)
      have HWT := Lib.hid (weight_take ps (k + 1))
      revert c0 c1 c2 HT
      generalize pc ps k = p
      obtain ⟨t, q, u⟩ := p
      intro c0 c1 c2 HT
      have hts : (sg (ps.take k)).length + t.size ≤ 1000 := by
        have h1 := HWT.out
        rw [HT.out, weight_snoc] at h1
        have h2 := sg_len (ps.take k)
        simp only at h1
        omega
      cases u
      · obtain ⟨wo, hwo⟩ : ∃ wo, wo = wr := ⟨_, rfl⟩
        subst hwo
        go_wp2_with fail
        go_loopw [3, 18] (fun v x wr => ∃ j : Nat, j ≤ t.size ∧ x = .int .i64 j ∧ wr.ownsRow w.heap.size 51 2 v ((sg (ps.take k)).length + j) (scells (sg (ps.take k) ++ (tb t q).take j)) ∧ v.ownBlock ≠ some wo.heap.size ∧ Below w.heap.size w wr ∧ wr.heap[wo.heap.size]? = some (.cells #[.string t, .bool q, .bool false] 27 (0, 0))) (fun _ x _ => t.size - (intOf x).toNat)
        case atStart => exact ⟨0, Nat.zero_le _, rfl, by simpa using HO.out.alloc _, fun h => absurd (HO.out.lt _ h).2 (by omega), HW.out.alloc HW.out.size _, by show (wo.heap.push _)[wo.heap.size]? = _; simp⟩
        case round =>
          obtain ⟨j, hj, rfl, hown, hne, hbw, hx⟩ := hrel
          have c0 := Lib.cell_of_heap hx 0
          have c1 := Lib.cell_of_heap hx 1
          have HO2 := Lib.hid hown; have HW2 := Lib.hid hbw; have HX := Lib.hid hx; have HNE := Lib.hid hne
          have hws2 := hbw.size
          have hxlt := (Array.getElem?_eq_some_iff.1 hx).1
          clear hown hbw hx hne
          by_cases hlj : j < t.size
          · go_wp2_with fail
            refine RN.begins (fun w' => w'.cell? ⟨wo.heap.size, 0, none⟩ = some (.string t) ∧ w'.cell? ⟨wo.heap.size, 1, none⟩ = some (.bool q)) [9, 10] (by kernel_rfl) ?_
            have hS : wr.drew.cell? ⟨wo.heap.size, 0, none⟩ = some (.string t) ∧ wr.drew.cell? ⟨wo.heap.size, 1, none⟩ = some (.bool q) := ⟨c0, c1⟩
            refine RN.take (i := 0) (v := ?_) rfl (by decide) (by kernel_rfl) (by kernel_rfl) (by kernel_rfl) (by kernel_rfl) (by kernel_rfl) (by first | exact fun _ _ _ h => h | exact fun _ _ _ h => (by cases h.1) | exact fun _ _ _ h => door_put (by decide) h) (.inl ⟨by rfl, ?_⟩) hS ?_
            rotate_left 1
            · (intro wq hq; obtain ⟨s0, s1⟩ := hq; go_simp; try with_reducible rfl)
            refine RN.take (i := 1) (v := ?_) rfl (by decide) (by kernel_rfl) (by kernel_rfl) (by kernel_rfl) (by kernel_rfl) (by kernel_rfl) (by first | exact fun _ _ _ h => h | exact fun _ _ _ h => (by cases h.1) | exact fun _ _ _ h => door_put (by decide) h) (.inl ⟨by rfl, ?_⟩) hS ?_
            rotate_left 1
            · (intro wq hq; obtain ⟨s0, s1⟩ := hq; go_simp; try with_reducible rfl)
            refine RN.take (i := 2) (v := ?_) rfl (by decide) (by kernel_rfl) (by kernel_rfl) (by kernel_rfl) (by kernel_rfl) (by kernel_rfl) (by first | exact fun _ _ _ h => h | exact fun _ _ _ h => (by cases h.1) | exact fun _ _ _ h => door_put (by decide) h) (.inl ⟨by rfl, ?_⟩) hS ?_
            rotate_left 1
            · (intro wq hq; obtain ⟨s0, s1⟩ := hq; go_simp; try with_reducible rfl)
            refine RN.take (i := 3) (v := ?_) rfl (by decide) (by kernel_rfl) (by kernel_rfl) (by kernel_rfl) (by kernel_rfl) (by kernel_rfl) (by first | exact fun _ _ _ h => h | exact fun _ _ _ h => (by cases h.1) | exact fun _ _ _ h => door_put (by decide) h) (.inl ⟨by rfl, ?_⟩) hS ?_
            rotate_left 1
            · (intro wq hq; obtain ⟨s0, s1⟩ := hq; go_simp; try with_reducible rfl)
            refine RN.take (i := 4) (v := ?_) rfl (by decide) (by kernel_rfl) (by kernel_rfl) (by kernel_rfl) (by kernel_rfl) (by kernel_rfl) (by first | exact fun _ _ _ h => h | exact fun _ _ _ h => (by cases h.1) | exact fun _ _ _ h => door_put (by decide) h) (.inl ⟨by rfl, ?_⟩) hS ?_
            rotate_left 1
            · (intro wq hq; obtain ⟨s0, s1⟩ := hq; go_simp; try with_reducible rfl)
            refine RN.take (i := 5) (v := ?_) rfl (by decide) (by kernel_rfl) (by kernel_rfl) (by kernel_rfl) (by kernel_rfl) (by kernel_rfl) (by first | exact fun _ _ _ h => h | exact fun _ _ _ h => (by cases h.1) | exact fun _ _ _ h => door_put (by decide) h) (.inl ⟨by rfl, ?_⟩) hS ?_
            rotate_left 1
            · (intro wq hq; obtain ⟨s0, s1⟩ := hq; go_simp; try with_reducible rfl)
            refine RN.take (i := 6) (v := ?_) rfl (by decide) (by kernel_rfl) (by kernel_rfl) (by kernel_rfl) (by kernel_rfl) (by kernel_rfl) (by first | exact fun _ _ _ h => h | exact fun _ _ _ h => (by cases h.1) | exact fun _ _ _ h => door_put (by decide) h) (.inl ⟨by rfl, ?_⟩) hS ?_
            rotate_left 1
            · (intro wq hq; obtain ⟨s0, s1⟩ := hq; go_simp; try with_reducible rfl)
            refine RN.take (i := 7) (v := ?_) rfl (by decide) (by kernel_rfl) (by kernel_rfl) (by kernel_rfl) (by kernel_rfl) (by kernel_rfl) (by first | exact fun _ _ _ h => h | exact fun _ _ _ h => (by cases h.1) | exact fun _ _ _ h => door_put (by decide) h) (.inl ⟨by rfl, ?_⟩) hS ?_
            rotate_left 1
            · (intro wq hq; obtain ⟨s0, s1⟩ := hq; go_simp; try with_reducible rfl)
            refine RN.all (rs := [8]) (by kernel_rfl) (by simp) ?_
            refine RN.All.cons rfl (fun K hK => ?_) RN.All.nil
            go_simp
            refine hK _ _ (fun _ => ⟨(World.cell?_alloc_lt _ _ _ hxlt).trans c0, (World.cell?_alloc_lt _ _ _ hxlt).trans c1⟩) ?_
            clear hK K
            refine RN.all (rs := [9]) (by kernel_rfl) (by simp) ?_
            refine RN.All.cons rfl (fun K hK => ?_) RN.All.nil
            refine step_append_lies _ (by rfl) _ _ _ (by rfl) w.heap.size 51 i0 _ 2 2 Try.underlying46 HI.out HZ0.out HZ1.out HZ2.out rfl (by omega) u3 ((sg (ps.take k)).length + j) _ (by rfl) ((HO2.out.alloc _).drew)
              ⟨wr.heap.size, 0, none⟩ 1 1 [.int .u8 (t[j].toNat : Int), .bool q] (by rfl) (by rfl) (World.news_of_block (cs := #[.int .u8 (t[j].toNat : Int), .bool q]) (t := 51) (fr := (0, 0)) (heap_alloc_new wr _)) (by simp [Value.oneCell'])
              (by omega) (by unfold maxLen; omega) (by omega) (by simp; omega) (wr.heap.size + 1) (by simp) ?_
            intro g capn w2 hown1 hgrow hat hlt2
            refine hK _ _ (fun h => absurd h (by decide)) ?_
            clear hK K
            refine RN.all (rs := [10]) (by kernel_rfl) (by simp) ?_
            refine RN.All.cons rfl (fun K hK => ?_) RN.All.nil
            go_simp
            refine hK _ _ (fun h => absurd h (by decide)) ?_
            clear hK K
            refine RN.done (by kernel_rfl) ?_ _
            have hb2 : Below w.heap.size w w2 := (drewn (HW2.out.alloc HW2.out.size (.cells #[.int .u8 (t[j].toNat : Int), .bool q] 51))).grown hgrow (by simp; omega) (fun k hk => (HO2.out.lt k hk).1)
            have hx2 : w2.heap[wo.heap.size]? = some (.cells #[.string t, .bool q, .bool false] 27 (0, 0)) := (hgrow.block _ (by simp; omega) (Ne.symm HNE.out)).trans ((Below.heap_alloc _ _ _ hxlt).trans HX.out)
            have hg2 : g ≠ wo.heap.size := by
              rcases hat with h | h
              · intro e; subst e; exact HNE.out h
              · omega
            have HO3 := Lib.hid hown1; have HB2 := Lib.hid hb2; have HX2 := Lib.hid hx2
            clear hown1 hgrow hat hb2 hx2 hS
            go_wp2_with fail
            go_roundw
            case rel => exact ⟨j + 1, by omega, by go_num, by rw [tb_snoc t q hlj, ← List.append_assoc, scells_app]; exact HO3.out, by simp [Value.ownBlock]; exact hg2, HB2.out, HX2.out⟩
            case measure => simp [intOf]; omega
          · obtain rfl : j = t.size := by omega
            have hfin : (tb t q).take t.size = tb t q := by rw [← tb_len t q]; exact List.take_length
            go_wp2_with fail
            go_roundw
            case rel => exact ⟨k + 1, by omega, by go_num, by
              have h1 := HO2.out
              rw [hfin] at h1
              rw [HT.out, sg_snoc, List.length_append]
              simpa [one1, tb_len] using h1, HW2.out⟩
            case measure => simp [intOf]; omega
      · go_wp2_with fail
        go_roundw
        case rel => exact ⟨k + 1, by omega, by go_num, by rw [HT.out, sg_snoc]; simpa [one1] using HO.out.alloc _, HW.out.alloc HW.out.size _⟩
        case measure => simp [intOf]; omega
    · obtain rfl : k = ps.length := by omega
      go_wp2_with fail
      go_ret
      have := HO.out
      rw [List.take_length] at this
      exact ⟨⟨_, rfl, this⟩, HW.out⟩
theorem infoChar : (Try.prog.info? 56).map (fun i => (i.zero, i.size, i.bytes)) = some (some (.agg #[.int .u8 0, .bool false]), 2, 2) := by kernel_rfl
set_option maxHeartbeats 800000 in
theorem rchars_any (a : Option Addr) (cap : Nat) (ps : List Pc) (w : World) (h : Pcs w a ps) (hw : weight ps ≤ 1000) :
    Calls Try.prog 16 #[.slice a ps.length cap] w fun e w' => (∃ v, e = .returned v ∧ w'.ownsRow w.heap.size 56 2 v (sg ps).length (scells (sg ps))) ∧ Below w.heap.size w w' := by
  obtain ⟨i0, hi, hz0, hz1, hz2⟩ := info_parts infoChar
  have H := Lib.hid h; clear h
  have HI := Lib.hid hi; have HZ0 := Lib.hid hz0; have HZ1 := Lib.hid hz1; have HZ2 := Lib.hid hz2
  clear hi hz0 hz1 hz2
  have hpl := len_le ps
  have HO0 := Lib.hid (World.ownsRow_made (e := 56) (size := 2) w #[] 0 (Nat.le_refl _) (Nat.zero_le _) rfl)
  go_enter Try.func16, Try.ntmps16
  go_wp2_with fail
  go_loopw [3, 10] (fun v x wr => ∃ k : Nat, k ≤ ps.length ∧ x = .int .i64 k ∧ wr.ownsRow w.heap.size 56 2 v (sg (ps.take k)).length (scells (sg (ps.take k))) ∧ Below w.heap.size w wr) (fun _ x _ => ps.length - (intOf x).toNat)
  case atStart => exact ⟨0, Nat.zero_le _, rfl, HO0.out, (Below.refl _ w).alloc (Nat.le_refl _) _⟩
  case round =>
    obtain ⟨k, hk, rfl, hown, hbw⟩ := hrel
    have HO := Lib.hid hown; have HW := Lib.hid hbw
    have hws := hbw.size
    clear hown hbw
    by_cases hlt : k < ps.length
    · obtain ⟨b, o, rfl, hb, c0, c1, c2⟩ := (H.out.below HW.out).get hlt
      have HT := Lib.hid (take_snoc hlt)
      have HWT := Lib.hid (weight_take ps (k + 1))
      revert c0 c1 c2 HT
      generalize pc ps k = p
      obtain ⟨t, q, u⟩ := p
      intro c0 c1 c2 HT
      have hts : (sg (ps.take k)).length + t.size ≤ 1000 := by
        have h1 := HWT.out
        rw [HT.out, weight_snoc] at h1
        have h2 := sg_len (ps.take k)
        simp only at h1
        omega
      cases u
      · obtain ⟨wo, hwo⟩ : ∃ wo, wo = wr := ⟨_, rfl⟩
        subst hwo
        go_wp2_with fail
        go_loopw [3, 6] (fun v x wr => ∃ j : Nat, j ≤ t.size ∧ x = .int .i64 j ∧ wr.ownsRow w.heap.size 56 2 v ((sg (ps.take k)).length + j) (scells (sg (ps.take k) ++ (tb t q).take j)) ∧ v.ownBlock ≠ some wo.heap.size ∧ Below w.heap.size w wr ∧ wr.heap[wo.heap.size]? = some (.cells #[.string t, .bool q, .bool false] 27 (0, 0))) (fun _ x _ => t.size - (intOf x).toNat)
        case atStart => exact ⟨0, Nat.zero_le _, rfl, by simpa using HO.out.alloc _, fun h => absurd (HO.out.lt _ h).2 (by omega), HW.out.alloc HW.out.size _, by show (wo.heap.push _)[wo.heap.size]? = _; simp⟩
        case round =>
          obtain ⟨j, hj, rfl, hown, hne, hbw, hx⟩ := hrel
          have c0 := Lib.cell_of_heap hx 0
          have c1 := Lib.cell_of_heap hx 1
          have c2' := Lib.cell_of_heap hx 2
          have HO2 := Lib.hid hown; have HW2 := Lib.hid hbw; have HX := Lib.hid hx; have HNE := Lib.hid hne
          have hws2 := hbw.size
          have hxlt := (Array.getElem?_eq_some_iff.1 hx).1
          clear hown hbw hx hne
          by_cases hlj : j < t.size
          · go_wp2_with fail
            refine RN.begins (fun w' => w'.cell? ⟨wo.heap.size, 0, none⟩ = some (.string t) ∧ w'.cell? ⟨wo.heap.size, 1, none⟩ = some (.bool q)) [9, 10] (by kernel_rfl) ?_
            have hS : wr.drew.cell? ⟨wo.heap.size, 0, none⟩ = some (.string t) ∧ wr.drew.cell? ⟨wo.heap.size, 1, none⟩ = some (.bool q) := ⟨c0, c1⟩
            refine RN.take (i := 0) (v := ?_) rfl (by decide) (by kernel_rfl) (by kernel_rfl) (by kernel_rfl) (by kernel_rfl) (by kernel_rfl) (by first | exact fun _ _ _ h => h | exact fun _ _ _ h => (by cases h.1) | exact fun _ _ _ h => door_put (by decide) h) (.inl ⟨by rfl, ?_⟩) hS ?_
            rotate_left 1
            · (intro wq hq; obtain ⟨s0, s1⟩ := hq; go_simp; try with_reducible rfl)
            refine RN.take (i := 1) (v := ?_) rfl (by decide) (by kernel_rfl) (by kernel_rfl) (by kernel_rfl) (by kernel_rfl) (by kernel_rfl) (by first | exact fun _ _ _ h => h | exact fun _ _ _ h => (by cases h.1) | exact fun _ _ _ h => door_put (by decide) h) (.inl ⟨by rfl, ?_⟩) hS ?_
            rotate_left 1
            · (intro wq hq; obtain ⟨s0, s1⟩ := hq; go_simp; try with_reducible rfl)
            refine RN.take (i := 2) (v := ?_) rfl (by decide) (by kernel_rfl) (by kernel_rfl) (by kernel_rfl) (by kernel_rfl) (by kernel_rfl) (by first | exact fun _ _ _ h => h | exact fun _ _ _ h => (by cases h.1) | exact fun _ _ _ h => door_put (by decide) h) (.inl ⟨by rfl, ?_⟩) hS ?_
            rotate_left 1
            · (intro wq hq; obtain ⟨s0, s1⟩ := hq; go_simp; try with_reducible rfl)
            refine RN.take (i := 3) (v := ?_) rfl (by decide) (by kernel_rfl) (by kernel_rfl) (by kernel_rfl) (by kernel_rfl) (by kernel_rfl) (by first | exact fun _ _ _ h => h | exact fun _ _ _ h => (by cases h.1) | exact fun _ _ _ h => door_put (by decide) h) (.inl ⟨by rfl, ?_⟩) hS ?_
            rotate_left 1
            · (intro wq hq; obtain ⟨s0, s1⟩ := hq; go_simp; try with_reducible rfl)
            refine RN.take (i := 4) (v := ?_) rfl (by decide) (by kernel_rfl) (by kernel_rfl) (by kernel_rfl) (by kernel_rfl) (by kernel_rfl) (by first | exact fun _ _ _ h => h | exact fun _ _ _ h => (by cases h.1) | exact fun _ _ _ h => door_put (by decide) h) (.inl ⟨by rfl, ?_⟩) hS ?_
            rotate_left 1
            · (intro wq hq; obtain ⟨s0, s1⟩ := hq; go_simp; try with_reducible rfl)
            refine RN.take (i := 5) (v := ?_) rfl (by decide) (by kernel_rfl) (by kernel_rfl) (by kernel_rfl) (by kernel_rfl) (by kernel_rfl) (by first | exact fun _ _ _ h => h | exact fun _ _ _ h => (by cases h.1) | exact fun _ _ _ h => door_put (by decide) h) (.inl ⟨by rfl, ?_⟩) hS ?_
            rotate_left 1
            · (intro wq hq; obtain ⟨s0, s1⟩ := hq; go_simp; try with_reducible rfl)
            refine RN.take (i := 6) (v := ?_) rfl (by decide) (by kernel_rfl) (by kernel_rfl) (by kernel_rfl) (by kernel_rfl) (by kernel_rfl) (by first | exact fun _ _ _ h => h | exact fun _ _ _ h => (by cases h.1) | exact fun _ _ _ h => door_put (by decide) h) (.inl ⟨by rfl, ?_⟩) hS ?_
            rotate_left 1
            · (intro wq hq; obtain ⟨s0, s1⟩ := hq; go_simp; try with_reducible rfl)
            refine RN.take (i := 7) (v := ?_) rfl (by decide) (by kernel_rfl) (by kernel_rfl) (by kernel_rfl) (by kernel_rfl) (by kernel_rfl) (by first | exact fun _ _ _ h => h | exact fun _ _ _ h => (by cases h.1) | exact fun _ _ _ h => door_put (by decide) h) (.inl ⟨by rfl, ?_⟩) hS ?_
            rotate_left 1
            · (intro wq hq; obtain ⟨s0, s1⟩ := hq; go_simp; try with_reducible rfl)
            refine RN.all (rs := [8]) (by kernel_rfl) (by simp) ?_
            refine RN.All.cons rfl (fun K hK => ?_) RN.All.nil
            go_simp
            refine hK _ _ (fun _ => ⟨(World.cell?_alloc_lt _ _ _ hxlt).trans c0, (World.cell?_alloc_lt _ _ _ hxlt).trans c1⟩) ?_
            clear hK K
            refine RN.all (rs := [9]) (by kernel_rfl) (by simp) ?_
            refine RN.All.cons rfl (fun K hK => ?_) RN.All.nil
            refine step_append_lies _ (by rfl) _ _ _ (by rfl) w.heap.size 56 i0 _ 2 2 Try.underlying39 HI.out HZ0.out HZ1.out HZ2.out rfl (by omega) u3 ((sg (ps.take k)).length + j) _ (by rfl) ((HO2.out.alloc _).drew)
              ⟨wr.heap.size, 0, none⟩ 1 1 [.int .u8 (t[j].toNat : Int), .bool q] (by rfl) (by rfl) (World.news_of_block (cs := #[.int .u8 (t[j].toNat : Int), .bool q]) (t := 56) (fr := (0, 0)) (heap_alloc_new wr _)) (by simp [Value.oneCell'])
              (by omega) (by unfold maxLen; omega) (by omega) (by simp; omega) (wr.heap.size + 1) (by simp) ?_
            intro g capn w2 hown1 hgrow hat hlt2
            refine hK _ _ (fun h => absurd h (by decide)) ?_
            clear hK K
            refine RN.all (rs := [10]) (by kernel_rfl) (by simp) ?_
            refine RN.All.cons rfl (fun K hK => ?_) RN.All.nil
            go_simp
            refine hK _ _ (fun h => absurd h (by decide)) ?_
            clear hK K
            refine RN.done (by kernel_rfl) ?_ _
            have hb2 : Below w.heap.size w w2 := (drewn (HW2.out.alloc HW2.out.size (.cells #[.int .u8 (t[j].toNat : Int), .bool q] 56))).grown hgrow (by simp; omega) (fun k hk => (HO2.out.lt k hk).1)
            have hx2 : w2.heap[wo.heap.size]? = some (.cells #[.string t, .bool q, .bool false] 27 (0, 0)) := (hgrow.block _ (by simp; omega) (Ne.symm HNE.out)).trans ((Below.heap_alloc _ _ _ hxlt).trans HX.out)
            have hg2 : g ≠ wo.heap.size := by
              rcases hat with h | h
              · intro e; subst e; exact HNE.out h
              · omega
            have HO3 := Lib.hid hown1; have HB2 := Lib.hid hb2; have HX2 := Lib.hid hx2
            clear hown1 hgrow hat hb2 hx2 hS
            go_wp2_with fail
            go_roundw
            case rel => exact ⟨j + 1, by omega, by go_num, by rw [tb_snoc t q hlj, ← List.append_assoc, scells_app]; exact HO3.out, by simp [Value.ownBlock]; exact hg2, HB2.out, HX2.out⟩
            case measure => simp [intOf]; omega
          · obtain rfl : j = t.size := by omega
            have hfin : (tb t q).take t.size = tb t q := by rw [← tb_len t q]; exact List.take_length
            go_wp2_with fail
            go_roundw
            case rel => exact ⟨k + 1, by omega, by go_num, by
              have h1 := HO2.out
              rw [hfin] at h1
              rw [HT.out, sg_snoc, List.length_append]
              simpa [one1, tb_len] using h1, HW2.out⟩
            case measure => simp [intOf]; omega
      · obtain ⟨wo, hwo⟩ : ∃ wo, wo = wr := ⟨_, rfl⟩
        subst hwo
        go_wp2_with fail
        go_loopw [3, 6] (fun v x wr => x = .int .i64 0 ∧ wr = wo.alloc (.cells #[.string t, .bool q, .bool true] 27) ∧ wo.ownsRow w.heap.size 56 2 v (sg (ps.take k)).length (scells (sg (ps.take k)))) (fun _ _ _ => 0)
        case atStart => exact ⟨rfl, rfl, HO.out⟩
        case round =>
          obtain ⟨rfl, rfl, hown⟩ := hrel
          have HO2 := Lib.hid hown
          clear hown
          by_cases hlj : 0 < t.size
          · go_wp2_with fail
            go_roundw
            case rel => exact ⟨k + 1, by omega, by go_num, by rw [HT.out, sg_snoc]; simpa [one1] using HO2.out.alloc _, HW.out.alloc HW.out.size _⟩
            case measure => simp [intOf]; omega
          · go_wp2_with fail
            go_roundw
            case rel => exact ⟨k + 1, by omega, by go_num, by rw [HT.out, sg_snoc]; simpa [one1] using HO2.out.alloc _, HW.out.alloc HW.out.size _⟩
            case measure => simp [intOf]; omega
    · obtain rfl : k = ps.length := by omega
      go_wp2_with fail
      go_ret
      have := HO.out
      rw [List.take_length] at this
      exact ⟨⟨_, rfl, this⟩, HW.out⟩
end Pn
end Go.Proofs.Ytfjfgaefbldgbaa
