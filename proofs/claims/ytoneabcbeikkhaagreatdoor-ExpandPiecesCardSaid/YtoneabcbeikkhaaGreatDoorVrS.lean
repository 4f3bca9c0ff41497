/- The reference's Set. -/
/- The reference's Get: a name; no parameter. -/
import Derived.Test.YtoneabcbeikkhaaGreatDoorVrP
namespace Go.Proofs.YtoneabcbeikkhaaGreatDoor
open Go.RowKit Go.Maps Cls
namespace Vr

/-- Pairs as cells. -/
def prs (vs : Vs) : List Value := vs.flatMap fun p => [.string p.1, .string p.2]
theorem prs_len (vs : Vs) : (prs vs).length = vs.length * 2 := by
  induction vs with
  | nil => rfl
  | cons p r ih => simp only [prs, List.flatMap_cons, List.length_append, List.length_cons, List.length_nil] at ih ⊢; omega
theorem prs_at {vs : Vs} {j : Nat} {p : ByteArray × ByteArray} (h : vs[j]? = some p) : (prs vs)[2 * j]? = some (.string p.1) ∧ (prs vs)[2 * j + 1]? = some (.string p.2) := by
  induction vs generalizing j with
  | nil => simp at h
  | cons q r ih =>
    cases j with
    | zero => cases h; exact ⟨rfl, rfl⟩
    | succ j => exact ih (j := j) h
theorem prs_snoc (vs : Vs) (p : ByteArray × ByteArray) : prs (vs ++ [p]) = prs vs ++ [.string p.1, .string p.2] := by simp [prs, List.flatMap_append]
theorem Prs.ofOwn {w : World} {B : Nat} {v : Value} {vs : Vs} (h : w.ownsRow B 61 2 v vs.length (prs vs)) : Prs w v vs := by
  obtain ⟨_, ⟨rfl, h0⟩ | ⟨g, cap, cur, rfl, hg, hh, h1, h2, h3, h4⟩⟩ := h
  · exact .inl ⟨List.length_eq_zero_iff.1 h0, none, 0, rfl⟩
  · refine .inr ⟨g, 0, cap, rfl, h1, (Array.getElem?_eq_some_iff.1 hh).1, fun j p hj => ?_⟩
    have hc := prs_at hj
    rw [← h4, List.getElem?_take, List.getElem?_take] at hc
    constructor
    · rw [cell_of_row _ _ _ _ _ _ hh]
      have := hc.1; split at this
      · simpa using this
      · cases this
    · rw [cell_of_row _ _ _ _ _ _ hh]
      have := hc.2; split at this
      · simpa using this
      · cases this
theorem infoVar : (Tryz.prog.info? 61).map (fun i => (i.zero, i.size, i.bytes)) = some (some (.agg #[.string ⟨#[]⟩, .string ⟨#[]⟩]), 2, 32) := by kernel_rfl
theorem ownB {w w' : World} {base : Nat} {e : TypeId} {size : Nat} {v : Value} {n : Nat} {xs : List Value} (h : w.ownsRow base e size v n xs) (hb : Below w.heap.size w w') : w'.ownsRow base e size v n xs :=
  h.kept (row := none) ⟨hb.os, hb.tape, hb.output, hb.size, fun k hk _ => hb.block k hk⟩ (by cases v.ownBlock <;> simp)
theorem less_lt (a b : ByteArray) : Op.bytesLess a.toList b.toList = lt a b := by rw [less_before, Lib.toList_data, Lib.toList_data]; rfl
/-- What stays of the variables below, and above. -/
def lo (vs : Vs) (n : ByteArray) (k : Nat) : Vs := (vs.take k).filter fun p => lt p.1 n
def hi (vs : Vs) (n : ByteArray) (k : Nat) : Vs := (vs.take k).filter fun p => lt n p.1
theorem lo_succ {vs : Vs} {n : ByteArray} {k : Nat} {p : ByteArray × ByteArray} (h : vs[k]? = some p) : lo vs n (k + 1) = if lt p.1 n then lo vs n k ++ [p] else lo vs n k := by
  unfold lo; rw [List.take_add_one, h, List.filter_append]; cases hh : lt p.1 n <;> simp [hh]
theorem hi_succ {vs : Vs} {n : ByteArray} {k : Nat} {p : ByteArray × ByteArray} (h : vs[k]? = some p) : hi vs n (k + 1) = if lt n p.1 then hi vs n k ++ [p] else hi vs n k := by
  unfold hi; rw [List.take_add_one, h, List.filter_append]; cases hh : lt n p.1 <;> simp [hh]
theorem lo_len (vs : Vs) (n : ByteArray) (k : Nat) : (lo vs n k).length ≤ k := by unfold lo; exact Nat.le_trans (List.length_filter_le _ _) (by simp; omega)
theorem hi_len (vs : Vs) (n : ByteArray) (k : Nat) : (hi vs n k).length ≤ k := by unfold hi; exact Nat.le_trans (List.length_filter_le _ _) (by simp; omega)

set_option maxRecDepth 4000 in
set_option maxHeartbeats 1000000 in
theorem rset_no (s : St) (n v : ByteArray) (vv av : Value) (w : World) (hv : ∃ a n c, vv = .slice a n c) (ha : ∃ a n c, av = .slice a n c) (hn : n.size ≤ 9223372036854775807) (hname : nameL (bs n) = false) :
    Calls Tryz.prog 54 #[.agg #[vv, av, .int .i64 s.st, .int .i64 s.la], .string n, .string v] w fun e w' => Below w.heap.size w w' ∧ e = .returned (.agg #[vv, av, .int .i64 s.st, .int .i64 s.la]) := by
  obtain ⟨a1, n1, c1, rfl⟩ := hv
  obtain ⟨a2, n2, c2, rfl⟩ := ha
  go_enter Tryz.func54, Tryz.ntmps54
  go_wp2_with (go_at_call 22; refine (rname_any n _ hn).mono ?_; rintro e w' ⟨rfl, rfl⟩; rw [show nameL n.data.toList = false from hname])
  refine bodyPost_ret (results_cell_row rfl _ _ (w.heap.size + 1) _ _ _ _ rfl (new2 _ _ _) Tryz.underlying25 rfl (by kernel_rfl)) rfl ⟨(below_alloc w _).trans ((below_alloc _ _).mono (by simp [World.size_alloc])), rfl⟩
set_option maxRecDepth 4000 in
set_option maxHeartbeats 1000000 in
theorem rset_yes (s : St) (n v : ByteArray) (vv av : Value) (w : World) (hp : Prs w vv s.vs) (ha : ∃ a n c, av = .slice a n c) (hl : s.vs.length ≤ 1000000) (hn : n.size ≤ 9223372036854775807) (hname : nameL (bs n) = true) :
    Calls Tryz.prog 54 #[.agg #[vv, av, .int .i64 s.st, .int .i64 s.la], .string n, .string v] w fun e w' => Below w.heap.size w w' ∧ ∃ a n' c, Prs w' (.slice a n' c) (setV s.vs n v) ∧ (∀ j, (Value.slice a n' c).ownBlock = some j → w.heap.size ≤ j) ∧ e = .returned (.agg #[.slice a n' c, av, .int .i64 s.st, .int .i64 s.la]) := by
  obtain ⟨a, cap, rfl, hcell⟩ := hp.cell
  obtain ⟨a2, n2, c2, rfl⟩ := ha
  have HC := Lib.hid hcell
  clear hp hcell
  obtain ⟨i0, hi0, hz0, hz1, hz2⟩ := info_parts infoVar
  have HI := Lib.hid hi0; have HZ0 := Lib.hid hz0; have HZ1 := Lib.hid hz1; have HZ2 := Lib.hid hz2
  clear hi0 hz0 hz1 hz2
  go_enter Tryz.func54, Tryz.ntmps54
  go_wp2_with (go_at_call 22; refine (rname_any n _ hn).mono ?_; rintro e w' ⟨rfl, rfl⟩; rw [show nameL n.data.toList = true from hname])
  go_loopw [7, 20] (fun ov i wr => ∃ k : Nat, k ≤ s.vs.length ∧ i = .int .i64 k ∧ wr.ownsRow (w.heap.size + 2) 61 2 ov (lo s.vs n k).length (prs (lo s.vs n k)) ∧
    wr.heap[w.heap.size]? = some (.cells #[.slice a s.vs.length cap, .slice a2 n2 c2, .int .i64 s.st, .int .i64 s.la] 25 (0, 0)) ∧
    wr.heap[w.heap.size + 1]? = some (.cells #[.slice none 0 0, .slice none 0 0, .int .i64 0, .int .i64 0] 25 (0, 0)) ∧ Below w.heap.size w wr) (fun _ i _ => s.vs.length - (intOf i).toNat)
  case atStart =>
    refine ⟨0, Nat.zero_le _, rfl, ?_, ?_, ?_, ?_⟩
    · have := World.ownsRow_made (base := w.heap.size + 2) (e := 61) (size := 2) ((w.alloc (.cells #[.slice a s.vs.length cap, .slice a2 n2 c2, .int .i64 s.st, .int .i64 s.la] 25)).alloc (.cells #[.slice none 0 0, .slice none 0 0, .int .i64 0, .int .i64 0] 25)) #[] 0 (by simp [World.size_alloc]) (Nat.zero_le _) rfl
      simp only [World.size_alloc] at this
      exact this
    · rw [Below.heap_alloc _ _ _ (by simp [World.size_alloc]; omega), Below.heap_alloc _ _ _ (by simp [World.size_alloc])]; exact heap_alloc_new w _
    · rw [Below.heap_alloc _ _ _ (by simp [World.size_alloc])]; exact new2 w _ _
    · exact ((below_alloc w _).trans ((below_alloc _ _).mono (by simp [World.size_alloc]))).trans ((below_alloc _ _).mono (by simp [World.size_alloc]; omega))
  case round =>
    obtain ⟨k, hk, rfl, hown, hbx, hrv, hbw⟩ := hrel
    have HO := Lib.hid hown; have HBX := Lib.hid hbx; have HRV := Lib.hid hrv; have HB := Lib.hid hbw
    rcases Nat.lt_or_ge k s.vs.length with hlt | hge
    · have hx : s.vs[k]? = some (s.vs[k]'hlt) := List.getElem?_eq_getElem hlt
      obtain ⟨b, off, rfl, hbl, hc1, hc2⟩ := HC.out k _ hx
      have hsucc := lo_succ (n := n) hx
      generalize s.vs[k] = p at hc1 hc2 hsucc
      obtain ⟨nm, x⟩ := p
      have q1 : wr.cell? ⟨b, off + k * 2, none⟩ = some (.string nm) := by rw [Nat.mul_comm]; exact (World.cell?_of_block (hbw.block b hbl)).trans hc1
      have q2 : wr.cell? ⟨b, off + k * 2 + 1, none⟩ = some (.string x) := by rw [Nat.mul_comm]; exact (World.cell?_of_block (hbw.block b hbl)).trans hc2
      have t1 := less_lt nm n
      have HSU := Lib.hid hsucc
      have hwr : w.heap.size + 2 ≤ wr.heap.size := by have := (Array.getElem?_eq_some_iff.1 HRV.out).1; omega
      have hll := lo_len s.vs n k
      simp only at hsucc
      clear hc1 hc2 hown hbx hrv hbw hx
      cases hlt2 : lt nm n
      · rw [hlt2] at t1 hsucc
        have HS2 := Lib.hid hsucc
        clear hsucc
        go_wp2_with fail
        go_roundw
        case rel => exact ⟨k + 1, by omega, by go_num, by
          rw [HS2.out]; exact HO.out.alloc _, by rw [Below.heap_alloc _ _ _ (by omega)]; exact HBX.out, by rw [Below.heap_alloc _ _ _ (by omega)]; exact HRV.out, HB.out.trans ((below_alloc _ _).mono (by omega))⟩
        case measure => simp [intOf]; omega
      · rw [hlt2] at t1 hsucc
        have HS2 := Lib.hid hsucc
        clear hsucc
        go_wp2_with (at_builtin; refine wpList_append_own _ rfl (.tmp 28) (.tmp 30) 22 rfl (w.heap.size + 2) 61 i0 (.agg #[.string ⟨#[]⟩, .string ⟨#[]⟩]) 2 32 Tryz.underlying22 HI.out HZ0.out HZ1.out HZ2.out rfl (by decide) _ _ _ rfl ((HO.out.alloc _).alloc _) ⟨wr.heap.size + 1, 0, none⟩ 1 1 [.string nm, .string x] rfl rfl ?c1 ?c2 ?c3 ?c4 ?c5 ?_)
        case c2 => exact ⟨rfl, rfl⟩
        case c3 => unfold maxLen; omega
        case c4 => omega
        case c5 => omega
        intro v' w5 hown5 hg5 _
        have hne : ∀ i, i < w.heap.size + 2 → w5.heap[i]? = wr.heap[i]? := fun i hi => by
          rw [hg5.block i (by simp [World.size_alloc]; omega) (fun e => by have := (HO.out.lt i e.symm).1; omega), Below.heap_alloc _ _ _ (by simp [World.size_alloc]; omega), Below.heap_alloc _ _ _ (by omega)]
        have hb5 := (HB.out.trans (((below_alloc wr (.cells #[.string nm, .string x] 61)).trans ((below_alloc _ (.cells #[.string nm, .string x] 61)).mono (by simp [World.size_alloc]))).mono (by omega))).grown hg5 (by simp [World.size_alloc]; omega) (fun j e => by have := (HO.out.lt j e).1; omega)
        have HO5 := Lib.hid hown5; have HB5 := Lib.hid hb5; have HNE := Lib.hid hne
        clear hown5 hg5 hb5 hne
        go_wp2_with fail
        go_roundw
        case rel => exact ⟨k + 1, by omega, by go_num, by
          rw [HS2.out]; simp only [if_true]; rw [prs_snoc, List.length_append]; exact HO5.out, (HNE.out _ (by omega)).trans HBX.out, (HNE.out _ (by omega)).trans HRV.out, HB5.out⟩
        case measure => simp [intOf]; omega
    · obtain rfl : k = s.vs.length := by omega
      have hwr : w.heap.size + 2 ≤ wr.heap.size := by have := (Array.getElem?_eq_some_iff.1 HRV.out).1; omega
      have hll := lo_len s.vs n s.vs.length
      clear hown hbx hrv hbw
      go_wp2_with (at_builtin; refine wpList_append_own _ rfl (.tmp 33) (.tmp 37) 22 rfl (w.heap.size + 2) 61 i0 (.agg #[.string ⟨#[]⟩, .string ⟨#[]⟩]) 2 32 Tryz.underlying22 HI.out HZ0.out HZ1.out HZ2.out rfl (by decide) _ _ _ rfl (HO.out.alloc _) ⟨wr.heap.size, 0, none⟩ 1 1 [.string n, .string v] rfl rfl ?d1 ?d2 ?d3 ?d4 ?d5 ?_)
      case d1 =>
        intro j u hu
        match j, hu with
        | 0, hu => cases hu; exact cell_of_row _ _ 0 _ _ _ (heap_alloc_new wr _)
        | 1, hu => cases hu; exact cell_of_row _ _ 1 _ _ _ (heap_alloc_new wr _)
      case d2 => intro u hu; simp at hu; rcases hu with rfl | rfl <;> rfl
      case d3 => unfold maxLen; omega
      case d4 => omega
      case d5 => simp [World.size_alloc]; omega
      intro v1 w1 hown1 hg1 _
      have hne : ∀ i, i < w.heap.size + 2 → w1.heap[i]? = wr.heap[i]? := fun i hi => by
        rw [hg1.block i (by simp [World.size_alloc]; omega) (fun e => by have := (HO.out.lt i e.symm).1; omega), Below.heap_alloc _ _ _ (by omega)]
      have hb1 := (HB.out.trans ((below_alloc wr (.cells #[.string n, .string v] 61)).mono (by omega))).grown hg1 (by simp [World.size_alloc]; omega) (fun j e => by have := (HO.out.lt j e).1; omega)
      have HO1 := Lib.hid hown1; have HB1 := Lib.hid hb1
      have HBX1 := Lib.hid ((hne _ (by omega)).trans HBX.out); have HRV1 := Lib.hid ((hne _ (by omega)).trans HRV.out)
      clear hown1 hg1 hb1 hne HB HBX HRV HO
      have c0 := cell_of_row _ _ 0 _ _ _ HBX1.out
      simp at c0
      go_wp2_with fail
      go_loopw [7, 42] (fun ov i wr => ∃ k : Nat, k ≤ s.vs.length ∧ i = .int .i64 k ∧ wr.ownsRow (w.heap.size + 2) 61 2 ov ((lo s.vs n s.vs.length ++ [(n, v)]) ++ hi s.vs n k).length (prs ((lo s.vs n s.vs.length ++ [(n, v)]) ++ hi s.vs n k)) ∧
        wr.heap[w.heap.size]? = some (.cells #[.slice a s.vs.length cap, .slice a2 n2 c2, .int .i64 s.st, .int .i64 s.la] 25 (0, 0)) ∧
        wr.heap[w.heap.size + 1]? = some (.cells #[.slice none 0 0, .slice none 0 0, .int .i64 0, .int .i64 0] 25 (0, 0)) ∧ Below w.heap.size w wr) (fun _ i _ => s.vs.length - (intOf i).toNat)
      case atStart =>
        refine ⟨0, Nat.zero_le _, rfl, ?_, HBX1.out, HRV1.out, HB1.out⟩
        have e : hi s.vs n 0 = [] := by simp [hi]
        rw [e, List.append_nil, prs_snoc, List.length_append]; exact HO1.out
      case round =>
        obtain ⟨k, hk, rfl, hown, hbx, hrv, hbw⟩ := hrel
        have HO := Lib.hid hown; have HBX := Lib.hid hbx; have HRV := Lib.hid hrv; have HB9 := Lib.hid hbw
        rcases Nat.lt_or_ge k s.vs.length with hlt | hge
        · have hx : s.vs[k]? = some (s.vs[k]'hlt) := List.getElem?_eq_getElem hlt
          obtain ⟨b, off, rfl, hbl, hc1, hc2⟩ := HC.out k _ hx
          have hsucc := hi_succ (n := n) hx
          generalize s.vs[k] = p at hc1 hc2 hsucc
          obtain ⟨nm, x⟩ := p
          have q1 : wr.cell? ⟨b, off + k * 2, none⟩ = some (.string nm) := by rw [Nat.mul_comm]; exact (World.cell?_of_block (hbw.block b hbl)).trans hc1
          have q2 : wr.cell? ⟨b, off + k * 2 + 1, none⟩ = some (.string x) := by rw [Nat.mul_comm]; exact (World.cell?_of_block (hbw.block b hbl)).trans hc2
          have t1 := less_lt nm n
          have t2 : (nm.toList == n.toList) = decide (nm = n) := by rw [Lib.toList_data, Lib.toList_data]; by_cases e : nm = n; (subst e; simp); (rw [decide_eq_false e, beq_eq_false_iff_ne]; exact fun e2 => e (bs_inj e2))
          have t3 : lt n nm = !(lt nm n || decide (nm = n)) := by
            by_cases e : nm = n
            · subst e; simp [lt_irrefl]
            · rcases lt_total e with h | h
              · simp [h, lt_asymm h]
              · simp [h, lt_asymm h, e]
          have HSU := Lib.hid hsucc
          have hwr : w.heap.size + 2 ≤ wr.heap.size := by have := (Array.getElem?_eq_some_iff.1 HRV.out).1; omega
          have hll := hi_len s.vs n k
          simp only at hsucc
          clear hc1 hc2 hown hbx hrv hbw hx
          rw [← t1, ← t2] at t3
          clear t1 t2
          cases hlt2 : lt n nm
          · rw [hlt2] at t3 hsucc
            replace t3 := t3.symm
            have HS2 := Lib.hid hsucc
            clear hsucc
            go_wp2_with fail
            go_roundw
            case rel => exact ⟨k + 1, by omega, by go_num, by
              rw [HS2.out]; exact HO.out.alloc _, by rw [Below.heap_alloc _ _ _ (by omega)]; exact HBX.out, by rw [Below.heap_alloc _ _ _ (by omega)]; exact HRV.out, HB9.out.trans ((below_alloc _ _).mono (by omega))⟩
            case measure => simp [intOf]; omega
          · rw [hlt2] at t3 hsucc
            replace t3 := t3.symm
            have HS2 := Lib.hid hsucc
            clear hsucc
            go_wp2_with (at_builtin; refine wpList_append_own _ rfl (.tmp 50) (.tmp 52) 22 rfl (w.heap.size + 2) 61 i0 (.agg #[.string ⟨#[]⟩, .string ⟨#[]⟩]) 2 32 Tryz.underlying22 HI.out HZ0.out HZ1.out HZ2.out rfl (by decide) _ _ _ rfl ((HO.out.alloc _).alloc _) ⟨wr.heap.size + 1, 0, none⟩ 1 1 [.string nm, .string x] rfl rfl ?e1 ?e2 ?e3 ?e4 ?e5 ?_)
            case e2 => exact ⟨rfl, rfl⟩
            case e3 => unfold maxLen; omega
            case e4 => omega
            case e5 => omega
            intro v' w5 hown5 hg5 _
            have hne : ∀ i, i < w.heap.size + 2 → w5.heap[i]? = wr.heap[i]? := fun i hi => by
              rw [hg5.block i (by simp [World.size_alloc]; omega) (fun e => by have := (HO.out.lt i e.symm).1; omega), Below.heap_alloc _ _ _ (by simp [World.size_alloc]; omega), Below.heap_alloc _ _ _ (by omega)]
            have hb5 := (HB9.out.trans (((below_alloc wr (.cells #[.string nm, .string x] 61)).trans ((below_alloc _ (.cells #[.string nm, .string x] 61)).mono (by simp [World.size_alloc]))).mono (by omega))).grown hg5 (by simp [World.size_alloc]; omega) (fun j e => by have := (HO.out.lt j e).1; omega)
            have HO5 := Lib.hid hown5; have HB5 := Lib.hid hb5; have HNE := Lib.hid hne
            clear hown5 hg5 hb5 hne
            go_wp2_with fail
            go_roundw
            case rel => exact ⟨k + 1, by omega, by go_num, by
              rw [HS2.out]; simp only [if_true]; rw [← List.append_assoc, prs_snoc, List.length_append]
              have h5 := HO5.out
              have e5 : lo s.vs n s.vs.length ++ (n, v) :: hi s.vs n k = lo s.vs n s.vs.length ++ [(n, v)] ++ hi s.vs n k := by simp
              have e6 : (lo s.vs n s.vs.length ++ [(n, v)] ++ hi s.vs n k).length + [(nm, x)].length = (lo s.vs n s.vs.length).length + ((hi s.vs n k).length + 1) + 1 := by simp
              rw [e5] at h5; rw [e6]; exact h5, (HNE.out _ (by omega)).trans HBX.out, (HNE.out _ (by omega)).trans HRV.out, HB5.out⟩
            case measure => simp [intOf]; omega
        · obtain rfl : k = s.vs.length := by omega
          have hset : (lo s.vs n s.vs.length ++ [(n, v)]) ++ hi s.vs n s.vs.length = setV s.vs n v := by
            unfold lo hi setV; rw [List.take_length, List.append_assoc]; rfl
          rw [hset] at hown
          obtain ⟨a9, n9, c9, rfl⟩ : ∃ a n c, u7 = .slice a n c := by
            rcases hown.2 with ⟨h, _⟩ | ⟨g, c, _, h, _⟩
            · exact ⟨_, _, _, h⟩
            · exact ⟨_, _, _, h⟩
          have HOF := Lib.hid hown; have HBX2 := Lib.hid hbx; have HRV2 := Lib.hid hrv
          have k0 := cell_of_row _ _ 0 _ _ _ hbx
          have k1 := cell_of_row _ _ 1 _ _ _ hbx
          have k2 := cell_of_row _ _ 2 _ _ _ hbx
          have k3 := cell_of_row _ _ 3 _ _ _ hbx
          have f0 := frozen_of_row _ _ 0 _ _ hbx
          have r0 := cell_of_row _ _ 0 _ _ _ hrv
          have r1 := cell_of_row _ _ 1 _ _ _ hrv
          have r2 := cell_of_row _ _ 2 _ _ _ hrv
          have r3 := cell_of_row _ _ 3 _ _ _ hrv
          have g0 := frozen_of_row _ _ 0 _ _ hrv
          have g1 := frozen_of_row _ _ 1 _ _ hrv
          have g2 := frozen_of_row _ _ 2 _ _ hrv
          have g3 := frozen_of_row _ _ 3 _ _ hrv
          simp at k0 k1 k2 k3 r0 r1 r2 r3
          clear hown hbx hrv hset HO HBX HRV HO1 HBX1 HRV1 HB1
          go_wp2_with fail
          have hrow := heap_setCell_same _ _ 3 _ _ (.int .i64 s.la) (heap_setCell_same _ _ 2 _ _ (.int .i64 s.st) (heap_setCell_same _ _ 1 _ _ (.slice a2 n2 c2) (heap_setCell_same _ _ 0 _ _ (.slice a9 n9 c9) ((heap_setCell_other wr ⟨w.heap.size, 0, none⟩ (w.heap.size + 1) (.slice a9 n9 c9) (by simp)).trans HRV2.out))))
          refine bodyPost_ret (results_cell_row rfl _ _ (w.heap.size + 1) _ _ _ _ rfl hrow Tryz.underlying25 rfl (by kernel_rfl)) rfl ⟨?_, a9, n9, c9, ?_, fun j e => by have := (HOF.out.lt j e).1; omega, rfl⟩
          · exact ((((HB9.out.setCell (p := ⟨w.heap.size, 0, none⟩) (Nat.le_refl _) _).setCell (p := ⟨w.heap.size + 1, 0, none⟩) (by simp) _).setCell (p := ⟨w.heap.size + 1, 1, none⟩) (by simp) _).setCell (p := ⟨w.heap.size + 1, 2, none⟩) (by simp) _).setCell (p := ⟨w.heap.size + 1, 3, none⟩) (by simp) _
          · exact Prs.ofOwn (ownsRow_setCell_below (ownsRow_setCell_below (ownsRow_setCell_below (ownsRow_setCell_below (ownsRow_setCell_below HOF.out (a := ⟨w.heap.size, 0, none⟩) (by simp) _) (a := ⟨w.heap.size + 1, 0, none⟩) (by simp) _) (a := ⟨w.heap.size + 1, 1, none⟩) (by simp) _) (a := ⟨w.heap.size + 1, 2, none⟩) (by simp) _) (a := ⟨w.heap.size + 1, 3, none⟩) (by simp) _)
end Vr
end Go.Proofs.YtoneabcbeikkhaaGreatDoor

namespace Go.Proofs.YtoneabcbeikkhaaGreatDoor
open Go.RowKit Go.Maps Cls
namespace Vr

theorem getV_take {vs : Vs} {n : ByteArray} {k : Nat} {p : ByteArray × ByteArray} (h : ∀ j q, j < k → vs[j]? = some q → q.1 ≠ n) (hk : vs[k]? = some p) (he : p.1 = n) : getV vs n = some p.2 := by
  induction vs generalizing k with
  | nil => simp at hk
  | cons q r ih =>
    cases k with
    | zero => cases hk; rw [getV, if_pos he]
    | succ k =>
      rw [getV, if_neg (h 0 q (by omega) rfl)]
      exact ih (fun j q' hj hq => h (j + 1) q' (by omega) hq) hk
theorem getV_none' {vs : Vs} {n : ByteArray} (h : ∀ j q, j < vs.length → vs[j]? = some q → q.1 ≠ n) : getV vs n = none :=
  getV_none fun p hp => by
    obtain ⟨j, hj, rfl⟩ := List.getElem_of_mem hp
    exact h j _ hj (List.getElem?_eq_getElem hj)
set_option maxRecDepth 4000 in
set_option maxHeartbeats 1000000 in
theorem rget_nothing (s : St) (n : ByteArray) (vv av : Value) (w : World) (hv : ∃ a n c, vv = .slice a n c) (ha : ∃ a n c, av = .slice a n c) (hn : n.size ≤ 9223372036854775807) (hname : nameL (bs n) = false) (hpm : paramL (bs n) = false) :
    Calls Tryz.prog 50 #[.agg #[vv, av, .int .i64 s.st, .int .i64 s.la], .string n] w fun e w' => e = .returned (out none) ∧ Below w.heap.size w w' := by
  obtain ⟨a1, n1, c1, rfl⟩ := hv
  obtain ⟨a2, n2, c2, rfl⟩ := ha
  go_enter Tryz.func50, Tryz.ntmps50
  go_wp2_with (first
    | (go_at_call 22; refine (rname_any n _ hn).mono ?_; rintro e w' ⟨rfl, rfl⟩; rw [show nameL n.data.toList = false from hname])
    | (go_at_call 41; refine (rparam_any n _ hn).mono ?_; rintro e w' ⟨rfl, rfl⟩; rw [show paramL n.data.toList = false from hpm]))
  go_ret2
  exact ⟨rfl, below_alloc w _⟩
set_option maxRecDepth 4000 in
set_option maxHeartbeats 1000000 in
theorem rget_name (s : St) (n : ByteArray) (vv av : Value) (w : World) (hp : Prs w vv s.vs) (ha : ∃ a n c, av = .slice a n c) (hl : s.vs.length ≤ 1000000) (hn : n.size ≤ 9223372036854775807) (hname : nameL (bs n) = true) :
    Calls Tryz.prog 50 #[.agg #[vv, av, .int .i64 s.st, .int .i64 s.la], .string n] w fun e w' => e = .returned (out (getV s.vs n)) ∧ Below w.heap.size w w' := by
  obtain ⟨a, cap, rfl, hcell⟩ := hp.cell
  obtain ⟨a2, n2, c2, rfl⟩ := ha
  have HC := Lib.hid hcell
  clear hp hcell
  go_enter Tryz.func50, Tryz.ntmps50
  go_wp2_with (go_at_call 22; refine (rname_any n _ hn).mono ?_; rintro e w' ⟨rfl, rfl⟩; rw [show nameL n.data.toList = true from hname])
  go_loopw [15] (fun i wr => ∃ k : Nat, k ≤ s.vs.length ∧ i = .int .i64 k ∧ (∀ j q, j < k → s.vs[j]? = some q → q.1 ≠ n) ∧ Below w.heap.size w wr) (fun i _ => s.vs.length - (intOf i).toNat)
  case atStart => exact ⟨0, Nat.zero_le _, rfl, fun j q h => absurd h (by omega), below_alloc w _⟩
  case round =>
    obtain ⟨k, hk, rfl, hno, hbw⟩ := hrel
    have HB := Lib.hid hbw; have HNO := Lib.hid hno
    rcases Nat.lt_or_ge k s.vs.length with hlt | hge
    · have hx : s.vs[k]? = some (s.vs[k]'hlt) := List.getElem?_eq_getElem hlt
      obtain ⟨b, off, rfl, hbl, hc1, hc2⟩ := HC.out k _ hx
      generalize s.vs[k] = p at hc1 hc2 hx
      obtain ⟨nm, x⟩ := p
      have q1 : wr.cell? ⟨b, off + k * 2, none⟩ = some (.string nm) := by rw [Nat.mul_comm]; exact (World.cell?_of_block (hbw.block b hbl)).trans hc1
      have q2 : wr.cell? ⟨b, off + k * 2 + 1, none⟩ = some (.string x) := by rw [Nat.mul_comm]; exact (World.cell?_of_block (hbw.block b hbl)).trans hc2
      have HX := Lib.hid hx
      clear hc1 hc2 hbw hno hx
      have hB2 := Lib.hid (HB.out.trans ((below_alloc wr (.cells #[.string nm, .string x] 61)).mono HB.out.size))
      by_cases he : nm = n
      · have t1 : (nm.toList == n.toList) = true := by rw [he]; simp
        have HE := Lib.hid he
        clear he
        go_wp2_with fail
        go_ret2
        exact ⟨by rw [getV_take HNO.out HX.out HE.out]; rfl, hB2.out⟩
      · have t1 : (nm.toList == n.toList) = false := by rw [beq_eq_false_iff_ne, Lib.toList_data, Lib.toList_data]; exact fun e => he (bs_inj e)
        go_wp2_with fail
        go_roundw
        case rel => exact ⟨k + 1, by omega, by go_num, fun j q hj hq => by
          by_cases e : j = k
          · subst e; rw [HX.out] at hq; cases hq; exact he
          · exact HNO.out j q (by omega) hq, hB2.out⟩
        case measure => simp [intOf]; omega
    · obtain rfl : k = s.vs.length := by omega
      have hg : getV s.vs n = none := getV_none' hno
      clear hno hbw
      go_wp2_with fail
      go_ret2
      exact ⟨by rw [hg]; rfl, HB.out⟩
end Vr
end Go.Proofs.YtoneabcbeikkhaaGreatDoor
