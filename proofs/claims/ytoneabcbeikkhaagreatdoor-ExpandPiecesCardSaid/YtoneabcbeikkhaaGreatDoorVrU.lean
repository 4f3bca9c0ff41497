/- Same: a scope as the document says. -/
import Derived.Test.YtoneabcbeikkhaaGreatDoorVrTb
import Derived.Test.YtoneabcbeikkhaaGreatDoorVrG
import Derived.Test.YtoneabcbeikkhaaGreatDoorReg
namespace Go.Proofs.YtoneabcbeikkhaaGreatDoor
open Go.RowKit Go.Maps Cls
namespace Vr

theorem infoStr : (Tryz.prog.info? 9).map (fun i => (i.zero, i.size, i.bytes)) = some (some (.string ⟨#[]⟩), 1, 16) := by kernel_rfl
theorem val_name (s : St) (n : ByteArray) (h : nameL (bs n) = true) : val s n = getV s.vs n := by rw [val, if_pos h]
/-- What both scopes are. -/
structure Good (s : St) : Prop where
  fit : Fit s
  names : ∀ p ∈ s.vs, nameL (bs p.1) = true ∧ p.1.size ≤ 1048576 ∧ p.2.size ≤ 1048576
  join : (joinB s.args).length ≤ 4194304
set_option maxRecDepth 4000 in
set_option maxHeartbeats 2000000 in
theorem same_scope (s : St) (B q : Nat) (mv av vv rv : Value) (w : World) (hsc : Sc w B q s mv av) (hp : Prs w vv s.vs) (ha : Txt w rv s.args) (hg : Good s) (ht : Tab w) :
    Calls Tryz.prog 14 #[.pointer (some ⟨q, 0, none⟩), .agg #[vv, rv, .int .i64 s.st, .int .i64 s.la]] w fun e w' => e = .returned (.int .i64 1) ∧ Below w.heap.size w w' := by
  obtain ⟨a, cap, rfl, hcell⟩ := hp.cell
  obtain ⟨a2, n2, c2, rfl⟩ := ha.shape
  have HSC := Lib.hid hsc; have HC := Lib.hid hcell; have HA := Lib.hid ha; have HG := Lib.hid hg; have HT := Lib.hid ht
  obtain ⟨i0, hi0, hz0, hz1, hz2⟩ := info_parts infoStr
  have HI := Lib.hid hi0; have HZ0 := Lib.hid hz0; have HZ1 := Lib.hid hz1; have HZ2 := Lib.hid hz2
  have hl := hg.fit.nvs
  clear hsc hp ha hcell hg ht hi0 hz0 hz1 hz2
  go_enter Tryz.func14, Tryz.ntmps14
  go_wp2_with fail
  go_loopw [5, 14] (fun ov i wr => ∃ k : Nat, k ≤ s.vs.length ∧ i = .int .i64 k ∧ wr.ownsRow (w.heap.size + 1) 9 1 ov k (((s.vs).take k).map fun p => .string p.1) ∧
    wr.heap[w.heap.size]? = some (.cells #[.slice a s.vs.length cap, .slice a2 n2 c2, .int .i64 s.st, .int .i64 s.la] 25 (0, 0)) ∧ Below w.heap.size w wr) (fun _ i _ => s.vs.length - (intOf i).toNat)
  case atStart =>
    refine ⟨0, Nat.zero_le _, rfl, ?_, ?_, ?_⟩
    · have := World.ownsRow_made (base := w.heap.size + 1) (e := 9) (size := 1) (w.alloc (.cells #[.slice a s.vs.length cap, .slice a2 n2 c2, .int .i64 s.st, .int .i64 s.la] 25)) #[] 0 (by simp [World.size_alloc]) (Nat.zero_le _) rfl
      simp only [World.size_alloc] at this
      exact this
    · rw [Below.heap_alloc _ _ _ (by simp [World.size_alloc])]; exact heap_alloc_new w _
    · exact (below_alloc w _).trans ((below_alloc _ _).mono (by simp [World.size_alloc]))
  case round =>
    obtain ⟨k, hk, rfl, hown, hbx, hbw⟩ := hrel
    have HO := Lib.hid hown; have HBX := Lib.hid hbx; have HB := Lib.hid hbw
    have hwr : w.heap.size + 1 ≤ wr.heap.size := by have := (Array.getElem?_eq_some_iff.1 HBX.out).1; omega
    rcases Nat.lt_or_ge k s.vs.length with hlt | hge
    · have hx : s.vs[k]? = some (s.vs[k]'hlt) := List.getElem?_eq_getElem hlt
      have hmem := List.getElem_mem hlt
      obtain ⟨b, off, rfl, hbl, hc1, hc2⟩ := HC.out k _ hx
      generalize s.vs[k] = p at hc1 hc2 hx hmem
      obtain ⟨nm, x⟩ := p
      have q1 : wr.cell? ⟨b, off + k * 2, none⟩ = some (.string nm) := by rw [Nat.mul_comm]; exact (World.cell?_of_block (hbw.block b hbl)).trans hc1
      have q2 : wr.cell? ⟨b, off + k * 2 + 1, none⟩ = some (.string x) := by rw [Nat.mul_comm]; exact (World.cell?_of_block (hbw.block b hbl)).trans hc2
      have hnm := HG.out.names _ hmem
      have hval : val s nm = some x := by rw [val_name _ _ hnm.1]; exact HG.out.fit.srt.get hmem
      have HV := Lib.hid hval; have HX := Lib.hid hx; have HNM := Lib.hid hnm
      clear hc1 hc2 hown hbx hbw hx hmem hnm hval
      go_wp2_with (at_builtin; refine wpList_append_own _ rfl (.tmp 18) (.tmp 21) 23 rfl (w.heap.size + 1) 9 i0 (.string ⟨#[]⟩) 1 16 Tryz.underlying23 HI.out HZ0.out HZ1.out HZ2.out rfl (by decide) _ _ _ rfl ((HO.out.alloc _).alloc _) ⟨wr.heap.size + 1, 0, none⟩ 1 1 [.string nm] rfl rfl ?c1 ?c2 ?c3 ?c4 ?c5 ?_)
      case c2 => rfl
      case c3 => unfold maxLen; omega
      case c4 => omega
      case c5 => omega
      intro v' w5 hown5 hg5 _
      have hpair : w5.heap[wr.heap.size]? = some (.cells #[.string nm, .string x] 61 (0, 0)) := by
        rw [hg5.block wr.heap.size (by simp [World.size_alloc]; omega) (fun e => by have := (HO.out.lt _ e.symm).2; omega), Below.heap_alloc _ _ _ (by simp [World.size_alloc])]
        exact heap_alloc_new wr _
      have hbx5 : w5.heap[w.heap.size]? = wr.heap[w.heap.size]? := by
        rw [hg5.block _ (by simp [World.size_alloc]; omega) (fun e => by have := (HO.out.lt _ e.symm).1; omega), Below.heap_alloc _ _ _ (by simp [World.size_alloc]; omega), Below.heap_alloc _ _ _ (by omega)]
      have hb5 := (HB.out.trans (((below_alloc wr (.cells #[.string nm, .string x] 61)).trans ((below_alloc _ (.cells #[.string nm] 9)).mono (by simp [World.size_alloc]))).mono (by omega))).grown hg5 (by simp [World.size_alloc]; omega) (fun j e => by have := (HO.out.lt j e).1; omega)
      have d0 := cell_of_row _ _ 0 _ _ _ hpair
      simp at d0
      have HP5 := Lib.hid hpair; have HO5 := Lib.hid hown5; have HB5 := Lib.hid hb5; have HX5 := Lib.hid (hbx5.trans HBX.out)
      clear hown5 hg5 hb5 hpair hbx5
      go_wp2_with fail
      refine (get_any s B q nm _ mv av (HSC.out.stay HB5.out) (HT.out.stay HB5.out) HG.out.fit (by have := HNM.out.2.1; unfold maxLen; omega)).mono ?_
      rintro e w6 ⟨rfl, hb6⟩
      rw [HV.out]
      have d1 := cell_of_row _ _ 1 _ _ _ ((hb6.block _ (Array.getElem?_eq_some_iff.1 HP5.out).1).trans HP5.out)
      simp at d1
      have t1 : (x.toList == x.toList) = true := by simp
      have HO6 := Lib.hid (ownB HO5.out hb6); have HB6 := Lib.hid (HB5.out.trans (hb6.mono HB5.out.size))
      have HX6 := Lib.hid ((hb6.block _ (Array.getElem?_eq_some_iff.1 HX5.out).1).trans HX5.out)
      clear hb6
      go_wp2_with fail
      go_roundw
      case rel => exact ⟨k + 1, by omega, by go_num, by rw [List.take_add_one, HX.out]; simpa using HO6.out, HX6.out, HB6.out⟩
      case measure => simp [intOf]; omega
    · obtain rfl : k = s.vs.length := by omega
      clear hown hbx hbw
      go_wp2_with fail
      have hrow : RowAt wr (w.heap.size + 1) u5 ((s.vs).map (·.1)) := RowAt.ofOwn (by
        have := HO.out
        rw [List.take_length] at this
        rw [List.length_map, List.map_map]; exact this)
      obtain ⟨ab, nb, cb, rfl⟩ := hrow.shape
      have HR := Lib.hid hrow.txt
      clear hrow
      have hbd : Below wr.heap.size wr wr.drew := (Below.refl _ _).drew
      have HBd := Lib.hid (HB.out.trans (hbd.mono HB.out.size))
      have hS : wr.drew.heap[w.heap.size]? = some (.cells #[.slice a s.vs.length cap, .slice a2 n2 c2, .int .i64 s.st, .int .i64 s.la] 25 (0, 0)) := HBX.out
      have hlt0 : w.heap.size < wr.heap.size := (Array.getElem?_eq_some_iff.1 HBX.out).1
      refine RN.begins (fun w' => w'.heap[w.heap.size]? = some (.cells #[.slice a s.vs.length cap, .slice a2 n2 c2, .int .i64 s.st, .int .i64 s.la] 25 (0, 0))) [] (by kernel_rfl) ?_
      refine RN.take (i := 0) (v := ?_) rfl (by decide) (by kernel_rfl) (by kernel_rfl) (by kernel_rfl) (by kernel_rfl) (by kernel_rfl) (by first | exact fun _ _ _ h => h | exact fun _ _ _ h => (by cases h.1) | exact fun _ _ _ h => door_put (by decide) h) (.inl ⟨by rfl, ?_⟩) hS ?_
      rotate_left 1
      · (intro wq hq; skip; go_simp; try with_reducible rfl)
      refine RN.take (i := 2) (v := ?_) rfl (by decide) (by kernel_rfl) (by kernel_rfl) (by kernel_rfl) (by kernel_rfl) (by kernel_rfl) (by first | exact fun _ _ _ h => h | exact fun _ _ _ h => (by cases h.1) | exact fun _ _ _ h => door_put (by decide) h) (.inl ⟨by rfl, ?_⟩) hS ?_
      rotate_left 1
      · (intro wq hq; skip; go_simp; try with_reducible rfl)
      refine RN.all (rs := [1]) (by kernel_rfl) (by simp) ?_
      refine RN.All.cons rfl (fun K hK => ?_) RN.All.nil
      go_simp
      refine (names_any s B q wr.drew mv av (HSC.out.stay HBd.out) HG.out.fit.srt (by omega)).mono ?_
      rintro e w1 ⟨an, nn, cn, rfl, hr1, hb1⟩
      have HR1 := Lib.hid hr1.txt
      have HRB := Lib.hid ((HR.out.stay hbd).stay hb1)
      have HB1 := Lib.hid (HBd.out.trans (hb1.mono HBd.out.size))
      have hS1 := (hb1.block _ hlt0).trans hS
      refine hK _ _ (fun _ => hS1) ?_
      clear hK K
      clear hr1 hb1 hS
      refine RN.all (rs := [3]) (by kernel_rfl) (by simp) ?_
      refine RN.All.cons rfl (fun K hK => ?_) RN.All.nil
      go_simp
      refine (same_any _ _ _ _ _ HR1.out HRB.out (by rw [List.length_map]; omega)).mono ?_
      rintro e w2 ⟨rfl, hb2⟩
      rw [decide_eq_true rfl]
      have HB2 := Lib.hid (HB1.out.trans (hb2.mono HB1.out.size))
      have hS := (hb2.block _ (Array.getElem?_eq_some_iff.1 hS1).1).trans hS1
      refine hK _ _ (fun _ => hS) ?_
      clear hK K
      clear hb2 hS1
      refine RN.all (rs := [4]) (by kernel_rfl) (by simp) ?_
      refine RN.All.cons rfl (fun K hK => ?_) RN.All.nil
      go_simp
      refine hK _ _ (fun _ => hS) ?_
      clear hK K
      refine RN.all (rs := [5]) (by kernel_rfl) (by simp) ?_
      refine RN.All.cons rfl (fun K hK => ?_) RN.All.nil
      go_simp
      refine hK _ _ (fun _ => hS) ?_
      clear hK K
      refine RN.take (i := 6) (v := ?_) rfl (by decide) (by kernel_rfl) (by kernel_rfl) (by kernel_rfl) (by kernel_rfl) (by kernel_rfl) (by first | exact fun _ _ _ h => h | exact fun _ _ _ h => (by cases h.1) | exact fun _ _ _ h => door_put (by decide) h) (.inl ⟨by rfl, ?_⟩) hS ?_
      rotate_left 1
      · (intro wq hq; have s1 : wq.cell? ⟨w.heap.size, 1, none⟩ = some (.slice a2 n2 c2) := Lib.cell_of_heap hq 1; go_simp; try with_reducible rfl)
      refine RN.take (i := 8) (v := ?_) rfl (by decide) (by kernel_rfl) (by kernel_rfl) (by kernel_rfl) (by kernel_rfl) (by kernel_rfl) (by first | exact fun _ _ _ h => h | exact fun _ _ _ h => (by cases h.1) | exact fun _ _ _ h => door_put (by decide) h) (.inl ⟨by rfl, ?_⟩) hS ?_
      rotate_left 1
      · (intro wq hq; have s1 : wq.cell? ⟨w.heap.size, 1, none⟩ = some (.slice a2 n2 c2) := Lib.cell_of_heap hq 1; go_simp; try with_reducible rfl)
      refine RN.take (i := 9) (v := ?_) rfl (by decide) (by kernel_rfl) (by kernel_rfl) (by kernel_rfl) (by kernel_rfl) (by kernel_rfl) (by first | exact fun _ _ _ h => h | exact fun _ _ _ h => (by cases h.1) | exact fun _ _ _ h => door_put (by decide) h) (.inl ⟨by rfl, ?_⟩) hS ?_
      rotate_left 1
      · (intro wq hq; have s1 : wq.cell? ⟨w.heap.size, 1, none⟩ = some (.slice a2 n2 c2) := Lib.cell_of_heap hq 1; go_simp; try with_reducible rfl)
      refine RN.all (rs := [7]) (by kernel_rfl) (by simp) ?_
      refine RN.All.cons rfl (fun K hK => ?_) RN.All.nil
      go_simp
      refine (args_any s B q w2 _ _ (HSC.out.stay HB2.out) HG.out.fit.nargs).mono ?_
      rintro e w3 ⟨ag, ng, cg, rfl, hr3, hb3⟩
      have HR3 := Lib.hid hr3.txt
      have HB3 := Lib.hid (HB2.out.trans (hb3.mono HB2.out.size))
      have hS3 := (hb3.block _ (Array.getElem?_eq_some_iff.1 hS).1).trans hS
      refine hK _ _ (fun _ => hS3) ?_
      clear hK K
      clear hr3 hb3 hS
      refine RN.all (rs := [10]) (by kernel_rfl) (by simp) ?_
      refine RN.All.cons rfl (fun K hK => ?_) RN.All.nil
      go_simp
      refine (same_any _ _ _ _ _ HR3.out (HA.out.stay HB3.out) HG.out.fit.nargs).mono ?_
      rintro e w4 ⟨rfl, hb4⟩
      rw [decide_eq_true rfl]
      have HB4 := Lib.hid (HB3.out.trans (hb4.mono HB3.out.size))
      have hS := (hb4.block _ (Array.getElem?_eq_some_iff.1 hS3).1).trans hS3
      refine hK _ _ (fun _ => hS) ?_
      clear hK K
      clear hb4 hS3
      refine RN.all (rs := [11]) (by kernel_rfl) (by simp) ?_
      refine RN.All.cons rfl (fun K hK => ?_) RN.All.nil
      go_simp
      refine hK _ _ (fun _ => hS) ?_
      clear hK K
      refine RN.all (rs := [12]) (by kernel_rfl) (by simp) ?_
      refine RN.All.cons rfl (fun K hK => ?_) RN.All.nil
      go_simp
      refine hK _ _ (fun _ => hS) ?_
      clear hK K
      refine RN.all (rs := [13]) (by kernel_rfl) (by simp) ?_
      refine RN.All.cons rfl (fun K hK => ?_) RN.All.nil
      go_simp
      refine hK _ _ (fun _ => hS) ?_
      clear hK K
      refine RN.take (i := 14) (v := ?_) rfl (by decide) (by kernel_rfl) (by kernel_rfl) (by kernel_rfl) (by kernel_rfl) (by kernel_rfl) (by first | exact fun _ _ _ h => h | exact fun _ _ _ h => (by cases h.1) | exact fun _ _ _ h => door_put (by decide) h) (.inl ⟨by rfl, ?_⟩) hS ?_
      rotate_left 1
      · (intro wq hq; have s2 : wq.cell? ⟨w.heap.size, 2, none⟩ = some (.int .i64 s.st) := Lib.cell_of_heap hq 2; go_simp; try with_reducible rfl)
      refine RN.take (i := 16) (v := ?_) rfl (by decide) (by kernel_rfl) (by kernel_rfl) (by kernel_rfl) (by kernel_rfl) (by kernel_rfl) (by first | exact fun _ _ _ h => h | exact fun _ _ _ h => (by cases h.1) | exact fun _ _ _ h => door_put (by decide) h) (.inl ⟨by rfl, ?_⟩) hS ?_
      rotate_left 1
      · (intro wq hq; have s2 : wq.cell? ⟨w.heap.size, 2, none⟩ = some (.int .i64 s.st) := Lib.cell_of_heap hq 2; go_simp; try with_reducible rfl)
      refine RN.take (i := 17) (v := ?_) rfl (by decide) (by kernel_rfl) (by kernel_rfl) (by kernel_rfl) (by kernel_rfl) (by kernel_rfl) (by first | exact fun _ _ _ h => h | exact fun _ _ _ h => (by cases h.1) | exact fun _ _ _ h => door_put (by decide) h) (.inl ⟨by rfl, ?_⟩) hS ?_
      rotate_left 1
      · (intro wq hq; have s2 : wq.cell? ⟨w.heap.size, 2, none⟩ = some (.int .i64 s.st) := Lib.cell_of_heap hq 2; go_simp; try with_reducible rfl)
      refine RN.all (rs := [15]) (by kernel_rfl) (by simp) ?_
      refine RN.All.cons rfl (fun K hK => ?_) RN.All.nil
      go_simp
      refine (status_any s B q w4 _ _ (HSC.out.stay HB4.out)).mono ?_
      rintro e w5 ⟨rfl, rfl⟩
      refine hK _ _ (fun _ => hS) ?_
      clear hK K
      refine RN.all (rs := [18]) (by kernel_rfl) (by simp) ?_
      refine RN.All.cons rfl (fun K hK => ?_) RN.All.nil
      go_simp
      refine hK _ _ (fun _ => hS) ?_
      clear hK K
      refine RN.all (rs := [19]) (by kernel_rfl) (by simp) ?_
      refine RN.All.cons rfl (fun K hK => ?_) RN.All.nil
      go_simp
      refine hK _ _ (fun _ => hS) ?_
      clear hK K
      refine RN.all (rs := [20]) (by kernel_rfl) (by simp) ?_
      refine RN.All.cons rfl (fun K hK => ?_) RN.All.nil
      go_simp
      refine hK _ _ (fun _ => hS) ?_
      clear hK K
      refine RN.take (i := 21) (v := ?_) rfl (by decide) (by kernel_rfl) (by kernel_rfl) (by kernel_rfl) (by kernel_rfl) (by kernel_rfl) (by first | exact fun _ _ _ h => h | exact fun _ _ _ h => (by cases h.1) | exact fun _ _ _ h => door_put (by decide) h) (.inl ⟨by rfl, ?_⟩) hS ?_
      rotate_left 1
      · (intro wq hq; have s3 : wq.cell? ⟨w.heap.size, 3, none⟩ = some (.int .i64 s.la) := Lib.cell_of_heap hq 3; go_simp; try with_reducible rfl)
      refine RN.take (i := 23) (v := ?_) rfl (by decide) (by kernel_rfl) (by kernel_rfl) (by kernel_rfl) (by kernel_rfl) (by kernel_rfl) (by first | exact fun _ _ _ h => h | exact fun _ _ _ h => (by cases h.1) | exact fun _ _ _ h => door_put (by decide) h) (.inl ⟨by rfl, ?_⟩) hS ?_
      rotate_left 1
      · (intro wq hq; have s3 : wq.cell? ⟨w.heap.size, 3, none⟩ = some (.int .i64 s.la) := Lib.cell_of_heap hq 3; go_simp; try with_reducible rfl)
      refine RN.take (i := 24) (v := ?_) rfl (by decide) (by kernel_rfl) (by kernel_rfl) (by kernel_rfl) (by kernel_rfl) (by kernel_rfl) (by first | exact fun _ _ _ h => h | exact fun _ _ _ h => (by cases h.1) | exact fun _ _ _ h => door_put (by decide) h) (.inl ⟨by rfl, ?_⟩) hS ?_
      rotate_left 1
      · (intro wq hq; have s3 : wq.cell? ⟨w.heap.size, 3, none⟩ = some (.int .i64 s.la) := Lib.cell_of_heap hq 3; go_simp; try with_reducible rfl)
      refine RN.all (rs := [22]) (by kernel_rfl) (by simp) ?_
      refine RN.All.cons rfl (fun K hK => ?_) RN.All.nil
      go_simp
      refine (last_any s B q _ _ _ (HSC.out.stay HB4.out)).mono ?_
      rintro e w5 ⟨rfl, rfl⟩
      refine hK _ _ (fun _ => hS) ?_
      clear hK K
      refine RN.all (rs := [25]) (by kernel_rfl) (by simp) ?_
      refine RN.All.cons rfl (fun K hK => ?_) RN.All.nil
      go_simp
      refine hK _ _ (fun _ => hS) ?_
      clear hK K
      refine RN.all (rs := [26]) (by kernel_rfl) (by simp) ?_
      refine RN.All.cons rfl (fun K hK => ?_) RN.All.nil
      go_simp
      refine hK _ _ (fun _ => hS) ?_
      clear hK K
      refine RN.done (by kernel_rfl) ?_ _
      go_wp2_with fail
      go_ret
      exact ⟨rfl, HB4.out⟩
end Vr
end Go.Proofs.YtoneabcbeikkhaaGreatDoor
