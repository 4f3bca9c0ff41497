/- The reference's Fork. -/
import Derived.Test.YtlebglnlkkoakaaKrJ
namespace Go.Proofs.Ytlebglnlkkoakaa
open Go.RowKit Go.Maps
namespace Kn
theorem RCh.drew {w w' : World} {B : Nat} {lv ev lv' ev' : Value} {t' : T} (h : RCh w B lv ev t' lv' ev' w') : RCh w B lv ev t' lv' ev' w'.drew :=
  ⟨⟨h.rt.l, h.rt.e⟩, ⟨h.below.os, h.below.tape, h.below.output, h.below.size, h.below.block⟩, h.l, h.e⟩
set_option maxRecDepth 4000 in
set_option maxHeartbeats 3200000 in
theorem rfork_any {w : World} {B : Nat} {t : T} {lv ev : Value} (hR : RT w B lv ev t) (O : Ok t) (S : Sets t) (hL : -1000000 ≤ t.last ∧ t.last ≤ 1000000) (hB : B ≤ w.heap.size) (pid : Int) :
    Calls Try.prog 11 #[tv t lv ev, .int .i64 pid] w fun e w' => ∃ lv' ev', e = .returned (.tuple #[tv (fork t pid).1 lv' ev', .int .i64 (fork t pid).2.1, .int .i64 (fork t pid).2.2]) ∧ RCh w B lv ev (fork t pid).1 lv' ev' w' := by
  obtain ⟨i0, hi, hz0, hz1, hz2⟩ := info_parts infoProc
  have hn := O.len
  have hen := En.start w lv ev t.last
  have HV := Lib.hid (fun w' (hb : Below w.heap.size w w') => rlive_any (ev := ev) (hR.at.stay hb) hn pid)
  have HR := Lib.hid hR; have HEN0 := Lib.hid hen
  obtain ⟨ea, en, ec, rfl⟩ := ends_shape hR.e
  obtain ⟨la, ln, lc, rfl⟩ := ends_shape hR.l
  clear hen hR
  cases hl : live t pid
  · have hno : fork t pid = (t, 0, 3) := fork_dead hl
    rw [hno]
    have HL := Lib.hid hl
    clear hno O S hl
    unfold tv at HV ⊢
    go_enter Try.func11, Try.ntmps11
    go_wp2_with fail
    refine (HV.out _ HEN0.out.b).mono ?_
    rw [HL.out]
    rintro e w1 ⟨rfl, hbs⟩
    have HEN1 := Lib.hid (HEN0.out.more hbs)
    clear hbs HEN0 
    have ex0 : w1.cell? ⟨w.heap.size, 0, none⟩ = some (.slice la ln lc) := HEN1.out.x0
    have ex1 : w1.cell? ⟨w.heap.size, 1, none⟩ = some (.int .i64 t.last) := HEN1.out.x1
    have ex2 : w1.cell? ⟨w.heap.size, 2, none⟩ = some (.slice ea en ec) := HEN1.out.x2
    have ez0 : w1.cell? ⟨w.heap.size + 1, 0, none⟩ = some (.slice none 0 0) := HEN1.out.z0
    have ef0 : w1.frozen? ⟨w.heap.size + 1, 0, none⟩ = false := HEN1.out.zf 0
    have ez1 : w1.cell? ⟨w.heap.size + 1, 1, none⟩ = some (.int .i64 0) := HEN1.out.z1
    have ef1 : w1.frozen? ⟨w.heap.size + 1, 1, none⟩ = false := HEN1.out.zf 1
    have ez2 : w1.cell? ⟨w.heap.size + 1, 2, none⟩ = some (.slice none 0 0) := HEN1.out.z2
    have ef2 : w1.frozen? ⟨w.heap.size + 1, 2, none⟩ = false := HEN1.out.zf 2
    go_wp2_with fail
    have hfin := fin_row HEN1.out.b HEN1.out.z (HR.out.stay HEN1.out.b) (fun _ e => .inl e) (fun _ e => .inl e)
    exact bodyPost_ret (results_row_tmp2 rfl _ _ (w.heap.size + 1) _ _ _ _ rfl hfin.1 Try.underlying31 rfl (by kernel_rfl)) rfl ⟨_, _, rfl, hfin.2⟩
  · obtain ⟨p, hf, hpl⟩ := live_iff hl
    obtain ⟨k, hat, hk, hlt⟩ := find_atN hf
    obtain ⟨hp1, hp2, hp3⟩ := S.at hf
    have HA := fun w' (hb : Below w.heap.size w w') => rat_any (ev := .slice ea en ec) (HR.out.at.stay hb) hn pid
    rw [hat] at HA
    obtain ⟨b, cap, e2, hbl, rd⟩ := HR.out.at.reads hk
    obtain ⟨rfl, rfl, rfl⟩ : la = some ⟨b, 0, none⟩ ∧ ln = t.l.length ∧ lc = cap := by cases e2; exact ⟨rfl, rfl, rfl⟩
    by_cases h64 : 64 ≤ t.l.length
    · have hno : fork t pid = (t, 0, 4) := fork_full hl h64
      rw [hno]
      have HL := Lib.hid hl
      unfold tv at HV ⊢
      clear hno O S hl hf hpl hat hk hp1 hp2 hp3 e2 hbl rd HA
      go_enter Try.func11, Try.ntmps11
      go_wp2_with fail
      refine (HV.out _ HEN0.out.b).mono ?_
      rw [HL.out]
      rintro e w1 ⟨rfl, hbs⟩
      have HEN1 := Lib.hid (HEN0.out.more hbs)
      clear hbs HEN0 
      have ex0 : w1.cell? ⟨w.heap.size, 0, none⟩ = some (.slice (some ⟨b, 0, none⟩) t.l.length lc) := HEN1.out.x0
      have ex1 : w1.cell? ⟨w.heap.size, 1, none⟩ = some (.int .i64 t.last) := HEN1.out.x1
      have ex2 : w1.cell? ⟨w.heap.size, 2, none⟩ = some (.slice ea en ec) := HEN1.out.x2
      have ez0 : w1.cell? ⟨w.heap.size + 1, 0, none⟩ = some (.slice none 0 0) := HEN1.out.z0
      have ef0 : w1.frozen? ⟨w.heap.size + 1, 0, none⟩ = false := HEN1.out.zf 0
      have ez1 : w1.cell? ⟨w.heap.size + 1, 1, none⟩ = some (.int .i64 0) := HEN1.out.z1
      have ef1 : w1.frozen? ⟨w.heap.size + 1, 1, none⟩ = false := HEN1.out.zf 1
      have ez2 : w1.cell? ⟨w.heap.size + 1, 2, none⟩ = some (.slice none 0 0) := HEN1.out.z2
      have ef2 : w1.frozen? ⟨w.heap.size + 1, 2, none⟩ = false := HEN1.out.zf 2
      go_wp2_with fail
      have hfin := fin_row HEN1.out.b HEN1.out.z (HR.out.stay HEN1.out.b) (fun _ e => .inl e) (fun _ e => .inl e)
      exact bodyPost_ret (results_row_tmp2 rfl _ _ (w.heap.size + 1) _ _ _ _ rfl hfin.1 Try.underlying31 rfl (by kernel_rfl)) rfl ⟨_, _, rfl, hfin.2⟩
    · have hset : fork t pid = ({ t with l := t.l ++ [⟨t.last + 1, pid, 0, true, p.ig, 0, 0⟩], last := t.last + 1 }, t.last + 1, 0) := by
        unfold fork
        rw [hf]
        simp only [hpl, Bool.true_eq_false, if_false]
        rw [if_neg h64]
      rw [hset]
      have HL := Lib.hid hl; have HRD := Lib.hid rd
      have HA := fun w' (hb : Below w.heap.size w w') => rat_any (t := { t with last := t.last + 1 }) (ev := .slice ea en ec) (HR.out.at.stay hb) hn pid
      unfold tv at HV HA ⊢
      dsimp only at HA
      rw [hat] at HA
      have HA := Lib.hid HA
      clear hset O S hl hf hpl hat hk hp1 hp2 hp3 e2 rd
      go_enter Try.func11, Try.ntmps11
      go_wp2_with fail
      refine (HV.out _ HEN0.out.b).mono ?_
      rw [HL.out]
      rintro e w1 ⟨rfl, hbs⟩
      have HEN1 := Lib.hid (HEN0.out.more hbs)
      clear hbs HEN0 
      have ex0 : w1.cell? ⟨w.heap.size, 0, none⟩ = some (.slice (some ⟨b, 0, none⟩) t.l.length lc) := HEN1.out.x0
      have ex1 : w1.cell? ⟨w.heap.size, 1, none⟩ = some (.int .i64 t.last) := HEN1.out.x1
      have ex2 : w1.cell? ⟨w.heap.size, 2, none⟩ = some (.slice ea en ec) := HEN1.out.x2
      have ez0 : w1.cell? ⟨w.heap.size + 1, 0, none⟩ = some (.slice none 0 0) := HEN1.out.z0
      have ef0 : w1.frozen? ⟨w.heap.size + 1, 0, none⟩ = false := HEN1.out.zf 0
      have ez1 : w1.cell? ⟨w.heap.size + 1, 1, none⟩ = some (.int .i64 0) := HEN1.out.z1
      have ef1 : w1.frozen? ⟨w.heap.size + 1, 1, none⟩ = false := HEN1.out.zf 1
      have ez2 : w1.cell? ⟨w.heap.size + 1, 2, none⟩ = some (.slice none 0 0) := HEN1.out.z2
      have ef2 : w1.frozen? ⟨w.heap.size + 1, 2, none⟩ = false := HEN1.out.zf 2
      have xf1 : w1.frozen? ⟨w.heap.size, 1, none⟩ = false := HEN1.out.xf 1
      go_wp2_with fail
      have hen2 := HEN1.out.put1 (t.last + 1)
      clear ex0 ex1 ex2 ez0 ez1 ez2 ef0 ef1 ef2 xf1
      generalize w1.setCell ⟨w.heap.size, 1, none⟩ (.int .i64 (t.last + 1)) = w2 at hen2 ⊢
      refine RN.begins (fun wq => En w (.slice (some ⟨b, 0, none⟩) t.l.length lc) (.slice ea en ec) (t.last + 1) wq) [19] (by kernel_rfl) ?_
      have hS : (fun wq => En w (.slice (some ⟨b, 0, none⟩) t.l.length lc) (.slice ea en ec) (t.last + 1) wq) w2.drew := hen2.drew
      clear hen2 HEN1
      refine RN.take (i := 1) (v := ?_) rfl (by decide) (by kernel_rfl) (by kernel_rfl) (by kernel_rfl) (by kernel_rfl) (by kernel_rfl) (by first | exact fun _ _ _ h => h | exact fun _ _ _ h => (by cases h.1) | exact fun _ _ _ h => door_put (by decide) h) (.inl ⟨by rfl, ?_⟩) hS ?_
      rotate_left 1
      · (intro wq hq; have s0 := En.x0 hq; have s1 := En.x1 hq; have s2 := En.x2 hq; go_simp; try with_reducible rfl)
      refine RN.take (i := 2) (v := ?_) rfl (by decide) (by kernel_rfl) (by kernel_rfl) (by kernel_rfl) (by kernel_rfl) (by kernel_rfl) (by first | exact fun _ _ _ h => h | exact fun _ _ _ h => (by cases h.1) | exact fun _ _ _ h => door_put (by decide) h) (.inl ⟨by rfl, ?_⟩) hS ?_
      rotate_left 1
      · (intro wq hq; have s0 := En.x0 hq; have s1 := En.x1 hq; have s2 := En.x2 hq; go_simp; try with_reducible rfl)
      refine RN.take (i := 4) (v := ?_) rfl (by decide) (by kernel_rfl) (by kernel_rfl) (by kernel_rfl) (by kernel_rfl) (by kernel_rfl) (by first | exact fun _ _ _ h => h | exact fun _ _ _ h => (by cases h.1) | exact fun _ _ _ h => door_put (by decide) h) (.inl ⟨by rfl, ?_⟩) hS ?_
      rotate_left 1
      · (intro wq hq; have s0 := En.x0 hq; have s1 := En.x1 hq; have s2 := En.x2 hq; go_simp; try with_reducible rfl)
      refine RN.take (i := 5) (v := ?_) rfl (by decide) (by kernel_rfl) (by kernel_rfl) (by kernel_rfl) (by kernel_rfl) (by kernel_rfl) (by first | exact fun _ _ _ h => h | exact fun _ _ _ h => (by cases h.1) | exact fun _ _ _ h => door_put (by decide) h) (.inl ⟨by rfl, ?_⟩) hS ?_
      rotate_left 1
      · (intro wq hq; have s0 := En.x0 hq; have s1 := En.x1 hq; have s2 := En.x2 hq; go_simp; try with_reducible rfl)
      refine RN.take (i := 6) (v := ?_) rfl (by decide) (by kernel_rfl) (by kernel_rfl) (by kernel_rfl) (by kernel_rfl) (by kernel_rfl) (by first | exact fun _ _ _ h => h | exact fun _ _ _ h => (by cases h.1) | exact fun _ _ _ h => door_put (by decide) h) (.inl ⟨by rfl, ?_⟩) hS ?_
      rotate_left 1
      · (intro wq hq; have s0 := En.x0 hq; have s1 := En.x1 hq; have s2 := En.x2 hq; go_simp; try with_reducible rfl)
      refine RN.take (i := 7) (v := ?_) rfl (by decide) (by kernel_rfl) (by kernel_rfl) (by kernel_rfl) (by kernel_rfl) (by kernel_rfl) (by first | exact fun _ _ _ h => h | exact fun _ _ _ h => (by cases h.1) | exact fun _ _ _ h => door_put (by decide) h) (.inl ⟨by rfl, ?_⟩) hS ?_
      rotate_left 1
      · (intro wq hq; have s0 := En.x0 hq; have s1 := En.x1 hq; have s2 := En.x2 hq; go_simp; try with_reducible rfl)
      refine RN.take (i := 8) (v := ?_) rfl (by decide) (by kernel_rfl) (by kernel_rfl) (by kernel_rfl) (by kernel_rfl) (by kernel_rfl) (by first | exact fun _ _ _ h => h | exact fun _ _ _ h => (by cases h.1) | exact fun _ _ _ h => door_put (by decide) h) (.inl ⟨by rfl, ?_⟩) hS ?_
      rotate_left 1
      · (intro wq hq; have s0 := En.x0 hq; have s1 := En.x1 hq; have s2 := En.x2 hq; go_simp; try with_reducible rfl)
      refine RN.take (i := 9) (v := ?_) rfl (by decide) (by kernel_rfl) (by kernel_rfl) (by kernel_rfl) (by kernel_rfl) (by kernel_rfl) (by first | exact fun _ _ _ h => h | exact fun _ _ _ h => (by cases h.1) | exact fun _ _ _ h => door_put (by decide) h) (.inl ⟨by rfl, ?_⟩) hS ?_
      rotate_left 1
      · (intro wq hq; have s0 := En.x0 hq; have s1 := En.x1 hq; have s2 := En.x2 hq; go_simp; try with_reducible rfl)
      refine RN.take (i := 10) (v := ?_) rfl (by decide) (by kernel_rfl) (by kernel_rfl) (by kernel_rfl) (by kernel_rfl) (by kernel_rfl) (by first | exact fun _ _ _ h => h | exact fun _ _ _ h => (by cases h.1) | exact fun _ _ _ h => door_put (by decide) h) (.inl ⟨by rfl, ?_⟩) hS ?_
      rotate_left 1
      · (intro wq hq; have s0 := En.x0 hq; have s1 := En.x1 hq; have s2 := En.x2 hq; go_simp; try with_reducible rfl)
      generalize w2.drew = w2 at hS ⊢
      refine RN.all (rs := [0]) (by kernel_rfl) (by simp) ?_
      refine RN.All.cons rfl (fun K hK => ?_) RN.All.nil
      go_simp
      have hen3 := En.more hS (below_alloc w2 (.cells #[] 73))
      have ho3 : (w2.alloc (.cells #[] 73)).ownsRow w.heap.size 73 7 (.slice (some ⟨w2.heap.size, 0, none⟩) 0 0) 0 [] := World.ownsRow_made (base := w.heap.size) (e := 73) (size := 7) w2 #[] 0 hS.b.size (Nat.zero_le _) (by simp)
      have hnews3 := HR.out.at.news (w' := w2.alloc (.cells #[] 73)) rfl hen3.b
      have hsz3 := hen3.b.size
      have HSZ2 := Lib.hid hS.b.size
      refine hK _ _ (fun _ => hen3) ?_
      clear hK K hS
      generalize w2.alloc (.cells #[] 73) = w3 at hen3 ho3 hnews3 hsz3 ⊢
      refine RN.all (rs := [3]) (by kernel_rfl) (by simp) ?_
      refine RN.All.cons rfl (fun K hK => ?_) RN.All.nil
      refine wp_append_at _ _ 28 rfl w.heap.size 73 i0 (.agg #[.int .i64 0, .int .i64 0, .int .i64 0, .bool false, .int .u32 0, .int .u32 0, .int .u32 0]) 7 40 Try.underlying28 hi hz0 hz1 hz2 rfl (by decide) (.slice (some ⟨w2.heap.size, 0, none⟩) 0 0) 0 [] rfl ho3 ⟨b, 0, none⟩ t.l.length lc (lcells t.l) rfl (lcells_len t.l) hnews3 lcells_one (by unfold maxLen; omega) (by omega) hsz3 ?_
      intro v4 w4 hown4 hgrow4 _
      rw [Nat.zero_add, List.nil_append] at hown4
      have hen4 := hen3.grown ho3 (by decide) hgrow4
      clear ho3 hen3 hnews3 hsz3 hgrow4
      go_simp
      refine hK _ _ (fun _ => hen4) ?_
      clear hK K
      refine RN.all (rs := [11]) (by kernel_rfl) (by simp) ?_
      refine RN.All.cons rfl (fun K hK => ?_) RN.All.nil
      go_simp
      refine (HA.out _ hen4.b).mono ?_
      rintro e w5 ⟨rfl, hb5⟩
      have hen5 := hen4.more hb5
      have hown5 := own_stays hown4 hb5
      refine hK _ _ (fun _ => hen5) ?_
      clear hK K hb5 hen4 hown4
      have hS : (fun wq => En w (.slice (some ⟨b, 0, none⟩) t.l.length lc) (.slice ea en ec) (t.last + 1) wq) w5 := hen5
      refine RN.take (i := 12) (v := ?_) rfl (by decide) (by kernel_rfl) (by kernel_rfl) (by kernel_rfl) (by kernel_rfl) (by kernel_rfl) (by first | exact fun _ _ _ h => h | exact fun _ _ _ h => (by cases h.1) | exact fun _ _ _ h => door_put (by decide) h) (.inl ⟨by rfl, ?_⟩) hS ?_
      rotate_left 1
      · (intro wq hq; skip; go_simp; try with_reducible rfl)
      refine RN.take (i := 13) (v := ?_) rfl (by decide) (by kernel_rfl) (by kernel_rfl) (by kernel_rfl) (by kernel_rfl) (by kernel_rfl) (by first | exact fun _ _ _ h => h | exact fun _ _ _ h => (by cases h.1) | exact fun _ _ _ h => door_put (by decide) h) (.inl ⟨by rfl, ?_⟩) hS ?_
      rotate_left 1
      · (intro wq hq; skip; go_simp; try with_reducible rfl)
      refine RN.take (i := 14) (v := ?_) rfl (by decide) (by kernel_rfl) (by kernel_rfl) (by kernel_rfl) (by kernel_rfl) (by kernel_rfl) (by first | exact fun _ _ _ h => h | exact fun _ _ _ h => (by cases h.1) | exact fun _ _ _ h => door_put (by decide) h) (.inl ⟨by rfl, ?_⟩) hS ?_
      rotate_left 1
      · (intro wq hq; have s3 : wq.cell? ⟨b, k * 7 + 4, none⟩ = some (.int .u32 p.ig) := HRD.out _ hq.b 4 _ rfl; go_simp; try with_reducible rfl)
      refine RN.take (i := 15) (v := ?_) rfl (by decide) (by kernel_rfl) (by kernel_rfl) (by kernel_rfl) (by kernel_rfl) (by kernel_rfl) (by first | exact fun _ _ _ h => h | exact fun _ _ _ h => (by cases h.1) | exact fun _ _ _ h => door_put (by decide) h) (.inl ⟨by rfl, ?_⟩) hS ?_
      rotate_left 1
      · (intro wq hq; skip; go_simp; try with_reducible rfl)
      refine RN.all (rs := [16]) (by kernel_rfl) (by simp) ?_
      refine RN.All.cons rfl (fun K hK => ?_) RN.All.nil
      go_simp
      have hb6 := below_alloc w5 (.cells #[.int .i64 (t.last + 1), .int .i64 pid, .int .i64 0, .bool true, .int .u32 p.ig, .int .u32 0, .int .u32 0] 73)
      have hen6 := hen5.more hb6
      have hown6 := own_stays hown5 hb6
      have hnews6 : ∀ j u, (qcells ⟨t.last + 1, pid, 0, true, p.ig, 0, 0⟩)[j]? = some u → (w5.alloc (.cells #[.int .i64 (t.last + 1), .int .i64 pid, .int .i64 0, .bool true, .int .u32 p.ig, .int .u32 0, .int .u32 0] 73)).cell? ((⟨w5.heap.size, 0, none⟩ : Addr).add j) = some u := by
        intro j u hj
        rw [Addr.add_lit, Nat.zero_add, Lib.cell_of_heap (heap_alloc_new w5 _) j]
        simpa [qcells] using hj
      have hsz6 := hen6.b.size
      refine hK _ _ (fun _ => hen6) ?_
      clear hK K hS hb6 hen5 hown5
      generalize w5.alloc (.cells #[.int .i64 (t.last + 1), .int .i64 pid, .int .i64 0, .bool true, .int .u32 p.ig, .int .u32 0, .int .u32 0] 73) = w6 at hen6 hown6 hnews6 hsz6 ⊢
      refine RN.all (rs := [17]) (by kernel_rfl) (by simp) ?_
      refine RN.All.cons rfl (fun K hK => ?_) RN.All.nil
      refine wp_append_at _ _ 28 rfl w.heap.size 73 i0 (.agg #[.int .i64 0, .int .i64 0, .int .i64 0, .bool false, .int .u32 0, .int .u32 0, .int .u32 0]) 7 40 Try.underlying28 hi hz0 hz1 hz2 rfl (by decide) v4 t.l.length (lcells t.l) rfl hown6 ⟨w5.heap.size, 0, none⟩ 1 1 (qcells ⟨t.last + 1, pid, 0, true, p.ig, 0, 0⟩) rfl rfl hnews6 (qcells_one _) (by unfold maxLen; omega) (by omega) hsz6 ?_
      intro v7 w7 hown7 hgrow7 _
      have hen7 := hen6.grown hown6 (by decide) hgrow7
      clear hown6 hen6 hnews6 hsz6 hgrow7
      rw [← lcells_snoc] at hown7
      obtain ⟨la', ln', lc', rfl⟩ := ends_shape hown7
      go_simp
      refine hK _ _ (fun _ => hen7) ?_
      clear hK K
      have hS : (fun wq => En w (.slice (some ⟨b, 0, none⟩) t.l.length lc) (.slice ea en ec) (t.last + 1) wq) w7 := hen7
      refine RN.take (i := 18) (v := ?_) rfl (by decide) (by kernel_rfl) (by kernel_rfl) (by kernel_rfl) (by kernel_rfl) (by kernel_rfl) (by first | exact fun _ _ _ h => h | exact fun _ _ _ h => (by cases h.1) | exact fun _ _ _ h => door_put (by decide) h) (.inl ⟨by rfl, ?_⟩) hS ?_
      rotate_left 1
      · (intro wq hq; skip; go_simp; try with_reducible rfl)
      refine RN.all (rs := [19]) (by kernel_rfl) (by simp) ?_
      refine RN.All.cons rfl (fun K hK => ?_) RN.All.nil
      have xf0 := hen7.xf 0
      have x0 := hen7.x0
      go_simp
      refine hK _ _ (fun e => by cases e) ?_
      clear hK K hS
      refine RN.done (by kernel_rfl) ?_ _
      have hen8 := hen7.put0 (.slice la' ln' lc')
      have hown8 := own_other hown7 (a := ⟨w.heap.size, 0, none⟩) (own_ne hown7 hen7.x (by decide)) (.slice la' ln' lc')
      clear xf0 x0 hown7 hen7
      generalize w7.setCell ⟨w.heap.size, 0, none⟩ (.slice la' ln' lc') = w8 at hen8 hown8 ⊢
      have HEN8 := Lib.hid hen8; have HO8 := Lib.hid hown8
      clear hen8 hown8
      have ex0 : w8.cell? ⟨w.heap.size, 0, none⟩ = some (.slice la' ln' lc') := HEN8.out.x0
      have ex1 : w8.cell? ⟨w.heap.size, 1, none⟩ = some (.int .i64 (t.last + 1)) := HEN8.out.x1
      have ex2 : w8.cell? ⟨w.heap.size, 2, none⟩ = some (.slice ea en ec) := HEN8.out.x2
      have ez0 : w8.cell? ⟨w.heap.size + 1, 0, none⟩ = some (.slice none 0 0) := HEN8.out.z0
      have ef0 : w8.frozen? ⟨w.heap.size + 1, 0, none⟩ = false := HEN8.out.zf 0
      have ez1 : w8.cell? ⟨w.heap.size + 1, 1, none⟩ = some (.int .i64 0) := HEN8.out.z1
      have ef1 : w8.frozen? ⟨w.heap.size + 1, 1, none⟩ = false := HEN8.out.zf 1
      have ez2 : w8.cell? ⟨w.heap.size + 1, 2, none⟩ = some (.slice none 0 0) := HEN8.out.z2
      have ef2 : w8.frozen? ⟨w.heap.size + 1, 2, none⟩ = false := HEN8.out.zf 2
      go_wp2_with fail
      go_region
      go_wp2_with fail
      have hle : (t.l ++ [(⟨t.last + 1, pid, 0, true, p.ig, 0, 0⟩ : P)]).length = t.l.length + 1 := by simp
      have ho9 := HO8.out
      rw [← hle] at ho9
      have hrt : RT _ B (.slice la' ln' lc') (.slice ea en ec) { t with l := t.l ++ [(⟨t.last + 1, pid, 0, true, p.ig, 0, 0⟩ : P)], last := t.last + 1 } := ⟨own_low ho9 hB, (HR.out.stay HEN8.out.b).e⟩
      have hfin := fin_row (lv := (.slice (some ⟨b, 0, none⟩) t.l.length lc)) (ev := .slice ea en ec) HEN8.out.b HEN8.out.z hrt (fun j e => .inr (HO8.out.lt j e).1) (fun _ e => .inl e)
      exact bodyPost_ret (results_row_tmp2 rfl _ _ (w.heap.size + 1) _ _ (0, 0) _ rfl hfin.1 Try.underlying31 rfl (by kernel_rfl)) rfl ⟨_, _, rfl, hfin.2.drew⟩
end Kn
end Go.Proofs.Ytlebglnlkkoakaa
