/- instead, param, part. -/
import Derived.Test.YtoneabcbeikkhaaGreatDoorExG
namespace Go.Proofs.YtoneabcbeikkhaaGreatDoor
open Go.RowKit Cls
namespace Ex
open Vr (St val Sc Kp Tab Fit RowAt MapAt)
open Fld (Pc bs tx joinS cutP joinP weight Pcs pcells)
open Pt (PL)
/-- The operators. -/
def okO (o : ByteArray) : Prop := bs o = [] ∨ bs o = [45] ∨ bs o = [58, 45] ∨ bs o = [61] ∨ bs o = [58, 61] ∨ bs o = [43] ∨ bs o = [58, 43] ∨ bs o = [63] ∨ bs o = [58, 63]
theorem ex_zero : ∀ (l : PL) (s : St) (acc : List Pc), (ex l s acc).k = 0 → (ex l s acc).t = tx []
  | .nil, s, acc, _ => rfl
  | .cons k q t o f r, s, acc, h => by
    rw [ex_cons] at h ⊢
    cases hk : (partG k q t o f s).k == 0
    · rw [hk] at h; simp only [Bool.not_false, cond_true] at h; rw [h] at hk; cases hk
    · rw [hk] at h
      simp only [Bool.not_true, cond_false] at h ⊢
      cases hd : decide (65536 < (joinS (acc ++ (partG k q t o f s).L)).length)
      · rw [hd] at h; simp only [cond_false] at h ⊢; exact ex_zero r _ _ h
      · rw [hd] at h; simp at h
theorem ex_fault : ∀ (l : PL) (s : St) (acc : List Pc), ¬ (ex l s acc).k = 0 → (ex l s acc).L = []
  | .nil, s, acc, h => absurd rfl h
  | .cons k q t o f r, s, acc, h => by
    rw [ex_cons] at h ⊢
    cases hk : (partG k q t o f s).k == 0
    · simp
    · rw [hk] at h
      simp only [Bool.not_true, cond_false] at h ⊢
      cases hd : decide (65536 < (joinS (acc ++ (partG k q t o f s).L)).length)
      · rw [hd] at h; simp only [cond_false] at h ⊢; exact ex_fault r _ _ h
      · simp
def insteadG (s : St) (q : Bool) (t o : ByteArray) (flen : Nat) (r : Bool) (g : Got) : Got :=
  bif hasC o 61 then giveG q t g else bif hasC o 63 then unsetG t flen g else bif hasC o 43 && !r then ⟨[], s, 0, tx []⟩ else g
def fixG (q : Bool) (g : Got) : Got := bif g.k == 0 then ⟨emptyP g.L q, g.S, g.k, g.t⟩ else g
def readyB (s : St) (t o : ByteArray) : Bool := (bs o).isEmpty || usable s t o
theorem fix_give (q : Bool) (t : ByteArray) (g : Got) : fixG q (giveG q t g) = giveG q t g := by
  unfold giveG
  cases hk : g.k == 0
  · simp [fixG, hk]
  · simp [fixG, emptyP]
theorem fix_unset (q : Bool) (t : ByteArray) (n : Nat) (g : Got) : fixG q (unsetG t n g) = unsetG t n g := by
  unfold unsetG
  cases hk : g.k == 0
  · simp [fixG, hk]
  · simp [fixG]
theorem empty_one (x : Pc) (q : Bool) : emptyP [x] q = [x] := by simp [emptyP]
theorem param_eq' {o : ByteArray} (ho : okO o) (s : St) (q : Bool) (t : ByteArray) (n : Nat) (F : St → Got) (hz : (F s).k = 0 → (F s).t = tx []) (hf : ¬ (F s).k = 0 → (F s).L = []) :
    paramG s q t o n F = bif readyB s t o && !hasC o 43 then ownG s q t else fixG q (insteadG s q t o n (readyB s t o) (F s)) := by
  unfold paramG readyB insteadG afterP
  generalize F s = g at hz hf ⊢
  obtain ⟨L, S, k, tt⟩ := g
  simp only at hz hf
  have key : (k == 0) = false → L = [] := fun h => hf (by simpa using h)
  have key2 : (k == 0) = true → k = 0 ∧ tt = tx [] := fun h => ⟨by simpa using h, hz (by simpa using h)⟩
  clear hz hf
  rcases ho with h | h | h | h | h | h | h | h | h
  all_goals
    simp only [hasC, h]
    cases usable s t o
    all_goals
      by_cases hk : (k == 0) = true
      · obtain ⟨rfl, rfl⟩ := key2 hk
        simp [fix_give, fix_unset, giveG, unsetG, fixG, unsetT, empty_one]
      · have hk2 : (k == 0) = false := by simpa using hk
        have := key hk2
        subst this
        simp [hk2, fix_give, fix_unset, giveG, unsetG, fixG, unsetT]
theorem param_eq {o : ByteArray} (ho : okO o) (s : St) (q : Bool) (t : ByteArray) (f : PL) :
    paramG s q t o f.len (fun s => ex f s []) = bif readyB s t o && !hasC o 43 then ownG s q t else fixG q (insteadG s q t o f.len (readyB s t o) (ex f s [])) :=
  param_eq' ho s q t f.len _ (ex_zero f s []) (ex_fault f s [])
/-- What Pieces answers of a word, in whatever world. -/
def PW (W0 : World) (B q : Nat) (z : St) (av : Value) (f : PL) (a : Option Addr) (c : Nat) : Prop := ∀ (w : World) (m : Nat) (s : St) (mv : Value), Env W0 w B q z m s mv av → m + f.size ≤ 900000 → Calls Tryz.prog 10 #[.pointer (some ⟨q, 0, none⟩), .slice a f.len c] w (Ans w B q mv av (ex f s []))
def okT (f : PL) : Prop := ∀ t ∈ texts f, t.size ≤ 100000
theorem weight_ex (f : PL) (s : St) (h : f.size ≤ 1000) : weight (ex f s []).L ≤ 200000 := by
  have h1 := W.ex f s [] 0 W.nil
  have h2 := ex_join f s [] (by simp [joinS])
  unfold W at h1
  omega
theorem one_all {W0 w : World} {B q m : Nat} {z s : St} {mv av : Value} {f : PL} {a : Option Addr} {c : Nat} (h : PW W0 B q z av f a c) (E : Env W0 w B q z m s mv av) (hm : m + f.size ≤ 900000) (hs : f.size ≤ 1000) :
    Calls Tryz.prog 11 #[.pointer (some ⟨q, 0, none⟩), .slice a f.len c] w (Ans1 w B q mv av (ex f s [])) :=
  one_any E f a c _ (ex_zero f s []) (weight_ex f s hs) (h _ m s mv (E.more (Fld.below_alloc w FB)) hm)
theorem give_all {W0 w : World} {B q m : Nat} {z s : St} {mv av : Value} {f : PL} {a : Option Addr} {c : Nat} (h : PW W0 B q z av f a c) (E : Env W0 w B q z m s mv av) (hm : m + f.size ≤ 900000) (hs : f.size ≤ 1000) (hf : okT f) (k : Int) (qq : Bool) (t o : ByteArray) (ht : t.size ≤ 100000) :
    Calls Tryz.prog 94 #[.pointer (some ⟨q, 0, none⟩), Pt.pv k qq t o a f.len c] w (Ans w B q mv av (giveG qq t (ex f s []))) :=
  give_any E k qq t o a c f _ (ex_zero f s []) (ex_ok f s [] m E.ok hf) hm (ex_join f s [] (by simp [joinS])) ht (one_all h (E.more (two_bel w k qq t o a f.len c)) hm hs)
theorem unset_all {W0 w : World} {B q m : Nat} {z s : St} {mv av : Value} {f : PL} {a : Option Addr} {c : Nat} (h : PW W0 B q z av f a c) (E : Env W0 w B q z m s mv av) (hm : m + f.size ≤ 900000) (hs : f.size ≤ 1000) (hf : okT f) (k : Int) (qq : Bool) (t o : ByteArray) (ht : t.size ≤ 100000) :
    Calls Tryz.prog 95 #[.pointer (some ⟨q, 0, none⟩), Pt.pv k qq t o a f.len c] w fun e w' => ∃ mv', e = .returned (.agg #[.int .i64 (unsetG t f.len (ex f s [])).k, .string (unsetG t f.len (ex f s [])).t]) ∧ Went w w' B q (unsetG t f.len (ex f s [])).S mv mv' av := by
  cases f with
  | nil => exact unset_none E k qq t o a c ht
  | cons k1 q1 t1 o1 f1 r1 => exact unset_some E k qq t o a c _ _ (ex_zero _ s []) (ex_ok _ s [] m E.ok hf) hm (ex_join _ s [] (by simp [joinS])) ht (Nat.succ_pos _) (one_all h (E.more (two_bel w k qq t o a _ c)) hm hs)
theorem insteadG_give {s : St} {q r : Bool} {t o : ByteArray} {n : Nat} {g : Got} (h : bs o = [61] ∨ bs o = [58, 61]) : insteadG s q t o n r g = giveG q t g := by
  rcases h with h | h <;> simp [insteadG, hasC, h]
theorem insteadG_unset {s : St} {q r : Bool} {t o : ByteArray} {n : Nat} {g : Got} (h : bs o = [63] ∨ bs o = [58, 63]) : insteadG s q t o n r g = unsetG t n g := by
  rcases h with h | h <;> simp [insteadG, hasC, h]
theorem insteadG_plus {s : St} {q r : Bool} {t o : ByteArray} {n : Nat} {g : Got} (h : bs o = [43] ∨ bs o = [58, 43]) : insteadG s q t o n r g = bif r then g else ⟨[], s, 0, tx []⟩ := by
  rcases h with h | h <;> cases r <;> simp [insteadG, hasC, h]
theorem insteadG_else {s : St} {q r : Bool} {t o : ByteArray} {n : Nat} {g : Got} (h : bs o = [] ∨ bs o = [45] ∨ bs o = [58, 45]) : insteadG s q t o n r g = g := by
  rcases h with h | h | h <;> simp [insteadG, hasC, h]
theorem tst {o : ByteArray} {l : List UInt8} (h : bs o = l) (m : List UInt8) : (o.toList == m) = (l == m) := by rw [Vr.tests]; rw [show Vr.bs o = l from h]
set_option maxHeartbeats 2000000 in
theorem instead_any {W0 w : World} {B q m : Nat} {z s : St} {mv av : Value} {f : PL} {a : Option Addr} {c : Nat} (h : PW W0 B q z av f a c) (E : Env W0 w B q z m s mv av) (hm : m + f.size ≤ 900000) (hs : f.size ≤ 1000) (hf : okT f) (k : Int) (qq r : Bool) (t o : ByteArray) (ht : t.size ≤ 100000) (ho : okO o) :
    Calls Tryz.prog 74 #[.pointer (some ⟨q, 0, none⟩), Pt.pv k qq t o a f.len c, .bool r] w (Ans w B q mv av (insteadG s qq t o f.len r (ex f s []))) := by
  have HB0 := Lib.hid (two_bel w k qq t o a f.len c)
  have HE := Lib.hid (E.more HB0.out)
  have HR0 := Lib.hid (two_fault w k qq t o a f.len c)
  have HP0 := Lib.hid (two_part w k qq t o a f.len c)
  have HG := Lib.hid (give_all h HE.out hm hs hf k qq t o ht)
  have HU := Lib.hid (unset_all h HE.out hm hs hf k qq t o ht)
  have HPC := Lib.hid (h _ m s mv HE.out hm)
  clear h E
  unfold Pt.pv at HG HU ⊢
  by_cases hgive : bs o = [61] ∨ bs o = [58, 61]
  · have HOO := Lib.hid hgive
    rcases hgive with hb | hb
    all_goals
      have e1 : (o.toList == [61]) = _ := tst hb [61]
      have e2 : (o.toList == [58, 61]) = _ := tst hb [58, 61]
      simp only [(by decide : (([61] : List UInt8) == [61]) = true), (by decide : (([61] : List UInt8) == [58, 61]) = false), (by decide : (([58, 61] : List UInt8) == [61]) = false), (by decide : (([58, 61] : List UInt8) == [58, 61]) = true)] at e1 e2
      clear hb
      go_enter Tryz.func74, Tryz.ntmps74
      go_wp2_with fail
      refine HG.out.mono ?_
      rintro e w1 ⟨mv1, v1, rfl, ho1, hw1⟩
      have HO1 := Lib.hid (Joins.ownsRow_le ho1 HB0.out.size)
      clear ho1
      have hr1 := hw1.block HE.out.sc (by decide) (by decide) HR0.out
      have q01 : w1.cell? ⟨w.heap.size + 1, 0, none⟩ = some (.int .i64 0) := Lib.cell_of_heap hr1 0
      have q11 : w1.cell? ⟨w.heap.size + 1, 1, none⟩ = some (.string ⟨#[]⟩) := Lib.cell_of_heap hr1 1
      have f01 : w1.frozen? ⟨w.heap.size + 1, 0, none⟩ = false := frozen_of_row _ _ _ _ _ hr1
      have f11 : w1.frozen? ⟨w.heap.size + 1, 1, none⟩ = false := frozen_of_row _ _ _ _ _ hr1
      have HR1 := Lib.hid hr1
      have HW1 := Lib.hid (Went.start HB0.out hw1)
      clear hr1 hw1
      go_wp2_with fail
      rw [insteadG_give HOO.out]
      exact bodyPost_ret (results_tmp_row rfl _ _ (w.heap.size + 1) _ _ _ _ rfl (put2 HR1.out _ _) Tryz.underlying36 rfl (by kernel_rfl)) rfl ⟨mv1, v1, rfl, own_set (own_set HO1.out HR1.out (by decide) 0 _) (heap_setCell_same _ _ 0 _ _ _ HR1.out) (by decide) 1 _, HW1.out.fault HR1.out (Nat.le_succ _) _ _⟩
  have n1 : (o.toList == [61]) = false := by rw [Vr.tests]; exact beq_eq_false_iff_ne.2 fun e => hgive (.inl e)
  have n2 : (o.toList == [58, 61]) = false := by rw [Vr.tests]; exact beq_eq_false_iff_ne.2 fun e => hgive (.inr e)
  by_cases huns : bs o = [63] ∨ bs o = [58, 63]
  · have HOO := Lib.hid huns
    rcases huns with hb | hb
    all_goals
      have e1 : (o.toList == [63]) = _ := tst hb [63]
      have e2 : (o.toList == [58, 63]) = _ := tst hb [58, 63]
      simp only [(by decide : (([63] : List UInt8) == [63]) = true), (by decide : (([63] : List UInt8) == [58, 63]) = false), (by decide : (([58, 63] : List UInt8) == [63]) = false), (by decide : (([58, 63] : List UInt8) == [58, 63]) = true)] at e1 e2
      clear hb
      go_enter Tryz.func74, Tryz.ntmps74
      go_wp2_with fail
      refine HU.out.mono ?_
      rintro e w1 ⟨mv1, rfl, hw1⟩
      have hr1 := hw1.block HE.out.sc (by decide) (by decide) HR0.out
      have q01 : w1.cell? ⟨w.heap.size + 1, 0, none⟩ = some (.int .i64 0) := Lib.cell_of_heap hr1 0
      have q11 : w1.cell? ⟨w.heap.size + 1, 1, none⟩ = some (.string ⟨#[]⟩) := Lib.cell_of_heap hr1 1
      have f01 : w1.frozen? ⟨w.heap.size + 1, 0, none⟩ = false := frozen_of_row _ _ _ _ _ hr1
      have f11 : w1.frozen? ⟨w.heap.size + 1, 1, none⟩ = false := frozen_of_row _ _ _ _ _ hr1
      have HR1 := Lib.hid hr1
      have HW1 := Lib.hid (Went.start HB0.out hw1)
      clear hr1 hw1
      go_wp2_with fail
      rw [insteadG_unset HOO.out]
      have hL : (unsetG t f.len (ex f s [])).L = [] := by unfold unsetG; cases (ex f s []).k == 0 <;> rfl
      refine bodyPost_ret (results_tmp_row rfl _ _ (w.heap.size + 1) _ _ _ _ rfl (put2 HR1.out _ _) Tryz.underlying36 rfl (by kernel_rfl)) rfl ⟨mv1, .slice none 0 0, rfl, ?_, HW1.out.fault HR1.out (Nat.le_succ _) _ _⟩
      rw [hL]
      exact World.ownsRow_nil _ _ _ _
  have n3 : (o.toList == [63]) = false := by rw [Vr.tests]; exact beq_eq_false_iff_ne.2 fun e => huns (.inl e)
  have n4 : (o.toList == [58, 63]) = false := by rw [Vr.tests]; exact beq_eq_false_iff_ne.2 fun e => huns (.inr e)
  by_cases hplus : bs o = [43] ∨ bs o = [58, 43]
  · have HOO := Lib.hid hplus
    rcases hplus with hb | hb
    all_goals
      have e1 : (o.toList == [43]) = _ := tst hb [43]
      have e2 : (o.toList == [58, 43]) = _ := tst hb [58, 43]
      simp only [(by decide : (([43] : List UInt8) == [43]) = true), (by decide : (([43] : List UInt8) == [58, 43]) = false), (by decide : (([58, 43] : List UInt8) == [43]) = false), (by decide : (([58, 43] : List UInt8) == [58, 43]) = true)] at e1 e2
      clear hb
      rw [insteadG_plus HOO.out]
      cases r
      · go_enter Tryz.func74, Tryz.ntmps74
        go_wp2_with fail
        exact bodyPost_ret (results_tmp_row rfl _ _ (w.heap.size + 1) _ _ _ _ rfl (Vr.new2 _ _ _) Tryz.underlying36 rfl (by kernel_rfl)) rfl ⟨mv, .slice none 0 0, rfl, World.ownsRow_nil _ _ _ _, Went.start HB0.out (Went.refl HE.out.sc)⟩
      · go_enter Tryz.func74, Tryz.ntmps74
        go_wp2_with fail
        refine HPC.out.mono ?_
        rintro e w1 ⟨mv1, v1, rfl, ho1, hw1⟩
        have HO1 := Lib.hid (Joins.ownsRow_le ho1 HB0.out.size)
        clear ho1
        have hr1 := hw1.block HE.out.sc (by decide) (by decide) HR0.out
        have q01 : w1.cell? ⟨w.heap.size + 1, 0, none⟩ = some (.int .i64 0) := Lib.cell_of_heap hr1 0
        have q11 : w1.cell? ⟨w.heap.size + 1, 1, none⟩ = some (.string ⟨#[]⟩) := Lib.cell_of_heap hr1 1
        have f01 : w1.frozen? ⟨w.heap.size + 1, 0, none⟩ = false := frozen_of_row _ _ _ _ _ hr1
        have f11 : w1.frozen? ⟨w.heap.size + 1, 1, none⟩ = false := frozen_of_row _ _ _ _ _ hr1
        have HR1 := Lib.hid hr1
        have HW1 := Lib.hid (Went.start HB0.out hw1)
        clear hr1 hw1
        go_wp2_with fail
        exact bodyPost_ret (results_tmp_row rfl _ _ (w.heap.size + 1) _ _ _ _ rfl (put2 HR1.out _ _) Tryz.underlying36 rfl (by kernel_rfl)) rfl ⟨mv1, v1, rfl, own_set (own_set HO1.out HR1.out (by decide) 0 _) (heap_setCell_same _ _ 0 _ _ _ HR1.out) (by decide) 1 _, HW1.out.fault HR1.out (Nat.le_succ _) _ _⟩
  have n5 : (o.toList == [43]) = false := by rw [Vr.tests]; exact beq_eq_false_iff_ne.2 fun e => hplus (.inl e)
  have n6 : (o.toList == [58, 43]) = false := by rw [Vr.tests]; exact beq_eq_false_iff_ne.2 fun e => hplus (.inr e)
  have helse : bs o = [] ∨ bs o = [45] ∨ bs o = [58, 45] := by
    rcases ho with h | h | h | h | h | h | h | h | h
    · exact .inl h
    · exact .inr (.inl h)
    · exact .inr (.inr h)
    · exact absurd (.inl h) hgive
    · exact absurd (.inr h) hgive
    · exact absurd (.inl h) hplus
    · exact absurd (.inr h) hplus
    · exact absurd (.inl h) huns
    · exact absurd (.inr h) huns
  rw [insteadG_else helse]
  clear hgive huns hplus helse ho
  go_enter Tryz.func74, Tryz.ntmps74
  go_wp2_with fail
  refine HPC.out.mono ?_
  rintro e w1 ⟨mv1, v1, rfl, ho1, hw1⟩
  have HO1 := Lib.hid (Joins.ownsRow_le ho1 HB0.out.size)
  clear ho1
  have hr1 := hw1.block HE.out.sc (by decide) (by decide) HR0.out
  have q01 : w1.cell? ⟨w.heap.size + 1, 0, none⟩ = some (.int .i64 0) := Lib.cell_of_heap hr1 0
  have q11 : w1.cell? ⟨w.heap.size + 1, 1, none⟩ = some (.string ⟨#[]⟩) := Lib.cell_of_heap hr1 1
  have f01 : w1.frozen? ⟨w.heap.size + 1, 0, none⟩ = false := frozen_of_row _ _ _ _ _ hr1
  have f11 : w1.frozen? ⟨w.heap.size + 1, 1, none⟩ = false := frozen_of_row _ _ _ _ _ hr1
  have HR1 := Lib.hid hr1
  have HW1 := Lib.hid (Went.start HB0.out hw1)
  clear hr1 hw1
  go_wp2_with fail
  exact bodyPost_ret (results_tmp_row rfl _ _ (w.heap.size + 1) _ _ _ _ rfl (put2 HR1.out _ _) Tryz.underlying36 rfl (by kernel_rfl)) rfl ⟨mv1, v1, rfl, own_set (own_set HO1.out HR1.out (by decide) 0 _) (heap_setCell_same _ _ 0 _ _ _ HR1.out) (by decide) 1 _, HW1.out.fault HR1.out (Nat.le_succ _) _ _⟩
end Ex
end Go.Proofs.YtoneabcbeikkhaaGreatDoor
