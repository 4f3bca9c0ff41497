/- What holds ahead of each call; usable; One. -/
/- give, unset. -/
import Derived.Test.YtoneabcbeikkhaaGreatDoorExE
import Derived.RegionTactic
namespace Go.Proofs.YtoneabcbeikkhaaGreatDoor
open Go.RowKit Cls
namespace Ex
open Vr (St val Sc Kp Tab Fit RowAt MapAt)
open Fld (Pc bs tx joinS cutP joinP weight Pcs pcells)
open Pt (PL)
/-- What holds ahead of a call: the word lies in W0, the scope above a bound. -/
structure Env (W0 w : World) (B q : Nat) (z : St) (m : Nat) (s : St) (mv av : Value) : Prop where
  b0 : Below W0.heap.size W0 w
  hB : W0.heap.size ≤ B
  hw : B ≤ w.heap.size
  sc : Sc w B q s mv av
  tab : Tab W0
  ok : OKs z m s
  sm : Small z
  hm : m ≤ 900000
theorem Env.tabs {W0 w : World} {B q m : Nat} {z s : St} {mv av : Value} (h : Env W0 w B q z m s mv av) : Tab w := h.tab.stay h.b0
theorem Env.more {W0 w w' : World} {B q m : Nat} {z s : St} {mv av : Value} (h : Env W0 w B q z m s mv av) (hb : Below w.heap.size w w') : Env W0 w' B q z m s mv av :=
  ⟨h.b0.trans (hb.mono h.b0.size), h.hB, Nat.le_trans h.hw hb.size, h.sc.stay hb, h.tab, h.ok, h.sm, h.hm⟩
theorem Env.went {W0 w w' : World} {B q m m' : Nat} {z s s' : St} {mv mv' av : Value} (h : Env W0 w B q z m s mv av) (k : Went w w' B q s' mv mv' av) (ho : OKs z m' s') (hm : m' ≤ 900000) : Env W0 w' B q z m' s' mv' av :=
  ⟨k.frame h.sc h.hw h.b0 h.hB, h.hB, Nat.le_trans h.hw k.kp.size, k.sc, h.tab, ho, h.sm, hm⟩
theorem Env.fit {W0 w : World} {B q m : Nat} {z s : St} {mv av : Value} (h : Env W0 w B q z m s mv av) : Fit s := by
  have h1 := h.ok.small h.sm
  exact ⟨h.ok.srt, by have := h.ok.nvs; have := h.hm; omega, by have := h1.nargs; omega, Nat.le_trans h1.join (by omega), h1.st0, h1.st1, h1.la0, h1.la1⟩
theorem usable_none {s : St} {t : ByteArray} (h : val s t = none) (o : ByteArray) : usable s t o = false := by unfold usable; rw [h]
theorem usable_some {s : St} {t v : ByteArray} (h : val s t = some v) (o : ByteArray) : usable s t o = (!hasC o 58 || !(bs v).isEmpty) := by unfold usable; rw [h]
set_option maxHeartbeats 1000000 in
theorem usable_any {W0 w : World} {B q m : Nat} {z s : St} {mv av : Value} (E : Env W0 w B q z m s mv av) (k : Int) (qq : Bool) (t o : ByteArray) (a : Option Addr) (n c : Nat) (hn : t.size ≤ maxLen) (hp : Lib.hasPrefix o.data.toList [58] = hasC o 58) :
    Calls Tryz.prog 71 #[.pointer (some ⟨q, 0, none⟩), Pt.pv k qq t o a n c] w fun e w' => e = .returned (.bool (usable s t o)) ∧ Below w.heap.size w w' := by
  unfold Pt.pv
  have HB1 := Lib.hid (Fld.below_alloc w (.cells #[.int .i64 k, .bool qq, .string t, .string o, .slice a n c] 52))
  have HROW := Lib.hid (heap_alloc_new w (.cells #[.int .i64 k, .bool qq, .string t, .string o, .slice a n c] 52))
  have E1 := E.more HB1.out
  have HV := Lib.hid (Vr.get_any s B q t _ mv av E1.sc E1.tabs E.fit hn)
  have HP := Lib.hid hp
  clear E1 hp
  go_enter Tryz.func71, Tryz.ntmps71
  go_wp2_with fail
  refine HV.out.mono ?_
  rintro e w1 ⟨rfl, hb1⟩
  have hlt : w.heap.size < (w.alloc (.cells #[.int .i64 k, .bool qq, .string t, .string o, .slice a n c] 52)).heap.size := by simp [World.size_alloc]
  have hS1 : w1.heap[w.heap.size]? = some (.cells #[.int .i64 k, .bool qq, .string t, .string o, .slice a n c] 52 (0, 0)) := (hb1.block _ hlt).trans HROW.out
  have q3 : w1.cell? ⟨w.heap.size, 3, none⟩ = some (.string o) := Lib.cell_of_heap hS1 3
  have HB2 := Lib.hid (HB1.out.trans (hb1.mono HB1.out.size))
  clear hb1 hS1 HV
  have HX := fun w => Tryz.strings_HasPrefix o ⟨#[58]⟩ w
  cases hv : val s t with
  | none =>
    clear HX
    go_wp2_with fail
    go_ret
    exact ⟨congrArg (fun b => Ending.returned (.bool b)) (usable_none hv o).symm, HB2.out⟩
  | some v =>
    have hvb : (v.toList == []) = (bs v).isEmpty := by rw [Vr.tests]; show (bs v == []) = _; cases bs v <;> rfl
    have hvn : (v.toList != []) = !(bs v).isEmpty := by rw [bne, hvb]
    have HX2 := Lib.hid HX
    clear HX
    have hE : (bs v).isEmpty = true ∨ (bs v).isEmpty = false := by cases (bs v).isEmpty <;> simp
    rcases hE with hE | hE
    all_goals
      rw [hE] at hvb hvn
      have HE := Lib.hid hE
      clear hE
      go_wp2_with (go_at_call 91; refine (HX2.out _).mono ?_; rintro e w3 ⟨rfl, rfl⟩)
      go_ret
      refine ⟨congrArg (fun b => Ending.returned (.bool b)) ?_, HB2.out⟩
      rw [usable_some hv, HE.out, ← HP.out]
      simp
def FB : Obj := .cells #[.int .i64 0, .string ⟨#[]⟩] 36
/-- A block of the call's own is written into. -/
theorem Went.set {w w1 : World} {B q : Nat} {s' : St} {mv mv' av : Value} (h : Went w w1 B q s' mv mv' av) {g : Nat} {cs : Array Value} {T : TypeId} (hr : w1.heap[g]? = some (.cells cs T (0, 0))) (hT : T ≠ 9) (hT2 : T ≠ 58) (hg : w.heap.size ≤ g) (j : Nat) (u : Value) : Went w (w1.setCell ⟨g, j, none⟩ u) B q s' mv mv' av := by
  have hq : q ≠ g := fun e => by subst e; have := h.sc.cells; rw [hr] at this; injection this with this; injection this with _ h2; exact hT2 h2
  have hb : ∀ k, k ≠ g → (w1.setCell ⟨g, j, none⟩ u).heap[k]? = w1.heap[k]? := fun k hk => heap_setCell_other _ _ _ _ hk
  refine ⟨⟨(hb q hq).trans h.sc.cells, h.sc.base, h.sc.vars.stay fun k e => hb k fun e2 => ?_, h.sc.args.stay fun k e => hb k fun e2 => ?_⟩, ⟨h.kp.os, h.kp.tape, h.kp.output, by simpa using h.kp.size, fun k hk h1 h2 h3 => (hb k (by omega)).trans (h.kp.block k hk h1 h2 h3)⟩, h.fresh⟩
  · subst e2; exact h.sc.vars.neScope hr e
  · subst e2; exact h.sc.args.neType hT hr e
theorem own_set {w : World} {base size n : Nat} {T T2 : TypeId} {v : Value} {xs : List Value} (h : w.ownsRow base T size v n xs) {g : Nat} {cs : Array Value} (hr : w.heap[g]? = some (.cells cs T2 (0, 0))) (hT : T2 ≠ T) (j : Nat) (u : Value) : (w.setCell ⟨g, j, none⟩ u).ownsRow base T size v n xs :=
  ownsRow_setCell_other h (Fld.ownsRow_ne h hr hT) u
theorem put2 {w : World} {g : Nat} {T : TypeId} {a b : Value} (h : w.heap[g]? = some (.cells #[a, b] T (0, 0))) (x y : Value) :
    ((w.setCell ⟨g, 0, none⟩ x).setCell ⟨g, 1, none⟩ y).heap[g]? = some (.cells #[x, y] T (0, 0)) :=
  heap_setCell_same _ _ 1 _ _ y (heap_setCell_same _ _ 0 _ _ x h)
/-- A fault is written where it is answered. -/
theorem Went.fault {w w2 : World} {B q g : Nat} {s' : St} {mv mv' av x y : Value} (h : Went w w2 B q s' mv mv' av) (hr : w2.heap[g]? = some (.cells #[x, y] 36 (0, 0))) (hg : w.heap.size ≤ g) (u v : Value) : Went w ((w2.setCell ⟨g, 0, none⟩ u).setCell ⟨g, 1, none⟩ v) B q s' mv mv' av :=
  (h.set hr (by decide) (by decide) hg 0 u).set (heap_setCell_same _ _ 0 _ _ u hr) (by decide) (by decide) hg 1 v
theorem Went.drew {w w2 : World} {B q : Nat} {s' : St} {mv mv' av : Value} (h : Went w w2 B q s' mv mv' av) : Went w w2.drew B q s' mv mv' av :=
  ⟨⟨h.sc.cells, h.sc.base, h.sc.vars.stay fun _ _ => rfl, h.sc.args.stay fun _ _ => rfl⟩, ⟨h.kp.os, h.kp.tape, h.kp.output, h.kp.size, h.kp.block⟩, h.fresh⟩
theorem put2d {w : World} {g : Nat} {T : TypeId} {a b : Value} (h : w.heap[g]? = some (.cells #[a, b] T (0, 0))) (x y : Value) :
    ((w.setCell ⟨g, 0, none⟩ x).setCell ⟨g, 1, none⟩ y).drew.heap[g]? = some (.cells #[x, y] T (0, 0)) := put2 h x y
theorem results_tmp_row {P : Program} {fn : Func} {p u : Tmp} {ty : TypeId} (h : fn.results = #[.tmp u, .cell p ty]) (tmps : Array Value) (w : World) (g : Nat) (t : TypeId) (cs : Array Value) (fr : Nat × Nat) (d : TypeDesc)
    (hp : tmps.getD p undef = .pointer (some ⟨g, 0, none⟩)) (hg : w.heap[g]? = some (.cells cs t fr))
    (hu : P.underlying ty = some d) (hd : (match d with | .struct _ | .array _ _ => true | _ => false) = true) (hi : (P.info? ty).map (·.size) = some cs.size) :
    (results fn tmps).run P w = .ok (.tuple #[tmps.getD u undef, .agg cs]) w := by
  have hp' : tmps[p]?.getD undef = .pointer (some ⟨g, 0, none⟩) := by simpa using hp
  simp [results, h, hp', asAddr, run_loadVar_row w g t ty cs fr d hg hu hd hi]
/-- What One answers. -/
def Ans1 (w : World) (B q : Nat) (mv av : Value) (g : Got) (e : Ending) (w' : World) : Prop :=
  ∃ mv', e = .returned (.tuple #[.string (bif g.k == 0 then tx (joinS g.L) else tx []), .agg #[.int .i64 g.k, .string g.t]]) ∧ Went w w' B q g.S mv mv' av
set_option maxHeartbeats 1000000 in
theorem one_any {W0 w : World} {B q m : Nat} {z s : St} {mv av : Value} (E : Env W0 w B q z m s mv av) (f : PL) (a : Option Addr) (cap : Nat) (g : Got) (hz : g.k = 0 → g.t = tx []) (hwt : weight g.L ≤ 200000) (h : Calls Tryz.prog 10 #[.pointer (some ⟨q, 0, none⟩), .slice a f.len cap] (w.alloc FB) (Ans (w.alloc FB) B q mv av g)) :
    Calls Tryz.prog 11 #[.pointer (some ⟨q, 0, none⟩), .slice a f.len cap] w (Ans1 w B q mv av g) := by
  have H := Lib.hid h
  have HB0 := Lib.hid (Fld.below_alloc w FB)
  have HE := Lib.hid (E.more HB0.out)
  have HR0 := Lib.hid (heap_alloc_new w FB)
  unfold FB at HR0
  clear h E
  obtain ⟨L, S, k, t⟩ := g
  simp only at hz hwt
  go_enter Tryz.func11, Tryz.ntmps11
  go_wp2_with fail
  refine H.out.mono ?_
  rintro e w1 ⟨mv1, v1, rfl, ho1, hw1⟩
  simp only at ho1 hw1
  have hr1 := hw1.block HE.out.sc (by decide) (by decide) HR0.out
  have HR1 := Lib.hid hr1
  have q0 : w1.cell? ⟨w.heap.size, 0, none⟩ = some (.int .i64 0) := Lib.cell_of_heap hr1 0
  have q1 : w1.cell? ⟨w.heap.size, 1, none⟩ = some (.string ⟨#[]⟩) := Lib.cell_of_heap hr1 1
  have f0 : w1.frozen? ⟨w.heap.size, 0, none⟩ = false := frozen_of_row _ _ _ _ _ hr1
  have f1 : w1.frozen? ⟨w.heap.size, 1, none⟩ = false := frozen_of_row _ _ _ _ _ hr1
  obtain ⟨a1, c1, rfl, hp1⟩ := Fld.pcs_own ho1 rfl rfl
  have HP1 := Lib.hid hp1; have HW1 := Lib.hid (Went.start HB0.out hw1)
  clear hr1 ho1 hw1 hp1
  by_cases hk : k = 0
  · subst hk
    obtain rfl : t = ⟨#[]⟩ := hz rfl
    clear hz
    have HBa := Lib.hid (Fld.below_alloc w1 FB)
    go_wp2_with fail
    refine (Fld.join_any a1 c1 L _ (HP1.out.below HBa.out) hwt).mono ?_
    rintro e w2 ⟨rfl, hb2⟩
    have HB2 := Lib.hid (HBa.out.trans (hb2.mono HBa.out.size))
    have hr2 := (HB2.out.block _ (Array.getElem?_eq_some_iff.1 HR1.out).1).trans HR1.out
    have q02 : w2.cell? ⟨w.heap.size, 0, none⟩ = some (.int .i64 0) := Lib.cell_of_heap hr2 0
    have q12 : w2.cell? ⟨w.heap.size, 1, none⟩ = some (.string ⟨#[]⟩) := Lib.cell_of_heap hr2 1
    have f02 : w2.frozen? ⟨w.heap.size, 0, none⟩ = false := frozen_of_row _ _ _ _ _ hr2
    have f12 : w2.frozen? ⟨w.heap.size, 1, none⟩ = false := frozen_of_row _ _ _ _ _ hr2
    have HR2 := Lib.hid hr2
    clear hr2 hb2
    go_wp2_with fail
    refine bodyPost_ret (results_tmp_row rfl _ _ w.heap.size _ _ _ _ rfl (put2 HR2.out _ _) Tryz.underlying36 rfl (by kernel_rfl)) rfl ⟨mv1, rfl, ?_⟩
    exact (HW1.out.more HB2.out).fault HR2.out (Nat.le_refl _) _ _
  · have HK := Lib.hid hk
    have HBa := Lib.hid (Fld.below_alloc w1 (.cells #[.int .i64 k, .string t] 36))
    have hr2 := (HBa.out.block _ (Array.getElem?_eq_some_iff.1 HR1.out).1).trans HR1.out
    have q02 : (w1.alloc (.cells #[.int .i64 k, .string t] 36)).cell? ⟨w.heap.size, 0, none⟩ = some (.int .i64 0) := Lib.cell_of_heap hr2 0
    have q12 : (w1.alloc (.cells #[.int .i64 k, .string t] 36)).cell? ⟨w.heap.size, 1, none⟩ = some (.string ⟨#[]⟩) := Lib.cell_of_heap hr2 1
    have f02 : (w1.alloc (.cells #[.int .i64 k, .string t] 36)).frozen? ⟨w.heap.size, 0, none⟩ = false := frozen_of_row _ _ _ _ _ hr2
    have f12 : (w1.alloc (.cells #[.int .i64 k, .string t] 36)).frozen? ⟨w.heap.size, 1, none⟩ = false := frozen_of_row _ _ _ _ _ hr2
    have HR2 := Lib.hid hr2
    clear hr2
    go_wp2_with fail
    go_region
    go_wp2_with fail
    have he : (k == 0) = false := by simpa using HK.out
    refine bodyPost_ret (results_tmp_row rfl _ _ w.heap.size _ _ _ _ rfl (put2d HR2.out _ _) Tryz.underlying36 rfl (by kernel_rfl)) rfl ⟨mv1, ?_, ((HW1.out.more HBa.out).fault HR2.out (Nat.le_refl _) _ _).drew⟩
    simp only [he, cond_false]
    rfl
end Ex
end Go.Proofs.YtoneabcbeikkhaaGreatDoor

namespace Go.Proofs.YtoneabcbeikkhaaGreatDoor
open Go.RowKit Cls
namespace Ex
open Vr (St val Sc Kp Tab Fit RowAt MapAt)
open Fld (Pc bs tx joinS cutP joinP weight Pcs pcells)
open Pt (PL)
def PBj (k : Int) (qq : Bool) (t o : ByteArray) (a : Option Addr) (n c : Nat) : Obj := .cells #[.int .i64 k, .bool qq, .string t, .string o, .slice a n c] 52
/-- Two blocks of the call's own: the part, the fault that it answers. -/
abbrev W2 (w : World) (k : Int) (qq : Bool) (t o : ByteArray) (a : Option Addr) (n c : Nat) : World := (w.alloc (PBj k qq t o a n c)).alloc FB
theorem two_bel (w : World) (k : Int) (qq : Bool) (t o : ByteArray) (a : Option Addr) (n c : Nat) : Below w.heap.size w (W2 w k qq t o a n c) := (Fld.below_alloc w _).trans ((Fld.below_alloc _ FB).mono (Fld.below_alloc w _).size)
theorem two_part (w : World) (k : Int) (qq : Bool) (t o : ByteArray) (a : Option Addr) (n c : Nat) : (W2 w k qq t o a n c).heap[w.heap.size]? = some (.cells #[.int .i64 k, .bool qq, .string t, .string o, .slice a n c] 52 (0, 0)) :=
  (Below.heap_alloc _ _ _ (by simp [World.size_alloc])).trans (heap_alloc_new w _)
theorem two_fault (w : World) (k : Int) (qq : Bool) (t o : ByteArray) (a : Option Addr) (n c : Nat) : (W2 w k qq t o a n c).heap[w.heap.size + 1]? = some (.cells #[.int .i64 0, .string ⟨#[]⟩] 36 (0, 0)) := Vr.new2 w _ FB
/-- give: what comes behind what One says. -/
def giveG (q : Bool) (t : ByteArray) (g : Got) : Got := bif !(g.k == 0) then ⟨[], g.S, g.k, g.t⟩ else ⟨[(tx (joinS g.L), q, false)], setE g.S t (tx (joinS g.L)), 0, tx []⟩
theorem giveG_no {q : Bool} {t : ByteArray} {L : List Pc} {S : St} {k : Int} {t1 : ByteArray} (h : ¬ k = 0) : giveG q t ⟨L, S, k, t1⟩ = ⟨[], S, k, t1⟩ := by
  have : (k == 0) = false := by simpa using h
  simp only [giveG, this, Bool.not_false, cond_true]
set_option maxHeartbeats 1000000 in
theorem give_any {W0 w : World} {B q m m' : Nat} {z s : St} {mv av : Value} (E : Env W0 w B q z m s mv av) (k : Int) (qq : Bool) (t o : ByteArray) (a : Option Addr) (c : Nat) (f : PL) (g : Got) (hz : g.k = 0 → g.t = tx []) (hg : OKs z m' g.S) (hm : m' ≤ 900000) (hj : (joinS g.L).length ≤ 65536) (ht : t.size ≤ 100000)
    (h : Calls Tryz.prog 11 #[.pointer (some ⟨q, 0, none⟩), .slice a f.len c] (W2 w k qq t o a f.len c) (Ans1 (W2 w k qq t o a f.len c) B q mv av g)) :
    Calls Tryz.prog 94 #[.pointer (some ⟨q, 0, none⟩), Pt.pv k qq t o a f.len c] w (Ans w B q mv av (giveG qq t g)) := by
  have H := Lib.hid h
  have HB0 := Lib.hid (two_bel w k qq t o a f.len c)
  have HE := Lib.hid (E.more HB0.out)
  have HR0 := Lib.hid (two_fault w k qq t o a f.len c)
  have HP0 := Lib.hid (two_part w k qq t o a f.len c)
  clear h E
  obtain ⟨L, S, k1, t1⟩ := g
  simp only at hz hg hj
  unfold Pt.pv
  go_enter Tryz.func94, Tryz.ntmps94
  go_wp2_with fail
  refine H.out.mono ?_
  rintro e w1 ⟨mv1, rfl, hw1⟩
  simp only at hw1
  have hp1 := hw1.block HE.out.sc (by decide) (by decide) HP0.out
  have hr1 := hw1.block HE.out.sc (by decide) (by decide) HR0.out
  have HE1 := Lib.hid (HE.out.went hw1 hg hm)
  have HW1 := Lib.hid (Went.start HB0.out hw1)
  clear hw1 H
  by_cases hk : k1 = 0
  · subst hk
    obtain rfl : t1 = ⟨#[]⟩ := hz rfl
    clear hz
    have HBa := Lib.hid (Fld.below_alloc w1 FB)
    have hpb := (HBa.out.block _ (Array.getElem?_eq_some_iff.1 hp1).1).trans hp1
    have p2 : (w1.alloc (.cells #[.int .i64 0, .string ⟨#[]⟩] 36)).cell? ⟨w.heap.size, 2, none⟩ = some (.string t) := Lib.cell_of_heap hpb 2
    clear hpb
    have HR1 := Lib.hid hr1; have HP1 := Lib.hid hp1
    clear hr1 hp1
    have ec : (bif (0 : Int) == 0 then tx (joinS L) else tx []) = tx (joinS L) := rfl
    rw [ec]
    clear ec
    have hjs : (tx (joinS L)).size ≤ 65536 := by rw [Fld.tx_size]; exact hj
    have hset := Vr.set_any S B q t (tx (joinS L)) (w1.alloc FB) mv1 av (HE1.out.more HBa.out).sc (HE1.out.more HBa.out).hw (by unfold maxLen; omega) (by unfold maxLen; omega) hg.srt (by have := hg.nvs; omega)
    have HSET := Lib.hid hset
    have HJ : ∃ J, J = tx (joinS L) := ⟨_, rfl⟩
    obtain ⟨J, hJ⟩ := HJ
    rw [← hJ] at HSET
    have HJ := Lib.hid hJ
    clear hset
    rw [← hJ]
    clear hJ hjs hj
    go_wp2_with fail
    refine HSET.out.mono ?_
    rintro e w2 ⟨rfl, mv2, hsc2, hkp2, hfr2⟩
    have hw2 : Went (w1.alloc FB) w2 B q (Vr.setS S t J) mv1 mv2 av := ⟨hsc2, hkp2, hfr2⟩
    have hra := (HBa.out.block _ (Array.getElem?_eq_some_iff.1 HR1.out).1).trans HR1.out
    have hpa := (HBa.out.block _ (Array.getElem?_eq_some_iff.1 HP1.out).1).trans HP1.out
    have HR2 := Lib.hid (hw2.block (HE1.out.more HBa.out).sc (by decide) (by decide) hra)
    have hp2 := hw2.block (HE1.out.more HBa.out).sc (by decide) (by decide) hpa
    have HW2 := Lib.hid ((HW1.out.more HBa.out).trans hw2)
    have p1 : w2.cell? ⟨w.heap.size, 1, none⟩ = some (.bool qq) := Lib.cell_of_heap hp2 1
    clear hsc2 hkp2 hfr2 hw2 hra hpa hp2 p2
    go_wp2_with fail
    refine (piece_any J qq w2).mono ?_
    rintro e w3 ⟨v3, rfl, ho3, hb3⟩
    have hr3 := (hb3.block _ (Array.getElem?_eq_some_iff.1 HR2.out).1).trans HR2.out
    have q03 : w3.cell? ⟨w.heap.size + 1, 0, none⟩ = some (.int .i64 0) := Lib.cell_of_heap hr3 0
    have q13 : w3.cell? ⟨w.heap.size + 1, 1, none⟩ = some (.string ⟨#[]⟩) := Lib.cell_of_heap hr3 1
    have f03 : w3.frozen? ⟨w.heap.size + 1, 0, none⟩ = false := frozen_of_row _ _ _ _ _ hr3
    have f13 : w3.frozen? ⟨w.heap.size + 1, 1, none⟩ = false := frozen_of_row _ _ _ _ _ hr3
    have HR3 := Lib.hid hr3
    have HW3 := Lib.hid (HW2.out.more hb3)
    have HO3 := Lib.hid (Joins.ownsRow_le ho3 HW2.out.kp.size)
    clear hr3 ho3 hb3 p1
    go_wp2_with fail
    refine bodyPost_ret (results_tmp_row rfl _ _ (w.heap.size + 1) _ _ _ _ rfl (put2 HR3.out _ _) Tryz.underlying36 rfl (by kernel_rfl)) rfl ⟨mv2, v3, rfl, ?_, ?_⟩
    · have hL : giveG qq t ⟨L, S, 0, ⟨#[]⟩⟩ = ⟨[(tx (joinS L), qq, false)], setE S t (tx (joinS L)), 0, tx []⟩ := rfl
      rw [hL, ← HJ.out]
      exact own_set (own_set HO3.out HR3.out (by decide) 0 _) (heap_setCell_same _ _ 0 _ _ _ HR3.out) (by decide) 1 _
    · have hL : (giveG qq t ⟨L, S, 0, ⟨#[]⟩⟩).S = Vr.setS S t J := by rw [HJ.out]; rfl
      rw [hL]
      exact HW3.out.fault HR3.out (Nat.le_succ _) _ _
  · have HK := Lib.hid hk
    have HBa := Lib.hid (Fld.below_alloc w1 (.cells #[.int .i64 k1, .string t1] 36))
    have hr2 := (HBa.out.block _ (Array.getElem?_eq_some_iff.1 hr1).1).trans hr1
    have q02 : (w1.alloc (.cells #[.int .i64 k1, .string t1] 36)).cell? ⟨w.heap.size + 1, 0, none⟩ = some (.int .i64 0) := Lib.cell_of_heap hr2 0
    have q12 : (w1.alloc (.cells #[.int .i64 k1, .string t1] 36)).cell? ⟨w.heap.size + 1, 1, none⟩ = some (.string ⟨#[]⟩) := Lib.cell_of_heap hr2 1
    have f02 : (w1.alloc (.cells #[.int .i64 k1, .string t1] 36)).frozen? ⟨w.heap.size + 1, 0, none⟩ = false := frozen_of_row _ _ _ _ _ hr2
    have f12 : (w1.alloc (.cells #[.int .i64 k1, .string t1] 36)).frozen? ⟨w.heap.size + 1, 1, none⟩ = false := frozen_of_row _ _ _ _ _ hr2
    have HR2 := Lib.hid hr2
    clear hr2 hr1 hp1
    go_wp2_with fail
    go_region
    go_wp2_with fail
    rw [giveG_no HK.out]
    exact bodyPost_ret (results_tmp_row rfl _ _ (w.heap.size + 1) _ _ _ _ rfl (put2d HR2.out _ _) Tryz.underlying36 rfl (by kernel_rfl)) rfl ⟨mv1, _, rfl, World.ownsRow_nil _ _ _ _, ((HW1.out.more HBa.out).fault HR2.out (Nat.le_succ _) _ _).drew⟩
def unsetT (t J : ByteArray) : ByteArray := tx (bs t ++ ([58, 32] ++ bs J))
theorem unset_cat (t J : ByteArray) : t ++ ⟨#[58, 32]⟩ ++ J = unsetT t J := by
  have h1 : t = tx (bs t) := (Fld.tx_bs t).symm
  have h2 : J = tx (bs J) := (Fld.tx_bs J).symm
  unfold unsetT
  conv => lhs; rw [h1, h2]
  rw [show (⟨#[58, 32]⟩ : ByteArray) = tx [58, 32] from rfl, Fld.tx_cat, Fld.tx_cat, List.append_assoc]
/-- unset: what comes behind what One says. -/
def unsetG (t : ByteArray) (flen : Nat) (g : Got) : Got := bif !(g.k == 0) then ⟨[], g.S, g.k, g.t⟩ else ⟨[], g.S, 1, unsetT t (bif flen == 0 then notSet else tx (joinS g.L))⟩
set_option maxHeartbeats 1000000 in
theorem unset_none {W0 w : World} {B q m : Nat} {z s : St} {mv av : Value} (E : Env W0 w B q z m s mv av) (k : Int) (qq : Bool) (t o : ByteArray) (a : Option Addr) (c : Nat) (ht : t.size ≤ 100000) :
    Calls Tryz.prog 95 #[.pointer (some ⟨q, 0, none⟩), Pt.pv k qq t o a 0 c] w fun e w' => ∃ mv', e = .returned (.agg #[.int .i64 1, .string (unsetT t notSet)]) ∧ Went w w' B q s mv mv' av := by
  have HE := Lib.hid E
  clear E
  unfold Pt.pv
  go_enter Tryz.func95, Tryz.ntmps95
  go_wp2_with fail
  refine bodyPost_ret (results_cell_row rfl _ _ (w.heap.size + 1) _ _ _ _ rfl (Vr.new2 _ _ _) Tryz.underlying36 rfl (by kernel_rfl)) rfl ⟨mv, ?_, (Went.refl HE.out.sc).more ((Fld.below_alloc w _).trans ((Fld.below_alloc _ _).mono (Fld.below_alloc w _).size))⟩
  rw [unset_cat]
  rfl
set_option maxHeartbeats 1000000 in
theorem unset_some {W0 w : World} {B q m m' : Nat} {z s : St} {mv av : Value} (E : Env W0 w B q z m s mv av) (k : Int) (qq : Bool) (t o : ByteArray) (a : Option Addr) (c : Nat) (f : PL) (g : Got) (hz : g.k = 0 → g.t = tx []) (hg : OKs z m' g.S) (hm : m' ≤ 900000) (hj : (joinS g.L).length ≤ 65536) (ht : t.size ≤ 100000) (hf : 0 < f.len)
    (h : Calls Tryz.prog 11 #[.pointer (some ⟨q, 0, none⟩), .slice a f.len c] (W2 w k qq t o a f.len c) (Ans1 (W2 w k qq t o a f.len c) B q mv av g)) :
    Calls Tryz.prog 95 #[.pointer (some ⟨q, 0, none⟩), Pt.pv k qq t o a f.len c] w fun e w' => ∃ mv', e = .returned (.agg #[.int .i64 (unsetG t f.len g).k, .string (unsetG t f.len g).t]) ∧ Went w w' B q (unsetG t f.len g).S mv mv' av := by
  have H := Lib.hid h
  have HB0 := Lib.hid (two_bel w k qq t o a f.len c)
  have HE := Lib.hid (E.more HB0.out)
  have HR0 := Lib.hid (two_fault w k qq t o a f.len c)
  have HP0 := Lib.hid (two_part w k qq t o a f.len c)
  clear h E
  obtain ⟨L, S, k1, t1⟩ := g
  simp only at hz hg hj
  unfold Pt.pv
  go_enter Tryz.func95, Tryz.ntmps95
  go_wp2_with fail
  refine H.out.mono ?_
  rintro e w1 ⟨mv1, rfl, hw1⟩
  simp only at hw1
  have hp1 := hw1.block HE.out.sc (by decide) (by decide) HP0.out
  have hr1 := hw1.block HE.out.sc (by decide) (by decide) HR0.out
  have HW1 := Lib.hid (Went.start HB0.out hw1)
  clear hw1 H
  have HBa := Lib.hid (Fld.below_alloc w1 (.cells #[.int .i64 k1, .string t1] 36))
  have hr2 := (HBa.out.block _ (Array.getElem?_eq_some_iff.1 hr1).1).trans hr1
  have hp2 := (HBa.out.block _ (Array.getElem?_eq_some_iff.1 hp1).1).trans hp1
  by_cases hk : k1 = 0
  · subst hk
    obtain rfl : t1 = ⟨#[]⟩ := hz rfl
    clear hz
    have hnz : (f.len == 0) = false := by simp; omega
    have hL : unsetG t f.len ⟨L, S, 0, ⟨#[]⟩⟩ = ⟨[], S, 1, unsetT t (tx (joinS L))⟩ := by simp only [unsetG, hnz]; rfl
    have ec : (bif (0 : Int) == 0 then tx (joinS L) else tx []) = tx (joinS L) := rfl
    rw [ec]
    have hjs : (tx (joinS L)).size ≤ 65536 := by rw [Fld.tx_size]; exact hj
    clear ec hnz hj
    generalize tx (joinS L) = J at hjs hL ⊢
    have HL := Lib.hid hL
    clear hL
    have p2 : (w1.alloc (.cells #[.int .i64 0, .string ⟨#[]⟩] 36)).cell? ⟨w.heap.size, 2, none⟩ = some (.string t) := Lib.cell_of_heap hp2 2
    have q02 : (w1.alloc (.cells #[.int .i64 0, .string ⟨#[]⟩] 36)).cell? ⟨w.heap.size + 1, 0, none⟩ = some (.int .i64 0) := Lib.cell_of_heap hr2 0
    have q12 : (w1.alloc (.cells #[.int .i64 0, .string ⟨#[]⟩] 36)).cell? ⟨w.heap.size + 1, 1, none⟩ = some (.string ⟨#[]⟩) := Lib.cell_of_heap hr2 1
    have f02 : (w1.alloc (.cells #[.int .i64 0, .string ⟨#[]⟩] 36)).frozen? ⟨w.heap.size + 1, 0, none⟩ = false := frozen_of_row _ _ _ _ _ hr2
    have f12 : (w1.alloc (.cells #[.int .i64 0, .string ⟨#[]⟩] 36)).frozen? ⟨w.heap.size + 1, 1, none⟩ = false := frozen_of_row _ _ _ _ _ hr2
    have HR2 := Lib.hid hr2
    clear hr2 hp2 hr1 hp1
    go_wp2_with fail
    rw [HL.out]
    refine bodyPost_ret (results_cell_row rfl _ _ (w.heap.size + 1) _ _ _ _ rfl (put2 HR2.out _ _) Tryz.underlying36 rfl (by kernel_rfl)) rfl ⟨mv1, ?_, (HW1.out.more HBa.out).fault HR2.out (Nat.le_succ _) _ _⟩
    rw [unset_cat]
  · have HK := Lib.hid hk
    have hL : unsetG t f.len ⟨L, S, k1, t1⟩ = ⟨[], S, k1, t1⟩ := by
      have : (k1 == 0) = false := by simpa using hk
      simp only [unsetG, this, Bool.not_false, cond_true]
    have HL := Lib.hid hL
    clear hL
    have q02 : (w1.alloc (.cells #[.int .i64 k1, .string t1] 36)).cell? ⟨w.heap.size + 1, 0, none⟩ = some (.int .i64 0) := Lib.cell_of_heap hr2 0
    have q12 : (w1.alloc (.cells #[.int .i64 k1, .string t1] 36)).cell? ⟨w.heap.size + 1, 1, none⟩ = some (.string ⟨#[]⟩) := Lib.cell_of_heap hr2 1
    have f02 : (w1.alloc (.cells #[.int .i64 k1, .string t1] 36)).frozen? ⟨w.heap.size + 1, 0, none⟩ = false := frozen_of_row _ _ _ _ _ hr2
    have f12 : (w1.alloc (.cells #[.int .i64 k1, .string t1] 36)).frozen? ⟨w.heap.size + 1, 1, none⟩ = false := frozen_of_row _ _ _ _ _ hr2
    have HR2 := Lib.hid hr2
    clear hr2 hp2 hr1 hp1
    go_wp2_with fail
    rw [HL.out]
    exact bodyPost_ret (results_cell_row rfl _ _ (w.heap.size + 1) _ _ _ _ rfl (put2 HR2.out _ _) Tryz.underlying36 rfl (by kernel_rfl)) rfl ⟨mv1, rfl, (HW1.out.more HBa.out).fault HR2.out (Nat.le_succ _) _ _⟩
end Ex
end Go.Proofs.YtoneabcbeikkhaaGreatDoor
