/- What a call leaves of a scope that it may set; pieces of one text, of all arguments. -/
import Derived.Test.YtoneabcbeikkhaaGreatDoorExD
import Derived.Test.YtoneabcbeikkhaaGreatDoorFdG
import Derived.Test.YtoneabcbeikkhaaGreatDoorFdOa
import Derived.Test.YtoneabcbeikkhaaGreatDoorFdKa
import Derived.Test.YtoneabcbeikkhaaGreatDoorVrU
import Derived.Test.YtoneabcbeikkhaaGreatDoorVrWa
import Derived.Test.YtoneabcbeikkhaaGreatDoorPtK
import Derived.Test.YtoneabcbeikkhaaGreatDoorRfE
namespace Go.Proofs.YtoneabcbeikkhaaGreatDoor
open Go.RowKit Cls
namespace Ex
open Vr (St val Sc Kp Tab Fit RowAt MapAt)
open Fld (Pc bs tx joinS cutP joinP weight Pcs pcells)
open Pt (PL)
/-- A scope behind a call that may have set its variables. -/
structure Went (w w' : World) (B q : Nat) (s' : St) (mv mv' av : Value) : Prop where
  sc : Sc w' B q s' mv' av
  kp : Kp w w' q mv av
  fresh : mv' = mv ∨ ∀ j, mv' = .map (some j) → w.heap.size ≤ j
theorem Went.refl {w : World} {B q : Nat} {s : St} {mv av : Value} (h : Sc w B q s mv av) : Went w w B q s mv mv av := ⟨h, Kp.refl _ _ _ _, .inl rfl⟩
theorem Went.trans {w w1 w2 : World} {B q : Nat} {s1 s2 : St} {mv mv1 mv2 av : Value} (h : Went w w1 B q s1 mv mv1 av) (k : Went w1 w2 B q s2 mv1 mv2 av) : Went w w2 B q s2 mv mv2 av := by
  refine ⟨k.sc, h.kp.then k.kp h.fresh (.inl rfl), ?_⟩
  rcases k.fresh with e | e
  · rw [e]; exact h.fresh
  · exact .inr fun j hj => Nat.le_trans h.kp.size (e j hj)
theorem Went.more {w w1 w2 : World} {B q : Nat} {s1 : St} {mv mv1 av : Value} (h : Went w w1 B q s1 mv mv1 av) (hb : Below w1.heap.size w1 w2) : Went w w2 B q s1 mv mv1 av :=
  h.trans ⟨h.sc.stay hb, Kp.ofBelow hb _ _ _, .inl rfl⟩
theorem Went.start {w0 w w1 : World} {B q : Nat} {s1 : St} {mv mv1 av : Value} (hb : Below w0.heap.size w0 w) (h : Went w w1 B q s1 mv mv1 av) : Went w0 w1 B q s1 mv mv1 av := by
  refine ⟨h.sc, (Kp.ofBelow hb q mv av).then h.kp (.inl rfl) (.inl rfl), ?_⟩
  rcases h.fresh with e | e
  · exact .inl e
  · exact .inr fun j hj => Nat.le_trans hb.size (e j hj)
/-- Blocks of other types stay as they are. -/
theorem Went.block {w w' : World} {B q : Nat} {s s' : St} {mv mv' av : Value} (h : Went w w' B q s' mv mv' av) (hs : Sc w B q s mv av) {k : Nat} {cs : Array Value} {T : TypeId} (hT : T ≠ 9) (hT2 : T ≠ 58) (hk : w.heap[k]? = some (.cells cs T (0, 0))) : w'.heap[k]? = some (.cells cs T (0, 0)) :=
  h.kp.other hs.vars hs.args hT hk (fun e => by subst e; rw [hs.cells] at hk; injection hk with hk; injection hk with _ h2; exact hT2 h2.symm)
theorem Went.row {w w' : World} {B q : Nat} {s s' : St} {mv mv' av : Value} (h : Went w w' B q s' mv mv' av) (hs : Sc w B q s mv av) {base size n : Nat} {T : TypeId} (hT : T ≠ 9) (hT2 : T ≠ 58) {v : Value} {xs : List Value} (hr : w.ownsRow base T size v n xs) : w'.ownsRow base T size v n xs := by
  refine Fld.ownsRow_keep hr fun g hg => ?_
  rcases hr.2 with ⟨rfl, _⟩ | ⟨g', cap, cur, rfl, _, hgg, _⟩
  · cases hg
  · cases hg; rw [hgg]; exact h.block hs hT hT2 hgg
/-- All that it writes lies above a bound that the scope keeps. -/
theorem Went.below {w w' : World} {B q : Nat} {s s' : St} {mv mv' av : Value} (h : Went w w' B q s' mv mv' av) (hs : Sc w B q s mv av) (hB : B ≤ w.heap.size) : Below B w w' :=
  h.kp.below hB hs.base (fun j e => (hs.vars.own j e).1) (fun j e => (hs.args.own j e).1)
theorem Went.frame {w0 w w' : World} {B q : Nat} {s s' : St} {mv mv' av : Value} (h : Went w w' B q s' mv mv' av) (hs : Sc w B q s mv av) (hB : B ≤ w.heap.size) (h0 : Below w0.heap.size w0 w) (hw : w0.heap.size ≤ B) : Below w0.heap.size w0 w' :=
  h0.trans ((h.below hs hB).mono hw)
theorem set_eq (s : St) (n v : ByteArray) : Vr.setS s n v = setE s n v := rfl
/-- What came of a word, or a part: pieces, a fault, a scope. -/
def Ans (w : World) (B q : Nat) (mv av : Value) (g : Got) (e : Ending) (w' : World) : Prop :=
  ∃ mv' v, e = .returned (.tuple #[v, .agg #[.int .i64 g.k, .string g.t]]) ∧ w'.ownsRow w.heap.size 69 3 v g.L.length (pcells g.L) ∧ Went w w' B q g.S mv mv' av
theorem one_own (w : World) (t : ByteArray) (q c : Bool) : (w.alloc (.cells #[.string t, .bool q, .bool c] 69)).ownsRow w.heap.size 69 3 (.slice (some ⟨w.heap.size, 0, none⟩) 1 1) 1 (pcells [(t, q, c)]) :=
  World.ownsRow_lit w #[.string t, .bool q, .bool c] 1 (Nat.le_refl _) (by decide) rfl
set_option maxHeartbeats 800000 in
/-- One piece. -/
theorem piece_any (t : ByteArray) (q : Bool) (w : World) :
    Calls Tryz.prog 45 #[.string t, .bool q] w fun e w' => ∃ v, e = .returned v ∧ w'.ownsRow w.heap.size 69 3 v 1 (pcells [(t, q, false)]) ∧ Below w.heap.size w w' := by
  go_enter Tryz.func45, Tryz.ntmps45
  go_wp2_with fail
  go_ret
  exact ⟨_, rfl, one_own w t q false, Fld.below_alloc w _⟩
set_option maxHeartbeats 2000000 in
/-- All arguments, as pieces. -/
theorem arguments_any (xs : List ByteArray) (av : Value) (q : Bool) (w : World) (h : Fld.Txt w av xs) (hl : xs.length ≤ 1000000) :
    Calls Tryz.prog 93 #[av, .bool q] w fun e w' => ∃ v, e = .returned v ∧ w'.ownsRow w.heap.size 69 3 v (argsP q xs).length (pcells (argsP q xs)) ∧ Below w.heap.size w w' := by
  obtain ⟨a, cap, rfl, hcell⟩ := h.cell
  have HC := Lib.hid hcell
  clear hcell h
  go_enter Tryz.func93, Tryz.ntmps93
  go_wp2_with fail
  go_loopw [5, 10] (fun v x wr => ∃ k : Nat, k ≤ xs.length ∧ x = .int .i64 k ∧ wr.ownsRow w.heap.size 69 3 v (argsP q (xs.take k)).length (pcells (argsP q (xs.take k))) ∧ Below w.heap.size w wr) (fun _ x _ => xs.length - (intOf x).toNat)
  case atStart => exact ⟨0, Nat.zero_le _, rfl, World.ownsRow_nil _ _ _ _, Below.refl _ _⟩
  case round =>
    obtain ⟨k, hk, rfl, hown, hbw⟩ := hrel
    have HB := Lib.hid hbw; have HO := Lib.hid hown
    have hws := hbw.size
    clear hbw hown
    by_cases hlt : k < xs.length
    · have hx : xs[k]? = some (xs[k]'hlt) := List.getElem?_eq_getElem hlt
      obtain ⟨b, off, rfl, hb, hc⟩ := HC.out k _ hx
      have hq := (HB.out.cell (p := ⟨b, off + k, none⟩) hb).trans hc
      clear hc hx
      have hs := argsP_snoc q (xs.take k) (xs[k]'hlt)
      rw [← List.take_succ_eq_append_getElem hlt] at hs
      have hle : (argsP q (xs.take k)).length ≤ 2 * k := Nat.le_trans (argsP_len _ _) (by rw [List.length_take]; omega)
      have HS := Lib.hid hs; have HLE := Lib.hid hle
      clear hs hle
      generalize xs[k]'hlt = y at hq HS
      by_cases h0 : k = 0
      · subst h0
        simp only [Nat.add_zero] at hq
        have hL0 : argsP q (xs.take 0) = [] := rfl
        go_wp2_with (at_builtin; refine Fld.wpList_append_pcs rfl _ _ rfl w.heap.size _ _ _ rfl (HO.out.alloc _) (some ⟨wr.heap.size, 0, none⟩) 1 [(y, q, false)] rfl (Fld.one_piece wr y q false) (fun h => by cases h) ?c1 ?c2 ?c3 ?_)
        case c1 => exact (by decide : 0 + 1 ≤ maxLen)
        case c2 => exact (by decide : (0 + 1) * 24 ≤ 140737488355328)
        case c3 => simp [World.size_alloc]; omega
        intro v2 w2 hown2 hg2
        have HO2 := Lib.hid hown2
        have HB2 := Lib.hid (Fld.grown_below (HB.out.alloc hws (.cells #[.string y, .bool q, .bool false] 69)) (HO.out.alloc _) (Nat.le_refl _) hg2)
        clear hown2 hg2
        go_wp2_with fail
        go_roundw
        case rel => exact ⟨1, by omega, by go_num, by rw [show List.take 1 xs = List.take (0 + 1) xs from rfl, HS.out]; exact HO2.out, HB2.out⟩
        case measure => simp [intOf]; omega
      · have hpos : 0 < k := by omega
        have he : (xs.take k).isEmpty = false := by
          cases hh : xs.take k with
          | nil => exfalso; have := congrArg List.length hh; rw [List.length_take, List.length_nil] at this; omega
          | cons x r => rfl
        have HE := Lib.hid he
        clear he
        go_wp2_with (at_builtin; refine Fld.wpList_append_pcs rfl _ _ rfl w.heap.size _ _ _ rfl (HO.out.alloc _) (some ⟨wr.heap.size, 0, none⟩) 1 [cutP] rfl (Fld.one_piece wr (tx []) false true) (fun h => by cases h) ?d1 ?d2 ?d3 ?_)
        case d1 => have := HLE.out; simp only [List.length_cons, List.length_nil, maxLen]; omega
        case d2 => have := HLE.out; simp only [List.length_cons, List.length_nil]; omega
        case d3 => simp [World.size_alloc]; omega
        intro v2 w2 hown2 hg2
        have HO2 := Lib.hid hown2
        have HB2 := Lib.hid (Fld.grown_below (HB.out.alloc hws (.cells #[.string (tx []), .bool false, .bool true] 69)) (HO.out.alloc _) (Nat.le_refl _) hg2)
        have hw2 := HB2.out.size
        clear hown2 hg2
        go_wp2_with (at_builtin; refine Fld.wpList_append_pcs rfl _ _ rfl w.heap.size _ _ _ rfl (HO2.out.alloc _) (some ⟨w2.heap.size, 0, none⟩) 1 [(y, q, false)] rfl (Fld.one_piece w2 y q false) (fun h => by cases h) ?f1 ?f2 ?f3 ?_)
        case f1 => have := HLE.out; simp only [List.length_cons, List.length_nil, maxLen]; omega
        case f2 => have := HLE.out; simp only [List.length_cons, List.length_nil]; omega
        case f3 => simp [World.size_alloc]; omega
        intro v3 w3 hown3 hg3
        have HO3 := Lib.hid hown3
        have HB3 := Lib.hid (Fld.grown_below (HB2.out.alloc hw2 (.cells #[.string y, .bool q, .bool false] 69)) (HO2.out.alloc _) (Nat.le_refl _) hg3)
        clear hown3 hg3
        go_wp2_with fail
        go_roundw
        case rel => exact ⟨k + 1, by omega, by go_num, by
          rw [HS.out, HE.out, cond_false, List.length_append, Fld.pcells_app]
          exact HO3.out, HB3.out⟩
        case measure => simp [intOf]; omega
    · obtain rfl : k = xs.length := by omega
      go_wp2_with fail
      go_ret
      have := HO.out
      rw [List.take_length] at this
      exact ⟨_, rfl, this, HB.out⟩
theorem param42 : paramL [42] = true := by decide
theorem name42 : nameL [42] = false := by decide
set_option maxHeartbeats 2000000 in
/-- A parameter's own value. -/
theorem value_any (s : St) (B q : Nat) (k : Int) (qq : Bool) (t o : ByteArray) (a : Option Addr) (n c : Nat) (w : World) (mv av : Value) (hsc : Sc w B q s mv av) (ht : Tab w) (hf : Fit s) (hn : t.size ≤ maxLen) :
    Calls Tryz.prog 73 #[.pointer (some ⟨q, 0, none⟩), Pt.pv k qq t o a n c] w fun e w' => ∃ v, e = .returned v ∧ w'.ownsRow w.heap.size 69 3 v (ownG s qq t).L.length (pcells (ownG s qq t).L) ∧ Below w.heap.size w w' := by
  unfold Pt.pv
  have hb1 := Fld.below_alloc w (.cells #[.int .i64 k, .bool qq, .string t, .string o, .slice a n c] 52)
  have hrow := heap_alloc_new w (.cells #[.int .i64 k, .bool qq, .string t, .string o, .slice a n c] 52)
  have HB1 := Lib.hid hb1; have HROW := Lib.hid hrow; have HSC := Lib.hid hsc; have HT := Lib.hid ht; have HF := Lib.hid hf
  clear hb1 hrow hsc ht hf
  have hfin : Fit s := HF.out
  by_cases h64 : bs t = [64]
  · have e1 : (t.toList == [64]) = true := by rw [Vr.tests]; exact beq_iff_eq.2 h64
    have hown : (ownG s qq t).L = argsP qq s.args := by
      have hb : (bs t == [64]) = true := by rw [h64]; rfl
      have : emptyP (valuesP s qq t) (qq && !(bs t == [64])) = valuesP s qq t := by rw [hb]; simp [emptyP]
      show emptyP _ _ = _
      rw [this]
      obtain rfl : t = tx [64] := Fld.bs_inj h64
      cases qq
      · unfold valuesP; rw [val_at]; by_cases h : s.args = []
        · rw [if_pos h, h]; rfl
        · rw [if_neg h]; rfl
      · rw [values_at, args_qP]
    rw [hown]
    have HOWN := Lib.hid hown
    clear hown h64
    go_enter Tryz.func73, Tryz.ntmps73
    go_wp2_with fail
    refine RN.begins (fun w' => w'.heap[w.heap.size]? = some (.cells #[.int .i64 k, .bool qq, .string t, .string o, .slice a n c] 52 (0, 0))) [] (by kernel_rfl) ?_
    have hS : (w.alloc (.cells #[.int .i64 k, .bool qq, .string t, .string o, .slice a n c] 52)).drew.heap[w.heap.size]? = some (.cells #[.int .i64 k, .bool qq, .string t, .string o, .slice a n c] 52 (0, 0)) := HROW.out
    refine RN.take (i := 0) (v := ?_) rfl (by decide) (by kernel_rfl) (by kernel_rfl) (by kernel_rfl) (by kernel_rfl) (by kernel_rfl) (by first | exact fun _ _ _ h => h | exact fun _ _ _ h => (by cases h.1) | exact fun _ _ _ h => door_put (by decide) h) (.inl ⟨by rfl, ?_⟩) hS ?_
    rotate_left 1
    · (intro wq hq; have s1 : wq.cell? ⟨w.heap.size, 1, none⟩ = some (.bool qq) := Lib.cell_of_heap hq 1; go_simp; try with_reducible rfl)
    refine RN.take (i := 2) (v := ?_) rfl (by decide) (by kernel_rfl) (by kernel_rfl) (by kernel_rfl) (by kernel_rfl) (by kernel_rfl) (by first | exact fun _ _ _ h => h | exact fun _ _ _ h => (by cases h.1) | exact fun _ _ _ h => door_put (by decide) h) (.inl ⟨by rfl, ?_⟩) hS ?_
    rotate_left 1
    · (intro wq hq; have s1 : wq.cell? ⟨w.heap.size, 1, none⟩ = some (.bool qq) := Lib.cell_of_heap hq 1; go_simp; try with_reducible rfl)
    refine RN.take (i := 3) (v := ?_) rfl (by decide) (by kernel_rfl) (by kernel_rfl) (by kernel_rfl) (by kernel_rfl) (by kernel_rfl) (by first | exact fun _ _ _ h => h | exact fun _ _ _ h => (by cases h.1) | exact fun _ _ _ h => door_put (by decide) h) (.inl ⟨by rfl, ?_⟩) hS ?_
    rotate_left 1
    · (intro wq hq; have s1 : wq.cell? ⟨w.heap.size, 1, none⟩ = some (.bool qq) := Lib.cell_of_heap hq 1; go_simp; try with_reducible rfl)
    refine RN.all (rs := [1]) (by kernel_rfl) (by simp) ?_
    refine RN.All.cons rfl (fun K hK => ?_) RN.All.nil
    go_simp
    have HBD := Lib.hid (Fld.drewn HB1.out)
    refine (Vr.args_any s B q (w.alloc (.cells #[.int .i64 k, .bool qq, .string t, .string o, .slice a n c] 52)).drew mv av (HSC.out.stay HBD.out) hfin.nargs).mono ?_
    rintro e w1 ⟨a1, n1, c1, rfl, hr1, hb1⟩
    have hlt : w.heap.size < (w.alloc (.cells #[.int .i64 k, .bool qq, .string t, .string o, .slice a n c] 52)).drew.heap.size := by simp [World.drew, World.size_alloc]
    have hS1 : w1.heap[w.heap.size]? = some (.cells #[.int .i64 k, .bool qq, .string t, .string o, .slice a n c] 52 (0, 0)) := (hb1.block _ hlt).trans HROW.out
    have HB2 := Lib.hid (HBD.out.trans (hb1.mono HBD.out.size))
    have HR1 := Lib.hid hr1
    clear hb1 hr1
    refine hK _ _ (fun _ => hS1) ?_
    clear hK K hS
    refine RN.all (rs := [4]) (by kernel_rfl) (by simp) ?_
    refine RN.All.cons rfl (fun K hK => ?_) RN.All.nil
    go_simp
    refine (arguments_any s.args _ qq w1 HR1.out.txt hfin.nargs).mono ?_
    rintro e w2 ⟨v2, rfl, ho2, hb2⟩
    have hS2 : w2.heap[w.heap.size]? = some (.cells #[.int .i64 k, .bool qq, .string t, .string o, .slice a n c] 52 (0, 0)) := (hb2.block _ (Array.getElem?_eq_some_iff.1 hS1).1).trans hS1
    have HO2 := Lib.hid ho2
    have HB3 := Lib.hid (HB2.out.trans (hb2.mono HB2.out.size))
    clear ho2 hb2
    refine hK _ _ (fun _ => hS2) ?_
    clear hK K
    refine RN.all (rs := [5]) (by kernel_rfl) (by simp) ?_
    refine RN.All.cons rfl (fun K hK => ?_) RN.All.nil
    go_simp
    refine hK _ _ (fun _ => hS2) ?_
    clear hK K
    refine RN.done (by kernel_rfl) ?_ _
    go_wp2_with fail
    go_ret
    exact ⟨_, rfl, Joins.ownsRow_le HO2.out HB2.out.size, HB3.out⟩
  · have e1 : (t.toList == [64]) = false := by rw [Vr.tests]; exact beq_eq_false_iff_ne.2 h64
    have hb64 : (bs t == [64]) = false := beq_eq_false_iff_ne.2 h64
    by_cases h42 : bs t = [42] ∧ qq = false
    · obtain ⟨h42, rfl⟩ := h42
      have e2 : (t.toList == [42]) = true := by rw [Vr.tests]; exact beq_iff_eq.2 h42
      have hown : (ownG s false t).L = argsP false s.args := by
        show emptyP _ _ = _
        unfold emptyP
        simp only [Bool.false_and, Bool.and_false, cond_false]
        unfold valuesP
        have hv : val s t = if s.args = [] then none else some (Vr.tx (Lib.join (s.args.map bs) [32])) := by
          obtain rfl : t = tx [42] := Fld.bs_inj h42
          unfold val
          rw [show Vr.bs (tx [42]) = [42] from rfl, if_neg (by rw [name42]; simp), if_neg (by rw [param42]; simp), if_neg (by decide), if_neg (by decide), if_neg (by decide), if_neg (by decide), if_neg (by decide), if_pos (.inr rfl)]
        rw [hv]
        have ha : apart t false = true := by simp [apart, h42]
        by_cases h : s.args = []
        · rw [if_pos h, h]; rfl
        · rw [if_neg h]; simp only [ha, cond_true]
      rw [hown]
      have HOWN := Lib.hid hown
      clear hown h42 h64 hb64
      go_enter Tryz.func73, Tryz.ntmps73
      go_wp2_with fail
      refine RN.begins (fun w' => w'.heap[w.heap.size]? = some (.cells #[.int .i64 k, .bool false, .string t, .string o, .slice a n c] 52 (0, 0))) [] (by kernel_rfl) ?_
      have hS : (w.alloc (.cells #[.int .i64 k, .bool false, .string t, .string o, .slice a n c] 52)).drew.heap[w.heap.size]? = some (.cells #[.int .i64 k, .bool false, .string t, .string o, .slice a n c] 52 (0, 0)) := HROW.out
      refine RN.take (i := 0) (v := ?_) rfl (by decide) (by kernel_rfl) (by kernel_rfl) (by kernel_rfl) (by kernel_rfl) (by kernel_rfl) (by first | exact fun _ _ _ h => h | exact fun _ _ _ h => (by cases h.1) | exact fun _ _ _ h => door_put (by decide) h) (.inl ⟨by rfl, ?_⟩) hS ?_
      rotate_left 1
      · (intro wq hq; have s1 : wq.cell? ⟨w.heap.size, 1, none⟩ = some (.bool false) := Lib.cell_of_heap hq 1; go_simp; try with_reducible rfl)
      refine RN.take (i := 2) (v := ?_) rfl (by decide) (by kernel_rfl) (by kernel_rfl) (by kernel_rfl) (by kernel_rfl) (by kernel_rfl) (by first | exact fun _ _ _ h => h | exact fun _ _ _ h => (by cases h.1) | exact fun _ _ _ h => door_put (by decide) h) (.inl ⟨by rfl, ?_⟩) hS ?_
      rotate_left 1
      · (intro wq hq; have s1 : wq.cell? ⟨w.heap.size, 1, none⟩ = some (.bool false) := Lib.cell_of_heap hq 1; go_simp; try with_reducible rfl)
      refine RN.take (i := 3) (v := ?_) rfl (by decide) (by kernel_rfl) (by kernel_rfl) (by kernel_rfl) (by kernel_rfl) (by kernel_rfl) (by first | exact fun _ _ _ h => h | exact fun _ _ _ h => (by cases h.1) | exact fun _ _ _ h => door_put (by decide) h) (.inl ⟨by rfl, ?_⟩) hS ?_
      rotate_left 1
      · (intro wq hq; have s1 : wq.cell? ⟨w.heap.size, 1, none⟩ = some (.bool false) := Lib.cell_of_heap hq 1; go_simp; try with_reducible rfl)
      refine RN.all (rs := [1]) (by kernel_rfl) (by simp) ?_
      refine RN.All.cons rfl (fun K hK => ?_) RN.All.nil
      go_simp
      have HBD := Lib.hid (Fld.drewn HB1.out)
      refine (Vr.args_any s B q (w.alloc (.cells #[.int .i64 k, .bool false, .string t, .string o, .slice a n c] 52)).drew mv av (HSC.out.stay HBD.out) hfin.nargs).mono ?_
      rintro e w1 ⟨a1, n1, c1, rfl, hr1, hb1⟩
      have hlt : w.heap.size < (w.alloc (.cells #[.int .i64 k, .bool false, .string t, .string o, .slice a n c] 52)).drew.heap.size := by simp [World.drew, World.size_alloc]
      have hS1 : w1.heap[w.heap.size]? = some (.cells #[.int .i64 k, .bool false, .string t, .string o, .slice a n c] 52 (0, 0)) := (hb1.block _ hlt).trans HROW.out
      have HB2 := Lib.hid (HBD.out.trans (hb1.mono HBD.out.size))
      have HR1 := Lib.hid hr1
      clear hb1 hr1
      refine hK _ _ (fun _ => hS1) ?_
      clear hK K hS
      refine RN.all (rs := [4]) (by kernel_rfl) (by simp) ?_
      refine RN.All.cons rfl (fun K hK => ?_) RN.All.nil
      go_simp
      refine (arguments_any s.args _ false w1 HR1.out.txt hfin.nargs).mono ?_
      rintro e w2 ⟨v2, rfl, ho2, hb2⟩
      have hS2 : w2.heap[w.heap.size]? = some (.cells #[.int .i64 k, .bool false, .string t, .string o, .slice a n c] 52 (0, 0)) := (hb2.block _ (Array.getElem?_eq_some_iff.1 hS1).1).trans hS1
      have HO2 := Lib.hid ho2
      have HB3 := Lib.hid (HB2.out.trans (hb2.mono HB2.out.size))
      clear ho2 hb2
      refine hK _ _ (fun _ => hS2) ?_
      clear hK K
      refine RN.all (rs := [5]) (by kernel_rfl) (by simp) ?_
      refine RN.All.cons rfl (fun K hK => ?_) RN.All.nil
      go_simp
      refine hK _ _ (fun _ => hS2) ?_
      clear hK K
      refine RN.done (by kernel_rfl) ?_ _
      go_wp2_with fail
      go_ret
      exact ⟨_, rfl, Joins.ownsRow_le HO2.out HB2.out.size, HB3.out⟩
    · have hap : apart t qq = false := by
        cases qq
        · have : bs t ≠ [42] := fun e => h42 ⟨e, rfl⟩
          simp [apart, hb64, this]
        · simp [apart, hb64]
      have hv := Vr.get_any s B q t (w.alloc (.cells #[.int .i64 k, .bool qq, .string t, .string o, .slice a n c] 52)) mv av (HSC.out.stay HB1.out) (HT.out.stay HB1.out) HF.out hn
      have e2 : (!qq && (t.toList == [42])) = false := by
        rw [Vr.tests]
        cases qq
        · rw [beq_eq_false_iff_ne.2 fun e => h42 ⟨e, rfl⟩]; rfl
        · rfl
      have HV := Lib.hid hv
      have hown : (ownG s qq t).L = emptyP (match val s t with | none => [] | some v => [(v, qq, false)]) qq := by
        show emptyP (valuesP s qq t) _ = _
        rw [hb64, Bool.not_false, Bool.and_true]
        unfold valuesP
        cases val s t with
        | none => rfl
        | some v => simp only [hap, cond_false]
      rw [hown]
      clear hown hap hv h42 h64 hb64
      cases hvv : val s t with
      | none =>
        rw [hvv] at HV
        cases qq
        · have e3 : (t.toList == [42]) = false := e2
          clear e2
          go_enter Tryz.func73, Tryz.ntmps73
          go_wp2_with fail
          refine HV.out.mono ?_
          rintro e w1 ⟨rfl, hb1⟩
          have hlt : w.heap.size < (w.alloc (.cells #[.int .i64 k, .bool false, .string t, .string o, .slice a n c] 52)).heap.size := by simp [World.size_alloc]
          have hS1 : w1.heap[w.heap.size]? = some (.cells #[.int .i64 k, .bool false, .string t, .string o, .slice a n c] 52 (0, 0)) := (hb1.block _ hlt).trans HROW.out
          have q1 : w1.cell? ⟨w.heap.size, 1, none⟩ = some (.bool false) := Lib.cell_of_heap hS1 1
          have HB2 := Lib.hid (HB1.out.trans (hb1.mono HB1.out.size))
          clear hb1 hS1
          go_wp2_with fail
          go_ret
          exact ⟨_, rfl, World.ownsRow_nil _ _ _ _, HB2.out⟩
        · clear e2
          go_enter Tryz.func73, Tryz.ntmps73
          go_wp2_with fail
          all_goals
            refine HV.out.mono ?_
            rintro e w1 ⟨rfl, hb1⟩
            have hlt : w.heap.size < (w.alloc (.cells #[.int .i64 k, .bool true, .string t, .string o, .slice a n c] 52)).heap.size := by simp [World.size_alloc]
            have hS1 : w1.heap[w.heap.size]? = some (.cells #[.int .i64 k, .bool true, .string t, .string o, .slice a n c] 52 (0, 0)) := (hb1.block _ hlt).trans HROW.out
            have q1 : w1.cell? ⟨w.heap.size, 1, none⟩ = some (.bool true) := Lib.cell_of_heap hS1 1
            have HB2 := Lib.hid (HB1.out.trans (hb1.mono HB1.out.size))
            clear hb1 hS1
            go_wp2_with (go_at_call 45; refine (piece_any _ true _).mono ?_; rintro e w3 ⟨v3, rfl, ho3, hb3⟩)
            go_ret
            exact ⟨_, rfl, Joins.ownsRow_le ho3 HB2.out.size, HB2.out.trans (hb3.mono HB2.out.size)⟩
      | some u =>
        rw [hvv] at HV
        cases qq
        · have e3 : (t.toList == [42]) = false := e2
          clear e2
          go_enter Tryz.func73, Tryz.ntmps73
          go_wp2_with fail
          refine HV.out.mono ?_
          rintro e w1 ⟨rfl, hb1⟩
          have hlt : w.heap.size < (w.alloc (.cells #[.int .i64 k, .bool false, .string t, .string o, .slice a n c] 52)).heap.size := by simp [World.size_alloc]
          have hS1 : w1.heap[w.heap.size]? = some (.cells #[.int .i64 k, .bool false, .string t, .string o, .slice a n c] 52 (0, 0)) := (hb1.block _ hlt).trans HROW.out
          have q1 : w1.cell? ⟨w.heap.size, 1, none⟩ = some (.bool false) := Lib.cell_of_heap hS1 1
          have HB2 := Lib.hid (HB1.out.trans (hb1.mono HB1.out.size))
          clear hb1 hS1
          go_wp2_with (go_at_call 45; refine (piece_any _ false _).mono ?_; rintro e w3 ⟨v3, rfl, ho3, hb3⟩)
          go_ret
          exact ⟨_, rfl, Joins.ownsRow_le ho3 HB2.out.size, HB2.out.trans (hb3.mono HB2.out.size)⟩
        · clear e2
          go_enter Tryz.func73, Tryz.ntmps73
          go_wp2_with fail
          all_goals
            refine HV.out.mono ?_
            rintro e w1 ⟨rfl, hb1⟩
            have hlt : w.heap.size < (w.alloc (.cells #[.int .i64 k, .bool true, .string t, .string o, .slice a n c] 52)).heap.size := by simp [World.size_alloc]
            have hS1 : w1.heap[w.heap.size]? = some (.cells #[.int .i64 k, .bool true, .string t, .string o, .slice a n c] 52 (0, 0)) := (hb1.block _ hlt).trans HROW.out
            have q1 : w1.cell? ⟨w.heap.size, 1, none⟩ = some (.bool true) := Lib.cell_of_heap hS1 1
            have HB2 := Lib.hid (HB1.out.trans (hb1.mono HB1.out.size))
            clear hb1 hS1
            go_wp2_with (go_at_call 45; refine (piece_any _ true _).mono ?_; rintro e w3 ⟨v3, rfl, ho3, hb3⟩)
            go_ret
            exact ⟨_, rfl, Joins.ownsRow_le ho3 HB2.out.size, HB2.out.trans (hb3.mono HB2.out.size)⟩
end Ex
end Go.Proofs.YtoneabcbeikkhaaGreatDoor
