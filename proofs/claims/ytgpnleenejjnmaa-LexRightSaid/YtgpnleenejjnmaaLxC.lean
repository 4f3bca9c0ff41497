/- (*lex.parts).end. -/
import Derived.Test.YtgpnleenejjnmaaLxB
import Derived.Test.YtgpnleenejjnmaaReg
import Derived.Laws.BytesString
import Derived.Deep.RegionHeld3
import Derived.Deep.AppendLies
import Derived.Deep.DrawnRows
import Derived.Laws.Pointers
namespace Go.Proofs.Ytgpnleenejjnmaa
open Go.RowKit Go.Sort
namespace Lx
open Cls Pt
attribute [local go_sem ↓] Go.wp_at_zero Go.wp_at_succ

theorem push_all : ∀ (l : List UInt8) (s : ByteArray), (l.map fun b => ((b.toNat : Nat) : Int)).foldl (fun r n => r.push (UInt8.ofNat n.toNat)) s = ⟨s.data ++ l.toArray⟩
  | [], s => by simp
  | c :: l, s => by
    simp only [List.map_cons, List.foldl_cons]
    rw [push_all l]
    simp [ByteArray.push]
set_option maxRecDepth 100000 in
/-- A slice of the call's own, turned to a text. -/
theorem conv_own {w : World} {B : Nat} {l : List UInt8} {v : Value} (h : w.ownsRow B 5 1 v l.length (Lib.byteCells l)) :
    (convert 108 9 v).run Try.prog w = .ok (.string ⟨l.toArray⟩) w := by
  rcases h.2 with ⟨rfl, hz⟩ | ⟨g, cap, cur, rfl, _⟩
  · have : l = [] := List.length_eq_zero_iff.1 hz
    subst this
    rfl
  · rw [run_convert_bytes_string w _ _ 5 _ _ _ Try.underlying108 Try.underlying5 Try.underlying9]
    have hb := run_bytesToString (P := Try.prog) w ⟨g, 0, none⟩ l.length cap (l.map fun b => ((b.toNat : Nat) : Int)) (by
      have := run_loadCells_list (P := Try.prog) (w := w) ⟨g, 0, none⟩ (Lib.byteCells l) (fun j x hj => by
        have := h.cells (g := g) rfl j x hj
        simpa [Addr.add] using this)
      rw [Lib.byteCells_length] at this
      rw [this]
      simp [Lib.byteCells, List.map_map, Function.comp_def])
    rw [hb, push_all]
    simp

theorem infoPart : (Try.prog.info? 53).map (fun i => (i.zero, i.size, i.bytes)) = some (some (.agg #[.int .i64 0, .bool false, .string ⟨#[]⟩, .string ⟨#[]⟩, .slice none 0 0]), 5, 72) := by kernel_rfl

theorem keep_off {w : World} {p i j : Nat} {u v : Value} (hij : i ≠ j) (h : w.cell? ⟨p, j, none⟩ = some u) : (w.setCell ⟨p, i, none⟩ v).cell? ⟨p, j, none⟩ = some u :=
  (World.cell?_setCell_other _ _ _ _ (by simp [hij])).trans h
theorem keep_offd {w : World} {p i j : Nat} {u v : Value} (hij : i ≠ j) (h : w.cell? ⟨p, j, none⟩ = some u) : (w.setCell ⟨p, i, none⟩ v).drew.cell? ⟨p, j, none⟩ = some u := keep_off hij h
/-- What end leaves. -/
def Ended (B : Nat) (S : Nat → Prop) (p : Nat) (a : A) (w : World) (e : Ending) (w' : World) : Prop :=
  e = .returned (.tuple #[]) ∧ AccAt w' B S p ⟨a.flush, none⟩ ∧ Fr B S w w'

/-- The text has ended: what was written into the parts' own cells. -/
theorem ended_mk {w : World} {B p : Nat} {S : Nat → Prop} {vl : Value} {l : PL} {a : Option Addr} {cap : Nat} {v1 v2 : Value} {q : Bool} (hp : w.heap[p]? = some (.cells #[vl, v1, v2, .bool q] 110 (0, 0))) (hB : B ≤ p) (hS : ¬ S p)
    (hb : Body w B S vl (.slice a 0 cap) l []) : AccAt ((w.setCell ⟨p, 2, none⟩ (.bool false)).setCell ⟨p, 1, none⟩ (.slice a 0 cap)) B S p ⟨l, none⟩ ∧ Fr B S w ((w.setCell ⟨p, 2, none⟩ (.bool false)).setCell ⟨p, 1, none⟩ (.slice a 0 cap)) := by
  have g1 := heap_setCell_same _ _ 2 _ _ (.bool false) hp
  have g2 := heap_setCell_same _ _ 1 _ _ (.slice a 0 cap) g1
  refine ⟨⟨vl, .slice a 0 cap, q, g2, hB, hS, (fun x h => by cases h), (hb.setP hp hS _ _).setP g1 hS _ _⟩, ((Fr.refl B S w).setCell hB hS _).setCell hB hS _⟩
theorem AccAt.heap {w w' : World} {B p : Nat} {S : Nat → Prop} {a : A} (h : AccAt w B S p a) (hh : w'.heap = w.heap) : AccAt w' B S p a := by
  obtain ⟨vl, vb, q, hp, hB, hS, hq, hb⟩ := h
  exact ⟨vl, vb, q, by rw [hh]; exact hp, hB, hS, hq, hb.heap hh⟩

/-- The new element's five cells are written. -/
theorem fill5 {u : World} {B g n cap : Nat} {xs : List Value} {z0 z1 z2 z3 z4 : Value} (h : u.ownsRow B 53 5 (.slice (some ⟨g, 0, none⟩) (n + 1) cap) (n + 1) (xs ++ [z0, z1, z2, z3, z4])) (v0 v1 v2 v3 v4 : Value) :
    (((((u.setCell ⟨g, n * 5, none⟩ v0).setCell ⟨g, n * 5 + 1, none⟩ v1).setCell ⟨g, n * 5 + 2, none⟩ v2).setCell ⟨g, n * 5 + 3, none⟩ v3).setCell ⟨g, n * 5 + 4, none⟩ v4).ownsRow B 53 5 (.slice (some ⟨g, 0, none⟩) (n + 1) cap) (n + 1) (xs ++ [v0, v1, v2, v3, v4]) ∧
    (∀ b, b ≠ g → (((((u.setCell ⟨g, n * 5, none⟩ v0).setCell ⟨g, n * 5 + 1, none⟩ v1).setCell ⟨g, n * 5 + 2, none⟩ v2).setCell ⟨g, n * 5 + 3, none⟩ v3).setCell ⟨g, n * 5 + 4, none⟩ v4).heap[b]? = u.heap[b]?) ∧
    (((((u.setCell ⟨g, n * 5, none⟩ v0).setCell ⟨g, n * 5 + 1, none⟩ v1).setCell ⟨g, n * 5 + 2, none⟩ v2).setCell ⟨g, n * 5 + 3, none⟩ v3).setCell ⟨g, n * 5 + 4, none⟩ v4).heap.size = u.heap.size := by
  have hl := h.1
  simp only [List.length_append, List.length_cons, List.length_nil] at hl
  have hx : xs.length = n * 5 := by omega
  have h1 := (h.stored (n * 5) v0).1
  have h2 := (h1.stored (n * 5 + 1) v1).1
  have h3 := (h2.stored (n * 5 + 2) v2).1
  have h4 := (h3.stored (n * 5 + 3) v3).1
  have h5 := (h4.stored (n * 5 + 4) v4).1
  refine ⟨?_, fun b hb => ?_, by simp⟩
  · have e : (((((xs ++ [z0, z1, z2, z3, z4]).set (n * 5) v0).set (n * 5 + 1) v1).set (n * 5 + 2) v2).set (n * 5 + 3) v3).set (n * 5 + 4) v4 = xs ++ [v0, v1, v2, v3, v4] := by
      simp [List.set_append, hx]
    rwa [e] at h5
  · rw [heap_setCell_other _ _ _ _ hb, heap_setCell_other _ _ _ _ hb, heap_setCell_other _ _ _ _ hb, heap_setCell_other _ _ _ _ hb, heap_setCell_other _ _ _ _ hb]
/-- What the cells of the new element were. -/
theorem new5 {u : World} {B g n cap : Nat} {xs : List Value} {z0 z1 z2 z3 z4 : Value} (h : u.ownsRow B 53 5 (.slice (some ⟨g, 0, none⟩) (n + 1) cap) (n + 1) (xs ++ [z0, z1, z2, z3, z4])) :
    u.cell? ⟨g, n * 5, none⟩ = some z0 ∧ u.cell? ⟨g, n * 5 + 1, none⟩ = some z1 ∧ u.cell? ⟨g, n * 5 + 2, none⟩ = some z2 ∧ u.cell? ⟨g, n * 5 + 3, none⟩ = some z3 ∧ u.cell? ⟨g, n * 5 + 4, none⟩ = some z4 := by
  have hl := h.1
  simp only [List.length_append, List.length_cons, List.length_nil] at hl
  have hx : xs.length = n * 5 := by omega
  refine ⟨?_, ?_, ?_, ?_, ?_⟩ <;> rw [h.cellAt _ (by omega)] <;> simp [List.getElem?_append, hx]
theorem lit_cells (S : Nat → Prop) (w : World) (q : Bool) (bs : List UInt8) (h : bs.length ≤ 100000000) : CellsS S w (A.lit q bs) [.int .i64 1, .bool q, .string ⟨bs.toArray⟩, .string ⟨#[]⟩, .slice none 0 0] :=
  ⟨none, 0, [], rfl, (by show (List.toArray _).size ≤ _; rw [List.size_toArray]; unfold R; omega), (by decide), (fun _ _ _ => ⟨Nat.le_refl _, Nat.zero_le _, .inl rfl⟩), rfl⟩
/-- The list with one part more, in whichever order the two stores came. -/
theorem grown_mk {w w1 : World} {B p g n cap : Nat} {S : Nat → Prop} {vl vb : Value} {l : PL} {bs : List UInt8} {xs : List Value} {z0 z1 z2 z3 z4 v0 v1 v2 v3 v4 b q : Value} {pt : PL} {Z : Obj}
    (hp : w.heap[p]? = some (.cells #[vl, vb, b, q] 110 (0, 0))) (hB : B ≤ p) (hS : ¬ S p) (hSl : ∀ x, S x → x < w.heap.size) (hbd : Body w B S vl vb l bs) (hn : l.len = n) (hpt : pt.len = 1)
    (hxs : CellsS S w l xs) (hvs : CellsS S w pt [v0, v1, v2, v3, v4])
    (hg : (w.alloc Z).drew.grownBy w1 vl.ownBlock) (hat : vl.ownBlock = some g ∨ g = w.heap.size + 1) (h1 : w1.ownsRow B 53 5 (.slice (some ⟨g, 0, none⟩) (n + 1) cap) (n + 1) (xs ++ [z0, z1, z2, z3, z4])) :
    w1.heap[p]? = some (.cells #[vl, vb, b, q] 110 (0, 0)) ∧ g ≠ p ∧
    (∀ W, (W = (((((w1.setCell ⟨g, n * 5, none⟩ v0).setCell ⟨g, n * 5 + 1, none⟩ v1).setCell ⟨g, n * 5 + 2, none⟩ v2).setCell ⟨g, n * 5 + 3, none⟩ v3).setCell ⟨g, n * 5 + 4, none⟩ v4).setCell ⟨p, 0, none⟩ (.slice (some ⟨g, 0, none⟩) (n + 1) cap) ∨
      W = (((((w1.setCell ⟨p, 0, none⟩ (.slice (some ⟨g, 0, none⟩) (n + 1) cap)).setCell ⟨g, n * 5, none⟩ v0).setCell ⟨g, n * 5 + 1, none⟩ v1).setCell ⟨g, n * 5 + 2, none⟩ v2).setCell ⟨g, n * 5 + 3, none⟩ v3).setCell ⟨g, n * 5 + 4, none⟩ v4) →
      W.heap[p]? = some (.cells #[.slice (some ⟨g, 0, none⟩) (n + 1) cap, vb, b, q] 110 (0, 0)) ∧ Body W B S (.slice (some ⟨g, 0, none⟩) (n + 1) cap) vb (l.app pt) bs ∧ Fr B S w W) := by
  have hne := hbd.ne hp hS
  obtain ⟨xs', o1, _, o3, o4, o5⟩ := hbd
  have hplt : p < w.heap.size := (Array.getElem?_eq_some_iff.1 hp).1
  have hpo : some p ≠ vl.ownBlock := fun e => hne p (.inr (.inl e.symm)) rfl
  have hA : ∀ x, x < w.heap.size → some x ≠ vl.ownBlock → w1.heap[x]? = w.heap[x]? := fun x hx ho => (hg.block x (by show x < (w.alloc Z).heap.size; simp; omega) ho).trans (Below.heap_alloc _ _ _ hx)
  have hp1 := (hA p hplt hpo).trans hp
  have hgp : g ≠ p := by
    rcases hat with e | e
    · intro h; exact hpo (h ▸ e).symm
    · omega
  have hsz : w.heap.size ≤ w1.heap.size := by have := hg.size; simp at this; omega
  have hBg : B ≤ g := (h1.lt g rfl).1
  have hSg : ¬ S g := by
    rcases hat with e | e
    · exact o3 g e
    · intro h; have := hSl g h; omega
  have hSk : ∀ x, S x → x < w.heap.size → w1.heap[x]? = w.heap[x]? := fun x hx hlt => hA x hlt (fun e => o3 x e.symm hx)
  have hc1 := hxs.keep hsz hSk
  have hv1 := hvs.keep hsz hSk
  have ho4 : w1.ownsRow B 5 1 vb bs.length (Lib.byteCells bs) := own_keep o4 fun x hx hlt => hA x hlt (by
    intro e
    obtain ⟨c1, k1⟩ := own_type o4 hx
    obtain ⟨c2, k2⟩ := own_type o1 e.symm
    exact type_ne k2 k1 (by decide) rfl)
  have hbg : ∀ x, vb.ownBlock = some x → x ≠ g := fun x hx => by
    obtain ⟨c1, k1⟩ := own_type ho4 hx
    obtain ⟨c2, k2⟩ := own_type h1 (g := g) rfl
    exact type_ne k1 k2 (by decide)
  have fr1 : Fr B S w w1 := ((Fr.refl B S w).alloc Z).drew.grown hg (fun k hk => ⟨(o1.lt k hk).1, o3 k hk⟩)
  have hbody : ∀ U : World, w1.heap.size ≤ U.heap.size → (∀ x, x ≠ g → x ≠ p → U.heap[x]? = w1.heap[x]?) → U.ownsRow B 53 5 (.slice (some ⟨g, 0, none⟩) (n + 1) cap) (n + 1) (xs ++ [v0, v1, v2, v3, v4]) →
      Body U B S (.slice (some ⟨g, 0, none⟩) (n + 1) cap) vb (l.app pt) bs := fun U hs hk ho => by
    have hkS : ∀ x, S x → x < w1.heap.size → U.heap[x]? = w1.heap[x]? := fun x hx _ => hk x (fun e => hSg (e ▸ hx)) (fun e => hS (e ▸ hx))
    refine ⟨xs ++ [v0, v1, v2, v3, v4], by rw [PL.app_len, hn, hpt]; exact ho, (hc1.keep hs hkS).app (hv1.keep hs hkS), fun x hx => ?_, own_keep ho4 fun x hx hlt => hk x (hbg x hx) (hne x (.inr (.inr hx))), o5⟩
    simp only [Value.ownBlock, Option.some.injEq] at hx
    subst hx; exact hSg
  refine ⟨hp1, hgp, fun W hW => ?_⟩
  rcases hW with rfl | rfl
  · obtain ⟨f1, f2, f3⟩ := fill5 h1 v0 v1 v2 v3 v4
    have hpU := (f2 p (Ne.symm hgp)).trans hp1
    refine ⟨heap_setCell_same _ _ 0 _ _ _ hpU, hbody _ (by simp) (fun x h1 h2 => (heap_setCell_other _ _ _ _ h2).trans (f2 x h1)) (own_other f1 (fun x hx => by simp only [Value.ownBlock, Option.some.injEq] at hx; subst hx; exact hgp) _), ?_⟩
    exact (((((fr1.setCell hBg hSg _).setCell hBg hSg _).setCell hBg hSg _).setCell hBg hSg _).setCell hBg hSg _).setCell hB hS _
  · have h1' := own_other h1 (a := ⟨p, 0, none⟩) (fun x hx => by simp only [Value.ownBlock, Option.some.injEq] at hx; subst hx; exact hgp) (.slice (some ⟨g, 0, none⟩) (n + 1) cap)
    obtain ⟨f1, f2, f3⟩ := fill5 h1' v0 v1 v2 v3 v4
    have hpU := (f2 p (Ne.symm hgp)).trans (heap_setCell_same _ _ 0 _ _ (.slice (some ⟨g, 0, none⟩) (n + 1) cap) hp1)
    refine ⟨hpU, hbody _ (by simp) (fun x h1 h2 => (f2 x h1).trans (heap_setCell_other _ _ _ _ h2)) f1, ?_⟩
    exact (((((fr1.setCell hB hS _).setCell hBg hSg _).setCell hBg hSg _).setCell hBg hSg _).setCell hBg hSg _).setCell hBg hSg _

set_option maxHeartbeats 800000 in
set_option maxRecDepth 100000 in
theorem end_none (B : Nat) (S : Nat → Prop) (p : Nat) (l : PL) (w : World) (h : AccAt w B S p ⟨l, none⟩) :
    Calls Try.prog 101 #[.pointer (some ⟨p, 0, none⟩)] w (Ended B S p ⟨l, none⟩ w) := by
  obtain ⟨vl, vb, q, hp, hB, hS, _, hbd⟩ := h
  obtain ⟨a, cap, rfl, hbd⟩ := hbd.none
  simp only [Option.isSome, A.bytes, List.length_nil] at hp
  have c1 : w.cell? ⟨p, 1, none⟩ = some (.slice a 0 cap) := Lib.cell_of_heap hp 1
  have c2 : w.cell? ⟨p, 2, none⟩ = some (.bool false) := Lib.cell_of_heap hp 2
  have f1 : w.frozen? ⟨p, 1, none⟩ = false := frozen_of_row _ _ _ _ _ hp
  have f2 : w.frozen? ⟨p, 2, none⟩ = false := frozen_of_row _ _ _ _ _ hp
  have k1 := keep_off (i := 2) (v := .bool false) (by decide) c1
  have k2 := World.cell?_setCell_same _ _ (.slice a 0 cap) k1
  have HE := Lib.hid (ended_mk hp hB hS hbd)
  clear hp hB hbd
  go_enter Try.func101, Try.ntmps101
  go_wp2_with fail
  go_region_held3 (fun w' => w'.cell? ⟨p, 1, none⟩ = some (.slice a 0 cap)) (go_keep) (fail)
  go_end0
  exact ⟨rfl, HE.out.1.heap rfl, HE.out.2.drew⟩

set_option maxHeartbeats 1600000 in
set_option maxRecDepth 100000 in
theorem end_some (B : Nat) (S : Nat → Prop) (p : Nat) (l : PL) (q : Bool) (bs : List UInt8) (w : World) (h : AccAt w B S p ⟨l, some (q, bs)⟩) (hl : l.len ≤ 100000000) (hbs : bs.length ≤ 100000000) (hSl : ∀ x, S x → x < w.heap.size) :
    Calls Try.prog 101 #[.pointer (some ⟨p, 0, none⟩)] w (Ended B S p ⟨l, some (q, bs)⟩ w) := by
  obtain ⟨i0, hi, hz0, hz1, hz2⟩ := info_parts infoPart
  obtain ⟨vl, vb, q', hp, hB, hS', hq, hbd⟩ := h
  obtain rfl := hq _ rfl
  obtain ⟨a, cap, rfl, hbd0⟩ := hbd.none
  have hbd' := hbd
  obtain ⟨xs, hvl, hxs, hsl, hvb, hsb⟩ := hbd
  simp only [Option.isSome, A.bytes] at hp hvb hsb hvl hbd' hxs
  obtain ⟨al, capl, rfl⟩ : ∃ al capl, vl = .slice al l.len capl := by
    rcases hvl.2 with ⟨rfl, h0⟩ | ⟨g, c, cur, rfl, _⟩
    · exact ⟨none, 0, by rw [h0]⟩
    · exact ⟨_, c, rfl⟩
  have c0 : w.cell? ⟨p, 0, none⟩ = some (.slice al l.len capl) := Lib.cell_of_heap hp 0
  have c1 : w.cell? ⟨p, 1, none⟩ = some (.slice a bs.length cap) := Lib.cell_of_heap hp 1
  have c2 : w.cell? ⟨p, 2, none⟩ = some (.bool true) := Lib.cell_of_heap hp 2
  have c3 : w.cell? ⟨p, 3, none⟩ = some (.bool q') := Lib.cell_of_heap hp 3
  have f0 : w.frozen? ⟨p, 0, none⟩ = false := frozen_of_row _ _ _ _ _ hp
  have f1 : w.frozen? ⟨p, 1, none⟩ = false := frozen_of_row _ _ _ _ _ hp
  have f2 : w.frozen? ⟨p, 2, none⟩ = false := frozen_of_row _ _ _ _ _ hp
  have hcv : (convert 108 9 (.slice a bs.length cap)).run Try.prog w.drew = .ok (.string ⟨bs.toArray⟩) w.drew := conv_own (own_keep hvb fun _ _ _ => rfl)
  have hplt : p < w.heap.size := (Array.getElem?_eq_some_iff.1 hp).1
  have hcv2 : ∀ Z : Obj, (convert 108 9 (.slice a bs.length cap)).run Try.prog (w.alloc Z).drew = .ok (.string ⟨bs.toArray⟩) (w.alloc Z).drew := fun Z => conv_own (own_keep hvb fun g _ hlt => Below.heap_alloc _ _ _ hlt)
  have HVL := Lib.hid hvl; have HXS := Lib.hid hxs; have HP := Lib.hid hp; have HSL := Lib.hid hSl; have HBD := Lib.hid hbd'; have HCV2 := Lib.hid hcv2; have HB := Lib.hid hB; have HI := Lib.hid hi; have HZ0 := Lib.hid hz0; have HZ1 := Lib.hid hz1; have HZ2 := Lib.hid hz2
  clear hvl hxs hvb hp hSl hsl hsb hq hbd' hcv2 hB hi hz0 hz1 hz2 hbd0
  go_enter Try.func101, Try.ntmps101
  go_wp2_with fail
  refine RT.begins (fun w' => w'.cell? ⟨p, 0, none⟩ = some (.slice al l.len capl) ∧ w'.cell? ⟨p, 1, none⟩ = some (.slice a bs.length cap) ∧ w'.cell? ⟨p, 3, none⟩ = some (.bool q') ∧ (convert 108 9 (.slice a bs.length cap)).run Try.prog w' = .ok (.string ⟨bs.toArray⟩) w') 16 (by kernel_rfl) ?_
  have hS : w.drew.cell? ⟨p, 0, none⟩ = some (.slice al l.len capl) ∧ w.drew.cell? ⟨p, 1, none⟩ = some (.slice a bs.length cap) ∧ w.drew.cell? ⟨p, 3, none⟩ = some (.bool q') ∧ (convert 108 9 (.slice a bs.length cap)).run Try.prog w.drew = .ok (.string ⟨bs.toArray⟩) w.drew := ⟨c0, c1, c3, hcv⟩
  refine RT.take (i := 0) (v := ?_) rfl (by kernel_rfl) (by kernel_rfl) (by kernel_rfl) (by kernel_rfl) (fun _ _ _ h => h) (.inl ⟨by rfl, ?_⟩) hS ?_
  rotate_left 1
  · (intro wq hq; obtain ⟨s0, s1, s3, s4⟩ := hq; go_simp; try with_reducible rfl)
  refine RT.take (i := 1) (v := ?_) rfl (by kernel_rfl) (by kernel_rfl) (by kernel_rfl) (by kernel_rfl) (fun _ _ _ h => h) (.inl ⟨by rfl, ?_⟩) hS ?_
  rotate_left 1
  · (intro wq hq; obtain ⟨s0, s1, s3, s4⟩ := hq; go_simp; try with_reducible rfl)
  refine RT.take (i := 2) (v := ?_) rfl (by kernel_rfl) (by kernel_rfl) (by kernel_rfl) (by kernel_rfl) (fun _ _ _ h => h) (.inl ⟨by rfl, ?_⟩) hS ?_
  rotate_left 1
  · (intro wq hq; obtain ⟨s0, s1, s3, s4⟩ := hq; go_simp; try with_reducible rfl)
  refine RT.take (i := 3) (v := ?_) rfl (by kernel_rfl) (by kernel_rfl) (by kernel_rfl) (by kernel_rfl) (fun _ _ _ h => h) (.inl ⟨by rfl, ?_⟩) hS ?_
  rotate_left 1
  · (intro wq hq; obtain ⟨s0, s1, s3, s4⟩ := hq; go_simp; try with_reducible rfl)
  refine RT.take (i := 4) (v := ?_) rfl (by kernel_rfl) (by kernel_rfl) (by kernel_rfl) (by kernel_rfl) (fun _ _ _ h => h) (.inl ⟨by rfl, ?_⟩) hS ?_
  rotate_left 1
  · (intro wq hq; obtain ⟨s0, s1, s3, s4⟩ := hq; go_simp; try with_reducible rfl)
  refine RT.take (i := 5) (v := ?_) rfl (by kernel_rfl) (by kernel_rfl) (by kernel_rfl) (by kernel_rfl) (fun _ _ _ h => h) (.inl ⟨by rfl, ?_⟩) hS ?_
  rotate_left 1
  · (intro wq hq; obtain ⟨s0, s1, s3, s4⟩ := hq; go_simp; try with_reducible rfl)
  refine RT.take (i := 6) (v := ?_) rfl (by kernel_rfl) (by kernel_rfl) (by kernel_rfl) (by kernel_rfl) (fun _ _ _ h => h) (.inl ⟨by rfl, ?_⟩) hS ?_
  rotate_left 1
  · (intro wq hq; obtain ⟨s0, s1, s3, s4⟩ := hq; go_simp; try with_reducible rfl)
  refine RT.take (i := 7) (v := ?_) rfl (by kernel_rfl) (by kernel_rfl) (by kernel_rfl) (by kernel_rfl) (fun _ _ _ h => h) (.inl ⟨by rfl, ?_⟩) hS ?_
  rotate_left 1
  · (intro wq hq; obtain ⟨s0, s1, s3, s4⟩ := hq; go_simp; try with_reducible rfl)
  refine RT.take (i := 8) (v := ?_) rfl (by kernel_rfl) (by kernel_rfl) (by kernel_rfl) (by kernel_rfl) (fun _ _ _ h => h) (.inl ⟨by rfl, ?_⟩) hS ?_
  rotate_left 1
  · (intro wq hq; obtain ⟨s0, s1, s3, s4⟩ := hq; go_simp; try with_reducible rfl)
  refine RT.take (i := 9) (v := ?_) rfl (by kernel_rfl) (by kernel_rfl) (by kernel_rfl) (by kernel_rfl) (fun _ _ _ h => h) (.inl ⟨by rfl, ?_⟩) hS ?_
  rotate_left 1
  · (intro wq hq; obtain ⟨s0, s1, s3, s4⟩ := hq; go_simp; try with_reducible rfl)
  refine RT.take (i := 10) (v := ?_) rfl (by kernel_rfl) (by kernel_rfl) (by kernel_rfl) (by kernel_rfl) (fun _ _ _ h => h) (.inl ⟨by rfl, ?_⟩) hS ?_
  rotate_left 1
  · (intro wq hq; obtain ⟨s0, s1, s3, s4⟩ := hq; go_simp; try with_reducible rfl)
  refine RT.take (i := 11) (v := ?_) rfl (by kernel_rfl) (by kernel_rfl) (by kernel_rfl) (by kernel_rfl) (fun _ _ _ h => h) (.inl ⟨by rfl, ?_⟩) hS ?_
  rotate_left 1
  · (intro wq hq; obtain ⟨s0, s1, s3, s4⟩ := hq; go_simp; try with_reducible rfl)
  refine RT.take (i := 12) (v := ?_) rfl (by kernel_rfl) (by kernel_rfl) (by kernel_rfl) (by kernel_rfl) (fun _ _ _ h => h) (.inl ⟨by rfl, ?_⟩) hS ?_
  rotate_left 1
  · (intro wq hq; obtain ⟨s0, s1, s3, s4⟩ := hq; go_simp; try with_reducible rfl)
  refine RT.take (i := 13) (v := ?_) rfl (by kernel_rfl) (by kernel_rfl) (by kernel_rfl) (by kernel_rfl) (fun _ _ _ h => h) (.inl ⟨by rfl, ?_⟩) hS ?_
  rotate_left 1
  · (intro wq hq; obtain ⟨s0, s1, s3, s4⟩ := hq; go_simp; try with_reducible rfl)
  refine RT.take (i := 14) (v := ?_) rfl (by kernel_rfl) (by kernel_rfl) (by kernel_rfl) (by kernel_rfl) (fun _ _ _ h => h) (.inl ⟨by rfl, ?_⟩) hS ?_
  rotate_left 1
  · (intro wq hq; obtain ⟨s0, s1, s3, s4⟩ := hq; go_simp; try with_reducible rfl)
  refine RT.all (rs := [15]) (by kernel_rfl) (by simp) ?_
  refine RT.All.cons rfl (fun K hK => ?_) RT.All.nil
  go_simp
  refine hK _ _ (fun _ => ⟨(World.cell?_alloc_lt _ _ _ hplt).trans c0, (World.cell?_alloc_lt _ _ _ hplt).trans c1, (World.cell?_alloc_lt _ _ _ hplt).trans c3, HCV2.out _⟩) ?_
  clear hK K
  refine RT.all (rs := [16]) (by kernel_rfl) (by simp) ?_
  refine RT.All.cons rfl (fun K hK => ?_) RT.All.nil
  refine step_append_lies _ (by rfl) _ _ _ (by rfl) B 53 i0 _ 5 72 Try.underlying25 HI.out HZ0.out HZ1.out HZ2.out rfl (by omega) (.slice al l.len capl) l.len xs (by rfl) ((HVL.out.alloc _).drew)
    ⟨w.heap.size, 0, none⟩ 1 1 [.int .i64 0, .bool false, .string ⟨#[]⟩, .string ⟨#[]⟩, .slice none 0 0] (by rfl) (by rfl) (World.news_of_block (cs := #[.int .i64 0, .bool false, .string ⟨#[]⟩, .string ⟨#[]⟩, .slice none 0 0]) (t := 53) (fr := (0, 0)) (heap_alloc_new w _)) (by simp [Value.oneCell'])
    (by omega) (by unfold maxLen; omega) (by omega) (by have := HB.out; simp; omega) (w.heap.size + 1) (by simp) ?_
  intro g capn w1 hown1 hgrow hat hlt
  refine hK _ _ (fun h => absurd h (by decide)) ?_
  clear hK K
  have hgm := grown_mk (pt := A.lit q' bs) (v0 := .int .i64 1) (v1 := .bool q') (v2 := .string ⟨bs.toArray⟩) (v3 := .string ⟨#[]⟩) (v4 := .slice none 0 0) HP.out HB.out hS' HSL.out HBD.out rfl rfl HXS.out (lit_cells S w q' bs hbs) hgrow hat hown1
  obtain ⟨hp1, hgp, hW⟩ := hgm
  obtain ⟨n0, n1, n2, n3, n4⟩ := new5 hown1
  have m0 : w1.cell? ⟨p, 0, none⟩ = some (.slice al l.len capl) := Lib.cell_of_heap hp1 0
  have mf := frozen_of_row _ _ 0 _ _ hp1
  have nf0 := hown1.frozenAt (l.len * 5)
  have nf1 := hown1.frozenAt (l.len * 5 + 1)
  have nf2 := hown1.frozenAt (l.len * 5 + 2)
  have nf3 := hown1.frozenAt (l.len * 5 + 3)
  have nf4 := hown1.frozenAt (l.len * 5 + 4)
  have hgp1 : ¬ (g = p) := hgp
  have hi1 : (l.len : Int) < (l.len : Int) + 1 := by omega
  have hgp2 : ¬ (p = g) := fun e => hgp e.symm
  have HW := Lib.hid hW
  clear hW hp1 hgp hgrow hat hown1 hlt
  refine RT.takeW (i := 17) (v := ?_) rfl (by decide) (by kernel_rfl) (by kernel_rfl) (by kernel_rfl) (fun _ _ _ h => h) (.inl ⟨by rfl, ?_⟩) ?_
  rotate_left 1
  · (intro wq _; go_simp; try with_reducible rfl)
  refine RT.takeW (i := 19) (v := ?_) rfl (by decide) (by kernel_rfl) (by kernel_rfl) (by kernel_rfl) (fun _ _ _ h => h) (.inl ⟨by rfl, ?_⟩) ?_
  rotate_left 1
  · (intro wq _; go_simp; try with_reducible rfl)
  refine RT.takeW (i := 20) (v := ?_) rfl (by decide) (by kernel_rfl) (by kernel_rfl) (by kernel_rfl) (fun _ _ _ h => h) (.inl ⟨by rfl, ?_⟩) ?_
  rotate_left 1
  · (intro wq _; go_simp; try with_reducible rfl)
  refine RT.all (rs := [18, 21]) (by kernel_rfl) (by simp) ?_
  refine RT.All.cons rfl (fun K hK => ?_) (RT.All.cons rfl (fun K hK => ?_) RT.All.nil)
  · go_simp
    refine hK _ _ (fun h => absurd h (by decide)) ?_
    clear hK K
    refine RT.all (rs := [21]) (by kernel_rfl) (by simp) ?_
    refine RT.All.cons rfl (fun K hK => ?_) RT.All.nil
    go_simp
    refine hK _ _ (fun h => absurd h (by decide)) ?_
    clear hK K
    refine RT.done (by kernel_rfl) ?_ _
    obtain ⟨hpW, hbW, hfW⟩ := HW.out _ (.inl rfl)
    generalize ((((((w1.setCell ⟨g, l.len * 5, none⟩ (.int .i64 1)).setCell ⟨g, l.len * 5 + 1, none⟩ (.bool q')).setCell ⟨g, l.len * 5 + 2, none⟩ (.string ⟨bs.toArray⟩)).setCell ⟨g, l.len * 5 + 3, none⟩ (.string ⟨#[]⟩)).setCell ⟨g, l.len * 5 + 4, none⟩ (.slice none 0 0)).setCell ⟨p, 0, none⟩ (.slice (some ⟨g, 0, none⟩) (l.len + 1) capn)) = W at hpW hbW hfW ⊢
    obtain ⟨a', cap', hva, hbd0⟩ := hbW.none
    have hx := ended_mk hpW HB.out hS' hbd0
    simp only [Value.slice.injEq] at hva
    obtain ⟨rfl, _, rfl⟩ := hva
    have d1 : W.cell? ⟨p, 1, none⟩ = some (.slice a bs.length cap) := Lib.cell_of_heap hpW 1
    have d2 : W.cell? ⟨p, 2, none⟩ = some (.bool true) := Lib.cell_of_heap hpW 2
    have e1 : W.frozen? ⟨p, 1, none⟩ = false := frozen_of_row _ _ _ _ _ hpW
    have e2 : W.frozen? ⟨p, 2, none⟩ = false := frozen_of_row _ _ _ _ _ hpW
    have HX := Lib.hid hx; have HFW := Lib.hid hfW
    clear hx hpW hbW hfW hbd0 n0 n1 n2 n3 n4 m0 mf nf0 nf1 nf2 nf3 nf4 c0 c1 c2 c3 f0 f1 f2 hcv hS
    go_wp2_with fail
    go_region
    go_end0
    exact ⟨rfl, HX.out.1.heap rfl, (HFW.out.trans HX.out.2).drew⟩
  · go_simp
    refine hK _ _ (fun h => absurd h (by decide)) ?_
    clear hK K
    refine RT.all (rs := [18]) (by kernel_rfl) (by simp) ?_
    refine RT.All.cons rfl (fun K hK => ?_) RT.All.nil
    go_simp
    refine hK _ _ (fun h => absurd h (by decide)) ?_
    clear hK K
    refine RT.done (by kernel_rfl) ?_ _
    obtain ⟨hpW, hbW, hfW⟩ := HW.out _ (.inr rfl)
    generalize ((((((w1.setCell ⟨p, 0, none⟩ (.slice (some ⟨g, 0, none⟩) (l.len + 1) capn)).setCell ⟨g, l.len * 5, none⟩ (.int .i64 1)).setCell ⟨g, l.len * 5 + 1, none⟩ (.bool q')).setCell ⟨g, l.len * 5 + 2, none⟩ (.string ⟨bs.toArray⟩)).setCell ⟨g, l.len * 5 + 3, none⟩ (.string ⟨#[]⟩)).setCell ⟨g, l.len * 5 + 4, none⟩ (.slice none 0 0)) = W at hpW hbW hfW ⊢
    obtain ⟨a', cap', hva, hbd0⟩ := hbW.none
    have hx := ended_mk hpW HB.out hS' hbd0
    simp only [Value.slice.injEq] at hva
    obtain ⟨rfl, _, rfl⟩ := hva
    have d1 : W.cell? ⟨p, 1, none⟩ = some (.slice a bs.length cap) := Lib.cell_of_heap hpW 1
    have d2 : W.cell? ⟨p, 2, none⟩ = some (.bool true) := Lib.cell_of_heap hpW 2
    have e1 : W.frozen? ⟨p, 1, none⟩ = false := frozen_of_row _ _ _ _ _ hpW
    have e2 : W.frozen? ⟨p, 2, none⟩ = false := frozen_of_row _ _ _ _ _ hpW
    have HX := Lib.hid hx; have HFW := Lib.hid hfW
    clear hx hpW hbW hfW hbd0 n0 n1 n2 n3 n4 m0 mf nf0 nf1 nf2 nf3 nf4 c0 c1 c2 c3 f0 f1 f2 hcv hS
    go_wp2_with fail
    go_region
    go_end0
    exact ⟨rfl, HX.out.1.heap rfl, (HFW.out.trans HX.out.2).drew⟩
end Lx
end Go.Proofs.Ytgpnleenejjnmaa
