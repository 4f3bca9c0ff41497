/- (*lex.parts).add, all, join. -/
import Derived.Test.YtgpnleenejjnmaaLxD
namespace Go.Proofs.Ytgpnleenejjnmaa
open Go.RowKit Go.Sort
namespace Lx
open Cls Pt
attribute [local go_sem ↓] Go.wp_at_zero Go.wp_at_succ

theorem AccAt.mono {w : World} {B p : Nat} {S S' : Nat → Prop} {a : A} (h : AccAt w B S p a) (hS : ∀ b, S b → S' b) (hN : ∀ b, S' b → S b ∨ w.heap.size ≤ b) : AccAt w B S' p a := by
  obtain ⟨vl, vb, q, hp, hB, hSp, hq, xs, h1, h2, h3, h4, h5⟩ := h
  have hx : ∀ g, g < w.heap.size → ¬ S g → ¬ S' g := fun g hg hn h => (hN g h).elim hn (by omega)
  refine ⟨vl, vb, q, hp, hB, hx p (Array.getElem?_eq_some_iff.1 hp).1 hSp, hq, xs, h1, h2.mono fun b hb _ => hS b hb, fun g hg => hx g ?_ (h3 g hg), h4, fun g hg => hx g ?_ (h5 g hg)⟩
  · exact (h1.lt g hg).2
  · exact (h4.lt g hg).2
theorem AccAt.alloc {w : World} {B p : Nat} {S : Nat → Prop} {a : A} (h : AccAt w B S p a) (o : Obj) : AccAt (w.alloc o) B S p a := by
  obtain ⟨vl, vb, q, hp, hB, hSp, hq, hb⟩ := h
  exact ⟨vl, vb, q, (Below.heap_alloc _ _ _ (Array.getElem?_eq_some_iff.1 hp).1).trans hp, hB, hSp, hq, hb.keep (by simp) fun b hb _ => Below.heap_alloc _ _ _ hb⟩
theorem Fr.mono {B : Nat} {S S' : Nat → Prop} {w w' : World} (h : Fr B S' w w') (hS : ∀ b, S b → S' b) : Fr B S w w' :=
  ⟨h.os, h.tape, h.output, h.size, fun b hb ho => h.block b hb (ho.imp id (hS b))⟩

/-- A part alone. -/
def one (k : Int) (q : Bool) (t o : ByteArray) (f : PL) : PL := .cons k q t o f .nil

set_option maxHeartbeats 1600000 in
set_option maxRecDepth 100000 in
theorem add_any (B : Nat) (S : Nat → Prop) (p : Nat) (a : A) (k : Int) (q : Bool) (t o : ByteArray) (f : PL) (af : Option Addr) (cf : Nat) (w : World) (h : AccAt w B S p a) (hl : a.l.len ≤ 90000000) (hbs : a.bytes.length ≤ 90000000)
    (hSl : ∀ x, S x → x < w.heap.size) (ht : t.size ≤ R) (ho : o.size ≤ R) (hf : LiesS S w af cf f) :
    Calls Try.prog 88 #[.pointer (some ⟨p, 0, none⟩), pv k q t o af f.len cf] w fun e w' => e = .returned (.tuple #[]) ∧ AccAt w' B (fun b => S b ∨ b = w.heap.size) p (a.add (one k q t o f)) ∧ Fr B S w w' ∧ w.heap.size < w'.heap.size := by
  obtain ⟨i0, hi, hz0, hz1, hz2⟩ := info_parts infoPart
  have hplt : p < w.heap.size := by obtain ⟨vl, vb, q', hp, _⟩ := h; exact (Array.getElem?_eq_some_iff.1 hp).1
  have hBw : B ≤ w.heap.size := by obtain ⟨vl, vb, q', hp, hB, _⟩ := h; omega
  have h0 : AccAt (w.alloc (.cells #[.int .i64 k, .bool q, .string t, .string o, .slice af f.len cf] 53)) B (fun b => S b ∨ b = w.heap.size) p a := by
    refine AccAt.alloc (AccAt.mono h (fun b hb => .inl hb) (fun b hb => ?_)) _
    rcases hb with hb | hb
    · exact .inl hb
    · exact .inr (by omega)
  have hSl0 : ∀ x, (S x ∨ x = w.heap.size) → x < (w.alloc (.cells #[.int .i64 k, .bool q, .string t, .string o, .slice af f.len cf] 53)).heap.size := fun x hx => by
    simp only [World.size_alloc]
    rcases hx with hx | hx
    · have := hSl x hx; omega
    · omega
  have HE := Lib.hid (end_any B _ p a _ h0 (by omega) (by omega) hSl0)
  have hfl : a.flush.len ≤ 90000001 := by
    obtain ⟨l, cur⟩ := a
    match cur with
    | none => simp only [A.flush]; simp only [] at hl; omega
    | some x => simp only [A.flush, PL.app_len, A.lit, PL.len]; simp only [] at hl; omega
  have HSL := Lib.hid hSl0; have HI := Lib.hid hi; have HZ0 := Lib.hid hz0; have HZ1 := Lib.hid hz1; have HZ2 := Lib.hid hz2; have HF := Lib.hid hf
  clear h h0 hSl hSl0 hi hz0 hz1 hz2 hf
  unfold pv
  go_enter Try.func88, Try.ntmps88
  go_wp2_with fail
  refine (HE.out).mono ?_
  rintro e w1 ⟨rfl, ⟨vl, vb, q1, hp, hB, hS', hq, hbd⟩, hfr⟩
  have hbx : w1.heap[w.heap.size]? = some (.cells #[.int .i64 k, .bool q, .string t, .string o, .slice af f.len cf] 53 (0, 0)) := (hfr.block _ (by simp) (.inr (.inr rfl))).trans (heap_alloc_new _ _)
  have hbd' := hbd
  obtain ⟨xs, hvl, hxs, hsl, hvb, hsb⟩ := hbd
  simp only [Option.isSome, A.bytes] at hp hvb hsb hvl hbd' hxs
  obtain ⟨al, capl, rfl⟩ : ∃ al capl, vl = .slice al a.flush.len capl := by
    rcases hvl.2 with ⟨rfl, h0⟩ | ⟨g, c, cur, rfl, _⟩
    · exact ⟨none, 0, by rw [h0]⟩
    · exact ⟨_, c, rfl⟩
  have hplt1 : p < w1.heap.size := (Array.getElem?_eq_some_iff.1 hp).1
  have hblt1 : w.heap.size < w1.heap.size := (Array.getElem?_eq_some_iff.1 hbx).1
  have c0 : w1.cell? ⟨p, 0, none⟩ = some (.slice al a.flush.len capl) := Lib.cell_of_heap hp 0
  have b0 : w1.cell? ⟨w.heap.size, 0, none⟩ = some (.int .i64 k) := Lib.cell_of_heap hbx 0
  have b1 : w1.cell? ⟨w.heap.size, 1, none⟩ = some (.bool q) := Lib.cell_of_heap hbx 1
  have b2 : w1.cell? ⟨w.heap.size, 2, none⟩ = some (.string t) := Lib.cell_of_heap hbx 2
  have b3 : w1.cell? ⟨w.heap.size, 3, none⟩ = some (.string o) := Lib.cell_of_heap hbx 3
  have b4 : w1.cell? ⟨w.heap.size, 4, none⟩ = some (.slice af f.len cf) := Lib.cell_of_heap hbx 4
  have hvs : CellsS (fun b => S b ∨ b = w.heap.size) w1 (one k q t o f) [.int .i64 k, .bool q, .string t, .string o, .slice af f.len cf] :=
    ⟨af, cf, [], rfl, ht, ho, (LiesS.keep (S := S) HF.out (by have := hfr.size; simp at this; omega) (fun b hb hlt => (hfr.block b (by simp; omega) (.inr (.inl hb))).trans (Below.heap_alloc _ _ _ hlt))).mono (fun b hb _ => .inl hb), rfl⟩
  have hSl1 : ∀ x, (S x ∨ x = w.heap.size) → x < w1.heap.size := fun x hx => Nat.lt_of_lt_of_le (HSL.out x hx) hfr.size
  have HVL := Lib.hid hvl; have HXS := Lib.hid hxs; have HP := Lib.hid hp; have HSL1 := Lib.hid hSl1; have HBD := Lib.hid hbd'; have HB := Lib.hid hB; have HVS := Lib.hid hvs; have HFR := Lib.hid hfr; have HS' := Lib.hid hS'
  clear hvl hxs hvb hp hSl1 hsl hsb hq hbd' hB hvs hfr hbx hS'
  go_wp2_with fail
  refine RT.begins (fun w' => w'.cell? ⟨p, 0, none⟩ = some (.slice al a.flush.len capl) ∧ w'.cell? ⟨w.heap.size, 0, none⟩ = some (.int .i64 k) ∧ w'.cell? ⟨w.heap.size, 1, none⟩ = some (.bool q) ∧ w'.cell? ⟨w.heap.size, 2, none⟩ = some (.string t) ∧ w'.cell? ⟨w.heap.size, 3, none⟩ = some (.string o) ∧ w'.cell? ⟨w.heap.size, 4, none⟩ = some (.slice af f.len cf)) 7 (by kernel_rfl) ?_
  have hS : w1.drew.cell? ⟨p, 0, none⟩ = some (.slice al a.flush.len capl) ∧ w1.drew.cell? ⟨w.heap.size, 0, none⟩ = some (.int .i64 k) ∧ w1.drew.cell? ⟨w.heap.size, 1, none⟩ = some (.bool q) ∧ w1.drew.cell? ⟨w.heap.size, 2, none⟩ = some (.string t) ∧ w1.drew.cell? ⟨w.heap.size, 3, none⟩ = some (.string o) ∧ w1.drew.cell? ⟨w.heap.size, 4, none⟩ = some (.slice af f.len cf) := ⟨c0, b0, b1, b2, b3, b4⟩
  refine RT.take (i := 0) (v := ?_) rfl (by kernel_rfl) (by kernel_rfl) (by kernel_rfl) (by kernel_rfl) (fun _ _ _ h => h) (.inl ⟨by rfl, ?_⟩) hS ?_
  rotate_left 1
  · (intro wq hq; obtain ⟨s0, s1, s2, s3, s4, s5⟩ := hq; go_simp; try with_reducible rfl)
  refine RT.take (i := 1) (v := ?_) rfl (by kernel_rfl) (by kernel_rfl) (by kernel_rfl) (by kernel_rfl) (fun _ _ _ h => h) (.inl ⟨by rfl, ?_⟩) hS ?_
  rotate_left 1
  · (intro wq hq; obtain ⟨s0, s1, s2, s3, s4, s5⟩ := hq; go_simp; try with_reducible rfl)
  refine RT.take (i := 2) (v := ?_) rfl (by kernel_rfl) (by kernel_rfl) (by kernel_rfl) (by kernel_rfl) (fun _ _ _ h => h) (.inl ⟨by rfl, ?_⟩) hS ?_
  rotate_left 1
  · (intro wq hq; obtain ⟨s0, s1, s2, s3, s4, s5⟩ := hq; go_simp; try with_reducible rfl)
  refine RT.take (i := 3) (v := ?_) rfl (by kernel_rfl) (by kernel_rfl) (by kernel_rfl) (by kernel_rfl) (fun _ _ _ h => h) (.inl ⟨by rfl, ?_⟩) hS ?_
  rotate_left 1
  · (intro wq hq; obtain ⟨s0, s1, s2, s3, s4, s5⟩ := hq; go_simp; try with_reducible rfl)
  refine RT.take (i := 4) (v := ?_) rfl (by kernel_rfl) (by kernel_rfl) (by kernel_rfl) (by kernel_rfl) (fun _ _ _ h => h) (.inl ⟨by rfl, ?_⟩) hS ?_
  rotate_left 1
  · (intro wq hq; obtain ⟨s0, s1, s2, s3, s4, s5⟩ := hq; go_simp; try with_reducible rfl)
  refine RT.take (i := 5) (v := ?_) rfl (by kernel_rfl) (by kernel_rfl) (by kernel_rfl) (by kernel_rfl) (fun _ _ _ h => h) (.inl ⟨by rfl, ?_⟩) hS ?_
  rotate_left 1
  · (intro wq hq; obtain ⟨s0, s1, s2, s3, s4, s5⟩ := hq; go_simp; try with_reducible rfl)
  refine RT.all (rs := [6]) (by kernel_rfl) (by simp) ?_
  refine RT.All.cons rfl (fun K hK => ?_) RT.All.nil
  go_simp
  refine hK _ _ (fun _ => ⟨(World.cell?_alloc_lt _ _ _ hplt1).trans c0, (World.cell?_alloc_lt _ _ _ hblt1).trans b0, (World.cell?_alloc_lt _ _ _ hblt1).trans b1, (World.cell?_alloc_lt _ _ _ hblt1).trans b2, (World.cell?_alloc_lt _ _ _ hblt1).trans b3, (World.cell?_alloc_lt _ _ _ hblt1).trans b4⟩) ?_
  clear hK K
  refine RT.all (rs := [7]) (by kernel_rfl) (by simp) ?_
  refine RT.All.cons rfl (fun K hK => ?_) RT.All.nil
  refine step_append_lies _ (by rfl) _ _ _ (by rfl) B 53 i0 _ 5 72 Try.underlying25 HI.out HZ0.out HZ1.out HZ2.out rfl (by omega) (.slice al a.flush.len capl) a.flush.len xs (by rfl) ((HVL.out.alloc _).drew)
    ⟨w1.heap.size, 0, none⟩ 1 1 [.int .i64 0, .bool false, .string ⟨#[]⟩, .string ⟨#[]⟩, .slice none 0 0] (by rfl) (by rfl) (World.news_of_block (cs := #[.int .i64 0, .bool false, .string ⟨#[]⟩, .string ⟨#[]⟩, .slice none 0 0]) (t := 53) (fr := (0, 0)) (heap_alloc_new w1 _)) (by simp [Value.oneCell'])
    (by omega) (by unfold maxLen; omega) (by omega) (by have := HB.out; simp; omega) (w1.heap.size + 1) (by simp) ?_
  intro g capn w2 hown1 hgrow hat hlt
  refine hK _ _ (fun h => absurd h (by decide)) ?_
  clear hK K
  have hgm := grown_mk (pt := one k q t o f) (v0 := .int .i64 k) (v1 := .bool q) (v2 := .string t) (v3 := .string o) (v4 := .slice af f.len cf) HP.out HB.out HS'.out HSL1.out HBD.out rfl rfl HXS.out HVS.out hgrow hat hown1
  obtain ⟨hp1, hgp, hW⟩ := hgm
  obtain ⟨n0, n1, n2, n3, n4⟩ := new5 hown1
  have m0 : w2.cell? ⟨p, 0, none⟩ = some (.slice al a.flush.len capl) := Lib.cell_of_heap hp1 0
  have mf := frozen_of_row _ _ 0 _ _ hp1
  have nf0 := hown1.frozenAt (a.flush.len * 5)
  have nf1 := hown1.frozenAt (a.flush.len * 5 + 1)
  have nf2 := hown1.frozenAt (a.flush.len * 5 + 2)
  have nf3 := hown1.frozenAt (a.flush.len * 5 + 3)
  have nf4 := hown1.frozenAt (a.flush.len * 5 + 4)
  have hgp1 : ¬ (g = p) := hgp
  have hi1 : (a.flush.len : Int) < (a.flush.len : Int) + 1 := by omega
  have hgp2 : ¬ (p = g) := fun e => hgp e.symm
  have HW := Lib.hid hW
  clear hW hp1 hgp hgrow hat hown1 hlt c0 b0 b1 b2 b3 b4 hS
  refine RT.takeW (i := 8) (v := ?_) rfl (by decide) (by kernel_rfl) (by kernel_rfl) (by kernel_rfl) (fun _ _ _ h => h) (.inl ⟨by rfl, ?_⟩) ?_
  rotate_left 1
  · (intro wq _; go_simp; try with_reducible rfl)
  refine RT.takeW (i := 10) (v := ?_) rfl (by decide) (by kernel_rfl) (by kernel_rfl) (by kernel_rfl) (fun _ _ _ h => h) (.inl ⟨by rfl, ?_⟩) ?_
  rotate_left 1
  · (intro wq _; go_simp; try with_reducible rfl)
  refine RT.takeW (i := 11) (v := ?_) rfl (by decide) (by kernel_rfl) (by kernel_rfl) (by kernel_rfl) (fun _ _ _ h => h) (.inl ⟨by rfl, ?_⟩) ?_
  rotate_left 1
  · (intro wq _; go_simp; try with_reducible rfl)
  refine RT.all (rs := [9, 12]) (by kernel_rfl) (by simp) ?_
  refine RT.All.cons rfl (fun K hK => ?_) (RT.All.cons rfl (fun K hK => ?_) RT.All.nil)
  · go_simp
    refine hK _ _ (fun h => absurd h (by decide)) ?_
    clear hK K
    refine RT.all (rs := [12]) (by kernel_rfl) (by simp) ?_
    refine RT.All.cons rfl (fun K hK => ?_) RT.All.nil
    go_simp
    refine hK _ _ (fun h => absurd h (by decide)) ?_
    clear hK K
    refine RT.done (by kernel_rfl) ?_ _
    obtain ⟨hpW, hbW, hfW⟩ := HW.out _ (.inl rfl)
    clear n0 n1 n2 n3 n4 m0 mf nf0 nf1 nf2 nf3 nf4
    go_end0
    exact ⟨rfl, ⟨_, _, _, hpW, HB.out, HS'.out, (fun x h => by cases h), hbW⟩, ((Fr.refl B S w).alloc _).trans (((HFR.out).trans hfW).mono fun b hb => .inl hb), (by have := (HFR.out.trans hfW).size; simp only [World.size_alloc] at this ⊢; omega)⟩
  · go_simp
    refine hK _ _ (fun h => absurd h (by decide)) ?_
    clear hK K
    refine RT.all (rs := [9]) (by kernel_rfl) (by simp) ?_
    refine RT.All.cons rfl (fun K hK => ?_) RT.All.nil
    go_simp
    refine hK _ _ (fun h => absurd h (by decide)) ?_
    clear hK K
    refine RT.done (by kernel_rfl) ?_ _
    obtain ⟨hpW, hbW, hfW⟩ := HW.out _ (.inr rfl)
    clear n0 n1 n2 n3 n4 m0 mf nf0 nf1 nf2 nf3 nf4
    go_end0
    exact ⟨rfl, ⟨_, _, _, hpW, HB.out, HS'.out, (fun x h => by cases h), hbW⟩, ((Fr.refl B S w).alloc _).trans (((HFR.out).trans hfW).mono fun b hb => .inl hb), (by have := (HFR.out.trans hfW).size; simp only [World.size_alloc] at this ⊢; omega)⟩
end Lx
end Go.Proofs.Ytgpnleenejjnmaa
