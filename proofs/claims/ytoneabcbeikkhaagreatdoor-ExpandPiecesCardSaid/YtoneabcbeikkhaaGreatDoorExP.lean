/- Fields of one word. -/
/- The alive check; quoted; what the laws ask. -/
import Derived.Test.YtoneabcbeikkhaaGreatDoorExJ
import Derived.Test.YtoneabcbeikkhaaGreatDoorExN
namespace Go.Proofs.YtoneabcbeikkhaaGreatDoor
open Go.RowKit Cls
namespace Ex
open Vr (St val Sc Kp Tab Fit RowAt MapAt)
open Fld (Pc bs tx joinS cutP joinP weight Pcs pcells splitS)
open Pt (PL Lies)
def AnsF (w : World) (B q : Nat) (mv av : Value) (g : Got) (e : Ending) (w' : World) : Prop :=
  ∃ mv', Went w w' B q g.S mv mv' av ∧
    ((¬ g.k = 0 ∧ e = .returned (.tuple #[.slice none 0 0, .agg #[.int .i64 g.k, .string g.t]])) ∨
     (g.k = 0 ∧ 4096 < (splitS g.L).length ∧ e = .returned (.tuple #[.slice none 0 0, .agg #[.int .i64 2, .string ⟨#[]⟩]])) ∨
     (g.k = 0 ∧ ¬ 4096 < (splitS g.L).length ∧ ∃ v, e = .returned (.tuple #[v, .agg #[.int .i64 0, .string ⟨#[]⟩]]) ∧ w'.ownsRow w.heap.size 9 1 v (splitS g.L).length ((splitS g.L).map Value.string)))
set_option maxRecDepth 4000 in
set_option maxHeartbeats 4000000 in
theorem fields_one {W0 w : World} {B q m : Nat} {z s : St} {mv av : Value} {l : PL} {a : Option Addr} {c : Nat} (h : Calls Tryz.prog 10 #[.pointer (some ⟨q, 0, none⟩), .slice a l.len c] (w.alloc FB) (Ans (w.alloc FB) B q mv av (ex l s []))) (E : Env W0 w B q z m s mv av) (hs : l.size ≤ 1000) (hT : okT l) (lb : Nat) (T : TypeId) (hT1 : T ≠ 9) (hT2 : T ≠ 58) (hrow : w.heap[lb]? = some (.cells #[.slice a l.len c] T (0, 0))) :
    Calls Tryz.prog 17 #[.pointer (some ⟨q, 0, none⟩), .slice (some ⟨lb, 0, none⟩) 1 1] w (AnsF w B q mv av (ex l s [])) := by
  have hz := ex_zero l s []
  have hwt := weight_ex l s hs
  have HB0 := Lib.hid (Fld.below_alloc w FB)
  have HE := Lib.hid (E.more HB0.out)
  have HR0 := Lib.hid (heap_alloc_new w FB)
  unfold FB at HR0
  have HL0 := Lib.hid (bel_block HB0.out hrow)
  have HPC := Lib.hid h
  obtain ⟨g, hg⟩ : ∃ g, g = ex l s [] := ⟨_, rfl⟩
  rw [← hg] at hz hwt HPC
  have HG := Lib.hid hg
  rw [← hg]
  clear hg h E hrow
  obtain ⟨L, S, k1, t1⟩ := g
  simp only at hz hwt
  go_enter Tryz.func17, Tryz.ntmps17
  go_wp2_with fail
  go_loopw [6, 13] (fun v x wr => (v = .slice none 0 0 ∧ x = .int .i64 0 ∧ wr = w.alloc FB) ∨ (x = .int .i64 1 ∧ k1 = 0 ∧ ¬ 4096 < (splitS L).length ∧ wr.ownsRow w.heap.size 9 1 v (splitS L).length ((splitS L).map Value.string) ∧ wr.heap[w.heap.size]? = some (.cells #[.int .i64 0, .string ⟨#[]⟩] 36 (0, 0)) ∧ ∃ mv', Went w wr B q S mv mv' av)) (fun _ x _ => 1 - (intOf x).toNat)
  case atStart => exact .inl ⟨rfl, rfl, rfl⟩
  case round =>
    rcases hrel with ⟨rfl, rfl, rfl⟩ | ⟨rfl, rfl, hn, hown, hrow, mv', hw⟩
    · have c0 : (w.alloc FB).cell? ⟨lb, 0, none⟩ = some (.slice a l.len c) := Lib.cell_of_heap HL0.out 0
      go_wp2_with fail
      refine HPC.out.mono ?_
      rintro e w1 ⟨mv1, v1, rfl, ho1, hw1⟩
      simp only at ho1 hw1
      have HR1 := Lib.hid (hw1.block HE.out.sc (by decide) (by decide) HR0.out)
      obtain ⟨a1, c1, rfl, hp1⟩ := Fld.pcs_own ho1 rfl rfl
      have HP1 := Lib.hid hp1; have HW1 := Lib.hid (Went.start HB0.out hw1)
      have HBa := Lib.hid (Fld.below_alloc w1 (.cells #[.int .i64 k1, .string t1] 36))
      have HRa := Lib.hid (bel_block HBa.out HR1.out)
      have HWa := Lib.hid (HW1.out.more HBa.out)
      clear ho1 hw1 hp1 HPC
      have q0a : (w1.alloc (.cells #[.int .i64 k1, .string t1] 36)).cell? ⟨w.heap.size, 0, none⟩ = some (.int .i64 0) := Lib.cell_of_heap HRa.out 0
      have q1a : (w1.alloc (.cells #[.int .i64 k1, .string t1] 36)).cell? ⟨w.heap.size, 1, none⟩ = some (.string ⟨#[]⟩) := Lib.cell_of_heap HRa.out 1
      have f0a : (w1.alloc (.cells #[.int .i64 k1, .string t1] 36)).frozen? ⟨w.heap.size, 0, none⟩ = false := frozen_of_row _ _ _ _ _ HRa.out
      have f1a : (w1.alloc (.cells #[.int .i64 k1, .string t1] 36)).frozen? ⟨w.heap.size, 1, none⟩ = false := frozen_of_row _ _ _ _ _ HRa.out
      by_cases hk : k1 = 0
      · subst hk
        obtain rfl : t1 = ⟨#[]⟩ := hz rfl
        clear hz
        go_wp2_with fail
        refine (Fld.split_any a1 c1 L _ (HP1.out.below HBa.out) hwt).mono ?_
        rintro e w2 ⟨v2, rfl, ho2, hb2⟩
        have HB2 := Lib.hid (HBa.out.trans (hb2.mono HBa.out.size))
        have HR2 := Lib.hid (bel_block hb2 HRa.out)
        have HW2 := Lib.hid (HW1.out.more HB2.out)
        obtain ⟨a2, c2, hv2, hn2⟩ := Fld.own_len ho2
        subst hv2
        have hlen := Fld.nS_split L
        have htx := Fld.Txt.ofOwn ho2 rfl rfl
        have HTX := Lib.hid htx; have HN2 := Lib.hid hn2
        clear ho2 hb2 htx hn2
        go_wp2_with (at_builtin; refine Fld.wpList_append_txt rfl _ _ rfl w.heap.size _ 0 [] rfl (World.ownsRow_nil _ _ _ _) a2 c2 (splitS L) rfl HTX.out HN2.out ?c1 ?c2 ?c3 ?_)
        case c1 => unfold maxLen; omega
        case c2 => omega
        case c3 => exact HW2.out.kp.size
        intro v3 w3 hown3 hg3
        have hb3 : Below w2.heap.size w2 w3 := ⟨hg3.os, hg3.tape, hg3.output, hg3.size, fun k hk => hg3.block k hk (by simp [Value.ownBlock])⟩
        have HR3 := Lib.hid (bel_block hb3 HR2.out)
        have HW3 := Lib.hid (HW2.out.more hb3)
        obtain ⟨a3, c3, hv3, _⟩ := Fld.own_len hown3
        subst hv3
        have HO3 := Lib.hid hown3
        clear hown3 hg3 hb3
        have q0c : w3.cell? ⟨w.heap.size, 0, none⟩ = some (.int .i64 0) := Lib.cell_of_heap HR3.out 0
        have q1c : w3.cell? ⟨w.heap.size, 1, none⟩ = some (.string ⟨#[]⟩) := Lib.cell_of_heap HR3.out 1
        have f0c : w3.frozen? ⟨w.heap.size, 0, none⟩ = false := frozen_of_row _ _ _ _ _ HR3.out
        have f1c : w3.frozen? ⟨w.heap.size, 1, none⟩ = false := frozen_of_row _ _ _ _ _ HR3.out
        by_cases hbig : 4096 < (splitS L).length
        · have HBIG := Lib.hid hbig
          go_wp2_with fail
          exact bodyPost_ret (results_tmp_row rfl _ _ w.heap.size _ _ _ _ rfl (put2 HR3.out _ _) Tryz.underlying36 rfl (by kernel_rfl)) rfl ⟨mv1, HW3.out.fault HR3.out (Nat.le_refl _) _ _, .inr (.inl ⟨rfl, HBIG.out, rfl⟩)⟩
        · have HBIG := Lib.hid hbig
          go_wp2_with fail
          go_roundw
          case rel => exact .inr ⟨by go_num, by first | rfl | trivial, HBIG.out, HO3.out, HR3.out, mv1, HW3.out⟩
          case measure => simp [intOf]
      · have HK := Lib.hid hk
        go_wp2_with fail
        go_region
        go_wp2_with fail
        exact bodyPost_ret (results_tmp_row rfl _ _ w.heap.size _ _ _ _ rfl (put2d HRa.out _ _) Tryz.underlying36 rfl (by kernel_rfl)) rfl ⟨mv1, (HWa.out.fault HRa.out (Nat.le_refl _) _ _).drew, .inl ⟨HK.out, rfl⟩⟩
    · have HR3 := Lib.hid hrow; have HW3 := Lib.hid hw; have HBIG := Lib.hid hn
      obtain ⟨a3, c3, hv3, _⟩ := Fld.own_len hown
      subst hv3
      have HO3 := Lib.hid hown
      clear hrow hw hown hn
      have q0d : wr.cell? ⟨w.heap.size, 0, none⟩ = some (.int .i64 0) := Lib.cell_of_heap HR3.out 0
      have q1d : wr.cell? ⟨w.heap.size, 1, none⟩ = some (.string ⟨#[]⟩) := Lib.cell_of_heap HR3.out 1
      have f0d : wr.frozen? ⟨w.heap.size, 0, none⟩ = false := frozen_of_row _ _ _ _ _ HR3.out
      have f1d : wr.frozen? ⟨w.heap.size, 1, none⟩ = false := frozen_of_row _ _ _ _ _ HR3.out
      go_wp2_with fail
      refine bodyPost_ret (results_tmp_row rfl _ _ w.heap.size _ _ _ _ rfl (put2 HR3.out _ _) Tryz.underlying36 rfl (by kernel_rfl)) rfl ⟨mv', HW3.out.fault HR3.out (Nat.le_refl _) _ _, .inr (.inr ⟨rfl, HBIG.out, _, rfl, ?_⟩)⟩
      exact own_set (own_set HO3.out HR3.out (by decide) 0 _) (heap_setCell_same _ _ 0 _ _ _ HR3.out) (by decide) 1 _
end Ex
end Go.Proofs.YtoneabcbeikkhaaGreatDoor

namespace Go.Proofs.YtoneabcbeikkhaaGreatDoor
open Go.RowKit Cls
namespace Ex
open Vr (St val Sc Kp Tab Fit RowAt MapAt Prs)
open Fld (Pc bs tx joinS cutP joinP weight Pcs pcells splitS)
open Pt (PL Lies)
def aArgs : List ByteArray := [⟨#[97, 32, 98]⟩, ⟨#[99]⟩]
def zA : St := ⟨[], aArgs, 0, 0⟩
def wA : PL := .cons 1 false ⟨#[120]⟩ ⟨#[]⟩ .nil (.cons 2 true ⟨#[64]⟩ ⟨#[]⟩ .nil (.cons 1 false ⟨#[121]⟩ ⟨#[]⟩ .nil .nil))
def cA : Array Value := #[.int .i64 1, .bool false, .string ⟨#[120]⟩, .string ⟨#[]⟩, .slice none 0 0, .int .i64 2, .bool true, .string ⟨#[64]⟩, .string ⟨#[]⟩, .slice none 0 0, .int .i64 1, .bool false, .string ⟨#[121]⟩, .string ⟨#[]⟩, .slice none 0 0]
theorem okA : OKs zA 0 zA := ⟨rfl, rfl, rfl, Vr.Srt.nil, Nat.le_refl _, fun p hp => by cases hp⟩
theorem smA : Small zA := by
  refine { vs := fun p hp => by simp [zA] at hp, join := ?_, args := fun a ha => ?_, st0 := by decide, st1 := by decide, la0 := by decide, la1 := by decide, nargs := by decide }
  · decide +kernel
  · simp only [zA, aArgs, List.mem_cons, List.not_mem_nil, or_false] at ha
    rcases ha with rfl | rfl <;> decide
theorem exA : (ex wA zA []).k = 0 ∧ splitS (ex wA zA []).L = [⟨#[120, 97, 32, 98]⟩, ⟨#[99, 121]⟩] := by
  constructor
  · decide +kernel
  · decide +kernel
theorem fields_flat {W0 w : World} {B q m : Nat} {z s : St} {mv av : Value} {l : PL} {pb lb c : Nat} {cs : Array Value} (E : Env W0 w B q z m s mv av) (hle : l.len ≤ 140737488351232) (hm : m + l.size ≤ 900000) (hs : l.size ≤ 1000) (hT : okT l) (hO : okOL l)
    (hcs : ∀ (i : Nat) (k : Int) (q : Bool) (t o : ByteArray) (f r : PL), l.drop i = .cons k q t o f r → f = .nil ∧ cs[i * 5]? = some (.int .i64 k) ∧ cs[i * 5 + 1]? = some (.bool q) ∧ cs[i * 5 + 2]? = some (.string t) ∧ cs[i * 5 + 3]? = some (.string o) ∧ cs[i * 5 + 4]? = some (.slice none 0 0))
    (hp : w.heap[pb]? = some (.cells cs 52 (0, 0))) (hl : w.heap[lb]? = some (.cells #[.slice (some ⟨pb, 0, none⟩) l.len c] 27 (0, 0))) :
    Calls Tryz.prog 17 #[.pointer (some ⟨q, 0, none⟩), .slice (some ⟨lb, 0, none⟩) 1 1] w (AnsF w B q mv av (ex l s [])) :=
  fields_one (pieces_flat hle hs hT hO B q z av hcs _ m s mv (bel_block (Fld.below_alloc w FB) hp) (E.more (Fld.below_alloc w FB)) hm) E hs hT lb _ (by decide) (by decide) hl
theorem Env.mk' {W0 w : World} {B q : Nat} {z s : St} {m : Nat} {mv av : Value} (b0 : Below W0.heap.size W0 w) (hB : W0.heap.size ≤ B) (hw : B ≤ w.heap.size) (sc : Sc w B q s mv av) (tab : Tab W0) (ok : OKs z m s) (sm : Small z) (hm : m ≤ 900000) : Env W0 w B q z m s mv av := ⟨b0, hB, hw, sc, tab, ok, sm, hm⟩
set_option maxRecDepth 4000 in
set_option maxHeartbeats 4000000 in
theorem alive_any (w : World) (ht : Tab w) : Calls Tryz.prog 5 #[] w fun e w' => e = .returned (.bool true) ∧ Below w.heap.size w w' := by
  have HT := Lib.hid ht
  clear ht
  have hb0 := Fld.below_alloc w (.cells #[.map none, .slice none 0 0, .int .i64 0, .int .i64 0] 58)
  have hb1 := hb0.trans ((Fld.below_alloc _ (.cells #[.string ⟨#[97, 32, 98]⟩, .string ⟨#[99]⟩] 9)).mono hb0.size)
  have hsc : Sc ((w.alloc (.cells #[.map none, .slice none 0 0, .int .i64 0, .int .i64 0] 58)).alloc (.cells #[.string ⟨#[97, 32, 98]⟩, .string ⟨#[99]⟩] 9)) w.heap.size w.heap.size ⟨[], [], 0, 0⟩ (.map none) (.slice none 0 0) :=
    ⟨bel_block (Fld.below_alloc _ _) (heap_alloc_new w _), Nat.le_refl _, .inl ⟨rfl, rfl⟩, .inl ⟨rfl, rfl⟩⟩
  have htx : Vr.Txt ((w.alloc (.cells #[.map none, .slice none 0 0, .int .i64 0, .int .i64 0] 58)).alloc (.cells #[.string ⟨#[97, 32, 98]⟩, .string ⟨#[99]⟩] 9)) (.slice (some ⟨w.heap.size + 1, 0, none⟩) 2 2) aArgs := by
    refine .inr ⟨w.heap.size + 1, 0, 2, rfl, by decide, by simp [World.size_alloc], fun j x hj => ?_⟩
    rw [cell_of_row _ _ _ _ _ _ (Vr.new2 w _ _), Nat.zero_add]
    match j, hj with
    | 0, hj => cases hj; rfl
    | 1, hj => cases hj; rfl
    | j + 2, hj => simp [aArgs] at hj
  have HSA := Lib.hid (Vr.setArgs_any ⟨[], [], 0, 0⟩ w.heap.size w.heap.size aArgs _ (.map none) (.slice none 0 0) _ hsc hb1.size htx (by decide))
  have HSC := Lib.hid hsc; have HB1 := Lib.hid hb1
  clear hb0 hb1 hsc htx
  go_enter Tryz.func5, Tryz.ntmps5
  go_wp2_with fail
  refine HSA.out.mono ?_
  rintro e w1 ⟨rfl, av1, hsc1, hkp1, hfr1⟩
  have HB2 := Lib.hid (HB1.out.trans (hkp1.below HB1.out.size (Nat.le_refl _) (fun j e => by cases e) (fun j e => by cases e)))
  have HSC1 := Lib.hid hsc1
  clear hsc1 hkp1 hfr1 HSA
  have hbp := Fld.below_alloc w1 (.cells cA 52)
  have hbl := hbp.trans ((Fld.below_alloc (w1.alloc (.cells cA 52)) (.cells #[.slice (some ⟨w1.heap.size, 0, none⟩) 3 3] 27)).mono hbp.size)
  have HB3 := Lib.hid (HB2.out.trans (hbl.mono HB2.out.size))
  have HSC3 := Lib.hid (HSC1.out.stay hbl)
  have HF := Lib.hid (fields_flat (W0 := w) (w := (w1.alloc (.cells cA 52)).alloc (.cells #[.slice (some ⟨w1.heap.size, 0, none⟩) 3 3] 27)) (B := w.heap.size) (q := w.heap.size) (z := zA) (m := 0) (s := zA) (mv := .map none) (av := av1) (l := wA) (pb := w1.heap.size) (lb := w1.heap.size + 1) (c := 3) (cs := cA)
    ⟨HB3.out, Nat.le_refl _, HB3.out.size, HSC3.out, HT.out, okA, smA, by decide⟩ (by decide) (by decide) (by decide) (by intro t ht; simp only [wA, texts, List.append_nil, List.mem_cons, List.not_mem_nil, or_false, List.nil_append] at ht; rcases ht with rfl | rfl | rfl <;> decide)
    (by refine ⟨fun h => by simp at h, trivial, fun _ => .inl rfl, trivial, fun h => by simp at h, trivial, trivial⟩)
    (by
      intro i k q t o f r hd
      match i, hd with
      | 0, hd => cases hd; exact ⟨rfl, rfl, rfl, rfl, rfl, rfl⟩
      | 1, hd => cases hd; exact ⟨rfl, rfl, rfl, rfl, rfl, rfl⟩
      | 2, hd => cases hd; exact ⟨rfl, rfl, rfl, rfl, rfl, rfl⟩
      | i + 3, hd => exfalso; simp only [wA, PL.drop] at hd; cases i <;> simp [PL.drop] at hd)
    (bel_block (Fld.below_alloc _ _) (heap_alloc_new w1 _)) (by have := Vr.new2 w1 (.cells cA 52) (.cells #[.slice (some ⟨w1.heap.size, 0, none⟩) 3 3] 27); exact this))
  clear hbp hbl
  go_wp2_with fail
  refine HF.out.mono ?_
  rintro e w2 ⟨mv2, hw2, hcase⟩
  have HB4 := Lib.hid (hw2.frame HSC3.out HB3.out.size HB3.out (Nat.le_refl _))
  clear hw2 HF
  rcases hcase with ⟨h, _⟩ | ⟨_, h, _⟩ | ⟨_, _, v2, rfl, ho2⟩
  · exact absurd exA.1 h
  · rw [exA.2] at h; exact absurd h (by decide)
  · rw [exA.2] at ho2
    obtain ⟨g2, c2, hv2⟩ := Joins.ownsRow_form ho2 (by decide)
    subst hv2
    have HBa := Lib.hid (Fld.below_alloc w2 FB)
    have d0 : w2.cell? ⟨g2, 0, none⟩ = some (.string ⟨#[120, 97, 32, 98]⟩) := (ho2.cellAt 0 (by decide)).trans rfl
    have d1 : w2.cell? ⟨g2, 1, none⟩ = some (.string ⟨#[99, 121]⟩) := (ho2.cellAt 1 (by decide)).trans rfl
    have e0 : (w2.alloc (.cells #[.int .i64 0, .string ⟨#[]⟩] 36)).cell? ⟨g2, 0, none⟩ = some (.string ⟨#[120, 97, 32, 98]⟩) := (HBa.out.cell (p := ⟨g2, 0, none⟩) (World.block_lt_of_cell? _ _ d0)).trans d0
    have e1 : (w2.alloc (.cells #[.int .i64 0, .string ⟨#[]⟩] 36)).cell? ⟨g2, 1, none⟩ = some (.string ⟨#[99, 121]⟩) := (HBa.out.cell (p := ⟨g2, 1, none⟩) (World.block_lt_of_cell? _ _ d1)).trans d1
    clear ho2
    go_wp2_with fail
    go_ret
    exact ⟨rfl, HB4.out.trans (HBa.out.mono HB4.out.size)⟩
end Ex
end Go.Proofs.YtoneabcbeikkhaaGreatDoor
