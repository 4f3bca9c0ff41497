/- VarsRuns's walk. -/
import Derived.Test.YtpphoaidnpkgpaaGreatDoorVrXa
import Derived.Deep.CutBlock
import Derived.Deep.CutRange
namespace Go.Proofs.YtpphoaidnpkgpaaGreatDoor
open Go.RowKit Go.Maps Cls
namespace Vr

set_option maxRecDepth 4000 in
set_option maxHeartbeats 1000000 in
theorem runs_any (l : List Ac) (a : Option Addr) (cap : Nat) (nl : List ByteArray) (nv : Value) (w : World) (hA : Acs w a l) (hN : Txt w nv nl) (hnn : ∀ n c, nv = .slice none n c → c = 0) (ht : Tab w) (hl : l.length ≤ 60) (hnl : nl.length ≤ 30) :
    Calls Tryz.prog 3 #[.slice a l.length cap, nv] w fun e w' => e = .returned (.bool true) ∧ Below w.heap.size w w' := by
  obtain ⟨na, ncap, rfl, hncell⟩ := hN.cell
  have HA := Lib.hid hA; have HN := Lib.hid hN; have HNC := Lib.hid hncell; have HT := Lib.hid ht; have HNN := Lib.hid (show na = none → ncap = 0 from fun e => hnn _ _ (by rw [e]))
  clear hA hN hncell ht hnn
  go_enter Tryz.func3, Tryz.ntmps3
  go_wp2_with fail
  refine (alive_any _ HT.out).mono ?_
  rintro e w1 ⟨rfl, hb1⟩
  have HB1 := Lib.hid hb1
  clear hb1
  go_wp2_with fail
  go_loopw [39] (fun i wr => ∃ (k : Nat) (S : St) (mv av vv rv : Value), k ≤ l.length ∧ i = .int .i64 k ∧ Sc wr w1.heap.size w1.heap.size S mv av ∧
    wr.heap[w1.heap.size + 1]? = some (.cells #[vv, rv, .int .i64 S.st, .int .i64 S.la] 31 (0, 0)) ∧ Rf wr w1.heap.size mv av vv rv S.vs S.args ∧ Inv k S ∧ Below w1.heap.size w1 wr) (fun i _ => l.length - (intOf i).toNat)
  case atStart =>
    refine ⟨0, s0, .map none, .slice none 0 0, .slice none 0 0, .slice none 0 0, Nat.zero_le _, rfl, (sc_new w1).stay (below_alloc _ _), new2 w1 _ _, ?_, ?_, (below_alloc w1 _).trans ((below_alloc _ _).mono (by simp [World.size_alloc]))⟩
    · exact ⟨.inl ⟨rfl, none, 0, rfl⟩, .inl ⟨rfl, none, 0, rfl⟩, fun h => absurd rfl h, fun h => absurd rfl h⟩
    · exact ⟨Srt.nil, by simp [s0], by simp [s0], by simp [s0, sumT], by simp [s0], by simp [s0], by simp [s0], by simp [s0]⟩
  case round =>
    obtain ⟨k, S, mv, av, vv, rv, hk, rfl, hsc, hbox, hrf, hinv, hbw⟩ := hrel
    have HSC := Lib.hid hsc; have HBX := Lib.hid hbox; have HRF := Lib.hid hrf; have HIN := Lib.hid hinv; have HB := Lib.hid hbw
    rcases Nat.lt_or_ge k l.length with hlt | hge
    · have hx : l[k]? = some (l[k]'hlt) := List.getElem?_eq_getElem hlt
      obtain ⟨b, off, xv, rfl, hbl, hc0, hc1, hc2, hc3, hc4, htx, hxn, hx1, hx2, hx3, hx4, hx5, hx6⟩ := HA.out k _ hx
      generalize l[k] = x at hc0 hc1 hc2 hc3 hc4 htx hxn hx1 hx2 hx3 hx4 hx5 hx6
      obtain ⟨xa, xc, rfl, _⟩ := htx.cell
      have hbb := hbl
      have low : ∀ c, wr.cell? ⟨b, c, none⟩ = w1.cell? ⟨b, c, none⟩ := fun c => World.cell?_of_block (hbw.block b (Nat.lt_of_lt_of_le hbl HB1.out.size))
      have low1 : ∀ c, w1.cell? ⟨b, c, none⟩ = w.cell? ⟨b, c, none⟩ := fun c => World.cell?_of_block (HB1.out.block b hbl)
      have q0 : wr.cell? ⟨b, off + k * 5, none⟩ = some (.int .i64 x.kind) := by rw [low, low1, Nat.mul_comm]; exact hc0
      have q1 : wr.cell? ⟨b, off + k * 5 + 1, none⟩ = some (.int .i64 x.n) := by rw [low, low1, Nat.mul_comm]; exact hc1
      have q2 : wr.cell? ⟨b, off + k * 5 + 2, none⟩ = some (.string x.name) := by rw [low, low1, Nat.mul_comm]; exact hc2
      have q3 : wr.cell? ⟨b, off + k * 5 + 3, none⟩ = some (.string x.value) := by rw [low, low1, Nat.mul_comm]; exact hc3
      have q4 : wr.cell? ⟨b, off + k * 5 + 4, none⟩ = some (.slice xa x.args.length xc) := by rw [low, low1, Nat.mul_comm]; exact hc4
      have htw : Txt wr (.slice xa x.args.length xc) x.args := (htx.stay HB1.out).stay ⟨hbw.os, hbw.tape, hbw.output, hbw.size, hbw.block⟩
      have HTW := Lib.hid htw; have HX2 := Lib.hid hx2; have HTX1 := Lib.hid (htx.stay HB1.out); have HXN := Lib.hid (show xa = none → xc = 0 from fun e => hxn _ _ (by rw [e]))
      clear hc0 hc1 hc2 hc3 hc4 htx hxn hsc hbox hrf hinv hbw low low1 htw hx hx2
      go_wp2_with fail
      refine (great_any x _ _ (HTW.out.stay (below_alloc _ _)) hx1 HX2.out hx3 hx4).mono ?_
      rintro e w2 ⟨rfl, hb2⟩
      have hact := (hb2.block wr.heap.size (by simp [World.size_alloc])).trans (heap_alloc_new wr _)
      have hb02 : Below wr.heap.size wr w2 := (below_alloc wr _).trans (hb2.mono (by simp [World.size_alloc]))
      have HACT := Lib.hid hact; have HB02 := Lib.hid hb02
      have d0 := cell_of_row _ _ 0 _ _ _ hact
      simp at d0
      clear hact hb02 hb2 q0 q1 q2 q3 q4
      cases hg : gr x
      · go_upto_block 2 with fail
        go_cut [9, 10, 11, 12, 13, 14, 15, 16, 17] from 47 to 152 (fun _ _ _ _ _ _ _ _ _ wx => ∃ (S' : St) (mv' av' vv' rv' : Value), Sc wx w1.heap.size w1.heap.size S' mv' av' ∧
          wx.heap[w1.heap.size + 1]? = some (.cells #[vv', rv', .int .i64 S'.st, .int .i64 S'.la] 31 (0, 0)) ∧ Rf wx w1.heap.size mv' av' vv' rv' S'.vs S'.args ∧ Inv (k + 1) S' ∧
          wx.heap[wr.heap.size]? = some (.cells #[.int .i64 x.kind, .int .i64 x.n, .string x.name, .string x.value, .slice xa x.args.length xc] 33 (0, 0)) ∧ Below w1.heap.size w1 wx)
        case first =>
          have HSCa := Lib.hid (HSC.out.stay HB02.out); have HRFa := Lib.hid (HRF.out.stay HB02.out)
          have HBXa := Lib.hid ((HB02.out.block _ (Array.getElem?_eq_some_iff.1 HBX.out).1).trans HBX.out)
          have HBa := Lib.hid (HB.out.trans (HB02.out.mono HB.out.size))
          have hgs : x.name.size + x.value.size + sumT x.args ≤ 2000 := by have := of_decide_eq_false hg; omega
          clear HSC HRF HBX HB HB02 HTW HX2 hx1 hx3 hx4 hg
          obtain ⟨xk, xn, xm, xv, xs⟩ := x
          have hlt1 := (Array.getElem?_eq_some_iff.1 HBXa.out).1
          have hne1 : w1.heap.size ≠ wr.heap.size := by have := HSCa.out.cells; intro e; rw [e] at this; rw [HACT.out] at this; injection this with this; injection this with _ h2; exact absurd h2 (by decide)
          have hne2 : w1.heap.size + 1 ≠ wr.heap.size := by have := HBXa.out; intro e; rw [e] at this; rw [HACT.out] at this; injection this with this; injection this with _ h2; exact absurd h2 (by decide)
          have d1 := cell_of_row _ _ 1 _ _ _ HACT.out
          have d2 := cell_of_row _ _ 2 _ _ _ HACT.out
          have d3 := cell_of_row _ _ 3 _ _ _ HACT.out
          have d4 := cell_of_row _ _ 4 _ _ _ HACT.out
          simp only at d0 hgs hx5 hx6
          simp at d1 d2 d3 d4
          have HNE1 := Lib.hid hne1; have HNE2 := Lib.hid hne2
          clear hne1 hne2
          have hgood := HIN.out.good (by omega)
          have HGD := Lib.hid hgood
          have HT2 := Lib.hid (HT.out.stay (HB1.out.trans (HBa.out.mono HB1.out.size)))
          have hq2 := Nat.le_of_lt HSCa.out.lt
          clear hgood
          by_cases k0 : xk = 0
          · subst k0
            go_wp2_with fail
            refine (set_any S _ _ xm xv w2 mv av HSCa.out hq2 (by unfold maxLen; omega) (by unfold maxLen; omega) HIN.out.srt (by have := HIN.out.nvs; omega)).mono ?_
            rintro e w3 ⟨rfl, mv3, hsc3, hk3, hm3⟩
            have HSC3 := Lib.hid hsc3
            have HB3 := Lib.hid (HBa.out.trans (HSCa.out.belowOf hk3))
            have hrf3 := HRFa.out.after hk3 hm3 (.inl rfl)
            have hbx3 := hk3.other HSCa.out.vars HSCa.out.args (by decide) HBXa.out (by omega)
            have hact3 := hk3.other HSCa.out.vars HSCa.out.args (by decide) HACT.out (Ne.symm HNE1.out)
            have HRF3 := Lib.hid hrf3; have HBX3 := Lib.hid hbx3; have HACT3 := Lib.hid hact3
            obtain ⟨e1, e2, e3, rfl⟩ := hrf3.prs.shape
            obtain ⟨e4, e5, e6, rfl⟩ := hrf3.txt.shape
            have b0 := cell_of_row _ _ 0 _ _ _ hbx3
            have b1 := cell_of_row _ _ 1 _ _ _ hbx3
            have b2 := cell_of_row _ _ 2 _ _ _ hbx3
            have b3 := cell_of_row _ _ 3 _ _ _ hbx3
            have d2 := cell_of_row _ _ 2 _ _ _ hact3
            have d3 := cell_of_row _ _ 3 _ _ _ hact3
            simp at b0 b1 b2 b3 d2 d3
            clear hsc3 hrf3 hbx3 hact3 hk3 hm3 d0 d1 d4
            cases hnm : nameL (bs xm)
            · have HNM := Lib.hid hnm
              clear hnm
              go_wp2_with fail
              refine (rset_no S xm xv _ _ w3 ⟨_, _, _, rfl⟩ ⟨_, _, _, rfl⟩ (by omega) HNM.out).mono ?_
              rintro e w4 ⟨hb4, rfl⟩
              have HB4 := Lib.hid hb4
              clear hb4 d2 d3 b0 b1 b2 b3
              have hbx4 := (HB4.out.block _ (Array.getElem?_eq_some_iff.1 HBX3.out).1).trans HBX3.out
              have hact4 := (HB4.out.block _ (Array.getElem?_eq_some_iff.1 HACT3.out).1).trans HACT3.out
              have f0 := frozen_of_row _ _ 0 _ _ hbx4
              have f1 := frozen_of_row _ _ 1 _ _ hbx4
              have f2 := frozen_of_row _ _ 2 _ _ hbx4
              have f3 := frozen_of_row _ _ 3 _ _ hbx4
              have b0 := cell_of_row _ _ 0 _ _ _ hbx4
              have b1 := cell_of_row _ _ 1 _ _ _ hbx4
              have b2 := cell_of_row _ _ 2 _ _ _ hbx4
              have b3 := cell_of_row _ _ 3 _ _ _ hbx4
              simp at b0 b1 b2 b3
              have HP := Lib.hid (put4 hbx4 (.slice e1 e2 e3) (.slice e4 e5 e6) (.int .i64 S.st) (.int .i64 S.la))
              have d5 := cell_of_row _ _ 2 _ _ _ ((HP.out.other _ (Ne.symm HNE2.out)).trans hact4)
              simp only [List.getElem?_toArray, List.getElem?_cons_succ, List.getElem?_cons_zero] at d5
              have HBX4 := Lib.hid hbx4; have HACT4 := Lib.hid hact4
              clear hbx4 hact4
              go_wp2_with fail
              have hsame : setS S xm xv = S := by unfold setS; rw [if_neg (by rw [HNM.out]; decide)]
              generalize ((((w4.setCell ⟨w1.heap.size + 1, 0, none⟩ (.slice e1 e2 e3)).setCell ⟨w1.heap.size + 1, 1, none⟩ (.slice e4 e5 e6)).setCell ⟨w1.heap.size + 1, 2, none⟩ (.int .i64 S.st)).setCell ⟨w1.heap.size + 1, 3, none⟩ (.int .i64 S.la)) = w5 at HP d5 ⊢
              have HRF5 := Lib.hid (show Rf w5 w1.heap.size mv3 av (.slice e1 e2 e3) (.slice e4 e5 e6) S.vs S.args from
                have h4 := HRF3.out.stay HB4.out
                ⟨h4.prs.put HP.out (h4.prs.ne HBX4.out no_text), h4.txt.put HP.out (h4.txt.ne HBX4.out no_text), h4.op, h4.oa⟩)
              have HSC5 := Lib.hid (((hsame ▸ HSC3.out).stay HB4.out).putOther HP.out HBX4.out (by decide) (by omega) : Sc w5 w1.heap.size w1.heap.size S mv3 av)
              have HB5 := Lib.hid ((HB3.out.trans (HB4.out.mono HB3.out.size)).trans (HP.out.below (by omega)))
              have hact5 := (HP.out.other _ (Ne.symm HNE2.out)).trans HACT4.out
              have HACT5 := Lib.hid hact5; have HBX5 := Lib.hid HP.out.row
              clear hact5 hsame f0 f1 f2 f3 b0 b1 b2 b3 HP HBX4 HACT4 HB4 HSC3 HRF3 HBX3 HACT3 HB3
              refine (rget_any S xm _ _ w5 HRF5.out.prs HRF5.out.txt HGD.out.fit HGD.out.join (by omega)).mono ?_
              rintro e w6 ⟨rfl, hb6⟩
              have HB6 := Lib.hid hb6
              clear hb6 d5
              go_wp2_with fail
              go_meet
              exact ⟨S, mv3, av, _, _, HSC5.out.stay HB6.out, (HB6.out.block _ (Array.getElem?_eq_some_iff.1 HBX5.out).1).trans HBX5.out, HRF5.out.stay HB6.out, HIN.out.up, (HB6.out.block _ (Array.getElem?_eq_some_iff.1 HACT5.out).1).trans HACT5.out, HB5.out.trans (HB6.out.mono HB5.out.size)⟩
            · have HNM := Lib.hid hnm
              clear hnm
              go_wp2_with fail
              refine (rset_yes S xm xv _ _ w3 HRF3.out.prs ⟨_, _, _, rfl⟩ (by have := HIN.out.nvs; omega) (by omega) HNM.out).mono ?_
              rintro e w4 ⟨hb4, a5, n5, c5, hp5, ho5, rfl⟩
              have HB4 := Lib.hid hb4; have HP5 := Lib.hid hp5; have HO5 := Lib.hid ho5
              clear hb4 hp5 ho5 d2 d3 b0 b1 b2 b3
              have hbx4 := (HB4.out.block _ (Array.getElem?_eq_some_iff.1 HBX3.out).1).trans HBX3.out
              have hact4 := (HB4.out.block _ (Array.getElem?_eq_some_iff.1 HACT3.out).1).trans HACT3.out
              have f0 := frozen_of_row _ _ 0 _ _ hbx4
              have f1 := frozen_of_row _ _ 1 _ _ hbx4
              have f2 := frozen_of_row _ _ 2 _ _ hbx4
              have f3 := frozen_of_row _ _ 3 _ _ hbx4
              have b0 := cell_of_row _ _ 0 _ _ _ hbx4
              have b1 := cell_of_row _ _ 1 _ _ _ hbx4
              have b2 := cell_of_row _ _ 2 _ _ _ hbx4
              have b3 := cell_of_row _ _ 3 _ _ _ hbx4
              simp at b0 b1 b2 b3
              have HP := Lib.hid (put4 hbx4 (.slice a5 n5 c5) (.slice e4 e5 e6) (.int .i64 S.st) (.int .i64 S.la))
              have d5 := cell_of_row _ _ 2 _ _ _ ((HP.out.other _ (Ne.symm HNE2.out)).trans hact4)
              simp only [List.getElem?_toArray, List.getElem?_cons_succ, List.getElem?_cons_zero] at d5
              have HBX4 := Lib.hid hbx4; have HACT4 := Lib.hid hact4
              clear hbx4 hact4
              go_wp2_with fail
              have hsame : setS S xm xv = { S with vs := setV S.vs xm xv } := by unfold setS; rw [if_pos HNM.out]
              have hinv : Inv (k + 1) (setS S xm xv) := HIN.out.set xm xv (by omega) (by omega)
              rw [hsame] at hinv
              have hval : val { S with vs := setV S.vs xm xv } xm = some xv := by rw [val_name _ _ HNM.out]; simp only; rw [get_set, if_pos rfl]
              have HVAL := Lib.hid hval; have HINV := Lib.hid hinv; have HGD2 := Lib.hid (hinv.good (by omega))
              have hsc3 := HSC3.out
              rw [hsame] at hsc3
              generalize ((((w4.setCell ⟨w1.heap.size + 1, 0, none⟩ (.slice a5 n5 c5)).setCell ⟨w1.heap.size + 1, 1, none⟩ (.slice e4 e5 e6)).setCell ⟨w1.heap.size + 1, 2, none⟩ (.int .i64 S.st)).setCell ⟨w1.heap.size + 1, 3, none⟩ (.int .i64 S.la)) = w5 at HP d5 ⊢
              have HRF5 := Lib.hid (show Rf w5 w1.heap.size mv3 av (.slice a5 n5 c5) (.slice e4 e5 e6) (setV S.vs xm xv) S.args from
                have h4 := HRF3.out.stay HB4.out
                ⟨HP5.out.put HP.out (HP5.out.ne HBX4.out no_text), h4.txt.put HP.out (h4.txt.ne HBX4.out no_text), fun _ => HSC3.out.off HO5.out, h4.oa⟩)
              have HSC5 := Lib.hid ((hsc3.stay HB4.out).putOther HP.out HBX4.out (by decide) (by omega))
              have HB5 := Lib.hid ((HB3.out.trans (HB4.out.mono HB3.out.size)).trans (HP.out.below (by omega)))
              have hact5 := (HP.out.other _ (Ne.symm HNE2.out)).trans HACT4.out
              have HACT5 := Lib.hid hact5; have HBX5 := Lib.hid HP.out.row
              clear hact5 hsame f0 f1 f2 f3 b0 b1 b2 b3 HP HBX4 HACT4 HB4 HSC3 HRF3 HBX3 HACT3 HB3 hval hinv hsc3 HP5 HO5
              refine (rget_any { S with vs := setV S.vs xm xv } xm _ _ w5 HRF5.out.prs HRF5.out.txt HGD2.out.fit HGD2.out.join (by omega)).mono ?_
              rintro e w6 ⟨rfl, hb6⟩
              rw [HVAL.out]
              have HB6 := Lib.hid hb6
              clear hb6 d5
              go_wp2_with fail
              go_meet
              exact ⟨{ S with vs := setV S.vs xm xv }, mv3, av, _, _, HSC5.out.stay HB6.out, (HB6.out.block _ (Array.getElem?_eq_some_iff.1 HBX5.out).1).trans HBX5.out, HRF5.out.stay HB6.out, HINV.out, (HB6.out.block _ (Array.getElem?_eq_some_iff.1 HACT5.out).1).trans HACT5.out, HB5.out.trans (HB6.out.mono HB5.out.size)⟩
          by_cases k1 : xk = 1
          · subst k1
            have hxl : xs.length ≤ 2000 := by have := sum_len xs; omega
            have d5 := cell_of_row _ _ 4 _ _ _ ((Below.heap_alloc w2 (.cells #[] 9) _ (Array.getElem?_eq_some_iff.1 HACT.out).1).trans HACT.out)
            simp only [List.getElem?_toArray, List.getElem?_cons_succ, List.getElem?_cons_zero] at d5
            go_wp2_with (at_builtin; refine wpList_append_txt rfl _ _ rfl w2.heap.size _ 0 [] rfl (own_lit w2 w2.heap.size 9 [] (Nat.le_refl _) (by decide)) xa xc xs rfl ?c1 HXN.out ?c2 ?c3 ?c4 ?_)
            case c1 => exact (HTX1.out.stay HBa.out).stay (below_alloc _ _)
            case c2 => unfold maxLen; omega
            case c3 => omega
            intro v3 w3 hown hg
            have hrow : RowAt w3 w2.heap.size v3 xs := RowAt.ofOwn (by simpa using hown)
            have hb3 : Below w2.heap.size w2 w3 := (below_alloc w2 _).grown hg (by simp [World.size_alloc]) (fun j e => by cases e; exact Nat.le_refl _)
            clear hown hg
            obtain ⟨a3, n3, c3, rfl, rfl⟩ := hrow.len
            have HROW := Lib.hid hrow; have HB3 := Lib.hid hb3
            clear hrow hb3
            go_wp2_with fail
            refine (setArgs_any S _ _ xs w3 mv av _ (HSCa.out.stay HB3.out) (Nat.le_trans hq2 HB3.out.size) HROW.out.txt (by omega)).mono ?_
            rintro e w4 ⟨rfl, av4, hsc4, hk4, hn4⟩
            have HSC4 := Lib.hid hsc4; have HN4 := Lib.hid hn4
            have HOFF : Hid (Offv (.slice a3 xs.length c3) w1.heap.size mv av) := Lib.hid (HSCa.out.off (fun j e => (HROW.out.own j e).1))
            have HROW4 := Lib.hid (HROW.out.stay (fun j e => hk4.block j (HROW.out.own j e).2 (HOFF.out j e).1 (HOFF.out j e).2.1 (HOFF.out j e).2.2))
            have HOFF4 : Hid (Offv (.slice a3 xs.length c3) w1.heap.size mv av4) := Lib.hid (fun j e => ⟨(HOFF.out j e).1, (HOFF.out j e).2.1, fun e2 => by have := HN4.out j e2; have := (HROW.out.own j e).2; omega⟩)
            have hsc3 := HSCa.out.stay HB3.out
            have HRF4 := Lib.hid ((HRFa.out.stay HB3.out).after hk4 (.inl rfl) (.inr hn4))
            have HBX4 := Lib.hid (hk4.other hsc3.vars hsc3.args (by decide) ((HB3.out.block _ (Array.getElem?_eq_some_iff.1 HBXa.out).1).trans HBXa.out) (by omega))
            have HACT4 := Lib.hid (hk4.other hsc3.vars hsc3.args (by decide) ((HB3.out.block _ (Array.getElem?_eq_some_iff.1 HACT.out).1).trans HACT.out) (Ne.symm HNE1.out))
            have HB4 := Lib.hid ((HBa.out.trans (HB3.out.mono HBa.out.size)).trans (hsc3.belowOf hk4))
            have HLT : Hid (∀ j, (Value.slice a3 xs.length c3).ownBlock = some j → w2.heap.size ≤ j ∧ j < w4.heap.size) := Lib.hid (fun j e => ⟨(HROW.out.own j e).1, Nat.lt_of_lt_of_le (HROW.out.own j e).2 hk4.size⟩)
            have hact2 := (Array.getElem?_eq_some_iff.1 HACT.out).1
            clear hsc4 hk4 hn4 hsc3 d0 d1 d2 d3 d4
            obtain ⟨e1, e2, e3, rfl⟩ := HRFa.out.prs.shape
            obtain ⟨e4, e5, e6, rfl⟩ := HRFa.out.txt.shape
            go_wp2_with fail
            have hstart : ∀ j, 0 ≤ j → j < xs.length → ∃ (g off : Nat) (cur : Array Value) (y : ByteArray), a3 = some ⟨g, off, none⟩ ∧ w4.heap[g]? = some (.cells cur 9 (0, 0)) ∧ cur[off + j]? = some (.string y) ∧ y.size ≤ 2000 := by
              intro j _ hj
              rcases HROW4.out with ⟨_, h⟩ | ⟨g, off, cap', cur, he, _, _, _, _, hh, h4⟩
              · rw [h] at hj; simp at hj
              · cases he
                exact ⟨g, off, cur, xs[j], rfl, hh, h4 j _ (List.getElem?_eq_getElem hj), by have := sum_mem (List.getElem_mem hj); omega⟩
            have HST := Lib.hid hstart
            clear hstart
            go_loopw [84] (fun i wy => ∃ m : Nat, m ≤ xs.length ∧ i = .int .i64 m ∧ But w4 wy (.slice a3 xs.length c3) ∧ ∀ j, m ≤ j → j < xs.length → ∃ (g off : Nat) (cur : Array Value) (y : ByteArray), a3 = some ⟨g, off, none⟩ ∧ wy.heap[g]? = some (.cells cur 9 (0, 0)) ∧ cur[off + j]? = some (.string y) ∧ y.size ≤ 2000) (fun i _ => xs.length - (intOf i).toNat)
            case atStart => exact ⟨0, Nat.zero_le _, rfl, But.refl _ _, HST.out⟩
            case round =>
              obtain ⟨m, hm, rfl, hbt, hall⟩ := hrel
              have HBT := Lib.hid hbt; have HALL := Lib.hid hall
              clear hbt hall
              rcases Nat.lt_or_ge m xs.length with hlt5 | hge5
              · obtain ⟨g, off3, cur, y, ha3, hg3, hc3, hy3⟩ := HALL.out m (Nat.le_refl _) hlt5
                subst ha3
                have q5 := cell_of_row _ _ (off3 + m) _ _ _ hg3
                rw [hc3] at q5
                have q6 := frozen_of_row _ _ (off3 + m) _ _ hg3
                have HG3 := Lib.hid hg3; have HC3 := Lib.hid hc3
                clear hg3 hc3
                go_wp2_with fail
                go_roundw
                case rel =>
                  have hp := Put.one HG3.out (.string (y ++ ⟨#[120]⟩)) (i := off3 + m) HC3.out
                  refine ⟨m + 1, by omega, by go_num, HBT.out.put hp rfl, fun j h1 h2 => ?_⟩
                  obtain ⟨g', off', cur', y', ha', hg', hc', hy'⟩ := HALL.out j (by omega) h2
                  cases ha'
                  rw [HG3.out] at hg'
                  injection hg' with hg'; injection hg' with hg' _
                  subst hg'
                  refine ⟨g, off3, _, y', rfl, hp.row, ?_, hy'⟩
                  rw [Array.getElem?_setIfInBounds_ne (by omega)]; exact hc'
                case measure => simp [intOf]; omega
              · obtain rfl : m = xs.length := by omega
                have HSW := Lib.hid (HSC4.out.but HBT.out HOFF4.out)
                have hbxw := (HBT.out.other (Array.getElem?_eq_some_iff.1 HBX4.out).1 (fun e => by have := (HLT.out _ e).1; omega)).trans HBX4.out
                have hactw := (HBT.out.other (Array.getElem?_eq_some_iff.1 HACT4.out).1 (fun e => by have := (HLT.out _ e).1; omega)).trans HACT4.out
                have HPW := Lib.hid (HRF4.out.prs.but HBT.out (fun hne j e e2 => by have := HRFa.out.prs.lt hne j e; have := (HLT.out j e2).1; omega))
                have hq4 := HSC4.out.lt
                have HBW := Lib.hid (HB4.out.trans (HBT.out.below (Nat.le_of_lt hq4) (fun j e => by have := (HLT.out j e).1; omega)))
                have d5 := cell_of_row _ _ 4 _ _ _ ((Below.heap_alloc wr (.cells #[] 9) _ (Array.getElem?_eq_some_iff.1 hactw).1).trans hactw)
                simp only [List.getElem?_toArray, List.getElem?_cons_succ, List.getElem?_cons_zero] at d5
                have HBXW := Lib.hid hbxw; have HACTW := Lib.hid hactw
                have hqw := HSW.out.lt
                clear hbxw hactw
                go_wp2_with (at_builtin; refine wpList_append_txt rfl _ _ rfl wr.heap.size _ 0 [] rfl (own_lit wr wr.heap.size 9 [] (Nat.le_refl _) (by decide)) xa xc xs rfl ?e1 HXN.out ?e2 ?e3 ?e4 ?_)
                case e1 => exact (HTX1.out.stay HBW.out).stay (below_alloc _ _)
                case e2 => unfold maxLen; omega
                case e3 => omega
                case e4 => simp [World.size_alloc]
                intro v6 w6 hown hg
                have hrow : RowAt w6 wr.heap.size v6 xs := RowAt.ofOwn (by simpa using hown)
                have hb6 : Below wr.heap.size wr w6 := (below_alloc wr _).grown hg (by simp [World.size_alloc]) (fun j e => by cases e; exact Nat.le_refl _)
                clear hown hg
                obtain ⟨a6, n6, c6, rfl, rfl⟩ := hrow.len
                have HROW6 := Lib.hid hrow; have HB6 := Lib.hid hb6
                have hbx6 := (hb6.block _ (Array.getElem?_eq_some_iff.1 HBXW.out).1).trans HBXW.out
                have hact6 := (hb6.block _ (Array.getElem?_eq_some_iff.1 HACTW.out).1).trans HACTW.out
                have f1 := frozen_of_row _ _ 1 _ _ hbx6
                have b1 := cell_of_row _ _ 1 _ _ _ hbx6
                simp at b1
                have HP := Lib.hid (Put.one hbx6 (.slice a6 xs.length c6) (i := 1) rfl)
                have HBX6 := Lib.hid hbx6; have HACT6 := Lib.hid hact6
                clear hrow hb6 hbx6 hact6 d5
                go_wp2_with fail
                go_meet
                refine ⟨{ S with args := xs }, mv, av4, _, _, (HSW.out.stay HB6.out).putOther HP.out HBX6.out (by decide) (by omega), HP.out.row, ⟨(HPW.out.stay HB6.out).put HP.out ((HPW.out.stay HB6.out).ne HBX6.out no_text), HROW6.out.txt.put HP.out (HROW6.out.txt.ne HBX6.out no_text), HRF4.out.op, fun _ => HSW.out.off (fun j e => (HROW6.out.own j e).1)⟩,
                  { HIN.out.up with args := by show sumT xs ≤ 2000; omega }, (HP.out.other _ (Ne.symm HNE2.out)).trans HACT6.out, (HBW.out.trans (HB6.out.mono (Nat.le_of_lt hqw))).trans (HP.out.below (by omega))⟩
          by_cases k2 : xk = 2
          · subst k2
            have hdrop : Inv (k + 1) { S with args := S.args.drop xn.toNat } := { HIN.out.up with args := Nat.le_trans (sum_drop _ _) HIN.out.args }
            have HDROP := Lib.hid hdrop
            clear hdrop
            obtain ⟨e1, e2, e3, rfl⟩ := HRFa.out.prs.shape
            obtain ⟨e4, e5, e6, rfl⟩ := HRFa.out.txt.shape
            by_cases hsh : 0 ≤ xn ∧ xn ≤ S.args.length
            · have hsa := shift_any S _ _ xn w2 mv av HSCa.out HGD.out.fit.nargs
              rw [if_pos hsh, decide_eq_true hsh] at hsa
              have HSA := Lib.hid hsa
              clear hsa
              go_wp2_with fail
              refine HSA.out.mono ?_
              rintro e w3 ⟨rfl, av3, hsc3, hk3, hm3⟩
              have HSC3 := Lib.hid hsc3
              have HB3 := Lib.hid (HBa.out.trans (HSCa.out.belowOf hk3))
              have hrf3 := HRFa.out.after hk3 (.inl rfl) (.inl hm3)
              have hbx3 := hk3.other HSCa.out.vars HSCa.out.args (by decide) HBXa.out (by omega)
              have hact3 := hk3.other HSCa.out.vars HSCa.out.args (by decide) HACT.out (Ne.symm HNE1.out)
              have HRF3 := Lib.hid hrf3; have HBX3 := Lib.hid hbx3; have HACT3 := Lib.hid hact3
              have d1 := cell_of_row _ _ 1 _ _ _ hact3
              have b0 := cell_of_row _ _ 0 _ _ _ hbx3
              have b1 := cell_of_row _ _ 1 _ _ _ hbx3
              have b2 := cell_of_row _ _ 2 _ _ _ hbx3
              have b3 := cell_of_row _ _ 3 _ _ _ hbx3
              simp at b0 b1 b2 b3 d1
              clear hsc3 hbx3 hact3 hk3 hm3 d0 d2 d3 d4
              have hra := rshift_any S xn (.slice e1 e2 e3) (.slice e4 e5 e6) w3 ⟨_, _, _, rfl⟩ hrf3.txt HGD.out.fit.nargs
              rw [if_pos hsh, decide_eq_true hsh] at hra
              have HRA := Lib.hid hra; have HSH := Lib.hid hsh
              clear hra hsh hrf3
              go_wp2_with fail
              refine HRA.out.mono ?_
              rintro e w4 ⟨hb4, av4, ht4, ⟨a4, n4, c4, rfl⟩, ho4, rfl⟩
              have HB4 := Lib.hid hb4; have HT4 := Lib.hid (ht4.stay hb4); have HO4 := Lib.hid ho4
              have hbx4' := (hb4.block _ (Array.getElem?_eq_some_iff.1 HBX3.out).1).trans HBX3.out
              have hbx4 := (Below.heap_alloc w4 (.cells #[.slice e1 e2 e3, .slice a4 n4 c4, .int .i64 S.st, .int .i64 S.la] 31) _ (Array.getElem?_eq_some_iff.1 hbx4').1).trans hbx4'
              have hact4 := (hb4.block _ (Array.getElem?_eq_some_iff.1 HACT3.out).1).trans HACT3.out
              have HBX4 := Lib.hid hbx4; have HACT4 := Lib.hid hact4
              have f0 := frozen_of_row _ _ 0 _ _ hbx4
              have f1 := frozen_of_row _ _ 1 _ _ hbx4
              have f2 := frozen_of_row _ _ 2 _ _ hbx4
              have f3 := frozen_of_row _ _ 3 _ _ hbx4
              have b0 := cell_of_row _ _ 0 _ _ _ hbx4
              have b1 := cell_of_row _ _ 1 _ _ _ hbx4
              have b2 := cell_of_row _ _ 2 _ _ _ hbx4
              have b3 := cell_of_row _ _ 3 _ _ _ hbx4
              simp at b0 b1 b2 b3
              clear hb4 ht4 ho4 hbx4 hbx4' hact4 d1
              go_wp2_with fail
              have HP := Lib.hid (put4 HBX4.out (.slice e1 e2 e3) (.slice a4 n4 c4) (.int .i64 S.st) (.int .i64 S.la))
              have HBA := Lib.hid (below_alloc w4 (.cells #[.slice e1 e2 e3, .slice a4 n4 c4, .int .i64 S.st, .int .i64 S.la] 31))
              generalize (w4.alloc (.cells #[.slice e1 e2 e3, .slice a4 n4 c4, .int .i64 S.st, .int .i64 S.la] 31)) = w5 at HP HBA HBX4 f0 f1 f2 f3 b0 b1 b2 b3 ⊢
              go_meet
              have hn3 : w1.heap.size < w3.heap.size := HSC3.out.lt
              have h3 := (HRF3.out.stay HB4.out).stay HBA.out
              have h5 : Txt w5 (.slice a4 n4 c4) (S.args.drop xn.toNat) := HT4.out.stay HBA.out
              refine ⟨{ S with args := S.args.drop xn.toNat }, mv, av3, _, _, ((HSC3.out.stay HB4.out).stay HBA.out).putOther HP.out HBX4.out (by decide) (by omega), HP.out.row, ⟨h3.prs.put HP.out (h3.prs.ne HBX4.out no_text), h5.put HP.out (h5.ne HBX4.out no_text), h3.op, ?_⟩,
                HDROP.out, (HP.out.other _ (Ne.symm HNE2.out)).trans ((HBA.out.block _ (Array.getElem?_eq_some_iff.1 HACT4.out).1).trans HACT4.out), ((HB3.out.trans (HB4.out.mono HB3.out.size)).trans (HBA.out.mono (Nat.le_trans HB3.out.size HB4.out.size))).trans (HP.out.below (by omega))⟩
              intro hne j e
              refine h3.oa (fun h0 => hne (by simp [h0])) j (HO4.out.symm.trans e)
            · have hsa := shift_any S _ _ xn w2 mv av HSCa.out HGD.out.fit.nargs
              rw [if_neg hsh, decide_eq_false hsh] at hsa
              have HSA := Lib.hid hsa
              clear hsa
              go_wp2_with fail
              refine HSA.out.mono ?_
              rintro e w3 ⟨rfl, av3, hsc3, hk3, hm3⟩
              have HSC3 := Lib.hid hsc3
              have HB3 := Lib.hid (HBa.out.trans (HSCa.out.belowOf hk3))
              have hrf3 := HRFa.out.after hk3 (.inl rfl) (.inl hm3)
              have hbx3 := hk3.other HSCa.out.vars HSCa.out.args (by decide) HBXa.out (by omega)
              have hact3 := hk3.other HSCa.out.vars HSCa.out.args (by decide) HACT.out (Ne.symm HNE1.out)
              have HRF3 := Lib.hid hrf3; have HBX3 := Lib.hid hbx3; have HACT3 := Lib.hid hact3
              have d1 := cell_of_row _ _ 1 _ _ _ hact3
              have b0 := cell_of_row _ _ 0 _ _ _ hbx3
              have b1 := cell_of_row _ _ 1 _ _ _ hbx3
              have b2 := cell_of_row _ _ 2 _ _ _ hbx3
              have b3 := cell_of_row _ _ 3 _ _ _ hbx3
              simp at b0 b1 b2 b3 d1
              clear hsc3 hbx3 hact3 hk3 hm3 d0 d2 d3 d4
              have hra := rshift_any S xn (.slice e1 e2 e3) (.slice e4 e5 e6) w3 ⟨_, _, _, rfl⟩ hrf3.txt HGD.out.fit.nargs
              rw [if_neg hsh, decide_eq_false hsh] at hra
              have HRA := Lib.hid hra; have HSH := Lib.hid hsh
              clear hra hsh hrf3
              go_wp2_with fail
              refine HRA.out.mono ?_
              rintro e w4 ⟨hb4, av4, ht4, ⟨a4, n4, c4, rfl⟩, ho4, rfl⟩
              have HB4 := Lib.hid hb4; have HT4 := Lib.hid (ht4.stay hb4); have HO4 := Lib.hid ho4
              have hbx4' := (hb4.block _ (Array.getElem?_eq_some_iff.1 HBX3.out).1).trans HBX3.out
              have hbx4 := (Below.heap_alloc w4 (.cells #[.slice e1 e2 e3, .slice a4 n4 c4, .int .i64 S.st, .int .i64 S.la] 31) _ (Array.getElem?_eq_some_iff.1 hbx4').1).trans hbx4'
              have hact4 := (hb4.block _ (Array.getElem?_eq_some_iff.1 HACT3.out).1).trans HACT3.out
              have HBX4 := Lib.hid hbx4; have HACT4 := Lib.hid hact4
              have f0 := frozen_of_row _ _ 0 _ _ hbx4
              have f1 := frozen_of_row _ _ 1 _ _ hbx4
              have f2 := frozen_of_row _ _ 2 _ _ hbx4
              have f3 := frozen_of_row _ _ 3 _ _ hbx4
              have b0 := cell_of_row _ _ 0 _ _ _ hbx4
              have b1 := cell_of_row _ _ 1 _ _ _ hbx4
              have b2 := cell_of_row _ _ 2 _ _ _ hbx4
              have b3 := cell_of_row _ _ 3 _ _ _ hbx4
              simp at b0 b1 b2 b3
              clear hb4 ht4 ho4 hbx4 hbx4' hact4 d1
              go_wp2_with fail
              have HP := Lib.hid (put4 HBX4.out (.slice e1 e2 e3) (.slice a4 n4 c4) (.int .i64 S.st) (.int .i64 S.la))
              have HBA := Lib.hid (below_alloc w4 (.cells #[.slice e1 e2 e3, .slice a4 n4 c4, .int .i64 S.st, .int .i64 S.la] 31))
              generalize (w4.alloc (.cells #[.slice e1 e2 e3, .slice a4 n4 c4, .int .i64 S.st, .int .i64 S.la] 31)) = w5 at HP HBA HBX4 f0 f1 f2 f3 b0 b1 b2 b3 ⊢
              go_meet
              have hn3 : w1.heap.size < w3.heap.size := HSC3.out.lt
              have h3 := (HRF3.out.stay HB4.out).stay HBA.out
              have h5 : Txt w5 (.slice a4 n4 c4) S.args := HT4.out.stay HBA.out
              refine ⟨S, mv, av3, _, _, ((HSC3.out.stay HB4.out).stay HBA.out).putOther HP.out HBX4.out (by decide) (by omega), HP.out.row, ⟨h3.prs.put HP.out (h3.prs.ne HBX4.out no_text), h5.put HP.out (h5.ne HBX4.out no_text), h3.op, ?_⟩,
                HIN.out.up, (HP.out.other _ (Ne.symm HNE2.out)).trans ((HBA.out.block _ (Array.getElem?_eq_some_iff.1 HACT4.out).1).trans HACT4.out), ((HB3.out.trans (HB4.out.mono HB3.out.size)).trans (HBA.out.mono (Nat.le_trans HB3.out.size HB4.out.size))).trans (HP.out.below (by omega))⟩
              intro hne j e
              refine h3.oa (fun h0 => hne (by simp [h0])) j (HO4.out.symm.trans e)
          by_cases k3 : xk = 3
          · subst k3
            go_wp2_with fail
            refine (setStatus_any S _ _ xn w2 mv av HSCa.out).mono ?_
            rintro e w3 ⟨rfl, hsc3, hk3⟩
            have HSC3 := Lib.hid hsc3
            have HB3 := Lib.hid (HBa.out.trans (HSCa.out.belowOf hk3))
            have hrf3 := HRFa.out.after hk3 (.inl rfl) (.inl rfl)
            have hbx3 := hk3.other HSCa.out.vars HSCa.out.args (by decide) HBXa.out (by omega)
            have hact3 := hk3.other HSCa.out.vars HSCa.out.args (by decide) HACT.out (Ne.symm HNE1.out)
            have HRF3 := Lib.hid hrf3; have HBX3 := Lib.hid hbx3; have HACT3 := Lib.hid hact3
            obtain ⟨e1, e2, e3, rfl⟩ := hrf3.prs.shape
            obtain ⟨e4, e5, e6, rfl⟩ := hrf3.txt.shape
            have f0 := frozen_of_row _ _ 2 _ _ hbx3
            have b0 := cell_of_row _ _ 2 _ _ _ hbx3
            have d1 := cell_of_row _ _ 1 _ _ _ hact3
            simp at b0 d1
            have HP := Lib.hid (Put.one hbx3 (.int .i64 xn) (i := 2) rfl)
            clear hsc3 hrf3 hbx3 hact3 hk3 d0 d2 d3 d4
            go_wp2_with fail
            go_meet
            refine ⟨{ S with st := xn }, mv, av, _, _, HSC3.out.putOther HP.out HBX3.out (by decide) (by omega), HP.out.row, ⟨HRF3.out.prs.put HP.out (HRF3.out.prs.ne HBX3.out no_text), HRF3.out.txt.put HP.out (HRF3.out.txt.ne HBX3.out no_text), HRF3.out.op, HRF3.out.oa⟩,
              { HIN.out.up with st0 := hx5.1, st1 := hx5.2 }, (HP.out.other _ (Ne.symm HNE2.out)).trans HACT3.out, HB3.out.trans (HP.out.below (by omega))⟩
          by_cases k4 : xk = 4
          · subst k4
            go_wp2_with fail
            refine (setLast_any S _ _ xn w2 mv av HSCa.out).mono ?_
            rintro e w3 ⟨rfl, hsc3, hk3⟩
            have HSC3 := Lib.hid hsc3
            have HB3 := Lib.hid (HBa.out.trans (HSCa.out.belowOf hk3))
            have hrf3 := HRFa.out.after hk3 (.inl rfl) (.inl rfl)
            have hbx3 := hk3.other HSCa.out.vars HSCa.out.args (by decide) HBXa.out (by omega)
            have hact3 := hk3.other HSCa.out.vars HSCa.out.args (by decide) HACT.out (Ne.symm HNE1.out)
            have HRF3 := Lib.hid hrf3; have HBX3 := Lib.hid hbx3; have HACT3 := Lib.hid hact3
            obtain ⟨e1, e2, e3, rfl⟩ := hrf3.prs.shape
            obtain ⟨e4, e5, e6, rfl⟩ := hrf3.txt.shape
            have f0 := frozen_of_row _ _ 3 _ _ hbx3
            have b0 := cell_of_row _ _ 3 _ _ _ hbx3
            have d1 := cell_of_row _ _ 1 _ _ _ hact3
            simp at b0 d1
            have HP := Lib.hid (Put.one hbx3 (.int .i64 xn) (i := 3) rfl)
            clear hsc3 hrf3 hbx3 hact3 hk3 d0 d2 d3 d4
            go_wp2_with fail
            go_meet
            refine ⟨{ S with la := xn }, mv, av, _, _, HSC3.out.putOther HP.out HBX3.out (by decide) (by omega), HP.out.row, ⟨HRF3.out.prs.put HP.out (HRF3.out.prs.ne HBX3.out no_text), HRF3.out.txt.put HP.out (HRF3.out.txt.ne HBX3.out no_text), HRF3.out.op, HRF3.out.oa⟩,
              { HIN.out.up with la0 := hx5.1, la1 := hx5.2 }, (HP.out.other _ (Ne.symm HNE2.out)).trans HACT3.out, HB3.out.trans (HP.out.below (by omega))⟩
          by_cases k5 : xk = 5
          · subst k5
            go_wp2_with fail
            refine (clone_scope S _ _ w2 mv av HSCa.out HGD.out.fit.nargs).mono ?_
            rintro e w3 ⟨q3, mv3, av3, rfl, hsc3, hb3⟩
            have HSC3 := Lib.hid hsc3; have HB3 := Lib.hid hb3
            have HRF3 := Lib.hid (HRFa.out.stay hb3)
            have hbx3 := (hb3.block _ (Array.getElem?_eq_some_iff.1 HBXa.out).1).trans HBXa.out
            obtain ⟨e1, e2, e3, rfl⟩ := HRFa.out.prs.shape
            obtain ⟨e4, e5, e6, rfl⟩ := HRFa.out.txt.shape
            have b0 := cell_of_row _ _ 0 _ _ _ hbx3
            have b1 := cell_of_row _ _ 1 _ _ _ hbx3
            have b2 := cell_of_row _ _ 2 _ _ _ hbx3
            have b3 := cell_of_row _ _ 3 _ _ _ hbx3
            simp at b0 b1 b2 b3
            clear hsc3 hb3 hbx3 d0 d1 d2 d3 d4
            have hq3 := HSC3.out.base
            go_wp2_with fail
            refine (same_scope S _ q3 mv3 av3 _ _ w3 HSC3.out HRF3.out.prs HRF3.out.txt HGD.out (HT2.out.stay HB3.out)).mono ?_
            rintro e w4 ⟨rfl, hb4⟩
            have HSC4 := Lib.hid (HSC3.out.stay hb4); have HB4 := Lib.hid (HB3.out.trans (hb4.mono HB3.out.size))
            clear hb4 b0 b1 b2 b3 HSC3 HB3
            go_wp2_with fail
            refine (set_any S _ q3 ⟨#[120]⟩ ⟨#[111, 102, 32, 97, 32, 99, 108, 111, 110, 101]⟩ w4 mv3 av3 HSC4.out HB4.out.size (by decide) (by decide) HIN.out.srt (by have := HIN.out.nvs; omega)).mono ?_
            rintro e w5 ⟨rfl, mv5, hsc5, hk5, hm5⟩
            have HSC5 := Lib.hid hsc5
            have HB5 := Lib.hid (HB4.out.trans (hk5.below HB4.out.size hq3 (fun j e => (HSC4.out.vars.own j e).1) (fun j e => (HSC4.out.args.own j e).1)))
            clear hsc5 hk5 hm5
            have htx := Txt.ofOwn (xs := [⟨#[111, 102]⟩, ⟨#[97]⟩, ⟨#[99, 108, 111, 110, 101]⟩]) (own_lit w5 w5.heap.size 9 [.string ⟨#[111, 102]⟩, .string ⟨#[97]⟩, .string ⟨#[99, 108, 111, 110, 101]⟩] (Nat.le_refl _) (by decide)) rfl rfl
            have hb6 := below_alloc w5 (.cells #[.string ⟨#[111, 102]⟩, .string ⟨#[97]⟩, .string ⟨#[99, 108, 111, 110, 101]⟩] 9)
            have HTX := Lib.hid htx; have HB6 := Lib.hid hb6
            clear htx hb6
            go_wp2_with fail
            generalize (w5.alloc (.cells #[.string ⟨#[111, 102]⟩, .string ⟨#[97]⟩, .string ⟨#[99, 108, 111, 110, 101]⟩] 9)) = w6 at HTX HB6 ⊢
            have HSC6 := Lib.hid (HSC5.out.stay HB6.out)
            have HB7 := Lib.hid (HB5.out.trans (HB6.out.mono HB5.out.size))
            clear HB6 HB5 HSC5
            refine (setArgs_any _ _ q3 _ w6 mv5 av3 _ HSC6.out HB7.out.size HTX.out (by decide)).mono ?_
            rintro e w7 ⟨rfl, av7, hsc7, hk7, hm7⟩
            have HSC7 := Lib.hid hsc7
            have HB8 := Lib.hid (HB7.out.trans (hk7.below HB7.out.size hq3 (fun j e => (HSC6.out.vars.own j e).1) (fun j e => (HSC6.out.args.own j e).1)))
            clear hsc7 hk7 hm7 HB7 HSC6
            go_wp2_with fail
            refine (setStatus_any _ _ q3 77 w7 mv5 av7 HSC7.out).mono ?_
            rintro e w8 ⟨rfl, hsc8, hk8⟩
            have HB9 := Lib.hid (HB8.out.trans (hk8.below HB8.out.size hq3 (fun j e => (HSC7.out.vars.own j e).1) (fun j e => (HSC7.out.args.own j e).1)))
            clear hsc8 hk8 HB8 HSC7
            go_wp2_with fail
            go_meet
            exact ⟨S, mv, av, _, _, HSCa.out.stay HB9.out, (HB9.out.block _ (Array.getElem?_eq_some_iff.1 HBXa.out).1).trans HBXa.out, HRFa.out.stay HB9.out, HIN.out.up, (HB9.out.block _ (Array.getElem?_eq_some_iff.1 HACT.out).1).trans HACT.out, HBa.out.trans (HB9.out.mono HBa.out.size)⟩
          have t0 : (xk == 0) = false := by simp [k0]
          have t1 : (xk == 1) = false := by simp [k1]
          have t2 : (xk == 2) = false := by simp [k2]
          have t3 : (xk == 3) = false := by simp [k3]
          have t4 : (xk == 4) = false := by simp [k4]
          have t5 : (xk == 5) = false := by simp [k5]
          clear k0 k1 k2 k3 k4 k5
          go_wp2_with fail
          go_meet
          exact ⟨S, mv, av, _, _, HSCa.out, HBXa.out, HRFa.out, HIN.out.up, HACT.out, HBa.out⟩
        case rest =>
          obtain ⟨S', mv', av', vv', rv', hsc, hbox, hrf, hinv, hact, hbw⟩ := hcut
          have hk1 : k + 1 ≤ 1000 := by omega
          have hgood := hinv.good hk1
          have HSC2 := Lib.hid hsc; have HRF2 := Lib.hid hrf; have HIN2 := Lib.hid hinv; have HBX2 := Lib.hid hbox; have HACT2 := Lib.hid hact; have HBC := Lib.hid hbw; have HGD := Lib.hid hgood
          obtain ⟨e1, e2, e3, rfl⟩ := hrf.prs.shape
          obtain ⟨e4, e5, e6, rfl⟩ := hrf.txt.shape
          have HTC := Lib.hid (HT.out.stay (HB1.out.trans (hbw.mono HB1.out.size)))
          have c0 := cell_of_row _ _ 0 _ _ _ hbox
          have c1 := cell_of_row _ _ 1 _ _ _ hbox
          have c2 := cell_of_row _ _ 2 _ _ _ hbox
          have c3 := cell_of_row _ _ 3 _ _ _ hbox
          simp at c0 c1 c2 c3
          clear hsc hbox hrf hinv hact hbw hgood HSC HBX HRF HIN HB HACT HB02 HTW HX2 hx1 hx3 hx4 hx5 hx6 d0
          go_wp2_with fail
          refine (same_scope S' _ _ mv' av' _ _ wc HSC2.out HRF2.out.prs HRF2.out.txt HGD.out HTC.out).mono ?_
          rintro e w3 ⟨rfl, hb3⟩
          have hact3 := (hb3.block _ (Array.getElem?_eq_some_iff.1 HACT2.out).1).trans HACT2.out
          have d2 := cell_of_row _ _ 2 _ _ _ hact3
          simp at d2
          have HB3 := Lib.hid (HBC.out.trans (hb3.mono HBC.out.size)); have HSC3 := Lib.hid (HSC2.out.stay hb3); have HRF3 := Lib.hid (HRF2.out.stay hb3); have HT3 := Lib.hid (HTC.out.stay hb3)
          have HBX3 := Lib.hid ((hb3.block _ (Array.getElem?_eq_some_iff.1 HBX2.out).1).trans HBX2.out)
          clear hb3 hact3 c0 c1 c2 c3
          have HN3 := Lib.hid (HN.out.stay (HB1.out.trans (HB3.out.mono HB1.out.size)))
          go_wp2_with (at_builtin; refine wpList_append_txt rfl _ _ rfl w3.heap.size _ 11 _ rfl (own_lit w3 w3.heap.size 9 [.string ⟨#[48]⟩, .string ⟨#[49]⟩, .string ⟨#[50]⟩, .string ⟨#[49, 48]⟩, .string ⟨#[35]⟩, .string ⟨#[63]⟩, .string ⟨#[36]⟩, .string ⟨#[33]⟩, .string ⟨#[64]⟩, .string ⟨#[42]⟩, .string x.name] (Nat.le_refl _) (by unfold maxLen; simp)) na ncap nl rfl ?g1 HNN.out ?g2 ?g3 ?g4 ?_)
          case g1 => exact HN3.out.stay (below_alloc _ _)
          case g2 => unfold maxLen; omega
          case g3 => omega
          case g4 => simp [World.size_alloc]
          intro v4 wX hown hg
          obtain ⟨L, hL⟩ : ∃ L : List ByteArray, L = [⟨#[48]⟩, ⟨#[49]⟩, ⟨#[50]⟩, ⟨#[49, 48]⟩, ⟨#[35]⟩, ⟨#[63]⟩, ⟨#[36]⟩, ⟨#[33]⟩, ⟨#[64]⟩, ⟨#[42]⟩, x.name] ++ nl := ⟨_, rfl⟩
          have hLl : L.length ≤ 41 := by rw [hL]; simp; omega
          have hrow : RowAt wX w3.heap.size v4 L := RowAt.ofOwn (by
            have e1 : 11 + nl.length = L.length := by rw [hL]; simp; omega
            have e2 : ([.string ⟨#[48]⟩, .string ⟨#[49]⟩, .string ⟨#[50]⟩, .string ⟨#[49, 48]⟩, .string ⟨#[35]⟩, .string ⟨#[63]⟩, .string ⟨#[36]⟩, .string ⟨#[33]⟩, .string ⟨#[64]⟩, .string ⟨#[42]⟩, .string x.name] : List Value) ++ nl.map Value.string = L.map Value.string := by rw [hL, List.map_append]; rfl
            rw [← e1, ← e2]; exact hown)
          have hbX : Below w3.heap.size w3 wX := (below_alloc w3 _).grown hg (by simp [World.size_alloc]) (fun j e => by cases e; exact Nat.le_refl _)
          clear hown hg hL d2
          obtain ⟨a4, n4, c4, rfl, rfl⟩ := hrow.len
          obtain ⟨a5, c5, he5, hcell⟩ := hrow.txt.cell
          cases he5
          have HL := Lib.hid hcell
          have HSC4 := Lib.hid (HSC3.out.stay hbX); have HRF4 := Lib.hid (HRF3.out.stay hbX); have HT4 := Lib.hid (HT3.out.stay hbX)
          have HBX4 := Lib.hid ((hbX.block _ (Array.getElem?_eq_some_iff.1 HBX3.out).1).trans HBX3.out)
          have HB4 := Lib.hid (HB3.out.trans (hbX.mono HB3.out.size))
          clear hbX hcell hrow HSC3 HRF3 HT3 HBX3 HB3 HN3 HACT2 HBC HSC2 HRF2 HBX2 HTC
          go_wp2_with fail
          go_loopw [163] (fun i wr => ∃ j : Nat, j ≤ L.length ∧ i = .int .i64 j ∧ Below wX.heap.size wX wr) (fun i _ => L.length - (intOf i).toNat)
          case atStart => exact ⟨0, Nat.zero_le _, rfl, Below.refl _ _⟩
          case round =>
            obtain ⟨j, hj, rfl, hbj⟩ := hrel
            have HBJ := Lib.hid hbj
            rcases Nat.lt_or_ge j L.length with hlt5 | hge5
            · obtain ⟨y, hy⟩ : ∃ y, L[j]? = some y := ⟨L[j]'hlt5, List.getElem?_eq_getElem _⟩
              obtain ⟨b5, off5, rfl, hbl5, hcy⟩ := HL.out j y hy
              have q5 : wr.cell? ⟨b5, off5 + j, none⟩ = some (.string y) := (World.cell?_of_block (hbj.block b5 hbl5)).trans hcy
              have HBX5 := Lib.hid ((hbj.block _ (Array.getElem?_eq_some_iff.1 HBX4.out).1).trans HBX4.out)
              clear hbj hcy hy
              by_cases hbig : 500 < y.size
              · have hb5 : (500 : Int) < (y.size : Int) := by omega
                go_wp2_with fail
                go_ret
                exact ⟨rfl, HB1.out.trans ((HB4.out.trans (HBJ.out.mono HB4.out.size)).mono HB1.out.size)⟩
              · have hb5 : ¬ (500 : Int) < (y.size : Int) := by omega
                go_wp2_with fail
                refine (get_any S' _ _ y _ mv' av' (HSC4.out.stay HBJ.out) (HT4.out.stay HBJ.out) HGD.out.fit (by unfold maxLen; omega)).mono ?_
                rintro e w6 ⟨rfl, hb6⟩
                have hbx6 := (hb6.block _ (Array.getElem?_eq_some_iff.1 HBX5.out).1).trans HBX5.out
                have HB6 := Lib.hid (HBJ.out.trans (hb6.mono HBJ.out.size))
                have b0 := cell_of_row _ _ 0 _ _ _ hbx6
                have b1 := cell_of_row _ _ 1 _ _ _ hbx6
                have b2 := cell_of_row _ _ 2 _ _ _ hbx6
                have b3 := cell_of_row _ _ 3 _ _ _ hbx6
                simp at b0 b1 b2 b3
                clear hb6 hbx6 q5
                have hra := rget_any S' y _ _ w6 (HRF4.out.stay HB6.out).prs (HRF4.out.stay HB6.out).txt HGD.out.fit HGD.out.join (by omega)
                have HRA := Lib.hid hra
                clear hra
                generalize val S' y = o at HRA ⊢
                cases o
                · go_wp2_with fail
                  refine HRA.out.mono ?_
                  rintro e w7 ⟨rfl, hb7⟩
                  have HB7 := Lib.hid (HB6.out.trans (hb7.mono HB6.out.size))
                  clear hb7
                  go_wp2_with fail
                  go_roundw
                  case rel => exact ⟨j + 1, by omega, by go_num, HB7.out⟩
                  case measure => simp [intOf]; omega
                · rename_i z
                  go_wp2_with fail
                  refine HRA.out.mono ?_
                  rintro e w7 ⟨rfl, hb7⟩
                  have HB7 := Lib.hid (HB6.out.trans (hb7.mono HB6.out.size))
                  have t5 : (z.toList == z.toList) = true := by simp
                  clear hb7
                  go_wp2_with fail
                  go_roundw
                  case rel => exact ⟨j + 1, by omega, by go_num, HB7.out⟩
                  case measure => simp [intOf]; omega
            · obtain rfl : j = L.length := by omega
              clear hbj
              go_wp2_with fail
              go_roundw
              case rel => exact ⟨k + 1, S', mv', av', _, _, by omega, by go_num, HSC4.out.stay HBJ.out, (HBJ.out.block _ (Array.getElem?_eq_some_iff.1 HBX4.out).1).trans HBX4.out, HRF4.out.stay HBJ.out, HIN2.out, HB4.out.trans (HBJ.out.mono HB4.out.size)⟩
              case measure => simp [intOf]; omega
      · go_wp2_with fail
        go_ret
        exact ⟨rfl, HB1.out.trans (((HB.out.trans (HB02.out.mono HB.out.size))).mono HB1.out.size)⟩
    · obtain rfl : k = l.length := by omega
      clear hsc hbox hrf hinv hbw
      go_wp2_with fail
      go_ret
      exact ⟨rfl, HB1.out.trans (HB.out.mono HB1.out.size)⟩
end Vr
end Go.Proofs.YtpphoaidnpkgpaaGreatDoor
