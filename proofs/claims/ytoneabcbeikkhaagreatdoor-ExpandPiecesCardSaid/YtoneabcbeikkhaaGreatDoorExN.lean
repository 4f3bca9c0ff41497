/- Which scopes are looked at; the program's scope that the document's is. -/
import Derived.Test.YtoneabcbeikkhaaGreatDoorExJ
import Derived.Test.YtoneabcbeikkhaaGreatDoorVrG
namespace Go.Proofs.YtoneabcbeikkhaaGreatDoor
open Go.RowKit Go.Sort Cls
namespace Ex
open Vr (St val Prs Sc Kp Tab Vs lt setV Srt)
open Fld (Pc bs tx)
/-- The variables' sizes, if all is fine. -/
def finV : Vs → Nat → Option ByteArray → Option Nat
  | [], n, _ => some n
  | p :: r, n, pr => if 100000 < n + (p.1.size + p.2.size) then none else if nameL (bs p.1) = false then none else if (pr.any fun x => !lt x p.1) = true then none else finV r (n + (p.1.size + p.2.size)) (some p.1)
def finA : List ByteArray → Nat → Bool
  | [], _ => true
  | a :: r, n => if 100000 < n + (a.size + 1) then false else finA r (n + (a.size + 1))
def finB (s : St) : Bool := match finV s.vs 0 none with
  | none => false
  | some n => finA s.args n
theorem set_snoc {vs : Vs} {n v : ByteArray} (h : ∀ p ∈ vs, lt p.1 n = true) : setV vs n v = vs ++ [(n, v)] := by
  unfold setV
  have h1 : vs.filter (fun p => lt p.1 n) = vs := List.filter_eq_self.2 h
  have h2 : vs.filter (fun p => lt n p.1) = [] := List.filter_eq_nil_iff.2 fun p hp e => by
    have := Vr.lt_trans (h p hp) e
    rw [Vr.lt_irrefl] at this; cases this
  rw [h1, h2]
/-- What stood ahead. -/
def prevV (vs : Vs) : Nat → Option ByteArray
  | 0 => none
  | k + 1 => (vs[k]?).map (·.1)
set_option maxRecDepth 4000 in
set_option maxHeartbeats 2000000 in
theorem fine_any (s : St) (vv av : Value) (w : World) (hp : Prs w vv s.vs) (ha : Vr.Txt w av s.args) (hl : s.vs.length ≤ 140737488355328) (hl2 : s.args.length ≤ 140737488355328) (h1 : ∀ p ∈ s.vs, p.1.size ≤ 140737488355328 ∧ p.2.size ≤ 140737488355328) (h2 : ∀ a ∈ s.args, a.size ≤ 140737488355328) :
    Calls Tryz.prog 6 #[.agg #[vv, av, .int .i64 s.st, .int .i64 s.la]] w fun e w' => e = .returned (.int .i64 (bif finB s then 1 else 0)) ∧ Below w.heap.size w w' := by
  obtain ⟨a, cap, rfl, hcell⟩ := hp.cell
  obtain ⟨a2, c2, rfl, hcell2⟩ := ha.cell
  have HC := Lib.hid hcell; have HC2 := Lib.hid hcell2; have H1 := Lib.hid h1; have H2 := Lib.hid h2
  clear hp ha hcell hcell2 h1 h2
  have HS0 := Lib.hid (heap_alloc_new w (.cells #[.slice a s.vs.length cap, .slice a2 s.args.length c2, .int .i64 s.st, .int .i64 s.la] 25))
  have HB0 := Lib.hid (Fld.below_alloc w (.cells #[.slice a s.vs.length cap, .slice a2 s.args.length c2, .int .i64 s.st, .int .i64 s.la] 25))
  go_enter Tryz.func6, Tryz.ntmps6
  go_wp2_with fail
  go_loopw [3, 11] (fun nn x wr => ∃ k n : Nat, k ≤ s.vs.length ∧ x = .int .i64 k ∧ nn = .int .i64 n ∧ n ≤ 100000 ∧ finV s.vs 0 none = finV (s.vs.drop k) n (prevV s.vs k) ∧ Below w.heap.size w wr ∧ wr.heap[w.heap.size]? = some (.cells #[.slice a s.vs.length cap, .slice a2 s.args.length c2, .int .i64 s.st, .int .i64 s.la] 25 (0, 0))) (fun _ x _ => s.vs.length - (intOf x).toNat)
  case atStart => exact ⟨0, 0, Nat.zero_le _, rfl, rfl, Nat.zero_le _, rfl, HB0.out, HS0.out⟩
  case round =>
    obtain ⟨k, n, hk, rfl, rfl, hn, hfin, hbw, hsc⟩ := hrel
    have HF := Lib.hid hfin; have HB := Lib.hid hbw; have HSC := Lib.hid hsc
    have hws := hbw.size
    clear hfin hbw hsc
    by_cases hlt : k < s.vs.length
    · have hx : s.vs[k]? = some (s.vs[k]'hlt) := List.getElem?_eq_getElem hlt
      obtain ⟨b, off, rfl, hb, hc1, hc2⟩ := HC.out k _ hx
      have hm := H1.out _ (List.getElem_mem hlt)
      have hdr : s.vs.drop k = s.vs[k]'hlt :: s.vs.drop (k + 1) := List.drop_eq_getElem_cons hlt
      have hpv : prevV s.vs (k + 1) = some (s.vs[k]'hlt).1 := by simp [prevV, hx]
      have hqa := (HB.out.cell (p := ⟨b, off + 2 * k, none⟩) hb).trans hc1
      have hqb := (HB.out.cell (p := ⟨b, off + 2 * k + 1, none⟩) hb).trans hc2
      rw [Nat.mul_comm 2 k] at hqa hqb
      have HDR := Lib.hid hdr; have HPV := Lib.hid hpv
      have HX := Lib.hid hx
      clear hc1 hc2 hdr hpv hx
      revert HX
      generalize s.vs[k]'hlt = p at hm hqa hqb HDR HPV
      intro HX
      obtain ⟨nm, x⟩ := p
      simp only at hm hqa hqb
      obtain ⟨hm1, hm2⟩ := hm
      have HBV := Lib.hid (HB.out.alloc hws (.cells #[.string nm, .string x] 61))
      have HSCV := Lib.hid (bel_block (Fld.below_alloc wr (.cells #[.string nm, .string x] 61)) HSC.out)
      have hk0 := cell_regrown (show (wr.alloc (.cells #[.string nm, .string x] 61)).cell? ⟨wr.heap.size, 0, none⟩ = some (.string nm) from Lib.cell_of_heap (heap_alloc_new wr (.cells #[.string nm, .string x] 61)) 0)
      have hk1 := cell_regrown (show (wr.alloc (.cells #[.string nm, .string x] 61)).cell? ⟨w.heap.size, 0, none⟩ = some (.slice (some ⟨b, off, none⟩) s.vs.length cap) from Lib.cell_of_heap HSCV.out 0)
      by_cases hbig : 100000 < n + (nm.size + x.size)
      · have hff : finB s = false := by
          unfold finB
          rw [HF.out, HDR.out]
          simp only [finV, if_pos hbig]
        have HFF := Lib.hid hff
        clear hff
        have hgt : ((100000 : Int) < (n : Int) + ((nm.size : Int) + (x.size : Int))) = True := eq_true (by omega)
        go_wp2_with fail
        refine Qu.region (by kernel_rfl) (by kernel_rfl) ?_
        repeat (first
          | (first | refine Qu.carry0 rfl (fun K hK => ?_) | refine Qu.carryG rfl rfl rfl (fun K hK => ?_)
             go_simp
             first
             | (refine hK _ ?_; clear hK K)
             | (apply Exists.intro; refine ⟨fun _ => ?_, hK _ ?_⟩; fail; clear hK K))
          | (refine Qu.passG rfl rfl rfl (fun K hK => ?_); go_simp; refine hK _ ?_; clear hK K))
        refine Qu.fin ?_
        rintro ⟨dq, osq⟩
        go_wp2_with fail
        go_ret
        exact ⟨by rw [HFF.out]; rfl, HBV.out.trans ((below_regrown _ dq osq).mono HBV.out.size)⟩
      · have hgt : ((100000 : Int) < (n : Int) + ((nm.size : Int) + (x.size : Int))) = False := eq_false (by omega)
        cases hnm : nameL (bs nm)
        · have hff : finB s = false := by
            unfold finB
            rw [HF.out, HDR.out]
            simp only [finV, if_neg hbig, hnm, if_true]
          have hNM : ∀ dd os, Calls Tryz.prog 22 #[.string nm] (grow (redrawn (wr.alloc (.cells #[.string nm, .string x] 61)) dd) os) fun e w'' => e = .returned (.bool false) ∧ ∃ p : Regrown, w'' = grow (redrawn (wr.alloc (.cells #[.string nm, .string x] 61)) p.d) p.os := fun dd os => (Cls.rname_any nm _ (by omega)).mono fun e w' h => ⟨by rw [h.1, show nameL nm.data.toList = false from hnm], ⟨dd, os⟩, by first | exact h.2.symm | exact h.2⟩
          have HNM := Lib.hid hNM
          clear hNM
          have HFF := Lib.hid hff
          clear hff hnm
          go_wp2_with fail
          refine Qu.region (by kernel_rfl) (by kernel_rfl) ?_
          repeat (first
            | (first | refine Qu.carry0 rfl (fun K hK => ?_) | refine Qu.carryG rfl rfl rfl (fun K hK => ?_)
               go_simp
               first
               | (refine hK _ ?_; clear hK K)
               | (apply Exists.intro; refine ⟨fun _ => ?_, hK _ ?_⟩; (exact HNM.out _ _); clear hK K))
            | (refine Qu.passG rfl rfl rfl (fun K hK => ?_); go_simp; refine hK _ ?_; clear hK K))
          refine Qu.fin ?_
          rintro ⟨dq, osq⟩
          go_wp2_with fail
          go_ret
          exact ⟨by rw [HFF.out]; rfl, HBV.out.trans ((below_regrown _ dq osq).mono HBV.out.size)⟩
        · have hnm' := hnm
          have hNM : ∀ dd os, Calls Tryz.prog 22 #[.string nm] (grow (redrawn (wr.alloc (.cells #[.string nm, .string x] 61)) dd) os) fun e w'' => e = .returned (.bool true) ∧ ∃ p : Regrown, w'' = grow (redrawn (wr.alloc (.cells #[.string nm, .string x] 61)) p.d) p.os := fun dd os => (Cls.rname_any nm _ (by omega)).mono fun e w' h => ⟨by rw [h.1, show nameL nm.data.toList = true from hnm], ⟨dd, os⟩, by first | exact h.2.symm | exact h.2⟩
          have HNM := Lib.hid hNM
          clear hNM
          have HNM1 := Lib.hid hnm'
          clear hnm hnm'
          have hnb : n + (nm.size + x.size) ≤ 100000 := by omega
          cases k with
          | zero =>
            have hff : finV s.vs 0 none = finV (s.vs.drop 1) (n + (nm.size + x.size)) (prevV s.vs 1) := by
              rw [HF.out, HDR.out, HPV.out]
              simp only [finV, if_neg hbig, HNM1.out, prevV, Option.any_none, Bool.false_eq_true, if_false]
              rfl
            have HFF := Lib.hid hff
            clear hff
            simp only [Nat.zero_mul, Nat.add_zero] at hqa hqb
            go_wp2_with fail
            refine Qu.region (by kernel_rfl) (by kernel_rfl) ?_
            repeat (first
              | (first | refine Qu.carry0 rfl (fun K hK => ?_) | refine Qu.carryG rfl rfl rfl (fun K hK => ?_)
                 go_simp
                 first
                 | (refine hK _ ?_; clear hK K)
                 | (apply Exists.intro; refine ⟨fun _ => ?_, hK _ ?_⟩; (exact HNM.out _ _); clear hK K))
              | (refine Qu.passG rfl rfl rfl (fun K hK => ?_); go_simp; refine hK _ ?_; clear hK K))
            refine Qu.fin ?_
            rintro ⟨dq, osq⟩
            go_wp2_with fail
            go_roundw
            case rel => exact ⟨1, n + (nm.size + x.size), by omega, by go_num, by go_num, hnb, HFF.out, HBV.out.trans ((below_regrown _ dq osq).mono HBV.out.size), ((below_regrown _ dq osq).block _ (Array.getElem?_eq_some_iff.1 HSCV.out).1).trans HSCV.out⟩
            case measure => simp [intOf]; omega
          | succ j =>
            have hx0 : s.vs[j]? = some (s.vs[j]'(by omega)) := List.getElem?_eq_getElem _
            have hp0 : prevV s.vs (j + 1) = some (s.vs[j]'(by omega)).1 := by simp [prevV, hx0]
            obtain ⟨b', off', hbe, hb', hd1, _⟩ := HC.out j _ hx0
            cases hbe
            have hqc := (HBV.out.cell (p := ⟨b, off + 2 * j, none⟩) hb').trans hd1
            rw [Nat.mul_comm 2 j] at hqc
            have hqd := cell_regrown hqc
            have hj1 : ((j + 1 : Nat) : Int) - 1 = (j : Int) := by omega
            have hb1' : (0 : Int) ≤ (j : Int) := by omega
            have hb2' : (j : Int) < (s.vs.length : Int) := by omega
            have hb3' : ((j : Int)).toNat = j := by simp
            have hjw : IntKind.i64.wrap (j : Int) = (j : Int) := Pt.wrapEq _ |>.trans (IntWalk.wrap64_in _ ⟨by omega, by omega⟩)
            have HP0 := Lib.hid hp0
            clear hx0 hp0 hd1
            generalize (s.vs[j]'(by omega)).1 = pn at hqc hqd HP0
            clear hqc
            have hpos : (((j + 1 : Nat) : Int) > 0) = True := eq_true (by omega)
            cases hlt2 : lt pn nm
            · have hff : finB s = false := by
                unfold finB
                rw [HF.out, HDR.out, HP0.out]
                simp only [finV, if_neg hbig, HNM1.out, Option.any_some, hlt2]
                rfl
              have HFF := Lib.hid hff
              have e1 : Op.bytesLess pn.toList nm.toList = false := by rw [Vr.less_lt]; exact hlt2
              clear hff hlt2
              go_wp2_with fail
              refine Qu.region (by kernel_rfl) (by kernel_rfl) ?_
              repeat (first
                | (first | refine Qu.carry0 rfl (fun K hK => ?_) | refine Qu.carryG rfl rfl rfl (fun K hK => ?_)
                   go_simp
                   first
                   | (refine hK _ ?_; clear hK K)
                   | (apply Exists.intro; refine ⟨fun _ => ?_, hK _ ?_⟩; (exact HNM.out _ _); clear hK K))
                | (refine Qu.passG rfl rfl rfl (fun K hK => ?_); go_simp; refine hK _ ?_; clear hK K))
              refine Qu.fin ?_
              rintro ⟨dq, osq⟩
              go_wp2_with fail
              go_ret
              exact ⟨by rw [HFF.out]; rfl, HBV.out.trans ((below_regrown _ dq osq).mono HBV.out.size)⟩
            · have hff : finV s.vs 0 none = finV (s.vs.drop (j + 1 + 1)) (n + (nm.size + x.size)) (prevV s.vs (j + 1 + 1)) := by
                rw [HF.out, HDR.out, HP0.out, HPV.out]
                simp only [finV, if_neg hbig, HNM1.out, Option.any_some, hlt2, Bool.not_true, Bool.false_eq_true, if_false]
                rfl
              have HFF := Lib.hid hff
              have e1 : Op.bytesLess pn.toList nm.toList = true := by rw [Vr.less_lt]; exact hlt2
              clear hff hlt2
              go_wp2_with fail
              refine Qu.region (by kernel_rfl) (by kernel_rfl) ?_
              repeat (first
                | (first | refine Qu.carry0 rfl (fun K hK => ?_) | refine Qu.carryG rfl rfl rfl (fun K hK => ?_)
                   go_simp
                   first
                   | (refine hK _ ?_; clear hK K)
                   | (apply Exists.intro; refine ⟨fun _ => ?_, hK _ ?_⟩; (exact HNM.out _ _); clear hK K))
                | (refine Qu.passG rfl rfl rfl (fun K hK => ?_); go_simp; refine hK _ ?_; clear hK K))
              refine Qu.fin ?_
              rintro ⟨dq, osq⟩
              go_wp2_with fail
              go_roundw
              case rel => exact ⟨j + 1 + 1, n + (nm.size + x.size), by omega, by go_num, by go_num, hnb, HFF.out, HBV.out.trans ((below_regrown _ dq osq).mono HBV.out.size), ((below_regrown _ dq osq).block _ (Array.getElem?_eq_some_iff.1 HSCV.out).1).trans HSCV.out⟩
              case measure => simp [intOf]; omega
    · obtain rfl : k = s.vs.length := by omega
      have hfin2 : finV s.vs 0 none = some n := by
        rw [HF.out, List.drop_length]; rfl
      have HFI := Lib.hid hfin2
      have q1 : wr.cell? ⟨w.heap.size, 1, none⟩ = some (.slice a2 s.args.length c2) := Lib.cell_of_heap HSC.out 1
      clear hfin2
      go_wp2_with fail
      go_loopw [3, 53] (fun nn x w2 => ∃ k n : Nat, k ≤ s.args.length ∧ x = .int .i64 k ∧ nn = .int .i64 n ∧ n ≤ 100000 ∧ finB s = finA (s.args.drop k) n ∧ w2 = wr) (fun _ x _ => s.args.length - (intOf x).toNat)
      case atStart => exact ⟨0, n, Nat.zero_le _, rfl, rfl, hn, by unfold finB; rw [HFI.out]; rfl, rfl⟩
      case round =>
        obtain ⟨k, n, hk, rfl, rfl, hn, hfin, rfl⟩ := hrel
        have HF2 := Lib.hid hfin
        clear hfin
        by_cases hlt : k < s.args.length
        · have hx : s.args[k]? = some (s.args[k]'hlt) := List.getElem?_eq_getElem hlt
          obtain ⟨b, off, rfl, hb, hc⟩ := HC2.out k _ hx
          have hm := H2.out _ (List.getElem_mem hlt)
          have hdr : s.args.drop k = s.args[k]'hlt :: s.args.drop (k + 1) := List.drop_eq_getElem_cons hlt
          have hqa := (HB.out.cell (p := ⟨b, off + k, none⟩) hb).trans hc
          have HDR := Lib.hid hdr
          clear hc hdr hx
          generalize s.args[k]'hlt = y at hm hqa HDR
          by_cases hbig : 100000 < n + (y.size + 1)
          · have hgt : ((100000 : Int) < (n : Int) + ((y.size : Int) + 1)) = True := eq_true (by omega)
            have hff : finB s = false := by
              rw [HF2.out, HDR.out]; simp only [finA, if_pos hbig]
            have HFF := Lib.hid hff
            clear hff
            go_wp2_with fail
            go_ret
            exact ⟨by rw [HFF.out]; rfl, HB.out⟩
          · have hgt : ((100000 : Int) < (n : Int) + ((y.size : Int) + 1)) = False := eq_false (by omega)
            have hff : finB s = finA (s.args.drop (k + 1)) (n + (y.size + 1)) := by
              rw [HF2.out, HDR.out]; simp only [finA, if_neg hbig]
            have HFF := Lib.hid hff
            clear hff
            go_wp2_with fail
            go_roundw
            case rel => exact ⟨k + 1, n + (y.size + 1), by omega, by go_num, by go_num, by omega, HFF.out, by first | rfl | trivial⟩
            case measure => simp [intOf]; omega
        · obtain rfl : k = s.args.length := by omega
          have hff : finB s = true := by rw [HF2.out, List.drop_length]; rfl
          have HFF := Lib.hid hff
          clear hff
          go_wp2_with fail
          go_ret
          exact ⟨by rw [HFF.out]; rfl, HB.out⟩
set_option maxHeartbeats 2000000 in
theorem of_any (s : St) (vv av : Value) (w : World) (hp : Prs w vv s.vs) (ha : Vr.Txt w av s.args) (hr : Srt s.vs) (hl : s.vs.length ≤ 900000) (hl2 : s.args.length ≤ 1000000) (h1 : ∀ p ∈ s.vs, nameL (bs p.1) = true ∧ p.1.size ≤ 100000 ∧ p.2.size ≤ 100000) :
    Calls Tryz.prog 9 #[.agg #[vv, av, .int .i64 s.st, .int .i64 s.la]] w fun e w' => ∃ q mv av', e = .returned (.pointer (some ⟨q, 0, none⟩)) ∧ Sc w' w.heap.size q s mv av' ∧ Below w.heap.size w w' := by
  obtain ⟨a, cap, rfl, hcell⟩ := hp.cell
  obtain ⟨a2, n2, c2, rfl⟩ := ha.shape
  go_enter Tryz.func9, Tryz.ntmps9
  go_wp2_with fail
  have HC := Lib.hid hcell
  clear hcell
  have HS0 := Lib.hid (show ((w.alloc (.cells #[.slice a s.vs.length cap, .slice a2 n2 c2, .int .i64 s.st, .int .i64 s.la] 25)).alloc (.cells #[.map none, .slice none 0 0, .int .i64 0, .int .i64 0] 58)).heap[w.heap.size]? = some (.cells #[.slice a s.vs.length cap, .slice a2 n2 c2, .int .i64 s.st, .int .i64 s.la] 25 (0, 0)) from bel_block (Fld.below_alloc _ _) (heap_alloc_new w _))
  have HN0 := Lib.hid (show ((w.alloc (.cells #[.slice a s.vs.length cap, .slice a2 n2 c2, .int .i64 s.st, .int .i64 s.la] 25)).alloc (.cells #[.map none, .slice none 0 0, .int .i64 0, .int .i64 0] 58)).heap[w.heap.size + 1]? = some (.cells #[.map none, .slice none 0 0, .int .i64 0, .int .i64 0] 58 (0, 0)) from Vr.new2 w _ _)
  have hb0 := Fld.below_alloc w (.cells #[.slice a s.vs.length cap, .slice a2 n2 c2, .int .i64 s.st, .int .i64 s.la] 25)
  have HB0 := Lib.hid (hb0.trans ((Fld.below_alloc _ (.cells #[.map none, .slice none 0 0, .int .i64 0, .int .i64 0] 58)).mono hb0.size))
  have HHR := Lib.hid hr; have HH1 := Lib.hid h1
  clear hb0 hr h1
  go_loopw [11] (fun x wr => ∃ (k : Nat) (mv : Value), k ≤ s.vs.length ∧ x = .int .i64 k ∧ Sc wr w.heap.size (w.heap.size + 1) ⟨s.vs.take k, [], 0, 0⟩ mv (.slice none 0 0) ∧ Below w.heap.size w wr ∧ wr.heap[w.heap.size]? = some (.cells #[.slice a s.vs.length cap, .slice a2 n2 c2, .int .i64 s.st, .int .i64 s.la] 25 (0, 0))) (fun x _ => s.vs.length - (intOf x).toNat)
  case atStart => exact ⟨0, .map none, Nat.zero_le _, rfl, ⟨HN0.out, Nat.le_succ _, .inl ⟨rfl, rfl⟩, .inl ⟨rfl, rfl⟩⟩, HB0.out, HS0.out⟩
  case round =>
    obtain ⟨k, mv, hk, rfl, hsc, hbw, hrow⟩ := hrel
    have HSC := Lib.hid hsc; have HB := Lib.hid hbw; have HROW := Lib.hid hrow
    have hws := hbw.size
    clear hsc hbw hrow
    by_cases hlt : k < s.vs.length
    · have hx : s.vs[k]? = some (s.vs[k]'hlt) := List.getElem?_eq_getElem hlt
      obtain ⟨b, off, rfl, hb, hc1, hc2⟩ := HC.out k _ hx
      have hm := HH1.out _ (List.getElem_mem hlt)
      have hqa := (HB.out.cell (p := ⟨b, off + 2 * k, none⟩) hb).trans hc1
      have hqb := (HB.out.cell (p := ⟨b, off + 2 * k + 1, none⟩) hb).trans hc2
      rw [Nat.mul_comm 2 k] at hqa hqb
      have htk : s.vs.take (k + 1) = setV (s.vs.take k) (s.vs[k]'hlt).1 (s.vs[k]'hlt).2 := by
        rw [List.take_succ_eq_append_getElem hlt, set_snoc]
        intro p hp
        have hps := HHR.out
        rw [← List.take_append_drop k s.vs, List.drop_eq_getElem_cons hlt] at hps
        exact (List.pairwise_append.1 hps).2.2 p hp _ List.mem_cons_self
      have htr : Srt (s.vs.take k) := List.Pairwise.sublist (List.take_sublist _ _) HHR.out
      have hlen : (s.vs.take k).length ≤ k := by rw [List.length_take]; omega
      have HTK := Lib.hid htk
      clear hc1 hc2 hx htk
      generalize s.vs[k]'hlt = p at hm hqa hqb HTK
      obtain ⟨nm, x⟩ := p
      simp only at hm hqa hqb
      obtain ⟨hm0, hm1, hm2⟩ := hm
      have hbv := Fld.below_alloc wr (.cells #[.string nm, .string x] 61)
      have HSET := Lib.hid (Vr.set_any ⟨s.vs.take k, [], 0, 0⟩ w.heap.size (w.heap.size + 1) nm x (wr.alloc (.cells #[.string nm, .string x] 61)) mv (.slice none 0 0) (HSC.out.stay hbv) (by rw [World.size_alloc]; omega) (by unfold maxLen; omega) (by unfold maxLen; omega) htr (by simp only; omega))
      have HROWV := Lib.hid (bel_block hbv HROW.out)
      have HSCV := Lib.hid (HSC.out.stay hbv)
      have HBV := Lib.hid (HB.out.trans (hbv.mono hws))
      have HNM0 := Lib.hid hm0
      clear hbv hm0 htr
      go_wp2_with fail
      refine HSET.out.mono ?_
      rintro e w2 ⟨rfl, mv2, hsc2, hkp2, hfr2⟩
      have hse : Vr.setS ⟨s.vs.take k, [], 0, 0⟩ nm x = ⟨s.vs.take (k + 1), [], 0, 0⟩ := by
        unfold Vr.setS
        rw [show nameL (Vr.bs nm) = true from HNM0.out, HTK.out]
        rfl
      rw [hse] at hsc2
      have hw2 : Went (wr.alloc (.cells #[.string nm, .string x] 61)) w2 w.heap.size (w.heap.size + 1) ⟨s.vs.take (k + 1), [], 0, 0⟩ mv mv2 (.slice none 0 0) := ⟨hsc2, hkp2, hfr2⟩
      have HSC2 := Lib.hid hsc2
      have HROW2 := Lib.hid (hw2.block HSCV.out (by decide) (by decide) HROWV.out)
      have HB2 := Lib.hid (HBV.out.trans (hw2.below HSCV.out (by rw [World.size_alloc]; omega)))
      clear hsc2 hkp2 hfr2 hw2 hse
      go_wp2_with fail
      go_roundw
      case rel => exact ⟨k + 1, mv2, by omega, by go_num, HSC2.out, HB2.out, HROW2.out⟩
      case measure => simp [intOf]; omega
    · obtain rfl : k = s.vs.length := by omega
      have hsc := HSC.out
      rw [List.take_length] at hsc
      have HSC1 := Lib.hid hsc
      clear hsc
      have q1 : wr.cell? ⟨w.heap.size, 1, none⟩ = some (.slice a2 n2 c2) := Lib.cell_of_heap HROW.out 1
      have HA := Lib.hid (Vr.setArgs_any ⟨s.vs, [], 0, 0⟩ w.heap.size (w.heap.size + 1) s.args wr mv (.slice none 0 0) (.slice a2 n2 c2) HSC1.out hws (ha.stay HB.out) hl2)
      go_wp2_with fail
      refine HA.out.mono ?_
      rintro e w1 ⟨rfl, av1, hsc1, hkp1, hfr1⟩
      have HSC2 := Lib.hid hsc1
      have hrow1 := hkp1.other HSC1.out.vars HSC1.out.args (by decide) HROW.out (by omega)
      have q2 : w1.cell? ⟨w.heap.size, 2, none⟩ = some (.int .i64 s.st) := Lib.cell_of_heap hrow1 2
      have HROW1 := Lib.hid hrow1
      have HK1 := Lib.hid (hkp1.below hws (Nat.le_succ _) (fun j e => (HSC1.out.vars.own j e).1) (fun j e => (HSC1.out.args.own j e).1))
      have hs1 := hkp1.size
      clear hsc1 hkp1 hfr1 hrow1
      have HST := Lib.hid (Vr.setStatus_any _ w.heap.size (w.heap.size + 1) s.st w1 mv av1 HSC2.out)
      go_wp2_with fail
      refine HST.out.mono ?_
      rintro e w2 ⟨rfl, hsc2, hkp2⟩
      have HSC3 := Lib.hid hsc2
      have hrow2 := hkp2.other HSC2.out.vars HSC2.out.args (by decide) HROW1.out (by omega)
      have q3 : w2.cell? ⟨w.heap.size, 3, none⟩ = some (.int .i64 s.la) := Lib.cell_of_heap hrow2 3
      have HK2 := Lib.hid (hkp2.below (Nat.le_trans hws hs1) (Nat.le_succ _) (fun j e => (HSC2.out.vars.own j e).1) (fun j e => (HSC2.out.args.own j e).1))
      have hs2 := hkp2.size
      clear hsc2 hkp2 hrow2
      have HLA := Lib.hid (Vr.setLast_any _ w.heap.size (w.heap.size + 1) s.la w2 mv av1 HSC3.out)
      go_wp2_with fail
      refine HLA.out.mono ?_
      rintro e w3 ⟨rfl, hsc3, hkp3⟩
      have HSC4 := Lib.hid hsc3
      have HK3 := Lib.hid (hkp3.below (Nat.le_trans hws (Nat.le_trans hs1 hs2)) (Nat.le_succ _) (fun j e => (HSC3.out.vars.own j e).1) (fun j e => (HSC3.out.args.own j e).1))
      clear hsc3 hkp3
      go_wp2_with fail
      go_ret
      exact ⟨_, mv, av1, rfl, HSC4.out, HB.out.trans (HK1.out.trans (HK2.out.trans HK3.out))⟩
end Ex
end Go.Proofs.YtoneabcbeikkhaaGreatDoor
