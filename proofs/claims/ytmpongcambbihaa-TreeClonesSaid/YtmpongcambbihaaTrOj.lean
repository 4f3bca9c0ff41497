/- spoil writes into what a copy owns, and nowhere else. -/
import Derived.Test.YtmpongcambbihaaTrOi
import Derived.Test.YtmpongcambbihaaRegN
namespace Go.Proofs.Ytmpongcambbihaa
open Go.RowKit Go.Sort
namespace Ow
open Cls Pt Tr

theorem OwnR.rest {T : Type} {k : Nat} {E : Elem T} {get : Nat → Option T} {w : World} {lo hi cap n : Nat} {a : Option Addr} (h : OwnR k E get w lo hi a cap n) : ∃ B ms, 0 < n → a = some ⟨B, 0, none⟩ ∧ lo ≤ B ∧ B < hi ∧ ms n ≤ hi ∧ Rest k E get w B n ms 0 := by
  rcases h.2.2.2 with h0 | ⟨B, ms, ha, h1, h2, h3, h4, h5⟩
  · exact ⟨0, fun _ => 0, fun hn => by omega⟩
  · exact ⟨B, ms, fun _ => ⟨ha, h1, h2, h3, Rest.of h4 h5⟩⟩
theorem ofZ_any (w : World) : Calls Try.prog 29 #[.string ⟨#[122]⟩] w fun e w' => (∃ a cap, e = .returned (.slice a 1 cap)) ∧ Below w.heap.size w w' := by
  go_enter Try.func29, Try.ntmps29
  go_wp2
  go_ret
  exact ⟨⟨_, _, rfl⟩, bel1 _ _⟩
def SpoilAt (n : Nat) : Prop := ∀ (d : NodeD) (b p lo hi : Nat) (w : World), EN n w b p lo hi d → NL.okN d.ks true = true → NL.okN d.cz false = true → (b < lo ∨ hi ≤ b) → hi ≤ w.heap.size → (∃ row ty, w.heap[b]? = some (.cells row ty (0, 0))) →
  Calls Try.prog 8 #[.pointer (some ⟨b, p, none⟩)] w fun e w' => e = .returned (.tuple #[]) ∧ Sp lo hi b p w w'

set_option maxHeartbeats 8000000 in
set_option maxRecDepth 100000 in
theorem spoil_step (n : Nat) (hS : SpoilAt n) : SpoilAt (n + 1) := by
  intro d b p lo hi w h hok hoc hbl hhi hrow
  obtain ⟨⟨h0, h1, h2, h3⟩, m1, m2, m3, m4, a1, c1, a2, c2, a3, c3, a4, c4, a5, c5, ⟨g1, g2, g3, g4, g5⟩, o1, o2, o3, o4, o5⟩ := h
  have l1 := o1.2.2.1; have l2 := o2.2.2.1; have l3 := o3.2.2.1; have l4 := o4.2.2.1; have l5 := o5.2.2.1
  obtain ⟨row, ty, hr⟩ := hrow
  have hbs : b < w.heap.size := (Array.getElem?_eq_some_iff.1 hr).1
  have fz : w.frozen? ⟨b, p + 1, none⟩ = false := frozen_of_row _ _ _ _ _ hr
  have hsp := Sp.name (lo := lo) (hi := hi) (p := p) hr (.string (d.nm ++ ⟨#[122]⟩))
  have n1 := o1.1; have n2 := o2.1
  have z1 := o1.2.1; have z2 := o2.2.1; have z3 := o3.2.1; have z4 := o4.2.1; have z5 := o5.2.1
  unfold R at h3 z1 z2 z3 z4 z5
  go_enter Try.func8, Try.ntmps8
  go_wp2_with fail
  have hwo : ∀ c, c ≠ b → (w.setCell ⟨b, p + 1, none⟩ (.string (d.nm ++ ⟨#[122]⟩))).heap[c]? = w.heap[c]? := fun c hc => heap_setCell_other _ _ _ _ hc
  generalize w.setCell ⟨b, p + 1, none⟩ (.string (d.nm ++ ⟨#[122]⟩)) = W1 at hsp hwo ⊢
  have hbs1 : b < W1.heap.size := Nat.lt_of_lt_of_le hbs hsp.size
  have hq : ∀ W, Fr2 lo hi W1 W → ∀ i v, i ≠ p + 1 → w.cell? ⟨b, i, none⟩ = some v → W.cell? ⟨b, i, none⟩ = some v := fun W hf i v hi hv =>
    (World.cell?_of_block (w := W1) (a := ⟨b, i, none⟩) (hf.block b hbs1 hbl)).trans ((hsp.cell i hi).trans hv)
  have HQ3 := Lib.hid (fun W (hf : Fr2 lo hi W1 W) => hq W hf (p + 3) _ (by omega) g1)
  have HQ4 := Lib.hid (fun W (hf : Fr2 lo hi W1 W) => hq W hf (p + 4) _ (by omega) g2)
  have HQ5 := Lib.hid (fun W (hf : Fr2 lo hi W1 W) => hq W hf (p + 5) _ (by omega) g3)
  have HQ6 := Lib.hid (fun W (hf : Fr2 lo hi W1 W) => hq W hf (p + 6) _ (by omega) g4)
  have HQ7 := Lib.hid (fun W (hf : Fr2 lo hi W1 W) => hq W hf (p + 7) _ (by omega) g5)
  have hk1 : ∀ c, lo ≤ c → c < hi → W1.heap[c]? = w.heap[c]? := fun c p1 p2 => hwo c (by omega)
  have HSP := Lib.hid hsp; have HHI := Lib.hid hhi; have HBL := Lib.hid hbl; have HSS := Lib.hid hS; have HBS := Lib.hid hbs1
  obtain ⟨B2, ms2, hR2⟩ := (o2.keep stable_EW (w' := W1) fun c p1 p2 => hk1 c (by omega) (by omega)).rest
  have O1 := Lib.hid (o1.keep stable_EA (w' := W1) fun c p1 p2 => hk1 c (by omega) (by omega))
  have O3 := Lib.hid (o3.keep (stable_EN n) (w' := W1) fun c p1 p2 => hk1 c (by omega) (by omega))
  have O4 := Lib.hid (o4.keep stable_EB (w' := W1) fun c p1 p2 => hk1 c (by omega) (by omega))
  have O5 := Lib.hid (o5.keep (stable_EC (stable_EN n)) (w' := W1) fun c p1 p2 => hk1 c (by omega) (by omega))
  have hw1 := hsp.size
  have R2 := Lib.hid hR2
  clear hwo h0 h1 h2 g1 g2 g3 g4 g5 o1 o2 o3 o4 o5 hr hsp hq hk1 fz hhi hS hR2 hbs
  go_loopw [23] (fun x wr => ∃ i, i ≤ d.ws.length ∧ x = .int .i64 (i : Nat) ∧ (0 < d.ws.length → Rest 1 EW (fun i => d.ws[i]?) wr B2 d.ws.length ms2 i) ∧ Fr2 m1 m2 W1 wr) (fun x wr => d.ws.length - (intOf x).toNat)
  case atStart => exact ⟨0, Nat.zero_le _, rfl, fun h => (R2.out h).2.2.2.2, Fr2.refl _ _ _⟩
  case round =>
    obtain ⟨i, hi', rfl, hrs, hf⟩ := hrel
    have HRS := Lib.hid hrs; have HF := Lib.hid hf
    clear hrs hf
    by_cases hlt : i < d.ws.length
    · have hpos : 0 < d.ws.length := by omega
      obtain ⟨hae, hb1, hb2, hb3, _⟩ := R2.out hpos
      have hrest := HRS.out hpos
      obtain ⟨y, cy, e1, hown⟩ := hrest.2.2.2 i _ (Nat.le_refl _) hlt (List.getElem?_eq_getElem hlt)
      rw [Nat.mul_one] at e1
      have j0 := hrest.lo i hi'
      have j1 := hrest.hi (i + 1) hlt
      have j2 := hrest.2.1 i hlt
      have j3 : b < lo ∨ hi ≤ b := HBL.out
      have j4 := HHI.out
      have j5 := HF.out.size
      have q4 := HQ4.out _ (HF.out.mono l1 (by omega))
      subst hae
      generalize d.ws[i] = l at *
      obtain ⟨Bp, msp, hRp⟩ := hown.rest
      have hle := hown.2.1
      unfold R at hle
      have HRT := Lib.hid hrest; have RP := Lib.hid hRp; have HOW := Lib.hid hown
      clear hrest hRp hown
      obtain ⟨wo, hwo⟩ : ∃ wo, wo = wr := ⟨_, rfl⟩
      subst hwo
      go_wp2_with fail
      go_loopw [34] (fun x wq => ∃ j, j ≤ l.len ∧ x = .int .i64 (j : Nat) ∧ (0 < l.len → Rest 5 (EP (M + 1)) (partAt l) wq Bp l.len msp j) ∧ Fr2 (ms2 i) (ms2 (i + 1)) wo wq) (fun x wq => l.len - (intOf x).toNat)
      case atStart => exact ⟨0, Nat.zero_le _, rfl, fun h => (RP.out h).2.2.2.2, Fr2.refl _ _ _⟩
      case round =>
        obtain ⟨j, hj, rfl, hrs, hf⟩ := hrel
        have HRS2 := Lib.hid hrs; have HF2 := Lib.hid hf
        clear hrs hf
        have k4 := HQ4.out wr ((HF.out.mono l1 (by omega)).trans (HF2.out.mono (by omega) (by omega)))
        have k5 : wr.cell? ⟨B2, i, none⟩ = some (.slice y l.len cy) := (World.cell?_of_block (w := wo) (a := ⟨B2, i, none⟩) (HF2.out.block B2 (by omega) (.inl (by omega)))).trans e1
        by_cases hlt2 : j < l.len
        · have hpos2 : 0 < l.len := by omega
          obtain ⟨hye, hp1, hp2, hp3, _⟩ := RP.out hpos2
          subst hye
          have hrp := HRS2.out hpos2
          obtain ⟨kk, qq, tt, oo, ff, rr, hdr⟩ := PL.drop_at hlt2
          obtain ⟨⟨t0, t1, t2, t3, t4, t5⟩, z, cz', t6, hown⟩ := hrp.2.2.2 j _ (Nat.le_refl _) hlt2 (partAt_drop hdr)
          have i0 := hrp.lo j hj
          have i1 := hrp.hi (j + 1) hlt2
          have i2 := hrp.2.1 j hlt2
          have i3 := HF2.out.size
          obtain ⟨rowp, typ, hrowp⟩ := hrp.2.2.1
          have fz : wr.frozen? ⟨Bp, j * 5 + 2, none⟩ = false := frozen_of_row _ _ _ _ _ hrowp
          have ne1 : (b == Bp) = false := by rw [beq_eq_false_iff_ne]; omega
          have ne2 : (B2 == Bp) = false := by rw [beq_eq_false_iff_ne]; omega
          have ne3 : ¬ b = Bp := by omega
          have ne4 : ¬ B2 = Bp := by omega
          obtain ⟨Bo, mso, hRo⟩ := hown.rest
          have hle2 := hown.2.1
          unfold R at hle2 t4
          have HRP := Lib.hid hrp; have RO := Lib.hid hRo; have HO2 := Lib.hid hown; have HRW := Lib.hid hrowp
          dsimp only at t2 t4 t6 hle2
          clear hrp hRo hown hrowp hdr t0 t1 t3 t5
          go_wp2_with fail
          have hfy : Fr2 (msp j) (msp (j + 1)) wr wr := Fr2.refl _ _ _
          have hgy := heap_setCell_same _ _ (j * 5 + 2) _ _ (.string (tt ++ ⟨#[122]⟩)) HRW.out
          have hoth : ∀ c, c ≠ Bp → (wr.setCell ⟨Bp, j * 5 + 2, none⟩ (.string (tt ++ ⟨#[122]⟩))).heap[c]? = wr.heap[c]? := fun c hc => heap_setCell_other _ _ _ _ hc
          have hsy : (wr.setCell ⟨Bp, j * 5 + 2, none⟩ (.string (tt ++ ⟨#[122]⟩))).heap.size = wr.heap.size := by simp
          have hfr : Fr2 (ms2 i) (ms2 (i + 1)) wr (wr.setCell ⟨Bp, j * 5 + 2, none⟩ (.string (tt ++ ⟨#[122]⟩))) := Fr2.set _ _ _ (by omega) (by omega)
          generalize wr.setCell ⟨Bp, j * 5 + 2, none⟩ (.string (tt ++ ⟨#[122]⟩)) = wy at hgy hoth hsy hfr ⊢
          have y4 : wy.cell? ⟨b, p + 4, none⟩ = some (.slice (some ⟨B2, 0, none⟩) d.ws.length c2) := (World.cell?_of_block (w := wr) (a := ⟨b, _, none⟩) (hoth b (by omega))).trans k4
          have y5 : wy.cell? ⟨B2, i, none⟩ = some (.slice (some ⟨Bp, 0, none⟩) l.len cy) := (World.cell?_of_block (w := wr) (a := ⟨B2, _, none⟩) (hoth B2 (by omega))).trans k5
          have y6 : wy.cell? ⟨Bp, j * 5 + 4, none⟩ = some (.slice z ff.len cz') := by
            rw [Lib.cell_of_heap hgy, Array.getElem?_setIfInBounds, if_neg (by omega), ← Lib.cell_of_heap HRW.out]
            exact t6
          have y7 : ∀ h : 0 < ff.len, Rest 5 (EP M) (partAt ff) wy Bo ff.len mso 0 := fun h => by
            obtain ⟨_, r1, r2, r3, r4⟩ := RO.out h
            exact r4.keep (stable_EP _) (fun c p1 p2 => hoth c (by omega)) (hoth Bo (by omega))
          have HGY := Lib.hid hgy; have HOT := Lib.hid hoth; have HFR := Lib.hid hfr; have HSY := Lib.hid hsy; have Y7 := Lib.hid y7
          have Y4 := Lib.hid y4; have Y5 := Lib.hid y5; have Y6 := Lib.hid y6
          clear hgy hoth hfr y7 hfy fz t2 t6 y4 y5 y6
          obtain ⟨wp, hwp⟩ : ∃ wp, wp = wr := ⟨_, rfl⟩
          subst hwp
          go_loopw [63] (fun x wz => ∃ m, m ≤ ff.len ∧ x = .int .i64 (m : Nat) ∧ (0 < ff.len → Rest 5 (EP M) (partAt ff) wz Bo ff.len mso m) ∧ Fr2 (msp j) (msp (j + 1)) wy wz) (fun x wz => ff.len - (intOf x).toNat)
          case atStart => exact ⟨0, Nat.zero_le _, rfl, Y7.out, Fr2.refl _ _ _⟩
          case round =>
            obtain ⟨m, hm, rfl, hrs, hf⟩ := hrel
            have HRS3 := Lib.hid hrs; have HF3 := Lib.hid hf
            clear hrs hf
            have z4 := (World.cell?_of_block (w := wy) (a := ⟨b, p + 4, none⟩) (HF3.out.block b (by omega) (by omega))).trans Y4.out
            have z5 := (World.cell?_of_block (w := wy) (a := ⟨B2, i, none⟩) (HF3.out.block B2 (by omega) (.inl (by omega)))).trans Y5.out
            have z6 := (World.cell?_of_block (w := wy) (a := ⟨Bp, j * 5 + 4, none⟩) (HF3.out.block Bp (by omega) (.inl (by omega)))).trans Y6.out
            by_cases hlt3 : m < ff.len
            · have hpos3 : 0 < ff.len := by omega
              obtain ⟨hze, r1, r2, r3, _⟩ := RO.out hpos3
              subst hze
              have hrm := HRS3.out hpos3
              obtain ⟨kk2, qq2, tt2, oo2, ff2, rr2, hdr2⟩ := PL.drop_at hlt3
              have hel := hrm.2.2.2 m _ (Nat.le_refl _) hlt3 (partAt_drop hdr2)
              have helt : wr.cell? ⟨Bo, m * 5 + 2, none⟩ = some (.string tt2) ∧ tt2.size ≤ 140737488351232 := by
                unfold M at hel
                exact ⟨hel.1.2.2.1, hel.1.2.2.2.2.1⟩
              obtain ⟨u2, u4⟩ := helt
              obtain ⟨rowo, tyo, hrowo⟩ := hrm.2.2.1
              have fz : wr.frozen? ⟨Bo, m * 5 + 2, none⟩ = false := frozen_of_row _ _ _ _ _ hrowo
              have i4 := hrm.lo m hm
              have i5 := hrm.hi (m + 1) hlt3
              have i6 := hrm.2.1 m hlt3
              have i7 := HF3.out.size
              have hgo := heap_setCell_same _ _ (m * 5 + 2) _ _ (.string (tt2 ++ ⟨#[122]⟩)) hrowo
              have hoo : ∀ c, c ≠ Bo → (wr.setCell ⟨Bo, m * 5 + 2, none⟩ (.string (tt2 ++ ⟨#[122]⟩))).heap[c]? = wr.heap[c]? := fun c hc => heap_setCell_other _ _ _ _ hc
              have hnx := Rest.next (stable_EP M) hrm (by omega) (w' := wr.setCell ⟨Bo, m * 5 + 2, none⟩ (.string (tt2 ++ ⟨#[122]⟩))) ⟨_, _, hgo⟩ (fun q hq => by
                rw [Lib.cell_of_heap hgo, Array.getElem?_setIfInBounds, if_neg (by omega), ← Lib.cell_of_heap hrowo]) (fun c p1 p2 => hoo c (by omega))
              have hfx : Fr2 (msp j) (msp (j + 1)) wy (wr.setCell ⟨Bo, m * 5 + 2, none⟩ (.string (tt2 ++ ⟨#[122]⟩))) := HF3.out.trans (Fr2.set _ _ _ (by omega) (by omega))
              have HNX := Lib.hid hnx; have HFX := Lib.hid hfx
              clear hrm hel hdr2 hrowo hgo hoo hnx hfx
              go_wp2_with fail
              go_roundw
              case rel => exact ⟨m + 1, by omega, by go_num, fun _ => HNX.out, HFX.out⟩
              case measure => simp [intOf]; omega
            · obtain rfl : m = ff.len := by omega
              have hnx := Rest.next (stable_EP (M + 1)) HRP.out (by omega) (w' := wr) ⟨_, _, (HF3.out.block Bp (by omega) (.inl (by omega))).trans HGY.out⟩ (fun q hq => by
                rw [World.cell?_of_block (w := wy) (a := ⟨Bp, q, none⟩) (HF3.out.block Bp (by omega) (.inl (by omega))), Lib.cell_of_heap HGY.out, Array.getElem?_setIfInBounds, if_neg (by omega), ← Lib.cell_of_heap HRW.out]) (fun c p1 p2 => (HF3.out.block c (by omega) (.inr (by omega))).trans (HOT.out c (by omega)))
              have hfx : Fr2 (ms2 i) (ms2 (i + 1)) wo wr := HF2.out.trans (HFR.out.trans (HF3.out.mono (by omega) (by omega)))
              have HNX := Lib.hid hnx; have HFX := Lib.hid hfx
              clear hnx hfx hlt3 z4 z5 z6 k4 k5
              go_wp2_with fail
              go_roundw
              case rel => exact ⟨j + 1, by omega, by go_num, fun _ => HNX.out, HFX.out⟩
              case measure => simp [intOf]; omega
        · obtain rfl : j = l.len := by omega
          have hnx := Rest.next stable_EW HRT.out (by omega) (w' := wr) ⟨_, _, (HF2.out.block B2 (by omega) (.inl (by omega))).trans HRT.out.2.2.1.choose_spec.choose_spec⟩ (fun q hq => World.cell?_of_block (w := wo) (a := ⟨B2, q, none⟩) (HF2.out.block B2 (by omega) (.inl (by omega)))) (fun c p1 p2 => HF2.out.block c p1 (.inr p2))
          have hfx : Fr2 m1 m2 W1 wr := HF.out.trans (HF2.out.mono (by omega) (by omega))
          have HNX := Lib.hid hnx; have HFX := Lib.hid hfx
          clear hnx hfx hlt2 k4 k5
          go_wp2_with fail
          go_roundw
          case rel => exact ⟨i + 1, by omega, by go_num, fun _ => HNX.out, HFX.out⟩
          case measure => simp [intOf]; omega
    · obtain rfl : i = d.ws.length := by omega
      obtain ⟨W2, hW2⟩ : ∃ W2, W2 = wr := ⟨_, rfl⟩
      subst hW2
      have hf := HF.out
      have hfs := hf.size
      have oA := O1.out.keep stable_EA (w' := W2) fun c p1 p2 => hf.block c (by have := HHI.out; omega) (by omega)
      have oN := O3.out.keep (stable_EN n) (w' := W2) fun c p1 p2 => hf.block c (by have := HHI.out; omega) (by omega)
      have oB := O4.out.keep stable_EB (w' := W2) fun c p1 p2 => hf.block c (by have := HHI.out; omega) (by omega)
      have oC := O5.out.keep (stable_EC (stable_EN n)) (w' := W2) fun c p1 p2 => hf.block c (by have := HHI.out; omega) (by omega)
      clear O1 O3 O4 O5
      obtain ⟨Ba, msa, hRa⟩ := oA.rest
      have RA := Lib.hid hRa
      have O3 := Lib.hid oN; have O4 := Lib.hid oB; have O5 := Lib.hid oC
      have hfl : Fr2 lo hi W1 W2 := hf.mono (by omega) (by have := l3; omega)
      have HFL := Lib.hid hfl
      have q3 := HQ3.out _ hfl
      clear hRa oA oN oB oC hfl hf hlt HRS
      go_wp2_with fail
      go_loopw [92] (fun x wr => ∃ i, i ≤ d.az.length ∧ x = .int .i64 (i : Nat) ∧ (0 < d.az.length → Rest 2 EA (fun i => d.az[i]?) wr Ba d.az.length msa i) ∧ Fr2 lo m1 W2 wr) (fun x wr => d.az.length - (intOf x).toNat)
      case atStart => exact ⟨0, Nat.zero_le _, rfl, fun h => (RA.out h).2.2.2.2, Fr2.refl _ _ _⟩
      case round =>
        obtain ⟨i, hi', rfl, hrs, hf⟩ := hrel
        have HRS := Lib.hid hrs; have HF2 := Lib.hid hf
        clear hrs hf
        by_cases hlt : i < d.az.length
        · have hpos : 0 < d.az.length := by omega
          obtain ⟨hae, hb1, hb2, hb3, _⟩ := RA.out hpos
          have hrest := HRS.out hpos
          obtain ⟨⟨e0, _⟩, y, cy, e1, _⟩ := hrest.2.2.2 i _ (Nat.le_refl _) hlt (List.getElem?_eq_getElem hlt)
          have j0 := hrest.lo i hi'
          have j1 := hrest.hi (i + 1) hlt
          have j2 := hrest.2.1 i hlt
          have j3 : b < lo ∨ hi ≤ b := HBL.out
          have j4 := HHI.out
          have j5 := HF2.out.size
          have q3 := HQ3.out _ (HFL.out.trans (HF2.out.mono (Nat.le_refl _) (by omega)))
          subst hae
          obtain ⟨rowa, tya, hrowa⟩ := hrest.2.2.1
          have HRT := Lib.hid hrest; have HRW := Lib.hid hrowa
          have f0 : wr.frozen? ⟨Ba, i * 2, none⟩ = false := frozen_of_row _ _ _ _ _ hrowa
          have f1 : wr.frozen? ⟨Ba, i * 2 + 1, none⟩ = false := frozen_of_row _ _ _ _ _ hrowa
          have hBs := (Array.getElem?_eq_some_iff.1 hrowa).1
          generalize d.az[i] = xa at *
          clear hrest hrowa
          go_wp2_with fail
          refine RN.begins (fun w' => w'.cell? ⟨b, p + 3, none⟩ = some (.slice (some ⟨Ba, 0, none⟩) d.az.length c1)) [8] (by kernel_rfl) ?_
          have hS : wr.drew.cell? ⟨b, p + 3, none⟩ = some (.slice (some ⟨Ba, 0, none⟩) d.az.length c1) := q3
          refine RN.take (i := 0) (v := ?_) rfl (by decide) (by kernel_rfl) (by kernel_rfl) (by kernel_rfl) (by kernel_rfl) (by kernel_rfl) (by first | exact fun _ _ _ h => h | exact fun _ _ _ h => (by cases h.1) | exact fun _ _ _ h => door_put (by decide) h) (.inl ⟨by rfl, ?_⟩) hS ?_
          rotate_left 1
          · (intro wq hq; skip; go_simp; try with_reducible rfl)
          refine RN.take (i := 1) (v := ?_) rfl (by decide) (by kernel_rfl) (by kernel_rfl) (by kernel_rfl) (by kernel_rfl) (by kernel_rfl) (by first | exact fun _ _ _ h => h | exact fun _ _ _ h => (by cases h.1) | exact fun _ _ _ h => door_put (by decide) h) (.inl ⟨by rfl, ?_⟩) hS ?_
          rotate_left 1
          · (intro wq hq; skip; go_simp; try with_reducible rfl)
          refine RN.take (i := 2) (v := ?_) rfl (by decide) (by kernel_rfl) (by kernel_rfl) (by kernel_rfl) (by kernel_rfl) (by kernel_rfl) (by first | exact fun _ _ _ h => h | exact fun _ _ _ h => (by cases h.1) | exact fun _ _ _ h => door_put (by decide) h) (.inl ⟨by rfl, ?_⟩) hS ?_
          rotate_left 1
          · (intro wq hq; skip; go_simp; try with_reducible rfl)
          refine RN.take (i := 3) (v := ?_) rfl (by decide) (by kernel_rfl) (by kernel_rfl) (by kernel_rfl) (by kernel_rfl) (by kernel_rfl) (by first | exact fun _ _ _ h => h | exact fun _ _ _ h => (by cases h.1) | exact fun _ _ _ h => door_put (by decide) h) (.inl ⟨by rfl, ?_⟩) hS ?_
          rotate_left 1
          · (intro wq hq; skip; go_simp; try with_reducible rfl)
          refine RN.take (i := 4) (v := ?_) rfl (by decide) (by kernel_rfl) (by kernel_rfl) (by kernel_rfl) (by kernel_rfl) (by kernel_rfl) (by first | exact fun _ _ _ h => h | exact fun _ _ _ h => (by cases h.1) | exact fun _ _ _ h => door_put (by decide) h) (.inl ⟨by rfl, ?_⟩) hS ?_
          rotate_left 1
          · (intro wq hq; skip; go_simp; try with_reducible rfl)
          refine RN.all (rs := [5]) (by kernel_rfl) (by simp) ?_
          refine RN.All.cons rfl (fun K hK => ?_) RN.All.nil
          go_simp
          refine (ofZ_any _).mono ?_
          rintro e w1 ⟨⟨za, zc, rfl⟩, hzb⟩
          have hr1 := (hzb.block Ba hBs).trans HRW.out
          have hS1 : w1.cell? ⟨b, p + 3, none⟩ = some (.slice (some ⟨Ba, 0, none⟩) d.az.length c1) := cell_below hzb hS
          refine hK _ _ (fun _ => hS1) ?_
          clear hK K
          clear hS
          have hS := hS1
          refine RN.take (i := 6) (v := ?_) rfl (by decide) (by kernel_rfl) (by kernel_rfl) (by kernel_rfl) (by kernel_rfl) (by kernel_rfl) (by first | exact fun _ _ _ h => h | exact fun _ _ _ h => (by cases h.1) | exact fun _ _ _ h => door_put (by decide) h) (.inl ⟨by rfl, ?_⟩) hS ?_
          rotate_left 1
          · (intro wq hq; skip; go_simp; try with_reducible rfl)
          refine RN.take (i := 7) (v := ?_) rfl (by decide) (by kernel_rfl) (by kernel_rfl) (by kernel_rfl) (by kernel_rfl) (by kernel_rfl) (by first | exact fun _ _ _ h => h | exact fun _ _ _ h => (by cases h.1) | exact fun _ _ _ h => door_put (by decide) h) (.inl ⟨by rfl, ?_⟩) hS ?_
          rotate_left 1
          · (intro wq hq; skip; go_simp; try with_reducible rfl)
          have e0' : w1.cell? ⟨Ba, i * 2, none⟩ = some (.string xa.1) := cell_below hzb e0
          have e1' : w1.cell? ⟨Ba, i * 2 + 1, none⟩ = some (.slice y xa.2.len cy) := cell_below hzb e1
          have f0' : w1.frozen? ⟨Ba, i * 2, none⟩ = false := frozen_of_row _ _ _ _ _ hr1
          have f1' : w1.frozen? ⟨Ba, i * 2 + 1, none⟩ = false := frozen_of_row _ _ _ _ _ hr1
          have hg0 := heap_setCell_same _ _ (i * 2) _ _ (.string ⟨#[122]⟩) hr1
          have hg1 := heap_setCell_same _ _ (i * 2 + 1) _ _ (.slice za 1 zc) hg0
          have hws : w1.heap.size = ((w1.setCell ⟨Ba, i * 2, none⟩ (.string ⟨#[122]⟩)).setCell ⟨Ba, i * 2 + 1, none⟩ (.slice za 1 zc)).heap.size := by simp
          have hwr : wr.heap.size ≤ w1.heap.size := hzb.size
          have hnx := Rest.next stable_EA HRT.out (by omega) (w' := (w1.setCell ⟨Ba, i * 2, none⟩ (.string ⟨#[122]⟩)).setCell ⟨Ba, i * 2 + 1, none⟩ (.slice za 1 zc)) ⟨_, _, hg1⟩ (fun q hq => by
            rw [Lib.cell_of_heap hg1, Array.getElem?_setIfInBounds, if_neg (by omega), Array.getElem?_setIfInBounds, if_neg (by omega), ← Lib.cell_of_heap HRW.out]) (fun c p1 p2 => by
            rw [heap_setCell_other _ _ _ _ (show c ≠ Ba by omega), heap_setCell_other _ _ _ _ (show c ≠ Ba by omega)]
            exact hzb.block c p1)
          have hfx : Fr2 lo m1 W2 ((w1.setCell ⟨Ba, i * 2, none⟩ (.string ⟨#[122]⟩)).setCell ⟨Ba, i * 2 + 1, none⟩ (.slice za 1 zc)) := HF2.out.trans ((Fr2.drew (Fr2.of_below hzb)).trans ((Fr2.set _ _ _ (by omega) (by omega)).trans (Fr2.set _ _ _ (by omega) (by omega))))
          have HNX := Lib.hid hnx; have HFX := Lib.hid hfx
          clear hnx hfx hg0 hg1 hws hr1 hzb hS1
          refine RN.all (rs := [8]) (by kernel_rfl) (by simp) ?_
          refine RN.All.cons rfl (fun K hK => ?_) RN.All.nil
          go_simp
          refine hK _ _ (fun h => absurd h (by decide)) ?_
          clear hK K
          refine RN.done (by kernel_rfl) ?_ _
          go_wp2_with fail
          go_roundw
          case rel => exact ⟨i + 1, by omega, by go_num, fun _ => HNX.out, HFX.out⟩
          case measure => simp [intOf]; omega
        · obtain rfl : i = d.az.length := by omega
          obtain ⟨W3, hW3⟩ : ∃ W3, W3 = wr := ⟨_, rfl⟩
          subst hW3
          have hf := HF2.out
          have hfs := hf.size
          have j4 := HHI.out
          have oN := O3.out.keep (stable_EN n) (w' := W3) fun c p1 p2 => hf.block c (by omega) (by omega)
          have oB := O4.out.keep stable_EB (w' := W3) fun c p1 p2 => hf.block c (by omega) (by omega)
          have oC := O5.out.keep (stable_EC (stable_EN n)) (w' := W3) fun c p1 p2 => hf.block c (by omega) (by omega)
          clear O3 O4 O5
          obtain ⟨Bb, msb, hRb⟩ := oB.rest
          have RB := Lib.hid hRb
          have O3 := Lib.hid oN; have O5 := Lib.hid oC
          have hfl : Fr2 lo hi W1 W3 := HFL.out.trans (hf.mono (Nat.le_refl _) (by omega))
          have HFL3 := Lib.hid hfl
          have q6 := HQ6.out _ hfl
          clear hRb oN oB oC hfl hf hlt HRS
          go_wp2_with fail
          go_loopw [109] (fun x wr => ∃ i, i ≤ d.bs.length ∧ x = .int .i64 (i : Nat) ∧ (0 < d.bs.length → Rest 1 EB (fun i => d.bs[i]?) wr Bb d.bs.length msb i) ∧ Fr2 m3 m4 W3 wr) (fun x wr => d.bs.length - (intOf x).toNat)
          case atStart => exact ⟨0, Nat.zero_le _, rfl, fun h => (RB.out h).2.2.2.2, Fr2.refl _ _ _⟩
          case round =>
            obtain ⟨i, hi', rfl, hrs, hf⟩ := hrel
            have HRS := Lib.hid hrs; have HF3 := Lib.hid hf
            clear hrs hf
            by_cases hlt : i < d.bs.length
            · have hpos : 0 < d.bs.length := by omega
              obtain ⟨hae, hb1, hb2, hb3, _⟩ := RB.out hpos
              have hrest := HRS.out hpos
              obtain ⟨_, e0⟩ := hrest.2.2.2 i _ (Nat.le_refl _) hlt (List.getElem?_eq_getElem hlt)
              rw [Nat.mul_one] at e0
              have j0 := hrest.lo i hi'
              have j1 := hrest.hi (i + 1) hlt
              have j2 := hrest.2.1 i hlt
              have j3 : b < lo ∨ hi ≤ b := HBL.out
              have j5 := HF3.out.size
              have q6 := HQ6.out _ (HFL3.out.trans (HF3.out.mono (by omega) (by omega)))
              subst hae
              obtain ⟨rowa, tya, hrowa⟩ := hrest.2.2.1
              have HRT := Lib.hid hrest; have HRW := Lib.hid hrowa
              have f0 : wr.frozen? ⟨Bb, i, none⟩ = false := frozen_of_row _ _ _ _ _ hrowa
              have hBs := (Array.getElem?_eq_some_iff.1 hrowa).1
              generalize d.bs[i] = xa at *
              clear hrest hrowa
              go_wp2_with fail
              refine RN.begins (fun w' => w'.cell? ⟨b, p + 6, none⟩ = some (.slice (some ⟨Bb, 0, none⟩) d.bs.length c4) ∧ w'.cell? ⟨Bb, i, none⟩ = some (.bool xa)) [14] (by kernel_rfl) ?_
              have hS : wr.drew.cell? ⟨b, p + 6, none⟩ = some (.slice (some ⟨Bb, 0, none⟩) d.bs.length c4) ∧ wr.drew.cell? ⟨Bb, i, none⟩ = some (.bool xa) := ⟨q6, e0⟩
              refine RN.take (i := 0) (v := ?_) rfl (by decide) (by kernel_rfl) (by kernel_rfl) (by kernel_rfl) (by kernel_rfl) (by kernel_rfl) (by first | exact fun _ _ _ h => h | exact fun _ _ _ h => (by cases h.1) | exact fun _ _ _ h => door_put (by decide) h) (.inl ⟨by rfl, ?_⟩) hS ?_
              rotate_left 1
              · (intro wq hq; obtain ⟨s0, s1⟩ := hq; go_simp; try with_reducible rfl)
              refine RN.take (i := 1) (v := ?_) rfl (by decide) (by kernel_rfl) (by kernel_rfl) (by kernel_rfl) (by kernel_rfl) (by kernel_rfl) (by first | exact fun _ _ _ h => h | exact fun _ _ _ h => (by cases h.1) | exact fun _ _ _ h => door_put (by decide) h) (.inl ⟨by rfl, ?_⟩) hS ?_
              rotate_left 1
              · (intro wq hq; obtain ⟨s0, s1⟩ := hq; go_simp; try with_reducible rfl)
              refine RN.take (i := 2) (v := ?_) rfl (by decide) (by kernel_rfl) (by kernel_rfl) (by kernel_rfl) (by kernel_rfl) (by kernel_rfl) (by first | exact fun _ _ _ h => h | exact fun _ _ _ h => (by cases h.1) | exact fun _ _ _ h => door_put (by decide) h) (.inl ⟨by rfl, ?_⟩) hS ?_
              rotate_left 1
              · (intro wq hq; obtain ⟨s0, s1⟩ := hq; go_simp; try with_reducible rfl)
              refine RN.take (i := 3) (v := ?_) rfl (by decide) (by kernel_rfl) (by kernel_rfl) (by kernel_rfl) (by kernel_rfl) (by kernel_rfl) (by first | exact fun _ _ _ h => h | exact fun _ _ _ h => (by cases h.1) | exact fun _ _ _ h => door_put (by decide) h) (.inl ⟨by rfl, ?_⟩) hS ?_
              rotate_left 1
              · (intro wq hq; obtain ⟨s0, s1⟩ := hq; go_simp; try with_reducible rfl)
              refine RN.take (i := 4) (v := ?_) rfl (by decide) (by kernel_rfl) (by kernel_rfl) (by kernel_rfl) (by kernel_rfl) (by kernel_rfl) (by first | exact fun _ _ _ h => h | exact fun _ _ _ h => (by cases h.1) | exact fun _ _ _ h => door_put (by decide) h) (.inl ⟨by rfl, ?_⟩) hS ?_
              rotate_left 1
              · (intro wq hq; obtain ⟨s0, s1⟩ := hq; go_simp; try with_reducible rfl)
              refine RN.take (i := 5) (v := ?_) rfl (by decide) (by kernel_rfl) (by kernel_rfl) (by kernel_rfl) (by kernel_rfl) (by kernel_rfl) (by first | exact fun _ _ _ h => h | exact fun _ _ _ h => (by cases h.1) | exact fun _ _ _ h => door_put (by decide) h) (.inl ⟨by rfl, ?_⟩) hS ?_
              rotate_left 1
              · (intro wq hq; obtain ⟨s0, s1⟩ := hq; go_simp; try with_reducible rfl)
              refine RN.take (i := 6) (v := ?_) rfl (by decide) (by kernel_rfl) (by kernel_rfl) (by kernel_rfl) (by kernel_rfl) (by kernel_rfl) (by first | exact fun _ _ _ h => h | exact fun _ _ _ h => (by cases h.1) | exact fun _ _ _ h => door_put (by decide) h) (.inl ⟨by rfl, ?_⟩) hS ?_
              rotate_left 1
              · (intro wq hq; obtain ⟨s0, s1⟩ := hq; go_simp; try with_reducible rfl)
              refine RN.take (i := 7) (v := ?_) rfl (by decide) (by kernel_rfl) (by kernel_rfl) (by kernel_rfl) (by kernel_rfl) (by kernel_rfl) (by first | exact fun _ _ _ h => h | exact fun _ _ _ h => (by cases h.1) | exact fun _ _ _ h => door_put (by decide) h) (.inl ⟨by rfl, ?_⟩) hS ?_
              rotate_left 1
              · (intro wq hq; obtain ⟨s0, s1⟩ := hq; go_simp; try with_reducible rfl)
              refine RN.take (i := 8) (v := ?_) rfl (by decide) (by kernel_rfl) (by kernel_rfl) (by kernel_rfl) (by kernel_rfl) (by kernel_rfl) (by first | exact fun _ _ _ h => h | exact fun _ _ _ h => (by cases h.1) | exact fun _ _ _ h => door_put (by decide) h) (.inl ⟨by rfl, ?_⟩) hS ?_
              rotate_left 1
              · (intro wq hq; obtain ⟨s0, s1⟩ := hq; go_simp; try with_reducible rfl)
              refine RN.take (i := 9) (v := ?_) rfl (by decide) (by kernel_rfl) (by kernel_rfl) (by kernel_rfl) (by kernel_rfl) (by kernel_rfl) (by first | exact fun _ _ _ h => h | exact fun _ _ _ h => (by cases h.1) | exact fun _ _ _ h => door_put (by decide) h) (.inl ⟨by rfl, ?_⟩) hS ?_
              rotate_left 1
              · (intro wq hq; obtain ⟨s0, s1⟩ := hq; go_simp; try with_reducible rfl)
              refine RN.take (i := 10) (v := ?_) rfl (by decide) (by kernel_rfl) (by kernel_rfl) (by kernel_rfl) (by kernel_rfl) (by kernel_rfl) (by first | exact fun _ _ _ h => h | exact fun _ _ _ h => (by cases h.1) | exact fun _ _ _ h => door_put (by decide) h) (.inl ⟨by rfl, ?_⟩) hS ?_
              rotate_left 1
              · (intro wq hq; obtain ⟨s0, s1⟩ := hq; go_simp; try with_reducible rfl)
              refine RN.take (i := 11) (v := ?_) rfl (by decide) (by kernel_rfl) (by kernel_rfl) (by kernel_rfl) (by kernel_rfl) (by kernel_rfl) (by first | exact fun _ _ _ h => h | exact fun _ _ _ h => (by cases h.1) | exact fun _ _ _ h => door_put (by decide) h) (.inl ⟨by rfl, ?_⟩) hS ?_
              rotate_left 1
              · (intro wq hq; obtain ⟨s0, s1⟩ := hq; go_simp; try with_reducible rfl)
              refine RN.take (i := 12) (v := ?_) rfl (by decide) (by kernel_rfl) (by kernel_rfl) (by kernel_rfl) (by kernel_rfl) (by kernel_rfl) (by first | exact fun _ _ _ h => h | exact fun _ _ _ h => (by cases h.1) | exact fun _ _ _ h => door_put (by decide) h) (.inl ⟨by rfl, ?_⟩) hS ?_
              rotate_left 1
              · (intro wq hq; obtain ⟨s0, s1⟩ := hq; go_simp; try with_reducible rfl)
              refine RN.take (i := 13) (v := ?_) rfl (by decide) (by kernel_rfl) (by kernel_rfl) (by kernel_rfl) (by kernel_rfl) (by kernel_rfl) (by first | exact fun _ _ _ h => h | exact fun _ _ _ h => (by cases h.1) | exact fun _ _ _ h => door_put (by decide) h) (.inl ⟨by rfl, ?_⟩) hS ?_
              rotate_left 1
              · (intro wq hq; obtain ⟨s0, s1⟩ := hq; go_simp; try with_reducible rfl)
              have hg0 := heap_setCell_same _ _ i _ _ (.bool !xa) HRW.out
              have hnx := Rest.next stable_EB HRT.out (by omega) (w' := wr.setCell ⟨Bb, i, none⟩ (.bool !xa)) ⟨_, _, hg0⟩ (fun q hq => by
                rw [Lib.cell_of_heap hg0, Array.getElem?_setIfInBounds, if_neg (by omega), ← Lib.cell_of_heap HRW.out]) (fun c p1 p2 => heap_setCell_other _ _ _ _ (show c ≠ Bb by omega))
              have hfx : Fr2 m3 m4 W3 (wr.setCell ⟨Bb, i, none⟩ (.bool !xa)) := HF3.out.trans (Fr2.set _ _ _ (by omega) (by omega))
              have HNX := Lib.hid hnx; have HFX := Lib.hid hfx
              clear hnx hfx hg0
              refine RN.all (rs := [14]) (by kernel_rfl) (by simp) ?_
              refine RN.All.cons rfl (fun K hK => ?_) RN.All.nil
              go_simp
              refine hK _ _ (fun h => absurd h (by decide)) ?_
              clear hK K
              refine RN.done (by kernel_rfl) ?_ _
              go_wp2_with fail
              go_roundw
              case rel => exact ⟨i + 1, by omega, by go_num, fun _ => HNX.out, ⟨HFX.out.os, HFX.out.tape, HFX.out.output, HFX.out.size, HFX.out.block⟩⟩
              case measure => simp [intOf]; omega
            · obtain rfl : i = d.bs.length := by omega
              obtain ⟨W4, hW4⟩ : ∃ W4, W4 = wr := ⟨_, rfl⟩
              subst hW4
              have hf := HF3.out
              have hfs := hf.size
              have oN := O3.out.keep (stable_EN n) (w' := W4) fun c p1 p2 => hf.block c (by omega) (by omega)
              have oC := O5.out.keep (stable_EC (stable_EN n)) (w' := W4) fun c p1 p2 => hf.block c (by omega) (by omega)
              clear O3 O5
              obtain ⟨Bk, msk, hRk⟩ := oN.rest
              have RK := Lib.hid hRk
              have O5 := Lib.hid oC
              have hfl : Fr2 lo hi W1 W4 := HFL3.out.trans (hf.mono (by omega) (by omega))
              have HFL4 := Lib.hid hfl
              have q5 := HQ5.out _ hfl
              clear hRk oN oC hfl hf hlt HRS
              go_wp2_with fail
              go_loopw [132] (fun x wr => ∃ i, i ≤ d.ks.len ∧ x = .int .i64 (i : Nat) ∧ (0 < d.ks.len → Rest 8 (EN n) (nodeAt d.ks) wr Bk d.ks.len msk i) ∧ Fr2 m2 m3 W4 wr) (fun x wr => d.ks.len - (intOf x).toNat)
              case atStart => exact ⟨0, Nat.zero_le _, rfl, fun h => (RK.out h).2.2.2.2, Fr2.refl _ _ _⟩
              case round =>
                obtain ⟨i, hi', rfl, hrs, hf⟩ := hrel
                have HRS := Lib.hid hrs; have HF4 := Lib.hid hf
                clear hrs hf
                by_cases hlt : i < d.ks.len
                · have hpos : 0 < d.ks.len := by omega
                  obtain ⟨hae, hb1, hb2, hb3, _⟩ := RK.out hpos
                  have hrest := HRS.out hpos
                  obtain ⟨k1, nm1, g1, az1, ws1, ks1, bs1, cz1, r1, hd1⟩ := NL.drop_node hlt hok
                  have hel := hrest.2.2.2 i _ (Nat.le_refl _) hlt (nodeAt_drop hd1)
                  have hko := NL.drop_ok i d.ks true hok
                  rw [hd1] at hko
                  simp only [NL.okN, Bool.and_eq_true] at hko
                  have j0 := hrest.lo i hi'
                  have j1 := hrest.hi (i + 1) hlt
                  have j2 := hrest.2.1 i hlt
                  have j3 : b < lo ∨ hi ≤ b := HBL.out
                  have j5 := HF4.out.size
                  have q5 := HQ5.out _ (HFL4.out.trans (HF4.out.mono (by omega) (by omega)))
                  subst hae
                  have hcall := HSS.out ⟨k1, nm1, g1, az1, ws1, ks1, bs1, cz1⟩ Bk (i * 8) (msk i) (msk (i + 1)) wr hel hko.1.1.2 hko.1.2 (.inl j0) (by omega) hrest.2.2.1
                  have HRT := Lib.hid hrest; have HCL := Lib.hid hcall
                  have hBs : Bk < wr.heap.size := by omega
                  clear hrest hel hko hd1 hcall
                  go_wp2_with fail
                  refine HCL.out.mono ?_
                  rintro e w1 ⟨rfl, hsp1⟩
                  have hnx := Rest.next (stable_EN n) HRT.out (by omega) (w' := w1) hsp1.row (fun q hq => hsp1.cell q (by omega)) (fun c p1 p2 => hsp1.block c p1 (.inr p2) (by omega))
                  have hfx : Fr2 m2 m3 W4 w1 := HF4.out.trans (hsp1.fr2 (by omega) (by omega) (by omega) (by omega))
                  have HNX := Lib.hid hnx; have HFX := Lib.hid hfx
                  clear hnx hfx hsp1
                  go_wp2_with fail
                  go_roundw
                  case rel => exact ⟨i + 1, by omega, by go_num, fun _ => HNX.out, HFX.out⟩
                  case measure => simp [intOf]; omega
                · obtain rfl : i = d.ks.len := by omega
                  obtain ⟨W5, hW5⟩ : ∃ W5, W5 = wr := ⟨_, rfl⟩
                  subst hW5
                  have hf := HF4.out
                  have hfs := hf.size
                  have oC := O5.out.keep (stable_EC (stable_EN n)) (w' := W5) fun c p1 p2 => hf.block c (by omega) (by omega)
                  clear O5
                  obtain ⟨Bc, msc, hRc⟩ := oC.rest
                  have RC := Lib.hid hRc
                  have hfl : Fr2 lo hi W1 W5 := HFL4.out.trans (hf.mono (by omega) (by omega))
                  have HFL5 := Lib.hid hfl
                  have q7 := HQ7.out _ hfl
                  clear hRc oC hfl hf hlt HRS
                  go_wp2_with fail
                  go_loopw [148] (fun x wr => ∃ i, i ≤ d.cz.len ∧ x = .int .i64 (i : Nat) ∧ (0 < d.cz.len → Rest 2 (ECof (EN n)) (caseAt d.cz) wr Bc d.cz.len msc i) ∧ Fr2 m4 hi W5 wr) (fun x wr => d.cz.len - (intOf x).toNat)
                  case atStart => exact ⟨0, Nat.zero_le _, rfl, fun h => (RC.out h).2.2.2.2, Fr2.refl _ _ _⟩
                  case round =>
                    obtain ⟨i, hi', rfl, hrs, hf⟩ := hrel
                    have HRS := Lib.hid hrs; have HF5 := Lib.hid hf
                    clear hrs hf
                    by_cases hlt : i < d.cz.len
                    · have hpos : 0 < d.cz.len := by omega
                      obtain ⟨hae, hb1, hb2, hb3, _⟩ := RC.out hpos
                      have hrest := HRS.out hpos
                      obtain ⟨ps, bd, r1, hd1⟩ := NL.drop_case hlt hoc
                      obtain ⟨mm, ax, cx, ay, cy, e0, e1, ow1, ow2⟩ := hrest.2.2.2 i _ (Nat.le_refl _) hlt (caseAt_drop hd1)
                      have hko := NL.drop_ok i d.cz false hoc
                      rw [hd1] at hko
                      simp only [NL.okN, Bool.and_eq_true] at hko
                      have hkb := hko.1.2
                      have j0 := hrest.lo i hi'
                      have j1 := hrest.hi (i + 1) hlt
                      have j2 := hrest.2.1 i hlt
                      have j3 : b < lo ∨ hi ≤ b := HBL.out
                      have j5 := HF5.out.size
                      have k1 := ow1.2.2.1
                      have k2 := ow2.2.2.1
                      have z6 := ow1.2.1
                      have z7 := ow2.2.1
                      unfold R at z6 z7
                      have q7 := HQ7.out _ (HFL5.out.trans (HF5.out.mono (by omega) (Nat.le_refl _)))
                      subst hae
                      obtain ⟨Bq, msq, hRq⟩ := ow1.rest
                      have RQ := Lib.hid hRq; have HRT := Lib.hid hrest; have OW2 := Lib.hid ow2
                      obtain ⟨wo, hwo⟩ : ∃ wo, wo = wr := ⟨_, rfl⟩
                      subst hwo
                      dsimp only at e0 e1 z6 z7
                      clear hRq hrest ow1 ow2 hko hd1
                      go_wp2_with fail
                      go_loopw [160] (fun x wq => ∃ j, j ≤ ps.length ∧ x = .int .i64 (j : Nat) ∧ (0 < ps.length → Rest 1 EW (fun i => ps[i]?) wq Bq ps.length msq j) ∧ Fr2 (msc i) mm wo wq) (fun x wq => ps.length - (intOf x).toNat)
                      case atStart => exact ⟨0, Nat.zero_le _, rfl, fun h => (RQ.out h).2.2.2.2, Fr2.refl _ _ _⟩
                      case round =>
                        obtain ⟨j, hj, rfl, hrs, hf⟩ := hrel
                        have HRS2 := Lib.hid hrs; have HF6 := Lib.hid hf
                        clear hrs hf
                        have j6 := HF6.out.size
                        have q7 : wr.cell? ⟨b, p + 7, none⟩ = some (.slice (some ⟨Bc, 0, none⟩) d.cz.len c5) := HQ7.out _ ((HFL5.out.trans (HF5.out.mono (by omega) (Nat.le_refl _))).trans (HF6.out.mono (by omega) (by omega)))
                        have e0' : wr.cell? ⟨Bc, i * 2, none⟩ = some (.slice ax ps.length cx) := (World.cell?_of_block (w := wo) (a := ⟨Bc, _, none⟩) (HF6.out.block Bc (by omega) (.inl (by omega)))).trans e0
                        have e1' : wr.cell? ⟨Bc, i * 2 + 1, none⟩ = some (.slice ay bd.len cy) := (World.cell?_of_block (w := wo) (a := ⟨Bc, _, none⟩) (HF6.out.block Bc (by omega) (.inl (by omega)))).trans e1
                        by_cases hlt2 : j < ps.length
                        · have hpos2 : 0 < ps.length := by omega
                          obtain ⟨haq, hp1, hp2, hp3, _⟩ := RQ.out hpos2
                          subst haq
                          have hrp := HRS2.out hpos2
                          obtain ⟨yq, cq, eq0, _⟩ := hrp.2.2.2 j _ (Nat.le_refl _) hlt2 (List.getElem?_eq_getElem hlt2)
                          rw [Nat.mul_one] at eq0
                          have i0 := hrp.lo j hj
                          have i1 := hrp.hi (j + 1) hlt2
                          have i2 := hrp.2.1 j hlt2
                          obtain ⟨rowa, tya, hrowa⟩ := hrp.2.2.1
                          have HRP := Lib.hid hrp; have HRW := Lib.hid hrowa
                          have hBs := (Array.getElem?_eq_some_iff.1 hrowa).1
                          generalize ps[j] = xq at *
                          clear hrp hrowa
                          go_wp2_with fail
                          refine RN.begins (fun w' => w'.cell? ⟨b, p + 7, none⟩ = some (.slice (some ⟨Bc, 0, none⟩) d.cz.len c5) ∧ w'.cell? ⟨Bc, i * 2, none⟩ = some (.slice (some ⟨Bq, 0, none⟩) ps.length cx)) [11] (by kernel_rfl) ?_
                          have hS : wr.drew.cell? ⟨b, p + 7, none⟩ = some (.slice (some ⟨Bc, 0, none⟩) d.cz.len c5) ∧ wr.drew.cell? ⟨Bc, i * 2, none⟩ = some (.slice (some ⟨Bq, 0, none⟩) ps.length cx) := ⟨q7, e0'⟩
                          refine RN.take (i := 0) (v := ?_) rfl (by decide) (by kernel_rfl) (by kernel_rfl) (by kernel_rfl) (by kernel_rfl) (by kernel_rfl) (by first | exact fun _ _ _ h => h | exact fun _ _ _ h => (by cases h.1) | exact fun _ _ _ h => door_put (by decide) h) (.inl ⟨by rfl, ?_⟩) hS ?_
                          rotate_left 1
                          · (intro wq hq; obtain ⟨s0, s1⟩ := hq; go_simp; try with_reducible rfl)
                          refine RN.take (i := 1) (v := ?_) rfl (by decide) (by kernel_rfl) (by kernel_rfl) (by kernel_rfl) (by kernel_rfl) (by kernel_rfl) (by first | exact fun _ _ _ h => h | exact fun _ _ _ h => (by cases h.1) | exact fun _ _ _ h => door_put (by decide) h) (.inl ⟨by rfl, ?_⟩) hS ?_
                          rotate_left 1
                          · (intro wq hq; obtain ⟨s0, s1⟩ := hq; go_simp; try with_reducible rfl)
                          refine RN.take (i := 2) (v := ?_) rfl (by decide) (by kernel_rfl) (by kernel_rfl) (by kernel_rfl) (by kernel_rfl) (by kernel_rfl) (by first | exact fun _ _ _ h => h | exact fun _ _ _ h => (by cases h.1) | exact fun _ _ _ h => door_put (by decide) h) (.inl ⟨by rfl, ?_⟩) hS ?_
                          rotate_left 1
                          · (intro wq hq; obtain ⟨s0, s1⟩ := hq; go_simp; try with_reducible rfl)
                          refine RN.take (i := 3) (v := ?_) rfl (by decide) (by kernel_rfl) (by kernel_rfl) (by kernel_rfl) (by kernel_rfl) (by kernel_rfl) (by first | exact fun _ _ _ h => h | exact fun _ _ _ h => (by cases h.1) | exact fun _ _ _ h => door_put (by decide) h) (.inl ⟨by rfl, ?_⟩) hS ?_
                          rotate_left 1
                          · (intro wq hq; obtain ⟨s0, s1⟩ := hq; go_simp; try with_reducible rfl)
                          refine RN.take (i := 4) (v := ?_) rfl (by decide) (by kernel_rfl) (by kernel_rfl) (by kernel_rfl) (by kernel_rfl) (by kernel_rfl) (by first | exact fun _ _ _ h => h | exact fun _ _ _ h => (by cases h.1) | exact fun _ _ _ h => door_put (by decide) h) (.inl ⟨by rfl, ?_⟩) hS ?_
                          rotate_left 1
                          · (intro wq hq; obtain ⟨s0, s1⟩ := hq; go_simp; try with_reducible rfl)
                          refine RN.take (i := 5) (v := ?_) rfl (by decide) (by kernel_rfl) (by kernel_rfl) (by kernel_rfl) (by kernel_rfl) (by kernel_rfl) (by first | exact fun _ _ _ h => h | exact fun _ _ _ h => (by cases h.1) | exact fun _ _ _ h => door_put (by decide) h) (.inl ⟨by rfl, ?_⟩) hS ?_
                          rotate_left 1
                          · (intro wq hq; obtain ⟨s0, s1⟩ := hq; go_simp; try with_reducible rfl)
                          refine RN.take (i := 6) (v := ?_) rfl (by decide) (by kernel_rfl) (by kernel_rfl) (by kernel_rfl) (by kernel_rfl) (by kernel_rfl) (by first | exact fun _ _ _ h => h | exact fun _ _ _ h => (by cases h.1) | exact fun _ _ _ h => door_put (by decide) h) (.inl ⟨by rfl, ?_⟩) hS ?_
                          rotate_left 1
                          · (intro wq hq; obtain ⟨s0, s1⟩ := hq; go_simp; try with_reducible rfl)
                          refine RN.take (i := 7) (v := ?_) rfl (by decide) (by kernel_rfl) (by kernel_rfl) (by kernel_rfl) (by kernel_rfl) (by kernel_rfl) (by first | exact fun _ _ _ h => h | exact fun _ _ _ h => (by cases h.1) | exact fun _ _ _ h => door_put (by decide) h) (.inl ⟨by rfl, ?_⟩) hS ?_
                          rotate_left 1
                          · (intro wq hq; obtain ⟨s0, s1⟩ := hq; go_simp; try with_reducible rfl)
                          refine RN.take (i := 8) (v := ?_) rfl (by decide) (by kernel_rfl) (by kernel_rfl) (by kernel_rfl) (by kernel_rfl) (by kernel_rfl) (by first | exact fun _ _ _ h => h | exact fun _ _ _ h => (by cases h.1) | exact fun _ _ _ h => door_put (by decide) h) (.inl ⟨by rfl, ?_⟩) hS ?_
                          rotate_left 1
                          · (intro wq hq; obtain ⟨s0, s1⟩ := hq; go_simp; try with_reducible rfl)
                          refine RN.all (rs := [9]) (by kernel_rfl) (by simp) ?_
                          refine RN.All.cons rfl (fun K hK => ?_) RN.All.nil
                          go_simp
                          refine (ofZ_any _).mono ?_
                          rintro e w1 ⟨⟨za, zc, rfl⟩, hzb⟩
                          have hr1 := (hzb.block Bq hBs).trans HRW.out
                          have hS1 : w1.cell? ⟨b, p + 7, none⟩ = some (.slice (some ⟨Bc, 0, none⟩) d.cz.len c5) ∧ w1.cell? ⟨Bc, i * 2, none⟩ = some (.slice (some ⟨Bq, 0, none⟩) ps.length cx) := ⟨cell_below hzb hS.1, cell_below hzb hS.2⟩
                          refine hK _ _ (fun _ => hS1) ?_
                          clear hK K
                          clear hS
                          have hS := hS1
                          refine RN.take (i := 10) (v := ?_) rfl (by decide) (by kernel_rfl) (by kernel_rfl) (by kernel_rfl) (by kernel_rfl) (by kernel_rfl) (by first | exact fun _ _ _ h => h | exact fun _ _ _ h => (by cases h.1) | exact fun _ _ _ h => door_put (by decide) h) (.inl ⟨by rfl, ?_⟩) hS ?_
                          rotate_left 1
                          · (intro wq hq; obtain ⟨s0, s1⟩ := hq; go_simp; try with_reducible rfl)
                          have eq0' : w1.cell? ⟨Bq, j, none⟩ = some (.slice yq xq.len cq) := cell_below hzb eq0
                          have f0' : w1.frozen? ⟨Bq, j, none⟩ = false := frozen_of_row _ _ _ _ _ hr1
                          have hg0 := heap_setCell_same _ _ j _ _ (.slice za 1 zc) hr1
                          have hwr : wr.heap.size ≤ w1.heap.size := hzb.size
                          have hnx := Rest.next stable_EW HRP.out (by omega) (w' := w1.setCell ⟨Bq, j, none⟩ (.slice za 1 zc)) ⟨_, _, hg0⟩ (fun q hq => by
                            rw [Lib.cell_of_heap hg0, Array.getElem?_setIfInBounds, if_neg (by omega), ← Lib.cell_of_heap HRW.out]) (fun c p1 p2 => by
                            rw [heap_setCell_other _ _ _ _ (show c ≠ Bq by omega)]
                            exact hzb.block c p1)
                          have hfx : Fr2 (msc i) mm wo (w1.setCell ⟨Bq, j, none⟩ (.slice za 1 zc)) := HF6.out.trans ((Fr2.drew (Fr2.of_below hzb)).trans (Fr2.set _ _ _ (by omega) (by omega)))
                          have HNX := Lib.hid hnx; have HFX := Lib.hid hfx
                          clear hnx hfx hg0 hr1 hzb hS1
                          refine RN.all (rs := [11]) (by kernel_rfl) (by simp) ?_
                          refine RN.All.cons rfl (fun K hK => ?_) RN.All.nil
                          go_simp
                          refine hK _ _ (fun h => absurd h (by decide)) ?_
                          clear hK K
                          refine RN.done (by kernel_rfl) ?_ _
                          go_wp2_with fail
                          go_roundw
                          case rel => exact ⟨j + 1, by omega, by go_num, fun _ => HNX.out, HFX.out⟩
                          case measure => simp [intOf]; omega
                        · obtain rfl : j = ps.length := by omega
                          obtain ⟨w6, hw6⟩ : ∃ w6, w6 = wr := ⟨_, rfl⟩
                          subst hw6
                          have hf6 := HF6.out
                          obtain ⟨Bd, msd, hRd⟩ := (OW2.out.keep (stable_EN n) (w' := w6) fun c p1 p2 => hf6.block c (by omega) (.inr p1)).rest
                          have RD := Lib.hid hRd
                          clear hRd hf6 hlt2 HRS2
                          go_wp2_with fail
                          go_loopw [184] (fun x wq => ∃ m, m ≤ bd.len ∧ x = .int .i64 (m : Nat) ∧ (0 < bd.len → Rest 8 (EN n) (nodeAt bd) wq Bd bd.len msd m) ∧ Fr2 mm (msc (i + 1)) w6 wq) (fun x wq => bd.len - (intOf x).toNat)
                          case atStart => exact ⟨0, Nat.zero_le _, rfl, fun h => (RD.out h).2.2.2.2, Fr2.refl _ _ _⟩
                          case round =>
                            obtain ⟨m, hm, rfl, hrs, hf⟩ := hrel
                            have HRS3 := Lib.hid hrs; have HF7 := Lib.hid hf
                            clear hrs hf
                            have j7 := HF7.out.size
                            have q7' : wr.cell? ⟨b, p + 7, none⟩ = some (.slice (some ⟨Bc, 0, none⟩) d.cz.len c5) := (World.cell?_of_block (w := w6) (a := ⟨b, _, none⟩) (HF7.out.block b (by omega) (by omega))).trans q7
                            have e1'' : wr.cell? ⟨Bc, i * 2 + 1, none⟩ = some (.slice ay bd.len cy) := (World.cell?_of_block (w := w6) (a := ⟨Bc, _, none⟩) (HF7.out.block Bc (by omega) (.inl (by omega)))).trans e1'
                            by_cases hlt3 : m < bd.len
                            · have hpos3 : 0 < bd.len := by omega
                              obtain ⟨had, hd1, hd2, hd3, _⟩ := RD.out hpos3
                              have hrest := HRS3.out hpos3
                              obtain ⟨k1', nm1, g1, az1, ws1, ks1, bs1, cz1, r1', hdd⟩ := NL.drop_node hlt3 hkb
                              have hel := hrest.2.2.2 m _ (Nat.le_refl _) hlt3 (nodeAt_drop hdd)
                              have hko := NL.drop_ok m bd true hkb
                              rw [hdd] at hko
                              simp only [NL.okN, Bool.and_eq_true] at hko
                              have i0 := hrest.lo m hm
                              have i1 := hrest.hi (m + 1) hlt3
                              have i2 := hrest.2.1 m hlt3
                              subst had
                              have hcall := HSS.out ⟨k1', nm1, g1, az1, ws1, ks1, bs1, cz1⟩ Bd (m * 8) (msd m) (msd (m + 1)) wr hel hko.1.1.2 hko.1.2 (.inl i0) (by omega) hrest.2.2.1
                              have HRX := Lib.hid hrest; have HCL := Lib.hid hcall
                              have hBs : Bd < wr.heap.size := by omega
                              clear hrest hel hko hdd hcall
                              go_wp2_with fail
                              refine HCL.out.mono ?_
                              rintro e w1 ⟨rfl, hsp1⟩
                              have hnx := Rest.next (stable_EN n) HRX.out (by omega) (w' := w1) hsp1.row (fun q hq => hsp1.cell q (by omega)) (fun c p1 p2 => hsp1.block c p1 (.inr p2) (by omega))
                              have hfx : Fr2 mm (msc (i + 1)) w6 w1 := HF7.out.trans (hsp1.fr2 (by omega) (by omega) (by omega) (by omega))
                              have HNX := Lib.hid hnx; have HFX := Lib.hid hfx
                              clear hnx hfx hsp1
                              go_wp2_with fail
                              go_roundw
                              case rel => exact ⟨m + 1, by omega, by go_num, fun _ => HNX.out, HFX.out⟩
                              case measure => simp [intOf]; omega
                            · obtain rfl : m = bd.len := by omega
                              have hall : Fr2 (msc i) (msc (i + 1)) wo wr := (HF6.out.mono (Nat.le_refl _) (by omega)).trans (HF7.out.mono (by omega) (Nat.le_refl _))
                              have hnx := Rest.next (stable_EC (stable_EN n)) HRT.out (by omega) (w' := wr) ⟨_, _, (hall.block Bc (by omega) (.inl (by omega))).trans HRT.out.2.2.1.choose_spec.choose_spec⟩ (fun q hq => World.cell?_of_block (w := wo) (a := ⟨Bc, q, none⟩) (hall.block Bc (by omega) (.inl (by omega)))) (fun c p1 p2 => hall.block c p1 (.inr p2))
                              have hfx : Fr2 m4 hi W5 wr := HF5.out.trans (hall.mono (by omega) (by omega))
                              have HNX := Lib.hid hnx; have HFX := Lib.hid hfx
                              clear hnx hfx hall hlt3 q7' e1''
                              go_wp2_with fail
                              go_roundw
                              case rel => exact ⟨i + 1, by omega, by go_num, fun _ => HNX.out, HFX.out⟩
                              case measure => simp [intOf]; omega
                    · obtain rfl : i = d.cz.len := by omega
                      go_wp2_with fail
                      go_end0
                      exact ⟨rfl, HSP.out.then (HFL5.out.trans (HF5.out.mono (by omega) (Nat.le_refl _))) (by omega) HBL.out⟩
theorem spoil_all : ∀ n, SpoilAt n
  | 0 => fun _ _ _ _ _ _ h => h.elim
  | n + 1 => spoil_step n (spoil_all n)
end Ow
end Go.Proofs.Ytmpongcambbihaa
