/- The walk of WordSplits. -/
import Derived.Test.YtpjdpmlneefafaaDoorSpA
import Derived.Test.YtpjdpmlneefafaaDoorSpD
import Derived.Test.YtpjdpmlneefafaaDoorSpE
import Derived.Test.YtpjdpmlneefafaaDoorRfC
import Derived.Test.YtpjdpmlneefafaaDoorWdA
import Derived.Test.YtpjdpmlneefafaaDoorPtC
namespace Go.Proofs.YtpjdpmlneefafaaDoor
open Go.RowKit Go.Sort
namespace Sp
open Cls Pt Bd Uq Wd

theorem same_refl : ∀ a : PL, same a a = true
  | .nil => rfl
  | .cons k q t o f r => by simp [same, same_refl f, same_refl r]
theorem plainB_cons (k : Int) (q : Bool) (t o : ByteArray) (f r : PL) : plainB (.cons k q t o f r) = (((r.len + 1 : Nat) : Int) == 1 && k == 1 && !q) := by
  cases r with
  | nil => simp [plainB, PL.len]
  | cons k2 q2 t2 o2 f2 r2 =>
    have : (((r2.len + 1 + 1 : Nat) : Int) == 1) = false := by simp; omega
    simp only [plainB, PL.len]
    rw [this]; rfl
theorem plainT_cons (k : Int) (q : Bool) (t o : ByteArray) (f r : PL) : plainT (.cons k q t o f r) = if plainB (.cons k q t o f r) then t else ⟨#[]⟩ := by
  cases r with
  | nil => simp [plainT, plainB]
  | cons => rfl
theorem bytes_size : ∀ l : PL, l.size ≤ Bd.bytes l
  | .nil => Nat.zero_le _
  | .cons _ _ _ _ f r => by have := bytes_size f; have := bytes_size r; simp only [PL.size, Bd.bytes]; omega

theorem same_one (s : ByteArray) (w : World) (hs : s.size ≤ R) :
    Calls Tryd.prog 9 #[.slice (some ⟨w.heap.size, 0, none⟩) 1 1, .slice (some ⟨w.heap.size + 1, 0, none⟩) 1 1] ((w.alloc (oneO s)).alloc (oneO s)) fun e w' => e = .returned (.bool true) ∧ Below (w.alloc (oneO s)).heap.size (w.alloc (oneO s)) w' := by
  have h2 := one_lies s (w.alloc (oneO s)) hs
  rw [show (w.alloc (oneO s)).heap.size = w.heap.size + 1 by simp] at h2
  have h := rsame_any ((oneP s).size + 1) (oneP s) (oneP s) (some ⟨w.heap.size, 0, none⟩) (some ⟨w.heap.size + 1, 0, none⟩) 1 1 ((w.alloc (oneO s)).alloc (oneO s)) (by omega) ((one_lies s w hs).below (bel1 _ _)) h2
  rw [same_refl, show (oneP s).len = 1 from rfl] at h
  exact h.mono fun e w' h => ⟨h.1, thru (bel1 _ _) h.2⟩

set_option maxHeartbeats 1000000 in
set_option maxRecDepth 100000 in
theorem splits_law (l : PL) (s : ByteArray) (a : Option Addr) (cap : Nat) (m : Int) (w : World) (hl : Lies w a cap l) (hs : s.size ≤ R) (hm : w.cell? ⟨0, 0, none⟩ = some (.int .i64 m)) :
    Calls Tryd.prog 3 #[.slice a l.len cap, .string s] w fun e w' => e = .returned (.bool true) ∧ Below w.heap.size w w' := by
  have hm0 : 0 < w.heap.size := World.block_lt_of_cell? _ _ hm
  have hmw : ∀ w1, Below w.heap.size w w1 → w1.cell? ⟨0, 0, none⟩ = some (.int .i64 m) := fun w1 hb => (hb.cell (p := ⟨0, 0, none⟩) hm0).trans hm
  have HAL := Lib.hid (alive_any m w hm)
  have hW1 := fun w1 (hb : Below w.heap.size w w1) => (weight_any (l.size + 1) l a cap 0 w1 (by omega) (by omega) (hl.below hb)).mono fun e w' h => And.intro h.1 (thru hb h.2)
  have HP := Lib.hid (fun w1 (hb : Below w.heap.size w w1) => plain_any l a cap w1 (hl.below hb))
  have hY1 := fun (h : weight l 0 ≤ 10000) => (weight_bytes h)
  have hle := hl.le
  have HL := Lib.hid hl; have HMW := Lib.hid hmw
  clear hm hl hmw
  unfold R at hs
  generalize weight l 0 = W1 at hW1 hY1
  have HW1 := Lib.hid hW1; have HY1 := Lib.hid hY1
  clear hW1 hY1
  by_cases g1 : 5000 < W1
  · have gI : ((W1 : Int) > 5000) = True := by simp; omega
    have gJ : (5000 < (W1 : Int)) = True := by simp; omega
    clear g1
    go_enter Tryd.func3, Tryd.ntmps3
    go_wp2_with (first
      | (go_at_call 4; refine (HAL.out).mono ?_; rintro e w1 ⟨rfl, hb⟩)
      | (go_at_call 5; refine (HW1.out _ (by assumption)).mono ?_; rintro e w' ⟨rfl, hb⟩))
    go_ret
    exact ⟨rfl, by assumption⟩
  · have gI : ((W1 : Int) > 5000) = False := by simp; omega
    have gJ : (5000 < (W1 : Int)) = False := by simp; omega
    have hby : Bd.bytes l ≤ 100000 := by have := HY1.out (by omega); omega
    have hsz : l.size ≤ 1000000 := by have := bytes_size l; omega
    have HBY := Lib.hid hby
    clear g1 HY1 hby
    by_cases g2 : 5000 < s.size
    · have gI2 : ((s.size : Int) > 5000) = True := by simp; omega
      have gJ2 : (5000 < (s.size : Int)) = True := by simp; omega
      clear g2
      go_enter Tryd.func3, Tryd.ntmps3
      go_wp2_with (first
        | (go_at_call 4; refine (HAL.out).mono ?_; rintro e w1 ⟨rfl, hb⟩)
        | (go_at_call 5; refine (HW1.out _ (by assumption)).mono ?_; rintro e w' ⟨rfl, hb⟩))
      go_ret
      exact ⟨rfl, by assumption⟩
    · have gI2 : ((s.size : Int) > 5000) = False := by simp; omega
      have gJ2 : (5000 < (s.size : Int)) = False := by simp; omega
      have HQ := Lib.hid (fun w1 (hb : Below w.heap.size w w1) => (quoteTop_any s m w1 (HMW.out w1 hb) (by omega)).mono fun e w' h => And.intro h.1 (thru hb h.2))
      have HQ2 := Lib.hid (fun w1 (hb : Below w.heap.size w w1) => (Rf.rquote_any s w1 (by omega)).mono fun e w' h => And.intro h.1 (thru hb h.2))
      have HO := Lib.hid (fun w1 (hb : Below w.heap.size w w1) => (of_any s w1).mono fun e w' h => And.intro h.1 (And.intro h.2 (thru hb (h.2 ▸ bel1 w1 _))))
      have HSM := Lib.hid (fun w1 (hb : Below w.heap.size w w1) (la : PL) a1 c1 a2 c2 (h1 : Lies w1 a1 c1 la) (h2 : Lies w1 a2 c2 la) => (same_refl la ▸ rsame_any (la.size + 1) la la a1 a2 c1 c2 w1 (by omega) h1 h2).mono fun e w' h => And.intro h.1 (thru hb h.2))
      have HNS := Lib.hid (fun (hn : splitP l = none) w1 (hb : Below w.heap.size w w1) => (split_no l a cap m w1 (HL.out.below hb) hsz (fun k q t o f r h => by subst h; have := HBY.out; simp only [Bd.bytes] at this; omega) (HMW.out w1 hb) hn).mono fun e w' h => And.intro h.1 (thru hb h.2))
      have HRS := Lib.hid (fun w1 (hb : Below w.heap.size w w1) => rsplit_any l a cap w1 (HL.out.below hb))
      clear g2
      -- the cases
      have HSO2 := Lib.hid (fun w5 (hb : Below w.heap.size w (w5.alloc (oneO s))) => (same_one s w5 hs).mono fun e w' h => And.intro h.1 (thru hb h.2))
      cases hlc : l with
      | nil =>
        have hz : ((l.len : Int) == 1) = false := by rw [hlc]; rfl
        have hpB : plainB l = false := by rw [hlc]; rfl
        have hpT : plainT l = ⟨#[]⟩ := by rw [hlc]; rfl
        have hsp : splitI l = -1 := by rw [hlc]; rfl
        have hsn : splitP l = none := by rw [hlc]; rfl
        have HNS2 := Lib.hid (HNS.out hsn)
        have hP2 := HP.out
        have hRS2 := HRS.out
        rw [hpB, hpT] at hP2
        rw [hsp] at hRS2
        rw [← hlc]
        clear hlc hpB hpT hsp hsn HP HRS HNS
        have HP := Lib.hid hP2; have HRS := Lib.hid hRS2
        clear hP2 hRS2
        go_enter Tryd.func3, Tryd.ntmps3
        go_wp2_with (first
          | (go_at_call 4; refine (HAL.out).mono ?_; rintro e w1 ⟨rfl, hb⟩)
          | (go_at_call 5; refine (HW1.out _ (by assumption)).mono ?_; rintro e w2 ⟨rfl, hb⟩; skip)
          | (go_at_call 6; refine (HP.out _ (by assumption)).mono ?_; rintro e w3 ⟨rfl, rfl⟩)
          | (go_at_call 7; refine (HQ.out _ (by assumption)).mono ?_; rintro e w4 ⟨rfl, hb⟩)
          | (go_at_call 8; refine (HQ2.out _ (by assumption)).mono ?_; rintro e w5 ⟨rfl, hb⟩)
          | (go_at_call 10; refine (HO.out _ (by assumption)).mono ?_; rintro e w6 ⟨rfl, rfl, hb⟩))
        refine (HSO2.out _ (by assumption)).mono ?_
        rintro e w10 ⟨rfl, hb⟩
        go_wp2_with (first
          | (go_at_call 12; refine (HRS.out _ (by assumption)).mono ?_; rintro e w7 ⟨rfl, rfl⟩)
          | (go_at_call 11; refine (HNS2.out _ (by assumption)).mono ?_; rintro e w8 ⟨rfl, hb⟩))
        go_ret
        exact ⟨rfl, by assumption⟩
      | cons k q t o f r =>
        obtain ⟨b1, p1, rfl, hb1, c10, c11, c12, c13, ht, ho, a1, ca1, c14, hl1⟩ := HL.out.get (i := 0) (by rw [hlc]; rfl)
        rw [Nat.zero_mul, Nat.add_zero] at c10 c11 c12 c13 c14
        clear c13 c14 hl1
        have hlen : l.len = r.len + 1 := by rw [hlc]; rfl
        have hts : t.size ≤ 100000 := by have := HBY.out; rw [hlc] at this; simp only [Bd.bytes] at this; omega
        have hpB : plainB l = (((l.len : Nat) : Int) == 1 && k == 1 && !q) := by rw [hlen, hlc]; exact plainB_cons k q t o f r
        have hpT : plainT l = if plainB l then t else ⟨#[]⟩ := by rw [hlc]; exact plainT_cons k q t o f r
        have hpos : 0 < l.len := by omega
        have hSP : splitP l = if k == 1 && !q then eqT t.data.toList else none := by rw [hlc]; rfl
        have hP2 := HP.out
        have hRS2 := HRS.out
        rw [hpT, hpB] at hP2
        have HYS0 := Lib.hid (fun n (hn : splitP l = some n) w1 (hb : Below w.heap.size w w1) => (split_yes k q t o f r n _ cap m w1 (by rw [← hlc]; exact HL.out.below hb) (by rw [← hlc]; exact hsz) (by omega) (HMW.out w1 hb) (by rw [← hlc]; exact hn)).mono fun e w' h => And.intro h.1 (thru hb h.2))
        have HRR0 := Lib.hid (fun n (hn : n < t.size) w1 (hb : Below w.heap.size w w1) => (rrest_any k q t o f r n _ cap w1 (by rw [← hlc]; exact HL.out.below hb) (by rw [← hlc]; exact hsz) hn).mono fun e w' h => And.intro h.1 h.2)
        rw [← hlc]
        rw [← hlen, ← hlc] at HYS0 HRR0
        clear hlc hpB hpT HP hlen
        cases hz : ((l.len : Int) == 1) <;> cases hk : (k == 1) <;> cases q
        all_goals
          have hk2 : (k != 1) = !(k == 1) := rfl
          rw [hk] at hk2 hSP hP2
          rw [hz] at hP2
        case false.true.false | true.true.false =>
          cases hsp : splitP l with
          | none =>
            have hspI : splitI l = -1 := by simp only [splitI, hsp]
            rw [hspI] at hRS2
            have HNS2 := Lib.hid (HNS.out hsp)
            have HP := Lib.hid hP2; have HRS := Lib.hid hRS2; have HK := Lib.hid hk
            clear hP2 hRS2 hsp hspI hSP HNS HYS0 HRR0
            go_enter Tryd.func3, Tryd.ntmps3
            go_wp2_with (first
              | (go_at_call 4; refine (HAL.out).mono ?_; rintro e w1 ⟨rfl, hb⟩)
              | (go_at_call 5; refine (HW1.out _ (by assumption)).mono ?_; rintro e w2 ⟨rfl, hb⟩; have f0 := (hb.cell (p := ⟨b1, p1, none⟩) hb1).trans c10; have f1 := (hb.cell (p := ⟨b1, p1 + 1, none⟩) hb1).trans c11; have f2 := (hb.cell (p := ⟨b1, p1 + 2, none⟩) hb1).trans c12)
              | (go_at_call 6; refine (HP.out _ (by assumption)).mono ?_; rintro e w3 ⟨rfl, rfl⟩)
              | (go_at_call 7; refine (HQ.out _ (by assumption)).mono ?_; rintro e w4 ⟨rfl, hb⟩)
              | (go_at_call 8; refine (HQ2.out _ (by assumption)).mono ?_; rintro e w5 ⟨rfl, hb⟩)
              | (go_at_call 10; refine (HO.out _ (by assumption)).mono ?_; rintro e w6 ⟨rfl, rfl, hb⟩))
            refine (HSO2.out _ (by assumption)).mono ?_
            rintro e w10 ⟨rfl, hb⟩
            go_wp2_with (first
              | (go_at_call 12; refine (HRS.out _ (by assumption)).mono ?_; rintro e w7 ⟨rfl, rfl⟩)
              | (go_at_call 11; refine (HNS2.out _ (by assumption)).mono ?_; rintro e w8 ⟨rfl, hb⟩))
            go_ret
            exact ⟨rfl, by assumption⟩
          | some n =>
            have hspI : splitI l = n := by simp only [splitI, hsp]
            rw [hspI] at hRS2
            have hnt : n < t.size := by
              rw [hsp] at hSP
              have := (eqT_some hSP.symm).2.2
              rwa [lenB] at this
            have hnle : n ≤ t.size := by omega
            have hn0 : ((n : Int) < 0) = False := by simp
            have hY := HYS0.out n hsp
            have hx : t.extract 0 n = ⟨(t.data.toList.take n).toArray⟩ := by rw [Lib.extract_eq, List.drop_zero, Nat.sub_zero]
            rw [← hx] at hY
            have HYS := Lib.hid hY
            have HRR := Lib.hid (HRR0.out n hnt)
            have HP := Lib.hid hP2; have HRS := Lib.hid hRS2; have HK := Lib.hid hk
            clear hP2 hRS2 hsp hspI hSP HNS HYS0 HRR0 hY hx
            go_enter Tryd.func3, Tryd.ntmps3
            go_wp2_with (first
              | (go_at_call 4; refine (HAL.out).mono ?_; rintro e w1 ⟨rfl, hb⟩)
              | (go_at_call 5; refine (HW1.out _ (by assumption)).mono ?_; rintro e w2 ⟨rfl, hb⟩; have f0 := (hb.cell (p := ⟨b1, p1, none⟩) hb1).trans c10; have f1 := (hb.cell (p := ⟨b1, p1 + 1, none⟩) hb1).trans c11; have f2 := (hb.cell (p := ⟨b1, p1 + 2, none⟩) hb1).trans c12)
              | (go_at_call 6; refine (HP.out _ (by assumption)).mono ?_; rintro e w3 ⟨rfl, rfl⟩)
              | (go_at_call 7; refine (HQ.out _ (by assumption)).mono ?_; rintro e w4 ⟨rfl, hb⟩)
              | (go_at_call 8; refine (HQ2.out _ (by assumption)).mono ?_; rintro e w5 ⟨rfl, hb⟩)
              | (go_at_call 10; refine (HO.out _ (by assumption)).mono ?_; rintro e w6 ⟨rfl, rfl, hb⟩))
            refine (HSO2.out _ (by assumption)).mono ?_
            rintro e w10 ⟨rfl, hb⟩
            go_wp2_with (first
              | (go_at_call 12; refine (HRS.out _ (by assumption)).mono ?_; rintro e w7 ⟨rfl, rfl⟩)
              | (go_at_call 11; refine (HYS.out _ (by assumption)).mono ?_; rintro e w8 ⟨⟨a8, c8, rfl, hl8⟩, hb⟩; have HL8 := Lib.hid hl8; clear hl8; have y0 := (hb.cell (p := ⟨b1, p1, none⟩) hb1).trans c10; have y1 := (hb.cell (p := ⟨b1, p1 + 1, none⟩) hb1).trans c11; have y2 := (hb.cell (p := ⟨b1, p1 + 2, none⟩) hb1).trans c12)
              | (go_at_call 13; refine (HRR.out _ (by assumption)).mono ?_; rintro e w9 ⟨⟨a9, c9, rfl, hl9⟩, hb9⟩; have HL9 := Lib.hid hl9; have HB9 := Lib.hid hb9; clear hl9))
            refine (HSM.out _ (thru (by assumption) HB9.out) (restP l n) _ _ _ _ (HL8.out.below HB9.out) HL9.out).mono ?_
            rintro e w11 ⟨rfl, hb⟩
            go_wp2
            go_ret
            exact ⟨rfl, by assumption⟩
        all_goals
          have hsp : splitP l = none := hSP
          have hspI : splitI l = -1 := by simp only [splitI, hsp]
          rw [hspI] at hRS2
          have HNS2 := Lib.hid (HNS.out hsp)
          have HP := Lib.hid hP2; have HRS := Lib.hid hRS2; have HK := Lib.hid hk
          clear hP2 hRS2 hsp hspI hSP HNS HYS0 HRR0
          go_enter Tryd.func3, Tryd.ntmps3
          go_wp2_with (first
            | (go_at_call 4; refine (HAL.out).mono ?_; rintro e w1 ⟨rfl, hb⟩)
            | (go_at_call 5; refine (HW1.out _ (by assumption)).mono ?_; rintro e w2 ⟨rfl, hb⟩; have f0 := (hb.cell (p := ⟨b1, p1, none⟩) hb1).trans c10; have f1 := (hb.cell (p := ⟨b1, p1 + 1, none⟩) hb1).trans c11; have f2 := (hb.cell (p := ⟨b1, p1 + 2, none⟩) hb1).trans c12)
            | (go_at_call 6; refine (HP.out _ (by assumption)).mono ?_; rintro e w3 ⟨rfl, rfl⟩)
            | (go_at_call 7; refine (HQ.out _ (by assumption)).mono ?_; rintro e w4 ⟨rfl, hb⟩)
            | (go_at_call 8; refine (HQ2.out _ (by assumption)).mono ?_; rintro e w5 ⟨rfl, hb⟩)
            | (go_at_call 10; refine (HO.out _ (by assumption)).mono ?_; rintro e w6 ⟨rfl, rfl, hb⟩))
          refine (HSO2.out _ (by assumption)).mono ?_
          rintro e w10 ⟨rfl, hb⟩
          go_wp2_with (first
            | (go_at_call 12; refine (HRS.out _ (by assumption)).mono ?_; rintro e w7 ⟨rfl, rfl⟩)
            | (go_at_call 11; refine (HNS2.out _ (by assumption)).mono ?_; rintro e w8 ⟨rfl, hb⟩))
          go_ret
          exact ⟨rfl, by assumption⟩
end Sp
end Go.Proofs.YtpjdpmlneefafaaDoor
