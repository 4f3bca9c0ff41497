/- rightParts, Value, Right: for all parts. -/
import Derived.Test.YtgdjeemmklmpfaaPtW
namespace Go.Proofs.Ytgdjeemmklmpfaa
open Go.RowKit Go.Sort
namespace Pt
open Cls

theorem natI2 (n : Nat) : ((n : Int) == 2) = (n == 2) := by rw [Bool.eq_iff_iff]; simp; omega
theorem cell_re {w : World} {b o : Nat} {v : Value} (h : w.cell? ⟨b, o, none⟩ = some v) (x : Obj) (d : Nat) (os : Array Obj) : (grow (redrawn (w.alloc x) d) os).cell? ⟨b, o, none⟩ = some v :=
  cell_regrown (((bel1 w x).cell (p := ⟨b, o, none⟩) (World.block_lt_of_cell? _ _ h)).trans h) d os
/-- What stood ahead of index n. -/
def prevAt (l : PL) : Nat → Option (Int × Bool)
  | 0 => none
  | n + 1 => match l.drop n with
    | .nil => none
    | .cons k q _ _ _ _ => some (k, q)
theorem right_step {l f r : PL} {n at' d : Nat} {k : Int} {q : Bool} {t o : ByteArray} (hd : l.drop n = .cons k q t o f r) :
    rightL (prevAt l n) (l.drop n) at' d = (!(at' == 2 && !q) && !((prevAt l n).any fun x => x.1 == 1 && k == 1 && x.2 == q) && partOK k q t o f at' d && rightL (prevAt l (n + 1)) (l.drop (n + 1)) at' d) := by
  rw [PL.drop_succ hd]
  conv => lhs; rw [hd]
  simp only [rightL, prevAt, hd, partOK]

set_option maxHeartbeats 4000000 in
set_option maxRecDepth 1000000 in
theorem rightParts_step (l : PL) (a : Option Addr) (cap at' d : Nat) (w : World) (ha : at' ≤ 2) (hd : d ≤ 1000) (hl : Lies w a cap l)
    (hS : ∀ (f : PL) (a : Option Addr) (cap : Nat) (q : Bool) (w : World), f.size < l.size → d ≤ 200 → Lies w a cap f → Calls Try.prog 63 #[.slice a f.len cap, .int .i64 (wth q), .int .i64 ((d : Int) + 1)] w fun e w' => e = .returned (.bool (rightL none f (wth q) (d + 1))) ∧ Below w.heap.size w w') :
    Calls Try.prog 63 #[.slice a l.len cap, .int .i64 at', .int .i64 d] w fun e w' => e = .returned (.bool (rightL none l at' d)) ∧ Below w.heap.size w w' := by
  have HA := Lib.hid hl; have HS := Lib.hid hS; clear hl hS
  have hle := HA.out.le
  go_enter Try.func63, Try.ntmps63
  go_wp2
  go_loopw [11] (fun i wr => ∃ n : Nat, n ≤ l.len ∧ i = .int .i64 n ∧ rightL none l at' d = rightL (prevAt l n) (l.drop n) at' d ∧ Below w.heap.size w wr) (fun i wr => l.len - (intOf i).toNat)
  case atStart => exact ⟨0, Nat.zero_le _, rfl, rfl, Below.refl _ _⟩
  case round =>
    obtain ⟨n, hn, rfl, hr, hbw⟩ := hrel
    have HR := Lib.hid hr; have HW := Lib.hid hbw; clear hr hbw
    by_cases hlt : n < l.len
    · obtain ⟨k, q, t, o, f, r, hdr⟩ := PL.drop_at hlt
      obtain ⟨b1, p1, rfl, hb1, c10, c11, c12, c13, ht, ho, a1, ca1, c14, hl1⟩ := (HA.out.below HW.out).get hdr
      have hsz : f.size < l.size := by
        have := PL.drop_size n l
        rw [hdr] at this
        simp only [PL.size] at this
        omega
      have hP : ∀ dd os, Calls Try.prog 68 #[pv k q t o a1 f.len ca1, .int .i64 at', .int .i64 d] (grow (redrawn (wr.alloc (.cells #[.int .i64 k, .bool q, .string t, .string o, .slice a1 f.len ca1] 42)) dd) os) fun e w'' => e = .returned (.bool (partOK k q t o f at' d)) ∧ ∃ p : Regrown, w'' = grow (redrawn (wr.alloc (.cells #[.int .i64 k, .bool q, .string t, .string o, .slice a1 f.len ca1] 42)) p.d) p.os := fun dd os =>
        Calls.regrown_of (rightPart_any k q t o a1 ca1 at' d f _ ht ha hd (hl1.below (thru (bel1 wr _) (below_regrown _ dd os))) (fun w hd h => HS.out f a1 ca1 q w hsz hd h))
      have hstep := right_step (at' := at') (d := d) hdr
      have HT := Lib.hid hstep
      have k0 := cell_regrown (w := wr.alloc (.cells #[.int .i64 k, .bool q, .string t, .string o, .slice a1 f.len ca1] 42)) (a := ⟨wr.heap.size, 0, none⟩) (v := .int .i64 k) (by rw [World.cell?_alloc_at _ _ _ _ rfl]; rfl)
      have k1 := cell_regrown (w := wr.alloc (.cells #[.int .i64 k, .bool q, .string t, .string o, .slice a1 f.len ca1] 42)) (a := ⟨wr.heap.size, 1, none⟩) (v := .bool q) (by rw [World.cell?_alloc_at _ _ _ _ rfl]; rfl)
      have k2 := cell_regrown (w := wr.alloc (.cells #[.int .i64 k, .bool q, .string t, .string o, .slice a1 f.len ca1] 42)) (a := ⟨wr.heap.size, 2, none⟩) (v := .string t) (by rw [World.cell?_alloc_at _ _ _ _ rfl]; rfl)
      have k3 := cell_regrown (w := wr.alloc (.cells #[.int .i64 k, .bool q, .string t, .string o, .slice a1 f.len ca1] 42)) (a := ⟨wr.heap.size, 3, none⟩) (v := .string o) (by rw [World.cell?_alloc_at _ _ _ _ rfl]; rfl)
      have k4 := cell_regrown (w := wr.alloc (.cells #[.int .i64 k, .bool q, .string t, .string o, .slice a1 f.len ca1] 42)) (a := ⟨wr.heap.size, 4, none⟩) (v := .slice a1 f.len ca1) (by rw [World.cell?_alloc_at _ _ _ _ rfl]; rfl)
      have HBL := Lib.hid (fun dq osq => thru HW.out (thru (bel1 wr (.cells #[.int .i64 k, .bool q, .string t, .string o, .slice a1 f.len ca1] 42)) (below_regrown _ dq osq)))
      have HP := Lib.hid hP
      clear hP hstep
      cases h2 : ((at' : Int) == 2 && !q)
      · have hq0 : (at' == 2 && !q) = false := by rw [← natI2]; exact h2
        have HQ := Lib.hid hq0; clear hq0
        have hat : (((at' : Int) == 2) = true ∧ q = true) ∨ ((at' : Int) == 2) = false := by cases h : ((at' : Int) == 2) <;> cases q <;> simp_all
        clear h2
        rcases Nat.eq_zero_or_pos n with h0 | hpos
        · have HPZ := Lib.hid (show ((prevAt l n).any fun x => x.1 == 1 && k == 1 && x.2 == q) = false by rw [h0]; rfl)
          have hz : (n : Int) = 0 := by omega
          have hzz : ((n : Int) > 0) = False := by simp; omega
          have hzy : (0 < n) = False := by simp; omega
          clear hz h0
          cases hp : partOK k q t o f at' d
          all_goals
            have HH := Lib.hid hp
            rw [hp] at HP
            clear hp
          · rcases hat with ⟨hat, rfl⟩ | hat
            all_goals
              go_wp2
              refine Qu.region (by kernel_rfl) (by kernel_rfl) ?_
              repeat (first
                | (first | refine Qu.carry0 rfl (fun K hK => ?_) | refine Qu.carryG rfl rfl rfl (fun K hK => ?_)
                   go_simp
                   first
                   | (refine hK _ ?_; clear hK K)
                   | (apply Exists.intro; refine ⟨fun _ => ?_, hK _ ?_⟩; exact HP.out _ _; clear hK K))
                | (refine Qu.passG rfl rfl rfl (fun K hK => ?_); go_simp; refine hK _ ?_; clear hK K))
              refine Qu.fin ?_
              rintro ⟨dq, osq⟩
              go_wp2
              go_ret
              exact ⟨ret_bool (by rw [HR.out, HT.out, HPZ.out, HH.out]; simp), HBL.out dq osq⟩
          · rcases hat with ⟨hat, rfl⟩ | hat
            all_goals
              go_wp2
              refine Qu.region (by kernel_rfl) (by kernel_rfl) ?_
              repeat (first
                | (first | refine Qu.carry0 rfl (fun K hK => ?_) | refine Qu.carryG rfl rfl rfl (fun K hK => ?_)
                   go_simp
                   first
                   | (refine hK _ ?_; clear hK K)
                   | (apply Exists.intro; refine ⟨fun _ => ?_, hK _ ?_⟩; exact HP.out _ _; clear hK K))
                | (refine Qu.passG rfl rfl rfl (fun K hK => ?_); go_simp; refine hK _ ?_; clear hK K))
              refine Qu.fin ?_
              rintro ⟨dq, osq⟩
              go_wp2
              go_roundw
              case rel => exact ⟨n + 1, by omega, by go_num, by rw [HR.out, HT.out, HPZ.out, HH.out, HQ.out]; simp, HBL.out dq osq⟩
              case measure => simp [intOf]; omega
        · obtain ⟨m, hm⟩ : ∃ m, n = m + 1 := ⟨n - 1, by omega⟩
          have hmlt : m < l.len := by omega
          obtain ⟨k', q', t', o', f', r', hdm⟩ := PL.drop_at hmlt
          obtain ⟨b2, p2, hb2, _, c20, c21, c22, c23, _, _, a2, ca2, c24, hl2⟩ := (HA.out.below HW.out).get hdm
          obtain ⟨rfl, rfl⟩ : b1 = b2 ∧ p1 = p2 := by simpa using hb2
          have hwm : IntKind.i64.wrap ((n : Int) - 1) = (m : Int) := (wrapEq _).trans ((IntWalk.wrap64_in _ ⟨by omega, by omega⟩).trans (by omega))
          have HPV := Lib.hid (show ((prevAt l n).any fun x => x.1 == 1 && k == 1 && x.2 == q) = (k' == 1 && k == 1 && q' == q) by rw [hm]; simp [prevAt, hdm])
          have HO := Lib.hid (fun dd os => Calls.regrown_of (oneText_any k' k q' q t' t o' o a2 a1 f'.len f.len ca2 ca1 (grow (redrawn (wr.alloc (.cells #[.int .i64 k, .bool q, .string t, .string o, .slice a1 f.len ca1] 42)) dd) os)))
          have HM := Lib.hid hm
          have m0 := cell_re c20 (.cells #[.int .i64 k, .bool q, .string t, .string o, .slice a1 f.len ca1] 42)
          have m1 := cell_re c21 (.cells #[.int .i64 k, .bool q, .string t, .string o, .slice a1 f.len ca1] 42)
          have m2 := cell_re c22 (.cells #[.int .i64 k, .bool q, .string t, .string o, .slice a1 f.len ca1] 42)
          have m3 := cell_re c23 (.cells #[.int .i64 k, .bool q, .string t, .string o, .slice a1 f.len ca1] 42)
          have m4 := cell_re c24 (.cells #[.int .i64 k, .bool q, .string t, .string o, .slice a1 f.len ca1] 42)
          clear hb2 hm hdm hl2 c20 c21 c22 c23 c24
          cases ho1 : (k' == 1 && k == 1 && q' == q)
          · cases hp : partOK k q t o f at' d
            all_goals
              have HH := Lib.hid hp
              rw [hp] at HP
              rw [ho1] at HO HPV
              clear hp ho1
            · rcases hat with ⟨hat, rfl⟩ | hat
              all_goals
                go_wp2
                refine Qu.region (by kernel_rfl) (by kernel_rfl) ?_
                repeat (first
                  | (first | refine Qu.carry0 rfl (fun K hK => ?_) | refine Qu.carryG rfl rfl rfl (fun K hK => ?_)
                     go_simp
                     first
                     | (refine hK _ ?_; clear hK K)
                     | (apply Exists.intro; refine ⟨fun _ => ?_, hK _ ?_⟩; (first | (go_at_call 67; exact HO.out _ _) | (go_at_call 68; exact HP.out _ _)); clear hK K))
                  | (refine Qu.passG rfl rfl rfl (fun K hK => ?_); go_simp; refine hK _ ?_; clear hK K))
                refine Qu.fin ?_
                rintro ⟨dq, osq⟩
                go_wp2
                go_ret
                exact ⟨ret_bool (by rw [HR.out, HT.out, HPV.out, HH.out]; simp), HBL.out dq osq⟩
            · rcases hat with ⟨hat, rfl⟩ | hat
              all_goals
                go_wp2
                refine Qu.region (by kernel_rfl) (by kernel_rfl) ?_
                repeat (first
                  | (first | refine Qu.carry0 rfl (fun K hK => ?_) | refine Qu.carryG rfl rfl rfl (fun K hK => ?_)
                     go_simp
                     first
                     | (refine hK _ ?_; clear hK K)
                     | (apply Exists.intro; refine ⟨fun _ => ?_, hK _ ?_⟩; (first | (go_at_call 67; exact HO.out _ _) | (go_at_call 68; exact HP.out _ _)); clear hK K))
                  | (refine Qu.passG rfl rfl rfl (fun K hK => ?_); go_simp; refine hK _ ?_; clear hK K))
                refine Qu.fin ?_
                rintro ⟨dq, osq⟩
                go_wp2
                go_roundw
                case rel => exact ⟨n + 1, by omega, by go_num, by rw [HR.out, HT.out, HPV.out, HH.out, HQ.out]; simp, HBL.out dq osq⟩
                case measure => simp [intOf]; omega
          · have HH := Lib.hid (rfl : (1 : Nat) = 1)
            rw [ho1] at HO HPV
            clear ho1
            rcases hat with ⟨hat, rfl⟩ | hat
            all_goals
              go_wp2
              refine Qu.region (by kernel_rfl) (by kernel_rfl) ?_
              repeat (first
                | (first | refine Qu.carry0 rfl (fun K hK => ?_) | refine Qu.carryG rfl rfl rfl (fun K hK => ?_)
                   go_simp
                   first
                   | (refine hK _ ?_; clear hK K)
                   | (apply Exists.intro; refine ⟨fun _ => ?_, hK _ ?_⟩; (first | (go_at_call 67; exact HO.out _ _) | (go_at_call 68; exact HP.out _ _)); clear hK K))
                | (refine Qu.passG rfl rfl rfl (fun K hK => ?_); go_simp; refine hK _ ?_; clear hK K))
              refine Qu.fin ?_
              rintro ⟨dq, osq⟩
              go_wp2
              go_ret
              exact ⟨ret_bool (by rw [HR.out, HT.out, HPV.out]; simp), HBL.out dq osq⟩
      · have hq : q = false := by cases q <;> simp_all
        subst hq
        have hat : ((at' : Int) == 2) = true := by simpa using h2
        have HH := Lib.hid (show at' = 2 by have := beq_iff_eq.1 hat; omega)
        clear h2 ha
        go_wp2
        refine Qu.region (by kernel_rfl) (by kernel_rfl) ?_
        repeat (first
          | (first | refine Qu.carry0 rfl (fun K hK => ?_) | refine Qu.carryG rfl rfl rfl (fun K hK => ?_)
             go_simp
             first
             | (refine hK _ ?_; clear hK K)
             | (apply Exists.intro; refine ⟨fun _ => ?_, hK _ ?_⟩; fail; clear hK K))
          | (refine Qu.passG rfl rfl rfl (fun K hK => ?_); go_simp; refine hK _ ?_; clear hK K))
        refine Qu.fin ?_
        rintro ⟨dq, osq⟩
        go_wp2
        go_ret
        exact ⟨ret_bool (by rw [HR.out, HT.out, HH.out]; rfl), HBL.out dq osq⟩
    · obtain rfl : n = l.len := by omega
      go_wp2
      go_ret
      exact ⟨ret_bool (by rw [HR.out, PL.drop_end (Nat.le_refl _)]; rfl), HW.out⟩
end Pt
end Go.Proofs.Ytgdjeemmklmpfaa
