/- Which parts are right, as the program has it: for all parts. -/
import Derived.Test.YtgdjeemmklmpfaaPtV
namespace Go.Proofs.Ytgdjeemmklmpfaa
open Go.RowKit Go.Sort
namespace Pt
open Cls

theorem neqE (t : ByteArray) : (t.toList != []) = !(t.data.toList == []) := by rw [Lib.toList_data]; rfl
theorem lenI (n : Nat) : ((n : Int) == 0) = (n == 0) := by rw [Bool.eq_iff_iff]; simp
theorem emptyO (o : ByteArray) : (o.data.toList == []) = o.toList.isEmpty := by rw [Lib.toList_data]; cases o.data.toList <;> rfl
theorem all_no {l : List UInt8} {k : Nat} {p : UInt8 → Bool} (hk : k < l.length) (hd : p (l.getD k 0) = false) : l.all p = false := by
  rw [List.all_eq_false]
  simp only [List.getD, List.getElem?_eq_getElem hk, Option.getD_some] at hd
  exact ⟨l[k], List.getElem_mem hk, by simp [hd]⟩
theorem all_snoc {l : List UInt8} {k : Nat} {p : UInt8 → Bool} (h : (l.take k).all p = true) (hk : k < l.length) (hd : p (l.getD k 0) = true) : (l.take (k + 1)).all p = true := by
  rw [List.take_succ_eq_append_getElem hk, List.all_append, h]
  simp only [List.getD, List.getElem?_eq_getElem hk, Option.getD_some] at hd
  simp [hd]

set_option maxHeartbeats 1000000 in
theorem rightText_any (k : Int) (q : Bool) (t o : ByteArray) (a : Option Addr) (n cap at' : Nat) (w : World) (ht : t.size ≤ R) (ha : at' ≤ 2) :
    Calls Try.prog 72 #[pv k q t o a n cap, .int .i64 at'] w fun e w' => e = .returned (.bool (textOK q t.data.toList at')) ∧ Below w.heap.size w w' := by
  have HNE := Lib.hid (neqE t)
  have ht' : t.size ≤ 140737488351232 := ht
  clear ht
  unfold pv
  cases q
  · go_enter Try.func72, Try.ntmps72
    go_wp2
    go_loopw [18] (fun i wr => ∃ j : Nat, j ≤ t.size ∧ i = .int .i64 j ∧ (t.data.toList.take j).all (fun c => standsB c.toNat at') = true ∧ wr = w.alloc (.cells #[.int .i64 k, .bool false, .string t, .string o, .slice a n cap] 42)) (fun i wr => t.size - (intOf i).toNat)
    case atStart => exact ⟨0, Nat.zero_le _, rfl, rfl, rfl⟩
    case round =>
      obtain ⟨j, hj, rfl, hr, rfl⟩ := hrel
      have HR := Lib.hid hr; clear hr
      by_cases hlt : j < t.size
      · have hlt' : j < t.data.toList.length := by simpa using hlt
        have HG := Lib.hid (congrArg UInt8.toNat (getB hlt))
        cases hs : standsB t[j].toNat at'
        · have HS := Lib.hid hs
          go_wp2_with (go_at_call 77; refine (stands_any _ _ _).mono ?_; rintro e w' ⟨rfl, rfl⟩)
          go_ret
          exact ⟨ret_bool (by simp [textOK, all_no (p := fun c => standsB c.toNat at') hlt' (by rw [← HG.out]; exact HS.out)]), bel1 _ _⟩
        · have HS := Lib.hid hs
          go_wp2_with (go_at_call 77; refine (stands_any _ _ _).mono ?_; rintro e w' ⟨rfl, rfl⟩)
          go_roundw
          case rel => exact ⟨j + 1, by omega, by go_num, all_snoc HR.out hlt' (by rw [← HG.out]; exact HS.out), trivial⟩
          case measure => simp [intOf]; omega
      · obtain rfl : j = t.size := by omega
        have HN := Lib.hid (lenB t)
        go_wp2
        go_ret
        exact ⟨ret_bool (by have := HR.out; rw [List.take_of_length_le (by rw [HN.out]; exact Nat.le_refl _)] at this; simp [textOK, this, Lib.toList_data]), bel1 _ _⟩
  · by_cases h2 : at' = 2
    · subst h2
      go_enter Try.func72, Try.ntmps72
      go_wp2
      go_ret
      exact ⟨ret_bool (by simp [textOK, Lib.toList_data]), bel1 _ _⟩
    · have h2' : ((at' : Int) != 2) = true := by simp; omega
      have H2 := Lib.hid h2
      clear h2
      go_enter Try.func72, Try.ntmps72
      go_wp2
      go_ret
      exact ⟨ret_bool (by simp [textOK, H2.out]), bel1 _ _⟩

/-- Parts are right in a place, at a depth; what stood ahead: its kind, whether quoted. -/
def rightL : Option (Int × Bool) → PL → Nat → Nat → Bool
  | _, .nil, _, _ => true
  | p, .cons k q t o f r, at', d =>
    !(at' == 2 && !q) && !(p.any fun x => x.1 == 1 && k == 1 && x.2 == q) &&
      (if k == 1 then (o.data.toList == [] && f.len == 0 && textOK q t.data.toList at')
       else if k == 2 then (decide (d ≤ 200) && nameOK t.data.toList o.data.toList && (!(o.data.toList == []) || f.len == 0) && rightL none f (wth q) (d + 1)) else false) &&
      rightL (some (k, q)) r at' d
def partOK (k : Int) (q : Bool) (t o : ByteArray) (f : PL) (at' d : Nat) : Bool :=
  if k == 1 then (o.data.toList == [] && f.len == 0 && textOK q t.data.toList at')
  else if k == 2 then (decide (d ≤ 200) && nameOK t.data.toList o.data.toList && (!(o.data.toList == []) || f.len == 0) && rightL none f (wth q) (d + 1)) else false

theorem wrapEq (x : Int) : IntKind.i64.wrap x = wrap64 x := by rw [IntKind.wrap_i64, wrap64]
theorem wrapEq_in (d : Nat) (hd : d ≤ 1000) : IntKind.i64.wrap ((d : Int) + 1) = (d : Int) + 1 :=
  (wrapEq _).trans (IntWalk.wrap64_in _ ⟨by omega, by omega⟩)

set_option maxHeartbeats 1000000 in
set_option maxRecDepth 100000 in
theorem rightPart_any (k : Int) (q : Bool) (t o : ByteArray) (a : Option Addr) (cap at' d : Nat) (f : PL) (w : World) (ht : t.size ≤ R) (ha : at' ≤ 2) (hd : d ≤ 1000) (hf : Lies w a cap f)
    (hS : ∀ w, d ≤ 200 → Lies w a cap f → Calls Try.prog 63 #[.slice a f.len cap, .int .i64 (wth q), .int .i64 ((d : Int) + 1)] w fun e w' => e = .returned (.bool (rightL none f (wth q) (d + 1))) ∧ Below w.heap.size w w') :
    Calls Try.prog 68 #[pv k q t o a f.len cap, .int .i64 at', .int .i64 d] w fun e w' => e = .returned (.bool (partOK k q t o f at' d)) ∧ Below w.heap.size w w' := by
  have HF := Lib.hid hf; clear hf
  have ht' : t.size ≤ 9223372036854775807 := Nat.le_trans ht (by decide)
  have HT := Lib.hid ht; clear ht
  have HOE := Lib.hid (Lib.toList_data o)
  have HB := Lib.hid (bel1 w)
  by_cases hk1 : k = 1
  · subst hk1
    have hRT := rightText_any 1 q t o a f.len cap at' (w.alloc (.cells #[.int .i64 1, .bool q, .string t, .string o, .slice a f.len cap] 42)) HT.out ha
    have HRT := Lib.hid hRT; clear hRT
    unfold pv
    cases he : o.toList.isEmpty <;> cases hl : ((f.len : Int) == 0)
    all_goals
      have HE := Lib.hid (show o.toList.isEmpty = _ ∧ ((f.len : Int) == 0) = _ from ⟨he, hl⟩)
      go_enter Try.func68, Try.ntmps68
      go_wp2_with (go_at_call 72; refine (HRT.out).mono ?_; rintro e w' ⟨rfl, hb⟩)
      go_ret
      refine ⟨ret_bool ?_, by first | exact bel1 _ _ | exact thru (bel1 _ _) (by assumption)⟩
      simp only [partOK, ← lenI, emptyO, HE.out.1, HE.out.2]; rfl
  · by_cases hk2 : k = 2
    · subst hk2
      have hW : ∀ dd os, Calls Try.prog 74 #[pv 2 q t o a f.len cap] (grow (redrawn (w.alloc (.cells #[.int .i64 2, .bool q, .string t, .string o, .slice a f.len cap] 42)) dd) os) fun e w'' => e = .returned (.int .i64 (wth q)) ∧ ∃ p : Regrown, w'' = grow (redrawn (w.alloc (.cells #[.int .i64 2, .bool q, .string t, .string o, .slice a f.len cap] 42)) p.d) p.os := fun dd os =>
        Calls.regrown_of (within_any 2 q t o a f.len cap _)
      have hN : ∀ dd os, Calls Try.prog 73 #[.string t, .string o] (grow (redrawn (w.alloc (.cells #[.int .i64 2, .bool q, .string t, .string o, .slice a f.len cap] 42)) dd) os) fun e w'' => e = .returned (.bool (nameOK t.data.toList o.data.toList)) ∧ ∃ p : Regrown, w'' = grow (redrawn (w.alloc (.cells #[.int .i64 2, .bool q, .string t, .string o, .slice a f.len cap] 42)) p.d) p.os := fun dd os =>
        Calls.regrown_of (rightName_any t o _ ht')
      have hP : d ≤ 200 → ∀ dd os, Calls Try.prog 63 #[.slice a f.len cap, .int .i64 (wth q), .int .i64 ((d : Int) + 1)] (grow (redrawn (w.alloc (.cells #[.int .i64 2, .bool q, .string t, .string o, .slice a f.len cap] 42)) dd) os) fun e w'' => e = .returned (.bool (rightL none f (wth q) (d + 1))) ∧ ∃ p : Regrown, w'' = grow (redrawn (w.alloc (.cells #[.int .i64 2, .bool q, .string t, .string o, .slice a f.len cap] 42)) p.d) p.os := fun h dd os =>
        Calls.regrown_of (hS _ h (HF.out.below (thru (HB.out _) (below_regrown _ dd os))))
      have HW := Lib.hid hW; have HN := Lib.hid hN; have HP := Lib.hid hP; have HS := Lib.hid hS
      clear hW hN hP hS
      have k0 := cell_regrown (w := w.alloc (.cells #[.int .i64 2, .bool q, .string t, .string o, .slice a f.len cap] 42)) (a := ⟨w.heap.size, 0, none⟩) (v := .int .i64 2) (by rw [World.cell?_alloc_at _ _ _ _ rfl]; rfl)
      have k1 := cell_regrown (w := w.alloc (.cells #[.int .i64 2, .bool q, .string t, .string o, .slice a f.len cap] 42)) (a := ⟨w.heap.size, 1, none⟩) (v := .bool q) (by rw [World.cell?_alloc_at _ _ _ _ rfl]; rfl)
      have k2 := cell_regrown (w := w.alloc (.cells #[.int .i64 2, .bool q, .string t, .string o, .slice a f.len cap] 42)) (a := ⟨w.heap.size, 2, none⟩) (v := .string t) (by rw [World.cell?_alloc_at _ _ _ _ rfl]; rfl)
      have k3 := cell_regrown (w := w.alloc (.cells #[.int .i64 2, .bool q, .string t, .string o, .slice a f.len cap] 42)) (a := ⟨w.heap.size, 3, none⟩) (v := .string o) (by rw [World.cell?_alloc_at _ _ _ _ rfl]; rfl)
      have k4 := cell_regrown (w := w.alloc (.cells #[.int .i64 2, .bool q, .string t, .string o, .slice a f.len cap] 42)) (a := ⟨w.heap.size, 4, none⟩) (v := .slice a f.len cap) (by rw [World.cell?_alloc_at _ _ _ _ rfl]; rfl)
      have hbel := fun dq osq => thru (HB.out (.cells #[.int .i64 2, .bool q, .string t, .string o, .slice a f.len cap] 42)) (below_regrown _ dq osq)
      have HBL := Lib.hid hbel; clear hbel
      have hwr : IntKind.i64.wrap ((d : Int) + 1) = (d : Int) + 1 := wrapEq_in d hd
      unfold pv
      by_cases hd2 : d ≤ 200
      · have hdI : ((d : Int) ≤ 200) = True := by simp; omega
        have HD := Lib.hid hd2; clear hd2
        cases hn : nameOK t.data.toList o.data.toList
        · rw [hn] at HN
          have HH := Lib.hid hn; clear hn
          go_enter Try.func68, Try.ntmps68
          go_wp2
          refine Qu.region (by kernel_rfl) (by kernel_rfl) ?_
          repeat (first
            | (first | refine Qu.carry0 rfl (fun K hK => ?_) | refine Qu.carryG rfl rfl rfl (fun K hK => ?_)
               go_simp
               first
               | (refine hK _ ?_; clear hK K)
               | (apply Exists.intro; refine ⟨fun _ => ?_, hK _ ?_⟩; (first | (go_at_call 74; exact HW.out _ _) | (go_at_call 73; exact HN.out _ _) | (go_at_call 63; exact HP.out HD.out _ _)); clear hK K))
            | (refine Qu.passG rfl rfl rfl (fun K hK => ?_); go_simp; refine hK _ ?_; clear hK K))
          refine Qu.fin ?_
          rintro ⟨dq, osq⟩
          go_wp2
          go_ret
          exact ⟨ret_bool (by simp [partOK, HH.out]), HBL.out dq osq⟩
        · rw [hn] at HN
          have hn2 := hn
          have HH := Lib.hid hn2; clear hn hn2
          cases he : o.toList.isEmpty
          · have HE := Lib.hid (show o.toList.isEmpty = _ from he)
            go_enter Try.func68, Try.ntmps68
            go_wp2
            refine Qu.region (by kernel_rfl) (by kernel_rfl) ?_
            repeat (first
              | (first | refine Qu.carry0 rfl (fun K hK => ?_) | refine Qu.carryG rfl rfl rfl (fun K hK => ?_)
                 go_simp
                 first
                 | (refine hK _ ?_; clear hK K)
                 | (apply Exists.intro; refine ⟨fun _ => ?_, hK _ ?_⟩; (first | (go_at_call 74; exact HW.out _ _) | (go_at_call 73; exact HN.out _ _) | (go_at_call 63; exact HP.out HD.out _ _)); clear hK K))
              | (refine Qu.passG rfl rfl rfl (fun K hK => ?_); go_simp; refine hK _ ?_; clear hK K))
            refine Qu.fin ?_
            rintro ⟨dq, osq⟩
            go_wp2
            go_ret
            exact ⟨ret_bool (by simp only [partOK, emptyO, HE.out, HH.out, HD.out]; simp), HBL.out dq osq⟩
          · cases hl : ((f.len : Int) == 0)
            all_goals
              have HE := Lib.hid (show o.toList.isEmpty = _ ∧ ((f.len : Int) == 0) = _ from ⟨he, hl⟩)
              go_enter Try.func68, Try.ntmps68
              go_wp2
              refine Qu.region (by kernel_rfl) (by kernel_rfl) ?_
              repeat (first
                | (first | refine Qu.carry0 rfl (fun K hK => ?_) | refine Qu.carryG rfl rfl rfl (fun K hK => ?_)
                   go_simp
                   first
                   | (refine hK _ ?_; clear hK K)
                   | (apply Exists.intro; refine ⟨fun _ => ?_, hK _ ?_⟩; (first | (go_at_call 74; exact HW.out _ _) | (go_at_call 73; exact HN.out _ _) | (go_at_call 63; exact HP.out HD.out _ _)); clear hK K))
                | (refine Qu.passG rfl rfl rfl (fun K hK => ?_); go_simp; refine hK _ ?_; clear hK K))
              refine Qu.fin ?_
              rintro ⟨dq, osq⟩
              go_wp2
              go_ret
              exact ⟨ret_bool (by simp only [partOK, emptyO, ← lenI, HE.out.1, HE.out.2, HH.out, HD.out]; simp), HBL.out dq osq⟩
      · have hdI : ((d : Int) ≤ 200) = False := by simp; omega
        have HD := Lib.hid hd2; clear hd2
        go_enter Try.func68, Try.ntmps68
        go_wp2
        refine Qu.region (by kernel_rfl) (by kernel_rfl) ?_
        repeat (first
          | (first | refine Qu.carry0 rfl (fun K hK => ?_) | refine Qu.carryG rfl rfl rfl (fun K hK => ?_)
             go_simp
             first
             | (refine hK _ ?_; clear hK K)
             | (apply Exists.intro; refine ⟨fun _ => ?_, hK _ ?_⟩; (first | (go_at_call 74; exact HW.out _ _) | (go_at_call 73; exact HN.out _ _) | (go_at_call 63; exact HP.out HD.out _ _)); clear hK K))
          | (refine Qu.passG rfl rfl rfl (fun K hK => ?_); go_simp; refine hK _ ?_; clear hK K))
        refine Qu.fin ?_
        rintro ⟨dq, osq⟩
        go_wp2
        go_ret
        exact ⟨ret_bool (by simp [partOK, HD.out]), HBL.out dq osq⟩
    · have h1 : (k == 1) = false := by simpa using hk1
      have h2 : (k == 2) = false := by simpa using hk2
      have HK := Lib.hid (show (k == 1) = false ∧ (k == 2) = false from ⟨h1, h2⟩)
      clear hk1 hk2
      unfold pv
      go_enter Try.func68, Try.ntmps68
      go_wp2_with fail
      go_ret
      exact ⟨ret_bool (by simp [partOK, HK.out.1, HK.out.2]), bel1 _ _⟩
end Pt
end Go.Proofs.Ytgdjeemmklmpfaa
