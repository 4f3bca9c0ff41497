/- What Fine says; quoted; a word of a text. -/
/- quoted. -/
import Derived.Test.YtoneabcbeikkhaaGreatDoorExP
namespace Go.Proofs.YtoneabcbeikkhaaGreatDoor
open Go.RowKit Cls
namespace Ex
open Vr (St val Sc Kp Tab Fit RowAt MapAt Prs Vs lt Srt)
open Fld (Pc bs tx joinS cutP joinP weight Pcs pcells splitS)
open Pt (PL Lies)
theorem name_pos {x : ByteArray} (h : nameL (bs x) = true) : 0 < x.size := by
  rcases Nat.eq_zero_or_pos x.size with h0 | h0
  · have : bs x = [] := List.length_eq_zero_iff.1 (by rw [Fld.bs_len]; exact h0)
    rw [this] at h; exact absurd h (by decide)
  · exact h0
theorem finV_ok : ∀ (vs : Vs) (n : Nat) (pr : Option ByteArray) (m : Nat), n ≤ 100000 → finV vs n pr = some m → Srt vs ∧ (∀ p ∈ vs, nameL (bs p.1) = true ∧ p.1.size ≤ 100000 ∧ p.2.size ≤ 100000) ∧ n + vs.length ≤ m ∧ m ≤ 100000 ∧ (∀ x, pr = some x → ∀ p ∈ vs, lt x p.1 = true)
  | [], n, pr, m, hn, h => by cases h; exact ⟨Srt.nil, fun p hp => by simp at hp, Nat.le_refl _, hn, fun x _ p hp => by simp at hp⟩
  | q :: r, n, pr, m, hn, h => by
    rw [finV] at h
    split at h
    · cases h
    · rename_i hb
      split at h
      · cases h
      · rename_i hnm
        split at h
        · cases h
        · rename_i hpr
          have hnm' : nameL (bs q.1) = true := by simpa using hnm
          have hp := name_pos hnm'
          obtain ⟨h1, h2, h3, h4, h5⟩ := finV_ok r _ _ m (by omega) h
          refine ⟨List.pairwise_cons.2 ⟨fun p hp => h5 _ rfl p hp, h1⟩, fun p hp => ?_, by simp only [List.length_cons]; omega, h4, fun x hx p hp => ?_⟩
          · rcases List.mem_cons.1 hp with rfl | hp
            · exact ⟨hnm', by omega, by omega⟩
            · exact h2 p hp
          · subst hx
            have hx1 : lt x q.1 = true := by simpa using hpr
            rcases List.mem_cons.1 hp with rfl | hp
            · exact hx1
            · exact Vr.lt_trans hx1 (h5 _ rfl p hp)
def sumA (l : List ByteArray) : Nat := (l.map fun a => a.size + 1).sum
theorem finA_ok : ∀ (l : List ByteArray) (n : Nat), n ≤ 100000 → finA l n = true → n + sumA l ≤ 100000
  | [], n, hn, _ => hn
  | a :: r, n, hn, h => by
    rw [finA] at h
    split at h
    · cases h
    · rename_i hb
      have := finA_ok r _ (by omega) h
      simp only [sumA, List.map_cons, List.sum_cons] at this ⊢; omega
theorem sumA_mem : ∀ {l : List ByteArray} {a : ByteArray}, a ∈ l → a.size + 1 ≤ sumA l
  | b :: r, a, h => by
    simp only [sumA, List.map_cons, List.sum_cons]
    rcases List.mem_cons.1 h with rfl | h
    · omega
    · have := sumA_mem h; simp only [sumA] at this; omega
theorem sumA_len : ∀ l : List ByteArray, l.length ≤ sumA l
  | [] => Nat.le_refl _
  | b :: r => by have := sumA_len r; simp only [sumA, List.map_cons, List.sum_cons, List.length_cons] at this ⊢; omega
theorem join_sum (q : Bool) (l : List ByteArray) : (joinS (argsP q l)).length ≤ sumA l := by
  have h : ∀ r : List ByteArray, (joinS (r.flatMap fun y => [cutP, (y, q, false)])).length ≤ sumA r := by
    intro r
    induction r with
    | nil => simp [joinS]
    | cons y r ih =>
      rw [List.flatMap_cons, join_app, List.length_append]
      have h2 : (joinS [cutP, (y, q, false)]).length = 1 + y.size := by simp [joinS, joinP, cutP]; omega
      simp only [sumA, List.map_cons, List.sum_cons] at ih ⊢
      omega
  cases l with
  | nil => simp [argsP, joinS]
  | cons x r =>
    have h1 : joinS (argsP q (x :: r)) = bs x ++ joinS (r.flatMap fun y => [cutP, (y, q, false)]) := by simp [argsP, joinS, joinP]
    rw [h1, List.length_append, Fld.bs_len]
    have := h r
    simp only [sumA, List.map_cons, List.sum_cons] at this ⊢
    omega
/-- What is looked at. -/
theorem fine_ok {s : St} (h : finB s = true) (h0 : -9223372036854775808 ≤ s.st) (h1 : s.st ≤ 9223372036854775807) (h2 : -9223372036854775808 ≤ s.la) (h3 : s.la ≤ 9223372036854775807) :
    OKs s 100000 s ∧ Small s ∧ sumA s.args ≤ 100000 := by
  unfold finB at h
  split at h
  · cases h
  · rename_i n hn
    obtain ⟨a1, a2, a3, a4, _⟩ := finV_ok _ _ _ _ (Nat.zero_le _) hn
    have hs := finA_ok _ _ a4 h
    have hl := sumA_len s.args
    refine ⟨⟨rfl, rfl, rfl, a1, by omega, a2⟩, ⟨fun p hp => (a2 p hp).2.2, ?_, fun a ha => by have := sumA_mem ha; omega, h0, h1, h2, h3, by omega⟩, by omega⟩
    have := join_sum true s.args
    rw [join_args] at this
    omega
set_option maxHeartbeats 1000000 in
theorem of_text (t : ByteArray) (w : World) :
    Calls Tryz.prog 18 #[.string t] w fun e w' => e = .returned (.slice (some ⟨w.heap.size, 0, none⟩) 1 1) ∧ w' = w.alloc (.cells #[.int .i64 1, .bool true, .string t, .string ⟨#[]⟩, .slice none 0 0] 52) := by
  go_enter Tryz.func18, Tryz.ntmps18
  go_wp2_with fail
  go_ret
  exact ⟨rfl, rfl⟩
end Ex
end Go.Proofs.YtoneabcbeikkhaaGreatDoor

namespace Go.Proofs.YtoneabcbeikkhaaGreatDoor
open Go.RowKit Go.Sort Cls
namespace Ex
open Fld (bs tx)
open Pt (PL Lies thru bel1)
open Bd
theorem quoted_drop : ∀ {n : Nat} {l : PL}, quotedL l = true → quotedL (l.drop n) = true
  | 0, _, h => h
  | n + 1, .nil, _ => rfl
  | n + 1, .cons _ _ _ _ _ r, h => by
    simp only [quotedL, Bool.and_eq_true] at h
    exact quoted_drop (n := n) h.2
theorem quoted_cons (k : Int) (q : Bool) (t o : ByteArray) (f r : PL) : quotedL (.cons k q t o f r) = (q && !(k == 2 && bs t == [64]) && quotedL f && quotedL r) := rfl
set_option maxHeartbeats 2000000 in
set_option maxRecDepth 100000 in
theorem quoted_step (l : PL) (a : Option Addr) (cap : Nat) (w : World) (hl : Lies w a cap l)
    (hS : ∀ (f : PL) (a : Option Addr) (cap : Nat) (w : World), f.size < l.size → Lies w a cap f → Calls Tryz.prog 20 #[.slice a f.len cap] w fun e w' => e = .returned (.bool (quotedL f)) ∧ Below w.heap.size w w') :
    Calls Tryz.prog 20 #[.slice a l.len cap] w fun e w' => e = .returned (.bool (quotedL l)) ∧ Below w.heap.size w w' := by
  have HL := Lib.hid hl; have HS := Lib.hid hS; clear hl hS
  have hle := HL.out.le
  go_enter Tryz.func20, Tryz.ntmps20
  go_wp2_with fail
  go_loopw [7] (fun x wr => ∃ j : Nat, j ≤ l.len ∧ x = .int .i64 j ∧ quotedL l = quotedL (l.drop j) ∧ Below w.heap.size w wr) (fun x wr => l.len - (intOf x).toNat)
  case atStart => exact ⟨0, Nat.zero_le _, rfl, rfl, Below.refl _ _⟩
  case round =>
    obtain ⟨j, hj, rfl, hr, hbw⟩ := hrel
    have HR := Lib.hid hr; have HB := Lib.hid hbw; clear hr hbw
    by_cases hlt : j < l.len
    · obtain ⟨k, q, t, o, f, r, hdr⟩ := PL.drop_at hlt
      obtain ⟨b1, p1, rfl, hb1, c10, c11, c12, c13, ht, ho, a1, ca1, c14, hl1⟩ := (HL.out.below HB.out).get hdr
      have hszf : f.size < l.size := by
        have := PL.drop_size j l
        rw [hdr] at this
        simp only [PL.size] at this
        omega
      have HT := Lib.hid (show quotedL l = (q && !(k == 2 && bs t == [64]) && quotedL f && quotedL (l.drop (j + 1))) by
        rw [HR.out, PL.drop_succ hdr, hdr, quoted_cons])
      have HB1 := Lib.hid (thru HB.out (bel1 wr (.cells #[.int .i64 k, .bool q, .string t, .string o, .slice a1 f.len ca1] 52)))
      have HP := Lib.hid (HS.out f a1 ca1 (wr.alloc (.cells #[.int .i64 k, .bool q, .string t, .string o, .slice a1 f.len ca1] 52)) hszf (hl1.below (bel1 wr _)))
      clear hl1 hdr
      cases q
      · have hff := HT.out
        simp only [Bool.false_and] at hff
        have HFF := Lib.hid hff
        clear hff
        go_wp2_with fail
        go_ret
        exact ⟨by rw [HFF.out]; rfl, HB1.out⟩
      · by_cases hkt : (k == 2 && bs t == [64]) = true
        · have hff := HT.out
          rw [hkt] at hff
          simp only [Bool.not_true, Bool.and_false, Bool.false_and] at hff
          have HFF := Lib.hid hff
          have hk : k = 2 := by simp only [Bool.and_eq_true, beq_iff_eq] at hkt; exact hkt.1
          subst hk
          have e1 : (t.toList == [64]) = true := by rw [Vr.tests]; simp only [Bool.and_eq_true, beq_iff_eq] at hkt; exact beq_iff_eq.2 hkt.2
          clear hff hkt
          go_wp2_with fail
          go_ret
          exact ⟨by rw [HFF.out]; rfl, HB1.out⟩
        · have hff : quotedL l = (quotedL f && quotedL (l.drop (j + 1))) := by
            have h := HT.out
            rw [Bool.not_eq_true _ |>.mp hkt] at h
            simpa using h
          have HFF := Lib.hid hff
          have hif : (k == 2) = false ∨ ((k == 2) = true ∧ (t.toList == [64]) = false) := by
            rw [Vr.tests]
            cases hk : k == 2
            · exact .inl rfl
            · rw [hk] at hkt; exact .inr ⟨rfl, by simpa using hkt⟩
          clear hff hkt
          rcases hif with hk | ⟨hk, ht64⟩
          · cases hq : quotedL f
            · rw [hq] at HP HFF
              go_wp2_with fail
              refine HP.out.mono ?_
              rintro e w1 ⟨rfl, hb1⟩
              have HB2 := Lib.hid (HB1.out.trans (hb1.mono HB1.out.size))
              clear hb1
              go_wp2_with fail
              go_ret
              exact ⟨by rw [HFF.out]; rfl, HB2.out⟩
            · rw [hq] at HP HFF
              go_wp2_with fail
              refine HP.out.mono ?_
              rintro e w1 ⟨rfl, hb1⟩
              have HB2 := Lib.hid (HB1.out.trans (hb1.mono HB1.out.size))
              clear hb1
              go_wp2_with fail
              go_roundw
              case rel => exact ⟨j + 1, by omega, by go_num, by rw [HFF.out]; rfl, HB2.out⟩
              case measure => simp [intOf]; omega
          · cases hq : quotedL f
            · rw [hq] at HP HFF
              go_wp2_with fail
              refine HP.out.mono ?_
              rintro e w1 ⟨rfl, hb1⟩
              have HB2 := Lib.hid (HB1.out.trans (hb1.mono HB1.out.size))
              clear hb1
              go_wp2_with fail
              go_ret
              exact ⟨by rw [HFF.out]; rfl, HB2.out⟩
            · rw [hq] at HP HFF
              go_wp2_with fail
              refine HP.out.mono ?_
              rintro e w1 ⟨rfl, hb1⟩
              have HB2 := Lib.hid (HB1.out.trans (hb1.mono HB1.out.size))
              clear hb1
              go_wp2_with fail
              go_roundw
              case rel => exact ⟨j + 1, by omega, by go_num, by rw [HFF.out]; rfl, HB2.out⟩
              case measure => simp [intOf]; omega
    · obtain rfl : j = l.len := by omega
      go_wp2_with fail
      go_ret
      exact ⟨by rw [HR.out, PL.drop_end (Nat.le_refl _)]; rfl, HB.out⟩
theorem quoted_any (n : Nat) : ∀ (l : PL) (a : Option Addr) (cap : Nat) (w : World), l.size < n → Lies w a cap l →
    Calls Tryz.prog 20 #[.slice a l.len cap] w fun e w' => e = .returned (.bool (quotedL l)) ∧ Below w.heap.size w w' := by
  induction n with
  | zero => intro _ _ _ _ h; omega
  | succ n ih =>
    intro l a cap w hn hl
    exact quoted_step l a cap w hl (fun f a cap w hf h => ih f a cap w (by omega) h)
end Ex
end Go.Proofs.YtoneabcbeikkhaaGreatDoor
