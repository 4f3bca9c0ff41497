/- What the reference's functions answer (Is, Names, Name, digits, Number, Cond, Mild, Fixed), for every number and every text. -/
import Derived.Test.YtpbphdlaccfndaaDoorSigB
import Derived.Lib.SlBytesRow
namespace Go.Proofs.YtpbphdlaccfndaaDoor
open Go.RowKit
namespace Sig

set_option maxHeartbeats 400000 in
theorem ris_any (s : Int) (w : World) :
    Calls Tryd.prog 11 #[.int .i64 s] w fun e w' => e = .returned (.bool (isB s)) ∧ w = w' := by
  by_cases h : 1 ≤ s
  · by_cases h' : s ≤ 31
    · rw [isB_yes ⟨h, h'⟩]
      go_enter Tryd.func11, Tryd.ntmps11
      go_wp2
      go_ret
      exact ⟨rfl, rfl⟩
    · rw [isB_no (by omega)]
      have hd : decide (s ≤ 31) = false := decide_eq_false (by omega)
      clear h'
      go_enter Tryd.func11, Tryd.ntmps11
      go_wp2
      go_ret
      exact ⟨rfl, rfl⟩
  · rw [isB_no (by omega)]
    have h1 : s < 1 := by omega
    clear h
    go_enter Tryd.func11, Tryd.ntmps11
    go_wp2
    go_ret
    exact ⟨rfl, rfl⟩

set_option maxHeartbeats 400000 in
theorem rnames_any (w : World) :
    Calls Tryd.prog 25 #[] w fun e w' => e = .returned (.slice (some ⟨w.heap.size, 0, none⟩) 31 31) ∧ Below w.heap.size w w' ∧ w.heap.size < w'.heap.size ∧ ∀ k : Nat, k < 31 → w'.cell? ⟨w.heap.size, k, none⟩ = some (.string (nmB (k + 1))) := by
  go_enter Tryd.func25, Tryd.ntmps25
  go_wp2
  go_ret
  refine ⟨rfl, (Below.refl _ _).alloc (Nat.le_refl _) _, by simp, ?_⟩
  intro k hk
  rw [World.cell?_alloc_at _ _ _ _ rfl]
  match k, hk with
  | 0, _ => rfl | 1, _ => rfl | 2, _ => rfl | 3, _ => rfl | 4, _ => rfl | 5, _ => rfl | 6, _ => rfl | 7, _ => rfl | 8, _ => rfl | 9, _ => rfl | 10, _ => rfl | 11, _ => rfl | 12, _ => rfl | 13, _ => rfl | 14, _ => rfl | 15, _ => rfl | 16, _ => rfl | 17, _ => rfl | 18, _ => rfl | 19, _ => rfl | 20, _ => rfl | 21, _ => rfl | 22, _ => rfl | 23, _ => rfl | 24, _ => rfl | 25, _ => rfl | 26, _ => rfl | 27, _ => rfl | 28, _ => rfl | 29, _ => rfl | 30, _ => rfl | n + 31, h => omega

/-- The cells of the text's bytes, made by the call itself. -/
theorem digit_bytes (n : Nat) (h : n < 10) (w : World) : Lib.Bytes (w.alloc (.cells #[.int .u8 (48 + n)] 5)) w.heap.size 0 ⟨#[UInt8.ofNat (48 + n)]⟩ := by
  intro i hi
  have hi0 : i = 0 := by have : i < 1 := hi; omega
  subst hi0
  rw [World.cell?_alloc_at _ _ _ _ rfl]
  have e : (UInt8.ofNat (48 + n)).toNat = 48 + n := by rw [UInt8.toNat_ofNat']; omega
  show some (Value.int .u8 (48 + n)) = some (Value.int .u8 ((UInt8.ofNat (48 + n)).toNat : Int))
  rw [e]; rfl

set_option maxHeartbeats 400000 in
theorem digits_one (n : Nat) (h : n < 10) (w : World) :
    Calls Tryd.prog 24 #[.int .i64 n] w fun e w' => e = .returned (.string ⟨(Lib.decDigits n).toArray⟩) ∧ Below w.heap.size w w' := by
  have hconv := Lib.run_convert_whole (P := Tryd.prog) _ 41 5 9 Tryd.underlying41 Tryd.underlying5 Tryd.underlying9 w.heap.size 0 _ (digit_bytes n h w) 1
  have hd : (⟨#[UInt8.ofNat (48 + n)]⟩ : ByteArray) = ⟨(Lib.decDigits n).toArray⟩ := by rw [Lib.decDigits_one h]
  rw [hd, show (⟨(Lib.decDigits n).toArray⟩ : ByteArray).size = 1 by rw [← hd]; rfl] at hconv
  clear hd
  go_enter Tryd.func24, Tryd.ntmps24
  go_wp2_with fail
  go_ret
  exact ⟨rfl, (Below.refl _ _).alloc (Nat.le_refl _) _⟩

theorem digits_int (k : Int) (h0 : 0 ≤ k) (h : k < 10) (w : World) :
    Calls Tryd.prog 24 #[.int .i64 k] w fun e w' => e = .returned (.string ⟨(Lib.decDigits k.toNat).toArray⟩) ∧ Below w.heap.size w w' := by
  obtain ⟨n, rfl⟩ : ∃ n : Nat, k = n := ⟨k.toNat, by omega⟩
  exact digits_one n (by omega) w
theorem ret_str {a b : ByteArray} (h : a = b) : Ending.returned (.string a) = .returned (.string b) := by rw [h]
theorem digits_join {n : Nat} (h1 : ¬ n < 10) (h2 : n < 100) : (Lib.decDigits (n / 10)) ++ (Lib.decDigits (n % 10)) = Lib.decDigits n := by
  rw [Lib.decDigits_two h1 h2, Lib.decDigits_one (by omega), Lib.decDigits_one (by omega)]; rfl
set_option maxHeartbeats 400000 in
theorem digits_any (n : Nat) (h : n < 100) (w : World) :
    Calls Tryd.prog 24 #[.int .i64 n] w fun e w' => e = .returned (.string ⟨(Lib.decDigits n).toArray⟩) ∧ Below w.heap.size w w' := by
  by_cases h1 : n < 10
  · exact digits_one n h1 w
  · have h3 : 10 ≤ n := by omega
    have HJ := Lib.hid (digits_join h1 h)
    clear h1
    go_enter Tryd.func24, Tryd.ntmps24
    go_wp2_with fail
    refine (digits_int _ (by omega) (by omega) _).mono ?_
    rintro e w1 ⟨rfl, hb1⟩
    go_wp2_with fail
    refine (digits_int _ (by omega) (by omega) _).mono ?_
    rintro e w2 ⟨rfl, hb2⟩
    have hl : (Lib.decDigits (n / 10)).length + (Lib.decDigits (n % 10)).length ≤ 2 := by
      rw [Lib.decDigits_one (i := n / 10) (by omega), Lib.decDigits_one (i := n % 10) (by omega)]; simp
    go_wp2_with fail
    go_ret
    exact ⟨ret_str (by rw [ByteArray.mk_append_mk, HJ.out]), hb1.trans (hb2.mono hb1.size)⟩

set_option maxHeartbeats 400000 in
theorem rname_yes (s : Nat) (h1 : 1 ≤ s) (h2 : s ≤ 31) (w : World) :
    Calls Tryd.prog 13 #[.int .i64 s] w fun e w' => e = .returned (.string (nmB s)) ∧ Below w.heap.size w w' := by
  have hb : isB (s : Int) = true := isB_yes (by omega)
  go_enter Tryd.func13, Tryd.ntmps13
  go_wp2_with (go_at_call 11; refine (ris_any _ _).mono ?_; rintro e w' ⟨rfl, rfl⟩)
  refine (rnames_any _).mono ?_
  rintro e w1 ⟨rfl, hbel, -, hc⟩
  have hc1 := hc (s - 1) (by omega)
  rw [show s - 1 + 1 = s by omega] at hc1
  clear hc hb
  go_wp2
  go_ret
  exact ⟨rfl, hbel⟩
set_option maxHeartbeats 400000 in
theorem rname_no (s : Int) (h : ¬ (1 ≤ s ∧ s ≤ 31)) (w : World) :
    Calls Tryd.prog 13 #[.int .i64 s] w fun e w' => e = .returned (.string ⟨#[]⟩) ∧ Below w.heap.size w w' := by
  have hb : isB s = false := isB_no h
  clear h
  go_enter Tryd.func13, Tryd.ntmps13
  go_wp2_with (go_at_call 11; refine (ris_any _ _).mono ?_; rintro e w' ⟨rfl, rfl⟩)
  go_ret
  exact ⟨rfl, Below.refl _ _⟩
theorem ret_i64 {a b : Int} (h : a = b) : Ending.returned (.int .i64 a) = .returned (.int .i64 b) := by rw [h]
theorem nm_out {s : Int} (h : ¬ (1 ≤ s ∧ s ≤ 31)) : nm s.toNat = [] := by
  by_cases h0 : s < 1
  · rw [show s.toNat = 0 by omega]; rfl
  · obtain ⟨k, hk⟩ : ∃ k, s.toNat = k + 32 := ⟨s.toNat - 32, by omega⟩
    rw [hk]; rfl
theorem rname_any (s : Int) (w : World) :
    Calls Tryd.prog 13 #[.int .i64 s] w fun e w' => e = .returned (.string (nmB s.toNat)) ∧ Below w.heap.size w w' := by
  by_cases h : 1 ≤ s ∧ s ≤ 31
  · obtain ⟨n, rfl⟩ : ∃ n : Nat, s = n := ⟨s.toNat, by omega⟩
    exact rname_yes n (by omega) (by omega) w
  · rw [nmB, nm_out h]; exact rname_no s h w
theorem name_any (s : Int) (w : World) (hn : Names w) :
    Calls Tryd.prog 12 #[.int .i64 s] w fun e w' => e = .returned (.string (nmB s.toNat)) ∧ w = w' := by
  by_cases h : 1 ≤ s ∧ s ≤ 31
  · obtain ⟨n, rfl⟩ : ∃ n : Nat, s = n := ⟨s.toNat, by omega⟩
    exact name_yes n (by omega) (by omega) w _ (hn n (by omega))
  · rw [nmB, nm_out h]; exact name_no s h w

set_option maxHeartbeats 400000 in
theorem rnumber_any (t : ByteArray) (w : World) :
    Calls Tryd.prog 8 #[.string t] w fun e w' => e = .returned (.int .i64 (numUp t 31)) ∧ Below w.heap.size w w' := by
  go_enter Tryd.func8, Tryd.ntmps8
  go_wp2
  go_loopw [3] (fun s wr => ∃ k : Nat, k ≤ 31 ∧ s = .int .i64 ((32 - k : Nat) : Int) ∧ numUp t 31 = numUp t k ∧ Below w.heap.size w wr) (fun s _ => 32 - (intOf s).toNat)
  case atStart => exact ⟨31, by omega, rfl, rfl, Below.refl _ _⟩
  case round =>
    obtain ⟨k, hk, rfl, hr, hbel⟩ := hrel
    have HR := Lib.hid hr; clear hr
    by_cases h0 : k = 0
    · subst h0
      go_wp2
      go_ret
      exact ⟨by rw [HR.out]; rfl, hbel⟩
    · obtain ⟨m, rfl⟩ : ∃ m, k = m + 1 := ⟨k - 1, by omega⟩
      rw [show (32 - (m + 1)) = 31 - m by omega]
      obtain ⟨s, hs⟩ : ∃ s, s = 31 - m := ⟨_, rfl⟩
      rw [← hs]
      have hs1 : 1 ≤ s := by omega
      have hs2 : s ≤ 31 := by omega
      have hm : m + s = 31 := by omega
      have HS := Lib.hid hs; clear hs h0 hk
      by_cases h1 : t = nmB s
      · have hb : (t.toList == (nmB s).toList) = true := by rw [h1]; exact beq_self_eq_true _
        have H1 := Lib.hid h1; clear h1
        go_wp2_with (go_at_call 13; refine (rname_yes _ (by omega) (by omega) _).mono ?_; rintro e w1 ⟨rfl, hb1⟩)
        go_ret
        exact ⟨ret_i64 (by rw [HR.out, numUp_hit HS.out.symm (.inl H1.out)]), hbel.trans (hb1.mono hbel.size)⟩
      · have hb : (t.toList == (nmB s).toList) = false := beq_eq_false_iff_ne.2 fun e => h1 (bytes_inj e)
        have H1 := Lib.hid h1; clear h1
        by_cases h2 : t = ⟨(Lib.decDigits s).toArray⟩
        · have hb2 : (t.toList == Lib.decDigits s) = true := by rw [h2, Lib.toList_data]; exact beq_self_eq_true _
          have H2 := Lib.hid h2; clear h2
          go_wp2_with (first
            | (go_at_call 13; refine (rname_yes _ (by omega) (by omega) _).mono ?_; rintro e w1 ⟨rfl, hb1⟩)
            | (go_at_call 24; refine (digits_any _ (by omega) _).mono ?_; rintro e w2 ⟨rfl, hb3⟩))
          go_ret
          exact ⟨ret_i64 (by rw [HR.out, numUp_hit HS.out.symm (.inr H2.out)]), hbel.trans ((hb1.trans (hb3.mono hb1.size)).mono hbel.size)⟩
        · have hb2 : (t.toList == Lib.decDigits s) = false := beq_eq_false_iff_ne.2 fun e => h2 (bytes_inj (by rw [e, Lib.toList_data]))
          have H2 := Lib.hid h2; clear h2
          go_wp2_with (first
            | (go_at_call 13; refine (rname_yes _ (by omega) (by omega) _).mono ?_; rintro e w1 ⟨rfl, hb1⟩)
            | (go_at_call 24; refine (digits_any _ (by omega) _).mono ?_; rintro e w2 ⟨rfl, hb3⟩))
          go_roundw
          case rel => exact ⟨m, by omega, by rw [show 32 - m = s + 1 by omega]; go_num, by rw [HR.out]; exact numUp_miss HS.out.symm H1.out H2.out, hbel.trans ((hb1.trans (hb3.mono hb1.size)).mono hbel.size)⟩
          case measure => simp [intOf]; omega
end Sig
end Go.Proofs.YtpbphdlaccfndaaDoor
