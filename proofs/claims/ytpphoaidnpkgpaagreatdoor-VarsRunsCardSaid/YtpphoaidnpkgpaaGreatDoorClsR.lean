/- What the reference's Name, Digits, Param, Reserved answer, for every text. -/
import Derived.Test.YtpphoaidnpkgpaaGreatDoorClsC
namespace Go.Proofs.YtpphoaidnpkgpaaGreatDoor
open Go.RowKit
namespace Cls

theorem byte_lt (x : UInt8) : x.toNat < 256 := UInt8.toNat_lt x
set_option maxHeartbeats 400000 in
theorem rname_any (s : ByteArray) (w : World) (hs : s.size ≤ 9223372036854775807) :
    Calls Tryz.prog 18 #[.string s] w fun e w' => e = .returned (.bool (nameL s.data.toList)) ∧ w = w' := by
  by_cases h0 : s.size = 0
  · have HN := Lib.hid (lenB s)
    have hz : ((s.size : Int) == 0) = true := by simp [h0]
    have H0 := Lib.hid h0; clear h0
    go_enter Tryz.func18, Tryz.ntmps18
    go_wp2_with fail
    go_ret
    exact ⟨ret_bool (by rw [nameL_nil (by rw [HN.out, H0.out]; omega)]), rfl⟩
  · have hz : ((s.size : Int) == 0) = false := beq_eq_false_iff_ne.2 (by omega)
    have hp : 0 < s.size := by omega
    have hp' : 0 < s.data.toList.length := by simpa using hp
    have H0 := Lib.hid h0; clear h0
    have HG0 := Lib.hid (congrArg UInt8.toNat (getB hp))
    have hb0 := byte_lt s[0]
    cases hl : letterB s[0].toNat
    · have HL := Lib.hid hl
      go_enter Tryz.func18, Tryz.ntmps18
      go_wp2_with (go_at_call 36; refine (rletter_any _ hb0 _).mono ?_; rintro e w' ⟨rfl, rfl⟩)
      go_ret
      exact ⟨ret_bool (nameL_no hp' (okB_no (by rw [← HG0.out]; exact HL.out) (.inl rfl))).symm, rfl⟩
    · have HL0 := Lib.hid hl
      go_enter Tryz.func18, Tryz.ntmps18
      go_wp2_with (go_at_call 36; refine (rletter_any _ hb0 _).mono ?_; rintro e w' ⟨rfl, rfl⟩)
      clear hl hz
      go_loop [3] (fun i => ∃ k : Nat, k ≤ s.size ∧ 1 ≤ k ∧ i = .int .i64 k ∧ oksTo s.data.toList k) (fun i => s.size - (intOf i).toNat)
      case atStart => exact ⟨1, by omega, by omega, rfl, fun j hj => by obtain rfl : j = 0 := (by omega); exact okB_letter (by rw [← HG0.out]; exact HL0.out)⟩
      case round =>
        obtain ⟨k, hk, hk1, rfl, hr⟩ := hrel
        have HR := Lib.hid hr; clear hr
        by_cases hlt : k < s.size
        · have hlt' : k < s.data.toList.length := by simpa using hlt
          have HG := Lib.hid (congrArg UInt8.toNat (getB hlt))
          have hb := byte_lt s[k]
          cases hl : letterB s[k].toNat
          · have HL := Lib.hid hl
            cases hd : digitB s[k].toNat
            · have HD := Lib.hid hd
              go_wp2_with (first
                | (go_at_call 36; refine (rletter_any _ hb _).mono ?_; rintro e w' ⟨rfl, rfl⟩)
                | (go_at_call 37; refine (rdigit_any _ hb _).mono ?_; rintro e w' ⟨rfl, rfl⟩))
              go_ret
              exact ⟨ret_bool (nameL_no hlt' (okB_no (by rw [← HG.out]; exact HL.out) (.inr (by rw [← HG.out]; exact HD.out)))).symm, rfl⟩
            · have HD := Lib.hid hd
              go_wp2_with (first
                | (go_at_call 36; refine (rletter_any _ hb _).mono ?_; rintro e w' ⟨rfl, rfl⟩)
                | (go_at_call 37; refine (rdigit_any _ hb _).mono ?_; rintro e w' ⟨rfl, rfl⟩))
              go_round
              case rel => exact ⟨k + 1, by omega, by omega, by go_num, oksTo_succ HR.out (okB_digit (by rw [← HG.out]; exact HD.out) (by omega))⟩
              case measure => simp [intOf]; omega
          · have HL := Lib.hid hl
            go_wp2_with (go_at_call 36; refine (rletter_any _ hb _).mono ?_; rintro e w' ⟨rfl, rfl⟩)
            go_round
            case rel => exact ⟨k + 1, by omega, by omega, by go_num, oksTo_succ HR.out (okB_letter (by rw [← HG.out]; exact HL.out))⟩
            case measure => simp [intOf]; omega
        · obtain rfl : k = s.size := by omega
          have HN := Lib.hid (lenB s)
          go_wp2
          go_ret
          exact ⟨ret_bool (by rw [nameL_yes hp' (by rw [HN.out]; exact HR.out)]), rfl⟩

def digitsNE (l : List UInt8) : Bool := decide (0 < l.length) && digitsL l
theorem digits_snoc {l : List UInt8} {k : Nat} (h : digitsL (l.take k) = true) (hk : k < l.length) (hd : digitB (l.getD k 0).toNat = true) : digitsL (l.take (k + 1)) = true := by
  rw [List.take_succ_eq_append_getElem hk]
  unfold digitsL at h ⊢
  rw [List.all_append, h]
  simp only [List.getD, List.getElem?_eq_getElem hk, Option.getD_some] at hd
  simp [hd]
theorem digits_miss {l : List UInt8} {k : Nat} (hk : k < l.length) (hd : digitB (l.getD k 0).toNat = false) : digitsNE l = false := by
  simp only [List.getD, List.getElem?_eq_getElem hk, Option.getD_some] at hd
  have : digitsL l = false := by
    unfold digitsL
    rw [List.all_eq_false]
    exact ⟨l[k], List.getElem_mem hk, by simp [hd]⟩
  simp [digitsNE, this]
set_option maxHeartbeats 400000 in
theorem rdigits_any (s : ByteArray) (w : World) (hs : s.size ≤ 9223372036854775807) :
    Calls Tryz.prog 39 #[.string s] w fun e w' => e = .returned (.bool (digitsNE s.data.toList)) ∧ w = w' := by
  go_enter Tryz.func39, Tryz.ntmps39
  go_wp2
  go_loop [3] (fun i => ∃ k : Nat, k ≤ s.size ∧ i = .int .i64 k ∧ digitsL (s.data.toList.take k) = true) (fun i => s.size - (intOf i).toNat)
  case atStart => exact ⟨0, Nat.zero_le _, rfl, rfl⟩
  case round =>
    obtain ⟨k, hk, rfl, hr⟩ := hrel
    have HR := Lib.hid hr; clear hr
    by_cases hlt : k < s.size
    · have hlt' : k < s.data.toList.length := by simpa using hlt
      have HG := Lib.hid (congrArg UInt8.toNat (getB hlt))
      have hb := byte_lt s[k]
      cases hd : digitB s[k].toNat
      · have HD := Lib.hid hd
        go_wp2_with (go_at_call 37; refine (rdigit_any _ hb _).mono ?_; rintro e w' ⟨rfl, rfl⟩)
        go_ret
        exact ⟨ret_bool (digits_miss hlt' (by rw [← HG.out]; exact HD.out)).symm, rfl⟩
      · have HD := Lib.hid hd
        go_wp2_with (go_at_call 37; refine (rdigit_any _ hb _).mono ?_; rintro e w' ⟨rfl, rfl⟩)
        go_round
        case rel => exact ⟨k + 1, by omega, by go_num, digits_snoc HR.out hlt' (by rw [← HG.out]; exact HD.out)⟩
        case measure => simp [intOf]; omega
    · obtain rfl : k = s.size := by omega
      have HN := Lib.hid (lenB s)
      go_wp2
      go_ret
      exact ⟨ret_bool (by have := HR.out; rw [List.take_of_length_le (by rw [HN.out]; omega)] at this; rw [digitsNE, this, HN.out]; simp), rfl⟩

/-- A parameter, as the reference has it. -/
def rparamL (l : List UInt8) : Bool := (l.length == 1 && amongB (l.getD 0 0).toNat specials || nameL l) || (digitsNE l && decide (l.length ≤ 3) && !(l.getD 0 0).toNat == 48)
theorem rparam_one : ∀ n : Fin 256, rparamL [UInt8.ofNat n] = paramL [UInt8.ofNat n] := by decide +kernel
theorem rparam_eq (l : List UInt8) : rparamL l = paramL l := by
  by_cases h1 : l.length = 1
  · obtain ⟨x, rfl⟩ := List.length_eq_one_iff.1 h1
    have := rparam_one ⟨x.toNat, byte_lt x⟩
    simpa using this
  · have h2 : specialL l = false := by
      cases h : specialL l
      · rfl
      · simp [specialL] at h; rcases h with ((((h | h) | h) | h) | h) | h <;> (subst h; simp at h1)
    have h3 : (l == [48]) = false := by
      rw [beq_eq_false_iff_ne]; rintro rfl; simp at h1
    have h4 : (l.length == 1) = false := by simpa using h1
    simp only [rparamL, paramL, numberL, digitsNE, h2, h3, h4, Bool.false_and, Bool.false_or, Bool.or_false]
    cases nameL l
    · by_cases h5 : 0 < l.length <;> by_cases h6 : l.length ≤ 3 <;> cases digitsL l <;> cases ((l.getD 0 0).toNat == 48) <;> simp [h5, h6]
    · rfl

set_option maxHeartbeats 400000 in
theorem rparam_any (s : ByteArray) (w : World) (hs : s.size ≤ 9223372036854775807) :
    Calls Tryz.prog 19 #[.string s] w fun e w' => e = .returned (.bool (paramL s.data.toList)) ∧ w = w' := by
  rw [← rparam_eq]
  have HN := Lib.hid (lenB s)
  by_cases h1 : s.size = 1
  · have hz : ((s.size : Int) == 1) = true := by simp [h1]
    have hp : 0 < s.size := by omega
    have h3 : s.size ≤ 3 := by omega
    have hb := byte_lt s[0]
    have HG := Lib.hid (congrArg UInt8.toNat (getB hp))
    have H1 := Lib.hid h1; clear h1
    cases ha : amongB s[0].toNat specials <;> cases hn : nameL s.data.toList <;> cases hd : digitsNE s.data.toList <;> cases hq : ((s[0].toNat : Int) == 48)
    all_goals
      have hq2 : ((s[0].toNat : Int) != 48) = !((s[0].toNat : Int) == 48) := rfl
      rw [hq] at hq2
      have HA := Lib.hid ha; have HM := Lib.hid hn; have HD := Lib.hid hd; have HQ := Lib.hid hq
      have ha' : amongB s[0].toNat [64, 42, 35, 63, 36, 33, 48] = amongB s[0].toNat specials := rfl
      rw [ha] at ha'
      clear ha
      go_enter Tryz.func19, Tryz.ntmps19
      go_wp2_with (first
        | (go_at_call 38; refine (ramong_any _ _ _ (by decide)).mono ?_; rintro e w' ⟨rfl, rfl⟩)
        | (go_at_call 18; refine (rname_any _ _ hs).mono ?_; rintro e w' ⟨rfl, rfl⟩)
        | (go_at_call 39; refine (rdigits_any _ _ hs).mono ?_; rintro e w' ⟨rfl, rfl⟩))
      go_ret
      exact ⟨ret_bool (by have q := HQ.out; have a := HA.out; rw [HG.out] at q a; have q' : ((s.data.toList.getD 0 0).toNat == 48) = ((((s.data.toList.getD 0 0).toNat : Nat) : Int) == 48) := by rw [Bool.eq_iff_iff]; simp; omega
                          rw [q] at q'; rw [rparamL, a, HM.out, HD.out, HN.out, H1.out, q']; rfl), rfl⟩
  · have hz : ((s.size : Int) == 1) = false := beq_eq_false_iff_ne.2 (by omega)
    have H1 := Lib.hid h1; clear h1
    cases hn : nameL s.data.toList <;> cases hd : digitsNE s.data.toList
    · have HM := Lib.hid hn; have HD := Lib.hid hd
      go_enter Tryz.func19, Tryz.ntmps19
      go_wp2_with (first
        | (go_at_call 18; refine (rname_any _ _ hs).mono ?_; rintro e w' ⟨rfl, rfl⟩)
        | (go_at_call 39; refine (rdigits_any _ _ hs).mono ?_; rintro e w' ⟨rfl, rfl⟩))
      go_ret
      exact ⟨ret_bool (by have : (s.size == 1) = false := by simpa using H1.out
                          rw [rparamL, HM.out, HD.out, HN.out, this]; rfl), rfl⟩
    · have HM := Lib.hid hn; have HD := Lib.hid hd
      have hp : 0 < s.size := by
        have := hd; unfold digitsNE at this; simp at this; omega
      have HG := Lib.hid (congrArg UInt8.toNat (getB hp))
      by_cases h3 : s.size ≤ 3 <;> cases hq : ((s[0].toNat : Int) == 48)
      all_goals
        have hd3 : decide (s.size ≤ 3) = decide (s.size ≤ 3) := rfl
        have hd3' : decide ((s.size : Int) ≤ 3) = decide (s.size ≤ 3) := by rw [Bool.eq_iff_iff]; simp; omega
        first | rw [decide_eq_true h3] at hd3' | rw [decide_eq_false h3] at hd3'
        have H3 := Lib.hid h3
        clear hd3
        have hq2 : ((s[0].toNat : Int) != 48) = !((s[0].toNat : Int) == 48) := rfl
        rw [hq] at hq2
        have HQ := Lib.hid hq
        go_enter Tryz.func19, Tryz.ntmps19
        go_wp2_with (first
          | (go_at_call 18; refine (rname_any _ _ hs).mono ?_; rintro e w' ⟨rfl, rfl⟩)
          | (go_at_call 39; refine (rdigits_any _ _ hs).mono ?_; rintro e w' ⟨rfl, rfl⟩))
        go_ret
        exact ⟨ret_bool (by have q := HQ.out; rw [HG.out] at q; have q' : ((s.data.toList.getD 0 0).toNat == 48) = ((((s.data.toList.getD 0 0).toNat : Nat) : Int) == 48) := by rw [Bool.eq_iff_iff]; simp; omega
                            rw [q] at q'
                            have : (s.size == 1) = false := by simpa using H1.out
                            rw [rparamL, HM.out, HD.out, HN.out, this, q']
                            have h3 := H3.out
                            simp [h3]), rfl⟩
    all_goals
      have HM := Lib.hid hn; have HD := Lib.hid hd
      go_enter Tryz.func19, Tryz.ntmps19
      go_wp2_with (first
        | (go_at_call 18; refine (rname_any _ _ hs).mono ?_; rintro e w' ⟨rfl, rfl⟩)
        | (go_at_call 39; refine (rdigits_any _ _ hs).mono ?_; rintro e w' ⟨rfl, rfl⟩))
      go_ret
      exact ⟨ret_bool (by rw [rparamL, HM.out]; simp), rfl⟩

/-- What the row of words says so far. -/
theorem reserved_snoc {l : List UInt8} {k : Nat} (h : ((words.take k).any fun x => l == x) = false) (hk : k < 16) (hn : (l == words.getD k []) = false) : ((words.take (k + 1)).any fun x => l == x) = false := by
  have hk' : k < words.length := hk
  rw [List.take_succ_eq_append_getElem hk', List.any_append, h]
  simp only [List.getD, List.getElem?_eq_getElem hk', Option.getD_some] at hn
  simp only [List.any_cons, List.any_nil, hn]; rfl
theorem reserved_hit {l : List UInt8} {k : Nat} (hk : k < 16) (hn : (l == words.getD k []) = true) : reservedL l = true := by
  have hk' : k < words.length := hk
  simp only [List.getD, List.getElem?_eq_getElem hk', Option.getD_some] at hn
  unfold reservedL
  rw [List.any_eq_true]
  exact ⟨words[k], List.getElem_mem hk', hn⟩
def wordB (k : Nat) : ByteArray := ⟨(words.getD k []).toArray⟩
theorem wordB_list (k : Nat) : (wordB k).toList = words.getD k [] := by rw [wordB, Lib.toList_data]
end Cls
end Go.Proofs.YtpphoaidnpkgpaaGreatDoor
