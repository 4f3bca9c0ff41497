/- What Name, special, Reserved answer, in the program and in the reference, for every text. -/
/- What number and Param answer, in the program, for every text: a text is asked sign by sign, and no sign that is a digit stands at a byte that is none. -/
/- What the reference's Name, Digits, Param, Reserved answer, for every text. -/
import Derived.Test.YtoklgmbpgnimcaaGreatDoorClsB
import Derived.Test.YtoklgmbpgnimcaaGreatDoorShelf
import Derived.Lib.SpaceUEq
import Derived.Lib.TrimUEq
namespace Go.Proofs.YtoklgmbpgnimcaaGreatDoor
open Go.RowKit
namespace Cls
def oksTo (l:List UInt8) (k:Nat):Prop:=∀ j,j < k→okB j (l.getD j 0).toNat = true
theorem oksTo_succ {l:List UInt8} {k:Nat} (h:oksTo l k) (hk:okB k (l.getD k 0).toNat = true):oksTo l (k + 1):=by
 intro j hj
 by_cases e:j = k
 ·subst e;exact hk
 ·exact h j (by omega)
theorem nameL_no {l:List UInt8} {k:Nat} (hk:k < l.length) (h:okB k (l.getD k 0).toNat = false):nameL l = false:=by
 unfold nameL
 apply decide_eq_false
 rintro ⟨_,h2⟩
 have:=h2 k hk
 rw [h] at this;cases this
theorem nameL_yes {l:List UInt8} (h0:0 < l.length) (h:oksTo l l.length):nameL l = true:=decide_eq_true ⟨h0,h⟩
theorem nameL_nil {l:List UInt8} (h0:¬ 0 < l.length):nameL l = false:=decide_eq_false fun h=>h0 h.1
theorem okB_letter {j n:Nat} (h:letterB n = true):okB j n = true:=by simp [okB,h]
theorem okB_digit {j n:Nat} (h:digitB n = true) (hj:j ≠ 0):okB j n = true:=by simp [okB,h,hj]
theorem okB_no {j n:Nat} (h:letterB n = false) (h2:j = 0∨digitB n = false):okB j n = false:=by
 rcases h2 with h2 | h2 <;> simp [okB,h,h2]
theorem lenB (s:ByteArray):s.data.toList.length = s.size:=by simp
set_option maxHeartbeats 400000 in
theorem name_any (s:ByteArray) (w:World) (hs:s.size≤9223372036854775807) :
  Calls Tryz.prog 114 #[.string s] w fun e w'=>e = .returned (.bool (nameL s.data.toList))∧w = w':=by
 go_enter Tryz.func114,Tryz.ntmps114
 go_wp2
 go_loop [6] (fun i=>∃ k:Nat,k≤s.size∧i = .int .i64 k∧oksTo s.data.toList k) (fun i=>s.size - (intOf i).toNat)
 case atStart=>exact ⟨0,Nat.zero_le _,rfl,fun j hj=>by omega⟩
 case round =>
  obtain ⟨k,hk,rfl,hr⟩:=hrel
  have HR:=Lib.hid hr;clear hr
  by_cases hlt:k < s.size
  ·have hlt':k < s.data.toList.length:=by simpa using hlt
   have HG:=Lib.hid (congrArg UInt8.toNat (getB hlt))
   cases hl:letterB s[k].toNat
   ·by_cases h0:k = 0
    ·subst h0
     have HL:=Lib.hid hl
     go_wp2_with (first
      | (go_at_call 116;refine (letter_any _ _).mono ?_;rintro e w' ⟨rfl,rfl⟩)
      | (go_at_call 119;refine (digit_any _ _).mono ?_;rintro e w' ⟨rfl,rfl⟩))
     go_ret
     exact ⟨ret_bool (nameL_no hlt' (okB_no (by rw [← HG.out];exact HL.out) (.inl rfl))).symm,rfl⟩
    ·have hk0:((k:Int) == 0) = false:=by simp;omega
     have H0:=Lib.hid h0;clear h0
     have HL:=Lib.hid hl
     cases hd:digitB s[k].toNat
     ·have HD:=Lib.hid hd
      go_wp2_with (first
       | (go_at_call 116;refine (letter_any _ _).mono ?_;rintro e w' ⟨rfl,rfl⟩)
       | (go_at_call 119;refine (digit_any _ _).mono ?_;rintro e w' ⟨rfl,rfl⟩))
      go_ret
      exact ⟨ret_bool (nameL_no hlt' (okB_no (by rw [← HG.out];exact HL.out) (.inr (by rw [← HG.out];exact HD.out)))).symm,rfl⟩
     ·have HD:=Lib.hid hd
      go_wp2_with (first
       | (go_at_call 116;refine (letter_any _ _).mono ?_;rintro e w' ⟨rfl,rfl⟩)
       | (go_at_call 119;refine (digit_any _ _).mono ?_;rintro e w' ⟨rfl,rfl⟩))
      go_round
      case rel=>exact ⟨k + 1,by omega,by go_num,oksTo_succ HR.out (okB_digit (by rw [← HG.out];exact HD.out) H0.out)⟩
      case measure=>simp [intOf];omega
   ·have HL:=Lib.hid hl
    go_wp2_with (go_at_call 116;refine (letter_any _ _).mono ?_;rintro e w' ⟨rfl,rfl⟩)
    go_round
    case rel=>exact ⟨k + 1,by omega,by go_num,oksTo_succ HR.out (okB_letter (by rw [← HG.out];exact HL.out))⟩
    case measure=>simp [intOf];omega
  ·obtain rfl:k = s.size:=by omega
   have HN:=Lib.hid (lenB s)
   by_cases h0:s.toList = []
   ·have H0:=Lib.hid h0
    go_wp2
    go_ret
    exact ⟨ret_bool (by rw [nameL_nil (by rw [← Lib.toList_data,H0.out];simp)] <;> rfl),rfl⟩
   ·have h1:s.toList.isEmpty = false:=by simpa using h0
    have H0:=Lib.hid h0;clear h0
    go_wp2
    go_ret
    exact ⟨ret_bool (by rw [nameL_yes (List.length_pos_iff.2 (by rw [← Lib.toList_data];exact H0.out)) (by rw [HN.out];exact HR.out)] <;> rfl),rfl⟩
set_option maxHeartbeats 400000 in
theorem special_any (s:ByteArray) (w:World) :
  Calls Tryz.prog 131 #[.string s] w fun e w'=>e = .returned (.bool (specialL s.data.toList))∧w = w':=by
 rw [← Lib.toList_data]
 go_enter Tryz.func131,Tryz.ntmps131
 go_wp2_with fail
 all_goals (go_ret;exact ⟨ret_bool (by first | rfl | (exfalso;simp_all;done) | (simp only [specialL, *];done) | (simp only [specialL, *];rfl)),rfl⟩)
set_option maxHeartbeats 800000 in
theorem reserved_any (s:ByteArray) (w:World) :
  Calls Tryz.prog 71 #[.string s] w fun e w'=>e = .returned (.bool (reservedL s.data.toList))∧w = w':=by
 rw [← Lib.toList_data]
 go_enter Tryz.func71,Tryz.ntmps71
 go_wp2_with fail
 all_goals (go_ret;exact ⟨ret_bool (by first | rfl | (exfalso;simp_all;done) | (simp only [reservedL,words,List.any_cons,List.any_nil, *];done) | (simp only [reservedL,words,List.any_cons,List.any_nil, *];rfl)),rfl⟩)
end Cls
end Go.Proofs.YtoklgmbpgnimcaaGreatDoor
namespace Go.Proofs.YtoklgmbpgnimcaaGreatDoor
open Go.RowKit Go.Shelf
namespace Cls
def noDigit (r:Nat):Bool:=decide (r < 48) || decide (57 < r)
theorem decode_first (s:ByteArray) (pos:Nat) :
  digitB (s.data.toList.getD pos 0).toNat = true∧noDigit (Utf8.decode s pos).1 = false∧(Utf8.decode s pos).2 = 1 ∨
  digitB (s.data.toList.getD pos 0).toNat = false∧noDigit (Utf8.decode s pos).1 = true:=by
 rw [Lib.decode_N]
 generalize (s.data.toList.getD pos 0).toNat = b0
 generalize s.data.toList.length - pos = n
 generalize (s.data.toList.getD (pos + 1) 0).toNat = b1
 generalize (s.data.toList.getD (pos + 2) 0).toNat = b2
 generalize (s.data.toList.getD (pos + 3) 0).toNat = b3
 have hd:digitB b0 = decide (48≤b0∧b0≤57):=rfl
 have hn:∀ r,noDigit r = (decide (r < 48) || decide (57 < r)):=fun _=>rfl
 rcases Lib.decodeN_cases n b0 b1 b2 b3 with ⟨h0,e⟩ | ⟨h0,_,_,h1,e⟩ | ⟨h0,_,_,_,h1,e⟩ | ⟨h1,_⟩ | e
 ·rw [e,hd,hn]
  by_cases h1:48≤b0∧b0≤57
  ·left;simp;omega
  ·right;simp;omega
 ·rw [e,hd,hn];right;simp;omega
 ·rw [e,hd,hn];right;simp;omega
 ·rw [hd,hn]
  by_cases h2:b0 < 128
  ·exfalso;rw [Lib.decodeN_ascii _ _ _ _ _ h2] at h1;simp at h1;omega
  ·right;simp;omega
 ·by_cases h2:b0 < 128
  ·exfalso;rw [Lib.decodeN_ascii _ _ _ _ _ h2] at e;simp at e;omega
  ·rw [e,hd,hn];right;simp;omega
theorem idx_digits (s:ByteArray):∀ f pos,s.size≤pos + f→pos≤s.size→((0≤Lib.idxFuncFrom noDigit true s f pos) ↔ ¬ ∀ j,pos≤j→j < s.size→digitB (s.data.toList.getD j 0).toNat = true)
 | 0,pos,hf,hp=>by
  simp only [Lib.idxFuncFrom]
  constructor
  ·intro h;omega
  ·intro h;exact absurd (fun j hj hj'=>by omega) h
 | f + 1,pos,hf,hp=>by
  unfold Lib.idxFuncFrom
  by_cases hlt:pos < s.size
  ·rw [if_pos hlt]
   rcases decode_first s pos with ⟨h1,h2,h3⟩ | ⟨h1,h2⟩
   ·rw [if_neg (by rw [h2];decide),h3,idx_digits s f (pos + 1) (by omega) (by omega)]
    refine not_congr ?_
    constructor
    ·intro h j hj hj'
     by_cases e:j = pos
     ·subst e;exact h1
     ·exact h j (by omega) hj'
    ·intro h j hj hj';exact h j (by omega) hj'
   ·rw [if_pos h2]
    constructor
    ·intro _ h;rw [h pos (Nat.le_refl _) hlt] at h1;cases h1
    ·intro _;omega
  ·rw [if_neg hlt]
   constructor
   ·intro h;omega
   ·intro h;exact absurd (fun j hj hj'=>by omega) h
theorem digitsL_iff (l:List UInt8):digitsL l = true ↔ ∀ j,j < l.length→digitB (l.getD j 0).toNat = true:=by
 unfold digitsL
 rw [List.all_eq_true]
 constructor
 ·intro h j hj
  simp only [List.getD,List.getElem?_eq_getElem hj,Option.getD_some]
  exact h _ (List.getElem_mem hj)
 ·intro h x hx
  obtain ⟨j,hj,rfl⟩:=List.getElem_of_mem hx
  have:=h j hj
  simpa only [List.getD,List.getElem?_eq_getElem hj,Option.getD_some] using this
theorem contains_digits (s:ByteArray):(!decide (0≤Lib.idxFunc noDigit true s)) = digitsL s.data.toList:=by
 have h:=idx_digits s s.size 0 (by omega) (by omega)
 rw [Bool.eq_iff_iff,digitsL_iff]
 unfold Lib.idxFunc
 simp only [Bool.not_eq_true',decide_eq_false_iff_not]
 rw [h,Classical.not_not]
 simp
theorem noDigit_at (w:World):PredAt Tryz.prog 141 #[] encR noDigit w:=fun W r _=>by
 unfold FnGives noDigit
 by_cases h1:r < 48 <;> by_cases h2:57 < r
 all_goals
  have z1:(r:Int) < 48 ↔ r < 48:=by omega
  have z2:(57:Int) < (r:Int) ↔ 57 < r:=by omega
  go_enter Tryz.func141,Tryz.ntmps141
  go_wp2
  all_goals first | (exfalso;omega) | (go_ret;exact ⟨by simp [h1,h2],0,rfl⟩)
theorem contains_any (s:ByteArray) (w:World) :
  Calls Tryz.prog 140 #[.string s,.func (.func 141) #[] #[]] w fun e w'=>e = .returned (.bool (!digitsL s.data.toList))∧Below w.heap.size w w':=by
 refine (Tryz.strings_ContainsFunc 141 #[] (enters_of Tryz.func141 (by kernel_rfl) rfl) noDigit s w (noDigit_at w)).mono ?_
 rintro e w' ⟨rfl,hb⟩
 exact ⟨ret_bool (by rw [← contains_digits];simp),hb⟩
theorem numberL_nil (l:List UInt8) (h:l.length = 0):numberL l = false:=by simp [numberL,h]
theorem numberL_long (l:List UInt8) (h:3 < l.length):numberL l = false:=by
 have:¬ l.length≤3:=by omega
 simp [numberL,this]
theorem numberL_nought (l:List UInt8) (h:(l.getD 0 0).toNat = 48) (h':(l == [48]) = false):numberL l = false:=by simp only [numberL,h,h'];simp
theorem numberL_else (l:List UInt8) (h0:0 < l.length) (h3:l.length≤3) (h:(l.getD 0 0).toNat ≠ 48∨(l == [48]) = true):numberL l = digitsL l:=by
 rcases h with h | h
 ·have h':((l.getD 0 0).toNat == 48) = false:=by simpa using h
  simp only [numberL,h',h0,h3];simp
 ·simp only [numberL,h,h0,h3];simp
set_option maxHeartbeats 400000 in
theorem number_any (s:ByteArray) (w:World) (hs:s.size≤9223372036854775807) :
  Calls Tryz.prog 132 #[.string s] w fun e w'=>e = .returned (.bool (numberL s.data.toList))∧Below w.heap.size w w':=by
 have HN:=Lib.hid (lenB s)
 by_cases h0:s.toList = []
 ·have H0:=Lib.hid h0
  go_enter Tryz.func132,Tryz.ntmps132
  go_wp2_with fail
  go_ret
  exact ⟨ret_bool (by rw [numberL_nil _ (by rw [← Lib.toList_data,H0.out];rfl)]),Below.refl _ _⟩
 ·have h1:s.toList.isEmpty = false:=by simpa using h0
  have hp:0 < s.size:=by rw [← lenB,← Lib.toList_data];exact List.length_pos_iff.2 h0
  clear h0
  by_cases h3:3 < s.size
  ·go_enter Tryz.func132,Tryz.ntmps132
   go_wp2_with fail
   go_ret
   exact ⟨ret_bool (by rw [numberL_long _ (by rw [HN.out];exact h3)]),Below.refl _ _⟩
  ·have HG:=Lib.hid (congrArg UInt8.toNat (getB hp))
   by_cases h48:s[0].toNat = 48
   ·have b48:((s[0].toNat:Int) == 48) = true:=by simp [h48]
    have H48:=Lib.hid h48;clear h48
    cases hq:s.toList == [48]
    ·have hq2:(s.toList != [48]) = true:=by simp [bne,hq]
     have HQ:=Lib.hid hq
     go_enter Tryz.func132,Tryz.ntmps132
     go_wp2_with fail
     go_ret
     exact ⟨ret_bool (by rw [numberL_nought _ (by rw [← HG.out];exact H48.out) (by rw [← Lib.toList_data];exact HQ.out)]),Below.refl _ _⟩
    ·have hq2:(s.toList != [48]) = false:=by simp [bne,hq]
     have HQ:=Lib.hid hq
     go_enter Tryz.func132,Tryz.ntmps132
     go_wp2_with (go_at_call 140;refine (contains_any _ _).mono ?_;rintro e w' ⟨rfl,hb⟩)
     go_ret
     exact ⟨ret_bool (by rw [numberL_else _ (by rw [HN.out];exact hp) (by rw [HN.out];omega) (.inr (by rw [← Lib.toList_data];exact HQ.out))] <;> simp),hb⟩
   ·have b48:((s[0].toNat:Int) == 48) = false:=by simp;omega
    have H48:=Lib.hid h48;clear h48
    go_enter Tryz.func132,Tryz.ntmps132
    go_wp2_with (go_at_call 140;refine (contains_any _ _).mono ?_;rintro e w' ⟨rfl,hb⟩)
    go_ret
    exact ⟨ret_bool (by rw [numberL_else _ (by rw [HN.out];exact hp) (by rw [HN.out];omega) (.inl (by rw [← HG.out];exact H48.out))] <;> simp),hb⟩
set_option maxHeartbeats 400000 in
theorem param_any (s:ByteArray) (w:World) (hs:s.size≤9223372036854775807) :
  Calls Tryz.prog 112 #[.string s] w fun e w'=>e = .returned (.bool (paramL s.data.toList))∧Below w.heap.size w w':=by
 unfold paramL
 cases h1:nameL s.data.toList <;> cases h2:specialL s.data.toList
 all_goals
  go_enter Tryz.func112,Tryz.ntmps112
  go_wp2_with (first
   | (go_at_call 114;refine (name_any _ _ hs).mono ?_;rintro e w' ⟨rfl,rfl⟩)
   | (go_at_call 131;refine (special_any _ _).mono ?_;rintro e w' ⟨rfl,rfl⟩)
   | (go_at_call 132;refine (number_any _ _ hs).mono ?_;rintro e w' ⟨rfl,hb⟩))
  go_ret
  first | exact ⟨rfl,Below.refl _ _⟩ | exact ⟨rfl,hb⟩
end Cls
end Go.Proofs.YtoklgmbpgnimcaaGreatDoor
namespace Go.Proofs.YtoklgmbpgnimcaaGreatDoor
open Go.RowKit
namespace Cls
def wordB (k:Nat):ByteArray:=⟨(words.getD k []).toArray⟩
end Cls
end Go.Proofs.YtoklgmbpgnimcaaGreatDoor
