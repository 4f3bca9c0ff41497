/- What Name, special, Reserved answer, in the program and in the reference, for every text. -/
import Derived.Test.YtjmpfihopeohbaaGreatDoorClsB
import Derived.Test.YtjmpfihopeohbaaGreatDoorShelf
import Derived.Lib.SpaceUEq
set_option maxHeartbeats 800000
namespace Go.Proofs.YtjmpfihopeohbaaGreatDoor
open Go.RowKit
namespace Cls
def oksTo (l:List UInt8) (k:Nat):Prop:=∀ j,j < k→okB j (l.getD j 0).toNat = true
theorem oksTo_succ {l:List UInt8} {k:Nat} (h:oksTo l k) (hk:okB k (l.getD k 0).toNat = true):oksTo l (k + 1):=by
 intro j hj
 by_cases e:j = k
 ·subst e;exact hk
 ·exact h j (by omega)
theorem nameL_no {l:List UInt8} {k:Nat} (hk:k < l.length) (h:okB k (l.getD k 0).toNat = false):nameL l = false:=by
 unfold nameL;apply decide_eq_false;rintro ⟨_,h2⟩;have:=h2 k hk;rw [h] at this;cases this
theorem nameL_yes {l:List UInt8} (h0:0 < l.length) (h:oksTo l l.length):nameL l = true:=decide_eq_true ⟨h0,h⟩
theorem nameL_nil {l:List UInt8} (h0:¬ 0 < l.length):nameL l = false:=decide_eq_false fun h=>h0 h.1
theorem okB_letter {j n:Nat} (h:letterB n = true):okB j n = true:=by simp [okB,h]
theorem okB_digit {j n:Nat} (h:digitB n = true) (hj:j ≠ 0):okB j n = true:=by simp [okB,h,hj]
theorem okB_no {j n:Nat} (h:letterB n = false) (h2:j = 0∨digitB n = false):okB j n = false:=by
 rcases h2 with h2 | h2 <;> simp [okB,h,h2]
theorem lenB (s:ByteArray):s.data.toList.length = s.size:=by simp
theorem name_any (s:ByteArray) (w:World) (hs:s.size≤9223372036854775807) :
  Calls Tryz.prog 79 #[.string s] w fun e w'=>e = .returned (.bool (nameL s.data.toList))∧w = w':=by
 go_enter Tryz.func79,Tryz.ntmps79;go_wp2
 go_loop [6] (fun i=>∃ k:Nat,k≤s.size∧i = .int .i64 k∧oksTo s.data.toList k) (fun i=>s.size - (intOf i).toNat)
 case atStart=>exact ⟨0,Nat.zero_le _,rfl,fun j hj=>by omega⟩
 case round =>
  obtain ⟨k,hk,rfl,hr⟩:=hrel;have HR:=Lib.hid hr;clear hr
  by_cases hlt:k < s.size
  ·have hlt':k < s.data.toList.length:=by simpa using hlt
   have HG:=Lib.hid (congrArg UInt8.toNat (getB hlt));cases hl:letterB s[k].toNat
   ·by_cases h0:k = 0
    ·subst h0;have HL:=Lib.hid hl
     go_wp2_with (first
      | (go_at_call 109;refine (letter_any _ _).mono ?_;rintro e w' ⟨rfl,rfl⟩)
      | (go_at_call 110;refine (digit_any _ _).mono ?_;rintro e w' ⟨rfl,rfl⟩))
     go_ret;exact ⟨ret_bool (nameL_no hlt' (okB_no (by rw [← HG.out];exact HL.out) (.inl rfl))).symm,rfl⟩
    ·have hk0:((k:Int) == 0) = false:=by simp;omega
     have H0:=Lib.hid h0;clear h0;have HL:=Lib.hid hl;cases hd:digitB s[k].toNat
     ·have HD:=Lib.hid hd
      go_wp2_with (first
       | (go_at_call 109;refine (letter_any _ _).mono ?_;rintro e w' ⟨rfl,rfl⟩)
       | (go_at_call 110;refine (digit_any _ _).mono ?_;rintro e w' ⟨rfl,rfl⟩))
      go_ret;exact ⟨ret_bool (nameL_no hlt' (okB_no (by rw [← HG.out];exact HL.out) (.inr (by rw [← HG.out];exact HD.out)))).symm,rfl⟩
     ·have HD:=Lib.hid hd
      go_wp2_with (first
       | (go_at_call 109;refine (letter_any _ _).mono ?_;rintro e w' ⟨rfl,rfl⟩)
       | (go_at_call 110;refine (digit_any _ _).mono ?_;rintro e w' ⟨rfl,rfl⟩))
      go_round
      case rel=>exact ⟨k + 1,by omega,by go_num,oksTo_succ HR.out (okB_digit (by rw [← HG.out];exact HD.out) H0.out)⟩
      case measure=>simp [intOf];omega
   ·have HL:=Lib.hid hl;go_wp2_with (go_at_call 109;refine (letter_any _ _).mono ?_;rintro e w' ⟨rfl,rfl⟩);go_round
    case rel=>exact ⟨k + 1,by omega,by go_num,oksTo_succ HR.out (okB_letter (by rw [← HG.out];exact HL.out))⟩
    case measure=>simp [intOf];omega
  ·obtain rfl:k = s.size:=by omega
   have HN:=Lib.hid (lenB s)
   by_cases h0:s.toList = []
   ·have H0:=Lib.hid h0;go_wp2;go_ret;exact ⟨ret_bool (by rw [nameL_nil (by rw [← Lib.toList_data,H0.out];simp)] <;> rfl),rfl⟩
   ·have h1:s.toList.isEmpty = false:=by simpa using h0
    have H0:=Lib.hid h0;clear h0;go_wp2;go_ret;exact ⟨ret_bool (by rw [nameL_yes (List.length_pos_iff.2 (by rw [← Lib.toList_data];exact H0.out)) (by rw [HN.out];exact HR.out)] <;> rfl),rfl⟩
theorem special_any (s:ByteArray) (w:World) :
  Calls Tryz.prog 200 #[.string s] w fun e w'=>e = .returned (.bool (specialL s.data.toList))∧w = w':=by
 rw [← Lib.toList_data];go_enter Tryz.func200,Tryz.ntmps200;go_wp2_with fail
 all_goals (go_ret;exact ⟨ret_bool (by first | rfl | (exfalso;simp_all;done) | (simp only [specialL, *];done) | (simp only [specialL, *];rfl)),rfl⟩)
theorem reserved_any (s:ByteArray) (w:World) :
  Calls Tryz.prog 80 #[.string s] w fun e w'=>e = .returned (.bool (reservedL s.data.toList))∧w = w':=by
 rw [← Lib.toList_data];go_enter Tryz.func80,Tryz.ntmps80;go_wp2_with fail
 all_goals (go_ret;exact ⟨ret_bool (by first | rfl | (exfalso;simp_all;done) | (simp only [reservedL,words,List.any_cons,List.any_nil, *];done) | (simp only [reservedL,words,List.any_cons,List.any_nil, *];rfl)),rfl⟩)
end Cls
end Go.Proofs.YtjmpfihopeohbaaGreatDoor
namespace Go.Proofs.YtjmpfihopeohbaaGreatDoor
open Go.RowKit Go.Shelf
namespace Cls
def noDigit (r:Nat):Bool:=decide (r < 48) || decide (57 < r)
theorem decode_first (s:ByteArray) (pos:Nat) :
  digitB (s.data.toList.getD pos 0).toNat = true∧noDigit (Utf8.decode s pos).1 = false∧(Utf8.decode s pos).2 = 1 ∨
  digitB (s.data.toList.getD pos 0).toNat = false∧noDigit (Utf8.decode s pos).1 = true:=by
 rw [Lib.decode_N];generalize (s.data.toList.getD pos 0).toNat = b0;generalize s.data.toList.length - pos = n;generalize (s.data.toList.getD (pos + 1) 0).toNat = b1;generalize (s.data.toList.getD (pos + 2) 0).toNat = b2;generalize (s.data.toList.getD (pos + 3) 0).toNat = b3;have hd:digitB b0 = decide (48≤b0∧b0≤57):=rfl;have hn:∀ r,noDigit r = (decide (r < 48) || decide (57 < r)):=fun _=>rfl;rcases Lib.decodeN_cases n b0 b1 b2 b3 with ⟨h0,e⟩ | ⟨h0,_,_,h1,e⟩ | ⟨h0,_,_,_,h1,e⟩ | ⟨h1,_⟩ | e
 ·rw [e,hd,hn]
  by_cases h1:48≤b0∧b0≤57
  ·left;simp;omega
  ·right;simp;omega
 ·rw [e,hd,hn];right;simp;omega
 ·rw [e,hd,hn];right;simp;omega
 ·rw [hd,hn]
  by_cases h2:b0 < 128
  ·exfalso;rw [Lib.decodeN_ascii _ _ _ _ _ h2] at h1;simp at h1;omega
  ·right;simp;omega
 ·by_cases h2:b0 < 128
  ·exfalso;rw [Lib.decodeN_ascii _ _ _ _ _ h2] at e;simp at e;omega
  ·rw [e,hd,hn];right;simp;omega
theorem idx_digits (s:ByteArray):∀ f pos,s.size≤pos + f→pos≤s.size→((0≤Lib.idxFuncFrom noDigit true s f pos) ↔ ¬ ∀ j,pos≤j→j < s.size→digitB (s.data.toList.getD j 0).toNat = true)
 | 0,pos,hf,hp=>by
  simp only [Lib.idxFuncFrom];constructor
  ·intro h;omega
  ·intro h;exact absurd (fun j hj hj'=>by omega) h
 | f + 1,pos,hf,hp=>by
  unfold Lib.idxFuncFrom
  by_cases hlt:pos < s.size
  ·rw [if_pos hlt];rcases decode_first s pos with ⟨h1,h2,h3⟩ | ⟨h1,h2⟩
   ·rw [if_neg (by rw [h2];decide),h3,idx_digits s f (pos + 1) (by omega) (by omega)];refine not_congr ?_;constructor
    ·intro h j hj hj'
     by_cases e:j = pos
     ·subst e;exact h1
     ·exact h j (by omega) hj'
    ·intro h j hj hj';exact h j (by omega) hj'
   ·rw [if_pos h2];constructor
    ·intro _ h;rw [h pos (Nat.le_refl _) hlt] at h1;cases h1
    ·intro _;omega
  ·rw [if_neg hlt];constructor
   ·intro h;omega
   ·intro h;exact absurd (fun j hj hj'=>by omega) h
theorem digitsL_iff (l:List UInt8):digitsL l = true ↔ ∀ j,j < l.length→digitB (l.getD j 0).toNat = true:=by
 unfold digitsL;rw [List.all_eq_true];constructor
 ·intro h j hj;simp only [List.getD,List.getElem?_eq_getElem hj,Option.getD_some];exact h _ (List.getElem_mem hj)
 ·intro h x hx;obtain ⟨j,hj,rfl⟩:=List.getElem_of_mem hx;have:=h j hj;simpa only [List.getD,List.getElem?_eq_getElem hj,Option.getD_some] using this
theorem contains_digits (s:ByteArray):(!decide (0≤Lib.idxFunc noDigit true s)) = digitsL s.data.toList:=by
 have h:=idx_digits s s.size 0 (by omega) (by omega);rw [Bool.eq_iff_iff,digitsL_iff];unfold Lib.idxFunc;simp only [Bool.not_eq_true',decide_eq_false_iff_not];rw [h,Classical.not_not];simp
theorem noDigit_at (w:World):PredAt Tryz.prog 216 #[] encR noDigit w:=fun W r _=>by
 unfold FnGives noDigit
 by_cases h1:r < 48 <;> by_cases h2:57 < r
 all_goals
  have z1:(r:Int) < 48 ↔ r < 48:=by omega
  have z2:(57:Int) < (r:Int) ↔ 57 < r:=by omega
  go_enter Tryz.func216,Tryz.ntmps216;go_wp2
  all_goals first | (exfalso;omega) | (go_ret;exact ⟨by simp [h1,h2],0,rfl⟩)
theorem contains_any (s:ByteArray) (w:World) :
  Calls Tryz.prog 215 #[.string s,.func (.func 216) #[] #[]] w fun e w'=>e = .returned (.bool (!digitsL s.data.toList))∧Below w.heap.size w w':=by
 refine (Tryz.strings_ContainsFunc 216 #[] (enters_of Tryz.func216 (by kernel_rfl) rfl) noDigit s w (noDigit_at w)).mono ?_;rintro e w' ⟨rfl,hb⟩;exact ⟨ret_bool (by rw [← contains_digits];simp),hb⟩
theorem numberL_nil (l:List UInt8) (h:l.length = 0):numberL l = false:=by simp [numberL,h]
theorem numberL_long (l:List UInt8) (h:3 < l.length):numberL l = false:=by
 have:¬ l.length≤3:=by omega
 simp [numberL,this]
theorem numberL_nought (l:List UInt8) (h:(l.getD 0 0).toNat = 48) (h':(l == [48]) = false):numberL l = false:=by simp only [numberL,h,h'];simp
theorem numberL_else (l:List UInt8) (h0:0 < l.length) (h3:l.length≤3) (h:(l.getD 0 0).toNat ≠ 48∨(l == [48]) = true):numberL l = digitsL l:=by
 rcases h with h | h
 ·have h':((l.getD 0 0).toNat == 48) = false:=by simpa using h
  simp only [numberL,h',h0,h3];simp
 ·simp only [numberL,h,h0,h3];simp
theorem number_any (s:ByteArray) (w:World) (hs:s.size≤9223372036854775807) :
  Calls Tryz.prog 201 #[.string s] w fun e w'=>e = .returned (.bool (numberL s.data.toList))∧Below w.heap.size w w':=by
 have HN:=Lib.hid (lenB s)
 by_cases h0:s.toList = []
 ·have H0:=Lib.hid h0;go_enter Tryz.func201,Tryz.ntmps201;go_wp2_with fail;go_ret;exact ⟨ret_bool (by rw [numberL_nil _ (by rw [← Lib.toList_data,H0.out];rfl)]),Below.refl _ _⟩
 ·have h1:s.toList.isEmpty = false:=by simpa using h0
  have hp:0 < s.size:=by rw [← lenB,← Lib.toList_data];exact List.length_pos_iff.2 h0
  clear h0
  by_cases h3:3 < s.size
  ·go_enter Tryz.func201,Tryz.ntmps201;go_wp2_with fail;go_ret;exact ⟨ret_bool (by rw [numberL_long _ (by rw [HN.out];exact h3)]),Below.refl _ _⟩
  ·have HG:=Lib.hid (congrArg UInt8.toNat (getB hp))
   by_cases h48:s[0].toNat = 48
   ·have b48:((s[0].toNat:Int) == 48) = true:=by simp [h48]
    have H48:=Lib.hid h48;clear h48;cases hq:s.toList == [48]
    ·have hq2:(s.toList != [48]) = true:=by simp [bne,hq]
     have HQ:=Lib.hid hq;go_enter Tryz.func201,Tryz.ntmps201;go_wp2_with fail;go_ret;exact ⟨ret_bool (by rw [numberL_nought _ (by rw [← HG.out];exact H48.out) (by rw [← Lib.toList_data];exact HQ.out)]),Below.refl _ _⟩
    ·have hq2:(s.toList != [48]) = false:=by simp [bne,hq]
     have HQ:=Lib.hid hq;go_enter Tryz.func201,Tryz.ntmps201;go_wp2_with (go_at_call 215;refine (contains_any _ _).mono ?_;rintro e w' ⟨rfl,hb⟩);go_ret;exact ⟨ret_bool (by rw [numberL_else _ (by rw [HN.out];exact hp) (by rw [HN.out];omega) (.inr (by rw [← Lib.toList_data];exact HQ.out))] <;> simp),hb⟩
   ·have b48:((s[0].toNat:Int) == 48) = false:=by simp;omega
    have H48:=Lib.hid h48;clear h48;go_enter Tryz.func201,Tryz.ntmps201;go_wp2_with (go_at_call 215;refine (contains_any _ _).mono ?_;rintro e w' ⟨rfl,hb⟩);go_ret;exact ⟨ret_bool (by rw [numberL_else _ (by rw [HN.out];exact hp) (by rw [HN.out];omega) (.inl (by rw [← HG.out];exact H48.out))] <;> simp),hb⟩
theorem param_any (s:ByteArray) (w:World) (hs:s.size≤9223372036854775807) :
  Calls Tryz.prog 175 #[.string s] w fun e w'=>e = .returned (.bool (paramL s.data.toList))∧Below w.heap.size w w':=by
 unfold paramL;cases h1:nameL s.data.toList <;> cases h2:specialL s.data.toList
 all_goals
  go_enter Tryz.func175,Tryz.ntmps175
  go_wp2_with (first
   | (go_at_call 79;refine (name_any _ _ hs).mono ?_;rintro e w' ⟨rfl,rfl⟩)
   | (go_at_call 200;refine (special_any _ _).mono ?_;rintro e w' ⟨rfl,rfl⟩)
   | (go_at_call 201;refine (number_any _ _ hs).mono ?_;rintro e w' ⟨rfl,hb⟩))
  go_ret
  first | exact ⟨rfl,Below.refl _ _⟩ | exact ⟨rfl,hb⟩
end Cls
end Go.Proofs.YtjmpfihopeohbaaGreatDoor
namespace Go.Proofs.YtjmpfihopeohbaaGreatDoor
open Go.RowKit
namespace Cls
theorem byte_lt (x:UInt8):x.toNat < 256:=UInt8.toNat_lt x
theorem rname_any (s:ByteArray) (w:World) (hs:s.size≤9223372036854775807) :
  Calls Tryz.prog 88 #[.string s] w fun e w'=>e = .returned (.bool (nameL s.data.toList))∧w = w':=by
 by_cases h0:s.size = 0
 ·have HN:=Lib.hid (lenB s);have hz:((s.size:Int) == 0) = true:=by simp [h0]
  have H0:=Lib.hid h0;clear h0;go_enter Tryz.func88,Tryz.ntmps88;go_wp2_with fail;go_ret;exact ⟨ret_bool (by rw [nameL_nil (by rw [HN.out,H0.out];omega)]),rfl⟩
 ·have hz:((s.size:Int) == 0) = false:=beq_eq_false_iff_ne.2 (by omega);have hp:0 < s.size:=by omega
  have hp':0 < s.data.toList.length:=by simpa using hp
  have H0:=Lib.hid h0;clear h0;have HG0:=Lib.hid (congrArg UInt8.toNat (getB hp));have hb0:=byte_lt s[0];cases hl:letterB s[0].toNat
  ·have HL:=Lib.hid hl;go_enter Tryz.func88,Tryz.ntmps88;go_wp2_with (go_at_call 114;refine (rletter_any _ hb0 _).mono ?_;rintro e w' ⟨rfl,rfl⟩);go_ret;exact ⟨ret_bool (nameL_no hp' (okB_no (by rw [← HG0.out];exact HL.out) (.inl rfl))).symm,rfl⟩
  ·have HL0:=Lib.hid hl;go_enter Tryz.func88,Tryz.ntmps88;go_wp2_with (go_at_call 114;refine (rletter_any _ hb0 _).mono ?_;rintro e w' ⟨rfl,rfl⟩);clear hl hz
   go_loop [3] (fun i=>∃ k:Nat,k≤s.size∧1≤k∧i = .int .i64 k∧oksTo s.data.toList k) (fun i=>s.size - (intOf i).toNat)
   case atStart=>exact ⟨1,by omega,by omega,rfl,fun j hj=>by obtain rfl:j = 0:=(by omega);exact okB_letter (by rw [← HG0.out];exact HL0.out)⟩
   case round =>
    obtain ⟨k,hk,hk1,rfl,hr⟩:=hrel;have HR:=Lib.hid hr;clear hr
    by_cases hlt:k < s.size
    ·have hlt':k < s.data.toList.length:=by simpa using hlt
     have HG:=Lib.hid (congrArg UInt8.toNat (getB hlt));have hb:=byte_lt s[k];cases hl:letterB s[k].toNat
     ·have HL:=Lib.hid hl;cases hd:digitB s[k].toNat
      ·have HD:=Lib.hid hd
       go_wp2_with (first
        | (go_at_call 114;refine (rletter_any _ hb _).mono ?_;rintro e w' ⟨rfl,rfl⟩)
        | (go_at_call 115;refine (rdigit_any _ hb _).mono ?_;rintro e w' ⟨rfl,rfl⟩))
       go_ret;exact ⟨ret_bool (nameL_no hlt' (okB_no (by rw [← HG.out];exact HL.out) (.inr (by rw [← HG.out];exact HD.out)))).symm,rfl⟩
      ·have HD:=Lib.hid hd
       go_wp2_with (first
        | (go_at_call 114;refine (rletter_any _ hb _).mono ?_;rintro e w' ⟨rfl,rfl⟩)
        | (go_at_call 115;refine (rdigit_any _ hb _).mono ?_;rintro e w' ⟨rfl,rfl⟩))
       go_round
       case rel=>exact ⟨k + 1,by omega,by omega,by go_num,oksTo_succ HR.out (okB_digit (by rw [← HG.out];exact HD.out) (by omega))⟩
       case measure=>simp [intOf];omega
     ·have HL:=Lib.hid hl;go_wp2_with (go_at_call 114;refine (rletter_any _ hb _).mono ?_;rintro e w' ⟨rfl,rfl⟩);go_round
      case rel=>exact ⟨k + 1,by omega,by omega,by go_num,oksTo_succ HR.out (okB_letter (by rw [← HG.out];exact HL.out))⟩
      case measure=>simp [intOf];omega
    ·obtain rfl:k = s.size:=by omega
     have HN:=Lib.hid (lenB s);go_wp2;go_ret;exact ⟨ret_bool (by rw [nameL_yes hp' (by rw [HN.out];exact HR.out)]),rfl⟩
def digitsNE (l:List UInt8):Bool:=decide (0 < l.length) && digitsL l
theorem digits_snoc {l:List UInt8} {k:Nat} (h:digitsL (l.take k) = true) (hk:k < l.length) (hd:digitB (l.getD k 0).toNat = true):digitsL (l.take (k + 1)) = true:=by
 rw [List.take_succ_eq_append_getElem hk];unfold digitsL at h ⊢
 rw [List.all_append,h];simp only [List.getD,List.getElem?_eq_getElem hk,Option.getD_some] at hd;simp [hd]
theorem digits_miss {l:List UInt8} {k:Nat} (hk:k < l.length) (hd:digitB (l.getD k 0).toNat = false):digitsNE l = false:=by
 simp only [List.getD,List.getElem?_eq_getElem hk,Option.getD_some] at hd;have:digitsL l = false:=by
  unfold digitsL;rw [List.all_eq_false];exact ⟨l[k],List.getElem_mem hk,by simp [hd]⟩
 simp [digitsNE,this]
theorem rdigits_any (s:ByteArray) (w:World) (hs:s.size≤9223372036854775807) :
  Calls Tryz.prog 181 #[.string s] w fun e w'=>e = .returned (.bool (digitsNE s.data.toList))∧w = w':=by
 go_enter Tryz.func181,Tryz.ntmps181;go_wp2
 go_loop [3] (fun i=>∃ k:Nat,k≤s.size∧i = .int .i64 k∧digitsL (s.data.toList.take k) = true) (fun i=>s.size - (intOf i).toNat)
 case atStart=>exact ⟨0,Nat.zero_le _,rfl,rfl⟩
 case round =>
  obtain ⟨k,hk,rfl,hr⟩:=hrel;have HR:=Lib.hid hr;clear hr
  by_cases hlt:k < s.size
  ·have hlt':k < s.data.toList.length:=by simpa using hlt
   have HG:=Lib.hid (congrArg UInt8.toNat (getB hlt));have hb:=byte_lt s[k];cases hd:digitB s[k].toNat
   ·have HD:=Lib.hid hd;go_wp2_with (go_at_call 115;refine (rdigit_any _ hb _).mono ?_;rintro e w' ⟨rfl,rfl⟩);go_ret;exact ⟨ret_bool (digits_miss hlt' (by rw [← HG.out];exact HD.out)).symm,rfl⟩
   ·have HD:=Lib.hid hd;go_wp2_with (go_at_call 115;refine (rdigit_any _ hb _).mono ?_;rintro e w' ⟨rfl,rfl⟩);go_round
    case rel=>exact ⟨k + 1,by omega,by go_num,digits_snoc HR.out hlt' (by rw [← HG.out];exact HD.out)⟩
    case measure=>simp [intOf];omega
  ·obtain rfl:k = s.size:=by omega
   have HN:=Lib.hid (lenB s);go_wp2;go_ret;exact ⟨ret_bool (by have:=HR.out;rw [List.take_of_length_le (by rw [HN.out];omega)] at this;rw [digitsNE,this,HN.out];simp),rfl⟩
def rparamL (l:List UInt8):Bool:=(l.length == 1 && amongB (l.getD 0 0).toNat specials || nameL l) || (digitsNE l && decide (l.length≤3) && !(l.getD 0 0).toNat == 48)
theorem rparam_one:∀ n:Fin 256,rparamL [UInt8.ofNat n] = paramL [UInt8.ofNat n]:=by decide +kernel
theorem rparam_eq (l:List UInt8):rparamL l = paramL l:=by
 by_cases h1:l.length = 1
 ·obtain ⟨x,rfl⟩:=List.length_eq_one_iff.1 h1;have:=rparam_one ⟨x.toNat,byte_lt x⟩;simpa using this
 ·have h2:specialL l = false:=by
   cases h:specialL l
   ·rfl
   ·simp [specialL] at h;rcases h with ((((h | h) | h) | h) | h) | h <;> (subst h;simp at h1)
  have h3:(l == [48]) = false:=by
   rw [beq_eq_false_iff_ne];rintro rfl;simp at h1
  have h4:(l.length == 1) = false:=by simpa using h1
  simp only [rparamL,paramL,numberL,digitsNE,h2,h3,h4,Bool.false_and,Bool.false_or,Bool.or_false];cases nameL l
  ·by_cases h5:0 < l.length <;> by_cases h6:l.length≤3 <;> cases digitsL l <;> cases ((l.getD 0 0).toNat == 48) <;> simp [h5,h6]
  ·rfl
theorem rparam_any (s:ByteArray) (w:World) (hs:s.size≤9223372036854775807) :
  Calls Tryz.prog 157 #[.string s] w fun e w'=>e = .returned (.bool (paramL s.data.toList))∧w = w':=by
 rw [← rparam_eq];have HN:=Lib.hid (lenB s)
 by_cases h1:s.size = 1
 ·have hz:((s.size:Int) == 1) = true:=by simp [h1]
  have hp:0 < s.size:=by omega
  have h3:s.size≤3:=by omega
  have hb:=byte_lt s[0];have HG:=Lib.hid (congrArg UInt8.toNat (getB hp));have H1:=Lib.hid h1;clear h1;cases ha:amongB s[0].toNat specials <;> cases hn:nameL s.data.toList <;> cases hd:digitsNE s.data.toList <;> cases hq:((s[0].toNat:Int) == 48)
  all_goals
   have hq2:((s[0].toNat:Int) != 48) = !((s[0].toNat:Int) == 48):=rfl;rw [hq] at hq2;have HA:=Lib.hid ha;have HM:=Lib.hid hn;have HD:=Lib.hid hd;have HQ:=Lib.hid hq;have ha':amongB s[0].toNat [64,42,35,63,36,33,48] = amongB s[0].toNat specials:=rfl;rw [ha] at ha';clear ha;go_enter Tryz.func157,Tryz.ntmps157
   go_wp2_with (first
    | (go_at_call 139;refine (ramong_any _ _ _ (by decide)).mono ?_;rintro e w' ⟨rfl,rfl⟩)
    | (go_at_call 88;refine (rname_any _ _ hs).mono ?_;rintro e w' ⟨rfl,rfl⟩)
    | (go_at_call 181;refine (rdigits_any _ _ hs).mono ?_;rintro e w' ⟨rfl,rfl⟩))
   go_ret
   exact ⟨ret_bool (by
     have q:=HQ.out;have a:=HA.out;rw [HG.out] at q a;have q':((s.data.toList.getD 0 0).toNat == 48) = ((((s.data.toList.getD 0 0).toNat:Nat):Int) == 48):=by
      rw [Bool.eq_iff_iff];simp;omega
     rw [q] at q';rw [rparamL,a,HM.out,HD.out,HN.out,H1.out,q'];rfl),rfl⟩
 ·have hz:((s.size:Int) == 1) = false:=beq_eq_false_iff_ne.2 (by omega);have H1:=Lib.hid h1;clear h1;cases hn:nameL s.data.toList <;> cases hd:digitsNE s.data.toList
  ·have HM:=Lib.hid hn;have HD:=Lib.hid hd;go_enter Tryz.func157,Tryz.ntmps157
   go_wp2_with (first
    | (go_at_call 88;refine (rname_any _ _ hs).mono ?_;rintro e w' ⟨rfl,rfl⟩)
    | (go_at_call 181;refine (rdigits_any _ _ hs).mono ?_;rintro e w' ⟨rfl,rfl⟩))
   go_ret
   exact ⟨ret_bool (by
     have:(s.size == 1) = false:=by simpa using H1.out
     rw [rparamL,HM.out,HD.out,HN.out,this];rfl),rfl⟩
  ·have HM:=Lib.hid hn;have HD:=Lib.hid hd;have hp:0 < s.size:=by
    have:=hd;unfold digitsNE at this;simp at this;omega
   have HG:=Lib.hid (congrArg UInt8.toNat (getB hp))
   by_cases h3:s.size≤3 <;> cases hq:((s[0].toNat:Int) == 48)
   all_goals
    have hd3:decide (s.size≤3) = decide (s.size≤3):=rfl;have hd3':decide ((s.size:Int)≤3) = decide (s.size≤3):=by rw [Bool.eq_iff_iff];simp;omega
    first | rw [decide_eq_true h3] at hd3' | rw [decide_eq_false h3] at hd3'
    have H3:=Lib.hid h3;clear hd3;have hq2:((s[0].toNat:Int) != 48) = !((s[0].toNat:Int) == 48):=rfl;rw [hq] at hq2;have HQ:=Lib.hid hq;go_enter Tryz.func157,Tryz.ntmps157
    go_wp2_with (first
     | (go_at_call 88;refine (rname_any _ _ hs).mono ?_;rintro e w' ⟨rfl,rfl⟩)
     | (go_at_call 181;refine (rdigits_any _ _ hs).mono ?_;rintro e w' ⟨rfl,rfl⟩))
    go_ret
    exact ⟨ret_bool (by
      have q:=HQ.out;rw [HG.out] at q;have q':((s.data.toList.getD 0 0).toNat == 48) = ((((s.data.toList.getD 0 0).toNat:Nat):Int) == 48):=by
       rw [Bool.eq_iff_iff];simp;omega
      rw [q] at q';have:(s.size == 1) = false:=by simpa using H1.out
      rw [rparamL,HM.out,HD.out,HN.out,this,q'];have h3:=H3.out
      simp [h3]),rfl⟩
  all_goals
   have HM:=Lib.hid hn;have HD:=Lib.hid hd;go_enter Tryz.func157,Tryz.ntmps157
   go_wp2_with (first
    | (go_at_call 88;refine (rname_any _ _ hs).mono ?_;rintro e w' ⟨rfl,rfl⟩)
    | (go_at_call 181;refine (rdigits_any _ _ hs).mono ?_;rintro e w' ⟨rfl,rfl⟩))
   go_ret;exact ⟨ret_bool (by rw [rparamL,HM.out];simp),rfl⟩
theorem reserved_snoc {l:List UInt8} {k:Nat} (h:((words.take k).any fun x=>l == x) = false) (hk:k < 16) (hn:(l == words.getD k []) = false):((words.take (k + 1)).any fun x=>l == x) = false:=by
 have hk':k < words.length:=hk;rw [List.take_succ_eq_append_getElem hk',List.any_append,h];simp only [List.getD,List.getElem?_eq_getElem hk',Option.getD_some] at hn;simp only [List.any_cons,List.any_nil,hn];rfl
theorem reserved_hit {l:List UInt8} {k:Nat} (hk:k < 16) (hn:(l == words.getD k []) = true):reservedL l = true:=by
 have hk':k < words.length:=hk;simp only [List.getD,List.getElem?_eq_getElem hk',Option.getD_some] at hn;unfold reservedL;rw [List.any_eq_true];exact ⟨words[k],List.getElem_mem hk',hn⟩
def wordB (k:Nat):ByteArray:=⟨(words.getD k []).toArray⟩
theorem wordB_list (k:Nat):(wordB k).toList = words.getD k []:=by rw [wordB,Lib.toList_data]
theorem rreserved_any (s:ByteArray) (w:World) :
  Calls Tryz.prog 91 #[.string s] w fun e w'=>e = .returned (.bool (reservedL s.data.toList))∧Below w.heap.size w w':=by
 go_enter Tryz.func91,Tryz.ntmps91;go_wp2
 go_loopw [7] (fun i wr=>∃ k:Nat,k≤16∧i = .int .i64 k∧((words.take k).any fun x=>s.data.toList == x) = false∧Below w.heap.size w wr∧∀ j:Nat,j < 16→wr.cell? ⟨w.heap.size,j,none⟩ = some (.string (wordB j))) (fun i _=>16 - (intOf i).toNat)
 case atStart =>
  refine ⟨0,by omega,rfl,rfl,(Below.refl _ _).alloc (Nat.le_refl _) _,fun j hj=>?_⟩;rw [World.cell?_alloc_at _ _ _ _ rfl]
  match j,hj with
  | 0,_=>rfl | 1,_=>rfl | 2,_=>rfl | 3,_=>rfl | 4,_=>rfl | 5,_=>rfl | 6,_=>rfl | 7,_=>rfl | 8,_=>rfl | 9,_=>rfl | 10,_=>rfl | 11,_=>rfl | 12,_=>rfl | 13,_=>rfl | 14,_=>rfl | 15,_=>rfl | n + 16,h=>omega
 case round =>
  obtain ⟨k,hk,rfl,hr,hbel,hcs⟩:=hrel;have HR:=Lib.hid hr;have HC:=Lib.hid hcs;have HB:=Lib.hid hbel;clear hr hcs hbel
  by_cases hlt:k < 16
  ·have hc:=HC.out k hlt;have hwl:=wordB_list k;have HT:=Lib.hid (Lib.toList_data s);cases hq:s.toList == words.getD k []
   ·have HQ:=Lib.hid hq;have hq':(s.toList == (wordB k).toList) = false:=by rw [hwl];exact hq
    clear hq hwl;go_wp2;go_roundw
    case rel=>exact ⟨k + 1,by omega,by go_num,reserved_snoc HR.out hlt (by rw [← HT.out];exact HQ.out),HB.out,HC.out⟩
    case measure=>simp [intOf];omega
   ·have HQ:=Lib.hid hq;have hq':(s.toList == (wordB k).toList) = true:=by rw [hwl];exact hq
    clear hq hwl;go_wp2;go_ret;exact ⟨ret_bool (reserved_hit hlt (by rw [← HT.out];exact HQ.out)).symm,HB.out⟩
  ·obtain rfl:k = 16:=by omega
   go_wp2;go_ret;exact ⟨ret_bool HR.out.symm,HB.out⟩
end Cls
end Go.Proofs.YtjmpfihopeohbaaGreatDoor
