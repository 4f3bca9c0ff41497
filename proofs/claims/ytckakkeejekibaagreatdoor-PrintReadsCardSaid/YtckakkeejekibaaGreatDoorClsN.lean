/- What Name, special, Reserved answer, in the program and in the reference, for every text. -/
import Derived.Test.YtckakkeejekibaaGreatDoorClsB
import Derived.Test.YtckakkeejekibaaGreatDoorShelf
import Derived.Lib.SpaceUEq
set_option maxHeartbeats 800000
namespace Go.Proofs.YtckakkeejekibaaGreatDoor
open Go.RowKit
namespace j6
def KA (l:List UInt8) (k:Nat):Prop:=∀ j,j < k→okB j (l.getD j 0).toNat = true
theorem yZ {l:List UInt8} {k:Nat} (h:KA l k) (hk:okB k (l.getD k 0).toNat = true):KA l (k + 1):=by
 intro j hj
 by_cases e:j = k
 ·subst e;exact hk
 ·exact h j (by omega)
theorem EY {l:List UInt8} {k:Nat} (hk:k < l.length) (h:okB k (l.getD k 0).toNat = false):bV l = false:=by
 unfold bV;apply decide_eq_false;rintro ⟨_,h2⟩;have:=h2 k hk;rw [h] at this;cases this
theorem LK {l:List UInt8} (h0:0 < l.length) (h:KA l l.length):bV l = true:=decide_eq_true ⟨h0,h⟩
theorem LM {l:List UInt8} (h0:¬ 0 < l.length):bV l = false:=decide_eq_false fun h=>h0 h.1
theorem II {j n:Nat} (h:iX n = true):okB j n = true:=by simp [okB,h]
theorem LP {j n:Nat} (h:eZ n = true) (hj:j ≠ 0):okB j n = true:=by simp [okB,h,hj]
theorem Oy {j n:Nat} (h:iX n = false) (h2:j = 0∨eZ n = false):okB j n = false:=by
 rcases h2 with h2 | h2 <;> simp [okB,h,h2]
theorem iE (s:ByteArray):s.data.toList.length = s.size:=by simp
theorem jq (s:ByteArray) (w:World) (hs:s.size≤9223372036854775807) :
  Calls Tryz.prog 79 #[.string s] w fun e w'=>e = .returned (.bool (bV s.data.toList))∧w = w':=by
 go_enter Tryz.func79,Tryz.ntmps79;go_wp2
 go_loop [6] (fun i=>∃ k:Nat,k≤s.size∧i = .int .i64 k∧KA s.data.toList k) (fun i=>s.size - (intOf i).toNat)
 case atStart=>exact ⟨0,Nat.zero_le _,rfl,fun j hj=>by omega⟩
 case round =>
  obtain ⟨k,hk,rfl,hr⟩:=hrel;have HR:=Lib.hid hr;clear hr
  by_cases aB:k < s.size
  ·have oG:k < s.data.toList.length:=by simpa using aB
   have HG:=Lib.hid (congrArg UInt8.toNat (uq aB));cases hl:iX s[k].toNat
   ·by_cases h0:k = 0
    ·subst h0;have HL:=Lib.hid hl
     go_wp2_with (first
      | (go_at_call 109;refine (lS _ _).mono ?_;rintro e w' ⟨rfl,rfl⟩)
      | (go_at_call 110;refine (nK _ _).mono ?_;rintro e w' ⟨rfl,rfl⟩))
     go_ret;exact ⟨ai (EY oG (Oy (by rw [← HG.out];exact HL.out) (.inl rfl))).symm,rfl⟩
    ·have lG:((k:Int) == 0) = false:=by simp;omega
     have H0:=Lib.hid h0;clear h0;have HL:=Lib.hid hl;cases hd:eZ s[k].toNat
     ·have HD:=Lib.hid hd
      go_wp2_with (first
       | (go_at_call 109;refine (lS _ _).mono ?_;rintro e w' ⟨rfl,rfl⟩)
       | (go_at_call 110;refine (nK _ _).mono ?_;rintro e w' ⟨rfl,rfl⟩))
      go_ret;exact ⟨ai (EY oG (Oy (by rw [← HG.out];exact HL.out) (.inr (by rw [← HG.out];exact HD.out)))).symm,rfl⟩
     ·have HD:=Lib.hid hd
      go_wp2_with (first
       | (go_at_call 109;refine (lS _ _).mono ?_;rintro e w' ⟨rfl,rfl⟩)
       | (go_at_call 110;refine (nK _ _).mono ?_;rintro e w' ⟨rfl,rfl⟩))
      go_round
      case rel=>exact ⟨k + 1,by omega,by go_num,yZ HR.out (LP (by rw [← HG.out];exact HD.out) H0.out)⟩
      case measure=>simp [intOf];omega
   ·have HL:=Lib.hid hl;go_wp2_with (go_at_call 109;refine (lS _ _).mono ?_;rintro e w' ⟨rfl,rfl⟩);go_round
    case rel=>exact ⟨k + 1,by omega,by go_num,yZ HR.out (II (by rw [← HG.out];exact HL.out))⟩
    case measure=>simp [intOf];omega
  ·obtain rfl:k = s.size:=by omega
   have HN:=Lib.hid (iE s)
   by_cases h0:s.toList = []
   ·have H0:=Lib.hid h0;go_wp2;go_ret;exact ⟨ai (by rw [LM (by rw [← Lib.toList_data,H0.out];simp)] <;> rfl),rfl⟩
   ·have h1:s.toList.isEmpty = false:=by simpa using h0
    have H0:=Lib.hid h0;clear h0;go_wp2;go_ret;exact ⟨ai (by rw [LK (List.length_pos_iff.2 (by rw [← Lib.toList_data];exact H0.out)) (by rw [HN.out];exact HR.out)] <;> rfl),rfl⟩
theorem EZ (s:ByteArray) (w:World) :
  Calls Tryz.prog 200 #[.string s] w fun e w'=>e = .returned (.bool (jI s.data.toList))∧w = w':=by
 rw [← Lib.toList_data];go_enter Tryz.func200,Tryz.ntmps200;go_wp2_with fail
 all_goals (go_ret;exact ⟨ai (by first | rfl | (exfalso;simp_all;done) | (simp only [jI, *];done) | (simp only [jI, *];rfl)),rfl⟩)
theorem qb (s:ByteArray) (w:World) :
  Calls Tryz.prog 80 #[.string s] w fun e w'=>e = .returned (.bool (bF s.data.toList))∧w = w':=by
 rw [← Lib.toList_data];go_enter Tryz.func80,Tryz.ntmps80;go_wp2_with fail
 all_goals (go_ret;exact ⟨ai (by first | rfl | (exfalso;simp_all;done) | (simp only [bF,words,List.any_cons,List.any_nil, *];done) | (simp only [bF,words,List.any_cons,List.any_nil, *];rfl)),rfl⟩)
end j6
end Go.Proofs.YtckakkeejekibaaGreatDoor
namespace Go.Proofs.YtckakkeejekibaaGreatDoor
open Go.RowKit Go.Shelf
namespace j6
def oI (r:Nat):Bool:=decide (r < 48) || decide (57 < r)
theorem De (s:ByteArray) (pos:Nat) :
  eZ (s.data.toList.getD pos 0).toNat = true∧oI (Utf8.decode s pos).1 = false∧(Utf8.decode s pos).2 = 1 ∨
  eZ (s.data.toList.getD pos 0).toNat = false∧oI (Utf8.decode s pos).1 = true:=by
 rw [Lib.decode_N];generalize (s.data.toList.getD pos 0).toNat = b0;generalize s.data.toList.length - pos = n;generalize (s.data.toList.getD (pos + 1) 0).toNat = b1;generalize (s.data.toList.getD (pos + 2) 0).toNat = b2;generalize (s.data.toList.getD (pos + 3) 0).toNat = b3;have hd:eZ b0 = decide (48≤b0∧b0≤57):=rfl;have hn:∀ r,oI r = (decide (r < 48) || decide (57 < r)):=fun _=>rfl;rcases Lib.decodeN_cases n b0 b1 b2 b3 with ⟨h0,e⟩ | ⟨h0,_,_,h1,e⟩ | ⟨h0,_,_,_,h1,e⟩ | ⟨h1,_⟩ | e
 ·rw [e,hd,hn]
  by_cases h1:48≤b0∧b0≤57
  ·left;simp;omega
  ·right;simp;omega
 ·rw [e,hd,hn];right;simp;omega
 ·rw [e,hd,hn];right;simp;omega
 ·rw [hd,hn]
  by_cases h2:b0 < 128
  ·exfalso;rw [Lib.decodeN_ascii _ _ _ _ _ h2] at h1;simp at h1;omega
  ·right;simp;omega
 ·by_cases h2:b0 < 128
  ·exfalso;rw [Lib.decodeN_ascii _ _ _ _ _ h2] at e;simp at e;omega
  ·rw [e,hd,hn];right;simp;omega
theorem y5 (s:ByteArray):∀ f pos,s.size≤pos + f→pos≤s.size→((0≤Lib.idxFuncFrom oI true s f pos) ↔ ¬ ∀ j,pos≤j→j < s.size→eZ (s.data.toList.getD j 0).toNat = true)
 | 0,pos,hf,hp=>by
  simp only [Lib.idxFuncFrom];constructor
  ·intro h;omega
  ·intro h;exact absurd (fun j hj Vi=>by omega) h
 | f + 1,pos,hf,hp=>by
  unfold Lib.idxFuncFrom
  by_cases aB:pos < s.size
  ·rw [if_pos aB];rcases De s pos with ⟨h1,h2,h3⟩ | ⟨h1,h2⟩
   ·rw [if_neg (by rw [h2];decide),h3,y5 s f (pos + 1) (by omega) (by omega)];refine not_congr ?_;constructor
    ·intro h j hj Vi
     by_cases e:j = pos
     ·subst e;exact h1
     ·exact h j (by omega) Vi
    ·intro h j hj Vi;exact h j (by omega) Vi
   ·rw [if_pos h2];constructor
    ·intro _ h;rw [h pos (Nat.le_refl _) aB] at h1;cases h1
    ·intro _;omega
  ·rw [if_neg aB];constructor
   ·intro h;omega
   ·intro h;exact absurd (fun j hj Vi=>by omega) h
theorem E5 (l:List UInt8):nu l = true ↔ ∀ j,j < l.length→eZ (l.getD j 0).toNat = true:=by
 unfold nu;rw [List.all_eq_true];constructor
 ·intro h j hj;simp only [List.getD,List.getElem?_eq_getElem hj,Option.getD_some];exact h _ (List.getElem_mem hj)
 ·intro h x hx;obtain ⟨j,hj,rfl⟩:=List.getElem_of_mem hx;have:=h j hj;simpa only [List.getD,List.getElem?_eq_getElem hj,Option.getD_some] using this
theorem yh (s:ByteArray):(!decide (0≤Lib.idxFunc oI true s)) = nu s.data.toList:=by
 have h:=y5 s s.size 0 (by omega) (by omega);rw [Bool.eq_iff_iff,E5];unfold Lib.idxFunc;simp only [Bool.not_eq_true',decide_eq_false_iff_not];rw [h,Classical.not_not];simp
theorem IJ (w:World):PredAt Tryz.prog 216 #[] encR oI w:=fun W r _=>by
 unfold FnGives oI
 by_cases h1:r < 48 <;> by_cases h2:57 < r
 all_goals
  have z1:(r:Int) < 48 ↔ r < 48:=by omega
  have z2:(57:Int) < (r:Int) ↔ 57 < r:=by omega
  go_enter Tryz.func216,Tryz.ntmps216;go_wp2
  all_goals first | (exfalso;omega) | (go_ret;exact ⟨by simp [h1,h2],0,rfl⟩)
theorem vz (s:ByteArray) (w:World) :
  Calls Tryz.prog 215 #[.string s,.func (.func 216) #[] #[]] w fun e w'=>e = .returned (.bool (!nu s.data.toList))∧Below w.heap.size w w':=by
 refine (Tryz.strings_ContainsFunc 216 #[] (enters_of Tryz.func216 (by kernel_rfl) rfl) oI s w (IJ w)).mono ?_;rintro e w' ⟨rfl,hb⟩;exact ⟨ai (by rw [← yh];simp),hb⟩
theorem E8 (l:List UInt8) (h:l.length = 0):iA l = false:=by simp [iA,h]
theorem Df (l:List UInt8) (h:3 < l.length):iA l = false:=by
 have:¬ l.length≤3:=by omega
 simp [iA,this]
theorem y7 (l:List UInt8) (h:(l.getD 0 0).toNat = 48) (h':(l == [48]) = false):iA l = false:=by simp only [iA,h,h'];simp
theorem vB (l:List UInt8) (h0:0 < l.length) (h3:l.length≤3) (h:(l.getD 0 0).toNat ≠ 48∨(l == [48]) = true):iA l = nu l:=by
 rcases h with h | h
 ·have h':((l.getD 0 0).toNat == 48) = false:=by simpa using h
  simp only [iA,h',h0,h3];simp
 ·simp only [iA,h,h0,h3];simp
theorem IK (s:ByteArray) (w:World) (hs:s.size≤9223372036854775807) :
  Calls Tryz.prog 201 #[.string s] w fun e w'=>e = .returned (.bool (iA s.data.toList))∧Below w.heap.size w w':=by
 have HN:=Lib.hid (iE s)
 by_cases h0:s.toList = []
 ·have H0:=Lib.hid h0;go_enter Tryz.func201,Tryz.ntmps201;go_wp2_with fail;go_ret;exact ⟨ai (by rw [E8 _ (by rw [← Lib.toList_data,H0.out];rfl)]),Below.refl _ _⟩
 ·have h1:s.toList.isEmpty = false:=by simpa using h0
  have hp:0 < s.size:=by rw [← iE,← Lib.toList_data];exact List.length_pos_iff.2 h0
  clear h0
  by_cases h3:3 < s.size
  ·go_enter Tryz.func201,Tryz.ntmps201;go_wp2_with fail;go_ret;exact ⟨ai (by rw [Df _ (by rw [HN.out];exact h3)]),Below.refl _ _⟩
  ·have HG:=Lib.hid (congrArg UInt8.toNat (uq hp))
   by_cases Xy:s[0].toNat = 48
   ·have b48:((s[0].toNat:Int) == 48) = true:=by simp [Xy]
    have H48:=Lib.hid Xy;clear Xy;cases hq:s.toList == [48]
    ·have lH:(s.toList != [48]) = true:=by simp [bne,hq]
     have HQ:=Lib.hid hq;go_enter Tryz.func201,Tryz.ntmps201;go_wp2_with fail;go_ret;exact ⟨ai (by rw [y7 _ (by rw [← HG.out];exact H48.out) (by rw [← Lib.toList_data];exact HQ.out)]),Below.refl _ _⟩
    ·have lH:(s.toList != [48]) = false:=by simp [bne,hq]
     have HQ:=Lib.hid hq;go_enter Tryz.func201,Tryz.ntmps201;go_wp2_with (go_at_call 215;refine (vz _ _).mono ?_;rintro e w' ⟨rfl,hb⟩);go_ret;exact ⟨ai (by rw [vB _ (by rw [HN.out];exact hp) (by rw [HN.out];omega) (.inr (by rw [← Lib.toList_data];exact HQ.out))] <;> simp),hb⟩
   ·have b48:((s[0].toNat:Int) == 48) = false:=by simp;omega
    have H48:=Lib.hid Xy;clear Xy;go_enter Tryz.func201,Tryz.ntmps201;go_wp2_with (go_at_call 215;refine (vz _ _).mono ?_;rintro e w' ⟨rfl,hb⟩);go_ret;exact ⟨ai (by rw [vB _ (by rw [HN.out];exact hp) (by rw [HN.out];omega) (.inl (by rw [← HG.out];exact H48.out))] <;> simp),hb⟩
theorem wL (s:ByteArray) (w:World) (hs:s.size≤9223372036854775807) :
  Calls Tryz.prog 175 #[.string s] w fun e w'=>e = .returned (.bool (iZ s.data.toList))∧Below w.heap.size w w':=by
 unfold iZ;cases h1:bV s.data.toList <;> cases h2:jI s.data.toList
 all_goals
  go_enter Tryz.func175,Tryz.ntmps175
  go_wp2_with (first
   | (go_at_call 79;refine (jq _ _ hs).mono ?_;rintro e w' ⟨rfl,rfl⟩)
   | (go_at_call 200;refine (EZ _ _).mono ?_;rintro e w' ⟨rfl,rfl⟩)
   | (go_at_call 201;refine (IK _ _ hs).mono ?_;rintro e w' ⟨rfl,hb⟩))
  go_ret
  first | exact ⟨rfl,Below.refl _ _⟩ | exact ⟨rfl,hb⟩
end j6
end Go.Proofs.YtckakkeejekibaaGreatDoor
namespace Go.Proofs.YtckakkeejekibaaGreatDoor
open Go.RowKit
namespace j6
def mq (k:Nat):ByteArray:=⟨(words.getD k []).toArray⟩
end j6
end Go.Proofs.YtckakkeejekibaaGreatDoor
