/- How long names and operators are: lex.run, nameLength, opLength, for every text. -/
import Derived.Test.YtckakkeejekibaaGreatDoorClsN
set_option maxHeartbeats 800000
namespace Go.Proofs.YtckakkeejekibaaGreatDoor
open Go.RowKit
namespace Lx
open j6
def runLen (p:Nat→Bool):List UInt8→Nat
 | []=>0
 | c :: l=>if p c.toNat then runLen p l + 1 else 0
theorem o8 (p:Nat→Bool):∀ l,runLen p l≤l.length
 | []=>Nat.le_refl _
 | c :: l=>by
  simp only [runLen];split
  ·simpa using o8 p l
  ·exact Nat.zero_le _
theorem rW (p:Nat→Bool):∀ (l:List UInt8) (k:Nat),(∀ j,j < k→p (l.getD j 0).toNat = true)→k < l.length→p (l.getD k 0).toNat = false→runLen p l = k
 | [],k,_,h,_=>by simp at h
 | c :: l,0,_,_,h=>by
  simp only [List.getD_cons_zero] at h;simp [runLen,h]
 | c :: l,k + 1,ha,hk,h=>by
  have h0:=ha 0 (by omega);simp only [List.getD_cons_zero] at h0;simp only [runLen,h0,if_true];rw [rW p l k (fun j hj=>by have:=ha (j + 1) (by omega);simpa using this) (by simpa using hk) (by simpa using h)]
theorem uz (p:Nat→Bool):∀ (l:List UInt8),(∀ j,j < l.length→p (l.getD j 0).toNat = true)→runLen p l = l.length
 | [],_=>rfl
 | c :: l,ha=>by
  have h0:=ha 0 (by simp);simp only [List.getD_cons_zero] at h0;simp only [runLen,h0,if_true,List.length_cons];rw [uz p l fun j hj=>by have:=ha (j + 1) (by simpa using hj);simpa using this]
theorem vE {a b:Int} (h:a = b):Ending.returned (.int .i64 a) = .returned (.int .i64 b):=by rw [h]
def mq (n:Nat):Bool:=iX n || eZ n
theorem L9 (n:Nat) (w:World) :
  Calls Tryz.prog 188 #[.int .u8 n] w fun e w'=>e = .returned (.bool (mq n))∧w = w':=by
 unfold mq;cases hl:iX n <;> cases hd:eZ n
 all_goals
  have h1:=lS n w;have h2:=nK n w;rw [hl] at h1;rw [hd] at h2;have H1:=Lib.hid h1;have H2:=Lib.hid h2;clear h1 h2 hl hd;go_enter Tryz.func188,Tryz.ntmps188
  go_wp2_with (first
   | (go_at_call 109;refine (H1.out).mono ?_;rintro e w' ⟨rfl,rfl⟩)
   | (go_at_call 110;refine (H2.out).mono ?_;rintro e w' ⟨rfl,rfl⟩))
  go_ret;exact ⟨rfl,rfl⟩
theorem OM (s:ByteArray) (w:World) (hs:s.size≤9223372036854775807) :
  Calls Tryz.prog 187 #[.string s,.func (.func 188) #[] #[]] w fun e w'=>e = .returned (.int .i64 (runLen mq s.data.toList))∧w = w':=by
 have HN:=Lib.hid (iE s);go_enter Tryz.func187,Tryz.ntmps187;go_wp2
 go_loop [8] (fun i=>∃ k:Nat,k≤s.size∧i = .int .i64 k∧∀ j,j < k→mq (s.data.toList.getD j 0).toNat = true) (fun i=>s.size - (intOf i).toNat)
 case atStart=>exact ⟨0,Nat.zero_le _,rfl,fun j hj=>by omega⟩
 case round =>
  obtain ⟨k,hk,rfl,hr⟩:=hrel;have HR:=Lib.hid hr;clear hr
  by_cases aB:k < s.size
  ·have HG:=Lib.hid (uq aB);have hc:=fun w=>L9 s[k].toNat w;cases hb:mq s[k].toNat
   all_goals
    rw [hb] at hc;have HB:=Lib.hid hb;have HC:=Lib.hid hc;clear hb hc
   ·go_wp2_with (go_at_call 188;refine (HC.out _).mono ?_;rintro e w' ⟨rfl,rfl⟩);go_ret;exact ⟨vE (by rw [rW mq _ k HR.out (by rw [HN.out];exact aB) (by rw [← HG.out];exact HB.out)]),rfl⟩
   ·go_wp2_with (go_at_call 188;refine (HC.out _).mono ?_;rintro e w' ⟨rfl,rfl⟩);go_round
    case rel=>exact ⟨k + 1,by omega,by go_num,fun j hj=>by
      by_cases e:j = k
      ·subst e;rw [← HG.out];exact HB.out
      ·exact HR.out j (by omega)⟩
    case measure=>simp [intOf];omega
  ·obtain rfl:k = s.size:=by omega
   go_wp2;go_ret;exact ⟨vE (by rw [uz mq _ (by rw [HN.out];exact HR.out),HN.out]),rfl⟩
theorem Ma (s:ByteArray) (w:World) (hs:s.size≤9223372036854775807) :
  Calls Tryz.prog 187 #[.string s,.func (.func 110) #[] #[]] w fun e w'=>e = .returned (.int .i64 (runLen eZ s.data.toList))∧w = w':=by
 have HN:=Lib.hid (iE s);go_enter Tryz.func187,Tryz.ntmps187;go_wp2
 go_loop [8] (fun i=>∃ k:Nat,k≤s.size∧i = .int .i64 k∧∀ j,j < k→eZ (s.data.toList.getD j 0).toNat = true) (fun i=>s.size - (intOf i).toNat)
 case atStart=>exact ⟨0,Nat.zero_le _,rfl,fun j hj=>by omega⟩
 case round =>
  obtain ⟨k,hk,rfl,hr⟩:=hrel;have HR:=Lib.hid hr;clear hr
  by_cases aB:k < s.size
  ·have HG:=Lib.hid (uq aB);have hc:=fun w=>nK s[k].toNat w;cases hb:eZ s[k].toNat
   all_goals
    rw [hb] at hc;have HB:=Lib.hid hb;have HC:=Lib.hid hc;clear hb hc
   ·go_wp2_with (go_at_call 110;refine (HC.out _).mono ?_;rintro e w' ⟨rfl,rfl⟩);go_ret;exact ⟨vE (by rw [rW eZ _ k HR.out (by rw [HN.out];exact aB) (by rw [← HG.out];exact HB.out)]),rfl⟩
   ·go_wp2_with (go_at_call 110;refine (HC.out _).mono ?_;rintro e w' ⟨rfl,rfl⟩);go_round
    case rel=>exact ⟨k + 1,by omega,by go_num,fun j hj=>by
      by_cases e:j = k
      ·subst e;rw [← HG.out];exact HB.out
      ·exact HR.out j (by omega)⟩
    case measure=>simp [intOf];omega
  ·obtain rfl:k = s.size:=by omega
   go_wp2;go_ret;exact ⟨vE (by rw [uz eZ _ (by rw [HN.out];exact HR.out),HN.out]),rfl⟩
def aL (l:List UInt8) (d:Nat):Nat :=
 match l with
 | []=>0
 | c :: _=>if iX c.toNat then runLen mq l else if eZ c.toNat then min (runLen eZ l) d else if iZ [c] then 1 else 0
theorem FC {s:ByteArray} {c:UInt8} {l:List UInt8} (h:s.data.toList = c :: l) (hp:0 < s.size):s[0].toNat = c.toNat:=by
 rw [uq hp,h];rfl
theorem size_cons {s:ByteArray} {c:UInt8} {l:List UInt8} (h:s.data.toList = c :: l):s.size = l.length + 1:=by
 rw [← iE,h];rfl
theorem xN (s:ByteArray) (d:Nat) (w:World) (hs:s.size≤1000000) (hd:d≤1000000) :
  Calls Tryz.prog 168 #[.string s,.int .i64 d] w fun e w'=>e = .returned (.int .i64 (aL s.data.toList d))∧Below w.heap.size w w':=by
 cases hL:s.data.toList with
 | nil =>
  have h0:s.toList.isEmpty = true:=by rw [Lib.toList_data,hL];rfl
  have HL:=Lib.hid hL;clear hL;go_enter Tryz.func168,Tryz.ntmps168;go_wp2;go_ret;exact ⟨rfl,Below.refl _ _⟩
 | cons c t =>
  have h0:s.toList.isEmpty = false:=by rw [Lib.toList_data,hL];rfl
  have bU:=size_cons hL;have IP:0 < s.size:=by omega
  have hg:=FC hL IP;have h1:=fun w=>lS s[0].toNat w;have h2:=fun w=>nK s[0].toNat w;have hx:(s.extract 0 1).data.toList = [c]:=by rw [Lib.extract_data,hL];rfl
  have h3:=fun w=>wL (s.extract 0 1) w (by simp [ByteArray.size_extract];omega);rw [hx] at h3;have h4:=fun w=>OM s w (by omega);have h5:=fun w=>Ma s w (by omega);rw [hL] at h4 h5;have Z4:=o8 eZ (c :: t);have Vp:runLen eZ (c :: t)≤1000000:=by rw [List.length_cons] at Z4;omega
  unfold aL;simp only [];rw [hg] at h1 h2;cases hl:iX c.toNat
  ·cases Rj:eZ c.toNat
   ·cases hp:iZ [c]
    all_goals
     rw [hl] at h1;rw [Rj] at h2;rw [hp] at h3;have H1:=Lib.hid h1;have H2:=Lib.hid h2;have H3:=Lib.hid h3;have HG:=Lib.hid hg;clear h1 h2 h3 h4 h5 hl Rj hp hL bU hx Z4 Vp hg;go_enter Tryz.func168,Tryz.ntmps168
     go_wp2_with (first
      | (go_at_call 109;rw [HG.out];refine (H1.out _).mono ?_;rintro e w' ⟨rfl,rfl⟩)
      | (go_at_call 110;rw [HG.out];refine (H2.out _).mono ?_;rintro e w' ⟨rfl,rfl⟩)
      | (go_at_call 175;refine (H3.out _).mono ?_;rintro e w' ⟨rfl,hb⟩;have HB:=Lib.hid hb;clear hb))
     go_ret;exact ⟨rfl,HB.out⟩
   ·rw [hl] at h1;rw [Rj] at h2;have H1:=Lib.hid h1;have H2:=Lib.hid h2;have H5:=Lib.hid h5;have HG:=Lib.hid hg;have HDG:=Lib.hid Rj;generalize runLen eZ (c :: t) = R1 at H5 Vp;clear h1 h2 h3 h4 h5 hl Rj hL bU hx Z4 hg;have RZ:(if (R1:Int)≤(d:Int) then (R1:Int) else d) = ((min R1 d:Nat):Int):=by omega
    have HM:=Lib.hid RZ;clear RZ;go_enter Tryz.func168,Tryz.ntmps168
    go_wp2_with (first
     | (go_at_call 109;rw [HG.out];refine (H1.out _).mono ?_;rintro e w' ⟨rfl,rfl⟩)
     | (go_at_call 110;rw [HG.out];refine (H2.out _).mono ?_;rintro e w' ⟨rfl,rfl⟩)
     | (go_at_call 187;refine (H5.out _).mono ?_;rintro e w' ⟨rfl,rfl⟩))
    go_ret;exact ⟨vE (by omega),Below.refl _ _⟩
  ·rw [hl] at h1;have H1:=Lib.hid h1;have H4:=Lib.hid h4;have HG:=Lib.hid hg;clear h1 h2 h3 h4 h5 hl hL bU hx Z4 Vp hg;go_enter Tryz.func168,Tryz.ntmps168
   go_wp2_with (first
    | (go_at_call 109;rw [HG.out];refine (H1.out _).mono ?_;rintro e w' ⟨rfl,rfl⟩)
    | (go_at_call 187;refine (H4.out _).mono ?_;rintro e w' ⟨rfl,rfl⟩))
   go_ret;exact ⟨rfl,Below.refl _ _⟩
def Ul (n:Nat):Bool:=(n:Int) == 45 || (n:Int) == 61 || (n:Int) == 43 || (n:Int) == 63
def gG:List UInt8→Nat
 | []=>0
 | c :: l=>if (c.toNat:Int) == 58 then match l with
   | []=>0
   | c2 :: _=>if Ul c2.toNat then 2 else 0
  else if Ul c.toNat then 1 else 0
theorem IZ (s:ByteArray) (b:UInt8):Lib.hasPrefix s.data.toList [b] = match s.data.toList with | []=>false | c :: _=>c == b:=by
 cases s.data.toList with
 | nil=>simp [Lib.hasPrefix]
 | cons c t =>
  rw [Bool.eq_iff_iff];simp [Lib.hasPrefix,List.isPrefixOf];exact eq_comm
theorem Mc (s:ByteArray) (w:World) (hs:s.size≤1000000) :
  Calls Tryz.prog 184 #[.string s] w fun e w'=>e = .returned (.int .i64 (gG s.data.toList))∧w = w':=by
 have hH:=fun w=>(Tryz.strings_HasPrefix s ⟨#[58]⟩ w).mono fun e w' h=>And.intro h.1 h.2.symm;rw [show (⟨#[58]⟩:ByteArray).data.toList = [58] from rfl,IZ] at hH;cases hL:s.data.toList with
 | nil =>
  have hz:s.size = 0:=by rw [← iE,hL];rfl
  have lM:((0:Int) == (s.size:Int)) = true:=by rw [hz];rfl
  rw [hL] at hH;have HL:=Lib.hid hL;have HH:=Lib.hid hH;clear hL hH hz;go_enter Tryz.func184,Tryz.ntmps184;go_wp2_with (go_at_call 118;refine (HH.out _).mono ?_;rintro e w' ⟨rfl,rfl⟩);go_ret;exact ⟨rfl,rfl⟩
 | cons c t =>
  have bU:=size_cons hL;have IP:0 < s.size:=by omega
  have hg:=FC hL IP;rw [hL] at hH;simp only [] at hH;have lM:((0:Int) == (s.size:Int)) = false:=by simp;omega
  cases hc:((c.toNat:Int) == 58)
  ·have Um:(c == 58) = false:=by
    cases h:(c == 58)
    ·rfl
    ·rw [beq_iff_eq.1 h] at hc;simp at hc
   rw [Um] at hH;have HH:=Lib.hid hH;have hS:gG (c :: t) = if Ul c.toNat then 1 else 0:=by
    simp only [gG];rw [hc];rfl
   rw [hS];have HG:=Lib.hid hg;clear hH Um hL bU hS hc hg;unfold Ul;cases h1:((c.toNat:Int) == 45) <;> cases h2:((c.toNat:Int) == 61) <;> cases h3:((c.toNat:Int) == 43) <;> cases h4:((c.toNat:Int) == 63)
   all_goals
    rw [← HG.out] at h1 h2 h3 h4;go_enter Tryz.func184,Tryz.ntmps184;go_wp2_with (go_at_call 118;refine (HH.out _).mono ?_;rintro e w' ⟨rfl,rfl⟩);go_ret;exact ⟨rfl,rfl⟩
  ·have Um:(c == 58) = true:=by
    have:=beq_iff_eq.1 hc;simp only [beq_iff_eq];apply UInt8.toNat_inj.1;simp;omega
   rw [Um] at hH;have HH:=Lib.hid hH;cases t with
   | nil =>
    have hz3:((1:Int) == (s.size:Int)) = true:=by rw [bU];rfl
    have hS:gG [c] = 0:=by simp only [gG];rw [hc];rfl
    rw [hS];clear hH Um hL bU hS hc hg;go_enter Tryz.func184,Tryz.ntmps184;go_wp2_with (go_at_call 118;refine (HH.out _).mono ?_;rintro e w' ⟨rfl,rfl⟩);go_ret;exact ⟨rfl,rfl⟩
   | cons c2 t =>
    have abb:s.size = t.length + 2:=by rw [bU];rfl
    have hz3:((1:Int) == (s.size:Int)) = false:=by simp;omega
    have ny:1 < s.size:=by omega
    have hg1:s[1].toNat = c2.toNat:=by rw [uq ny,hL];rfl
    have hS:gG (c :: c2 :: t) = if Ul c2.toNat then 2 else 0:=by simp only [gG];rw [hc];rfl
    rw [hS];have HG:=Lib.hid hg1;clear hH Um hL bU hS hc hg hg1 abb;unfold Ul;cases h1:((c2.toNat:Int) == 45) <;> cases h2:((c2.toNat:Int) == 61) <;> cases h3:((c2.toNat:Int) == 43) <;> cases h4:((c2.toNat:Int) == 63)
    all_goals
     rw [← HG.out] at h1 h2 h3 h4;go_enter Tryz.func184,Tryz.ntmps184;go_wp2_with (go_at_call 118;refine (HH.out _).mono ?_;rintro e w' ⟨rfl,rfl⟩);go_ret;exact ⟨rfl,rfl⟩
end Lx
end Go.Proofs.YtckakkeejekibaaGreatDoor
