/- How long names and operators are: lex.run, nameLength, opLength, for every text. -/
import Derived.Test.YtoklgmbpgnimcaaGreatDoorClsN
namespace Go.Proofs.YtoklgmbpgnimcaaGreatDoor
open Go.RowKit
namespace Lx
open Cls
def runLen (p:Nat→Bool):List UInt8→Nat
 | []=>0
 | c :: l=>if p c.toNat then runLen p l + 1 else 0
theorem runLen_le (p:Nat→Bool):∀ l,runLen p l≤l.length
 | []=>Nat.le_refl _
 | c :: l=>by
  simp only [runLen]
  split
  ·simpa using runLen_le p l
  ·exact Nat.zero_le _
theorem runLen_here (p:Nat→Bool):∀ (l:List UInt8) (k:Nat),(∀ j,j < k→p (l.getD j 0).toNat = true)→k < l.length→p (l.getD k 0).toNat = false→runLen p l = k
 | [],k,_,h,_=>by simp at h
 | c :: l,0,_,_,h=>by
  simp only [List.getD_cons_zero] at h
  simp [runLen,h]
 | c :: l,k + 1,ha,hk,h=>by
  have h0:=ha 0 (by omega)
  simp only [List.getD_cons_zero] at h0
  simp only [runLen,h0,if_true]
  rw [runLen_here p l k (fun j hj=>by have:=ha (j + 1) (by omega);simpa using this) (by simpa using hk) (by simpa using h)]
theorem runLen_all (p:Nat→Bool):∀ (l:List UInt8),(∀ j,j < l.length→p (l.getD j 0).toNat = true)→runLen p l = l.length
 | [],_=>rfl
 | c :: l,ha=>by
  have h0:=ha 0 (by simp)
  simp only [List.getD_cons_zero] at h0
  simp only [runLen,h0,if_true,List.length_cons]
  rw [runLen_all p l fun j hj=>by have:=ha (j + 1) (by simpa using hj);simpa using this]
theorem ret_int {a b:Int} (h:a = b):Ending.returned (.int .i64 a) = .returned (.int .i64 b):=by rw [h]
def wordB (n:Nat):Bool:=letterB n || digitB n
theorem wordB_any (n:Nat) (w:World) :
  Calls Tryz.prog 118 #[.int .u8 n] w fun e w'=>e = .returned (.bool (wordB n))∧w = w':=by
 unfold wordB
 cases hl:letterB n <;> cases hd:digitB n
 all_goals
  have h1:=letter_any n w
  have h2:=digit_any n w
  rw [hl] at h1
  rw [hd] at h2
  have H1:=Lib.hid h1;have H2:=Lib.hid h2
  clear h1 h2 hl hd
  go_enter Tryz.func118,Tryz.ntmps118
  go_wp2_with (first
   | (go_at_call 116;refine (H1.out).mono ?_;rintro e w' ⟨rfl,rfl⟩)
   | (go_at_call 119;refine (H2.out).mono ?_;rintro e w' ⟨rfl,rfl⟩))
  go_ret
  exact ⟨rfl,rfl⟩
set_option maxHeartbeats 400000 in
theorem run_word (s:ByteArray) (w:World) (hs:s.size≤9223372036854775807) :
  Calls Tryz.prog 117 #[.string s,.func (.func 118) #[] #[]] w fun e w'=>e = .returned (.int .i64 (runLen wordB s.data.toList))∧w = w':=by
 have HN:=Lib.hid (lenB s)
 go_enter Tryz.func117,Tryz.ntmps117
 go_wp2
 go_loop [8] (fun i=>∃ k:Nat,k≤s.size∧i = .int .i64 k∧∀ j,j < k→wordB (s.data.toList.getD j 0).toNat = true) (fun i=>s.size - (intOf i).toNat)
 case atStart=>exact ⟨0,Nat.zero_le _,rfl,fun j hj=>by omega⟩
 case round =>
  obtain ⟨k,hk,rfl,hr⟩:=hrel
  have HR:=Lib.hid hr;clear hr
  by_cases hlt:k < s.size
  ·have HG:=Lib.hid (getB hlt)
   have hc:=fun w=>wordB_any s[k].toNat w
   cases hb:wordB s[k].toNat
   all_goals
    rw [hb] at hc
    have HB:=Lib.hid hb
    have HC:=Lib.hid hc
    clear hb hc
   ·go_wp2_with (go_at_call 118;refine (HC.out _).mono ?_;rintro e w' ⟨rfl,rfl⟩)
    go_ret
    exact ⟨ret_int (by rw [runLen_here wordB _ k HR.out (by rw [HN.out];exact hlt) (by rw [← HG.out];exact HB.out)]),rfl⟩
   ·go_wp2_with (go_at_call 118;refine (HC.out _).mono ?_;rintro e w' ⟨rfl,rfl⟩)
    go_round
    case rel=>exact ⟨k + 1,by omega,by go_num,fun j hj=>by
      by_cases e:j = k
      ·subst e;rw [← HG.out];exact HB.out
      ·exact HR.out j (by omega)⟩
    case measure=>simp [intOf];omega
  ·obtain rfl:k = s.size:=by omega
   go_wp2
   go_ret
   exact ⟨ret_int (by rw [runLen_all wordB _ (by rw [HN.out];exact HR.out),HN.out]),rfl⟩
set_option maxHeartbeats 400000 in
theorem run_digit (s:ByteArray) (w:World) (hs:s.size≤9223372036854775807) :
  Calls Tryz.prog 117 #[.string s,.func (.func 119) #[] #[]] w fun e w'=>e = .returned (.int .i64 (runLen digitB s.data.toList))∧w = w':=by
 have HN:=Lib.hid (lenB s)
 go_enter Tryz.func117,Tryz.ntmps117
 go_wp2
 go_loop [8] (fun i=>∃ k:Nat,k≤s.size∧i = .int .i64 k∧∀ j,j < k→digitB (s.data.toList.getD j 0).toNat = true) (fun i=>s.size - (intOf i).toNat)
 case atStart=>exact ⟨0,Nat.zero_le _,rfl,fun j hj=>by omega⟩
 case round =>
  obtain ⟨k,hk,rfl,hr⟩:=hrel
  have HR:=Lib.hid hr;clear hr
  by_cases hlt:k < s.size
  ·have HG:=Lib.hid (getB hlt)
   have hc:=fun w=>digit_any s[k].toNat w
   cases hb:digitB s[k].toNat
   all_goals
    rw [hb] at hc
    have HB:=Lib.hid hb
    have HC:=Lib.hid hc
    clear hb hc
   ·go_wp2_with (go_at_call 119;refine (HC.out _).mono ?_;rintro e w' ⟨rfl,rfl⟩)
    go_ret
    exact ⟨ret_int (by rw [runLen_here digitB _ k HR.out (by rw [HN.out];exact hlt) (by rw [← HG.out];exact HB.out)]),rfl⟩
   ·go_wp2_with (go_at_call 119;refine (HC.out _).mono ?_;rintro e w' ⟨rfl,rfl⟩)
    go_round
    case rel=>exact ⟨k + 1,by omega,by go_num,fun j hj=>by
      by_cases e:j = k
      ·subst e;rw [← HG.out];exact HB.out
      ·exact HR.out j (by omega)⟩
    case measure=>simp [intOf];omega
  ·obtain rfl:k = s.size:=by omega
   go_wp2
   go_ret
   exact ⟨ret_int (by rw [runLen_all digitB _ (by rw [HN.out];exact HR.out),HN.out]),rfl⟩
def nameLen (l:List UInt8) (d:Nat):Nat :=
 match l with
 | []=>0
 | c :: _=>if letterB c.toNat then runLen wordB l else if digitB c.toNat then min (runLen digitB l) d else if paramL [c] then 1 else 0
theorem head_get {s:ByteArray} {c:UInt8} {l:List UInt8} (h:s.data.toList = c :: l) (hp:0 < s.size):s[0].toNat = c.toNat:=by
 rw [getB hp,h];rfl
theorem size_cons {s:ByteArray} {c:UInt8} {l:List UInt8} (h:s.data.toList = c :: l):s.size = l.length + 1:=by
 rw [← lenB,h];rfl
set_option maxHeartbeats 800000 in
theorem nameLen_any (s:ByteArray) (d:Nat) (w:World) (hs:s.size≤1000000) (hd:d≤1000000) :
  Calls Tryz.prog 103 #[.string s,.int .i64 d] w fun e w'=>e = .returned (.int .i64 (nameLen s.data.toList d))∧Below w.heap.size w w':=by
 cases hL:s.data.toList with
 | nil =>
  have h0:s.toList.isEmpty = true:=by rw [Lib.toList_data,hL];rfl
  have HL:=Lib.hid hL;clear hL
  go_enter Tryz.func103,Tryz.ntmps103
  go_wp2
  go_ret
  exact ⟨rfl,Below.refl _ _⟩
 | cons c t =>
  have h0:s.toList.isEmpty = false:=by rw [Lib.toList_data,hL];rfl
  have hsz:=size_cons hL
  have hpos:0 < s.size:=by omega
  have hg:=head_get hL hpos
  have h1:=fun w=>letter_any s[0].toNat w
  have h2:=fun w=>digit_any s[0].toNat w
  have hx:(s.extract 0 1).data.toList = [c]:=by rw [Lib.extract_data,hL];rfl
  have h3:=fun w=>param_any (s.extract 0 1) w (by simp [ByteArray.size_extract];omega)
  rw [hx] at h3
  have h4:=fun w=>run_word s w (by omega)
  have h5:=fun w=>run_digit s w (by omega)
  rw [hL] at h4 h5
  have hrl:=runLen_le digitB (c :: t)
  have hrl2:runLen digitB (c :: t)≤1000000:=by rw [List.length_cons] at hrl;omega
  unfold nameLen
  simp only []
  rw [hg] at h1 h2
  cases hl:letterB c.toNat
  ·cases hdg:digitB c.toNat
   ·cases hp:paramL [c]
    all_goals
     rw [hl] at h1
     rw [hdg] at h2
     rw [hp] at h3
     have H1:=Lib.hid h1;have H2:=Lib.hid h2;have H3:=Lib.hid h3;have HG:=Lib.hid hg
     clear h1 h2 h3 h4 h5 hl hdg hp hL hsz hx hrl hrl2 hg
     go_enter Tryz.func103,Tryz.ntmps103
     go_wp2_with (first
      | (go_at_call 116;rw [HG.out];refine (H1.out _).mono ?_;rintro e w' ⟨rfl,rfl⟩)
      | (go_at_call 119;rw [HG.out];refine (H2.out _).mono ?_;rintro e w' ⟨rfl,rfl⟩)
      | (go_at_call 112;refine (H3.out _).mono ?_;rintro e w' ⟨rfl,hb⟩;have HB:=Lib.hid hb;clear hb))
     go_ret
     exact ⟨rfl,HB.out⟩
   ·rw [hl] at h1
    rw [hdg] at h2
    have H1:=Lib.hid h1;have H2:=Lib.hid h2;have H5:=Lib.hid h5;have HG:=Lib.hid hg;have HDG:=Lib.hid hdg
    generalize runLen digitB (c :: t) = R1 at H5 hrl2
    clear h1 h2 h3 h4 h5 hl hdg hL hsz hx hrl hg
    have hmin:(if (R1:Int)≤(d:Int) then (R1:Int) else d) = ((min R1 d:Nat):Int):=by omega
    have HM:=Lib.hid hmin;clear hmin
    go_enter Tryz.func103,Tryz.ntmps103
    go_wp2_with (first
     | (go_at_call 116;rw [HG.out];refine (H1.out _).mono ?_;rintro e w' ⟨rfl,rfl⟩)
     | (go_at_call 119;rw [HG.out];refine (H2.out _).mono ?_;rintro e w' ⟨rfl,rfl⟩)
     | (go_at_call 117;refine (H5.out _).mono ?_;rintro e w' ⟨rfl,rfl⟩))
    go_ret
    exact ⟨ret_int (by omega),Below.refl _ _⟩
  ·rw [hl] at h1
   have H1:=Lib.hid h1;have H4:=Lib.hid h4;have HG:=Lib.hid hg
   clear h1 h2 h3 h4 h5 hl hL hsz hx hrl hrl2 hg
   go_enter Tryz.func103,Tryz.ntmps103
   go_wp2_with (first
    | (go_at_call 116;rw [HG.out];refine (H1.out _).mono ?_;rintro e w' ⟨rfl,rfl⟩)
    | (go_at_call 117;refine (H4.out _).mono ?_;rintro e w' ⟨rfl,rfl⟩))
   go_ret
   exact ⟨rfl,Below.refl _ _⟩
def opB (n:Nat):Bool:=(n:Int) == 45 || (n:Int) == 61 || (n:Int) == 43 || (n:Int) == 63
def opLen:List UInt8→Nat
 | []=>0
 | c :: l=>if (c.toNat:Int) == 58 then match l with
   | []=>0
   | c2 :: _=>if opB c2.toNat then 2 else 0
  else if opB c.toNat then 1 else 0
theorem prefix_one (s:ByteArray) (b:UInt8):Lib.hasPrefix s.data.toList [b] = match s.data.toList with | []=>false | c :: _=>c == b:=by
 cases s.data.toList with
 | nil=>simp [Lib.hasPrefix]
 | cons c t =>
  rw [Bool.eq_iff_iff]
  simp [Lib.hasPrefix,List.isPrefixOf]
  exact eq_comm
set_option maxHeartbeats 800000 in
theorem opLen_any (s:ByteArray) (w:World) (hs:s.size≤1000000) :
  Calls Tryz.prog 111 #[.string s] w fun e w'=>e = .returned (.int .i64 (opLen s.data.toList))∧w = w':=by
 have hH:=fun w=>(Tryz.strings_HasPrefix s ⟨#[58]⟩ w).mono fun e w' h=>And.intro h.1 h.2.symm
 rw [show (⟨#[58]⟩:ByteArray).data.toList = [58] from rfl,prefix_one] at hH
 cases hL:s.data.toList with
 | nil =>
  have hz:s.size = 0:=by rw [← lenB,hL];rfl
  have hz2:((0:Int) == (s.size:Int)) = true:=by rw [hz];rfl
  rw [hL] at hH
  have HL:=Lib.hid hL;have HH:=Lib.hid hH;clear hL hH hz
  go_enter Tryz.func111,Tryz.ntmps111
  go_wp2_with (go_at_call 63;refine (HH.out _).mono ?_;rintro e w' ⟨rfl,rfl⟩)
  go_ret
  exact ⟨rfl,rfl⟩
 | cons c t =>
  have hsz:=size_cons hL
  have hpos:0 < s.size:=by omega
  have hg:=head_get hL hpos
  rw [hL] at hH
  simp only [] at hH
  have hz2:((0:Int) == (s.size:Int)) = false:=by simp;omega
  cases hc:((c.toNat:Int) == 58)
  ·have hcb:(c == 58) = false:=by
    cases h:(c == 58)
    ·rfl
    ·rw [beq_iff_eq.1 h] at hc;simp at hc
   rw [hcb] at hH
   have HH:=Lib.hid hH
   have hS:opLen (c :: t) = if opB c.toNat then 1 else 0:=by
    simp only [opLen];rw [hc];rfl
   rw [hS]
   have HG:=Lib.hid hg
   clear hH hcb hL hsz hS hc hg
   unfold opB
   cases h1:((c.toNat:Int) == 45) <;> cases h2:((c.toNat:Int) == 61) <;> cases h3:((c.toNat:Int) == 43) <;> cases h4:((c.toNat:Int) == 63)
   all_goals
    rw [← HG.out] at h1 h2 h3 h4
    go_enter Tryz.func111,Tryz.ntmps111
    go_wp2_with (go_at_call 63;refine (HH.out _).mono ?_;rintro e w' ⟨rfl,rfl⟩)
    go_ret
    exact ⟨rfl,rfl⟩
  ·have hcb:(c == 58) = true:=by
    have:=beq_iff_eq.1 hc
    simp only [beq_iff_eq]
    apply UInt8.toNat_inj.1
    simp;omega
   rw [hcb] at hH
   have HH:=Lib.hid hH
   cases t with
   | nil =>
    have hz3:((1:Int) == (s.size:Int)) = true:=by rw [hsz];rfl
    have hS:opLen [c] = 0:=by simp only [opLen];rw [hc];rfl
    rw [hS]
    clear hH hcb hL hsz hS hc hg
    go_enter Tryz.func111,Tryz.ntmps111
    go_wp2_with (go_at_call 63;refine (HH.out _).mono ?_;rintro e w' ⟨rfl,rfl⟩)
    go_ret
    exact ⟨rfl,rfl⟩
   | cons c2 t =>
    have hsz2:s.size = t.length + 2:=by rw [hsz];rfl
    have hz3:((1:Int) == (s.size:Int)) = false:=by simp;omega
    have hp1:1 < s.size:=by omega
    have hg1:s[1].toNat = c2.toNat:=by rw [getB hp1,hL];rfl
    have hS:opLen (c :: c2 :: t) = if opB c2.toNat then 2 else 0:=by simp only [opLen];rw [hc];rfl
    rw [hS]
    have HG:=Lib.hid hg1
    clear hH hcb hL hsz hS hc hg hg1 hsz2
    unfold opB
    cases h1:((c2.toNat:Int) == 45) <;> cases h2:((c2.toNat:Int) == 61) <;> cases h3:((c2.toNat:Int) == 43) <;> cases h4:((c2.toNat:Int) == 63)
    all_goals
     rw [← HG.out] at h1 h2 h3 h4
     go_enter Tryz.func111,Tryz.ntmps111
     go_wp2_with (go_at_call 63;refine (HH.out _).mono ?_;rintro e w' ⟨rfl,rfl⟩)
     go_ret
     exact ⟨rfl,rfl⟩
end Lx
end Go.Proofs.YtoklgmbpgnimcaaGreatDoor
