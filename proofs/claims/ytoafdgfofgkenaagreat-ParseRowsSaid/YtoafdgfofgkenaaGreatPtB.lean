/- Same: the program's and the reference's, for all parts. -/
import Derived.Test.YtoafdgfofgkenaaGreatPtA
import Derived.Test.YtoafdgfofgkenaaGreatClsN
import Derived.Lib.QuietBelow
namespace Go.Proofs.YtoafdgfofgkenaaGreat
open Go.RowKit Go.Sort
namespace Pt
open Cls
def same:PL→PL→Bool
 | .nil,.nil=>true
 | .cons k q t o f r,.cons k' q' t' o' f' r'=>(k == k' && q == q' && t.toList == t'.toList && o.toList == o'.toList && same f f') && same r r'
 | _,_=>false
def pv (k:Int) (q:Bool) (t o:ByteArray) (a:Option Addr) (n cap:Nat):Value:=.agg #[.int .i64 k,.bool q,.string t,.string o,.slice a n cap]
theorem thru {w w1 w2:World} (h1:Below w.heap.size w w1) (h2:Below w1.heap.size w1 w2):Below w.heap.size w w2 :=
 h1.trans (h2.mono h1.size)
theorem bel1 (w:World) (x:Obj):Below w.heap.size w (w.alloc x):=(Below.refl _ w).alloc (Nat.le_refl _) x
theorem bel2 (w:World) (x y:Obj):Below w.heap.size w ((w.alloc x).alloc y):=thru (bel1 w x) (bel1 _ y)
set_option maxHeartbeats 1000000 in
theorem samePart_any (k k':Int) (q q':Bool) (t t' o o':ByteArray) (a a':Option Addr) (cap cap':Nat) (f f':PL) (w:World) (hf:Lies w a cap f) (hf':Lies w a' cap' f')
  (hS:∀ w,Lies w a cap f→Lies w a' cap' f'→Calls Tryz.prog 25 #[.slice a f.len cap,.slice a' f'.len cap'] w fun e w'=>e = .returned (.bool (same f f'))∧Below w.heap.size w w') :
  Calls Tryz.prog 57 #[pv k q t o a f.len cap,pv k' q' t' o' a' f'.len cap'] w fun e w'=>e = .returned (.bool (k == k' && q == q' && t.toList == t'.toList && o.toList == o'.toList && same f f'))∧Below w.heap.size w w':=by
 have HF:=Lib.hid hf;have HF':=Lib.hid hf';clear hf hf'
 have HB:=bel2 w
 have HH:=Lib.hid HB;clear HB
 unfold pv
 go_enter Tryz.func57,Tryz.ntmps57
 go_wp2_with (go_at_call 25;refine (hS _ (HF.out.below (HH.out _ _)) (HF'.out.below (HH.out _ _))).mono ?_;rintro e w' ⟨rfl,hb⟩)
 all_goals go_ret
 all_goals refine ⟨ret_bool ?_,?_⟩
 all_goals first | exact thru (bel2 _ _ _) (by assumption) | exact bel2 _ _ _ | (simp [*])
theorem same_len:∀ {a b:PL},a.len ≠ b.len→same a b = false
 | .nil,.nil,h=>absurd rfl h
 | .nil,.cons ..,_=>rfl
 | .cons ..,.nil,_=>rfl
 | .cons _ _ _ _ _ r,.cons _ _ _ _ _ r',h=>by simp only [same,same_len (a:=r) (b:=r') (by simpa [PL.len] using h),Bool.and_false]
set_option maxHeartbeats 1000000 in
theorem eqf_any (la lb:PL) (a b:Option Addr) (ca cb:Nat) (w:World) (hla:Lies w a ca la) (hlb:Lies w b cb lb)
  (hS:∀ (f g:PL) (a b:Option Addr) (ca cb:Nat) (w:World),f.size < la.size→Lies w a ca f→Lies w b cb g→Calls Tryz.prog 25 #[.slice a f.len ca,.slice b g.len cb] w fun e w'=>e = .returned (.bool (same f g))∧Below w.heap.size w w') :
  Calls Tryz.prog 56 #[.slice a la.len ca,.slice b lb.len cb,.func (.func 57) #[] #[]] w fun e w'=>e = .returned (.bool (same la lb))∧Below w.heap.size w w':=by
 have HA:=Lib.hid hla;have HB:=Lib.hid hlb;have HS:=Lib.hid hS;clear hla hlb hS
 by_cases hl:la.len = lb.len
 ·have hl':((la.len:Int) != (lb.len:Int)) = false:=by simp [hl]
  have HL:=Lib.hid hl;clear hl
  have hle:=HA.out.le
  go_enter Tryz.func56,Tryz.ntmps56
  go_wp2
  go_loopw [17] (fun i wr=>∃ k:Nat,k≤la.len∧i = .int .i64 k∧same la lb = same (la.drop k) (lb.drop k)∧Below w.heap.size w wr) (fun i wr=>la.len - (intOf i).toNat)
  case atStart=>exact ⟨0,Nat.zero_le _,rfl,rfl,Below.refl _ _⟩
  case round =>
   obtain ⟨k,hk,rfl,hr,hbw⟩:=hrel
   have HR:=Lib.hid hr;have HW:=Lib.hid hbw;clear hr hbw
   by_cases hlt:k < la.len
   ·obtain ⟨k1,q1,t1,o1,f1,r1,hd1⟩:=PL.drop_at hlt
    obtain ⟨k2,q2,t2,o2,f2,r2,hd2⟩:=PL.drop_at (l:=lb) (n:=k) (by have:=HL.out;omega)
    have hlt2:k < lb.len:=by have:=HL.out;omega
    obtain ⟨b1,p1,rfl,hb1,c10,c11,c12,c13,_,_,a1,ca1,c14,hl1⟩:=(HA.out.below HW.out).get hd1
    obtain ⟨b2,p2,rfl,hb2,c20,c21,c22,c23,_,_,a2,ca2,c24,hl2⟩:=(HB.out.below HW.out).get hd2
    have hsz:f1.size < la.size:=by
     have:=PL.drop_size k la
     rw [hd1] at this
     simp only [PL.size] at this
     omega
    have hC:=samePart_any k1 k2 q1 q2 t1 t2 o1 o2 a1 a2 ca1 ca2 f1 f2 _ (hl1.below (bel2 wr (.cells #[.int .i64 k1,.bool q1,.string t1,.string o1,.slice a1 f1.len ca1] 45) (.cells #[.int .i64 k2,.bool q2,.string t2,.string o2,.slice a2 f2.len ca2] 45)))
     (hl2.below (bel2 wr _ _)) (fun w h1 h2=>HS.out f1 f2 a1 a2 ca1 ca2 w hsz h1 h2)
    have hstep:same la lb = ((k1 == k2 && q1 == q2 && t1.toList == t2.toList && o1.toList == o2.toList && same f1 f2) && same r1 r2):=by rw [HR.out,hd1,hd2];rfl
    have hn1:=PL.drop_succ hd1
    have hn2:=PL.drop_succ hd2
    generalize (k1 == k2 && q1 == q2 && t1.toList == t2.toList && o1.toList == o2.toList && same f1 f2) = B at hC hstep
    have HC:=Lib.hid hC;have HT:=Lib.hid hstep;have HN1:=Lib.hid hn1;have HN2:=Lib.hid hn2
    clear hd1 hd2 hl1 hl2 hC hstep hn1 hn2
    cases B
    ·go_wp2_with (go_at_call 57;refine (HC.out).mono ?_;rintro e w' ⟨rfl,hb⟩)
     go_ret
     exact ⟨ret_bool (by rw [HT.out];rfl),thru HW.out (thru (bel2 _ _ _) (by assumption))⟩
    ·go_wp2_with (go_at_call 57;refine (HC.out).mono ?_;rintro e w' ⟨rfl,hb⟩)
     go_roundw
     case rel=>exact ⟨k + 1,by omega,by go_num,by rw [HT.out,HN1.out,HN2.out];rfl,thru HW.out (thru (bel2 _ _ _) (by assumption))⟩
     case measure=>simp [intOf];omega
   ·obtain rfl:k = la.len:=by omega
    go_wp2
    go_ret
    exact ⟨ret_bool (by rw [HR.out,PL.drop_end (Nat.le_refl _),PL.drop_end (by rw [HL.out];exact Nat.le_refl _)];rfl),HW.out⟩
 ·have hl':((la.len:Int) != (lb.len:Int)) = true:=by simp;omega
  have HL:=Lib.hid hl;clear hl
  go_enter Tryz.func56,Tryz.ntmps56
  go_wp2_with fail
  go_ret
  exact ⟨ret_bool (same_len HL.out).symm,Below.refl _ _⟩
set_option maxHeartbeats 400000 in
theorem same_any (n:Nat):∀ (la lb:PL) (a b:Option Addr) (ca cb:Nat) (w:World),la.size < n→Lies w a ca la→Lies w b cb lb →
  Calls Tryz.prog 25 #[.slice a la.len ca,.slice b lb.len cb] w fun e w'=>e = .returned (.bool (same la lb))∧Below w.heap.size w w':=by
 induction n with
 | zero=>intro _ _ _ _ _ _ _ h;omega
 | succ n ih =>
  intro la lb a b ca cb w hn hla hlb
  have HE:=Lib.hid (eqf_any la lb a b ca cb w hla hlb (fun f g a b ca cb w h=>ih f g a b ca cb w (by omega)))
  clear ih hla hlb
  go_enter Tryz.func25,Tryz.ntmps25
  go_wp2_with (go_at_call 56;refine (HE.out).mono ?_;rintro e w' ⟨rfl,hb⟩)
  go_ret
  exact ⟨rfl,by assumption⟩
end Pt
end Go.Proofs.YtoafdgfofgkenaaGreat
