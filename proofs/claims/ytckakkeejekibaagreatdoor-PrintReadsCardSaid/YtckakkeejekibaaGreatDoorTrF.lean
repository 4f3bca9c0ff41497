/- Plain; the reference's Split: for all parts. -/
import Derived.Test.YtckakkeejekibaaGreatDoorTrE
import Derived.Test.YtckakkeejekibaaGreatDoorSpC
set_option maxHeartbeats 800000
set_option maxRecDepth 100000
namespace Go.Proofs.YtckakkeejekibaaGreatDoor
open Go.RowKit Go.Sort
namespace Sp
open j6 Pt
def plainB:PL→Bool
 | .cons k q _ _ _ .nil=>k == 1 && !q
 | _=>false
def fQ:PL→ByteArray
 | .cons k q t _ _ .nil=>if k == 1 && !q then t else ⟨#[]⟩
 | _=>⟨#[]⟩
theorem Ck (l:PL) (a:Option Addr) (cap:Nat) (w:World) (hl:gJ w a cap l) :
  Calls Tryz.prog 94 #[.slice a l.len cap] w fun e w'=>e = .returned (.tuple #[.string (fQ l),.bool (plainB l)])∧w = w':=by
 have HL:=kq hl;clear hl;have hle:=HL.out.le;cases l with
 | nil =>
  go_enter Tryz.func94,Tryz.ntmps94;go_wp2;go_ret2;exact ⟨rfl,rfl⟩
 | cons k q t o f r =>
  cases r with
  | cons k2 q2 t2 o2 f2 r2 =>
   have hlen:(PL.cons k q t o f (PL.cons k2 q2 t2 o2 f2 r2)).len = r2.len + 2:=rfl;have jD:(((r2.len + 2:Nat):Int) != 1) = true:=by simp;omega
   rw [hlen];clear hlen hle;go_enter Tryz.func94,Tryz.ntmps94;go_wp2;go_ret2;exact ⟨rfl,rfl⟩
  | nil =>
   obtain ⟨b1,p1,rfl,aP,qG,tY,wM,wN,ht,ho,a1,lJ,wB,mU⟩:=HL.out.get (i:=0) rfl;rw [Nat.zero_mul,Nat.add_zero] at qG tY wM wN wB;have hlen:(PL.cons k q t o f PL.nil).len = 1:=rfl;rw [hlen];clear hlen hle mU;cases hk:(k == 1) <;> cases q
   all_goals
    have rU:(k != 1) = !(k == 1):=rfl;rw [hk] at rU;have HK:=kq hk;clear hk;go_enter Tryz.func94,Tryz.ntmps94;go_wp2;go_ret2;exact ⟨by simp [fQ,plainB,HK.out],rfl⟩
end Sp
namespace Tr
open j6 Pt
theorem il {T:Type} (k:Nat) (P:Nat→Nat→T→Prop):Sl k P none 0 []:=⟨vi _,zVy _,.inl rfl⟩
theorem jN (w:World):dJ w none 0 .nil:=⟨vi _,zVy _,.inl rfl⟩
def ownB (k:Int) (nm:ByteArray) (g:Bool) (az:List (ByteArray × PL)) (ws:List PL) (ks:NL) (bs:List Bool) (cz:NL):Bool :=
 if k == 1 then cB k nm g [] [] ks bs cz k ⟨#[]⟩ false [] [] .nil [] .nil else
 if k == 5 then cB k nm g az ws .nil [] cz k ⟨#[]⟩ false [] [] .nil [] .nil else
 if k == 9 then cB k ⟨#[]⟩ false az [] .nil bs cz k ⟨#[]⟩ false [] [] .nil [] .nil else
 if k == 10 then cB k nm g az [] ks bs .nil k ⟨#[]⟩ false [] [] .nil [] .nil else
 if k == 13 then cB k ⟨#[]⟩ g az ws .nil bs cz k ⟨#[]⟩ false [] [] .nil [] .nil else
 cB k nm g az ws .nil bs cz k ⟨#[]⟩ false [] [] .nil [] .nil
theorem Yz (nm:ByteArray) (g:Bool) (az:List (ByteArray × PL)) (ws:List PL) (ks:NL) (bs:List Bool) (cz:NL) (x1 d1 x2 d2 x3 d3 x4 d4 x5 d5) (w:World) (h:Holds w nm az ws ks bs cz x1 d1 x2 d2 x3 d3 x4 d4 x5 d5) :
  Calls Tryz.prog 67 #[.agg (aJ 1 nm g x1 az.length d1 x2 ws.length d2 x3 ks.len d3 x4 bs.length d4 x5 cz.len d5)] w fun e w'=>e = .returned (.bool (cB 1 nm g [] [] ks bs cz 1 ⟨#[]⟩ false [] [] .nil [] .nil))∧Below w.heap.size w w':=by
 have hE:Holds w ⟨#[]⟩ [] [] .nil [] .nil none 0 none 0 none 0 none 0 none 0:=⟨by decide,il _ _,il _ _,jN _,il _ _,jN _,rfl,rfl⟩;have hH:Holds w nm [] [] ks bs cz none 0 none 0 x3 d3 x4 d4 x5 d5:=⟨h.hnm,il _ _,il _ _,h.hks,h.hbs,h.hcs,h.xU,h.MO⟩;have gZ:Below w.heap.size w (w.alloc (.cells #[.int .i64 1,.string nm,.bool g,.slice none 0 0,.slice none 0 0,.slice x3 ks.len d3,.slice x4 bs.length d4,.slice x5 cz.len d5] 28)):=ax w (.cells #[.int .i64 1,.string nm,.bool g,.slice none 0 0,.slice none 0 0,.slice x3 ks.len d3,.slice x4 bs.length d4,.slice x5 cz.len d5] 28);have hS:=nV (NL.size ks + NL.size cz) 1 nm g [] [] ks bs cz 1 ⟨#[]⟩ false [] [] .nil [] .nil none 0 none 0 x3 d3 x4 d4 x5 d5 none 0 none 0 none 0 none 0 none 0 _ (Nat.lt_succ_self _) (hH.below gZ) (hE.below gZ);unfold aJ at hS;simp only [zZ,NL.len] at hS;have HS:=kq hS;have fP:=kq gZ;clear hS gZ hH hE h;unfold aJ;go_enter Tryz.func67,Tryz.ntmps67;go_wp2_with (go_at_call 16;refine (HS.out).mono ?_;rintro e w1 ⟨rfl,hb⟩);go_ret;exact ⟨rfl,ak fP.out (by assumption)⟩
theorem YA (nm:ByteArray) (g:Bool) (az:List (ByteArray × PL)) (ws:List PL) (ks:NL) (bs:List Bool) (cz:NL) (x1 d1 x2 d2 x3 d3 x4 d4 x5 d5) (w:World) (h:Holds w nm az ws ks bs cz x1 d1 x2 d2 x3 d3 x4 d4 x5 d5) :
  Calls Tryz.prog 67 #[.agg (aJ 5 nm g x1 az.length d1 x2 ws.length d2 x3 ks.len d3 x4 bs.length d4 x5 cz.len d5)] w fun e w'=>e = .returned (.bool (cB 5 nm g az ws .nil [] cz 5 ⟨#[]⟩ false [] [] .nil [] .nil))∧Below w.heap.size w w':=by
 have hE:Holds w ⟨#[]⟩ [] [] .nil [] .nil none 0 none 0 none 0 none 0 none 0:=⟨by decide,il _ _,il _ _,jN _,il _ _,jN _,rfl,rfl⟩;have hH:Holds w nm az ws .nil [] cz x1 d1 x2 d2 none 0 none 0 x5 d5:=⟨h.hnm,h.haz,h.hws,jN _,il _ _,h.hcs,rfl,h.MO⟩;have gZ:Below w.heap.size w (w.alloc (.cells #[.int .i64 5,.string nm,.bool g,.slice x1 az.length d1,.slice x2 ws.length d2,.slice none 0 0,.slice none 0 0,.slice x5 cz.len d5] 28)):=ax w (.cells #[.int .i64 5,.string nm,.bool g,.slice x1 az.length d1,.slice x2 ws.length d2,.slice none 0 0,.slice none 0 0,.slice x5 cz.len d5] 28);have hS:=nV (NL.size NL.nil + NL.size cz) 5 nm g az ws .nil [] cz 5 ⟨#[]⟩ false [] [] .nil [] .nil x1 d1 x2 d2 none 0 none 0 x5 d5 none 0 none 0 none 0 none 0 none 0 _ (Nat.lt_succ_self _) (hH.below gZ) (hE.below gZ);unfold aJ at hS;simp only [zZ,NL.len] at hS;have HS:=kq hS;have fP:=kq gZ;clear hS gZ hH hE h;unfold aJ;go_enter Tryz.func67,Tryz.ntmps67;go_wp2_with (go_at_call 16;refine (HS.out).mono ?_;rintro e w1 ⟨rfl,hb⟩);go_ret;exact ⟨rfl,ak fP.out (by assumption)⟩
theorem YB (nm:ByteArray) (g:Bool) (az:List (ByteArray × PL)) (ws:List PL) (ks:NL) (bs:List Bool) (cz:NL) (x1 d1 x2 d2 x3 d3 x4 d4 x5 d5) (w:World) (h:Holds w nm az ws ks bs cz x1 d1 x2 d2 x3 d3 x4 d4 x5 d5) :
  Calls Tryz.prog 67 #[.agg (aJ 9 nm g x1 az.length d1 x2 ws.length d2 x3 ks.len d3 x4 bs.length d4 x5 cz.len d5)] w fun e w'=>e = .returned (.bool (cB 9 ⟨#[]⟩ false az [] .nil bs cz 9 ⟨#[]⟩ false [] [] .nil [] .nil))∧Below w.heap.size w w':=by
 have hE:Holds w ⟨#[]⟩ [] [] .nil [] .nil none 0 none 0 none 0 none 0 none 0:=⟨by decide,il _ _,il _ _,jN _,il _ _,jN _,rfl,rfl⟩;have hH:Holds w ⟨#[]⟩ az [] .nil bs cz x1 d1 none 0 none 0 x4 d4 x5 d5:=⟨(by decide),h.haz,il _ _,jN _,h.hbs,h.hcs,rfl,h.MO⟩;have gZ:Below w.heap.size w (w.alloc (.cells #[.int .i64 9,.string ⟨#[]⟩,.bool false,.slice x1 az.length d1,.slice none 0 0,.slice none 0 0,.slice x4 bs.length d4,.slice x5 cz.len d5] 28)):=ax w (.cells #[.int .i64 9,.string ⟨#[]⟩,.bool false,.slice x1 az.length d1,.slice none 0 0,.slice none 0 0,.slice x4 bs.length d4,.slice x5 cz.len d5] 28);have hS:=nV (NL.size NL.nil + NL.size cz) 9 ⟨#[]⟩ false az [] .nil bs cz 9 ⟨#[]⟩ false [] [] .nil [] .nil x1 d1 none 0 none 0 x4 d4 x5 d5 none 0 none 0 none 0 none 0 none 0 _ (Nat.lt_succ_self _) (hH.below gZ) (hE.below gZ);unfold aJ at hS;simp only [zZ,NL.len] at hS;have HS:=kq hS;have fP:=kq gZ;clear hS gZ hH hE h;unfold aJ;go_enter Tryz.func67,Tryz.ntmps67;go_wp2_with (go_at_call 16;refine (HS.out).mono ?_;rintro e w1 ⟨rfl,hb⟩);go_ret;exact ⟨rfl,ak fP.out (by assumption)⟩
theorem VS (nm:ByteArray) (g:Bool) (az:List (ByteArray × PL)) (ws:List PL) (ks:NL) (bs:List Bool) (cz:NL) (x1 d1 x2 d2 x3 d3 x4 d4 x5 d5) (w:World) (h:Holds w nm az ws ks bs cz x1 d1 x2 d2 x3 d3 x4 d4 x5 d5) :
  Calls Tryz.prog 67 #[.agg (aJ 10 nm g x1 az.length d1 x2 ws.length d2 x3 ks.len d3 x4 bs.length d4 x5 cz.len d5)] w fun e w'=>e = .returned (.bool (cB 10 nm g az [] ks bs .nil 10 ⟨#[]⟩ false [] [] .nil [] .nil))∧Below w.heap.size w w':=by
 have hE:Holds w ⟨#[]⟩ [] [] .nil [] .nil none 0 none 0 none 0 none 0 none 0:=⟨by decide,il _ _,il _ _,jN _,il _ _,jN _,rfl,rfl⟩;have hH:Holds w nm az [] ks bs .nil x1 d1 none 0 x3 d3 x4 d4 none 0:=⟨h.hnm,h.haz,il _ _,h.hks,h.hbs,jN _,h.xU,rfl⟩;have gZ:Below w.heap.size w (w.alloc (.cells #[.int .i64 10,.string nm,.bool g,.slice x1 az.length d1,.slice none 0 0,.slice x3 ks.len d3,.slice x4 bs.length d4,.slice none 0 0] 28)):=ax w (.cells #[.int .i64 10,.string nm,.bool g,.slice x1 az.length d1,.slice none 0 0,.slice x3 ks.len d3,.slice x4 bs.length d4,.slice none 0 0] 28);have hS:=nV (NL.size ks + NL.size NL.nil) 10 nm g az [] ks bs .nil 10 ⟨#[]⟩ false [] [] .nil [] .nil x1 d1 none 0 x3 d3 x4 d4 none 0 none 0 none 0 none 0 none 0 none 0 _ (Nat.lt_succ_self _) (hH.below gZ) (hE.below gZ);unfold aJ at hS;simp only [zZ,NL.len] at hS;have HS:=kq hS;have fP:=kq gZ;clear hS gZ hH hE h;unfold aJ;go_enter Tryz.func67,Tryz.ntmps67;go_wp2_with (go_at_call 16;refine (HS.out).mono ?_;rintro e w1 ⟨rfl,hb⟩);go_ret;exact ⟨rfl,ak fP.out (by assumption)⟩
theorem VT (nm:ByteArray) (g:Bool) (az:List (ByteArray × PL)) (ws:List PL) (ks:NL) (bs:List Bool) (cz:NL) (x1 d1 x2 d2 x3 d3 x4 d4 x5 d5) (w:World) (h:Holds w nm az ws ks bs cz x1 d1 x2 d2 x3 d3 x4 d4 x5 d5) :
  Calls Tryz.prog 67 #[.agg (aJ 13 nm g x1 az.length d1 x2 ws.length d2 x3 ks.len d3 x4 bs.length d4 x5 cz.len d5)] w fun e w'=>e = .returned (.bool (cB 13 ⟨#[]⟩ g az ws .nil bs cz 13 ⟨#[]⟩ false [] [] .nil [] .nil))∧Below w.heap.size w w':=by
 have hE:Holds w ⟨#[]⟩ [] [] .nil [] .nil none 0 none 0 none 0 none 0 none 0:=⟨by decide,il _ _,il _ _,jN _,il _ _,jN _,rfl,rfl⟩;have hH:Holds w ⟨#[]⟩ az ws .nil bs cz x1 d1 x2 d2 none 0 x4 d4 x5 d5:=⟨(by decide),h.haz,h.hws,jN _,h.hbs,h.hcs,rfl,h.MO⟩;have gZ:Below w.heap.size w (w.alloc (.cells #[.int .i64 13,.string ⟨#[]⟩,.bool g,.slice x1 az.length d1,.slice x2 ws.length d2,.slice none 0 0,.slice x4 bs.length d4,.slice x5 cz.len d5] 28)):=ax w (.cells #[.int .i64 13,.string ⟨#[]⟩,.bool g,.slice x1 az.length d1,.slice x2 ws.length d2,.slice none 0 0,.slice x4 bs.length d4,.slice x5 cz.len d5] 28);have hS:=nV (NL.size NL.nil + NL.size cz) 13 ⟨#[]⟩ g az ws .nil bs cz 13 ⟨#[]⟩ false [] [] .nil [] .nil x1 d1 x2 d2 none 0 x4 d4 x5 d5 none 0 none 0 none 0 none 0 none 0 _ (Nat.lt_succ_self _) (hH.below gZ) (hE.below gZ);unfold aJ at hS;simp only [zZ,NL.len] at hS;have HS:=kq hS;have fP:=kq gZ;clear hS gZ hH hE h;unfold aJ;go_enter Tryz.func67,Tryz.ntmps67;go_wp2_with (go_at_call 16;refine (HS.out).mono ?_;rintro e w1 ⟨rfl,hb⟩);go_ret;exact ⟨rfl,ak fP.out (by assumption)⟩
theorem tq (k:Int) (nm:ByteArray) (g:Bool) (az:List (ByteArray × PL)) (ws:List PL) (ks:NL) (bs:List Bool) (cz:NL) (x1 d1 x2 d2 x3 d3 x4 d4 x5 d5) (w:World) (h:Holds w nm az ws ks bs cz x1 d1 x2 d2 x3 d3 x4 d4 x5 d5) (h1:(k == 1) = false) (h5:(k == 5) = false) (h9:(k == 9) = false) (yl:(k == 10) = false) (Xe:(k == 13) = false) :
  Calls Tryz.prog 67 #[.agg (aJ k nm g x1 az.length d1 x2 ws.length d2 x3 ks.len d3 x4 bs.length d4 x5 cz.len d5)] w fun e w'=>e = .returned (.bool (cB k nm g az ws .nil bs cz k ⟨#[]⟩ false [] [] .nil [] .nil))∧Below w.heap.size w w':=by
 have hE:Holds w ⟨#[]⟩ [] [] .nil [] .nil none 0 none 0 none 0 none 0 none 0:=⟨by decide,il _ _,il _ _,jN _,il _ _,jN _,rfl,rfl⟩;have hH:Holds w nm az ws .nil bs cz x1 d1 x2 d2 none 0 x4 d4 x5 d5:=⟨h.hnm,h.haz,h.hws,jN _,h.hbs,h.hcs,rfl,h.MO⟩;have gZ:Below w.heap.size w (w.alloc (.cells #[.int .i64 k,.string nm,.bool g,.slice x1 az.length d1,.slice x2 ws.length d2,.slice none 0 0,.slice x4 bs.length d4,.slice x5 cz.len d5] 28)):=ax w (.cells #[.int .i64 k,.string nm,.bool g,.slice x1 az.length d1,.slice x2 ws.length d2,.slice none 0 0,.slice x4 bs.length d4,.slice x5 cz.len d5] 28);have hS:=nV (NL.size NL.nil + NL.size cz) k nm g az ws .nil bs cz k ⟨#[]⟩ false [] [] .nil [] .nil x1 d1 x2 d2 none 0 x4 d4 x5 d5 none 0 none 0 none 0 none 0 none 0 _ (Nat.lt_succ_self _) (hH.below gZ) (hE.below gZ);unfold aJ at hS;simp only [zZ,NL.len] at hS;have HS:=kq hS;have fP:=kq gZ;clear hS gZ hH hE h;unfold aJ;go_enter Tryz.func67,Tryz.ntmps67;go_wp2_with (go_at_call 16;refine (HS.out).mono ?_;rintro e w1 ⟨rfl,hb⟩);go_ret;exact ⟨rfl,ak fP.out (by assumption)⟩
theorem iY (k:Int) (nm:ByteArray) (g:Bool) (az:List (ByteArray × PL)) (ws:List PL) (ks:NL) (bs:List Bool) (cz:NL) (x1 d1 x2 d2 x3 d3 x4 d4 x5 d5) (w:World) (h:Holds w nm az ws ks bs cz x1 d1 x2 d2 x3 d3 x4 d4 x5 d5) :
  Calls Tryz.prog 67 #[.agg (aJ k nm g x1 az.length d1 x2 ws.length d2 x3 ks.len d3 x4 bs.length d4 x5 cz.len d5)] w fun e w'=>e = .returned (.bool (ownB k nm g az ws ks bs cz))∧Below w.heap.size w w':=by
 unfold ownB
 by_cases h1:k = 1
 ·subst h1;exact Yz nm g az ws ks bs cz x1 d1 x2 d2 x3 d3 x4 d4 x5 d5 w h
 have g1:(k == 1) = false:=by simpa using h1
 rw [if_neg (by rw [g1];decide)]
 by_cases h5:k = 5
 ·subst h5;exact YA nm g az ws ks bs cz x1 d1 x2 d2 x3 d3 x4 d4 x5 d5 w h
 have g5:(k == 5) = false:=by simpa using h5
 rw [if_neg (by rw [g5];decide)]
 by_cases h9:k = 9
 ·subst h9;exact YB nm g az ws ks bs cz x1 d1 x2 d2 x3 d3 x4 d4 x5 d5 w h
 have g9:(k == 9) = false:=by simpa using h9
 rw [if_neg (by rw [g9];decide)]
 by_cases yl:k = 10
 ·subst yl;exact VS nm g az ws ks bs cz x1 d1 x2 d2 x3 d3 x4 d4 x5 d5 w h
 have g10:(k == 10) = false:=by simpa using yl
 rw [if_neg (by rw [g10];decide)]
 by_cases Xe:k = 13
 ·subst Xe;exact VT nm g az ws ks bs cz x1 d1 x2 d2 x3 d3 x4 d4 x5 d5 w h
 have g13:(k == 13) = false:=by simpa using Xe
 rw [if_neg (by rw [g13];decide)];exact tq k nm g az ws ks bs cz x1 d1 x2 d2 x3 d3 x4 d4 x5 d5 w h g1 g5 g9 g10 g13
end Tr
end Go.Proofs.YtckakkeejekibaaGreatDoor
