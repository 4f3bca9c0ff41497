/- Plain; the reference's Split: for all parts. -/
import Derived.Test.YtjmpfihopeohbaaGreatDoorTrE
import Derived.Test.YtjmpfihopeohbaaGreatDoorSpC
set_option maxHeartbeats 800000
set_option maxRecDepth 100000
namespace Go.Proofs.YtjmpfihopeohbaaGreatDoor
open Go.RowKit Go.Sort
namespace Sp
open Cls Pt
def plainB:PL→Bool
 | .cons k q _ _ _ .nil=>k == 1 && !q
 | _=>false
def plainT:PL→ByteArray
 | .cons k q t _ _ .nil=>if k == 1 && !q then t else ⟨#[]⟩
 | _=>⟨#[]⟩
theorem plain_any (l:PL) (a:Option Addr) (cap:Nat) (w:World) (hl:Lies w a cap l) :
  Calls Tryz.prog 94 #[.slice a l.len cap] w fun e w'=>e = .returned (.tuple #[.string (plainT l),.bool (plainB l)])∧w = w':=by
 have HL:=Lib.hid hl;clear hl;have hle:=HL.out.le;cases l with
 | nil =>
  go_enter Tryz.func94,Tryz.ntmps94;go_wp2;go_ret2;exact ⟨rfl,rfl⟩
 | cons k q t o f r =>
  cases r with
  | cons k2 q2 t2 o2 f2 r2 =>
   have hlen:(PL.cons k q t o f (PL.cons k2 q2 t2 o2 f2 r2)).len = r2.len + 2:=rfl;have hne:(((r2.len + 2:Nat):Int) != 1) = true:=by simp;omega
   rw [hlen];clear hlen hle;go_enter Tryz.func94,Tryz.ntmps94;go_wp2;go_ret2;exact ⟨rfl,rfl⟩
  | nil =>
   obtain ⟨b1,p1,rfl,hb1,c10,c11,c12,c13,ht,ho,a1,ca1,c14,hl1⟩:=HL.out.get (i:=0) rfl;rw [Nat.zero_mul,Nat.add_zero] at c10 c11 c12 c13 c14;have hlen:(PL.cons k q t o f PL.nil).len = 1:=rfl;rw [hlen];clear hlen hle hl1;cases hk:(k == 1) <;> cases q
   all_goals
    have hk2:(k != 1) = !(k == 1):=rfl;rw [hk] at hk2;have HK:=Lib.hid hk;clear hk;go_enter Tryz.func94,Tryz.ntmps94;go_wp2;go_ret2;exact ⟨by simp [plainT,plainB,HK.out],rfl⟩
end Sp
end Go.Proofs.YtjmpfihopeohbaaGreatDoor
namespace Go.Proofs.YtjmpfihopeohbaaGreatDoor
open Go.RowKit Go.Sort
namespace Tr
open Cls Pt
theorem sl_nil {T:Type} (k:Nat) (P:Nat→Nat→T→Prop):Sl k P none 0 []:=⟨Nat.le_refl _,Nat.zero_le _,.inl rfl⟩
theorem nl_nil (w:World):NLies w none 0 .nil:=⟨Nat.le_refl _,Nat.zero_le _,.inl rfl⟩
def ownB (k:Int) (nm:ByteArray) (g:Bool) (az:List (ByteArray × PL)) (ws:List PL) (ks:NL) (bs:List Bool) (cz:NL):Bool :=
 if k == 1 then nodeEq k nm g [] [] ks bs cz k ⟨#[]⟩ false [] [] .nil [] .nil else
 if k == 5 then nodeEq k nm g az ws .nil [] cz k ⟨#[]⟩ false [] [] .nil [] .nil else
 if k == 9 then nodeEq k ⟨#[]⟩ false az [] .nil bs cz k ⟨#[]⟩ false [] [] .nil [] .nil else
 if k == 10 then nodeEq k nm g az [] ks bs .nil k ⟨#[]⟩ false [] [] .nil [] .nil else
 if k == 13 then nodeEq k ⟨#[]⟩ g az ws .nil bs cz k ⟨#[]⟩ false [] [] .nil [] .nil else
 nodeEq k nm g az ws .nil bs cz k ⟨#[]⟩ false [] [] .nil [] .nil
theorem own_1 (nm:ByteArray) (g:Bool) (az:List (ByteArray × PL)) (ws:List PL) (ks:NL) (bs:List Bool) (cz:NL) (x1 d1 x2 d2 x3 d3 x4 d4 x5 d5) (w:World) (h:Holds w nm az ws ks bs cz x1 d1 x2 d2 x3 d3 x4 d4 x5 d5) :
  Calls Tryz.prog 67 #[.agg (nodeV 1 nm g x1 az.length d1 x2 ws.length d2 x3 ks.len d3 x4 bs.length d4 x5 cz.len d5)] w fun e w'=>e = .returned (.bool (nodeEq 1 nm g [] [] ks bs cz 1 ⟨#[]⟩ false [] [] .nil [] .nil))∧Below w.heap.size w w':=by
 have hE:Holds w ⟨#[]⟩ [] [] .nil [] .nil none 0 none 0 none 0 none 0 none 0:=⟨by decide,sl_nil _ _,sl_nil _ _,nl_nil _,sl_nil _ _,nl_nil _,rfl,rfl⟩;have hH:Holds w nm [] [] ks bs cz none 0 none 0 x3 d3 x4 d4 x5 d5:=⟨h.hnm,sl_nil _ _,sl_nil _ _,h.hks,h.hbs,h.hcs,h.okk,h.okc⟩;have hb0:Below w.heap.size w (w.alloc (.cells #[.int .i64 1,.string nm,.bool g,.slice none 0 0,.slice none 0 0,.slice x3 ks.len d3,.slice x4 bs.length d4,.slice x5 cz.len d5] 28)):=bel1 w (.cells #[.int .i64 1,.string nm,.bool g,.slice none 0 0,.slice none 0 0,.slice x3 ks.len d3,.slice x4 bs.length d4,.slice x5 cz.len d5] 28);have hS:=same_all (NL.size ks + NL.size cz) 1 nm g [] [] ks bs cz 1 ⟨#[]⟩ false [] [] .nil [] .nil none 0 none 0 x3 d3 x4 d4 x5 d5 none 0 none 0 none 0 none 0 none 0 _ (Nat.lt_succ_self _) (hH.below hb0) (hE.below hb0);unfold nodeV at hS;simp only [List.length_nil,NL.len] at hS;have HS:=Lib.hid hS;have HB0:=Lib.hid hb0;clear hS hb0 hH hE h;unfold nodeV;go_enter Tryz.func67,Tryz.ntmps67;go_wp2_with (go_at_call 16;refine (HS.out).mono ?_;rintro e w1 ⟨rfl,hb⟩);go_ret;exact ⟨rfl,thru HB0.out (by assumption)⟩
theorem own_5 (nm:ByteArray) (g:Bool) (az:List (ByteArray × PL)) (ws:List PL) (ks:NL) (bs:List Bool) (cz:NL) (x1 d1 x2 d2 x3 d3 x4 d4 x5 d5) (w:World) (h:Holds w nm az ws ks bs cz x1 d1 x2 d2 x3 d3 x4 d4 x5 d5) :
  Calls Tryz.prog 67 #[.agg (nodeV 5 nm g x1 az.length d1 x2 ws.length d2 x3 ks.len d3 x4 bs.length d4 x5 cz.len d5)] w fun e w'=>e = .returned (.bool (nodeEq 5 nm g az ws .nil [] cz 5 ⟨#[]⟩ false [] [] .nil [] .nil))∧Below w.heap.size w w':=by
 have hE:Holds w ⟨#[]⟩ [] [] .nil [] .nil none 0 none 0 none 0 none 0 none 0:=⟨by decide,sl_nil _ _,sl_nil _ _,nl_nil _,sl_nil _ _,nl_nil _,rfl,rfl⟩;have hH:Holds w nm az ws .nil [] cz x1 d1 x2 d2 none 0 none 0 x5 d5:=⟨h.hnm,h.haz,h.hws,nl_nil _,sl_nil _ _,h.hcs,rfl,h.okc⟩;have hb0:Below w.heap.size w (w.alloc (.cells #[.int .i64 5,.string nm,.bool g,.slice x1 az.length d1,.slice x2 ws.length d2,.slice none 0 0,.slice none 0 0,.slice x5 cz.len d5] 28)):=bel1 w (.cells #[.int .i64 5,.string nm,.bool g,.slice x1 az.length d1,.slice x2 ws.length d2,.slice none 0 0,.slice none 0 0,.slice x5 cz.len d5] 28);have hS:=same_all (NL.size NL.nil + NL.size cz) 5 nm g az ws .nil [] cz 5 ⟨#[]⟩ false [] [] .nil [] .nil x1 d1 x2 d2 none 0 none 0 x5 d5 none 0 none 0 none 0 none 0 none 0 _ (Nat.lt_succ_self _) (hH.below hb0) (hE.below hb0);unfold nodeV at hS;simp only [List.length_nil,NL.len] at hS;have HS:=Lib.hid hS;have HB0:=Lib.hid hb0;clear hS hb0 hH hE h;unfold nodeV;go_enter Tryz.func67,Tryz.ntmps67;go_wp2_with (go_at_call 16;refine (HS.out).mono ?_;rintro e w1 ⟨rfl,hb⟩);go_ret;exact ⟨rfl,thru HB0.out (by assumption)⟩
theorem own_9 (nm:ByteArray) (g:Bool) (az:List (ByteArray × PL)) (ws:List PL) (ks:NL) (bs:List Bool) (cz:NL) (x1 d1 x2 d2 x3 d3 x4 d4 x5 d5) (w:World) (h:Holds w nm az ws ks bs cz x1 d1 x2 d2 x3 d3 x4 d4 x5 d5) :
  Calls Tryz.prog 67 #[.agg (nodeV 9 nm g x1 az.length d1 x2 ws.length d2 x3 ks.len d3 x4 bs.length d4 x5 cz.len d5)] w fun e w'=>e = .returned (.bool (nodeEq 9 ⟨#[]⟩ false az [] .nil bs cz 9 ⟨#[]⟩ false [] [] .nil [] .nil))∧Below w.heap.size w w':=by
 have hE:Holds w ⟨#[]⟩ [] [] .nil [] .nil none 0 none 0 none 0 none 0 none 0:=⟨by decide,sl_nil _ _,sl_nil _ _,nl_nil _,sl_nil _ _,nl_nil _,rfl,rfl⟩;have hH:Holds w ⟨#[]⟩ az [] .nil bs cz x1 d1 none 0 none 0 x4 d4 x5 d5:=⟨(by decide),h.haz,sl_nil _ _,nl_nil _,h.hbs,h.hcs,rfl,h.okc⟩;have hb0:Below w.heap.size w (w.alloc (.cells #[.int .i64 9,.string ⟨#[]⟩,.bool false,.slice x1 az.length d1,.slice none 0 0,.slice none 0 0,.slice x4 bs.length d4,.slice x5 cz.len d5] 28)):=bel1 w (.cells #[.int .i64 9,.string ⟨#[]⟩,.bool false,.slice x1 az.length d1,.slice none 0 0,.slice none 0 0,.slice x4 bs.length d4,.slice x5 cz.len d5] 28);have hS:=same_all (NL.size NL.nil + NL.size cz) 9 ⟨#[]⟩ false az [] .nil bs cz 9 ⟨#[]⟩ false [] [] .nil [] .nil x1 d1 none 0 none 0 x4 d4 x5 d5 none 0 none 0 none 0 none 0 none 0 _ (Nat.lt_succ_self _) (hH.below hb0) (hE.below hb0);unfold nodeV at hS;simp only [List.length_nil,NL.len] at hS;have HS:=Lib.hid hS;have HB0:=Lib.hid hb0;clear hS hb0 hH hE h;unfold nodeV;go_enter Tryz.func67,Tryz.ntmps67;go_wp2_with (go_at_call 16;refine (HS.out).mono ?_;rintro e w1 ⟨rfl,hb⟩);go_ret;exact ⟨rfl,thru HB0.out (by assumption)⟩
theorem own_10 (nm:ByteArray) (g:Bool) (az:List (ByteArray × PL)) (ws:List PL) (ks:NL) (bs:List Bool) (cz:NL) (x1 d1 x2 d2 x3 d3 x4 d4 x5 d5) (w:World) (h:Holds w nm az ws ks bs cz x1 d1 x2 d2 x3 d3 x4 d4 x5 d5) :
  Calls Tryz.prog 67 #[.agg (nodeV 10 nm g x1 az.length d1 x2 ws.length d2 x3 ks.len d3 x4 bs.length d4 x5 cz.len d5)] w fun e w'=>e = .returned (.bool (nodeEq 10 nm g az [] ks bs .nil 10 ⟨#[]⟩ false [] [] .nil [] .nil))∧Below w.heap.size w w':=by
 have hE:Holds w ⟨#[]⟩ [] [] .nil [] .nil none 0 none 0 none 0 none 0 none 0:=⟨by decide,sl_nil _ _,sl_nil _ _,nl_nil _,sl_nil _ _,nl_nil _,rfl,rfl⟩;have hH:Holds w nm az [] ks bs .nil x1 d1 none 0 x3 d3 x4 d4 none 0:=⟨h.hnm,h.haz,sl_nil _ _,h.hks,h.hbs,nl_nil _,h.okk,rfl⟩;have hb0:Below w.heap.size w (w.alloc (.cells #[.int .i64 10,.string nm,.bool g,.slice x1 az.length d1,.slice none 0 0,.slice x3 ks.len d3,.slice x4 bs.length d4,.slice none 0 0] 28)):=bel1 w (.cells #[.int .i64 10,.string nm,.bool g,.slice x1 az.length d1,.slice none 0 0,.slice x3 ks.len d3,.slice x4 bs.length d4,.slice none 0 0] 28);have hS:=same_all (NL.size ks + NL.size NL.nil) 10 nm g az [] ks bs .nil 10 ⟨#[]⟩ false [] [] .nil [] .nil x1 d1 none 0 x3 d3 x4 d4 none 0 none 0 none 0 none 0 none 0 none 0 _ (Nat.lt_succ_self _) (hH.below hb0) (hE.below hb0);unfold nodeV at hS;simp only [List.length_nil,NL.len] at hS;have HS:=Lib.hid hS;have HB0:=Lib.hid hb0;clear hS hb0 hH hE h;unfold nodeV;go_enter Tryz.func67,Tryz.ntmps67;go_wp2_with (go_at_call 16;refine (HS.out).mono ?_;rintro e w1 ⟨rfl,hb⟩);go_ret;exact ⟨rfl,thru HB0.out (by assumption)⟩
theorem own_13 (nm:ByteArray) (g:Bool) (az:List (ByteArray × PL)) (ws:List PL) (ks:NL) (bs:List Bool) (cz:NL) (x1 d1 x2 d2 x3 d3 x4 d4 x5 d5) (w:World) (h:Holds w nm az ws ks bs cz x1 d1 x2 d2 x3 d3 x4 d4 x5 d5) :
  Calls Tryz.prog 67 #[.agg (nodeV 13 nm g x1 az.length d1 x2 ws.length d2 x3 ks.len d3 x4 bs.length d4 x5 cz.len d5)] w fun e w'=>e = .returned (.bool (nodeEq 13 ⟨#[]⟩ g az ws .nil bs cz 13 ⟨#[]⟩ false [] [] .nil [] .nil))∧Below w.heap.size w w':=by
 have hE:Holds w ⟨#[]⟩ [] [] .nil [] .nil none 0 none 0 none 0 none 0 none 0:=⟨by decide,sl_nil _ _,sl_nil _ _,nl_nil _,sl_nil _ _,nl_nil _,rfl,rfl⟩;have hH:Holds w ⟨#[]⟩ az ws .nil bs cz x1 d1 x2 d2 none 0 x4 d4 x5 d5:=⟨(by decide),h.haz,h.hws,nl_nil _,h.hbs,h.hcs,rfl,h.okc⟩;have hb0:Below w.heap.size w (w.alloc (.cells #[.int .i64 13,.string ⟨#[]⟩,.bool g,.slice x1 az.length d1,.slice x2 ws.length d2,.slice none 0 0,.slice x4 bs.length d4,.slice x5 cz.len d5] 28)):=bel1 w (.cells #[.int .i64 13,.string ⟨#[]⟩,.bool g,.slice x1 az.length d1,.slice x2 ws.length d2,.slice none 0 0,.slice x4 bs.length d4,.slice x5 cz.len d5] 28);have hS:=same_all (NL.size NL.nil + NL.size cz) 13 ⟨#[]⟩ g az ws .nil bs cz 13 ⟨#[]⟩ false [] [] .nil [] .nil x1 d1 x2 d2 none 0 x4 d4 x5 d5 none 0 none 0 none 0 none 0 none 0 _ (Nat.lt_succ_self _) (hH.below hb0) (hE.below hb0);unfold nodeV at hS;simp only [List.length_nil,NL.len] at hS;have HS:=Lib.hid hS;have HB0:=Lib.hid hb0;clear hS hb0 hH hE h;unfold nodeV;go_enter Tryz.func67,Tryz.ntmps67;go_wp2_with (go_at_call 16;refine (HS.out).mono ?_;rintro e w1 ⟨rfl,hb⟩);go_ret;exact ⟨rfl,thru HB0.out (by assumption)⟩
theorem own_other (k:Int) (nm:ByteArray) (g:Bool) (az:List (ByteArray × PL)) (ws:List PL) (ks:NL) (bs:List Bool) (cz:NL) (x1 d1 x2 d2 x3 d3 x4 d4 x5 d5) (w:World) (h:Holds w nm az ws ks bs cz x1 d1 x2 d2 x3 d3 x4 d4 x5 d5) (h1:(k == 1) = false) (h5:(k == 5) = false) (h9:(k == 9) = false) (h10:(k == 10) = false) (h13:(k == 13) = false) :
  Calls Tryz.prog 67 #[.agg (nodeV k nm g x1 az.length d1 x2 ws.length d2 x3 ks.len d3 x4 bs.length d4 x5 cz.len d5)] w fun e w'=>e = .returned (.bool (nodeEq k nm g az ws .nil bs cz k ⟨#[]⟩ false [] [] .nil [] .nil))∧Below w.heap.size w w':=by
 have hE:Holds w ⟨#[]⟩ [] [] .nil [] .nil none 0 none 0 none 0 none 0 none 0:=⟨by decide,sl_nil _ _,sl_nil _ _,nl_nil _,sl_nil _ _,nl_nil _,rfl,rfl⟩;have hH:Holds w nm az ws .nil bs cz x1 d1 x2 d2 none 0 x4 d4 x5 d5:=⟨h.hnm,h.haz,h.hws,nl_nil _,h.hbs,h.hcs,rfl,h.okc⟩;have hb0:Below w.heap.size w (w.alloc (.cells #[.int .i64 k,.string nm,.bool g,.slice x1 az.length d1,.slice x2 ws.length d2,.slice none 0 0,.slice x4 bs.length d4,.slice x5 cz.len d5] 28)):=bel1 w (.cells #[.int .i64 k,.string nm,.bool g,.slice x1 az.length d1,.slice x2 ws.length d2,.slice none 0 0,.slice x4 bs.length d4,.slice x5 cz.len d5] 28);have hS:=same_all (NL.size NL.nil + NL.size cz) k nm g az ws .nil bs cz k ⟨#[]⟩ false [] [] .nil [] .nil x1 d1 x2 d2 none 0 x4 d4 x5 d5 none 0 none 0 none 0 none 0 none 0 _ (Nat.lt_succ_self _) (hH.below hb0) (hE.below hb0);unfold nodeV at hS;simp only [List.length_nil,NL.len] at hS;have HS:=Lib.hid hS;have HB0:=Lib.hid hb0;clear hS hb0 hH hE h;unfold nodeV;go_enter Tryz.func67,Tryz.ntmps67;go_wp2_with (go_at_call 16;refine (HS.out).mono ?_;rintro e w1 ⟨rfl,hb⟩);go_ret;exact ⟨rfl,thru HB0.out (by assumption)⟩
theorem own_any (k:Int) (nm:ByteArray) (g:Bool) (az:List (ByteArray × PL)) (ws:List PL) (ks:NL) (bs:List Bool) (cz:NL) (x1 d1 x2 d2 x3 d3 x4 d4 x5 d5) (w:World) (h:Holds w nm az ws ks bs cz x1 d1 x2 d2 x3 d3 x4 d4 x5 d5) :
  Calls Tryz.prog 67 #[.agg (nodeV k nm g x1 az.length d1 x2 ws.length d2 x3 ks.len d3 x4 bs.length d4 x5 cz.len d5)] w fun e w'=>e = .returned (.bool (ownB k nm g az ws ks bs cz))∧Below w.heap.size w w':=by
 unfold ownB
 by_cases h1:k = 1
 ·subst h1;exact own_1 nm g az ws ks bs cz x1 d1 x2 d2 x3 d3 x4 d4 x5 d5 w h
 have g1:(k == 1) = false:=by simpa using h1
 rw [if_neg (by rw [g1];decide)]
 by_cases h5:k = 5
 ·subst h5;exact own_5 nm g az ws ks bs cz x1 d1 x2 d2 x3 d3 x4 d4 x5 d5 w h
 have g5:(k == 5) = false:=by simpa using h5
 rw [if_neg (by rw [g5];decide)]
 by_cases h9:k = 9
 ·subst h9;exact own_9 nm g az ws ks bs cz x1 d1 x2 d2 x3 d3 x4 d4 x5 d5 w h
 have g9:(k == 9) = false:=by simpa using h9
 rw [if_neg (by rw [g9];decide)]
 by_cases h10:k = 10
 ·subst h10;exact own_10 nm g az ws ks bs cz x1 d1 x2 d2 x3 d3 x4 d4 x5 d5 w h
 have g10:(k == 10) = false:=by simpa using h10
 rw [if_neg (by rw [g10];decide)]
 by_cases h13:k = 13
 ·subst h13;exact own_13 nm g az ws ks bs cz x1 d1 x2 d2 x3 d3 x4 d4 x5 d5 w h
 have g13:(k == 13) = false:=by simpa using h13
 rw [if_neg (by rw [g13];decide)];exact own_other k nm g az ws ks bs cz x1 d1 x2 d2 x3 d3 x4 d4 x5 d5 w h g1 g5 g9 g10 g13
end Tr
end Go.Proofs.YtjmpfihopeohbaaGreatDoor
