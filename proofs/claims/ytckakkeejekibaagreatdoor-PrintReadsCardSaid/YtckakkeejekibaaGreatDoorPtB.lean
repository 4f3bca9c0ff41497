/- Parts of words, as they lie in memory: a plain inductive datum; how an argument's reading becomes one; that they lie there still when the world goes on above. -/
import Derived.OpenShut
import Derived.Test.YtckakkeejekibaaGreatDoorClsN
import Derived.Lib.QuietBelow
set_option maxHeartbeats 1000000
namespace Go.Proofs.YtckakkeejekibaaGreatDoor
open Go.RowKit Go.WideShapes Go.ChangeShapes
namespace Pt
theorem hcB:Tryz.prog.cellsOf 4 = 1:=by kernel_rfl
theorem hcells:Tryz.prog.cellsOf 75 = 5:=by kernel_rfl
inductive PL where
 | nil
 | cons (k:Int) (q:Bool) (t o:ByteArray) (of rest:PL)
namespace PL
def len:PL→Nat
 | nil=>0
 | cons _ _ _ _ _ r=>r.len + 1
def size:PL→Nat
 | nil=>0
 | cons _ _ _ _ f r=>f.size + r.size + 1
def drop:Nat→PL→PL
 | 0,l=>l
 | _ + 1,nil=>nil
 | n + 1,cons _ _ _ _ _ r=>drop n r
theorem o6:∀ (n:Nat) (l:PL),(drop n l).len = l.len - n
 | 0,_=>rfl
 | n + 1,nil=>by simp [drop,len]
 | n + 1,cons _ _ _ _ _ r=>by simp [drop,len,o6 n r]
theorem eX:∀ (n:Nat) (l:PL),(drop n l).size≤l.size
 | 0,_=>Nat.le_refl _
 | n + 1,nil=>Nat.le_refl _
 | n + 1,cons _ _ _ _ _ r=>by have:=eX n r;simp only [drop,size];omega
theorem kJ:∀ {n:Nat} {l r f:PL} {k:Int} {q:Bool} {t o:ByteArray},drop n l = cons k q t o f r→drop (n + 1) l = r
 | 0,_,_,_,_,_,_,_,h=>by simp only [drop] at h;subst h;rfl
 | n + 1,nil,_,_,_,_,_,_,h=>by simp [drop] at h
 | n + 1,cons _ _ _ _ _ _,_,_,_,_,_,_,h=>by simp only [drop] at h ⊢;exact kJ h
theorem drop_at:∀ {n:Nat} {l:PL},n < l.len→∃ k q t o f r,drop n l = cons k q t o f r
 | 0,cons k q t o f r,_=>⟨k,q,t,o,f,r,rfl⟩
 | n + 1,cons _ _ _ _ _ r,h=>by simp only [len] at h;exact drop_at (n:=n) (l:=r) (by omega)
theorem fo {n:Nat} {l:PL} (h:l.len≤n):drop n l = nil:=by
 have:=o6 n l;cases hd:drop n l with
 | nil=>rfl
 | cons=>rw [hd] at this;simp only [len] at this;omega
end PL
def R:Nat:=140737488351232
def At (w:World) (b:Nat):Nat→PL→Prop
 | _,.nil=>True
 | o,.cons k q t p f r=>(w.cell? ⟨b,o,none⟩ = some (.int .i64 k)∧w.cell? ⟨b,o + 1,none⟩ = some (.bool q)∧w.cell? ⟨b,o + 2,none⟩ = some (.string t)∧w.cell? ⟨b,o + 3,none⟩ = some (.string p)∧t.size≤R∧p.size≤R) ∧
   (∃ a cap,w.cell? ⟨b,o + 4,none⟩ = some (.slice a f.len cap)∧f.len≤cap∧f.len≤R∧(f = .nil∨∃ b' o',a = some ⟨b',o',none⟩∧At w b' o' f))∧At w b (o + 5) r
def gJ (w:World) (a:Option Addr) (cap:Nat) (l:PL):Prop :=
 l.len≤cap∧l.len≤R∧(l = .nil∨∃ b o,a = some ⟨b,o,none⟩∧At w b o l)
theorem gJ.le {w:World} {a:Option Addr} {cap:Nat} {l:PL} (h:gJ w a cap l):l.len≤140737488351232:=h.2.1
theorem At.below {w w':World} (hb:Below w.heap.size w w'):∀ {l:PL} {b o:Nat},At w b o l→At w' b o l
 | .nil,_,_,_=>trivial
 | .cons _ _ _ _ f r,b,o,⟨⟨h0,h1,h2,h3,h4,h5⟩,⟨a,cap,h6,h7,h8,h9⟩,hr⟩=>by
  have aB:=World.block_lt_of_cell? _ _ h0;have hc:∀ {j v},w.cell? ⟨b,j,none⟩ = some v→w'.cell? ⟨b,j,none⟩ = some v:=fun {j v} h=>(hb.cell (p:=⟨b,j,none⟩) aB).trans h;refine ⟨⟨hc h0,hc h1,hc h2,hc h3,h4,h5⟩,⟨a,cap,hc h6,h7,h8,?_⟩,At.below hb hr⟩;rcases h9 with h9 | ⟨b',o',ha,h9⟩
  ·exact .inl h9
  ·exact .inr ⟨b',o',ha,At.below hb h9⟩
theorem gJ.below {w w':World} {a:Option Addr} {cap:Nat} {l:PL} (h:gJ w a cap l) (hb:Below w.heap.size w w'):gJ w' a cap l:=by
 obtain ⟨h1,h2,h3⟩:=h;refine ⟨h1,h2,?_⟩;rcases h3 with h3 | ⟨b,o,ha,h3⟩
 ·exact .inl h3
 ·exact .inr ⟨b,o,ha,At.below hb h3⟩
theorem At.drop {w:World} {b:Nat}:∀ {n:Nat} {l:PL} {o:Nat},At w b o l→At w b (o + n * 5) (l.drop n)
 | 0,_,o,h=>by simpa [PL.drop] using h
 | n + 1,.nil,_,_=>trivial
 | n + 1,.cons _ _ _ _ _ r,o,h=>by
  have:=At.drop (n:=n) h.2.2;simp only [PL.drop];rwa [show o + (n + 1) * 5 = o + 5 + n * 5 by omega]
theorem gJ.get {w:World} {a:Option Addr} {cap i:Nat} {l f r:PL} {k:Int} {q:Bool} {t p:ByteArray} (h:gJ w a cap l) (hd:l.drop i = .cons k q t p f r) :
  ∃ b o,a = some ⟨b,o,none⟩∧b < w.heap.size∧w.cell? ⟨b,o + i * 5,none⟩ = some (.int .i64 k)∧w.cell? ⟨b,o + i * 5 + 1,none⟩ = some (.bool q)∧w.cell? ⟨b,o + i * 5 + 2,none⟩ = some (.string t)∧w.cell? ⟨b,o + i * 5 + 3,none⟩ = some (.string p)∧t.size≤R∧p.size≤R ∧
   ∃ a' gK,w.cell? ⟨b,o + i * 5 + 4,none⟩ = some (.slice a' f.len gK)∧gJ w a' gK f:=by
 obtain ⟨_,_,h3⟩:=h;rcases h3 with rfl | ⟨b,o,ha,h3⟩
 ·cases i <;> simp [PL.drop] at hd
 ·have:=At.drop (n:=i) h3;rw [hd] at this;obtain ⟨⟨h0,h1,h2,h3,h4,h5⟩,⟨a',gK,h6,h7,h8,h9⟩,_⟩:=this;exact ⟨b,o,ha,World.block_lt_of_cell? _ _ h0,h0,h1,h2,h3,h4,h5,a',gK,h6,h7,h8,h9⟩
section
variable {H:Type} {enc:TypeId × Value→H} {w:World} {base:Nat} {held:Bool}
end
end Pt
end Go.Proofs.YtckakkeejekibaaGreatDoor
namespace Go.Proofs.YtckakkeejekibaaGreatDoor
namespace Bd
open Pt
def bytes:PL→Nat
 | .nil=>0
 | .cons _ _ t o f r=>1 + t.size + o.size + bytes f + bytes r
def Vj (w:World) (c:Nat) (k:Int) (q:Bool) (t o:ByteArray) (a:Option Addr) (n cap:Nat):Prop :=
 w.heap[c]? = some (.cells #[.int .i64 k,.bool q,.string t,.string o,.slice a n cap] 75 (0,0))
theorem Vj.cell {w:World} {c:Nat} {k:Int} {q:Bool} {t o:ByteArray} {a:Option Addr} {n cap:Nat} (h:Vj w c k q t o a n cap) (j:Nat):w.cell? ⟨c,j,none⟩ = #[Value.int .i64 k,.bool q,.string t,.string o,.slice a n cap][j]? :=
 Lib.cell_of_heap h j
end Bd
end Go.Proofs.YtckakkeejekibaaGreatDoor
namespace Go.Proofs.YtckakkeejekibaaGreatDoor
open Go.RowKit Go.Sort
namespace Pt
open j6
def same:PL→PL→Bool
 | .nil,.nil=>true
 | .cons k q t o f r,.cons k' q' t' o' f' r'=>(k == k' && q == q' && t.toList == t'.toList && o.toList == o'.toList && same f f') && same r r'
 | _,_=>false
def pv (k:Int) (q:Bool) (t o:ByteArray) (a:Option Addr) (n cap:Nat):Value:=.agg #[.int .i64 k,.bool q,.string t,.string o,.slice a n cap]
theorem ak {w w1 w2:World} (h1:Below w.heap.size w w1) (h2:Below w1.heap.size w1 w2):Below w.heap.size w w2 :=
 h1.trans (h2.mono h1.size)
theorem ax (w:World) (x:Obj):Below w.heap.size w (w.alloc x):=(Below.refl _ w).alloc (Nat.le_refl _) x
theorem bY (w:World) (x y:Obj):Below w.heap.size w ((w.alloc x).alloc y):=ak (ax w x) (ax _ y)
theorem Dg (k k':Int) (q q':Bool) (t t' o o':ByteArray) (a a':Option Addr) (cap gK:Nat) (f f':PL) (w:World) (hf:gJ w a cap f) (Rh:gJ w a' gK f')
  (hS:∀ w,gJ w a cap f→gJ w a' gK f'→Calls Tryz.prog 33 #[.slice a f.len cap,.slice a' f'.len gK] w fun e w'=>e = .returned (.bool (same f f'))∧Below w.heap.size w w') :
  Calls Tryz.prog 56 #[pv k q t o a f.len cap,pv k' q' t' o' a' f'.len gK] w fun e w'=>e = .returned (.bool (k == k' && q == q' && t.toList == t'.toList && o.toList == o'.toList && same f f'))∧Below w.heap.size w w':=by
 have HF:=Lib.hid hf;have HF':=Lib.hid Rh;clear hf Rh;have HB:=bY w;have HH:=Lib.hid HB;clear HB;unfold pv;go_enter Tryz.func56,Tryz.ntmps56;go_wp2_with (go_at_call 33;refine (hS _ (HF.out.below (HH.out _ _)) (HF'.out.below (HH.out _ _))).mono ?_;rintro e w' ⟨rfl,hb⟩)
 all_goals go_ret
 all_goals refine ⟨ai ?_,?_⟩
 all_goals first | exact ak (bY _ _ _) (by assumption) | exact bY _ _ _ | (simp [*])
theorem E9:∀ {a b:PL},a.len ≠ b.len→same a b = false
 | .nil,.nil,h=>absurd rfl h
 | .nil,.cons ..,_=>rfl
 | .cons ..,.nil,_=>rfl
 | .cons _ _ _ _ _ r,.cons _ _ _ _ _ r',h=>by simp only [same,E9 (a:=r) (b:=r') (by simpa [PL.len] using h),Bool.and_false]
theorem RJ (la lb:PL) (a b:Option Addr) (ca cb:Nat) (w:World) (lI:gJ w a ca la) (qa:gJ w b cb lb)
  (hS:∀ (f g:PL) (a b:Option Addr) (ca cb:Nat) (w:World),f.size < la.size→gJ w a ca f→gJ w b cb g→Calls Tryz.prog 33 #[.slice a f.len ca,.slice b g.len cb] w fun e w'=>e = .returned (.bool (same f g))∧Below w.heap.size w w') :
  Calls Tryz.prog 55 #[.slice a la.len ca,.slice b lb.len cb,.func (.func 56) #[] #[]] w fun e w'=>e = .returned (.bool (same la lb))∧Below w.heap.size w w':=by
 have HA:=Lib.hid lI;have HB:=Lib.hid qa;have HS:=Lib.hid hS;clear lI qa hS
 by_cases hl:la.len = lb.len
 ·have A9:((la.len:Int) != (lb.len:Int)) = false:=by simp [hl]
  have HL:=Lib.hid hl;clear hl;have hle:=HA.out.le;go_enter Tryz.func55,Tryz.ntmps55;go_wp2
  go_loopw [17] (fun i wr=>∃ k:Nat,k≤la.len∧i = .int .i64 k∧same la lb = same (la.drop k) (lb.drop k)∧Below w.heap.size w wr) (fun i wr=>la.len - (intOf i).toNat)
  case atStart=>exact ⟨0,Nat.zero_le _,rfl,rfl,Below.refl _ _⟩
  case round =>
   obtain ⟨k,hk,rfl,hr,ja⟩:=hrel;have HR:=Lib.hid hr;have HW:=Lib.hid ja;clear hr ja
   by_cases aB:k < la.len
   ·obtain ⟨k1,q1,t1,o1,f1,r1,fG⟩:=PL.drop_at aB;obtain ⟨k2,q2,t2,o2,f2,r2,lT⟩:=PL.drop_at (l:=lb) (n:=k) (by have:=HL.out;omega);have qc:k < lb.len:=by have:=HL.out;omega
    obtain ⟨b1,p1,rfl,aP,qG,tY,wM,wN,_,_,a1,lJ,wB,mU⟩:=(HA.out.below HW.out).get fG;obtain ⟨b2,p2,rfl,d9,Oi,WH,ZU,ZV,_,_,a2,sZ,ZW,Ba⟩:=(HB.out.below HW.out).get lT;have bU:f1.size < la.size:=by
     have:=PL.eX k la;rw [fG] at this;simp only [PL.size] at this;omega
    have hC:=Dg k1 k2 q1 q2 t1 t2 o1 o2 a1 a2 lJ sZ f1 f2 _ (mU.below (bY wr (.cells #[.int .i64 k1,.bool q1,.string t1,.string o1,.slice a1 f1.len lJ] 75) (.cells #[.int .i64 k2,.bool q2,.string t2,.string o2,.slice a2 f2.len sZ] 75)))
     (Ba.below (bY wr _ _)) (fun w h1 h2=>HS.out f1 f2 a1 a2 lJ sZ w bU h1 h2)
    have bL:same la lb = ((k1 == k2 && q1 == q2 && t1.toList == t2.toList && o1.toList == o2.toList && same f1 f2) && same r1 r2):=by rw [HR.out,fG,lT];rfl
    have Ue:=PL.kJ fG;have BL:=PL.kJ lT;generalize (k1 == k2 && q1 == q2 && t1.toList == t2.toList && o1.toList == o2.toList && same f1 f2) = B at hC bL;have HC:=Lib.hid hC;have HT:=Lib.hid bL;have Xz:=Lib.hid Ue;have y8:=Lib.hid BL;clear fG lT mU Ba hC bL Ue BL;cases B
    ·go_wp2_with (go_at_call 56;refine (HC.out).mono ?_;rintro e w' ⟨rfl,hb⟩);go_ret;exact ⟨ai (by rw [HT.out];rfl),ak HW.out (ak (bY _ _ _) (by assumption))⟩
    ·go_wp2_with (go_at_call 56;refine (HC.out).mono ?_;rintro e w' ⟨rfl,hb⟩);go_roundw
     case rel=>exact ⟨k + 1,by omega,by go_num,by rw [HT.out,Xz.out,y8.out];rfl,ak HW.out (ak (bY _ _ _) (by assumption))⟩
     case measure=>simp [intOf];omega
   ·obtain rfl:k = la.len:=by omega
    go_wp2;go_ret;exact ⟨ai (by rw [HR.out,PL.fo (Nat.le_refl _),PL.fo (by rw [HL.out];exact Nat.le_refl _)];rfl),HW.out⟩
 ·have A9:((la.len:Int) != (lb.len:Int)) = true:=by simp;omega
  have HL:=Lib.hid hl;clear hl;go_enter Tryz.func55,Tryz.ntmps55;go_wp2_with fail;go_ret;exact ⟨ai (E9 HL.out).symm,Below.refl _ _⟩
theorem Fa (n:Nat):∀ (la lb:PL) (a b:Option Addr) (ca cb:Nat) (w:World),la.size < n→gJ w a ca la→gJ w b cb lb →
  Calls Tryz.prog 33 #[.slice a la.len ca,.slice b lb.len cb] w fun e w'=>e = .returned (.bool (same la lb))∧Below w.heap.size w w':=by
 induction n with
 | zero=>intro _ _ _ _ _ _ _ h;omega
 | succ n ih =>
  intro la lb a b ca cb w hn lI qa;have HE:=Lib.hid (RJ la lb a b ca cb w lI qa (fun f g a b ca cb w h=>ih f g a b ca cb w (by omega)));clear ih lI qa;go_enter Tryz.func33,Tryz.ntmps33;go_wp2_with (go_at_call 55;refine (HE.out).mono ?_;rintro e w' ⟨rfl,hb⟩);go_ret;exact ⟨rfl,by assumption⟩
end Pt
end Go.Proofs.YtckakkeejekibaaGreatDoor
namespace Go.Proofs.YtckakkeejekibaaGreatDoor
open Go.RowKit Go.Sort
namespace Pt
open j6
namespace PL
def app:PL→PL→PL
 | nil,m=>m
 | cons k q t o f r,m=>cons k q t o f (app r m)
theorem yB:∀ (l m:PL),(app l m).len = l.len + m.len
 | nil,m=>by simp [app,len]
 | cons _ _ _ _ _ r,m=>by simp only [app,len,yB r m];omega
theorem KC:∀ l:PL,app l nil = l
 | nil=>rfl
 | cons _ _ _ _ _ r=>by simp only [app,KC r]
theorem wO:∀ l m n:PL,app (app l m) n = app l (app m n)
 | nil,_,_=>rfl
 | cons _ _ _ _ _ r,m,n=>by simp only [app,wO r m n]
end PL
def wP (w:World):PL→List Value→Prop
 | .nil,xs=>xs = []
 | .cons k q t o f r,xs=>∃ a cap ys,xs = .int .i64 k :: .bool q :: .string t :: .string o :: .slice a f.len cap :: ys∧t.size≤R∧o.size≤R∧gJ w a cap f∧wP w r ys
theorem wP.at {w:World} {b:Nat}:∀ {l:PL} {xs:List Value} {o:Nat},wP w l xs→(∀ j u,xs[j]? = some u→w.cell? ⟨b,o + j,none⟩ = some u)→At w b o l
 | .nil,_,_,_,_=>trivial
 | .cons k q t p f r,_,o,⟨a,cap,ys,hx,h1,h2,h3,h⟩,hc=>by
  subst hx;refine ⟨⟨hc 0 _ rfl,hc 1 _ rfl,hc 2 _ rfl,hc 3 _ rfl,h1,h2⟩,⟨a,cap,hc 4 _ rfl,h3.1,h3.2.1,h3.2.2⟩,wP.at h fun j u hu=>?_⟩;have:=hc (j + 5) u (by simpa using hu);rwa [show o + (j + 5) = o + 5 + j by omega] at this
theorem Fb {w:World} {base:Nat} {v:Value} {l:PL} {xs:List Value} (h:w.ownsRow base 75 5 v l.len xs) (hc:wP w l xs) (hR:l.len≤R):∃ a cap,v = .slice a l.len cap∧gJ w a cap l:=by
 rcases h.2 with ⟨rfl,hn⟩ | ⟨g,cap,cur,rfl,hb,hg,Oz,_⟩
 ·have:l = .nil:=by
   cases l with
   | nil=>rfl
   | cons=>simp [PL.len] at hn
  subst this;exact ⟨none,0,rfl,Nat.le_refl _,Nat.zero_le _,.inl rfl⟩
 ·refine ⟨_,cap,rfl,Oz,hR,.inr ⟨g,0,rfl,hc.at fun j u hu=>?_⟩⟩;have:=h.cells (g:=g) rfl j u hu;rwa [Go.WideShapes.add_plain] at this
end Pt
end Go.Proofs.YtckakkeejekibaaGreatDoor
