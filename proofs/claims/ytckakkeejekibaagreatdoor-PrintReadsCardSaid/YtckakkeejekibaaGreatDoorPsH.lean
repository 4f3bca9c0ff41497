/- What is asked of a token; word, name; enter, leave. -/
import Derived.Test.YtckakkeejekibaaGreatDoorPsE
set_option maxHeartbeats 1600000
set_option maxRecDepth 100000
namespace Go.Proofs.YtckakkeejekibaaGreatDoor
open Go.RowKit Go.Sort
namespace Ps
open j6 Pt Tr Sp Lx
theorem CB (S:Nat→Prop) (pb:Nat) (s:ByteArray) (o:Tok) (d:Nat) (w:World) (h:jl S w pb s o d) (hs:s.size≤400000) :
  Calls Tryz.prog 189 #[.pointer (some ⟨pb,0,none⟩)] w fun e w'=>e = .returned (.bool (iT o))∧Below w.heap.size w w':=by
 obtain ⟨a,cap,hr,hl⟩:=h.ex;have c1:=dA hr;have c6:=fU hr;have jY:=h.ok.text hs;have HN:=kq fun w'=>j6.jq (aT o) w' (by omega);clear hr hl h jY hs
 by_cases hk:o.k = 1
 ·have wC:((o.k:Int) == 1) = true:=by rw [hk];rfl
  have hn:iT o = bV (aT o).data.toList:=by simp [iT,hk]
  rw [hn];clear hk hn;go_enter Tryz.func189,Tryz.ntmps189;go_wp2_with fail;refine (HN.out _).mono ?_;rintro e w1 ⟨rfl,rfl⟩;go_wp2_with fail;go_ret;exact ⟨rfl,Below.refl _ _⟩
 ·have wC:((o.k:Int) == 1) = false:=by rw [beq_eq_false_iff_ne];omega
  have hn:iT o = false:=by simp [iT,hk]
  rw [hn];clear hk hn;go_enter Tryz.func189,Tryz.ntmps189;go_wp2_with fail;go_ret;exact ⟨rfl,Below.refl _ _⟩
theorem Am (S:Nat→Prop) (pb:Nat) (s:ByteArray) (o:Tok) (d:Nat) (w:World) (h:jl S w pb s o d) :
  Calls Tryz.prog 96 #[.pointer (some ⟨pb,0,none⟩)] w fun e w'=>e = .returned (.bool (gF o))∧Below w.heap.size w w':=by
 obtain ⟨a,cap,hr,hl⟩:=h.ex;have c1:=dA hr;have c6:=fU hr;have HN:=kq fun w'=>qb (aT o) w';clear hr hl h
 by_cases hk:o.k = 1
 ·have wC:((o.k:Int) == 1) = true:=by rw [hk];rfl
  have hn:gF o = !bF (aT o).data.toList:=by simp [gF,hk]
  rw [hn];clear hk hn;go_enter Tryz.func96,Tryz.ntmps96;go_wp2_with fail;refine (HN.out _).mono ?_;rintro e w1 ⟨rfl,rfl⟩;go_wp2_with fail;go_ret;exact ⟨rfl,Below.refl _ _⟩
 ·have wC:((o.k:Int) == 1) = false:=by rw [beq_eq_false_iff_ne];omega
  have hn:gF o = false:=by simp [gF,hk]
  rw [hn];clear hk hn;go_enter Tryz.func96,Tryz.ntmps96;go_wp2_with fail;go_ret;exact ⟨rfl,Below.refl _ _⟩
theorem CE (S:Nat→Prop) (pb:Nat) (s:ByteArray) (o:Tok) (d:Nat) (w:World) (h:jl S w pb s o d) :
  Calls Tryz.prog 97 #[.pointer (some ⟨pb,0,none⟩)] w fun e w'=>e = .returned (.bool (lg o))∧Below w.heap.size w w':=by
 have HS:=kq (lm S pb s o d nX w h (by decide));clear h;go_enter Tryz.func97,Tryz.ntmps97;go_wp2_with fail;refine HS.out.mono ?_;rintro e w1 ⟨rfl,hb⟩;go_wp2_with fail;go_ret;exact ⟨rfl,hb⟩
theorem uP (S:Nat→Prop) (pb:Nat) (s:ByteArray) (o:Tok) (d:Nat) (w:World) (h:jl S w pb s o d) :
  Calls Tryz.prog 53 #[.pointer (some ⟨pb,0,none⟩)] w fun e w'=>e = .returned (.bool (dG o))∧Below w.heap.size w w':=by
 have HA:=kq (Am S pb s o d w h);have HB:=kq fun w' (hb:Below w.heap.size w w')=>CE S pb s o d w' (h.below hb);have HC:=kq fun w' (hb:Below w.heap.size w w')=>lm S pb s o d [⟨#[33]⟩] w' (h.below hb) (by decide);clear h;unfold dG;generalize gF o = A at HA ⊢
 generalize lg o = B at HB ⊢
 generalize bu [⟨#[33]⟩] o = C at HC ⊢
 go_enter Tryz.func53,Tryz.ntmps53;go_wp2_with fail;refine HA.out.mono ?_;rintro e w1 ⟨rfl,aP⟩;have iR:=kq aP;clear aP;cases A
 ·go_wp2_with fail;refine (HB.out _ iR.out).mono ?_;rintro e w2 ⟨rfl,d9⟩;have kR:=kq (ak iR.out d9);clear d9;cases B
  ·go_wp2_with fail;refine (HC.out _ kR.out).mono ?_;rintro e w3 ⟨rfl,hb3⟩;have UN:=kq (ak kR.out hb3);clear hb3;go_wp2_with fail;go_ret;exact ⟨rfl,UN.out⟩
  ·go_wp2_with fail;go_ret;exact ⟨rfl,kR.out⟩
 ·go_wp2_with fail;go_ret;exact ⟨rfl,iR.out⟩
def UO (S:Nat→Prop) (w:World) (v:Value) (l:PL):Prop:=∃ a cap,v = .slice a l.len cap∧cu S w a cap l
def CF (_:Nat→Prop) (_:World) (v:Value) (t:ByteArray):Prop:=v = .string t
theorem VM.text:VM CF:=fun _ _ _ _ _ _ h=>h
theorem vS (S:Nat→Prop) (pb:Nat) (s:ByteArray) (hs:s.size≤400000) (o:Tok) (d:Nat) (w:World) (h:jl S w pb s o d) :
  Calls Tryz.prog 210 #[.pointer (some ⟨pb,0,none⟩)] w (Does S pb s d w UO (gV s o)):=by
 obtain ⟨a,cap,hr,hl⟩:=h.ex;have c1:=dA hr;have c4:=dS hr;have HL:=kq hl;have H:=kq h;have hle:=hl.lies.le
 by_cases hk:o.k = 1
 ·have wC:((o.k:Int) != 1) = false:=by simp [hk]
  have hn:=jM S pb s hs o d w h;have hw:gV s o = (dL s o).bind fun _ p=>.ok o.l p:=if_pos hk;rw [hw];generalize dL s o = r at hn ⊢
  have HN:=kq hn;clear hr hl h hk hw hn;cases r with
  | ok u q =>
   go_enter Tryz.func210,Tryz.ntmps210;go_wp2_with fail;refine HN.out.mono ?_;rintro e w2 ⟨hf,⟨v,rfl,rfl⟩,hp⟩;have hd:Does S pb s d w UO (.ok o.l q) (.returned (.slice a o.l.len cap)) w2:=⟨hf,⟨_,rfl,a,cap,rfl,(HL.out.keep hf.size fun b hb aB=>hf.block b aB fun e=>H.out.ns (e ▸ hb)).mono fun b hb _=>.inl hb⟩,hp⟩;have HD:=kq hd;clear hd hf hp;go_wp2_with fail;go_ret;exact HD.out
  | bad i er =>
   go_enter Tryz.func210,Tryz.ntmps210;go_wp2_with fail;refine HN.out.mono ?_;rintro e w2 ⟨hf,rfl⟩;go_wp2_with fail;exact ⟨rfl,hf,rfl⟩
 ·have wC:((o.k:Int) != 1) = true:=by simp;omega
  have hw:gV s o = .bad o.i 1:=if_neg hk;have HW:=kq (cZ S pb s o d 1 w h);rw [hw];clear hr hl h hk hw;go_enter Tryz.func210,Tryz.ntmps210;go_wp2_with fail;refine HW.out.mono ?_;rintro e w2 ⟨rfl,hb⟩;go_wp2_with fail;exact ⟨rfl,jU.of_below hb,rfl⟩
theorem jq (S:Nat→Prop) (pb:Nat) (s:ByteArray) (hs:s.size≤400000) (o:Tok) (d:Nat) (w:World) (h:jl S w pb s o d) :
  Calls Tryz.prog 213 #[.pointer (some ⟨pb,0,none⟩)] w (Does S pb s d w CF (mI s o)):=by
 obtain ⟨a,cap,hr,hl⟩:=h.ex;have c6:=fU hr;have hnm:=CB S pb s o d w h hs;have hn:=fun w' (hb:Below w.heap.size w w')=>jM S pb s hs o d w' (h.below hb);have H:=kq h;unfold mI;generalize iT o = B at hnm ⊢
 have HM:=kq hnm;generalize dL s o = r at hn ⊢
 have HN:=kq hn;have HW:=kq fun w' (hb:Below w.heap.size w w')=>cZ S pb s o d 1 w' (h.below hb);have HC:=kq c6;clear hr hl h hnm hn c6
 match B,r with
 | false,r =>
  show Calls _ _ _ _ (Does S pb s d w CF (.bad o.i 1));go_enter Tryz.func213,Tryz.ntmps213;go_wp2_with fail;refine HM.out.mono ?_;rintro e w1 ⟨rfl,aP⟩;have iR:=kq aP;clear aP;go_wp2_with fail;refine (HW.out _ iR.out).mono ?_;rintro e w2 ⟨rfl,hb⟩;go_wp2_with fail;exact ⟨rfl,jU.of_below (ak iR.out hb),rfl⟩
 | true,.bad i er =>
  show Calls _ _ _ _ (Does S pb s d w CF (.bad i er));go_enter Tryz.func213,Tryz.ntmps213;go_wp2_with fail;refine HM.out.mono ?_;rintro e w1 ⟨rfl,aP⟩;have iR:=kq aP;have c6:=cell_below aP HC.out;clear aP;go_wp2_with fail;refine (HN.out _ iR.out).mono ?_;rintro e w2 ⟨hf,rfl⟩;go_wp2_with fail;exact ⟨rfl,(jU.of_below iR.out).trans hf,rfl⟩
 | true,.ok u q =>
  show Calls _ _ _ _ (Does S pb s d w CF (.ok (aT o) q));go_enter Tryz.func213,Tryz.ntmps213;go_wp2_with fail;refine HM.out.mono ?_;rintro e w1 ⟨rfl,aP⟩;have iR:=kq aP;have c6:=cell_below aP HC.out;clear aP;go_wp2_with fail;refine (HN.out _ iR.out).mono ?_;rintro e w2 ⟨hf,⟨v,rfl,rfl⟩,hp⟩;have hd:Does S pb s d w1 CF (.ok (aT o) q) (.returned (.string (aT o))) w2:=⟨hf,⟨_,rfl,rfl⟩,hp⟩;have HD:=kq (H.out.after VM.text iR.out hd);clear hd hf hp;go_wp2_with fail;go_ret;exact HD.out
def l9 (s:ByteArray) (d:Nat) (o:Tok):Rs Unit:=if d = 200 then .bad o.i 2 else dL s o
theorem PRow.depth {w:World} {pb:Nat} {s:ByteArray} {o:Tok} {a:Option Addr} {cap d:Nat} (h:PRow w pb s o a cap d) (d':Nat):PRow (w.setCell ⟨pb,8,none⟩ (.int .i64 d')) pb s o a cap d':=heap_setCell_same _ _ 8 _ _ (.int .i64 d') h
theorem jl.depth {S:Nat→Prop} {w:World} {pb:Nat} {s:ByteArray} {o:Tok} {d:Nat} (h:jl S w pb s o d) (d':Nat):jl S (w.setCell ⟨pb,8,none⟩ (.int .i64 d')) pb s o d':=by
 obtain ⟨⟨a,cap,hr,hl⟩,h1,h2,h3,h4,m,hm⟩:=h;have hz:(w.setCell ⟨pb,8,none⟩ (.int .i64 d')).heap.size = w.heap.size:=by simp
 exact ⟨⟨a,cap,hr.depth d',hl.keep (by rw [hz];exact vi _) fun b hb aB=>(jU.set (pb:=pb) w 8 (.int .i64 d')).block b aB fun e=>h1 (e ▸ hb)⟩,h1,fun b hb=>by rw [hz];exact h2 b hb,h3,h4,m,(World.cell?_of_block (w:=w) (a:=⟨0,0,none⟩) ((jU.set (pb:=pb) w 8 (.int .i64 d')).block _ (h2 _ h4) fun e=>h1 (e ▸ h4))).trans hm⟩
theorem CG (S:Nat→Prop) (pb:Nat) (s:ByteArray) (hs:s.size≤400000) (o:Tok) (d:Nat) (hd:d≤200) (w:World) (h:jl S w pb s o d) :
  Calls Tryz.prog 193 #[.pointer (some ⟨pb,0,none⟩)] w (Does S pb s (d + 1) w uj (l9 s d o)):=by
 obtain ⟨a,cap,hr,hl⟩:=h.ex;have c8:=zc8 hr;have f8:=zf 8 hr;have H:=kq h
 by_cases hk:d = 200
 ·have wC:((d:Int) == 200) = true:=by rw [hk];rfl
  have hw:l9 s d o = .bad o.i 2:=if_pos hk;have HW:=kq (cZ S pb s o d 2 w h);rw [hw];clear hr hl h hk hw;go_enter Tryz.func193,Tryz.ntmps193;go_wp2_with fail;refine HW.out.mono ?_;rintro e w2 ⟨rfl,hb⟩;go_wp2_with fail;exact ⟨rfl,jU.of_below hb,rfl⟩
 ·have wC:((d:Int) == 200) = false:=by rw [beq_eq_false_iff_ne];omega
  have hw:l9 s d o = dL s o:=if_neg hk;have LW:IntKind.i64.wrap ((d:Int) + 1) = ((d + 1:Nat):Int):=by rw [IntKind.wrap_i64];omega
  have hn:=jM S pb s hs o (d + 1) _ (h.depth (d + 1));have bi:=jU.set (pb:=pb) w 8 (.int .i64 ((d + 1:Nat):Int));have hz:(w.setCell ⟨pb,8,none⟩ (.int .i64 ((d + 1:Nat):Int))).heap.size = w.heap.size:=by simp
  rw [hw];generalize dL s o = r at hn ⊢
  have HN:=kq hn;have Rn:=kq bi;have HZ:=kq hz;clear hr hl h hk hw hn bi hz;cases r with
  | ok u q =>
   go_enter Tryz.func193,Tryz.ntmps193;go_wp2_with fail;refine HN.out.mono ?_;rintro e w2 ⟨hf,⟨v,rfl,rfl⟩,hp⟩;have lT:Does S pb s (d + 1) _ uj (.ok () q) (.returned (.tuple #[])) w2:=⟨hf,⟨_,rfl,rfl⟩,hp⟩;have HD:=kq (lT.after VM.unit H.out.ns H.out.lt H.out.pb Rn.out fun b hb=>.inl hb);clear lT hf hp;go_wp2_with fail;go_end0;exact HD.out
  | bad i er =>
   go_enter Tryz.func193,Tryz.ntmps193;go_wp2_with fail;refine HN.out.mono ?_;rintro e w2 ⟨hf,rfl⟩;go_wp2_with fail;exact ⟨rfl,Rn.out.trans hf,rfl⟩
theorem Nc (S:Nat→Prop) (pb:Nat) (s:ByteArray) (o:Tok) (d:Nat) (hd:d≤200) (w:World) (h:jl S w pb s o (d + 1)) :
  Calls Tryz.prog 199 #[.pointer (some ⟨pb,0,none⟩)] w fun e w'=>e = .returned (.tuple #[])∧jU pb w w'∧w'.heap.size = w.heap.size∧jl S w' pb s o d:=by
 obtain ⟨a,cap,hr,hl⟩:=h.ex;have c8:=zc8 hr;have f8:=zf 8 hr;have H:=kq (h.depth d);have LW:IntKind.i64.wrap (((d + 1:Nat):Int) - 1) = (d:Int):=by rw [IntKind.wrap_i64];omega
 clear hr hl h;go_enter Tryz.func199,Tryz.ntmps199;go_wp2_with fail;go_end0;exact ⟨rfl,jU.set _ _ _,by simp,H.out⟩
end Ps
namespace Ps
open j6 Pt Tr Sp Lx
def KS (S:Nat→Prop) (w:World) (Q:World→Prop):Prop:=∀ w2:World,w.heap.size≤w2.heap.size→(∀ b,S b→b < w.heap.size→w2.heap[b]? = w.heap[b]?)→Q w2
theorem KS.now {S:Nat→Prop} {w:World} {Q:World→Prop} (h:KS S w Q):Q w:=h w (vi _) fun _ _ _=>rfl
theorem KS.to {S S':Nat→Prop} {w w':World} {Q:World→Prop} (h:KS S w Q) (hs:w.heap.size≤w'.heap.size) (hk:∀ b,S b→b < w.heap.size→w'.heap[b]? = w.heap[b]?) (hS:∀ b,S b→b < w.heap.size→S' b):KS S' w' Q :=
 fun w2 h2 rU=>h w2 (by omega) fun b hb aB=>(rU b (hS b hb aB) (by omega)).trans (hk b hb aB)
theorem KS.imp {S:Nat→Prop} {w:World} {Q Q':World→Prop} (h:KS S w Q) (hq:∀ w2,Q w2→Q' w2):KS S w Q':=fun w2 h2 hk=>hq _ (h w2 h2 hk)
structure Elem {T:Type} (k:Nat) (E:(Nat→Prop)→World→List Value→T→Prop) (Q:World→Nat→Nat→T→Prop):Prop where
 len:∀ {S:Nat→Prop} {w:World} {vs:List Value} {t:T},E S w vs t→vs.length = k
 tq:∀ {S S':Nat→Prop} {w w':World} {vs:List Value} {t:T},E S w vs t→w.heap.size≤w'.heap.size→(∀ b,S b→b < w.heap.size→w'.heap[b]? = w.heap[b]?)→(∀ b,S b→b < w.heap.size→S' b)→E S' w' vs t
 cell:∀ {S:Nat→Prop} {w:World} {vs:List Value} {t:T} {b o:Nat},E S w vs t→(∀ j v,vs[j]? = some v→w.cell? ⟨b,o + j,none⟩ = some v)→Q w b o t
def dQ {T:Type} (E:(Nat→Prop)→World→List Value→T→Prop) (S:Nat→Prop) (w:World):List T→List Value→Prop
 | [],xs=>xs = []
 | t :: r,xs=>∃ vs ys,xs = vs ++ ys∧E S w vs t∧dQ E S w r ys
section
variable {T:Type} {k:Nat} {E:(Nat→Prop)→World→List Value→T→Prop} {Q:World→Nat→Nat→T→Prop}
theorem dQ.to (hE:Elem k E Q) {S S':Nat→Prop} {w w':World} (hs:w.heap.size≤w'.heap.size) (hk:∀ b,S b→b < w.heap.size→w'.heap[b]? = w.heap[b]?) (hS:∀ b,S b→b < w.heap.size→S' b):∀ {l:List T} {xs:List Value},dQ E S w l xs→dQ E S' w' l xs
 | [],_,h=>h
 | _ :: _,_,⟨vs,ys,hx,h1,h2⟩=>⟨vs,ys,hx,hE.tq h1 hs hk hS,dQ.to hE hs hk hS h2⟩
theorem dQ.snoc {S:Nat→Prop} {w:World} {t:T} {vs:List Value} (ht:E S w vs t):∀ {l:List T} {xs:List Value},dQ E S w l xs→dQ E S w (l ++ [t]) (xs ++ vs)
 | [],_,h=>by cases h;exact ⟨vs,[],by simp,ht,rfl⟩
 | _ :: _,_,⟨us,ys,hx,h1,h2⟩=>⟨us,ys ++ vs,by rw [hx,zq],h1,dQ.snoc ht h2⟩
theorem dQ.chain (hE:Elem k E Q) {S:Nat→Prop} {w:World} {b:Nat}:∀ {l:List T} {xs:List Value} {o:Nat},dQ E S w l xs→(∀ j u,xs[j]? = some u→w.cell? ⟨b,o + j,none⟩ = some u)→qI k (Q w) b o l
 | [],_,_,_,_=>trivial
 | _ :: _,_,o,⟨vs,ys,hx,h1,h2⟩,hc=>by
  have hl:=hE.len h1;subst hx;refine ⟨hE.cell h1 fun j v hv=>hc j v ?_,dQ.chain hE h2 fun j u hu=>?_⟩
  ·rw [List.getElem?_append_left (List.getElem?_eq_some_iff.1 hv).1];exact hv
  ·have:=hc (k + j) u (by rw [List.getElem?_append_right (by omega),hl,Nat.add_sub_cancel_left];exact hu);rwa [show o + (k + j) = o + k + j by omega] at this
structure Row (E:(Nat→Prop)→World→List Value→T→Prop) (k:Nat) (ty:TypeId) (base:Nat) (K:Nat→Prop) (w:World) (v:Value) (l:List T):Prop where
 ex:∃ xs,w.ownsRow base ty k v l.length xs∧dQ E K w l xs
 out:∀ g,v.ownBlock = some g→¬ K g
theorem Row.nil (ty:TypeId) (base:Nat) (K:Nat→Prop) (w:World):Row E k ty base K w (.slice none 0 0) []:=⟨⟨[],World.ownsRow_nil _ _ _ _,rfl⟩,fun _ h=>by cases h⟩
theorem Row.lt {ty:TypeId} {base:Nat} {K:Nat→Prop} {w:World} {v:Value} {l:List T} (h:Row E k ty base K w v l):∀ g,v.ownBlock = some g→base≤g∧g < w.heap.size:=by
 obtain ⟨xs,h1,_⟩:=h.ex;exact fun g hg=>h1.lt g hg
theorem Row.to (hE:Elem k E Q) {ty:TypeId} {base:Nat} {K K':Nat→Prop} {w w':World} {v:Value} {l:List T} (h:Row E k ty base K w v l) (hs:w.heap.size≤w'.heap.size) (hk:∀ b,(K b∨v.ownBlock = some b)→b < w.heap.size→w'.heap[b]? = w.heap[b]?)
  (hK:∀ b,K b→b < w.heap.size→K' b) (ho:∀ g,v.ownBlock = some g→¬ K' g):Row E k ty base K' w' v l:=by
 obtain ⟨⟨xs,h1,h2⟩,_⟩:=h;exact ⟨⟨xs,kg h1 fun g hg aB=>hk g (.inr hg) aB,dQ.to hE hs (fun b hb aB=>hk b (.inl hb) aB) hK h2⟩,ho⟩
theorem Row.more (hE:Elem k E Q) {ty:TypeId} {base:Nat} {K:Nat→Prop} {w w':World} {v:Value} {l:List T} {xs vs:List Value} {t:T} {g cap:Nat} (hl:dQ E K w l xs) (ho:∀ g,v.ownBlock = some g→¬ K g) (ht:E K w vs t) (hK:∀ b,K b→b < w.heap.size)
  (dR:w'.ownsRow base ty k (.slice (some ⟨g,0,none⟩) (l.length + 1) cap) (l.length + 1) (xs ++ vs)) (hg:w.grownBy w' v.ownBlock) (gT:v.ownBlock = some g∨g = w.heap.size):Row E k ty base K w' (.slice (some ⟨g,0,none⟩) (l.length + 1) cap) (l ++ [t]):=by
 have hk:∀ b,K b→b < w.heap.size→w'.heap[b]? = w.heap[b]?:=fun b hb aB=>hg.block b aB fun e=>ho b e.symm hb;refine ⟨⟨xs ++ vs,by rw [zI,List.length_singleton];exact dR,dQ.snoc (hE.tq ht hg.size hk fun b hb _=>hb) (dQ.to hE hg.size hk (fun b hb _=>hb) hl)⟩,fun g' Ep=>?_⟩;have:g = g':=by simpa [Value.ownBlock] using Ep
 subst this;rcases gT with gT | gT
 ·exact ho g gT
 ·intro hb;have:=hK g hb;omega
theorem Row.sl (hE:Elem k E Q) {ty:TypeId} {base:Nat} {K:Nat→Prop} {w:World} {v:Value} {l:List T} (h:Row E k ty base K w v l) (hl:l.length≤R):∃ a cap,v = .slice a l.length cap∧KS (fun b=>K b∨v.ownBlock = some b) w fun w2=>Sl k (Q w2) a cap l:=by
 obtain ⟨⟨xs,h1,h2⟩,_⟩:=h;have LQ:∃ a cap,v = .slice a l.length cap∧l.length≤cap∧(l = []∨∃ g,a = some ⟨g,0,none⟩):=by
  rcases h1.2 with ⟨rfl,h0⟩ | ⟨g,cap,cur,rfl,_,_,h3,_⟩
  ·exact ⟨none,0,by rw [h0],by omega,.inl (List.length_eq_zero_iff.1 h0)⟩
  ·exact ⟨_,cap,rfl,h3,.inr ⟨g,rfl⟩⟩
 obtain ⟨a,cap,rfl,hc,ha⟩:=LQ;refine ⟨a,cap,rfl,fun w2 hs hk=>⟨hc,hl,ha.imp id ?_⟩⟩;rintro ⟨g,rfl⟩;refine ⟨g,0,rfl,dQ.chain hE (dQ.to hE hs (fun b hb aB=>hk b (.inl hb) aB) (fun b hb _=>hb) h2) fun j u hu=>?_⟩;have hg:=(h1.lt g rfl).2;have:=h1.cells (g:=g) rfl j u hu;rw [Go.WideShapes.add_plain] at this;exact (World.cell?_of_block (w:=w) (a:=⟨g,_,none⟩) (hk g (.inr rfl) hg)).trans this
end
theorem jl.keep {K:Nat→Prop} {w w':World} {pb:Nat} {s:ByteArray} {o:Tok} {d:Nat} (h:jl K w pb s o d) (hs:w.heap.size≤w'.heap.size) (hk:∀ b,(K b∨b = pb)→b < w.heap.size→w'.heap[b]? = w.heap[b]?):jl K w' pb s o d:=by
 have Ou:=h.pb;obtain ⟨⟨a,cap,hr,hl⟩,h1,h2,h3,h4,m,hm⟩:=h;exact ⟨⟨a,cap,(hk pb (.inr rfl) Ou).trans hr,hl.keep hs fun b hb aB=>hk b (.inl hb) aB⟩,h1,fun b hb=>kd (h2 b hb) hs,h3,h4,m,(World.cell?_of_block (w:=w) (a:=⟨0,0,none⟩) (hk _ (.inl h4) (h2 _ h4))).trans hm⟩
theorem jU.grown {pb:Nat} {w w2 w3:World} {v:Value} (h:jU pb w w2) (hg:w2.grownBy w3 v.ownBlock) (hl:∀ g,v.ownBlock = some g→w.heap.size≤g):jU pb w w3 :=
 ⟨hg.os.trans h.os,hg.tape.trans h.tape,hg.output.trans h.output,Nat.le_trans h.size hg.size,fun b hb hn=>(hg.block b (kd hb h.size) fun e=>by have:=hl b e.symm;omega).trans (h.block b hb hn)⟩
def EW (S:Nat→Prop) (w:World) (vs:List Value) (l:PL):Prop:=∃ a cap,vs = [.slice a l.len cap]∧cu S w a cap l
def EA (S:Nat→Prop) (w:World) (vs:List Value) (x:ByteArray × PL):Prop:=∃ a cap,vs = [.string x.1,.slice a x.2.len cap]∧x.1.size≤R∧cu S w a cap x.2
def EB (_:Nat→Prop) (_:World) (vs:List Value) (x:Bool):Prop:=vs = [.bool x]
theorem iw:Elem 1 EW PW where
 len:=fun ⟨a,cap,h,_⟩=>by rw [h];rfl
 tq:=fun ⟨a,cap,h,hl⟩ hs hk hS=>⟨a,cap,h,hl.to hs hk hS⟩
 cell:=fun ⟨a,cap,h,hl⟩ hc=>⟨a,cap,hc 0 _ (by rw [h];rfl),hl.lies⟩
theorem CJ:Elem 2 EA PA where
 len:=fun ⟨a,cap,h,_⟩=>by rw [h];rfl
 tq:=fun ⟨a,cap,h,hn,hl⟩ hs hk hS=>⟨a,cap,h,hn,hl.to hs hk hS⟩
 cell:=fun ⟨a,cap,h,hn,hl⟩ hc=>⟨hc 0 _ (by rw [h];rfl),hn,a,cap,hc 1 _ (by rw [h];rfl),hl.lies⟩
theorem x9:Elem 1 EB PB where
 len:=fun h=>by rw [h];rfl
 tq:=fun h _ _ _=>h
 cell:=fun h hc=>hc 0 _ (by rw [h];rfl)
def Ov {T:Type} (k:Nat) (Q:World→Nat→Nat→T→Prop) (S:Nat→Prop) (w:World) (v:Value) (l:List T):Prop:=∃ a cap,v = .slice a l.length cap∧KS S w fun w2=>Sl k (Q w2) a cap l
structure On {T:Type} (E:(Nat→Prop)→World→List Value→T→Prop) (k:Nat) (ty:TypeId) (S:Nat→Prop) (pb:Nat) (s:ByteArray) (d:Nat) (w wr:World) (q:Tok) (v:Value) (l:List T):Prop where
 ex:∃ K:Nat→Prop,jl K wr pb s q d∧Row E k ty w.heap.size K wr v l∧∀ b,K b→Up S w wr b
 fr:jU pb w wr
structure Mid {T:Type} (E:(Nat→Prop)→World→List Value→T→Prop) (k:Nat) (ty:TypeId) (S:Nat→Prop) (pb:Nat) (s:ByteArray) (d:Nat) (w w2:World) (p:Tok) (v:Value) (l:List T) (xs vs:List Value) (t:T) (K:Nat→Prop):Prop where
 hp:jl K w2 pb s p d
 cells:dQ E K w2 l xs
 own:w2.ownsRow w.heap.size ty k v l.length xs
 out:∀ g,v.ownBlock = some g→¬ K g
 e:E K w2 vs t
 sub:∀ b,K b→Up S w w2 b
 fr:jU pb w w2
 pb:pb < w.heap.size
section
variable {T:Type} {k:Nat} {E:(Nat→Prop)→World→List Value→T→Prop} {Q:World→Nat→Nat→T→Prop} {ty:TypeId} {S K:Nat→Prop} {pb d:Nat} {s:ByteArray} {w wr w1 w2 w3:World} {o q p:Tok} {v:Value} {l:List T} {xs vs:List Value} {t:T}
theorem On.start (h:jl S w pb s q d):On E k ty S pb s d w w q (.slice none 0 0) []:=⟨⟨S,h,Row.nil _ _ _ _,fun _ hb=>.inl hb⟩,jU.refl _ _⟩
theorem Mid.of (hE:Elem k E Q) (H:jl S w pb s o d) (au:Row E k ty w.heap.size K wr v l) (hp:jl K wr pb s q d) (hK:∀ b,K b→Up S w wr b) (hf:jU pb w wr) (jT:jU pb wr w1) (ny:jl (Up K wr w1) w1 pb s p d) (he:E (Up K wr w1) w1 vs t) (Z:Obj) :
  ∃ xs,Mid E k ty S pb s d w (w1.alloc Z) p v l xs vs t (Up K wr w1):=by
 have Ou:=H.pb;have aB:=au.lt;have hb:=ax w1 Z;have jJ:∀ g,v.ownBlock = some g→¬ Up K wr w1 g:=fun g hg hu=>hu.elim (au.out g hg) fun hu=>by have:=(aB g hg).2;omega
 have uW:Row E k ty w.heap.size (Up K wr w1) w1 v l:=au.to hE jT.size (fun b hb oG=>jT.block b oG fun e=>by
  subst e;rcases hb with hb | hb
  ·exact hp.ns hb
  ·have:=(aB _ hb).1;omega) (fun b hb _=>.inl hb) jJ
 obtain ⟨xs,h1,h2⟩:=uW.ex;refine ⟨xs,ny.below hb,dQ.to hE hb.size (fun b yV oG=>hb.block b oG) (fun b yV _=>yV) h2,kg h1 fun g _ oG=>hb.block g oG,jJ,hE.tq he hb.size (fun b _ oG=>hb.block b oG) (fun b yV _=>yV),fun b hu=>?_,(hf.trans jT).trans (jU.of_below hb),Ou⟩;have e1:=hf.size;have e2:=jT.size;have e3:=hb.size;rcases hu with hu | hu
 ·rcases hK b hu with hu | hu
  ·exact .inl hu
  ·exact .inr (by omega)
 ·exact .inr (by omega)
theorem Mid.on (hE:Elem k E Q) (h:Mid E k ty S pb s d w w2 p v l xs vs t K) {g cap:Nat} (dR:w3.ownsRow w.heap.size ty k (.slice (some ⟨g,0,none⟩) (l.length + 1) cap) (l.length + 1) (xs ++ vs)) (hg:w2.grownBy w3 v.ownBlock) (gT:v.ownBlock = some g∨g = w2.heap.size) :
  On E k ty S pb s d w w3 p (.slice (some ⟨g,0,none⟩) (l.length + 1) cap) (l ++ [t]):=by
 have WP:∀ g,v.ownBlock = some g→w.heap.size≤g:=fun g Ep=>(h.own.lt g Ep).1;refine ⟨⟨K,h.hp.keep hg.size fun b hb aB=>hg.block b aB fun e=>?_,Row.more hE h.cells h.out h.e h.hp.lt dR hg gT,fun b hb=>(h.sub b hb).imp id fun hb=>by have:=hg.size;omega⟩,jU.grown h.fr hg WP⟩;rcases hb with hb | rfl
 ·exact h.out b e.symm hb
 ·have:=WP _ e.symm;have:=h.pb;omega
theorem On.step (hE:Elem k E Q) (H:jl S w pb s o d) (hp:jl K wr pb s q d) (au:Row E k ty w.heap.size K wr v l) (hK:∀ b,K b→Up S w wr b) (hf:jU pb w wr) (jT:jU pb wr w1) (ny:jl (Up K wr w1) w1 pb s p d):On E k ty S pb s d w w1 p v l:=by
 have Ou:=H.pb;have aB:=au.lt;have jJ:∀ g,v.ownBlock = some g→¬ Up K wr w1 g:=fun g hg hu=>hu.elim (au.out g hg) fun hu=>by have:=(aB g hg).2;omega
 refine ⟨⟨_,ny,au.to hE jT.size (fun b hb oG=>jT.block b oG fun e=>?_) (fun b hb _=>.inl hb) jJ,fun b hu=>?_⟩,hf.trans jT⟩
 ·subst e;rcases hb with hb | hb
  ·exact hp.ns hb
  ·have:=(aB _ hb).1;omega
 ·have e1:=hf.size;have e2:=jT.size;rcases hu with hu | hu
  ·rcases hK b hu with hu | hu
   ·exact .inl hu
   ·exact .inr (by omega)
  ·exact .inr (by omega)
theorem On.done (hE:Elem k E Q) (H:jl S w pb s o d) (h:On E k ty S pb s d w wr q v l) (hl:l.length≤R):Does S pb s d w (Ov k Q) (.ok l q) (.returned v) wr:=by
 obtain ⟨⟨K,hp,au,hK⟩,hf⟩:=h;obtain ⟨a,cap,rfl,hks⟩:=au.sl hE hl;refine ⟨hf,⟨_,rfl,a,cap,rfl,hks.to (vi _) (fun _ _ _=>rfl) fun b hb _=>?_⟩,hp.mono hK (Up.out H.ns H.pb) (Up.lt H.lt hf.size)⟩;rcases hb with hb | hb
 ·exact hK b hb
 ·exact .inr (au.lt b hb)
end
end Ps
namespace Ps
open j6 Pt Tr Sp Lx
theorem xL:(Tryz.prog.info? 39).map (fun i=>(i.zero,i.size,i.bytes)) = some (some (.slice none 0 0),1,24):=by kernel_rfl
theorem tN {s:ByteArray} {o q:Tok} {x:PL} (ho:dz s o) (h:gV s o = .ok x q):mu s q < mu s o∧dz s q:=by
 unfold gV at h;split at h
 ·rename_i h1;refine nH ho (by omega) ?_;cases hn:dL s o with
  | ok u p=>rw [hn] at h;simp only [Rs.bind] at h;injection h with h1 h2;rw [h2]
  | bad i e=>rw [hn] at h;cases h
 ·cases h
theorem CK (S:Nat→Prop) (pb:Nat) (s:ByteArray) (hs:s.size≤400000) (o:Tok) (d:Nat) (w:World) (h:jl S w pb s o d) :
  Calls Tryz.prog 191 #[.pointer (some ⟨pb,0,none⟩)] w (Does S pb s d w (Ov 1 PW) (lc s o)):=by
 obtain ⟨i0,hi,qd,kQ,lM⟩:=info_parts xL;have H:=kq h;have HI:=kq hi;have ym:=kq qd;have o9:=kq kQ;have lD:=kq lM;clear h hi qd kQ lM;go_enter Tryz.func191,Tryz.ntmps191;go_wp2_with fail
 go_loopw [3] (fun v wr=>∃ (n:Nat) (q:Tok) (l:List PL),wordsN s n l q = lc s o∧mu s q < n∧l.length + mu s q≤F s∧On EW 1 39 S pb s d w wr q v l) (fun v wr=>TA s pb wr)
 case atStart=>exact ⟨F s,o,[],rfl,tX s o,by have:=tX s o;simp only [zZ];omega,On.start H.out⟩
 case round =>
  obtain ⟨n,q,l,hn,yP,Mr,⟨K,hp,au,hK⟩,hf⟩:=hrel;obtain ⟨n,rfl⟩:∃ m,n = m + 1:=⟨n - 1,by omega⟩;have Al:=hp.mW;obtain ⟨a,cap,hr,hl⟩:=hp.ex;have c1:=dA hr;have hw:=vS K pb s hs q d wr hp;have XD:=fun x p=>tN (s:=s) (o:=q) (q:=p) (x:=x) hp.ok;have HN:=kq hn;have HF:=kq hf;have HP:=kq hp;have Ik:=kq Al;have TB:=kq yP;have UQ:=kq Mr;have aY:=kq au;have HK:=kq hK;clear hn hf hp Al yP Mr au hK hr hl
  by_cases hk:q.k = 1
  ·have wC:((q.k:Int) == 1) = true:=by rw [hk];rfl
   have hn:((gV s q).bind fun x o=>wordsN s n (l ++ [x]) o) = lc s o:=by rw [← HN.out,wordsN,if_pos hk]
   have y8:=kq hn;clear hn HN hk;generalize gV s q = r at hw XD y8;have HW:=kq hw;have HWM:=kq XD;clear hw XD;cases r with
   | bad i er =>
    go_wp2_with fail;refine HW.out.mono ?_;rintro e w2 ⟨tV,rfl⟩;have hr:lc s o = .bad i er:=y8.out.symm;have HD:Does S pb s d w (Ov 1 PW) (lc s o) (aA i er) w2:=by rw [hr];exact ⟨HF.out.trans tV,rfl⟩
    clear tV hr;go_wp2_with fail;exact ⟨rfl,HD⟩
   | ok x p =>
    go_wp2_with fail;refine HW.out.mono ?_;rintro e w1 ⟨jT,⟨v,rfl,a1,pW,rfl,mU⟩,ny⟩;obtain ⟨xs,hm⟩:=Mid.of iw H.out aY.out HP.out HK.out HF.out jT ny (vs:=[.slice a1 x.len pW]) ⟨a1,pW,rfl,mU⟩ (.cells #[.slice a1 x.len pW] 39);have HM:=kq hm;have Mr:l.length≤2000100:=by have:=UQ.out;unfold F at this;omega
    have kQ:w.heap.size≤w1.heap.size:=Nat.le_trans HF.out.size jT.size;clear jT ny mU hm;go_wp2_with (at_builtin;refine wpList_append_lies _ rfl (.tmp 10) (.tmp 13) 23 rfl w.heap.size 39 i0 (.slice none 0 0) 1 24 Tryz.underlying23 HI.out ym.out o9.out lD.out rfl (by decide) u3 l.length xs rfl HM.out.own ⟨w1.heap.size,0,none⟩ 1 1 [.slice a1 x.len pW] ?c0 rfl ?c2 ?c3 (by decide) ?c4 ?c5 ?c6 (w1.heap.size + 1) ?c7 ?_)
    case c0=>rfl
    case c2=>exact World.news_of_block (cs:=#[.slice a1 x.len pW]) (t:=39) (fr:=(0,0)) (heap_alloc_new _ _)
    case c3=>simp [Value.oneCell']
    case c4=>unfold maxLen;omega
    case c5=>omega
    case c6=>simp only [zd];omega
    case c7=>simp only [zd]
    intro g gH w3 jm dI gT aB;have ah:=HM.out.on iw jm dI (by simpa only [zd] using gT);have ae:=kq ah;clear ah jm dI gT aB;go_wp2_with fail;go_roundw
    case rel =>
     have hm:=(HWM.out x p rfl).1;have h1:=TB.out;have h2:=UQ.out;exact ⟨n,p,l ++ [x],y8.out,by omega,by rw [zI,List.length_singleton];omega,ae.out⟩
    case measure =>
     have:=(HWM.out x p rfl).1;have e1:=Ik.out;obtain ⟨K2,lF,_⟩:=ae.out.ex;have e2:=lF.mW;omega
  ·have wC:((q.k:Int) == 1) = false:=by rw [beq_eq_false_iff_ne];omega
   have hn:Rs.ok l q = lc s o:=by rw [← HN.out,wordsN,if_neg hk]
   have y8:=kq hn;clear hn HN hk hw XD;go_wp2_with fail;go_ret;rw [← y8.out];exact On.done iw H.out ⟨⟨K,HP.out,aY.out,HK.out⟩,HF.out⟩ (by have:=UQ.out;unfold F at this;unfold R;omega)
end Ps
end Go.Proofs.YtckakkeejekibaaGreatDoor
