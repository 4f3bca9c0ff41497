/- What is asked of a token; word, name; enter, leave. -/
import Derived.Test.YtjmpfihopeohbaaGreatDoorQsE
set_option maxHeartbeats 1600000
set_option maxRecDepth 100000
namespace Go.Proofs.YtjmpfihopeohbaaGreatDoor
open Go.RowKit Go.Sort
namespace Ps
open Cls Pt Tr Sp Lx
theorem named_any (S:Nat→Prop) (pb:Nat) (s:ByteArray) (o:Tok) (d:Nat) (w:World) (h:PAt S w pb s o d) (hs:Pl s) :
  Calls Tryz.prog 189 #[.pointer (some ⟨pb,0,none⟩)] w fun e w'=>e = .returned (.bool (namedB o))∧Below w.heap.size w w':=by
 obtain ⟨a,cap,hr,hl⟩:=h.ex;have c1:=zc1 hr;have c6:=zc6 hr;have htx:=h.ok.text hs.sz;have HN:=Lib.hid fun w'=>Cls.name_any (textF o) w' (by omega);clear hr hl h htx hs
 by_cases hk:o.k = 1
 ·have hk1:((o.k:Int) == 1) = true:=by rw [hk];rfl
  have hn:namedB o = nameL (textF o).data.toList:=by simp [namedB,hk]
  rw [hn];clear hk hn;go_enter Tryz.func189,Tryz.ntmps189;go_wp2_with fail;refine (HN.out _).mono ?_;rintro e w1 ⟨rfl,rfl⟩;go_wp2_with fail;go_ret;exact ⟨rfl,Below.refl _ _⟩
 ·have hk1:((o.k:Int) == 1) = false:=by rw [beq_eq_false_iff_ne];omega
  have hn:namedB o = false:=by simp [namedB,hk]
  rw [hn];clear hk hn;go_enter Tryz.func189,Tryz.ntmps189;go_wp2_with fail;go_ret;exact ⟨rfl,Below.refl _ _⟩
theorem simply_any (S:Nat→Prop) (pb:Nat) (s:ByteArray) (o:Tok) (d:Nat) (w:World) (h:PAt S w pb s o d) :
  Calls Tryz.prog 96 #[.pointer (some ⟨pb,0,none⟩)] w fun e w'=>e = .returned (.bool (simplyB o))∧Below w.heap.size w w':=by
 obtain ⟨a,cap,hr,hl⟩:=h.ex;have c1:=zc1 hr;have c6:=zc6 hr;have HN:=Lib.hid fun w'=>reserved_any (textF o) w';clear hr hl h
 by_cases hk:o.k = 1
 ·have hk1:((o.k:Int) == 1) = true:=by rw [hk];rfl
  have hn:simplyB o = !reservedL (textF o).data.toList:=by simp [simplyB,hk]
  rw [hn];clear hk hn;go_enter Tryz.func96,Tryz.ntmps96;go_wp2_with fail;refine (HN.out _).mono ?_;rintro e w1 ⟨rfl,rfl⟩;go_wp2_with fail;go_ret;exact ⟨rfl,Below.refl _ _⟩
 ·have hk1:((o.k:Int) == 1) = false:=by rw [beq_eq_false_iff_ne];omega
  have hn:simplyB o = false:=by simp [simplyB,hk]
  rw [hn];clear hk hn;go_enter Tryz.func96,Tryz.ntmps96;go_wp2_with fail;go_ret;exact ⟨rfl,Below.refl _ _⟩
theorem opens_any (S:Nat→Prop) (pb:Nat) (s:ByteArray) (o:Tok) (d:Nat) (w:World) (h:PAt S w pb s o d) :
  Calls Tryz.prog 97 #[.pointer (some ⟨pb,0,none⟩)] w fun e w'=>e = .returned (.bool (opensB o))∧Below w.heap.size w w':=by
 have HS:=Lib.hid (sees_row S pb s o d tOpen w h (by decide));clear h;go_enter Tryz.func97,Tryz.ntmps97;go_wp2_with fail;refine HS.out.mono ?_;rintro e w1 ⟨rfl,hb⟩;go_wp2_with fail;go_ret;exact ⟨rfl,hb⟩
theorem begins_any (S:Nat→Prop) (pb:Nat) (s:ByteArray) (o:Tok) (d:Nat) (w:World) (h:PAt S w pb s o d) :
  Calls Tryz.prog 53 #[.pointer (some ⟨pb,0,none⟩)] w fun e w'=>e = .returned (.bool (beginsB o))∧Below w.heap.size w w':=by
 have HA:=Lib.hid (simply_any S pb s o d w h);have HB:=Lib.hid fun w' (hb:Below w.heap.size w w')=>opens_any S pb s o d w' (h.below hb);have HC:=Lib.hid fun w' (hb:Below w.heap.size w w')=>sees_row S pb s o d [⟨#[33]⟩] w' (h.below hb) (by decide);clear h;unfold beginsB;generalize simplyB o = A at HA ⊢
 generalize opensB o = B at HB ⊢
 generalize seesF [⟨#[33]⟩] o = C at HC ⊢
 go_enter Tryz.func53,Tryz.ntmps53;go_wp2_with fail;refine HA.out.mono ?_;rintro e w1 ⟨rfl,hb1⟩;have HB1:=Lib.hid hb1;clear hb1;cases A
 ·go_wp2_with fail;refine (HB.out _ HB1.out).mono ?_;rintro e w2 ⟨rfl,hb2⟩;have HB2:=Lib.hid (thru HB1.out hb2);clear hb2;cases B
  ·go_wp2_with fail;refine (HC.out _ HB2.out).mono ?_;rintro e w3 ⟨rfl,hb3⟩;have HB3:=Lib.hid (thru HB2.out hb3);clear hb3;go_wp2_with fail;go_ret;exact ⟨rfl,HB3.out⟩
  ·go_wp2_with fail;go_ret;exact ⟨rfl,HB2.out⟩
 ·go_wp2_with fail;go_ret;exact ⟨rfl,HB1.out⟩
def VWord (S:Nat→Prop) (w:World) (v:Value) (l:PL):Prop:=∃ a cap,v = .slice a l.len cap∧LiesS S w a cap l
theorem word_any (S:Nat→Prop) (pb:Nat) (s:ByteArray) (hs:Pl s) (o:Tok) (d:Nat) (w:World) (h:PAt S w pb s o d) :
  Calls Tryz.prog 210 #[.pointer (some ⟨pb,0,none⟩)] w (Does S pb s d w VWord (wordF s o)):=by
 obtain ⟨a,cap,hr,hl⟩:=h.ex;have c1:=zc1 hr;have c4:=zc4 hr;have HL:=Lib.hid hl;have H:=Lib.hid h;have hle:=hl.lies.le
 by_cases hk:o.k = 1
 ·have hk1:((o.k:Int) != 1) = false:=by simp [hk]
  have hn:=next_any S pb s hs o d w h;have hw:wordF s o = (nextF s o).bind fun _ p=>.ok o.l p:=if_pos hk;rw [hw];generalize nextF s o = r at hn ⊢
  have HN:=Lib.hid hn;clear hr hl h hk hw hn;cases r with
  | ok u q =>
   go_enter Tryz.func210,Tryz.ntmps210;go_wp2_with fail;refine HN.out.mono ?_;rintro e w2 ⟨hf,⟨v,rfl,rfl⟩,hp⟩;have hd:Does S pb s d w VWord (.ok o.l q) (.returned (.slice a o.l.len cap)) w2:=⟨hf,⟨_,rfl,a,cap,rfl,(HL.out.keep hf.size fun b hb hlt=>hf.block b hlt fun e=>H.out.ns (e ▸ hb)).mono fun b hb _=>.inl hb⟩,hp⟩;have HD:=Lib.hid hd;clear hd hf hp;go_wp2_with fail;go_ret;exact HD.out
  | bad i er =>
   go_enter Tryz.func210,Tryz.ntmps210;go_wp2_with fail;refine HN.out.mono ?_;rintro e w2 ⟨hf,rfl⟩;go_wp2_with fail;exact ⟨rfl,hf,rfl⟩
 ·have hk1:((o.k:Int) != 1) = true:=by simp;omega
  have hw:wordF s o = .bad o.i 1:=if_neg hk;have HW:=Lib.hid (wrong_any S pb s o d 1 w h);rw [hw];clear hr hl h hk hw;go_enter Tryz.func210,Tryz.ntmps210;go_wp2_with fail;refine HW.out.mono ?_;rintro e w2 ⟨rfl,hb⟩;go_wp2_with fail;exact ⟨rfl,FrP.of_below hb,rfl⟩
def enterF (s:ByteArray) (d:Nat) (o:Tok):Rs Unit:=if d = 200 then .bad o.i 2 else nextF s o
theorem PRow.depth {w:World} {pb:Nat} {s:ByteArray} {o:Tok} {a:Option Addr} {cap d:Nat} (h:PRow w pb s o a cap d) (d':Nat):PRow (w.setCell ⟨pb,8,none⟩ (.int .i64 d')) pb s o a cap d':=heap_setCell_same _ _ 8 _ _ (.int .i64 d') h
theorem PAt.depth {S:Nat→Prop} {w:World} {pb:Nat} {s:ByteArray} {o:Tok} {d:Nat} (h:PAt S w pb s o d) (d':Nat):PAt S (w.setCell ⟨pb,8,none⟩ (.int .i64 d')) pb s o d':=by
 obtain ⟨⟨a,cap,hr,hl⟩,h1,h2,h3,h4,m,hm⟩:=h;have hz:(w.setCell ⟨pb,8,none⟩ (.int .i64 d')).heap.size = w.heap.size:=by simp
 exact ⟨⟨a,cap,hr.depth d',hl.keep (by rw [hz];exact Nat.le_refl _) fun b hb hlt=>(FrP.set (pb:=pb) w 8 (.int .i64 d')).block b hlt fun e=>h1 (e ▸ hb)⟩,h1,fun b hb=>by rw [hz];exact h2 b hb,h3,h4,m,(World.cell?_of_block (w:=w) (a:=⟨0,0,none⟩) ((FrP.set (pb:=pb) w 8 (.int .i64 d')).block _ (h2 _ h4) fun e=>h1 (e ▸ h4))).trans hm⟩
theorem enter_any (S:Nat→Prop) (pb:Nat) (s:ByteArray) (hs:Pl s) (o:Tok) (d:Nat) (hd:d≤200) (w:World) (h:PAt S w pb s o d) :
  Calls Tryz.prog 193 #[.pointer (some ⟨pb,0,none⟩)] w (Does S pb s (d + 1) w VUnit (enterF s d o)):=by
 obtain ⟨a,cap,hr,hl⟩:=h.ex;have c8:=zc8 hr;have f8:=zf 8 hr;have H:=Lib.hid h
 by_cases hk:d = 200
 ·have hk1:((d:Int) == 200) = true:=by rw [hk];rfl
  have hw:enterF s d o = .bad o.i 2:=if_pos hk;have HW:=Lib.hid (wrong_any S pb s o d 2 w h);rw [hw];clear hr hl h hk hw;go_enter Tryz.func193,Tryz.ntmps193;go_wp2_with fail;refine HW.out.mono ?_;rintro e w2 ⟨rfl,hb⟩;go_wp2_with fail;exact ⟨rfl,FrP.of_below hb,rfl⟩
 ·have hk1:((d:Int) == 200) = false:=by rw [beq_eq_false_iff_ne];omega
  have hw:enterF s d o = nextF s o:=if_neg hk;have hwr:IntKind.i64.wrap ((d:Int) + 1) = ((d + 1:Nat):Int):=by rw [IntKind.wrap_i64];omega
  have hn:=next_any S pb s hs o (d + 1) _ (h.depth (d + 1));have hfr:=FrP.set (pb:=pb) w 8 (.int .i64 ((d + 1:Nat):Int));have hz:(w.setCell ⟨pb,8,none⟩ (.int .i64 ((d + 1:Nat):Int))).heap.size = w.heap.size:=by simp
  rw [hw];generalize nextF s o = r at hn ⊢
  have HN:=Lib.hid hn;have HFR:=Lib.hid hfr;have HZ:=Lib.hid hz;clear hr hl h hk hw hn hfr hz;cases r with
  | ok u q =>
   go_enter Tryz.func193,Tryz.ntmps193;go_wp2_with fail;refine HN.out.mono ?_;rintro e w2 ⟨hf,⟨v,rfl,rfl⟩,hp⟩;have hd2:Does S pb s (d + 1) _ VUnit (.ok () q) (.returned (.tuple #[])) w2:=⟨hf,⟨_,rfl,rfl⟩,hp⟩;have HD:=Lib.hid (hd2.after VM.unit H.out.ns H.out.lt H.out.pb HFR.out fun b hb=>.inl hb);clear hd2 hf hp;go_wp2_with fail;go_end0;exact HD.out
  | bad i er =>
   go_enter Tryz.func193,Tryz.ntmps193;go_wp2_with fail;refine HN.out.mono ?_;rintro e w2 ⟨hf,rfl⟩;go_wp2_with fail;exact ⟨rfl,HFR.out.trans hf,rfl⟩
theorem leave_any (S:Nat→Prop) (pb:Nat) (s:ByteArray) (o:Tok) (d:Nat) (hd:d≤200) (w:World) (h:PAt S w pb s o (d + 1)) :
  Calls Tryz.prog 199 #[.pointer (some ⟨pb,0,none⟩)] w fun e w'=>e = .returned (.tuple #[])∧FrP pb w w'∧w'.heap.size = w.heap.size∧PAt S w' pb s o d:=by
 obtain ⟨a,cap,hr,hl⟩:=h.ex;have c8:=zc8 hr;have f8:=zf 8 hr;have H:=Lib.hid (h.depth d);have hwr:IntKind.i64.wrap (((d + 1:Nat):Int) - 1) = (d:Int):=by rw [IntKind.wrap_i64];omega
 clear hr hl h;go_enter Tryz.func199,Tryz.ntmps199;go_wp2_with fail;go_end0;exact ⟨rfl,FrP.set _ _ _,by simp,H.out⟩
end Ps
end Go.Proofs.YtjmpfihopeohbaaGreatDoor
namespace Go.Proofs.YtjmpfihopeohbaaGreatDoor
open Go.RowKit Go.Sort
namespace Ps
open Cls Pt Tr Sp Lx
def KS (S:Nat→Prop) (w:World) (Q:World→Prop):Prop:=∀ w2:World,w.heap.size≤w2.heap.size→(∀ b,S b→b < w.heap.size→w2.heap[b]? = w.heap[b]?)→Q w2
theorem KS.now {S:Nat→Prop} {w:World} {Q:World→Prop} (h:KS S w Q):Q w:=h w (Nat.le_refl _) fun _ _ _=>rfl
theorem KS.to {S S':Nat→Prop} {w w':World} {Q:World→Prop} (h:KS S w Q) (hs:w.heap.size≤w'.heap.size) (hk:∀ b,S b→b < w.heap.size→w'.heap[b]? = w.heap[b]?) (hS:∀ b,S b→b < w.heap.size→S' b):KS S' w' Q :=
 fun w2 h2 hk2=>h w2 (by omega) fun b hb hlt=>(hk2 b (hS b hb hlt) (by omega)).trans (hk b hb hlt)
theorem KS.imp {S:Nat→Prop} {w:World} {Q Q':World→Prop} (h:KS S w Q) (hq:∀ w2,Q w2→Q' w2):KS S w Q':=fun w2 h2 hk=>hq _ (h w2 h2 hk)
structure Elem {T:Type} (k:Nat) (E:(Nat→Prop)→World→List Value→T→Prop) (Q:World→Nat→Nat→T→Prop):Prop where
 len:∀ {S:Nat→Prop} {w:World} {vs:List Value} {t:T},E S w vs t→vs.length = k
 tq:∀ {S S':Nat→Prop} {w w':World} {vs:List Value} {t:T},E S w vs t→w.heap.size≤w'.heap.size→(∀ b,S b→b < w.heap.size→w'.heap[b]? = w.heap[b]?)→(∀ b,S b→b < w.heap.size→S' b)→E S' w' vs t
 cell:∀ {S:Nat→Prop} {w:World} {vs:List Value} {t:T} {b o:Nat},E S w vs t→(∀ j v,vs[j]? = some v→w.cell? ⟨b,o + j,none⟩ = some v)→Q w b o t
def CellsG {T:Type} (E:(Nat→Prop)→World→List Value→T→Prop) (S:Nat→Prop) (w:World):List T→List Value→Prop
 | [],xs=>xs = []
 | t :: r,xs=>∃ vs ys,xs = vs ++ ys∧E S w vs t∧CellsG E S w r ys
section
variable {T:Type} {k:Nat} {E:(Nat→Prop)→World→List Value→T→Prop} {Q:World→Nat→Nat→T→Prop}
theorem CellsG.to (hE:Elem k E Q) {S S':Nat→Prop} {w w':World} (hs:w.heap.size≤w'.heap.size) (hk:∀ b,S b→b < w.heap.size→w'.heap[b]? = w.heap[b]?) (hS:∀ b,S b→b < w.heap.size→S' b):∀ {l:List T} {xs:List Value},CellsG E S w l xs→CellsG E S' w' l xs
 | [],_,h=>h
 | _ :: _,_,⟨vs,ys,hx,h1,h2⟩=>⟨vs,ys,hx,hE.tq h1 hs hk hS,CellsG.to hE hs hk hS h2⟩
theorem CellsG.snoc {S:Nat→Prop} {w:World} {t:T} {vs:List Value} (ht:E S w vs t):∀ {l:List T} {xs:List Value},CellsG E S w l xs→CellsG E S w (l ++ [t]) (xs ++ vs)
 | [],_,h=>by cases h;exact ⟨vs,[],by simp,ht,rfl⟩
 | _ :: _,_,⟨us,ys,hx,h1,h2⟩=>⟨us,ys ++ vs,by rw [hx,List.append_assoc],h1,CellsG.snoc ht h2⟩
theorem CellsG.chain (hE:Elem k E Q) {S:Nat→Prop} {w:World} {b:Nat}:∀ {l:List T} {xs:List Value} {o:Nat},CellsG E S w l xs→(∀ j u,xs[j]? = some u→w.cell? ⟨b,o + j,none⟩ = some u)→Chain k (Q w) b o l
 | [],_,_,_,_=>trivial
 | _ :: _,_,o,⟨vs,ys,hx,h1,h2⟩,hc=>by
  have hl:=hE.len h1;subst hx;refine ⟨hE.cell h1 fun j v hv=>hc j v ?_,CellsG.chain hE h2 fun j u hu=>?_⟩
  ·rw [List.getElem?_append_left (List.getElem?_eq_some_iff.1 hv).1];exact hv
  ·have:=hc (k + j) u (by rw [List.getElem?_append_right (by omega),hl,Nat.add_sub_cancel_left];exact hu);rwa [show o + (k + j) = o + k + j by omega] at this
structure Row (E:(Nat→Prop)→World→List Value→T→Prop) (k:Nat) (ty:TypeId) (base:Nat) (K:Nat→Prop) (w:World) (v:Value) (l:List T):Prop where
 ex:∃ xs,w.ownsRow base ty k v l.length xs∧CellsG E K w l xs
 out:∀ g,v.ownBlock = some g→¬ K g
theorem Row.nil (ty:TypeId) (base:Nat) (K:Nat→Prop) (w:World):Row E k ty base K w (.slice none 0 0) []:=⟨⟨[],World.ownsRow_nil _ _ _ _,rfl⟩,fun _ h=>by cases h⟩
theorem Row.lt {ty:TypeId} {base:Nat} {K:Nat→Prop} {w:World} {v:Value} {l:List T} (h:Row E k ty base K w v l):∀ g,v.ownBlock = some g→base≤g∧g < w.heap.size:=by
 obtain ⟨xs,h1,_⟩:=h.ex;exact fun g hg=>h1.lt g hg
theorem Row.to (hE:Elem k E Q) {ty:TypeId} {base:Nat} {K K':Nat→Prop} {w w':World} {v:Value} {l:List T} (h:Row E k ty base K w v l) (hs:w.heap.size≤w'.heap.size) (hk:∀ b,(K b∨v.ownBlock = some b)→b < w.heap.size→w'.heap[b]? = w.heap[b]?)
  (hK:∀ b,K b→b < w.heap.size→K' b) (ho:∀ g,v.ownBlock = some g→¬ K' g):Row E k ty base K' w' v l:=by
 obtain ⟨⟨xs,h1,h2⟩,_⟩:=h;exact ⟨⟨xs,own_keep h1 fun g hg hlt=>hk g (.inr hg) hlt,CellsG.to hE hs (fun b hb hlt=>hk b (.inl hb) hlt) hK h2⟩,ho⟩
theorem Row.more (hE:Elem k E Q) {ty:TypeId} {base:Nat} {K:Nat→Prop} {w w':World} {v:Value} {l:List T} {xs vs:List Value} {t:T} {g cap:Nat} (hl:CellsG E K w l xs) (ho:∀ g,v.ownBlock = some g→¬ K g) (ht:E K w vs t) (hK:∀ b,K b→b < w.heap.size)
  (hown:w'.ownsRow base ty k (.slice (some ⟨g,0,none⟩) (l.length + 1) cap) (l.length + 1) (xs ++ vs)) (hg:w.grownBy w' v.ownBlock) (hat:v.ownBlock = some g∨g = w.heap.size):Row E k ty base K w' (.slice (some ⟨g,0,none⟩) (l.length + 1) cap) (l ++ [t]):=by
 have hk:∀ b,K b→b < w.heap.size→w'.heap[b]? = w.heap[b]?:=fun b hb hlt=>hg.block b hlt fun e=>ho b e.symm hb;refine ⟨⟨xs ++ vs,by rw [List.length_append,List.length_singleton];exact hown,CellsG.snoc (hE.tq ht hg.size hk fun b hb _=>hb) (CellsG.to hE hg.size hk (fun b hb _=>hb) hl)⟩,fun g' hg'=>?_⟩;have:g = g':=by simpa [Value.ownBlock] using hg'
 subst this;rcases hat with hat | hat
 ·exact ho g hat
 ·intro hb;have:=hK g hb;omega
theorem Row.sl (hE:Elem k E Q) {ty:TypeId} {base:Nat} {K:Nat→Prop} {w:World} {v:Value} {l:List T} (h:Row E k ty base K w v l) (hl:l.length≤R):∃ a cap,v = .slice a l.length cap∧KS (fun b=>K b∨v.ownBlock = some b) w fun w2=>Sl k (Q w2) a cap l:=by
 obtain ⟨⟨xs,h1,h2⟩,_⟩:=h;have hsh:∃ a cap,v = .slice a l.length cap∧l.length≤cap∧(l = []∨∃ g,a = some ⟨g,0,none⟩):=by
  rcases h1.2 with ⟨rfl,h0⟩ | ⟨g,cap,cur,rfl,_,_,h3,_⟩
  ·exact ⟨none,0,by rw [h0],by omega,.inl (List.length_eq_zero_iff.1 h0)⟩
  ·exact ⟨_,cap,rfl,h3,.inr ⟨g,rfl⟩⟩
 obtain ⟨a,cap,rfl,hc,ha⟩:=hsh;refine ⟨a,cap,rfl,fun w2 hs hk=>⟨hc,hl,ha.imp id ?_⟩⟩;rintro ⟨g,rfl⟩;refine ⟨g,0,rfl,CellsG.chain hE (CellsG.to hE hs (fun b hb hlt=>hk b (.inl hb) hlt) (fun b hb _=>hb) h2) fun j u hu=>?_⟩;have hg:=(h1.lt g rfl).2;have:=h1.cells (g:=g) rfl j u hu;rw [Go.WideShapes.add_plain] at this;exact (World.cell?_of_block (w:=w) (a:=⟨g,_,none⟩) (hk g (.inr rfl) hg)).trans this
end
theorem PAt.keep {K:Nat→Prop} {w w':World} {pb:Nat} {s:ByteArray} {o:Tok} {d:Nat} (h:PAt K w pb s o d) (hs:w.heap.size≤w'.heap.size) (hk:∀ b,(K b∨b = pb)→b < w.heap.size→w'.heap[b]? = w.heap[b]?):PAt K w' pb s o d:=by
 have hpb:=h.pb;obtain ⟨⟨a,cap,hr,hl⟩,h1,h2,h3,h4,m,hm⟩:=h;exact ⟨⟨a,cap,(hk pb (.inr rfl) hpb).trans hr,hl.keep hs fun b hb hlt=>hk b (.inl hb) hlt⟩,h1,fun b hb=>Nat.lt_of_lt_of_le (h2 b hb) hs,h3,h4,m,(World.cell?_of_block (w:=w) (a:=⟨0,0,none⟩) (hk _ (.inl h4) (h2 _ h4))).trans hm⟩
theorem FrP.grown {pb:Nat} {w w2 w3:World} {v:Value} (h:FrP pb w w2) (hg:w2.grownBy w3 v.ownBlock) (hl:∀ g,v.ownBlock = some g→w.heap.size≤g):FrP pb w w3 :=
 ⟨hg.os.trans h.os,hg.tape.trans h.tape,hg.output.trans h.output,Nat.le_trans h.size hg.size,fun b hb hn=>(hg.block b (Nat.lt_of_lt_of_le hb h.size) fun e=>by have:=hl b e.symm;omega).trans (h.block b hb hn)⟩
def EW (S:Nat→Prop) (w:World) (vs:List Value) (l:PL):Prop:=∃ a cap,vs = [.slice a l.len cap]∧LiesS S w a cap l
def EA (S:Nat→Prop) (w:World) (vs:List Value) (x:ByteArray × PL):Prop:=∃ a cap,vs = [.string x.1,.slice a x.2.len cap]∧x.1.size≤R∧LiesS S w a cap x.2
def EB (_:Nat→Prop) (_:World) (vs:List Value) (x:Bool):Prop:=vs = [.bool x]
theorem elemW:Elem 1 EW PW where
 len:=fun ⟨a,cap,h,_⟩=>by rw [h];rfl
 tq:=fun ⟨a,cap,h,hl⟩ hs hk hS=>⟨a,cap,h,hl.to hs hk hS⟩
 cell:=fun ⟨a,cap,h,hl⟩ hc=>⟨a,cap,hc 0 _ (by rw [h];rfl),hl.lies⟩
theorem elemA:Elem 2 EA PA where
 len:=fun ⟨a,cap,h,_⟩=>by rw [h];rfl
 tq:=fun ⟨a,cap,h,hn,hl⟩ hs hk hS=>⟨a,cap,h,hn,hl.to hs hk hS⟩
 cell:=fun ⟨a,cap,h,hn,hl⟩ hc=>⟨hc 0 _ (by rw [h];rfl),hn,a,cap,hc 1 _ (by rw [h];rfl),hl.lies⟩
theorem elemB:Elem 1 EB PB where
 len:=fun h=>by rw [h];rfl
 tq:=fun h _ _ _=>h
 cell:=fun h hc=>hc 0 _ (by rw [h];rfl)
def VSl {T:Type} (k:Nat) (Q:World→Nat→Nat→T→Prop) (S:Nat→Prop) (w:World) (v:Value) (l:List T):Prop:=∃ a cap,v = .slice a l.length cap∧KS S w fun w2=>Sl k (Q w2) a cap l
structure On {T:Type} (E:(Nat→Prop)→World→List Value→T→Prop) (k:Nat) (ty:TypeId) (S:Nat→Prop) (pb:Nat) (s:ByteArray) (d:Nat) (w wr:World) (q:Tok) (v:Value) (l:List T):Prop where
 ex:∃ K:Nat→Prop,PAt K wr pb s q d∧Row E k ty w.heap.size K wr v l∧∀ b,K b→Up S w wr b
 fr:FrP pb w wr
structure Mid {T:Type} (E:(Nat→Prop)→World→List Value→T→Prop) (k:Nat) (ty:TypeId) (S:Nat→Prop) (pb:Nat) (s:ByteArray) (d:Nat) (w w2:World) (p:Tok) (v:Value) (l:List T) (xs vs:List Value) (t:T) (K:Nat→Prop):Prop where
 hp:PAt K w2 pb s p d
 cells:CellsG E K w2 l xs
 own:w2.ownsRow w.heap.size ty k v l.length xs
 out:∀ g,v.ownBlock = some g→¬ K g
 e:E K w2 vs t
 sub:∀ b,K b→Up S w w2 b
 fr:FrP pb w w2
 pb:pb < w.heap.size
section
variable {T:Type} {k:Nat} {E:(Nat→Prop)→World→List Value→T→Prop} {Q:World→Nat→Nat→T→Prop} {ty:TypeId} {S K:Nat→Prop} {pb d:Nat} {s:ByteArray} {w wr w1 w2 w3:World} {o q p:Tok} {v:Value} {l:List T} {xs vs:List Value} {t:T}
theorem On.start (h:PAt S w pb s q d):On E k ty S pb s d w w q (.slice none 0 0) []:=⟨⟨S,h,Row.nil _ _ _ _,fun _ hb=>.inl hb⟩,FrP.refl _ _⟩
theorem Mid.of (hE:Elem k E Q) (H:PAt S w pb s o d) (hrow:Row E k ty w.heap.size K wr v l) (hp:PAt K wr pb s q d) (hK:∀ b,K b→Up S w wr b) (hf:FrP pb w wr) (hf1:FrP pb wr w1) (hp1:PAt (Up K wr w1) w1 pb s p d) (he:E (Up K wr w1) w1 vs t) (Z:Obj) :
  ∃ xs,Mid E k ty S pb s d w (w1.alloc Z) p v l xs vs t (Up K wr w1):=by
 have hpb:=H.pb;have hlt:=hrow.lt;have hb:=bel1 w1 Z;have ho1:∀ g,v.ownBlock = some g→¬ Up K wr w1 g:=fun g hg hu=>hu.elim (hrow.out g hg) fun hu=>by have:=(hlt g hg).2;omega
 have hr1:Row E k ty w.heap.size (Up K wr w1) w1 v l:=hrow.to hE hf1.size (fun b hb hlt'=>hf1.block b hlt' fun e=>by
  subst e;rcases hb with hb | hb
  ·exact hp.ns hb
  ·have:=(hlt _ hb).1;omega) (fun b hb _=>.inl hb) ho1
 obtain ⟨xs,h1,h2⟩:=hr1.ex;refine ⟨xs,hp1.below hb,CellsG.to hE hb.size (fun b hb' hlt'=>hb.block b hlt') (fun b hb' _=>hb') h2,own_keep h1 fun g _ hlt'=>hb.block g hlt',ho1,hE.tq he hb.size (fun b _ hlt'=>hb.block b hlt') (fun b hb' _=>hb'),fun b hu=>?_,(hf.trans hf1).trans (FrP.of_below hb),hpb⟩;have e1:=hf.size;have e2:=hf1.size;have e3:=hb.size;rcases hu with hu | hu
 ·rcases hK b hu with hu | hu
  ·exact .inl hu
  ·exact .inr (by omega)
 ·exact .inr (by omega)
theorem Mid.on (hE:Elem k E Q) (h:Mid E k ty S pb s d w w2 p v l xs vs t K) {g cap:Nat} (hown:w3.ownsRow w.heap.size ty k (.slice (some ⟨g,0,none⟩) (l.length + 1) cap) (l.length + 1) (xs ++ vs)) (hg:w2.grownBy w3 v.ownBlock) (hat:v.ownBlock = some g∨g = w2.heap.size) :
  On E k ty S pb s d w w3 p (.slice (some ⟨g,0,none⟩) (l.length + 1) cap) (l ++ [t]):=by
 have hge:∀ g,v.ownBlock = some g→w.heap.size≤g:=fun g hg'=>(h.own.lt g hg').1;refine ⟨⟨K,h.hp.keep hg.size fun b hb hlt=>hg.block b hlt fun e=>?_,Row.more hE h.cells h.out h.e h.hp.lt hown hg hat,fun b hb=>(h.sub b hb).imp id fun hb=>by have:=hg.size;omega⟩,FrP.grown h.fr hg hge⟩;rcases hb with hb | rfl
 ·exact h.out b e.symm hb
 ·have:=hge _ e.symm;have:=h.pb;omega
theorem On.step (hE:Elem k E Q) (H:PAt S w pb s o d) (hp:PAt K wr pb s q d) (hrow:Row E k ty w.heap.size K wr v l) (hK:∀ b,K b→Up S w wr b) (hf:FrP pb w wr) (hf1:FrP pb wr w1) (hp1:PAt (Up K wr w1) w1 pb s p d):On E k ty S pb s d w w1 p v l:=by
 have hpb:=H.pb;have hlt:=hrow.lt;have ho1:∀ g,v.ownBlock = some g→¬ Up K wr w1 g:=fun g hg hu=>hu.elim (hrow.out g hg) fun hu=>by have:=(hlt g hg).2;omega
 refine ⟨⟨_,hp1,hrow.to hE hf1.size (fun b hb hlt'=>hf1.block b hlt' fun e=>?_) (fun b hb _=>.inl hb) ho1,fun b hu=>?_⟩,hf.trans hf1⟩
 ·subst e;rcases hb with hb | hb
  ·exact hp.ns hb
  ·have:=(hlt _ hb).1;omega
 ·have e1:=hf.size;have e2:=hf1.size;rcases hu with hu | hu
  ·rcases hK b hu with hu | hu
   ·exact .inl hu
   ·exact .inr (by omega)
  ·exact .inr (by omega)
theorem On.done (hE:Elem k E Q) (H:PAt S w pb s o d) (h:On E k ty S pb s d w wr q v l) (hl:l.length≤R):Does S pb s d w (VSl k Q) (.ok l q) (.returned v) wr:=by
 obtain ⟨⟨K,hp,hrow,hK⟩,hf⟩:=h;obtain ⟨a,cap,rfl,hks⟩:=hrow.sl hE hl;refine ⟨hf,⟨_,rfl,a,cap,rfl,hks.to (Nat.le_refl _) (fun _ _ _=>rfl) fun b hb _=>?_⟩,hp.mono hK (Up.out H.ns H.pb) (Up.lt H.lt hf.size)⟩;rcases hb with hb | hb
 ·exact hK b hb
 ·exact .inr (hrow.lt b hb)
end
end Ps
end Go.Proofs.YtjmpfihopeohbaaGreatDoor
namespace Go.Proofs.YtjmpfihopeohbaaGreatDoor
open Go.RowKit Go.Sort
namespace Ps
open Cls Pt Tr Sp Lx
theorem infoW:(Tryz.prog.info? 39).map (fun i=>(i.zero,i.size,i.bytes)) = some (some (.slice none 0 0),1,24):=by kernel_rfl
theorem word_mu {s:ByteArray} (hs:Pl s) {o q:Tok} {x:PL} (ho:TokOK s o) (h:wordF s o = .ok x q):mu s q < mu s o∧TokOK s q:=by
 unfold wordF at h;split at h
 ·rename_i h1;refine next_mu hs ho (by omega) ?_;cases hn:nextF s o with
  | ok u p=>rw [hn] at h;simp only [Rs.bind] at h;injection h with h1 h2;rw [h2]
  | bad i e=>rw [hn] at h;cases h
 ·cases h
theorem words_any (S:Nat→Prop) (pb:Nat) (s:ByteArray) (hs:Pl s) (o:Tok) (d:Nat) (w:World) (h:PAt S w pb s o d) :
  Calls Tryz.prog 191 #[.pointer (some ⟨pb,0,none⟩)] w (Does S pb s d w (VSl 1 PW) (wordsF s o)):=by
 have hsz:=hs.sz;obtain ⟨i0,hi,hz0,hz1,hz2⟩:=info_parts infoW;have H:=Lib.hid h;have HI:=Lib.hid hi;have HZ0:=Lib.hid hz0;have HZ1:=Lib.hid hz1;have HZ2:=Lib.hid hz2;clear h hi hz0 hz1 hz2;go_enter Tryz.func191,Tryz.ntmps191;go_wp2_with fail
 go_loopw [3] (fun v wr=>∃ (n:Nat) (q:Tok) (l:List PL),wordsN s n l q = wordsF s o∧mu s q < n∧l.length + mu s q≤F s∧On EW 1 39 S pb s d w wr q v l) (fun v wr=>muW s pb wr)
 case atStart=>exact ⟨F s,o,[],rfl,mu_F s o,by have:=mu_F s o;simp only [List.length_nil];omega,On.start H.out⟩
 case round =>
  obtain ⟨n,q,l,hn,hmu,hll,⟨K,hp,hrow,hK⟩,hf⟩:=hrel;obtain ⟨n,rfl⟩:∃ m,n = m + 1:=⟨n - 1,by omega⟩;have hmuW:=hp.mW;obtain ⟨a,cap,hr,hl⟩:=hp.ex;have c1:=zc1 hr;have hw:=word_any K pb s hs q d wr hp;have hwm:=fun x p=>word_mu hs (o:=q) (q:=p) (x:=x) hp.ok;have HN:=Lib.hid hn;have HF:=Lib.hid hf;have HP:=Lib.hid hp;have HMW:=Lib.hid hmuW;have HMU:=Lib.hid hmu;have HLL:=Lib.hid hll;have HROW:=Lib.hid hrow;have HK:=Lib.hid hK;clear hn hf hp hmuW hmu hll hrow hK hr hl
  by_cases hk:q.k = 1
  ·have hk1:((q.k:Int) == 1) = true:=by rw [hk];rfl
   have hn:((wordF s q).bind fun x o=>wordsN s n (l ++ [x]) o) = wordsF s o:=by rw [← HN.out,wordsN,if_pos hk]
   have HN2:=Lib.hid hn;clear hn HN hk;generalize wordF s q = r at hw hwm HN2;have HW:=Lib.hid hw;have HWM:=Lib.hid hwm;clear hw hwm;cases r with
   | bad i er =>
    go_wp2_with fail;refine HW.out.mono ?_;rintro e w2 ⟨hf2,rfl⟩;have hr:wordsF s o = .bad i er:=HN2.out.symm;have HD:Does S pb s d w (VSl 1 PW) (wordsF s o) (thrownP i er) w2:=by rw [hr];exact ⟨HF.out.trans hf2,rfl⟩
    clear hf2 hr;go_wp2_with fail;exact ⟨rfl,HD⟩
   | ok x p =>
    go_wp2_with fail;refine HW.out.mono ?_;rintro e w1 ⟨hf1,⟨v,rfl,a1,cap1,rfl,hl1⟩,hp1⟩;obtain ⟨xs,hm⟩:=Mid.of elemW H.out HROW.out HP.out HK.out HF.out hf1 hp1 (vs:=[.slice a1 x.len cap1]) ⟨a1,cap1,rfl,hl1⟩ (.cells #[.slice a1 x.len cap1] 39);have HM:=Lib.hid hm;have hll:l.length≤2000100:=by have:=HLL.out;unfold F at this;omega
    have hz1:w.heap.size≤w1.heap.size:=Nat.le_trans HF.out.size hf1.size;clear hf1 hp1 hl1 hm;go_wp2_with (at_builtin;refine wpList_append_lies _ rfl (.tmp 10) (.tmp 13) 23 rfl w.heap.size 39 i0 (.slice none 0 0) 1 24 Tryz.underlying23 HI.out HZ0.out HZ1.out HZ2.out rfl (by decide) u3 l.length xs rfl HM.out.own ⟨w1.heap.size,0,none⟩ 1 1 [.slice a1 x.len cap1] ?c0 rfl ?c2 ?c3 (by decide) ?c4 ?c5 ?c6 (w1.heap.size + 1) ?c7 ?_)
    case c0=>rfl
    case c2=>exact World.news_of_block (cs:=#[.slice a1 x.len cap1]) (t:=39) (fr:=(0,0)) (heap_alloc_new _ _)
    case c3=>simp [Value.oneCell']
    case c4=>unfold maxLen;omega
    case c5=>omega
    case c6=>simp only [World.size_alloc];omega
    case c7=>simp only [World.size_alloc]
    intro g capn w3 hown3 hgrow hat hlt;have hon:=HM.out.on elemW hown3 hgrow (by simpa only [World.size_alloc] using hat);have HON:=Lib.hid hon;clear hon hown3 hgrow hat hlt;go_wp2_with fail;go_roundw
    case rel =>
     have hm:=(HWM.out x p rfl).1;have h1:=HMU.out;have h2:=HLL.out;exact ⟨n,p,l ++ [x],HN2.out,by omega,by rw [List.length_append,List.length_singleton];omega,HON.out⟩
    case measure =>
     have:=(HWM.out x p rfl).1;have e1:=HMW.out;obtain ⟨K2,hp2,_⟩:=HON.out.ex;have e2:=hp2.mW;omega
  ·have hk1:((q.k:Int) == 1) = false:=by rw [beq_eq_false_iff_ne];omega
   have hn:Rs.ok l q = wordsF s o:=by rw [← HN.out,wordsN,if_neg hk]
   have HN2:=Lib.hid hn;clear hn HN hk hw hwm;go_wp2_with fail;go_ret;rw [← HN2.out];exact On.done elemW H.out ⟨⟨K,HP.out,HROW.out,HK.out⟩,HF.out⟩ (by have:=HLL.out;unfold F at this;unfold R;omega)
end Ps
end Go.Proofs.YtjmpfihopeohbaaGreatDoor
