/- list, given what an item is. -/
/- body, behind, command, unit, enclosed, loop, given what is in them. -/
/- item, given what a unit is. -/
import Derived.Test.YtoklgmbpgnimcaaGreatDoorRegN
import Derived.Test.YtoklgmbpgnimcaaGreatDoorPsK
namespace Go.Proofs.YtoklgmbpgnimcaaGreatDoor
open Go.RowKit Go.Sort
namespace Ps
open Cls Pt Tr Sp Lx
theorem infoN:(Tryz.prog.info? 42).map (fun i=>(i.zero,i.size,i.bytes)) = some (some (.agg #[.int .i64 0,.string ⟨#[]⟩,.bool false,.slice none 0 0,.slice none 0 0,.slice none 0 0,.slice none 0 0,.slice none 0 0]),8,152):=by kernel_rfl
theorem infoB:(Tryz.prog.info? 4).map (fun i=>(i.zero,i.size,i.bytes)) = some (some (.bool false),1,1):=by kernel_rfl
def ItemAt (s:ByteArray) (n:Nat):Prop:=∀ (S:Nat→Prop) (pb d:Nat) (o:Tok) (w:World),d≤200→PAt S w pb s o d→10 * mu s o + 5 < n→Calls Tryz.prog 56 #[.pointer (some ⟨pb,0,none⟩)] w (Does S pb s d w VN (itemF s d n o))
def ListAt (s:ByteArray) (n:Nat):Prop:=∀ (S:Nat→Prop) (pb d:Nat) (o:Tok) (w:World),d≤200→PAt S w pb s o d→10 * mu s o + 6 < n→Calls Tryz.prog 46 #[.pointer (some ⟨pb,0,none⟩)] w (Does S pb s d w VN (listF s d n [] [] o))
abbrev rowL (v1 v2:Value):Array Value:=#[.int .i64 5,.string ⟨#[]⟩,.bool false,.slice none 0 0,.slice none 0 0,v1,v2,.slice none 0 0]
abbrev row0:Array Value:=#[.int .i64 0,.string ⟨#[]⟩,.bool false,.slice none 0 0,.slice none 0 0,.slice none 0 0,.slice none 0 0,.slice none 0 0]
theorem Ch.then {C:Nat→Prop} {w w1 w2:World} (h:Ch C w w1) (k:Ch C w1 w2):Ch C w w2:=⟨k.os.trans h.os,k.tape.trans h.tape,k.output.trans h.output,Nat.le_trans h.size k.size,fun b hb hn=>(k.block b (Nat.lt_of_lt_of_le hb h.size) hn).trans (h.block b hb hn)⟩
theorem stored_rb (W:World) (b:Nat) (v0 v1 v2 v3 v4 v5 v6 v7 u0 u1 u2 u3 u4 u5 u6 u7:Value) (T:TypeId) (h:W.heap[b]? = some (.cells #[u0,u1,u2,u3,u4,u5,u6,u7] T (0,0))) :
  ((((((((W.setCell ⟨b,0,none⟩ v0).setCell ⟨b,1,none⟩ v1).setCell ⟨b,2,none⟩ v2).setCell ⟨b,3,none⟩ v3).setCell ⟨b,4,none⟩ v4).setCell ⟨b,5,none⟩ v5).setCell ⟨b,6,none⟩ v6).setCell ⟨b,7,none⟩ v7).heap[b]? = some (.cells #[v0,v1,v2,v3,v4,v5,v6,v7] T (0,0))∧Ch (fun c=>c = b) W ((((((((W.setCell ⟨b,0,none⟩ v0).setCell ⟨b,1,none⟩ v1).setCell ⟨b,2,none⟩ v2).setCell ⟨b,3,none⟩ v3).setCell ⟨b,4,none⟩ v4).setCell ⟨b,5,none⟩ v5).setCell ⟨b,6,none⟩ v6).setCell ⟨b,7,none⟩ v7):=by
 have g0:(W.setCell ⟨b,0,none⟩ v0).heap[b]? = some (.cells #[v0,u1,u2,u3,u4,u5,u6,u7] T (0,0)):=heap_setCell_same _ _ 0 _ _ v0 h
 have g1:((W.setCell ⟨b,0,none⟩ v0).setCell ⟨b,1,none⟩ v1).heap[b]? = some (.cells #[v0,v1,u2,u3,u4,u5,u6,u7] T (0,0)):=heap_setCell_same _ _ 1 _ _ v1 g0
 have g2:(((W.setCell ⟨b,0,none⟩ v0).setCell ⟨b,1,none⟩ v1).setCell ⟨b,2,none⟩ v2).heap[b]? = some (.cells #[v0,v1,v2,u3,u4,u5,u6,u7] T (0,0)):=heap_setCell_same _ _ 2 _ _ v2 g1
 have g3:((((W.setCell ⟨b,0,none⟩ v0).setCell ⟨b,1,none⟩ v1).setCell ⟨b,2,none⟩ v2).setCell ⟨b,3,none⟩ v3).heap[b]? = some (.cells #[v0,v1,v2,v3,u4,u5,u6,u7] T (0,0)):=heap_setCell_same _ _ 3 _ _ v3 g2
 have g4:(((((W.setCell ⟨b,0,none⟩ v0).setCell ⟨b,1,none⟩ v1).setCell ⟨b,2,none⟩ v2).setCell ⟨b,3,none⟩ v3).setCell ⟨b,4,none⟩ v4).heap[b]? = some (.cells #[v0,v1,v2,v3,v4,u5,u6,u7] T (0,0)):=heap_setCell_same _ _ 4 _ _ v4 g3
 have g5:((((((W.setCell ⟨b,0,none⟩ v0).setCell ⟨b,1,none⟩ v1).setCell ⟨b,2,none⟩ v2).setCell ⟨b,3,none⟩ v3).setCell ⟨b,4,none⟩ v4).setCell ⟨b,5,none⟩ v5).heap[b]? = some (.cells #[v0,v1,v2,v3,v4,v5,u6,u7] T (0,0)):=heap_setCell_same _ _ 5 _ _ v5 g4
 have g6:(((((((W.setCell ⟨b,0,none⟩ v0).setCell ⟨b,1,none⟩ v1).setCell ⟨b,2,none⟩ v2).setCell ⟨b,3,none⟩ v3).setCell ⟨b,4,none⟩ v4).setCell ⟨b,5,none⟩ v5).setCell ⟨b,6,none⟩ v6).heap[b]? = some (.cells #[v0,v1,v2,v3,v4,v5,v6,u7] T (0,0)):=heap_setCell_same _ _ 6 _ _ v6 g5
 have g7:((((((((W.setCell ⟨b,0,none⟩ v0).setCell ⟨b,1,none⟩ v1).setCell ⟨b,2,none⟩ v2).setCell ⟨b,3,none⟩ v3).setCell ⟨b,4,none⟩ v4).setCell ⟨b,5,none⟩ v5).setCell ⟨b,6,none⟩ v6).setCell ⟨b,7,none⟩ v7).heap[b]? = some (.cells #[v0,v1,v2,v3,v4,v5,v6,v7] T (0,0)):=heap_setCell_same _ _ 7 _ _ v7 g6
 exact ⟨g7,((((((((Ch.set W b 0 v0).then (Ch.set _ b 1 v1)).then (Ch.set _ b 2 v2)).then (Ch.set _ b 3 v3)).then (Ch.set _ b 4 v4)).then (Ch.set _ b 5 v5)).then (Ch.set _ b 6 v6)).then (Ch.set _ b 7 v7))⟩
theorem VN.list {S:Nat→Prop} {w:World} {v1 v2:Value} {ks:List ND} {bs:List Bool} (h1:VSl 8 PN S w v1 ks) (h2:VSl 1 PB S w v2 bs):VN S w (.agg (rowL v1 v2)) (listD ks bs):=by
 obtain ⟨a3,c3,rfl,h1⟩:=h1
 obtain ⟨a4,c4,rfl,h2⟩:=h2
 refine ⟨none,0,none,0,a3,c3,a4,c4,none,0,?_,fun w2 hs hk=>?_⟩
 ·simp only [nvs,listD,toN_len];rfl
 ·have hn:=slN (h1 w2 hs hk)
  exact ⟨Nat.zero_le _,slNil 0,slNil 0,hn.1,h2 w2 hs hk,nlNil _ 0,hn.2,rfl⟩
set_option maxHeartbeats 2000000 in
set_option maxRecDepth 100000 in
theorem list_step (s:ByteArray) (hs:s.size≤400000) (n0:Nat) (IH:∀ m,m < n0→ItemAt s m):ListAt s n0:=by
 intro S pb d o w hd h hn0
 obtain ⟨i0,hi,hz0,hz1,hz2⟩:=info_parts infoN
 obtain ⟨j0,hj,hy0,hy1,hy2⟩:=info_parts infoB
 have hpb:=h.pb
 have h0:Fn EN 8 42 S pb s d (w.heap.size + 1) w.heap.size w.heap.size w ((w.alloc (.cells #[.int .i64 0,.string ⟨#[]⟩,.bool false,.slice none 0 0,.slice none 0 0,.slice none 0 0,.slice none 0 0,.slice none 0 0] 42)).alloc (.cells #[.int .i64 5,.string ⟨#[]⟩,.bool false,.slice none 0 0,.slice none 0 0,.slice none 0 0,.slice none 0 0,.slice none 0 0] 42)) o (.slice none 0 0) [] (.slice none 0 0) [] (rowL (.slice none 0 0) (.slice none 0 0)) row0 42 S (fun _=>True):=by
  have hb:=bel2 w (.cells #[.int .i64 0,.string ⟨#[]⟩,.bool false,.slice none 0 0,.slice none 0 0,.slice none 0 0,.slice none 0 0,.slice none 0 0] 42) (.cells #[.int .i64 5,.string ⟨#[]⟩,.bool false,.slice none 0 0,.slice none 0 0,.slice none 0 0,.slice none 0 0,.slice none 0 0] 42)
  have e1:(w.alloc (.cells #[.int .i64 0,.string ⟨#[]⟩,.bool false,.slice none 0 0,.slice none 0 0,.slice none 0 0,.slice none 0 0,.slice none 0 0] 42)).heap.size = w.heap.size + 1:=by simp
  refine ⟨h.below hb,⟨Row.nil _ _ _ _,Row.nil _ _ _ _,(fun _ h=>by cases h),?_,(Below.heap_alloc _ _ _ (by simp)).trans (heap_new' _ _),(fun hk=>by have:=h.lt _ hk;omega),(fun hk=>by have:=h.lt _ hk;omega),(fun _ h=>by cases h),(fun _ h=>by cases h)⟩,fun b hb=>.inl hb,FrP.of_below hb,hpb,by omega,by omega,Nat.le_refl _,by simp;omega,fun _ _ _=>trivial⟩
  have:=heap_new' (w.alloc (.cells #[.int .i64 0,.string ⟨#[]⟩,.bool false,.slice none 0 0,.slice none 0 0,.slice none 0 0,.slice none 0 0,.slice none 0 0] 42)) (.cells #[.int .i64 5,.string ⟨#[]⟩,.bool false,.slice none 0 0,.slice none 0 0,.slice none 0 0,.slice none 0 0,.slice none 0 0] 42)
  rwa [e1] at this
 have H:=Lib.hid h;have HI:=Lib.hid hi;have HZ0:=Lib.hid hz0;have HZ1:=Lib.hid hz1;have HZ2:=Lib.hid hz2;have HJ:=Lib.hid hj;have HY0:=Lib.hid hy0;have HY1:=Lib.hid hy1;have HY2:=Lib.hid hy2;have HH0:=Lib.hid h0;have HIH:=Lib.hid IH
 clear h hi hz0 hz1 hz2 hj hy0 hy1 hy2 h0 IH
 go_enter Tryz.func46,Tryz.ntmps46
 go_wp2_with fail
 generalize hR:listF s d n0 [] [] o = R0
 go_loopw [5] (fun x wr=>∃ (n:Nat) (q:Tok) (ks:List ND) (bs:List Bool) (v1 v2:Value) (M:Nat→Prop),listF s d n ks bs q = R0∧10 * mu s q + 6 < n∧n≤n0∧ks.length + mu s q≤F s∧bs.length = ks.length∧Fn EN 8 42 S pb s d (w.heap.size + 1) w.heap.size w.heap.size w wr q v1 ks v2 bs (rowL v1 v2) row0 42 M (fun _=>True)) (fun x wr=>muW s pb wr)
 case atStart=>exact ⟨n0,o,[],[],_,_,S,hR,hn0,Nat.le_refl _,by have:=mu_F s o;simp only [List.length_nil];omega,rfl,HH0.out⟩
 case round =>
  obtain ⟨n,q,ks,bs,v1,v2,M,hn,hmu,hnn,hkl,hbl,hon⟩:=hrel
  obtain ⟨n,rfl⟩:∃ m,n = m + 1:=⟨n - 1,by omega⟩
  have hmuW:=hon.hp.mW
  have hit:=fun w' (hb:Below wr.heap.size wr w')=>HIH.out n (by omega) M pb d q w' hd (hon.hp.below hb) (by omega)
  rw [listF] at hn
  have hdn:=(downs_all s n).item d q hon.hp.ok
  have HON:=Lib.hid hon;have HMW:=Lib.hid hmuW;have HMU:=Lib.hid hmu
  have hkb:ks.length≤900000:=by unfold F at hkl;omega
  have hkb2:bs.length≤900000:=by omega
  have HKL:=Lib.hid hkl;have HBL:=Lib.hid hbl
  clear hon hmuW hmu hR HH0 hkl hbl
  generalize hrI:itemF s d n q = rI at hit hn hdn
  have HN:=Lib.hid hn;have HIT:=Lib.hid hit;have HDN:=Lib.hid hdn
  clear hn hit hdn hrI
  go_wp2_with fail
  refine RN.begins (fun w'=>w'.heap[w.heap.size + 1]? = some (.cells (rowL v1 v2) 42 (0,0))) [7] (by kernel_rfl) ?_
  have hS:wr.drew.heap[w.heap.size + 1]? = some (.cells (rowL v1 v2) 42 (0,0)):=HON.out.two.nr
  refine RN.tk (i:=0) (v:=?_) rfl hS ?_ ?_
  rotate_left 1
  ·(intro wq hq;have s5:=zc5 hq;go_simp;try with_reducible rfl)
  refine RN.tk (i:=1) (v:=?_) rfl hS ?_ ?_
  rotate_left 1
  ·(intro wq hq;have s5:=zc5 hq;go_simp;try with_reducible rfl)
  refine RN.tk (i:=2) (v:=?_) rfl hS ?_ ?_
  rotate_left 1
  ·(intro wq hq;have s5:=zc5 hq;go_simp;try with_reducible rfl)
  refine RN.all (rs:=[3]) (by kernel_rfl) (by simp) ?_
  refine RN.All.cons rfl (fun K hK=>?_) RN.All.nil
  go_simp
  have hbd:Below wr.heap.size wr wr.drew:=⟨rfl,rfl,rfl,Nat.le_refl _,fun _ _=>rfl⟩
  cases rI with
  | bad i er =>
   refine (HIT.out _ hbd).mono ?_
   rintro e w1 ⟨hf1,rfl⟩
   have hr:R0 = .bad i er:=HN.out.symm
   have HD:Does S pb s d w VN R0 (thrownP i er) w1:=by rw [hr];exact ⟨HON.out.fr.trans ((FrP.of_below hbd).trans hf1),rfl⟩
   clear hS
   go_wp2_with fail
   exact ⟨rfl,HD⟩
  | ok x p =>
   refine (HIT.out _ hbd).mono ?_
   rintro e w1 ⟨hf1,⟨v,rfl,a1,c1,a2,c2,a3,c3,a4,c4,a5,c5,hv,hx⟩,hp1⟩
   obtain rfl:v = .agg #[.int .i64 x.k,.string x.nm,.bool x.g,.slice a1 x.az.length c1,.slice a2 x.ws.length c2,.slice a3 x.ks.len c3,.slice a4 x.bs.length c4,.slice a5 x.cz.len c5]:=hv
   have hon1:=(HON.out.below elemN hbd).call elemN hf1 hp1
   refine hK _ _ (fun _=>hon1.two.nr) ?_
   clear hK K hS
   have hS:=hon1.two.nr
   have hon2:=hon1.below elemN (bel1 w1 (.cells #[.int .i64 x.k,.string x.nm,.bool x.g,.slice a1 x.az.length c1,.slice a2 x.ws.length c2,.slice a3 x.ks.len c3,.slice a4 x.bs.length c4,.slice a5 x.cz.len c5] 42))
   obtain ⟨xs,hown,hcells⟩:=hon2.two.r1.ex
   have hxe:EN (Up M wr.drew w1) (w1.alloc (.cells #[.int .i64 x.k,.string x.nm,.bool x.g,.slice a1 x.az.length c1,.slice a2 x.ws.length c2,.slice a3 x.ks.len c3,.slice a4 x.bs.length c4,.slice a5 x.cz.len c5] 42)) [.int .i64 x.k,.string x.nm,.bool x.g,.slice a1 x.az.length c1,.slice a2 x.ws.length c2,.slice a3 x.ks.len c3,.slice a4 x.bs.length c4,.slice a5 x.cz.len c5] x:=⟨a1,c1,a2,c2,a3,c3,a4,c4,a5,c5,rfl,KS.to hx (bel1 w1 _).size (fun b _ hlt=>(bel1 w1 _).block b hlt) fun b hb _=>hb⟩
   have hz1:w.heap.size≤w1.heap.size:=hon1.lb
   have hd1:=HDN.out x p rfl
   have HON2:=Lib.hid hon2;have HOWN:=Lib.hid hown;have HCE:=Lib.hid hcells;have HXE:=Lib.hid hxe;have HD1:=Lib.hid hd1
   clear hon1 hon2 hown hcells hxe hf1 hp1 hx hd1
   refine RN.all (rs:=[4]) (by kernel_rfl) (by simp) ?_
   refine RN.All.cons rfl (fun K hK=>?_) RN.All.nil
   go_simp
   refine hK _ _ (fun _=>HON2.out.two.nr) ?_
   clear hK K hS
   have hS:=HON2.out.two.nr
   refine RN.all (rs:=[5]) (by kernel_rfl) (by simp) ?_
   refine RN.All.cons rfl (fun K hK=>?_) RN.All.nil
   refine step_append_lies _ (by rfl) _ _ _ (by rfl) w.heap.size 42 i0 _ 8 152 Tryz.underlying38 HI.out HZ0.out HZ1.out HZ2.out rfl (by omega) v1 ks.length xs (by rfl) HOWN.out
    ⟨w1.heap.size,0,none⟩ 1 1 [.int .i64 x.k,.string x.nm,.bool x.g,.slice a1 x.az.length c1,.slice a2 x.ws.length c2,.slice a3 x.ks.len c3,.slice a4 x.bs.length c4,.slice a5 x.cz.len c5] (by rfl) (by rfl) (World.news_of_block (cs:=#[.int .i64 x.k,.string x.nm,.bool x.g,.slice a1 x.az.length c1,.slice a2 x.ws.length c2,.slice a3 x.ks.len c3,.slice a4 x.bs.length c4,.slice a5 x.cz.len c5]) (t:=42) (fr:=(0,0)) (heap_alloc_new w1 _)) (by simp [Value.oneCell'])
    (by omega) (by unfold maxLen;omega) (by omega) (by simp;omega) (w1.heap.size + 1) (by simp) ?_
   intro g capn w3 hown3 hgrow hat hlt
   have hon3:=HON2.out.app1 elemN HCE.out HXE.out hown3 hgrow (by simpa only [World.size_alloc] using hat)
   refine hK _ _ (fun _=>hon3.two.nr) ?_
   clear hK K hS
   have hS:=hon3.two.nr
   have HON3:=Lib.hid hon3
   clear hon3 hown3 hgrow hat hlt HON2 HOWN HCE HXE
   refine RN.tk (i:=6) (v:=?_) rfl hS ?_ ?_
   rotate_left 1
   ·(intro wq hq;skip;go_simp;try with_reducible rfl)
   refine RN.all (rs:=[7]) (by kernel_rfl) (by simp) ?_
   refine RN.All.cons rfl (fun K hK=>?_) RN.All.nil
   have f5:=zf 5 HON3.out.two.nr
   have k5:=zc5 HON3.out.two.nr
   go_simp
   refine hK _ _ (fun h=>absurd h (by decide)) ?_
   clear hK K hS f5 k5
   refine RN.done (by kernel_rfl) ?_ _
   have hon4:=HON3.out.store elemN (by omega) 5 (.slice (some ⟨g,0,none⟩) (ks.length + 1) capn)
   have hon4:Fn EN 8 42 S pb s d (w.heap.size + 1) w.heap.size w.heap.size w (w3.setCell ⟨w.heap.size + 1,5,none⟩ (.slice (some ⟨g,0,none⟩) (ks.length + 1) capn)) p (.slice (some ⟨g,0,none⟩) (ks.length + 1) capn) (ks ++ [x]) v2 bs (rowL (.slice (some ⟨g,0,none⟩) (ks.length + 1) capn) v2) row0 42 (Up M wr.drew w1) (fun _=>True):=hon4
   generalize w3.setCell ⟨w.heap.size + 1,5,none⟩ (.slice (some ⟨g,0,none⟩) (ks.length + 1) capn) = w4 at hon4 ⊢
   generalize Up M wr.drew w1 = M1 at hon4
   have HON4:=Lib.hid hon4
   clear hon4 HON3 hz1
   go_wp2_with fail
   have hbd4:Below w4.heap.size w4 w4.drew:=⟨rfl,rfl,rfl,Nat.le_refl _,fun _ _=>rfl⟩
   have hse:=sees_row M1 pb s p d [⟨#[38]⟩] w4.drew (HON4.out.hp.below hbd4) (by decide)
   have hon5:=HON4.out.below elemN hbd4
   have HON5:=Lib.hid hon5;have HSE:=Lib.hid hse
   clear hbd4 hse hon5 HON4
   refine RN.begins (fun w'=>w'.heap[w.heap.size + 1]? = some (.cells (rowL (.slice (some ⟨g,0,none⟩) (ks.length + 1) capn) v2) 42 (0,0))) [8] (by kernel_rfl) ?_
   generalize w4.drew = w5 at HON5 HSE ⊢
   have hS:w5.heap[w.heap.size + 1]? = some (.cells (rowL (.slice (some ⟨g,0,none⟩) (ks.length + 1) capn) v2) 42 (0,0)):=HON5.out.two.nr
   refine RN.tk (i:=0) (v:=?_) rfl hS ?_ ?_
   rotate_left 1
   ·(intro wq hq;have s6:=zc6 hq;go_simp;try with_reducible rfl)
   refine RN.tk (i:=1) (v:=?_) rfl hS ?_ ?_
   rotate_left 1
   ·(intro wq hq;have s6:=zc6 hq;go_simp;try with_reducible rfl)
   refine RN.tk (i:=2) (v:=?_) rfl hS ?_ ?_
   rotate_left 1
   ·(intro wq hq;have s6:=zc6 hq;go_simp;try with_reducible rfl)
   refine RN.all (rs:=[3]) (by kernel_rfl) (by simp) ?_
   refine RN.All.cons rfl (fun K hK=>?_) RN.All.nil
   go_simp
   refine hK _ _ (fun _=>(HON5.out.below elemN (bel1 w5 _)).two.nr) ?_
   clear hK K
   have hS1:=(HON5.out.below elemN (bel1 w5 (.cells #[.string ⟨#[38]⟩] 9))).two.nr
   clear hS
   have hS:=hS1
   clear hS1
   refine RN.all (rs:=[4]) (by kernel_rfl) (by simp) ?_
   refine RN.All.cons rfl (fun K hK=>?_) RN.All.nil
   go_simp
   refine HSE.out.mono ?_
   rintro e w6 ⟨rfl,hb6⟩
   have hon6:=HON5.out.below elemN hb6
   refine hK _ _ (fun _=>hon6.two.nr) ?_
   clear hK K hS
   have hS:=hon6.two.nr
   generalize hB:seesF [⟨#[38]⟩] p = B
   have hon7:=hon6.below elemN (bel1 w6 (.cells #[.bool B] 4))
   obtain ⟨xs,hown,hcells⟩:=hon7.two.r2.ex
   have hz6:w.heap.size≤w6.heap.size:=hon6.lb
   have HON7:=Lib.hid hon7;have HOWN:=Lib.hid hown;have HCE:=Lib.hid hcells
   clear hon6 hon7 hown hcells hb6 HSE HON5
   refine RN.all (rs:=[5]) (by kernel_rfl) (by simp) ?_
   refine RN.All.cons rfl (fun K hK=>?_) RN.All.nil
   go_simp
   refine hK _ _ (fun _=>HON7.out.two.nr) ?_
   clear hK K hS
   have hS:=HON7.out.two.nr
   refine RN.all (rs:=[6]) (by kernel_rfl) (by simp) ?_
   refine RN.All.cons rfl (fun K hK=>?_) RN.All.nil
   refine step_append_lies _ (by rfl) _ _ _ (by rfl) w.heap.size 4 j0 _ 1 1 Tryz.underlying39 HJ.out HY0.out HY1.out HY2.out rfl (by omega) v2 bs.length xs (by rfl) HOWN.out
    ⟨w6.heap.size,0,none⟩ 1 1 [.bool B] (by rfl) (by rfl) (World.news_of_block (cs:=#[.bool B]) (t:=4) (fr:=(0,0)) (heap_alloc_new w6 _)) (by simp [Value.oneCell'])
    (by omega) (by unfold maxLen;omega) (by omega) (by simp;omega) (w6.heap.size + 1) (by simp) ?_
   intro g2 capn2 w7 hown7 hgrow7 hat7 hlt7
   have hon8:=HON7.out.app2 elemN HCE.out hown7 hgrow7 (by simpa only [World.size_alloc] using hat7)
   refine hK _ _ (fun _=>hon8.two.nr) ?_
   clear hK K hS
   have hS:=hon8.two.nr
   have HON8:=Lib.hid hon8
   clear hon8 hown7 hgrow7 hat7 hlt7 HON7 HOWN HCE
   refine RN.tk (i:=7) (v:=?_) rfl hS ?_ ?_
   rotate_left 1
   ·(intro wq hq;skip;go_simp;try with_reducible rfl)
   refine RN.all (rs:=[8]) (by kernel_rfl) (by simp) ?_
   refine RN.All.cons rfl (fun K hK=>?_) RN.All.nil
   have f6:=zf 6 HON8.out.two.nr
   have k6:=zc6 HON8.out.two.nr
   go_simp
   refine hK _ _ (fun h=>absurd h (by decide)) ?_
   clear hK K hS f6 k6
   refine RN.done (by kernel_rfl) ?_ _
   have hon9:Fn EN 8 42 S pb s d (w.heap.size + 1) w.heap.size w.heap.size w (w7.setCell ⟨w.heap.size + 1,6,none⟩ (.slice (some ⟨g2,0,none⟩) (bs.length + 1) capn2)) p (.slice (some ⟨g,0,none⟩) (ks.length + 1) capn) (ks ++ [x]) (.slice (some ⟨g2,0,none⟩) (bs.length + 1) capn2) (bs ++ [B]) (rowL (.slice (some ⟨g,0,none⟩) (ks.length + 1) capn) (.slice (some ⟨g2,0,none⟩) (bs.length + 1) capn2)) row0 42 M1 (fun _=>True):=HON8.out.store elemN (by omega) 6 (.slice (some ⟨g2,0,none⟩) (bs.length + 1) capn2)
   generalize w7.setCell ⟨w.heap.size + 1,6,none⟩ (.slice (some ⟨g2,0,none⟩) (bs.length + 1) capn2) = w8 at hon9 ⊢
   have hsk:=skip_row M1 pb s hs p d [⟨#[59]⟩,⟨#[38]⟩,tLine] w8 hon9.hp (by decide)
   have hsd:=skip_down (s:=s) (o:=p) (l:=[⟨#[59]⟩,⟨#[38]⟩,tLine]) HD1.out.2 (by decide)
   have hsm:=fun q'=>skip_mu (s:=s) (o:=p) (q:=q') (l:=[⟨#[59]⟩,⟨#[38]⟩,tLine]) HD1.out.2 (by decide)
   have hn2:((skipF s [⟨#[59]⟩,⟨#[38]⟩,tLine] p).bind fun b p2=>if b then (linesF s p2).bind fun _ q2=>if beginsB q2 then listF s d n (ks ++ [x]) (bs ++ [seesF [⟨#[38]⟩] p]) q2 else .ok (listD (ks ++ [x]) (bs ++ [seesF [⟨#[38]⟩] p])) q2 else .ok (listD (ks ++ [x]) (bs ++ [seesF [⟨#[38]⟩] p])) p2) = R0:=HN.out
   rw [hB] at hn2
   generalize skipF s [⟨#[59]⟩,⟨#[38]⟩,tLine] p = rS at hsk hsd hsm hn2
   have HON9:=Lib.hid hon9;have HSK:=Lib.hid hsk;have HSD:=Lib.hid hsd;have HSM:=Lib.hid hsm;have HN2:=Lib.hid hn2
   clear hon9 hsk hsd hsm hn2 HON8 HN hz6 hB
   match rS with
   | .bad i er =>
    go_wp2_with fail
    refine HSK.out.mono ?_
    rintro e w9 ⟨hf9,rfl⟩
    have hr:R0 = .bad i er:=HN2.out.symm
    have HD:Does S pb s d w VN R0 (thrownP i er) w9:=by rw [hr];exact ⟨HON9.out.fr.trans hf9,rfl⟩
    clear hf9 hr
    go_wp2_with fail
    exact ⟨rfl,HD⟩
   | .ok false p2 =>
    go_wp2_with fail
    refine HSK.out.mono ?_
    rintro e w9 ⟨hf9,⟨v9,rfl,rfl⟩,hp9⟩
    have hon10:=HON9.out.call elemN hf9 hp9
    have hr:R0 = .ok (listD (ks ++ [x]) (bs ++ [B])) p2:=HN2.out.symm
    have HON10:=Lib.hid hon10;have HR:=Lib.hid hr
    clear hf9 hp9 hon10 hr
    have k0:=zc0 HON10.out.two.nr;have r0:=zc0 HON10.out.two.rr;have f0:=zf 0 HON10.out.two.rr
    have k1:=zc1 HON10.out.two.nr;have r1:=zc1 HON10.out.two.rr;have f1:=zf 1 HON10.out.two.rr
    have k2:=zc2 HON10.out.two.nr;have r2:=zc2 HON10.out.two.rr;have f2:=zf 2 HON10.out.two.rr
    have k3:=zc3 HON10.out.two.nr;have r3:=zc3 HON10.out.two.rr;have f3:=zf 3 HON10.out.two.rr
    have k4:=zc4 HON10.out.two.nr;have r4:=zc4 HON10.out.two.rr;have f4:=zf 4 HON10.out.two.rr
    have k5:=zc5 HON10.out.two.nr;have r5:=zc5 HON10.out.two.rr;have f5:=zf 5 HON10.out.two.rr
    have k6:=zc6 HON10.out.two.nr;have r6:=zc6 HON10.out.two.rr;have f6:=zf 6 HON10.out.two.rr
    have k7:=zc7 HON10.out.two.nr;have r7:=zc7 HON10.out.two.rr;have f7:=zf 7 HON10.out.two.rr
    go_wp2_with fail
    have hst:=stored_rb w9 w.heap.size (.int .i64 5) (.string ⟨#[]⟩) (.bool false) (.slice none 0 0) (.slice none 0 0) (.slice (some ⟨g,0,none⟩) (ks.length + 1) capn) (.slice (some ⟨g2,0,none⟩) (bs.length + 1) capn2) (.slice none 0 0) _ _ _ _ _ _ _ _ _ HON10.out.two.rr
    generalize ((((((((w9.setCell ⟨w.heap.size,0,none⟩ (.int .i64 5)).setCell ⟨w.heap.size,1,none⟩ (.string ⟨#[]⟩)).setCell ⟨w.heap.size,2,none⟩ (.bool false)).setCell ⟨w.heap.size,3,none⟩ (.slice none 0 0)).setCell ⟨w.heap.size,4,none⟩ (.slice none 0 0)).setCell ⟨w.heap.size,5,none⟩ (.slice (some ⟨g,0,none⟩) (ks.length + 1) capn)).setCell ⟨w.heap.size,6,none⟩ (.slice (some ⟨g2,0,none⟩) (bs.length + 1) capn2)).setCell ⟨w.heap.size,7,none⟩ (.slice none 0 0)) = W8 at hst ⊢
    obtain ⟨hr8,hch⟩:=hst
    have x0:=Lib.cell_of_heap hr8 0
    have x1:=Lib.cell_of_heap hr8 1
    have x2:=Lib.cell_of_heap hr8 2
    have x3:=Lib.cell_of_heap hr8 3
    have x4:=Lib.cell_of_heap hr8 4
    have x5:=Lib.cell_of_heap hr8 5
    have x6:=Lib.cell_of_heap hr8 6
    have x7:=Lib.cell_of_heap hr8 7
    refine bodyPost_ret (v:=.agg #[.int .i64 5,.string ⟨#[]⟩,.bool false,.slice none 0 0,.slice none 0 0,.slice (some ⟨g,0,none⟩) (ks.length + 1) capn,.slice (some ⟨g2,0,none⟩) (bs.length + 1) capn2,.slice none 0 0]) (by simp [results,Tryz.results46,go_sem,x0,x1,x2,x3,x4,x5,x6,x7]) rfl ?_
    rw [HR.out]
    exact HON10.out.done H.out hch (VN.list (HON10.out.sl1 elemN (by simp only [List.length_append,List.length_singleton];unfold R;omega) hch) (HON10.out.sl2 (by simp only [List.length_append,List.length_singleton];unfold R;omega) hch))
   | .ok true p2 =>
    go_wp2_with fail
    refine HSK.out.mono ?_
    rintro e w9 ⟨hf9,⟨v9,rfl,rfl⟩,hp9⟩
    have hon10:=HON9.out.call elemN hf9 hp9
    have hmp:=HSM.out p2 rfl
    have hln:=lines_any _ pb s hs p2 d w9 hon10.hp
    have hld:=lines_down s (F s) p2 hmp.2
    have hn3:((linesF s p2).bind fun _ q2=>if beginsB q2 then listF s d n (ks ++ [x]) (bs ++ [B]) q2 else .ok (listD (ks ++ [x]) (bs ++ [B])) q2) = R0:=HN2.out
    change Down s p2 (linesF s p2) at hld
    generalize linesF s p2 = rL at hln hld hn3
    have HON9':=Lib.hid hon10;have HLN:=Lib.hid hln;have HLD:=Lib.hid hld;have HN3:=Lib.hid hn3;have HMP:=Lib.hid hmp
    clear hf9 hp9 hon10 hln hld hn3 hmp HN2 HSK HSM HSD
    cases rL with
    | bad i er =>
     go_wp2_with fail
     refine HLN.out.mono ?_
     rintro e w10 ⟨hf10,rfl⟩
     have hr:R0 = .bad i er:=HN3.out.symm
     have HD:Does S pb s d w VN R0 (thrownP i er) w10:=by rw [hr];exact ⟨HON9'.out.fr.trans hf10,rfl⟩
     clear hf10 hr
     go_wp2_with fail
     exact ⟨rfl,HD⟩
    | ok u q2 =>
     have hm2:=HLD.out _ _ rfl
     have HM2:=Lib.hid hm2
     clear hm2 HLD
     go_wp2_with fail
     refine HLN.out.mono ?_
     rintro e w10 ⟨hf10,⟨v10,rfl,rfl⟩,hp10⟩
     have hon11:=HON9'.out.call elemN hf10 hp10
     have hbg:=begins_any _ pb s q2 d w10 hon11.hp
     have hn4:(if beginsB q2 then listF s d n (ks ++ [x]) (bs ++ [B]) q2 else .ok (listD (ks ++ [x]) (bs ++ [B])) q2) = R0:=HN3.out
     generalize beginsB q2 = B2 at hbg hn4
     have HON11:=Lib.hid hon11;have HBG:=Lib.hid hbg;have HN4:=Lib.hid hn4
     clear hf10 hp10 hon11 hbg hn4 HN3 HLN
     cases B2
     ·go_wp2_with fail
      refine HBG.out.mono ?_
      rintro e w11 ⟨rfl,hb11⟩
      have hon10:=HON11.out.below elemN hb11
      have hr:R0 = .ok (listD (ks ++ [x]) (bs ++ [B])) q2:=HN4.out.symm
      have HON10:=Lib.hid hon10;have HR:=Lib.hid hr
      clear hb11 hon10 hr
      have k0:=zc0 HON10.out.two.nr;have r0:=zc0 HON10.out.two.rr;have f0:=zf 0 HON10.out.two.rr
      have k1:=zc1 HON10.out.two.nr;have r1:=zc1 HON10.out.two.rr;have f1:=zf 1 HON10.out.two.rr
      have k2:=zc2 HON10.out.two.nr;have r2:=zc2 HON10.out.two.rr;have f2:=zf 2 HON10.out.two.rr
      have k3:=zc3 HON10.out.two.nr;have r3:=zc3 HON10.out.two.rr;have f3:=zf 3 HON10.out.two.rr
      have k4:=zc4 HON10.out.two.nr;have r4:=zc4 HON10.out.two.rr;have f4:=zf 4 HON10.out.two.rr
      have k5:=zc5 HON10.out.two.nr;have r5:=zc5 HON10.out.two.rr;have f5:=zf 5 HON10.out.two.rr
      have k6:=zc6 HON10.out.two.nr;have r6:=zc6 HON10.out.two.rr;have f6:=zf 6 HON10.out.two.rr
      have k7:=zc7 HON10.out.two.nr;have r7:=zc7 HON10.out.two.rr;have f7:=zf 7 HON10.out.two.rr
      go_wp2_with fail
      have hst:=stored_rb w11 w.heap.size (.int .i64 5) (.string ⟨#[]⟩) (.bool false) (.slice none 0 0) (.slice none 0 0) (.slice (some ⟨g,0,none⟩) (ks.length + 1) capn) (.slice (some ⟨g2,0,none⟩) (bs.length + 1) capn2) (.slice none 0 0) _ _ _ _ _ _ _ _ _ HON10.out.two.rr
      generalize ((((((((w11.setCell ⟨w.heap.size,0,none⟩ (.int .i64 5)).setCell ⟨w.heap.size,1,none⟩ (.string ⟨#[]⟩)).setCell ⟨w.heap.size,2,none⟩ (.bool false)).setCell ⟨w.heap.size,3,none⟩ (.slice none 0 0)).setCell ⟨w.heap.size,4,none⟩ (.slice none 0 0)).setCell ⟨w.heap.size,5,none⟩ (.slice (some ⟨g,0,none⟩) (ks.length + 1) capn)).setCell ⟨w.heap.size,6,none⟩ (.slice (some ⟨g2,0,none⟩) (bs.length + 1) capn2)).setCell ⟨w.heap.size,7,none⟩ (.slice none 0 0)) = W8 at hst ⊢
      obtain ⟨hr8,hch⟩:=hst
      have x0:=Lib.cell_of_heap hr8 0
      have x1:=Lib.cell_of_heap hr8 1
      have x2:=Lib.cell_of_heap hr8 2
      have x3:=Lib.cell_of_heap hr8 3
      have x4:=Lib.cell_of_heap hr8 4
      have x5:=Lib.cell_of_heap hr8 5
      have x6:=Lib.cell_of_heap hr8 6
      have x7:=Lib.cell_of_heap hr8 7
      refine bodyPost_ret (v:=.agg #[.int .i64 5,.string ⟨#[]⟩,.bool false,.slice none 0 0,.slice none 0 0,.slice (some ⟨g,0,none⟩) (ks.length + 1) capn,.slice (some ⟨g2,0,none⟩) (bs.length + 1) capn2,.slice none 0 0]) (by simp [results,Tryz.results46,go_sem,x0,x1,x2,x3,x4,x5,x6,x7]) rfl ?_
      rw [HR.out]
      exact HON10.out.done H.out hch (VN.list (HON10.out.sl1 elemN (by simp only [List.length_append,List.length_singleton];unfold R;omega) hch) (HON10.out.sl2 (by simp only [List.length_append,List.length_singleton];unfold R;omega) hch))
     ·go_wp2_with fail
      refine HBG.out.mono ?_
      rintro e w11 ⟨rfl,hb11⟩
      have hon12:=HON11.out.below elemN hb11
      have hn5:listF s d n (ks ++ [x]) (bs ++ [B]) q2 = R0:=HN4.out
      have HON12:=Lib.hid hon12;have HN5:=Lib.hid hn5
      clear hb11 hon12 hn5
      go_wp2_with fail
      go_roundw
      case rel =>
       have e1:=HMU.out
       have e2:=HKL.out
       have e3:=HBL.out
       have e4:=HD1.out.1
       have e5:=HMP.out.1
       have e6:=HM2.out.1
       exact ⟨n,q2,ks ++ [x],bs ++ [B],_,_,_,HN5.out,by omega,by omega,by rw [List.length_append,List.length_singleton];omega,by rw [List.length_append,List.length_append,List.length_singleton,List.length_singleton];omega,HON12.out⟩
      case measure =>
       have e4:=HD1.out.1
       have e5:=HMP.out.1
       have e6:=HM2.out.1
       have e7:=HMW.out
       have e8:=HON12.out.hp.mW
       omega
end Ps
end Go.Proofs.YtoklgmbpgnimcaaGreatDoor
namespace Go.Proofs.YtoklgmbpgnimcaaGreatDoor
open Go.RowKit Go.Sort
namespace Ps
open Cls Pt Tr Sp Lx
def UnitAt (s:ByteArray) (n:Nat):Prop:=∀ (S:Nat→Prop) (pb d:Nat) (o:Tok) (w:World),d≤200→PAt S w pb s o d→10 * mu s o + 4 < n→Calls Tryz.prog 73 #[.pointer (some ⟨pb,0,none⟩)] w (Does S pb s d w VN (unitF s d n o))
def CommandAt (s:ByteArray) (n:Nat):Prop:=∀ (S:Nat→Prop) (pb d:Nat) (o:Tok) (w:World),d≤200→PAt S w pb s o d→10 * mu s o + 3 < n→Calls Tryz.prog 91 #[.pointer (some ⟨pb,0,none⟩)] w (Does S pb s d w VN (commandF s d n o))
def SimpleAt (s:ByteArray) (n:Nat):Prop:=∀ (S:Nat→Prop) (pb d:Nat) (o:Tok) (w:World),d≤200→PAt S w pb s o d→10 * mu s o + 2 < n→Calls Tryz.prog 107 #[.pointer (some ⟨pb,0,none⟩)] w (Does S pb s d w VN (simpleF s d n o))
def CompoundAt (s:ByteArray) (n:Nat):Prop:=∀ (S:Nat→Prop) (pb d:Nat) (o:Tok) (w:World),d≤200→PAt S w pb s o d→10 * mu s o + 1 < n→Calls Tryz.prog 108 #[.pointer (some ⟨pb,0,none⟩)] w (Does S pb s d w VN (compoundF s d n o))
def BodyAt (s:ByteArray) (n:Nat):Prop:=∀ (S:Nat→Prop) (pb d:Nat) (o:Tok) (w:World),d≤200→PAt S w pb s o d→10 * mu s o + 6 < n→Calls Tryz.prog 136 #[.pointer (some ⟨pb,0,none⟩)] w (Does S pb s d w VN ((linesF s o).bind fun _ o=>listF s d n [] [] o))
def BehindAt (s:ByteArray) (n:Nat):Prop:=∀ (S:Nat→Prop) (pb d:Nat) (o:Tok) (w:World) (t:ByteArray),t.size ≠ 0→d≤200→PAt S w pb s o d→10 * mu s o + 1 < n→Calls Tryz.prog 137 #[.pointer (some ⟨pb,0,none⟩),.string t] w (Does S pb s d w VN (behindF s d n t o))
def LoopAt (s:ByteArray) (n:Nat):Prop:=∀ (S:Nat→Prop) (pb d:Nat) (o:Tok) (w:World) (k:Int),d≤200→PAt S w pb s o d→10 * mu s o + 7 < n→Calls Tryz.prog 127 #[.pointer (some ⟨pb,0,none⟩),.int .i64 k] w (Does S pb s d w VN (loopF s d n k o))
def BranchAt (s:ByteArray) (n:Nat):Prop:=∀ (S:Nat→Prop) (pb d:Nat) (o:Tok) (w:World),d≤200→PAt S w pb s o d→10 * mu s o + 7 < n→Calls Tryz.prog 126 #[.pointer (some ⟨pb,0,none⟩)] w (Does S pb s d w VN (branchF s d n o))
def EachAt (s:ByteArray) (n:Nat):Prop:=∀ (S:Nat→Prop) (pb d:Nat) (o:Tok) (w:World),d≤200→PAt S w pb s o d→10 * mu s o + 1 < n→Calls Tryz.prog 128 #[.pointer (some ⟨pb,0,none⟩)] w (Does S pb s d w VN (eachF s d n o))
def ChoiceAt (s:ByteArray) (n:Nat):Prop:=∀ (S:Nat→Prop) (pb d:Nat) (o:Tok) (w:World),d≤200→PAt S w pb s o d→10 * mu s o + 1 < n→Calls Tryz.prog 129 #[.pointer (some ⟨pb,0,none⟩)] w (Does S pb s d w VN (choiceF s d n o))
def EntryAt (s:ByteArray) (n:Nat):Prop:=∀ (S:Nat→Prop) (pb d:Nat) (o:Tok) (w:World),d≤200→PAt S w pb s o d→10 * mu s o + 1 < n→Calls Tryz.prog 139 #[.pointer (some ⟨pb,0,none⟩)] w (Does S pb s d w VC (entryF s d n o))
def EncAt (s:ByteArray) (n:Nat):Prop:=∀ (S:Nat→Prop) (pb d:Nat) (o:Tok) (w:World) (k:Int) (t:ByteArray),t.size ≠ 0→d≤200→PAt S w pb s o d→10 * mu s o + 6 < n→Calls Tryz.prog 125 #[.pointer (some ⟨pb,0,none⟩),.int .i64 k,.string t] w (Does S pb s d w VN ((linesF s o).bind fun _ o=>(listF s d n [] [] o).bind fun x o=>(takeF s [t] o).bind fun _ o=>.ok (nd k [x]) o))
theorem Rs.bind_assoc {T U V:Type} (r:Rs T) (f:T→Tok→Rs U) (g:U→Tok→Rs V):(r.bind f).bind g = r.bind fun a o=>(f a o).bind g:=by cases r <;> rfl
theorem Rs.bind_ok {T U:Type} {f:T→Tok→Rs U} {a:T} {o:Tok}:(Rs.ok a o).bind f = f a o:=rfl
theorem VN.kids {S:Nat→Prop} {w:World} {k:Int} {nm:ByteArray} {ks:List ND} {a:Option Addr} {cap m:Nat} (hm:ks.length = m) (hnm:nm.size≤R) (h:KS S w fun w2=>Sl 8 (PN w2) a cap ks) :
  VN S w (.agg #[.int .i64 k,.string nm,.bool false,.slice none 0 0,.slice none 0 0,.slice a m cap,.slice none 0 0,.slice none 0 0]) ⟨k,nm,false,[],[],toN ks,[],.nil⟩:=by
 subst hm
 refine ⟨none,0,none,0,a,cap,none,0,none,0,?_,h.imp fun w2 h=>?_⟩
 ·simp only [nvs,toN_len];rfl
 ·have hn:=slN h
  exact ⟨hnm,slNil 0,slNil 0,hn.1,slNil 0,nlNil _ 0,hn.2,rfl⟩
theorem VN.self {S:Nat→Prop} {w:World} {x:ND} {a1 a2 a3 a4 a5:Option Addr} {c1 c2 c3 c4 c5:Nat} (h:HoldsK S w x a1 c1 a2 c2 a3 c3 a4 c4 a5 c5):VN S w (.agg (nvs x a1 c1 a2 c2 a3 c3 a4 c4 a5 c5).toArray) x:=⟨a1,c1,a2,c2,a3,c3,a4,c4,a5,c5,rfl,h⟩
theorem R_empty:(⟨#[]⟩:ByteArray).size≤R:=Nat.zero_le _
theorem cells1 {M:Nat→Prop} {w:World} {x:ND} {a1 a2 a3 a4 a5:Option Addr} {c1 c2 c3 c4 c5:Nat} (h:HoldsK M w x a1 c1 a2 c2 a3 c3 a4 c4 a5 c5):CellsG EN M w [x] (nvs x a1 c1 a2 c2 a3 c3 a4 c4 a5 c5):=⟨_,[],(List.append_nil _).symm,EN.ks h,rfl⟩
theorem cells2 {M:Nat→Prop} {w:World} {x y:ND} {a1 a2 a3 a4 a5 b1 b2 b3 b4 b5:Option Addr} {c1 c2 c3 c4 c5 d1 d2 d3 d4 d5:Nat} (h:HoldsK M w x a1 c1 a2 c2 a3 c3 a4 c4 a5 c5) (k:HoldsK M w y b1 d1 b2 d2 b3 d3 b4 d4 b5 d5) :
  CellsG EN M w [x,y] (nvs x a1 c1 a2 c2 a3 c3 a4 c4 a5 c5 ++ nvs y b1 d1 b2 d2 b3 d3 b4 d4 b5 d5):=⟨_,_,rfl,EN.ks h,cells1 k⟩
set_option maxHeartbeats 4000000 in
set_option maxRecDepth 100000 in
theorem body_step (s:ByteArray) (hs:s.size≤400000) (n:Nat) (IH:ListAt s n):BodyAt s n:=by
 intro S pb d o w hd h hfu
 have HIH:=Lib.hid IH
 clear IH
 have hon:Fn EN 8 42 S pb s d w.heap.size w.heap.size w.heap.size w (w.alloc (.cells #[.int .i64 0,.string ⟨#[]⟩,.bool false,.slice none 0 0,.slice none 0 0,.slice none 0 0,.slice none 0 0,.slice none 0 0] 42)) o (.slice none 0 0) [] (.slice none 0 0) [] row0 row0 42 S (fun _=>True):=Fn.start h
 obtain ⟨R0,hR⟩:∃ R0,((linesF s o).bind fun _ o=>listF s d n [] [] o) = R0:=⟨_,rfl⟩
 rw [hR]
 have H:=Lib.hid h;have HN:=Lib.hid hR;have HON:=Lib.hid hon;have HFU:=Lib.hid hfu
 clear h hR hon hfu
 go_enter Tryz.func136,Tryz.ntmps136
 go_wp2_with fail
 have hc:=lines_any _ pb s hs o d _ HON.out.hp
 have hd:Down s _ (linesF s o):=lines_down s (F s) o HON.out.hp.ok
 have hn:=HN.out
 generalize (linesF s o) = rX at hc hd hn
 clear HN
 have HC:=Lib.hid hc;have HD0:=Lib.hid hd;have HN:=Lib.hid hn
 clear hc hd hn
 cases rX with
 | bad i er =>
  go_wp2_with fail
  refine HC.out.mono ?_
  rintro e w2 ⟨hf,rfl⟩
  have HDD:Does S pb s d w VN R0 (thrownP i er) w2:=by rw [show R0 = .bad i er from HN.out.symm];exact ⟨HON.out.fr.trans hf,rfl⟩
  clear hf
  go_wp2_with fail
  exact ⟨rfl,HDD⟩
 | ok u p1 =>
  have hm:=HD0.out _ _ rfl
  have HM3:=Lib.hid hm.1
  have hn:=HN.out
  rw [Rs.bind_ok] at hn
  clear HN HD0 hm
  have HN:=Lib.hid hn
  clear hn
  go_wp2_with fail
  refine HC.out.mono ?_
  rintro e w2 ⟨hf,⟨v,rfl,rfl⟩,hp⟩
  have hon:=HON.out.call elemN hf hp
  clear HON HC hf hp
  have HON:=Lib.hid hon
  clear hon
  have hc:=HIH.out _ pb d p1 _ hd HON.out.hp (by have hm3:=HM3.out;have hfu:=HFU.out;omega)
  have hd:Down s _ (listF s d n [] [] p1):=(downs_all s n).list d [] [] p1 HON.out.hp.ok
  have hn:=HN.out
  generalize (listF s d n [] [] p1) = rX at hc hd hn
  clear HN
  have HC:=Lib.hid hc;have HD0:=Lib.hid hd;have HN:=Lib.hid hn
  clear hc hd hn
  cases rX with
  | bad i er =>
   go_wp2_with fail
   refine HC.out.mono ?_
   rintro e w2 ⟨hf,rfl⟩
   have HDD:Does S pb s d w VN R0 (thrownP i er) w2:=by rw [show R0 = .bad i er from HN.out.symm];exact ⟨HON.out.fr.trans hf,rfl⟩
   clear hf
   go_wp2_with fail
   exact ⟨rfl,HDD⟩
  | ok x p4 =>
   have hm:=HD0.out _ _ rfl
   have HM6:=Lib.hid hm.1
   have hn:=HN.out
   clear HN HD0 hm
   have HN:=Lib.hid hn
   clear hn
   go_wp2_with fail
   refine HC.out.mono ?_
   rintro e w5 ⟨hf,⟨v,rfl,a1,c1,a2,c2,a3,c3,a4,c4,a5,c5,hv,hx⟩,hp⟩
   have hon:=HON.out.call elemN hf hp
   clear HON HC hf hp
   obtain rfl:v = .agg #[.int .i64 x.k,.string x.nm,.bool x.g,.slice a1 x.az.length c1,.slice a2 x.ws.length c2,.slice a3 x.ks.len c3,.slice a4 x.bs.length c4,.slice a5 x.cz.len c5]:=hv
   have hon:=hon.hold hx
   clear hx
   have HON:=Lib.hid hon
   clear hon
   have r0:=zc0 HON.out.two.rr;have f0:=zf 0 HON.out.two.rr
   have r1:=zc1 HON.out.two.rr;have f1:=zf 1 HON.out.two.rr
   have r2:=zc2 HON.out.two.rr;have f2:=zf 2 HON.out.two.rr
   have r3:=zc3 HON.out.two.rr;have f3:=zf 3 HON.out.two.rr
   have r4:=zc4 HON.out.two.rr;have f4:=zf 4 HON.out.two.rr
   have r5:=zc5 HON.out.two.rr;have f5:=zf 5 HON.out.two.rr
   have r6:=zc6 HON.out.two.rr;have f6:=zf 6 HON.out.two.rr
   have r7:=zc7 HON.out.two.rr;have f7:=zf 7 HON.out.two.rr
   go_wp2_with fail
   have hst:=stored_rb w5 (w.heap.size) (.int .i64 x.k) (.string x.nm) (.bool x.g) (.slice a1 x.az.length c1) (.slice a2 x.ws.length c2) (.slice a3 x.ks.len c3) (.slice a4 x.bs.length c4) (.slice a5 x.cz.len c5) _ _ _ _ _ _ _ _ _ HON.out.two.rr
   generalize ((((((((w5.setCell ⟨w.heap.size,0,none⟩ (.int .i64 x.k)).setCell ⟨w.heap.size,1,none⟩ (.string x.nm)).setCell ⟨w.heap.size,2,none⟩ (.bool x.g)).setCell ⟨w.heap.size,3,none⟩ (.slice a1 x.az.length c1)).setCell ⟨w.heap.size,4,none⟩ (.slice a2 x.ws.length c2)).setCell ⟨w.heap.size,5,none⟩ (.slice a3 x.ks.len c3)).setCell ⟨w.heap.size,6,none⟩ (.slice a4 x.bs.length c4)).setCell ⟨w.heap.size,7,none⟩ (.slice a5 x.cz.len c5)) = W8 at hst ⊢
   obtain ⟨hr8,hch⟩:=hst
   have x0:=Lib.cell_of_heap hr8 0
   have x1:=Lib.cell_of_heap hr8 1
   have x2:=Lib.cell_of_heap hr8 2
   have x3:=Lib.cell_of_heap hr8 3
   have x4:=Lib.cell_of_heap hr8 4
   have x5:=Lib.cell_of_heap hr8 5
   have x6:=Lib.cell_of_heap hr8 6
   have x7:=Lib.cell_of_heap hr8 7
   refine bodyPost_ret (v:=.agg #[.int .i64 x.k,.string x.nm,.bool x.g,.slice a1 x.az.length c1,.slice a2 x.ws.length c2,.slice a3 x.ks.len c3,.slice a4 x.bs.length c4,.slice a5 x.cz.len c5]) (by simp [results,Tryz.results136,go_sem,x0,x1,x2,x3,x4,x5,x6,x7]) rfl ?_
   rw [← HN.out]
   exact HON.out.done H.out hch (VN.self ((HON.out.ks hch).imp fun _ h=>h.2))
set_option maxHeartbeats 4000000 in
set_option maxRecDepth 100000 in
theorem behind_step (s:ByteArray) (hs:s.size≤400000) (n:Nat) (IH:BodyAt s n):BehindAt s (n + 1):=by
 intro S pb d o w t hne hd h hfu
 have HIH:=Lib.hid IH
 clear IH
 have hon:Fn EN 8 42 S pb s d w.heap.size w.heap.size w.heap.size w (w.alloc (.cells #[.int .i64 0,.string ⟨#[]⟩,.bool false,.slice none 0 0,.slice none 0 0,.slice none 0 0,.slice none 0 0,.slice none 0 0] 42)) o (.slice none 0 0) [] (.slice none 0 0) [] row0 row0 42 S (fun _=>True):=Fn.start h
 obtain ⟨R0,hR⟩:∃ R0,(behindF s d (n + 1) t o) = R0:=⟨_,rfl⟩
 rw [hR]
 rw [behindF] at hR
 have H:=Lib.hid h;have HN:=Lib.hid hR;have HON:=Lib.hid hon;have HFU:=Lib.hid hfu
 clear h hR hon hfu
 go_enter Tryz.func137,Tryz.ntmps137
 go_wp2_with fail
 have hc:=take_row _ pb s hs o d [t] _ HON.out.hp (by simp)
 try simp only [World.size_alloc] at hc
 have hd:DownS s _ (takeF s [t] o):=take_down (s:=s) (o:=o) (l:=[t]) HON.out.hp.ok (by simpa using hne)
 have hn:=HN.out
 generalize (takeF s [t] o) = rX at hc hd hn
 clear HN
 have HC:=Lib.hid hc;have HD0:=Lib.hid hd;have HN:=Lib.hid hn
 clear hc hd hn
 cases rX with
 | bad i er =>
  go_wp2_with fail
  refine HC.out.mono ?_
  rintro e w2 ⟨hf,rfl⟩
  have HDD:Does S pb s d w VN R0 (thrownP i er) w2:=by rw [show R0 = .bad i er from HN.out.symm];exact ⟨HON.out.fr.trans hf,rfl⟩
  clear hf
  go_wp2_with fail
  exact ⟨rfl,HDD⟩
 | ok u p1 =>
  have hm:=HD0.out _ _ rfl
  have HM3:=Lib.hid hm.1
  have hn:=HN.out
  rw [Rs.bind_ok] at hn
  clear HN HD0 hm
  have HN:=Lib.hid hn
  clear hn
  go_wp2_with fail
  refine HC.out.mono ?_
  rintro e w2 ⟨hf,⟨v,rfl,rfl⟩,hp⟩
  have hon:=HON.out.call elemN hf hp
  clear HON HC hf hp
  have HON:=Lib.hid hon
  clear hon
  have hc:=HIH.out _ pb d p1 _ hd HON.out.hp (by have hm3:=HM3.out;have hfu:=HFU.out;omega)
  have hd:Down s _ ((linesF s p1).bind fun _ o=>listF s d n [] [] o):=(lines_down s (F s) p1 HON.out.hp.ok).bind fun _ q _ hq=>(downs_all s n).list d [] [] q hq
  have hn:=HN.out
  generalize ((linesF s p1).bind fun _ o=>listF s d n [] [] o) = rX at hc hd hn
  clear HN
  have HC:=Lib.hid hc;have HD0:=Lib.hid hd;have HN:=Lib.hid hn
  clear hc hd hn
  cases rX with
  | bad i er =>
   go_wp2_with fail
   refine HC.out.mono ?_
   rintro e w2 ⟨hf,rfl⟩
   have HDD:Does S pb s d w VN R0 (thrownP i er) w2:=by rw [show R0 = .bad i er from HN.out.symm];exact ⟨HON.out.fr.trans hf,rfl⟩
   clear hf
   go_wp2_with fail
   exact ⟨rfl,HDD⟩
  | ok x p4 =>
   have hm:=HD0.out _ _ rfl
   have HM6:=Lib.hid hm.1
   have hn:=HN.out
   clear HN HD0 hm
   have HN:=Lib.hid hn
   clear hn
   go_wp2_with fail
   refine HC.out.mono ?_
   rintro e w5 ⟨hf,⟨v,rfl,a1,c1,a2,c2,a3,c3,a4,c4,a5,c5,hv,hx⟩,hp⟩
   have hon:=HON.out.call elemN hf hp
   clear HON HC hf hp
   obtain rfl:v = .agg #[.int .i64 x.k,.string x.nm,.bool x.g,.slice a1 x.az.length c1,.slice a2 x.ws.length c2,.slice a3 x.ks.len c3,.slice a4 x.bs.length c4,.slice a5 x.cz.len c5]:=hv
   have hon:=hon.hold hx
   clear hx
   have HON:=Lib.hid hon
   clear hon
   have r0:=zc0 HON.out.two.rr;have f0:=zf 0 HON.out.two.rr
   have r1:=zc1 HON.out.two.rr;have f1:=zf 1 HON.out.two.rr
   have r2:=zc2 HON.out.two.rr;have f2:=zf 2 HON.out.two.rr
   have r3:=zc3 HON.out.two.rr;have f3:=zf 3 HON.out.two.rr
   have r4:=zc4 HON.out.two.rr;have f4:=zf 4 HON.out.two.rr
   have r5:=zc5 HON.out.two.rr;have f5:=zf 5 HON.out.two.rr
   have r6:=zc6 HON.out.two.rr;have f6:=zf 6 HON.out.two.rr
   have r7:=zc7 HON.out.two.rr;have f7:=zf 7 HON.out.two.rr
   go_wp2_with fail
   have hst:=stored_rb w5 (w.heap.size) (.int .i64 x.k) (.string x.nm) (.bool x.g) (.slice a1 x.az.length c1) (.slice a2 x.ws.length c2) (.slice a3 x.ks.len c3) (.slice a4 x.bs.length c4) (.slice a5 x.cz.len c5) _ _ _ _ _ _ _ _ _ HON.out.two.rr
   generalize ((((((((w5.setCell ⟨w.heap.size,0,none⟩ (.int .i64 x.k)).setCell ⟨w.heap.size,1,none⟩ (.string x.nm)).setCell ⟨w.heap.size,2,none⟩ (.bool x.g)).setCell ⟨w.heap.size,3,none⟩ (.slice a1 x.az.length c1)).setCell ⟨w.heap.size,4,none⟩ (.slice a2 x.ws.length c2)).setCell ⟨w.heap.size,5,none⟩ (.slice a3 x.ks.len c3)).setCell ⟨w.heap.size,6,none⟩ (.slice a4 x.bs.length c4)).setCell ⟨w.heap.size,7,none⟩ (.slice a5 x.cz.len c5)) = W8 at hst ⊢
   obtain ⟨hr8,hch⟩:=hst
   have x0:=Lib.cell_of_heap hr8 0
   have x1:=Lib.cell_of_heap hr8 1
   have x2:=Lib.cell_of_heap hr8 2
   have x3:=Lib.cell_of_heap hr8 3
   have x4:=Lib.cell_of_heap hr8 4
   have x5:=Lib.cell_of_heap hr8 5
   have x6:=Lib.cell_of_heap hr8 6
   have x7:=Lib.cell_of_heap hr8 7
   refine bodyPost_ret (v:=.agg #[.int .i64 x.k,.string x.nm,.bool x.g,.slice a1 x.az.length c1,.slice a2 x.ws.length c2,.slice a3 x.ks.len c3,.slice a4 x.bs.length c4,.slice a5 x.cz.len c5]) (by simp [results,Tryz.results137,go_sem,x0,x1,x2,x3,x4,x5,x6,x7]) rfl ?_
   rw [← HN.out]
   exact HON.out.done H.out hch (VN.self ((HON.out.ks hch).imp fun _ h=>h.2))
set_option maxHeartbeats 4000000 in
set_option maxRecDepth 100000 in
theorem command_step (s:ByteArray) (hs:s.size≤400000) (n:Nat) (IS:SimpleAt s n) (IC:CompoundAt s n):CommandAt s (n + 1):=by
 intro S pb d o w hd h hfu
 have HIS:=Lib.hid IS;have HIC:=Lib.hid IC
 clear IS IC
 have hon:Fn EN 8 42 S pb s d w.heap.size w.heap.size w.heap.size w (w.alloc (.cells #[.int .i64 0,.string ⟨#[]⟩,.bool false,.slice none 0 0,.slice none 0 0,.slice none 0 0,.slice none 0 0,.slice none 0 0] 42)) o (.slice none 0 0) [] (.slice none 0 0) [] row0 row0 42 S (fun _=>True):=Fn.start h
 obtain ⟨R0,hR⟩:∃ R0,(commandF s d (n + 1) o) = R0:=⟨_,rfl⟩
 rw [hR]
 rw [commandF] at hR
 have H:=Lib.hid h;have HN:=Lib.hid hR;have HON:=Lib.hid hon;have HFU:=Lib.hid hfu
 clear h hR hon hfu
 go_enter Tryz.func91,Tryz.ntmps91
 go_wp2_with fail
 have hc:=simply_any _ pb s o d _ HON.out.hp
 have hn:=HN.out
 generalize (simplyB o) = B at hc hn
 clear HN
 have HC:=Lib.hid hc;have HN:=Lib.hid hn
 clear hc hn
 cases B
 ·have hn:=HN.out
  rw [if_neg (by decide)] at hn
  clear HN
  have HN:=Lib.hid hn
  clear hn
  go_wp2_with fail
  refine HC.out.mono ?_
  rintro e w1 ⟨rfl,hb⟩
  have hon:=HON.out.below elemN hb
  clear HON HC hb
  have HON:=Lib.hid hon
  clear hon
  have hc:=HIC.out _ pb d o _ hd HON.out.hp (by have hfu:=HFU.out;omega)
  have hd:Down s _ (compoundF s d n o):=(downs_all s n).compound d o HON.out.hp.ok
  have hn:=HN.out
  generalize (compoundF s d n o) = rX at hc hd hn
  clear HN
  have HC:=Lib.hid hc;have HD0:=Lib.hid hd;have HN:=Lib.hid hn
  clear hc hd hn
  cases rX with
  | bad i er =>
   go_wp2_with fail
   refine HC.out.mono ?_
   rintro e w2 ⟨hf,rfl⟩
   have HDD:Does S pb s d w VN R0 (thrownP i er) w2:=by rw [show R0 = .bad i er from HN.out.symm];exact ⟨HON.out.fr.trans hf,rfl⟩
   clear hf
   go_wp2_with fail
   exact ⟨rfl,HDD⟩
  | ok x p2 =>
   have hm:=HD0.out _ _ rfl
   have HM4:=Lib.hid hm.1
   have hn:=HN.out
   clear HN HD0 hm
   have HN:=Lib.hid hn
   clear hn
   go_wp2_with fail
   refine HC.out.mono ?_
   rintro e w3 ⟨hf,⟨v,rfl,a1,c1,a2,c2,a3,c3,a4,c4,a5,c5,hv,hx⟩,hp⟩
   have hon:=HON.out.call elemN hf hp
   clear HON HC hf hp
   obtain rfl:v = .agg #[.int .i64 x.k,.string x.nm,.bool x.g,.slice a1 x.az.length c1,.slice a2 x.ws.length c2,.slice a3 x.ks.len c3,.slice a4 x.bs.length c4,.slice a5 x.cz.len c5]:=hv
   have hon:=hon.hold hx
   clear hx
   have HON:=Lib.hid hon
   clear hon
   have r0:=zc0 HON.out.two.rr;have f0:=zf 0 HON.out.two.rr
   have r1:=zc1 HON.out.two.rr;have f1:=zf 1 HON.out.two.rr
   have r2:=zc2 HON.out.two.rr;have f2:=zf 2 HON.out.two.rr
   have r3:=zc3 HON.out.two.rr;have f3:=zf 3 HON.out.two.rr
   have r4:=zc4 HON.out.two.rr;have f4:=zf 4 HON.out.two.rr
   have r5:=zc5 HON.out.two.rr;have f5:=zf 5 HON.out.two.rr
   have r6:=zc6 HON.out.two.rr;have f6:=zf 6 HON.out.two.rr
   have r7:=zc7 HON.out.two.rr;have f7:=zf 7 HON.out.two.rr
   go_wp2_with fail
   have hst:=stored_rb w3 (w.heap.size) (.int .i64 x.k) (.string x.nm) (.bool x.g) (.slice a1 x.az.length c1) (.slice a2 x.ws.length c2) (.slice a3 x.ks.len c3) (.slice a4 x.bs.length c4) (.slice a5 x.cz.len c5) _ _ _ _ _ _ _ _ _ HON.out.two.rr
   generalize ((((((((w3.setCell ⟨w.heap.size,0,none⟩ (.int .i64 x.k)).setCell ⟨w.heap.size,1,none⟩ (.string x.nm)).setCell ⟨w.heap.size,2,none⟩ (.bool x.g)).setCell ⟨w.heap.size,3,none⟩ (.slice a1 x.az.length c1)).setCell ⟨w.heap.size,4,none⟩ (.slice a2 x.ws.length c2)).setCell ⟨w.heap.size,5,none⟩ (.slice a3 x.ks.len c3)).setCell ⟨w.heap.size,6,none⟩ (.slice a4 x.bs.length c4)).setCell ⟨w.heap.size,7,none⟩ (.slice a5 x.cz.len c5)) = W8 at hst ⊢
   obtain ⟨hr8,hch⟩:=hst
   have x0:=Lib.cell_of_heap hr8 0
   have x1:=Lib.cell_of_heap hr8 1
   have x2:=Lib.cell_of_heap hr8 2
   have x3:=Lib.cell_of_heap hr8 3
   have x4:=Lib.cell_of_heap hr8 4
   have x5:=Lib.cell_of_heap hr8 5
   have x6:=Lib.cell_of_heap hr8 6
   have x7:=Lib.cell_of_heap hr8 7
   refine bodyPost_ret (v:=.agg #[.int .i64 x.k,.string x.nm,.bool x.g,.slice a1 x.az.length c1,.slice a2 x.ws.length c2,.slice a3 x.ks.len c3,.slice a4 x.bs.length c4,.slice a5 x.cz.len c5]) (by simp [results,Tryz.results91,go_sem,x0,x1,x2,x3,x4,x5,x6,x7]) rfl ?_
   rw [← HN.out]
   exact HON.out.done H.out hch (VN.self ((HON.out.ks hch).imp fun _ h=>h.2))
 ·have hn:=HN.out
  rw [if_pos rfl] at hn
  clear HN
  have HN:=Lib.hid hn
  clear hn
  go_wp2_with fail
  refine HC.out.mono ?_
  rintro e w1 ⟨rfl,hb⟩
  have hon:=HON.out.below elemN hb
  clear HON HC hb
  have HON:=Lib.hid hon
  clear hon
  have hc:=HIS.out _ pb d o _ hd HON.out.hp (by have hfu:=HFU.out;omega)
  have hd:Down s _ (simpleF s d n o):=(downs_all s n).simple d o HON.out.hp.ok
  have hn:=HN.out
  generalize (simpleF s d n o) = rX at hc hd hn
  clear HN
  have HC:=Lib.hid hc;have HD0:=Lib.hid hd;have HN:=Lib.hid hn
  clear hc hd hn
  cases rX with
  | bad i er =>
   go_wp2_with fail
   refine HC.out.mono ?_
   rintro e w2 ⟨hf,rfl⟩
   have HDD:Does S pb s d w VN R0 (thrownP i er) w2:=by rw [show R0 = .bad i er from HN.out.symm];exact ⟨HON.out.fr.trans hf,rfl⟩
   clear hf
   go_wp2_with fail
   exact ⟨rfl,HDD⟩
  | ok x p5 =>
   have hm:=HD0.out _ _ rfl
   have HM7:=Lib.hid hm.1
   have hn:=HN.out
   clear HN HD0 hm
   have HN:=Lib.hid hn
   clear hn
   go_wp2_with fail
   refine HC.out.mono ?_
   rintro e w6 ⟨hf,⟨v,rfl,a1,c1,a2,c2,a3,c3,a4,c4,a5,c5,hv,hx⟩,hp⟩
   have hon:=HON.out.call elemN hf hp
   clear HON HC hf hp
   obtain rfl:v = .agg #[.int .i64 x.k,.string x.nm,.bool x.g,.slice a1 x.az.length c1,.slice a2 x.ws.length c2,.slice a3 x.ks.len c3,.slice a4 x.bs.length c4,.slice a5 x.cz.len c5]:=hv
   have hon:=hon.hold hx
   clear hx
   have HON:=Lib.hid hon
   clear hon
   have r0:=zc0 HON.out.two.rr;have f0:=zf 0 HON.out.two.rr
   have r1:=zc1 HON.out.two.rr;have f1:=zf 1 HON.out.two.rr
   have r2:=zc2 HON.out.two.rr;have f2:=zf 2 HON.out.two.rr
   have r3:=zc3 HON.out.two.rr;have f3:=zf 3 HON.out.two.rr
   have r4:=zc4 HON.out.two.rr;have f4:=zf 4 HON.out.two.rr
   have r5:=zc5 HON.out.two.rr;have f5:=zf 5 HON.out.two.rr
   have r6:=zc6 HON.out.two.rr;have f6:=zf 6 HON.out.two.rr
   have r7:=zc7 HON.out.two.rr;have f7:=zf 7 HON.out.two.rr
   go_wp2_with fail
   have hst:=stored_rb w6 (w.heap.size) (.int .i64 x.k) (.string x.nm) (.bool x.g) (.slice a1 x.az.length c1) (.slice a2 x.ws.length c2) (.slice a3 x.ks.len c3) (.slice a4 x.bs.length c4) (.slice a5 x.cz.len c5) _ _ _ _ _ _ _ _ _ HON.out.two.rr
   generalize ((((((((w6.setCell ⟨w.heap.size,0,none⟩ (.int .i64 x.k)).setCell ⟨w.heap.size,1,none⟩ (.string x.nm)).setCell ⟨w.heap.size,2,none⟩ (.bool x.g)).setCell ⟨w.heap.size,3,none⟩ (.slice a1 x.az.length c1)).setCell ⟨w.heap.size,4,none⟩ (.slice a2 x.ws.length c2)).setCell ⟨w.heap.size,5,none⟩ (.slice a3 x.ks.len c3)).setCell ⟨w.heap.size,6,none⟩ (.slice a4 x.bs.length c4)).setCell ⟨w.heap.size,7,none⟩ (.slice a5 x.cz.len c5)) = W8 at hst ⊢
   obtain ⟨hr8,hch⟩:=hst
   have x0:=Lib.cell_of_heap hr8 0
   have x1:=Lib.cell_of_heap hr8 1
   have x2:=Lib.cell_of_heap hr8 2
   have x3:=Lib.cell_of_heap hr8 3
   have x4:=Lib.cell_of_heap hr8 4
   have x5:=Lib.cell_of_heap hr8 5
   have x6:=Lib.cell_of_heap hr8 6
   have x7:=Lib.cell_of_heap hr8 7
   refine bodyPost_ret (v:=.agg #[.int .i64 x.k,.string x.nm,.bool x.g,.slice a1 x.az.length c1,.slice a2 x.ws.length c2,.slice a3 x.ks.len c3,.slice a4 x.bs.length c4,.slice a5 x.cz.len c5]) (by simp [results,Tryz.results91,go_sem,x0,x1,x2,x3,x4,x5,x6,x7]) rfl ?_
   rw [← HN.out]
   exact HON.out.done H.out hch (VN.self ((HON.out.ks hch).imp fun _ h=>h.2))
set_option maxHeartbeats 4000000 in
set_option maxRecDepth 100000 in
theorem unit_step (s:ByteArray) (hs:s.size≤400000) (n:Nat) (IH:CommandAt s n):UnitAt s (n + 1):=by
 intro S pb d o w hd h hfu
 have HIH:=Lib.hid IH
 clear IH
 have hon:Fn EN 8 42 S pb s d w.heap.size w.heap.size w.heap.size w (w.alloc (.cells #[.int .i64 0,.string ⟨#[]⟩,.bool false,.slice none 0 0,.slice none 0 0,.slice none 0 0,.slice none 0 0,.slice none 0 0] 42)) o (.slice none 0 0) [] (.slice none 0 0) [] row0 row0 42 S (fun _=>True):=Fn.start h
 obtain ⟨R0,hR⟩:∃ R0,(unitF s d (n + 1) o) = R0:=⟨_,rfl⟩
 rw [hR]
 rw [unitF] at hR
 have H:=Lib.hid h;have HN:=Lib.hid hR;have HON:=Lib.hid hon;have HFU:=Lib.hid hfu
 clear h hR hon hfu
 go_enter Tryz.func73,Tryz.ntmps73
 go_wp2_with fail
 have hc:=skip_row _ pb s hs o d [⟨#[33]⟩] _ HON.out.hp (by decide)
 try simp only [World.size_alloc] at hc
 have hd:Down s _ (skipF s [⟨#[33]⟩] o):=skip_down (s:=s) (o:=o) (l:=[⟨#[33]⟩]) HON.out.hp.ok (by decide)
 have hn:=HN.out
 generalize (skipF s [⟨#[33]⟩] o) = rX at hc hd hn
 clear HN
 have HC:=Lib.hid hc;have HD0:=Lib.hid hd;have HN:=Lib.hid hn
 clear hc hd hn
 cases rX with
 | bad i er =>
  go_wp2_with fail
  refine HC.out.mono ?_
  rintro e w2 ⟨hf,rfl⟩
  have HDD:Does S pb s d w VN R0 (thrownP i er) w2:=by rw [show R0 = .bad i er from HN.out.symm];exact ⟨HON.out.fr.trans hf,rfl⟩
  clear hf
  go_wp2_with fail
  exact ⟨rfl,HDD⟩
 | ok b p1 =>
  have hm:=HD0.out _ _ rfl
  have HM3:=Lib.hid hm.1
  have hn:=HN.out
  rw [Rs.bind_ok] at hn
  clear HN HD0 hm
  have HN:=Lib.hid hn
  clear hn
  go_wp2_with fail
  refine HC.out.mono ?_
  rintro e w2 ⟨hf,⟨v,rfl,rfl⟩,hp⟩
  have hon:=HON.out.call elemN hf hp
  clear HON HC hf hp
  have HON:=Lib.hid hon
  clear hon
  cases b
  ·have hn:=HN.out
   rw [if_neg (by decide)] at hn
   clear HN
   have HN:=Lib.hid hn
   clear hn
   have hc:=HIH.out _ pb d p1 _ hd HON.out.hp (by have hm3:=HM3.out;have hfu:=HFU.out;omega)
   have hd:Down s _ (commandF s d n p1):=(downs_all s n).command d p1 HON.out.hp.ok
   have hn:=HN.out
   generalize (commandF s d n p1) = rX at hc hd hn
   clear HN
   have HC:=Lib.hid hc;have HD0:=Lib.hid hd;have HN:=Lib.hid hn
   clear hc hd hn
   cases rX with
   | bad i er =>
    go_wp2_with fail
    refine HC.out.mono ?_
    rintro e w2 ⟨hf,rfl⟩
    have HDD:Does S pb s d w VN R0 (thrownP i er) w2:=by rw [show R0 = .bad i er from HN.out.symm];exact ⟨HON.out.fr.trans hf,rfl⟩
    clear hf
    go_wp2_with fail
    exact ⟨rfl,HDD⟩
   | ok x p4 =>
    have hm:=HD0.out _ _ rfl
    have HM6:=Lib.hid hm.1
    have hn:=HN.out
    clear HN HD0 hm
    have HN:=Lib.hid hn
    clear hn
    go_wp2_with fail
    refine HC.out.mono ?_
    rintro e w5 ⟨hf,⟨v,rfl,a1,c1,a2,c2,a3,c3,a4,c4,a5,c5,hv,hx⟩,hp⟩
    have hon:=HON.out.call elemN hf hp
    clear HON HC hf hp
    obtain rfl:v = .agg #[.int .i64 x.k,.string x.nm,.bool x.g,.slice a1 x.az.length c1,.slice a2 x.ws.length c2,.slice a3 x.ks.len c3,.slice a4 x.bs.length c4,.slice a5 x.cz.len c5]:=hv
    have hon:=hon.hold hx
    clear hx
    have HON:=Lib.hid hon
    clear hon
    have r0:=zc0 HON.out.two.rr;have f0:=zf 0 HON.out.two.rr
    have r1:=zc1 HON.out.two.rr;have f1:=zf 1 HON.out.two.rr
    have r2:=zc2 HON.out.two.rr;have f2:=zf 2 HON.out.two.rr
    have r3:=zc3 HON.out.two.rr;have f3:=zf 3 HON.out.two.rr
    have r4:=zc4 HON.out.two.rr;have f4:=zf 4 HON.out.two.rr
    have r5:=zc5 HON.out.two.rr;have f5:=zf 5 HON.out.two.rr
    have r6:=zc6 HON.out.two.rr;have f6:=zf 6 HON.out.two.rr
    have r7:=zc7 HON.out.two.rr;have f7:=zf 7 HON.out.two.rr
    go_wp2_with fail
    have hst:=stored_rb w5 (w.heap.size) (.int .i64 x.k) (.string x.nm) (.bool x.g) (.slice a1 x.az.length c1) (.slice a2 x.ws.length c2) (.slice a3 x.ks.len c3) (.slice a4 x.bs.length c4) (.slice a5 x.cz.len c5) _ _ _ _ _ _ _ _ _ HON.out.two.rr
    generalize ((((((((w5.setCell ⟨w.heap.size,0,none⟩ (.int .i64 x.k)).setCell ⟨w.heap.size,1,none⟩ (.string x.nm)).setCell ⟨w.heap.size,2,none⟩ (.bool x.g)).setCell ⟨w.heap.size,3,none⟩ (.slice a1 x.az.length c1)).setCell ⟨w.heap.size,4,none⟩ (.slice a2 x.ws.length c2)).setCell ⟨w.heap.size,5,none⟩ (.slice a3 x.ks.len c3)).setCell ⟨w.heap.size,6,none⟩ (.slice a4 x.bs.length c4)).setCell ⟨w.heap.size,7,none⟩ (.slice a5 x.cz.len c5)) = W8 at hst ⊢
    obtain ⟨hr8,hch⟩:=hst
    have x0:=Lib.cell_of_heap hr8 0
    have x1:=Lib.cell_of_heap hr8 1
    have x2:=Lib.cell_of_heap hr8 2
    have x3:=Lib.cell_of_heap hr8 3
    have x4:=Lib.cell_of_heap hr8 4
    have x5:=Lib.cell_of_heap hr8 5
    have x6:=Lib.cell_of_heap hr8 6
    have x7:=Lib.cell_of_heap hr8 7
    refine bodyPost_ret (v:=.agg #[.int .i64 x.k,.string x.nm,.bool x.g,.slice a1 x.az.length c1,.slice a2 x.ws.length c2,.slice a3 x.ks.len c3,.slice a4 x.bs.length c4,.slice a5 x.cz.len c5]) (by simp [results,Tryz.results73,go_sem,x0,x1,x2,x3,x4,x5,x6,x7]) rfl ?_
    rw [← HN.out]
    exact HON.out.done H.out hch (VN.self ((HON.out.ks hch).imp fun _ h=>h.2))
  ·have hn:=HN.out
   rw [if_pos rfl] at hn
   clear HN
   have HN:=Lib.hid hn
   clear hn
   have hc:=HIH.out _ pb d p1 _ hd HON.out.hp (by have hm3:=HM3.out;have hfu:=HFU.out;omega)
   have hd:Down s _ (commandF s d n p1):=(downs_all s n).command d p1 HON.out.hp.ok
   have hn:=HN.out
   generalize (commandF s d n p1) = rX at hc hd hn
   clear HN
   have HC:=Lib.hid hc;have HD0:=Lib.hid hd;have HN:=Lib.hid hn
   clear hc hd hn
   cases rX with
   | bad i er =>
    go_wp2_with fail
    refine HC.out.mono ?_
    rintro e w2 ⟨hf,rfl⟩
    have HDD:Does S pb s d w VN R0 (thrownP i er) w2:=by rw [show R0 = .bad i er from HN.out.symm];exact ⟨HON.out.fr.trans hf,rfl⟩
    clear hf
    go_wp2_with fail
    exact ⟨rfl,HDD⟩
   | ok x p7 =>
    have hm:=HD0.out _ _ rfl
    have HM9:=Lib.hid hm.1
    have hn:=HN.out
    rw [Rs.bind_ok] at hn
    clear HN HD0 hm
    have HN:=Lib.hid hn
    clear hn
    go_wp2_with fail
    refine HC.out.mono ?_
    rintro e w8 ⟨hf,⟨v,rfl,a1,c1,a2,c2,a3,c3,a4,c4,a5,c5,hv,hx⟩,hp⟩
    have hon:=HON.out.call elemN hf hp
    clear HON HC hf hp
    obtain rfl:v = .agg #[.int .i64 x.k,.string x.nm,.bool x.g,.slice a1 x.az.length c1,.slice a2 x.ws.length c2,.slice a3 x.ks.len c3,.slice a4 x.bs.length c4,.slice a5 x.cz.len c5]:=hv
    have hon:=hon.hold hx
    clear hx
    have HON:=Lib.hid hon
    clear hon
    have hks:=KS.row (m:=1) (row:=#[.int .i64 x.k,.string x.nm,.bool x.g,.slice a1 x.az.length c1,.slice a2 x.ws.length c2,.slice a3 x.ks.len c3,.slice a4 x.bs.length c4,.slice a5 x.cz.len c5]) (ty:=42) elemN (cells1 (HON.out.held.imp fun _ h=>h.2)) rfl (by decide)
    have hon:=(HON.out.grow elemN (bel1 w8 (.cells #[.int .i64 x.k,.string x.nm,.bool x.g,.slice a1 x.az.length c1,.slice a2 x.ws.length c2,.slice a3 x.ks.len c3,.slice a4 x.bs.length c4,.slice a5 x.cz.len c5] 42))).keep hks
    clear HON hks
    have HON:=Lib.hid hon
    clear hon
    have r0:=zc0 HON.out.two.rr;have f0:=zf 0 HON.out.two.rr
    have r1:=zc1 HON.out.two.rr;have f1:=zf 1 HON.out.two.rr
    have r2:=zc2 HON.out.two.rr;have f2:=zf 2 HON.out.two.rr
    have r3:=zc3 HON.out.two.rr;have f3:=zf 3 HON.out.two.rr
    have r4:=zc4 HON.out.two.rr;have f4:=zf 4 HON.out.two.rr
    have r5:=zc5 HON.out.two.rr;have f5:=zf 5 HON.out.two.rr
    have r6:=zc6 HON.out.two.rr;have f6:=zf 6 HON.out.two.rr
    have r7:=zc7 HON.out.two.rr;have f7:=zf 7 HON.out.two.rr
    go_wp2_with fail
    have hst:=stored_rb (w8.alloc (.cells #[.int .i64 x.k,.string x.nm,.bool x.g,.slice a1 x.az.length c1,.slice a2 x.ws.length c2,.slice a3 x.ks.len c3,.slice a4 x.bs.length c4,.slice a5 x.cz.len c5] 42)) (w.heap.size) (.int .i64 4) (.string ⟨#[]⟩) (.bool false) (.slice none 0 0) (.slice none 0 0) (.slice (some ⟨w8.heap.size,0,none⟩) 1 1) (.slice none 0 0) (.slice none 0 0) _ _ _ _ _ _ _ _ _ HON.out.two.rr
    generalize (((((((((w8.alloc (.cells #[.int .i64 x.k,.string x.nm,.bool x.g,.slice a1 x.az.length c1,.slice a2 x.ws.length c2,.slice a3 x.ks.len c3,.slice a4 x.bs.length c4,.slice a5 x.cz.len c5] 42)).setCell ⟨w.heap.size,0,none⟩ (.int .i64 4)).setCell ⟨w.heap.size,1,none⟩ (.string ⟨#[]⟩)).setCell ⟨w.heap.size,2,none⟩ (.bool false)).setCell ⟨w.heap.size,3,none⟩ (.slice none 0 0)).setCell ⟨w.heap.size,4,none⟩ (.slice none 0 0)).setCell ⟨w.heap.size,5,none⟩ (.slice (some ⟨w8.heap.size,0,none⟩) 1 1)).setCell ⟨w.heap.size,6,none⟩ (.slice none 0 0)).setCell ⟨w.heap.size,7,none⟩ (.slice none 0 0)) = W8 at hst ⊢
    obtain ⟨hr8,hch⟩:=hst
    have x0:=Lib.cell_of_heap hr8 0
    have x1:=Lib.cell_of_heap hr8 1
    have x2:=Lib.cell_of_heap hr8 2
    have x3:=Lib.cell_of_heap hr8 3
    have x4:=Lib.cell_of_heap hr8 4
    have x5:=Lib.cell_of_heap hr8 5
    have x6:=Lib.cell_of_heap hr8 6
    have x7:=Lib.cell_of_heap hr8 7
    refine bodyPost_ret (v:=.agg #[.int .i64 4,.string ⟨#[]⟩,.bool false,.slice none 0 0,.slice none 0 0,.slice (some ⟨w8.heap.size,0,none⟩) 1 1,.slice none 0 0,.slice none 0 0]) (by simp [results,Tryz.results73,go_sem,x0,x1,x2,x3,x4,x5,x6,x7]) rfl ?_
    rw [← HN.out]
    exact HON.out.done H.out hch (VN.kids rfl R_empty (HON.out.ks hch))
set_option maxHeartbeats 4000000 in
set_option maxRecDepth 100000 in
theorem enc_step (s:ByteArray) (hs:s.size≤400000) (n:Nat) (IH:BodyAt s n):EncAt s n:=by
 intro S pb d o w k t hne hd h hfu
 have HIH:=Lib.hid IH
 clear IH
 rw [← Rs.bind_assoc]
 have hon:Fn EN 8 42 S pb s d w.heap.size w.heap.size w.heap.size w (w.alloc (.cells #[.int .i64 0,.string ⟨#[]⟩,.bool false,.slice none 0 0,.slice none 0 0,.slice none 0 0,.slice none 0 0,.slice none 0 0] 42)) o (.slice none 0 0) [] (.slice none 0 0) [] row0 row0 42 S (fun _=>True):=Fn.start h
 obtain ⟨R0,hR⟩:∃ R0,(((linesF s o).bind fun _ o=>listF s d n [] [] o).bind fun x o=>(takeF s [t] o).bind fun _ o=>.ok (nd k [x]) o) = R0:=⟨_,rfl⟩
 rw [hR]
 have H:=Lib.hid h;have HN:=Lib.hid hR;have HON:=Lib.hid hon;have HFU:=Lib.hid hfu
 clear h hR hon hfu
 go_enter Tryz.func125,Tryz.ntmps125
 go_wp2_with fail
 skip
 have hc:=HIH.out _ pb d o _ hd HON.out.hp (by have hfu:=HFU.out;omega)
 have hd:Down s _ ((linesF s o).bind fun _ o=>listF s d n [] [] o):=(lines_down s (F s) o HON.out.hp.ok).bind fun _ q _ hq=>(downs_all s n).list d [] [] q hq
 have hn:=HN.out
 generalize ((linesF s o).bind fun _ o=>listF s d n [] [] o) = rX at hc hd hn
 clear HN
 have HC:=Lib.hid hc;have HD0:=Lib.hid hd;have HN:=Lib.hid hn
 clear hc hd hn
 cases rX with
 | bad i er =>
  go_wp2_with fail
  refine HC.out.mono ?_
  rintro e w2 ⟨hf,rfl⟩
  have HDD:Does S pb s d w VN R0 (thrownP i er) w2:=by rw [show R0 = .bad i er from HN.out.symm];exact ⟨HON.out.fr.trans hf,rfl⟩
  clear hf
  go_wp2_with fail
  exact ⟨rfl,HDD⟩
 | ok x p1 =>
  have hm:=HD0.out _ _ rfl
  have HM3:=Lib.hid hm.1
  have hn:=HN.out
  rw [Rs.bind_ok] at hn
  clear HN HD0 hm
  have HN:=Lib.hid hn
  clear hn
  go_wp2_with fail
  refine HC.out.mono ?_
  rintro e w2 ⟨hf,⟨v,rfl,a1,c1,a2,c2,a3,c3,a4,c4,a5,c5,hv,hx⟩,hp⟩
  have hon:=HON.out.call elemN hf hp
  clear HON HC hf hp
  obtain rfl:v = .agg #[.int .i64 x.k,.string x.nm,.bool x.g,.slice a1 x.az.length c1,.slice a2 x.ws.length c2,.slice a3 x.ks.len c3,.slice a4 x.bs.length c4,.slice a5 x.cz.len c5]:=hv
  have hon:=hon.hold hx
  clear hx
  have HON:=Lib.hid hon
  clear hon
  have hks:=KS.row (m:=1) (row:=#[.int .i64 x.k,.string x.nm,.bool x.g,.slice a1 x.az.length c1,.slice a2 x.ws.length c2,.slice a3 x.ks.len c3,.slice a4 x.bs.length c4,.slice a5 x.cz.len c5]) (ty:=42) elemN (cells1 (HON.out.held.imp fun _ h=>h.2)) rfl (by decide)
  have hon:=(HON.out.grow elemN (bel1 w2 (.cells #[.int .i64 x.k,.string x.nm,.bool x.g,.slice a1 x.az.length c1,.slice a2 x.ws.length c2,.slice a3 x.ks.len c3,.slice a4 x.bs.length c4,.slice a5 x.cz.len c5] 42))).keep hks
  clear HON hks
  have HON:=Lib.hid hon
  clear hon
  have hon:Fn EN 8 42 S pb s d ((w2.alloc (.cells #[.int .i64 x.k,.string x.nm,.bool x.g,.slice a1 x.az.length c1,.slice a2 x.ws.length c2,.slice a3 x.ks.len c3,.slice a4 x.bs.length c4,.slice a5 x.cz.len c5] 42))).heap.size w.heap.size w.heap.size w ((w2.alloc (.cells #[.int .i64 x.k,.string x.nm,.bool x.g,.slice a1 x.az.length c1,.slice a2 x.ws.length c2,.slice a3 x.ks.len c3,.slice a4 x.bs.length c4,.slice a5 x.cz.len c5] 42)).alloc (.cells #[.int .i64 k,.string ⟨#[]⟩,.bool false,.slice none 0 0,.slice none 0 0,.slice (some ⟨w2.heap.size,0,none⟩) 1 1,.slice none 0 0,.slice none 0 0] 42)) _ (.slice none 0 0) [] (.slice none 0 0) [] #[.int .i64 k,.string ⟨#[]⟩,.bool false,.slice none 0 0,.slice none 0 0,.slice (some ⟨w2.heap.size,0,none⟩) 1 1,.slice none 0 0,.slice none 0 0] row0 42 _ _:=HON.out.var elemN (Row.nil _ _ _ _) (fun _ h=>by cases h)
  clear HON
  have esz:((w2.alloc (.cells #[.int .i64 x.k,.string x.nm,.bool x.g,.slice a1 x.az.length c1,.slice a2 x.ws.length c2,.slice a3 x.ks.len c3,.slice a4 x.bs.length c4,.slice a5 x.cz.len c5] 42))).heap.size = w2.heap.size + 1:=by simp
  rw [esz] at hon
  clear esz
  have HON:=Lib.hid hon
  clear hon
  have hc:=take_row _ pb s hs p1 d [t] _ HON.out.hp (by simp)
  try simp only [World.size_alloc] at hc
  have hd:DownS s _ (takeF s [t] p1):=take_down (s:=s) (o:=p1) (l:=[t]) HON.out.hp.ok (by simpa using hne)
  have hn:=HN.out
  generalize (takeF s [t] p1) = rX at hc hd hn
  clear HN
  have HC:=Lib.hid hc;have HD0:=Lib.hid hd;have HN:=Lib.hid hn
  clear hc hd hn
  cases rX with
  | bad i er =>
   go_wp2_with fail
   refine HC.out.mono ?_
   rintro e w2 ⟨hf,rfl⟩
   have HDD:Does S pb s d w VN R0 (thrownP i er) w2:=by rw [show R0 = .bad i er from HN.out.symm];exact ⟨HON.out.fr.trans hf,rfl⟩
   clear hf
   go_wp2_with fail
   exact ⟨rfl,HDD⟩
  | ok u p4 =>
   have hm:=HD0.out _ _ rfl
   have HM6:=Lib.hid hm.1
   have hn:=HN.out
   rw [Rs.bind_ok] at hn
   clear HN HD0 hm
   have HN:=Lib.hid hn
   clear hn
   go_wp2_with fail
   refine HC.out.mono ?_
   rintro e w5 ⟨hf,⟨v,rfl,rfl⟩,hp⟩
   have hon:=HON.out.call elemN hf hp
   clear HON HC hf hp
   have HON:=Lib.hid hon
   clear hon
   have r0:=zc0 HON.out.two.rr;have f0:=zf 0 HON.out.two.rr;have k0:=zc0 HON.out.two.nr
   have r1:=zc1 HON.out.two.rr;have f1:=zf 1 HON.out.two.rr;have k1:=zc1 HON.out.two.nr
   have r2:=zc2 HON.out.two.rr;have f2:=zf 2 HON.out.two.rr;have k2:=zc2 HON.out.two.nr
   have r3:=zc3 HON.out.two.rr;have f3:=zf 3 HON.out.two.rr;have k3:=zc3 HON.out.two.nr
   have r4:=zc4 HON.out.two.rr;have f4:=zf 4 HON.out.two.rr;have k4:=zc4 HON.out.two.nr
   have r5:=zc5 HON.out.two.rr;have f5:=zf 5 HON.out.two.rr;have k5:=zc5 HON.out.two.nr
   have r6:=zc6 HON.out.two.rr;have f6:=zf 6 HON.out.two.rr;have k6:=zc6 HON.out.two.nr
   have r7:=zc7 HON.out.two.rr;have f7:=zf 7 HON.out.two.rr;have k7:=zc7 HON.out.two.nr
   go_wp2_with fail
   have hst:=stored_rb w5 (w.heap.size) (.int .i64 k) (.string ⟨#[]⟩) (.bool false) (.slice none 0 0) (.slice none 0 0) (.slice (some ⟨w2.heap.size,0,none⟩) 1 1) (.slice none 0 0) (.slice none 0 0) _ _ _ _ _ _ _ _ _ HON.out.two.rr
   generalize ((((((((w5.setCell ⟨w.heap.size,0,none⟩ (.int .i64 k)).setCell ⟨w.heap.size,1,none⟩ (.string ⟨#[]⟩)).setCell ⟨w.heap.size,2,none⟩ (.bool false)).setCell ⟨w.heap.size,3,none⟩ (.slice none 0 0)).setCell ⟨w.heap.size,4,none⟩ (.slice none 0 0)).setCell ⟨w.heap.size,5,none⟩ (.slice (some ⟨w2.heap.size,0,none⟩) 1 1)).setCell ⟨w.heap.size,6,none⟩ (.slice none 0 0)).setCell ⟨w.heap.size,7,none⟩ (.slice none 0 0)) = W8 at hst ⊢
   obtain ⟨hr8,hch⟩:=hst
   have x0:=Lib.cell_of_heap hr8 0
   have x1:=Lib.cell_of_heap hr8 1
   have x2:=Lib.cell_of_heap hr8 2
   have x3:=Lib.cell_of_heap hr8 3
   have x4:=Lib.cell_of_heap hr8 4
   have x5:=Lib.cell_of_heap hr8 5
   have x6:=Lib.cell_of_heap hr8 6
   have x7:=Lib.cell_of_heap hr8 7
   refine bodyPost_ret (v:=.agg #[.int .i64 k,.string ⟨#[]⟩,.bool false,.slice none 0 0,.slice none 0 0,.slice (some ⟨w2.heap.size,0,none⟩) 1 1,.slice none 0 0,.slice none 0 0]) (by simp [results,Tryz.results125,go_sem,x0,x1,x2,x3,x4,x5,x6,x7]) rfl ?_
   rw [← HN.out]
   exact HON.out.done H.out hch (VN.kids rfl R_empty (HON.out.ks hch))
set_option maxHeartbeats 4000000 in
set_option maxRecDepth 100000 in
theorem loop_step (s:ByteArray) (hs:s.size≤400000) (n:Nat) (IH:BodyAt s n) (IB:BehindAt s n):LoopAt s (n + 1):=by
 intro S pb d o w k hd h hfu
 have HIH:=Lib.hid IH;have HIB:=Lib.hid IB
 clear IH IB
 have hon:Fn EN 8 42 S pb s d w.heap.size w.heap.size w.heap.size w (w.alloc (.cells #[.int .i64 0,.string ⟨#[]⟩,.bool false,.slice none 0 0,.slice none 0 0,.slice none 0 0,.slice none 0 0,.slice none 0 0] 42)) o (.slice none 0 0) [] (.slice none 0 0) [] row0 row0 42 S (fun _=>True):=Fn.start h
 obtain ⟨R0,hR⟩:∃ R0,(loopF s d (n + 1) k o) = R0:=⟨_,rfl⟩
 rw [hR]
 rw [loopF] at hR
 have H:=Lib.hid h;have HN:=Lib.hid hR;have HON:=Lib.hid hon;have HFU:=Lib.hid hfu
 clear h hR hon hfu
 go_enter Tryz.func127,Tryz.ntmps127
 go_wp2_with fail
 have hn:=HN.out
 rw [← Rs.bind_assoc] at hn
 clear HN
 have HN:=Lib.hid hn
 clear hn
 have hc:=HIH.out _ pb d o _ hd HON.out.hp (by have hfu:=HFU.out;omega)
 have hd:Down s _ ((linesF s o).bind fun _ o=>listF s d n [] [] o):=(lines_down s (F s) o HON.out.hp.ok).bind fun _ q _ hq=>(downs_all s n).list d [] [] q hq
 have hn:=HN.out
 generalize ((linesF s o).bind fun _ o=>listF s d n [] [] o) = rX at hc hd hn
 clear HN
 have HC:=Lib.hid hc;have HD0:=Lib.hid hd;have HN:=Lib.hid hn
 clear hc hd hn
 cases rX with
 | bad i er =>
  go_wp2_with fail
  refine HC.out.mono ?_
  rintro e w2 ⟨hf,rfl⟩
  have HDD:Does S pb s d w VN R0 (thrownP i er) w2:=by rw [show R0 = .bad i er from HN.out.symm];exact ⟨HON.out.fr.trans hf,rfl⟩
  clear hf
  go_wp2_with fail
  exact ⟨rfl,HDD⟩
 | ok x p1 =>
  have hm:=HD0.out _ _ rfl
  have HM3:=Lib.hid hm.1
  have hn:=HN.out
  rw [Rs.bind_ok] at hn
  clear HN HD0 hm
  have HN:=Lib.hid hn
  clear hn
  go_wp2_with fail
  refine HC.out.mono ?_
  rintro e w2 ⟨hf,⟨v,rfl,a1,c1,a2,c2,a3,c3,a4,c4,a5,c5,hv,hx⟩,hp⟩
  have hon:=HON.out.call elemN hf hp
  clear HON HC hf hp
  obtain rfl:v = .agg #[.int .i64 x.k,.string x.nm,.bool x.g,.slice a1 x.az.length c1,.slice a2 x.ws.length c2,.slice a3 x.ks.len c3,.slice a4 x.bs.length c4,.slice a5 x.cz.len c5]:=hv
  have hon:=hon.hold hx
  clear hx
  have HON:=Lib.hid hon
  clear hon
  have hc:=HIB.out _ pb d p1 _ ⟨#[100,111]⟩ (by decide) hd HON.out.hp (by have hm3:=HM3.out;have hfu:=HFU.out;omega)
  have hd:Down s _ (behindF s d n ⟨#[100,111]⟩ p1):=((downs_all s n).behind d ⟨#[100,111]⟩ p1 (by decide) HON.out.hp.ok).to
  have hn:=HN.out
  generalize (behindF s d n ⟨#[100,111]⟩ p1) = rX at hc hd hn
  clear HN
  have HC:=Lib.hid hc;have HD0:=Lib.hid hd;have HN:=Lib.hid hn
  clear hc hd hn
  cases rX with
  | bad i er =>
   go_wp2_with fail
   refine HC.out.mono ?_
   rintro e w2 ⟨hf,rfl⟩
   have HDD:Does S pb s d w VN R0 (thrownP i er) w2:=by rw [show R0 = .bad i er from HN.out.symm];exact ⟨HON.out.fr.trans hf,rfl⟩
   clear hf
   go_wp2_with fail
   exact ⟨rfl,HDD⟩
  | ok y p4 =>
   have hm:=HD0.out _ _ rfl
   have HM6:=Lib.hid hm.1
   have hn:=HN.out
   rw [Rs.bind_ok] at hn
   clear HN HD0 hm
   have HN:=Lib.hid hn
   clear hn
   go_wp2_with fail
   refine HC.out.mono ?_
   rintro e w5 ⟨hf,⟨v,rfl,a1b,c1b,a2b,c2b,a3b,c3b,a4b,c4b,a5b,c5b,hv,hx⟩,hp⟩
   have hon:=HON.out.call elemN hf hp
   clear HON HC hf hp
   obtain rfl:v = .agg #[.int .i64 y.k,.string y.nm,.bool y.g,.slice a1b y.az.length c1b,.slice a2b y.ws.length c2b,.slice a3b y.ks.len c3b,.slice a4b y.bs.length c4b,.slice a5b y.cz.len c5b]:=hv
   have hon:=hon.hold hx
   clear hx
   have HON:=Lib.hid hon
   clear hon
   have hks:=KS.row (m:=2) (row:=#[.int .i64 x.k,.string x.nm,.bool x.g,.slice a1 x.az.length c1,.slice a2 x.ws.length c2,.slice a3 x.ks.len c3,.slice a4 x.bs.length c4,.slice a5 x.cz.len c5,.int .i64 y.k,.string y.nm,.bool y.g,.slice a1b y.az.length c1b,.slice a2b y.ws.length c2b,.slice a3b y.ks.len c3b,.slice a4b y.bs.length c4b,.slice a5b y.cz.len c5b]) (ty:=42) elemN (cells2 (HON.out.held.imp fun _ h=>h.1.2) (HON.out.held.imp fun _ h=>h.2)) rfl (by decide)
   have hon:=(HON.out.grow elemN (bel1 w5 (.cells #[.int .i64 x.k,.string x.nm,.bool x.g,.slice a1 x.az.length c1,.slice a2 x.ws.length c2,.slice a3 x.ks.len c3,.slice a4 x.bs.length c4,.slice a5 x.cz.len c5,.int .i64 y.k,.string y.nm,.bool y.g,.slice a1b y.az.length c1b,.slice a2b y.ws.length c2b,.slice a3b y.ks.len c3b,.slice a4b y.bs.length c4b,.slice a5b y.cz.len c5b] 42))).keep hks
   clear HON hks
   have HON:=Lib.hid hon
   clear hon
   have hon:Fn EN 8 42 S pb s d ((w5.alloc (.cells #[.int .i64 x.k,.string x.nm,.bool x.g,.slice a1 x.az.length c1,.slice a2 x.ws.length c2,.slice a3 x.ks.len c3,.slice a4 x.bs.length c4,.slice a5 x.cz.len c5,.int .i64 y.k,.string y.nm,.bool y.g,.slice a1b y.az.length c1b,.slice a2b y.ws.length c2b,.slice a3b y.ks.len c3b,.slice a4b y.bs.length c4b,.slice a5b y.cz.len c5b] 42))).heap.size w.heap.size w.heap.size w ((w5.alloc (.cells #[.int .i64 x.k,.string x.nm,.bool x.g,.slice a1 x.az.length c1,.slice a2 x.ws.length c2,.slice a3 x.ks.len c3,.slice a4 x.bs.length c4,.slice a5 x.cz.len c5,.int .i64 y.k,.string y.nm,.bool y.g,.slice a1b y.az.length c1b,.slice a2b y.ws.length c2b,.slice a3b y.ks.len c3b,.slice a4b y.bs.length c4b,.slice a5b y.cz.len c5b] 42)).alloc (.cells #[.int .i64 k,.string ⟨#[]⟩,.bool false,.slice none 0 0,.slice none 0 0,.slice (some ⟨w5.heap.size,0,none⟩) 2 2,.slice none 0 0,.slice none 0 0] 42)) _ (.slice none 0 0) [] (.slice none 0 0) [] #[.int .i64 k,.string ⟨#[]⟩,.bool false,.slice none 0 0,.slice none 0 0,.slice (some ⟨w5.heap.size,0,none⟩) 2 2,.slice none 0 0,.slice none 0 0] row0 42 _ _:=HON.out.var elemN (Row.nil _ _ _ _) (fun _ h=>by cases h)
   clear HON
   have esz:((w5.alloc (.cells #[.int .i64 x.k,.string x.nm,.bool x.g,.slice a1 x.az.length c1,.slice a2 x.ws.length c2,.slice a3 x.ks.len c3,.slice a4 x.bs.length c4,.slice a5 x.cz.len c5,.int .i64 y.k,.string y.nm,.bool y.g,.slice a1b y.az.length c1b,.slice a2b y.ws.length c2b,.slice a3b y.ks.len c3b,.slice a4b y.bs.length c4b,.slice a5b y.cz.len c5b] 42))).heap.size = w5.heap.size + 1:=by simp
   rw [esz] at hon
   clear esz
   have HON:=Lib.hid hon
   clear hon
   have hc:=take_row _ pb s hs p4 d [⟨#[100,111,110,101]⟩] _ HON.out.hp (by decide)
   try simp only [World.size_alloc] at hc
   have hd:DownS s _ (takeF s [⟨#[100,111,110,101]⟩] p4):=take_down (s:=s) (o:=p4) (l:=[⟨#[100,111,110,101]⟩]) HON.out.hp.ok (by decide)
   have hn:=HN.out
   generalize (takeF s [⟨#[100,111,110,101]⟩] p4) = rX at hc hd hn
   clear HN
   have HC:=Lib.hid hc;have HD0:=Lib.hid hd;have HN:=Lib.hid hn
   clear hc hd hn
   cases rX with
   | bad i er =>
    go_wp2_with fail
    refine HC.out.mono ?_
    rintro e w2 ⟨hf,rfl⟩
    have HDD:Does S pb s d w VN R0 (thrownP i er) w2:=by rw [show R0 = .bad i er from HN.out.symm];exact ⟨HON.out.fr.trans hf,rfl⟩
    clear hf
    go_wp2_with fail
    exact ⟨rfl,HDD⟩
   | ok u p7 =>
    have hm:=HD0.out _ _ rfl
    have HM9:=Lib.hid hm.1
    have hn:=HN.out
    rw [Rs.bind_ok] at hn
    clear HN HD0 hm
    have HN:=Lib.hid hn
    clear hn
    go_wp2_with fail
    refine HC.out.mono ?_
    rintro e w8 ⟨hf,⟨v,rfl,rfl⟩,hp⟩
    have hon:=HON.out.call elemN hf hp
    clear HON HC hf hp
    have HON:=Lib.hid hon
    clear hon
    have r0:=zc0 HON.out.two.rr;have f0:=zf 0 HON.out.two.rr;have k0:=zc0 HON.out.two.nr
    have r1:=zc1 HON.out.two.rr;have f1:=zf 1 HON.out.two.rr;have k1:=zc1 HON.out.two.nr
    have r2:=zc2 HON.out.two.rr;have f2:=zf 2 HON.out.two.rr;have k2:=zc2 HON.out.two.nr
    have r3:=zc3 HON.out.two.rr;have f3:=zf 3 HON.out.two.rr;have k3:=zc3 HON.out.two.nr
    have r4:=zc4 HON.out.two.rr;have f4:=zf 4 HON.out.two.rr;have k4:=zc4 HON.out.two.nr
    have r5:=zc5 HON.out.two.rr;have f5:=zf 5 HON.out.two.rr;have k5:=zc5 HON.out.two.nr
    have r6:=zc6 HON.out.two.rr;have f6:=zf 6 HON.out.two.rr;have k6:=zc6 HON.out.two.nr
    have r7:=zc7 HON.out.two.rr;have f7:=zf 7 HON.out.two.rr;have k7:=zc7 HON.out.two.nr
    go_wp2_with fail
    have hst:=stored_rb w8 (w.heap.size) (.int .i64 k) (.string ⟨#[]⟩) (.bool false) (.slice none 0 0) (.slice none 0 0) (.slice (some ⟨w5.heap.size,0,none⟩) 2 2) (.slice none 0 0) (.slice none 0 0) _ _ _ _ _ _ _ _ _ HON.out.two.rr
    generalize ((((((((w8.setCell ⟨w.heap.size,0,none⟩ (.int .i64 k)).setCell ⟨w.heap.size,1,none⟩ (.string ⟨#[]⟩)).setCell ⟨w.heap.size,2,none⟩ (.bool false)).setCell ⟨w.heap.size,3,none⟩ (.slice none 0 0)).setCell ⟨w.heap.size,4,none⟩ (.slice none 0 0)).setCell ⟨w.heap.size,5,none⟩ (.slice (some ⟨w5.heap.size,0,none⟩) 2 2)).setCell ⟨w.heap.size,6,none⟩ (.slice none 0 0)).setCell ⟨w.heap.size,7,none⟩ (.slice none 0 0)) = W8 at hst ⊢
    obtain ⟨hr8,hch⟩:=hst
    have x0:=Lib.cell_of_heap hr8 0
    have x1:=Lib.cell_of_heap hr8 1
    have x2:=Lib.cell_of_heap hr8 2
    have x3:=Lib.cell_of_heap hr8 3
    have x4:=Lib.cell_of_heap hr8 4
    have x5:=Lib.cell_of_heap hr8 5
    have x6:=Lib.cell_of_heap hr8 6
    have x7:=Lib.cell_of_heap hr8 7
    refine bodyPost_ret (v:=.agg #[.int .i64 k,.string ⟨#[]⟩,.bool false,.slice none 0 0,.slice none 0 0,.slice (some ⟨w5.heap.size,0,none⟩) 2 2,.slice none 0 0,.slice none 0 0]) (by simp [results,Tryz.results127,go_sem,x0,x1,x2,x3,x4,x5,x6,x7]) rfl ?_
    rw [← HN.out]
    exact HON.out.done H.out hch (VN.kids rfl R_empty (HON.out.ks hch))
end Ps
end Go.Proofs.YtoklgmbpgnimcaaGreatDoor
namespace Go.Proofs.YtoklgmbpgnimcaaGreatDoor
open Go.RowKit Go.Sort
namespace Ps
open Cls Pt Tr Sp Lx
set_option maxHeartbeats 4000000 in
set_option maxRecDepth 100000 in
theorem item_step (s:ByteArray) (hs:s.size≤400000) (n0:Nat) (IH:∀ m,m≤n0→UnitAt s m):ItemAt s (n0 + 1):=by
 intro S pb d o w hd h hfu
 have HIH:=Lib.hid IH
 clear IH
 have hon:Fn EN 8 42 S pb s d w.heap.size w.heap.size w.heap.size w (w.alloc (.cells #[.int .i64 0,.string ⟨#[]⟩,.bool false,.slice none 0 0,.slice none 0 0,.slice none 0 0,.slice none 0 0,.slice none 0 0] 42)) o (.slice none 0 0) [] (.slice none 0 0) [] row0 row0 42 S (fun _=>True):=Fn.start h
 obtain ⟨R0,hR⟩:∃ R0,(itemF s d (n0 + 1) o) = R0:=⟨_,rfl⟩
 rw [hR]
 rw [itemF] at hR
 have H:=Lib.hid h;have HN:=Lib.hid hR;have HON:=Lib.hid hon;have HFU:=Lib.hid hfu
 clear h hR hon hfu
 go_enter Tryz.func56,Tryz.ntmps56
 go_wp2_with fail
 have hc:=HIH.out n0 (Nat.le_refl _) _ pb d o _ hd HON.out.hp (by have hfu:=HFU.out;omega)
 have hd:Down s _ (unitF s d n0 o):=(downs_all s n0).unit d o HON.out.hp.ok
 have hn:=HN.out
 generalize (unitF s d n0 o) = rX at hc hd hn
 clear HN
 have HC:=Lib.hid hc;have HD0:=Lib.hid hd;have HN:=Lib.hid hn
 clear hc hd hn
 cases rX with
 | bad i er =>
  go_wp2_with fail
  refine HC.out.mono ?_
  rintro e w2 ⟨hf,rfl⟩
  have HDD:Does S pb s d w VN R0 (thrownP i er) w2:=by rw [show R0 = .bad i er from HN.out.symm];exact ⟨HON.out.fr.trans hf,rfl⟩
  clear hf
  go_wp2_with fail
  exact ⟨rfl,HDD⟩
 | ok x p1 =>
  have hm:=HD0.out _ _ rfl
  have HM3:=Lib.hid hm.1
  have hn:=HN.out
  rw [Rs.bind_ok] at hn
  clear HN HD0 hm
  have HN:=Lib.hid hn
  clear hn
  go_wp2_with fail
  refine HC.out.mono ?_
  rintro e w2 ⟨hf,⟨v,rfl,a1,c1,a2,c2,a3,c3,a4,c4,a5,c5,hv,hx⟩,hp⟩
  have hon:=HON.out.call elemN hf hp
  clear HON HC hf hp
  obtain rfl:v = .agg #[.int .i64 x.k,.string x.nm,.bool x.g,.slice a1 x.az.length c1,.slice a2 x.ws.length c2,.slice a3 x.ks.len c3,.slice a4 x.bs.length c4,.slice a5 x.cz.len c5]:=hv
  have hon:=hon.hold hx
  clear hx
  have HON:=Lib.hid hon
  clear hon
  have hon:Fn EN 8 42 S pb s d w2.heap.size w.heap.size w.heap.size w (w2.alloc (.cells #[.int .i64 x.k,.string x.nm,.bool x.g,.slice a1 x.az.length c1,.slice a2 x.ws.length c2,.slice a3 x.ks.len c3,.slice a4 x.bs.length c4,.slice a5 x.cz.len c5] 42)) _ (.slice none 0 0) [] (.slice none 0 0) [] #[.int .i64 x.k,.string x.nm,.bool x.g,.slice a1 x.az.length c1,.slice a2 x.ws.length c2,.slice a3 x.ks.len c3,.slice a4 x.bs.length c4,.slice a5 x.cz.len c5] row0 42 _ _:=(HON.out.keep (HON.out.held.imp fun _ h=>h.2)).var elemN (Row.nil _ _ _ _) (fun _ h=>by cases h)
  have hnb:w2.heap.size ≠ w.heap.size:=by have e1:=HON.out.lb;have e2:=(Array.getElem?_eq_some_iff.1 HON.out.two.rr).1;omega
  clear HON
  have HON:=Lib.hid hon;have HNB:=Lib.hid hnb
  clear hon hnb
  go_wp2_with fail
  generalize w2.heap.size = nb at HON HNB ⊢
  generalize w2.alloc (.cells #[.int .i64 x.k,.string x.nm,.bool x.g,.slice a1 x.az.length c1,.slice a2 x.ws.length c2,.slice a3 x.ks.len c3,.slice a4 x.bs.length c4,.slice a5 x.cz.len c5] 42) = wi at HON ⊢
  go_loopw [4] (fun kv wr=>∃ (n:Nat) (q:Tok) (x:ND) (a1:Option Addr) (c1:Nat) (a2:Option Addr) (c2:Nat) (a3:Option Addr) (c3:Nat) (a4:Option Addr) (c4:Nat) (a5:Option Addr) (c5:Nat) (M:Nat→Prop),itemL s d n x q = R0∧10 * mu s q < n∧n≤n0∧Fn EN 8 42 S pb s d nb w.heap.size w.heap.size w wr q (.slice none 0 0) [] (.slice none 0 0) [] #[.int .i64 x.k,.string x.nm,.bool x.g,.slice a1 x.az.length c1,.slice a2 x.ws.length c2,.slice a3 x.ks.len c3,.slice a4 x.bs.length c4,.slice a5 x.cz.len c5] row0 42 M (fun w2=>Holds w2 x.nm x.az x.ws x.ks x.bs x.cz a1 c1 a2 c2 a3 c3 a4 c4 a5 c5)) (fun kv wr=>muW s pb wr)
  case atStart=>exact ⟨n0,p1,x,a1,c1,a2,c2,a3,c3,a4,c4,a5,c5,_,HN.out,(by have hm3:=HM3.out;have hfu:=HFU.out;omega),Nat.le_refl _,HON.out⟩
  case round =>
   obtain ⟨n,q,x,a1,c1,a2,c2,a3,c3,a4,c4,a5,c5,M,hn,hmu,hnn,hon⟩:=hrel
   obtain ⟨n,rfl⟩:∃ m,n = m + 1:=⟨n - 1,by omega⟩
   have hmw:=hon.hp.mW
   rw [itemL] at hn
   clear HON HN HFU
   have HON:=Lib.hid hon;have HN:=Lib.hid hn;have HFU:=Lib.hid hmu;have HMW:=Lib.hid hmw
   clear hon hn hmu hmw
   have hkq:seesF [⟨#[38,38]⟩,⟨#[124,124]⟩] q = true→q.k ≠ 4:=fun h=>sees_k HON.out.hp.ok (by decide) h
   have hc:=sees_row _ pb s q d [⟨#[38,38]⟩,⟨#[124,124]⟩] _ HON.out.hp (by decide)
   try simp only [World.size_alloc] at hc
   have hn:=HN.out
   generalize (seesF [⟨#[38,38]⟩,⟨#[124,124]⟩] q) = B at hc hn hkq
   clear HN
   have HC:=Lib.hid hc;have HN:=Lib.hid hn
   clear hc hn
   cases B
   ·have hn:=HN.out
    rw [if_neg (by decide)] at hn
    clear HN
    have HN:=Lib.hid hn
    clear hn
    go_wp2_with fail
    refine HC.out.mono ?_
    rintro e w4 ⟨rfl,hb⟩
    have hon:=HON.out.below elemN hb
    clear HON HC hb
    have HON:=Lib.hid hon
    clear hon
    clear hkq
    have r0:=zc0 HON.out.two.rr;have f0:=zf 0 HON.out.two.rr;have k0:=zc0 HON.out.two.nr
    have r1:=zc1 HON.out.two.rr;have f1:=zf 1 HON.out.two.rr;have k1:=zc1 HON.out.two.nr
    have r2:=zc2 HON.out.two.rr;have f2:=zf 2 HON.out.two.rr;have k2:=zc2 HON.out.two.nr
    have r3:=zc3 HON.out.two.rr;have f3:=zf 3 HON.out.two.rr;have k3:=zc3 HON.out.two.nr
    have r4:=zc4 HON.out.two.rr;have f4:=zf 4 HON.out.two.rr;have k4:=zc4 HON.out.two.nr
    have r5:=zc5 HON.out.two.rr;have f5:=zf 5 HON.out.two.rr;have k5:=zc5 HON.out.two.nr
    have r6:=zc6 HON.out.two.rr;have f6:=zf 6 HON.out.two.rr;have k6:=zc6 HON.out.two.nr
    have r7:=zc7 HON.out.two.rr;have f7:=zf 7 HON.out.two.rr;have k7:=zc7 HON.out.two.nr
    go_wp2_with fail
    have hst:=stored_rb w4 (w.heap.size) (.int .i64 x.k) (.string x.nm) (.bool x.g) (.slice a1 x.az.length c1) (.slice a2 x.ws.length c2) (.slice a3 x.ks.len c3) (.slice a4 x.bs.length c4) (.slice a5 x.cz.len c5) _ _ _ _ _ _ _ _ _ HON.out.two.rr
    generalize ((((((((w4.setCell ⟨w.heap.size,0,none⟩ (.int .i64 x.k)).setCell ⟨w.heap.size,1,none⟩ (.string x.nm)).setCell ⟨w.heap.size,2,none⟩ (.bool x.g)).setCell ⟨w.heap.size,3,none⟩ (.slice a1 x.az.length c1)).setCell ⟨w.heap.size,4,none⟩ (.slice a2 x.ws.length c2)).setCell ⟨w.heap.size,5,none⟩ (.slice a3 x.ks.len c3)).setCell ⟨w.heap.size,6,none⟩ (.slice a4 x.bs.length c4)).setCell ⟨w.heap.size,7,none⟩ (.slice a5 x.cz.len c5)) = W8 at hst ⊢
    obtain ⟨hr8,hch⟩:=hst
    have x0:=Lib.cell_of_heap hr8 0
    have x1:=Lib.cell_of_heap hr8 1
    have x2:=Lib.cell_of_heap hr8 2
    have x3:=Lib.cell_of_heap hr8 3
    have x4:=Lib.cell_of_heap hr8 4
    have x5:=Lib.cell_of_heap hr8 5
    have x6:=Lib.cell_of_heap hr8 6
    have x7:=Lib.cell_of_heap hr8 7
    refine bodyPost_ret (v:=.agg #[.int .i64 x.k,.string x.nm,.bool x.g,.slice a1 x.az.length c1,.slice a2 x.ws.length c2,.slice a3 x.ks.len c3,.slice a4 x.bs.length c4,.slice a5 x.cz.len c5]) (by simp [results,Tryz.results56,go_sem,x0,x1,x2,x3,x4,x5,x6,x7]) rfl ?_
    rw [← HN.out]
    exact HON.out.done H.out hch (VN.self (HON.out.ks hch))
   ·have hn:=HN.out
    rw [if_pos rfl] at hn
    clear HN
    have HN:=Lib.hid hn
    clear hn
    go_wp2_with fail
    refine HC.out.mono ?_
    rintro e w4 ⟨rfl,hb⟩
    have hon:=HON.out.below elemN hb
    clear HON HC hb
    have HON:=Lib.hid hon
    clear hon
    have HKQ:=Lib.hid (hkq (by first | rfl | trivial))
    clear hkq
    have hc:=sees_row _ pb s q d [⟨#[124,124]⟩] _ HON.out.hp (by decide)
    try simp only [World.size_alloc] at hc
    have hn:=HN.out
    generalize (seesF [⟨#[124,124]⟩] q) = B at hc hn
    clear HN
    have HC:=Lib.hid hc;have HN:=Lib.hid hn
    clear hc hn
    cases B
    ·go_wp2_with fail
     refine HC.out.mono ?_
     rintro e w5 ⟨rfl,hb⟩
     have hon:=HON.out.below elemN hb
     clear HON HC hb
     have HON:=Lib.hid hon
     clear hon
     have hn:=HN.out
     rw [if_neg (by decide)] at hn
     clear HN
     have HN:=Lib.hid hn
     clear hn
     have hc:=next_any _ pb s hs q d _ HON.out.hp
     have hd:DownS s _ (nextF s q):=next_down HON.out.hp.ok HKQ.out
     have hn:=HN.out
     generalize (nextF s q) = rX at hc hd hn
     clear HN
     have HC:=Lib.hid hc;have HD0:=Lib.hid hd;have HN:=Lib.hid hn
     clear hc hd hn
     cases rX with
     | bad i er =>
      go_wp2_with fail
      refine HC.out.mono ?_
      rintro e w2 ⟨hf,rfl⟩
      have HDD:Does S pb s d w VN R0 (thrownP i er) w2:=by rw [show R0 = .bad i er from HN.out.symm];exact ⟨HON.out.fr.trans hf,rfl⟩
      clear hf
      go_wp2_with fail
      exact ⟨rfl,HDD⟩
     | ok u p6 =>
      have hm:=HD0.out _ _ rfl
      have HM8:=Lib.hid hm.1
      have hn:=HN.out
      rw [Rs.bind_ok] at hn
      clear HN HD0 hm
      have HN:=Lib.hid hn
      clear hn
      go_wp2_with fail
      refine HC.out.mono ?_
      rintro e w7 ⟨hf,⟨v,rfl,rfl⟩,hp⟩
      have hon:=HON.out.call elemN hf hp
      clear HON HC hf hp
      have HON:=Lib.hid hon
      clear hon
      have hc:=lines_any _ pb s hs p6 d _ HON.out.hp
      have hd:Down s _ (linesF s p6):=lines_down s (F s) p6 HON.out.hp.ok
      have hn:=HN.out
      generalize (linesF s p6) = rX at hc hd hn
      clear HN
      have HC:=Lib.hid hc;have HD0:=Lib.hid hd;have HN:=Lib.hid hn
      clear hc hd hn
      cases rX with
      | bad i er =>
       go_wp2_with fail
       refine HC.out.mono ?_
       rintro e w2 ⟨hf,rfl⟩
       have HDD:Does S pb s d w VN R0 (thrownP i er) w2:=by rw [show R0 = .bad i er from HN.out.symm];exact ⟨HON.out.fr.trans hf,rfl⟩
       clear hf
       go_wp2_with fail
       exact ⟨rfl,HDD⟩
      | ok u p9 =>
       have hm:=HD0.out _ _ rfl
       have HM11:=Lib.hid hm.1
       have hn:=HN.out
       rw [Rs.bind_ok] at hn
       clear HN HD0 hm
       have HN:=Lib.hid hn
       clear hn
       go_wp2_with fail
       refine HC.out.mono ?_
       rintro e w10 ⟨hf,⟨v,rfl,rfl⟩,hp⟩
       have hon:=HON.out.call elemN hf hp
       clear HON HC hf hp
       have HON:=Lib.hid hon
       clear hon
       go_wp2_with fail
       have hbd:Below w10.heap.size w10 w10.drew:=⟨rfl,rfl,rfl,Nat.le_refl _,fun _ _=>rfl⟩
       have hon:=HON.out.below elemN hbd
       clear HON hbd
       have HON:=Lib.hid hon
       clear hon
       have hc:=HIH.out n (by omega) _ pb d p9 _ hd HON.out.hp (by have hm8:=HM8.out;have hm11:=HM11.out;have hfu:=HFU.out;omega)
       have hdn:Down s _ (unitF s d n p9):=(downs_all s n).unit d p9 HON.out.hp.ok
       have hn:=HN.out
       generalize unitF s d n p9 = rX at hc hdn hn
       clear HN
       have HC:=Lib.hid hc;have HD0:=Lib.hid hdn;have HN:=Lib.hid hn
       clear hc hdn hn
       refine RN.begins (fun w2=>w2.heap[nb]? = some (.cells #[.int .i64 x.k,.string x.nm,.bool x.g,.slice a1 x.az.length c1,.slice a2 x.ws.length c2,.slice a3 x.ks.len c3,.slice a4 x.bs.length c4,.slice a5 x.cz.len c5] 42 (0,0))) [6] (by kernel_rfl) ?_
       generalize w10.drew = wd at HON HC ⊢
       have hS:wd.heap[nb]? = some (.cells #[.int .i64 x.k,.string x.nm,.bool x.g,.slice a1 x.az.length c1,.slice a2 x.ws.length c2,.slice a3 x.ks.len c3,.slice a4 x.bs.length c4,.slice a5 x.cz.len c5] 42 (0,0)):=HON.out.two.nr
       refine RN.tk (i:=0) (v:=?_) rfl hS ?_ ?_
       rotate_left 1
       ·(intro wq hq;have s0:=zc0 hq;have s1:=zc1 hq;have s2:=zc2 hq;have s3:=zc3 hq;have s4:=zc4 hq;have s5:=zc5 hq;have s6:=zc6 hq;have s7:=zc7 hq;go_simp;try with_reducible rfl)
       refine RN.tk (i:=1) (v:=?_) rfl hS ?_ ?_
       rotate_left 1
       ·(intro wq hq;have s0:=zc0 hq;have s1:=zc1 hq;have s2:=zc2 hq;have s3:=zc3 hq;have s4:=zc4 hq;have s5:=zc5 hq;have s6:=zc6 hq;have s7:=zc7 hq;go_simp;try with_reducible rfl)
       refine RN.tk (i:=2) (v:=?_) rfl hS ?_ ?_
       rotate_left 1
       ·(intro wq hq;have s0:=zc0 hq;have s1:=zc1 hq;have s2:=zc2 hq;have s3:=zc3 hq;have s4:=zc4 hq;have s5:=zc5 hq;have s6:=zc6 hq;have s7:=zc7 hq;go_simp;try with_reducible rfl)
       refine RN.all (rs:=[3]) (by kernel_rfl) (by simp) ?_
       refine RN.All.cons rfl (fun K hK=>?_) RN.All.nil
       go_simp
       cases rX with
       | bad i er =>
        refine HC.out.mono ?_
        rintro e w2 ⟨hf,rfl⟩
        have HDD:Does S pb s d w VN R0 (thrownP i er) w2:=by rw [show R0 = .bad i er from HN.out.symm];exact ⟨HON.out.fr.trans hf,rfl⟩
        clear hf hS
        go_wp2_with fail
        exact ⟨rfl,HDD⟩
       | ok y p6 =>
        have hm:=HD0.out _ _ rfl
        have HM9:=Lib.hid hm.1
        have hn:=HN.out
        rw [Rs.bind_ok] at hn
        clear HN HD0 hm
        have HN:=Lib.hid hn
        clear hn
        refine HC.out.mono ?_
        rintro e w6 ⟨hf,⟨v,rfl,a1b,c1b,a2b,c2b,a3b,c3b,a4b,c4b,a5b,c5b,hv,hx⟩,hp⟩
        obtain rfl:v = .agg #[.int .i64 y.k,.string y.nm,.bool y.g,.slice a1b y.az.length c1b,.slice a2b y.ws.length c2b,.slice a3b y.ks.len c3b,.slice a4b y.bs.length c4b,.slice a5b y.cz.len c5b]:=hv
        have hon:=(HON.out.call elemN hf hp).hold hx
        clear HON HC hf hp hx
        refine hK _ _ (fun _=>hon.two.nr) ?_
        clear hK K hS
        have hS:=hon.two.nr
        have HON:=Lib.hid hon
        clear hon
        refine RN.all (rs:=[4]) (by kernel_rfl) (by simp) ?_
        refine RN.All.cons rfl (fun K hK=>?_) RN.All.nil
        go_simp
        have hks:=KS.row (m:=2) (row:=#[.int .i64 x.k,.string x.nm,.bool x.g,.slice a1 x.az.length c1,.slice a2 x.ws.length c2,.slice a3 x.ks.len c3,.slice a4 x.bs.length c4,.slice a5 x.cz.len c5,.int .i64 y.k,.string y.nm,.bool y.g,.slice a1b y.az.length c1b,.slice a2b y.ws.length c2b,.slice a3b y.ks.len c3b,.slice a4b y.bs.length c4b,.slice a5b y.cz.len c5b]) (ty:=42) elemN (cells2 (HON.out.held.imp fun _ h=>h.1) (HON.out.held.imp fun _ h=>h.2)) rfl (by decide)
        have hon:=(HON.out.grow elemN (bel1 w6 (.cells #[.int .i64 x.k,.string x.nm,.bool x.g,.slice a1 x.az.length c1,.slice a2 x.ws.length c2,.slice a3 x.ks.len c3,.slice a4 x.bs.length c4,.slice a5 x.cz.len c5,.int .i64 y.k,.string y.nm,.bool y.g,.slice a1b y.az.length c1b,.slice a2b y.ws.length c2b,.slice a3b y.ks.len c3b,.slice a4b y.bs.length c4b,.slice a5b y.cz.len c5b] 42))).keep hks
        clear HON hks
        refine hK _ _ (fun _=>hon.two.nr) ?_
        clear hK K hS
        have hS:=hon.two.nr
        have HON:=Lib.hid hon
        clear hon
        refine RN.tk (i:=5) (v:=?_) rfl hS ?_ ?_
        rotate_left 1
        ·(intro wq hq;skip;go_simp;try with_reducible rfl)
        refine RN.all (rs:=[6]) (by kernel_rfl) (by simp) ?_
        refine RN.All.cons rfl (fun K hK=>?_) RN.All.nil
        have k0:=zc0 HON.out.two.nr;have f0:=zf 0 HON.out.two.nr
        have k1:=zc1 HON.out.two.nr;have f1:=zf 1 HON.out.two.nr
        have k2:=zc2 HON.out.two.nr;have f2:=zf 2 HON.out.two.nr
        have k3:=zc3 HON.out.two.nr;have f3:=zf 3 HON.out.two.nr
        have k4:=zc4 HON.out.two.nr;have f4:=zf 4 HON.out.two.nr
        have k5:=zc5 HON.out.two.nr;have f5:=zf 5 HON.out.two.nr
        have k6:=zc6 HON.out.two.nr;have f6:=zf 6 HON.out.two.nr
        have k7:=zc7 HON.out.two.nr;have f7:=zf 7 HON.out.two.nr
        go_simp
        have hst:=stored_rb (w6.alloc (.cells #[.int .i64 x.k,.string x.nm,.bool x.g,.slice a1 x.az.length c1,.slice a2 x.ws.length c2,.slice a3 x.ks.len c3,.slice a4 x.bs.length c4,.slice a5 x.cz.len c5,.int .i64 y.k,.string y.nm,.bool y.g,.slice a1b y.az.length c1b,.slice a2b y.ws.length c2b,.slice a3b y.ks.len c3b,.slice a4b y.bs.length c4b,.slice a5b y.cz.len c5b] 42)) nb (.int .i64 2) (.string ⟨#[]⟩) (.bool false) (.slice none 0 0) (.slice none 0 0) (.slice (some ⟨w6.heap.size,0,none⟩) 2 2) (.slice none 0 0) (.slice none 0 0) _ _ _ _ _ _ _ _ _ HON.out.two.nr
        refine hK _ _ (fun h=>absurd h (by decide)) ?_
        clear hK K hS k0 f0 k1 f1 k2 f2 k3 f3 k4 f4 k5 f5 k6 f6 k7 f7
        refine RN.done (by kernel_rfl) ?_ _
        have hon:=HON.out.put elemN HNB.out hst.2 hst.1
        clear HON hst
        have HON:=Lib.hid hon
        clear hon
        generalize (((((((((w6.alloc (.cells #[.int .i64 x.k,.string x.nm,.bool x.g,.slice a1 x.az.length c1,.slice a2 x.ws.length c2,.slice a3 x.ks.len c3,.slice a4 x.bs.length c4,.slice a5 x.cz.len c5,.int .i64 y.k,.string y.nm,.bool y.g,.slice a1b y.az.length c1b,.slice a2b y.ws.length c2b,.slice a3b y.ks.len c3b,.slice a4b y.bs.length c4b,.slice a5b y.cz.len c5b] 42)).setCell ⟨nb,0,none⟩ (.int .i64 2)).setCell ⟨nb,1,none⟩ (.string ⟨#[]⟩)).setCell ⟨nb,2,none⟩ (.bool false)).setCell ⟨nb,3,none⟩ (.slice none 0 0)).setCell ⟨nb,4,none⟩ (.slice none 0 0)).setCell ⟨nb,5,none⟩ (.slice (some ⟨w6.heap.size,0,none⟩) 2 2)).setCell ⟨nb,6,none⟩ (.slice none 0 0)).setCell ⟨nb,7,none⟩ (.slice none 0 0)) = W9 at HON ⊢
        go_wp2_with fail
        go_roundw
        case rel =>
         have hall:mu s p6 < mu s q:=by have hm8:=HM8.out;have hm11:=HM11.out;have hm9:=HM9.out;omega
         have hfu:=HFU.out
         exact ⟨n,p6,nd 2 [x,y],none,0,none,0,some ⟨w6.heap.size,0,none⟩,2,none,0,none,0,_,HN.out,by omega,by omega,HON.out.keep (HON.out.held.imp fun w2 h=>⟨R_empty,slNil 0,slNil 0,(slN h).1,slNil 0,nlNil _ 0,(slN h).2,rfl⟩)⟩
        case measure =>
         have hall:mu s p6 < mu s q:=by have hm8:=HM8.out;have hm11:=HM11.out;have hm9:=HM9.out;omega
         have e1:=HMW.out
         have e2:=HON.out.hp.mW
         omega
    ·go_wp2_with fail
     refine HC.out.mono ?_
     rintro e w5 ⟨rfl,hb⟩
     have hon:=HON.out.below elemN hb
     clear HON HC hb
     have HON:=Lib.hid hon
     clear hon
     have hn:=HN.out
     first | rw [if_pos rfl] at hn | rw [if_pos trivial] at hn
     clear HN
     have HN:=Lib.hid hn
     clear hn
     have hc:=next_any _ pb s hs q d _ HON.out.hp
     have hd:DownS s _ (nextF s q):=next_down HON.out.hp.ok HKQ.out
     have hn:=HN.out
     generalize (nextF s q) = rX at hc hd hn
     clear HN
     have HC:=Lib.hid hc;have HD0:=Lib.hid hd;have HN:=Lib.hid hn
     clear hc hd hn
     cases rX with
     | bad i er =>
      go_wp2_with fail
      refine HC.out.mono ?_
      rintro e w2 ⟨hf,rfl⟩
      have HDD:Does S pb s d w VN R0 (thrownP i er) w2:=by rw [show R0 = .bad i er from HN.out.symm];exact ⟨HON.out.fr.trans hf,rfl⟩
      clear hf
      go_wp2_with fail
      exact ⟨rfl,HDD⟩
     | ok u p12 =>
      have hm:=HD0.out _ _ rfl
      have HM14:=Lib.hid hm.1
      have hn:=HN.out
      rw [Rs.bind_ok] at hn
      clear HN HD0 hm
      have HN:=Lib.hid hn
      clear hn
      go_wp2_with fail
      refine HC.out.mono ?_
      rintro e w13 ⟨hf,⟨v,rfl,rfl⟩,hp⟩
      have hon:=HON.out.call elemN hf hp
      clear HON HC hf hp
      have HON:=Lib.hid hon
      clear hon
      have hc:=lines_any _ pb s hs p12 d _ HON.out.hp
      have hd:Down s _ (linesF s p12):=lines_down s (F s) p12 HON.out.hp.ok
      have hn:=HN.out
      generalize (linesF s p12) = rX at hc hd hn
      clear HN
      have HC:=Lib.hid hc;have HD0:=Lib.hid hd;have HN:=Lib.hid hn
      clear hc hd hn
      cases rX with
      | bad i er =>
       go_wp2_with fail
       refine HC.out.mono ?_
       rintro e w2 ⟨hf,rfl⟩
       have HDD:Does S pb s d w VN R0 (thrownP i er) w2:=by rw [show R0 = .bad i er from HN.out.symm];exact ⟨HON.out.fr.trans hf,rfl⟩
       clear hf
       go_wp2_with fail
       exact ⟨rfl,HDD⟩
      | ok u p15 =>
       have hm:=HD0.out _ _ rfl
       have HM17:=Lib.hid hm.1
       have hn:=HN.out
       rw [Rs.bind_ok] at hn
       clear HN HD0 hm
       have HN:=Lib.hid hn
       clear hn
       go_wp2_with fail
       refine HC.out.mono ?_
       rintro e w16 ⟨hf,⟨v,rfl,rfl⟩,hp⟩
       have hon:=HON.out.call elemN hf hp
       clear HON HC hf hp
       have HON:=Lib.hid hon
       clear hon
       go_wp2_with fail
       have hbd:Below w16.heap.size w16 w16.drew:=⟨rfl,rfl,rfl,Nat.le_refl _,fun _ _=>rfl⟩
       have hon:=HON.out.below elemN hbd
       clear HON hbd
       have HON:=Lib.hid hon
       clear hon
       have hc:=HIH.out n (by omega) _ pb d p15 _ hd HON.out.hp (by have hm14:=HM14.out;have hm17:=HM17.out;have hfu:=HFU.out;omega)
       have hdn:Down s _ (unitF s d n p15):=(downs_all s n).unit d p15 HON.out.hp.ok
       have hn:=HN.out
       generalize unitF s d n p15 = rX at hc hdn hn
       clear HN
       have HC:=Lib.hid hc;have HD0:=Lib.hid hdn;have HN:=Lib.hid hn
       clear hc hdn hn
       refine RN.begins (fun w2=>w2.heap[nb]? = some (.cells #[.int .i64 x.k,.string x.nm,.bool x.g,.slice a1 x.az.length c1,.slice a2 x.ws.length c2,.slice a3 x.ks.len c3,.slice a4 x.bs.length c4,.slice a5 x.cz.len c5] 42 (0,0))) [6] (by kernel_rfl) ?_
       generalize w16.drew = wd at HON HC ⊢
       have hS:wd.heap[nb]? = some (.cells #[.int .i64 x.k,.string x.nm,.bool x.g,.slice a1 x.az.length c1,.slice a2 x.ws.length c2,.slice a3 x.ks.len c3,.slice a4 x.bs.length c4,.slice a5 x.cz.len c5] 42 (0,0)):=HON.out.two.nr
       refine RN.tk (i:=0) (v:=?_) rfl hS ?_ ?_
       rotate_left 1
       ·(intro wq hq;have s0:=zc0 hq;have s1:=zc1 hq;have s2:=zc2 hq;have s3:=zc3 hq;have s4:=zc4 hq;have s5:=zc5 hq;have s6:=zc6 hq;have s7:=zc7 hq;go_simp;try with_reducible rfl)
       refine RN.tk (i:=1) (v:=?_) rfl hS ?_ ?_
       rotate_left 1
       ·(intro wq hq;have s0:=zc0 hq;have s1:=zc1 hq;have s2:=zc2 hq;have s3:=zc3 hq;have s4:=zc4 hq;have s5:=zc5 hq;have s6:=zc6 hq;have s7:=zc7 hq;go_simp;try with_reducible rfl)
       refine RN.tk (i:=2) (v:=?_) rfl hS ?_ ?_
       rotate_left 1
       ·(intro wq hq;have s0:=zc0 hq;have s1:=zc1 hq;have s2:=zc2 hq;have s3:=zc3 hq;have s4:=zc4 hq;have s5:=zc5 hq;have s6:=zc6 hq;have s7:=zc7 hq;go_simp;try with_reducible rfl)
       refine RN.all (rs:=[3]) (by kernel_rfl) (by simp) ?_
       refine RN.All.cons rfl (fun K hK=>?_) RN.All.nil
       go_simp
       cases rX with
       | bad i er =>
        refine HC.out.mono ?_
        rintro e w2 ⟨hf,rfl⟩
        have HDD:Does S pb s d w VN R0 (thrownP i er) w2:=by rw [show R0 = .bad i er from HN.out.symm];exact ⟨HON.out.fr.trans hf,rfl⟩
        clear hf hS
        go_wp2_with fail
        exact ⟨rfl,HDD⟩
       | ok y p6 =>
        have hm:=HD0.out _ _ rfl
        have HM9:=Lib.hid hm.1
        have hn:=HN.out
        rw [Rs.bind_ok] at hn
        clear HN HD0 hm
        have HN:=Lib.hid hn
        clear hn
        refine HC.out.mono ?_
        rintro e w6 ⟨hf,⟨v,rfl,a1b,c1b,a2b,c2b,a3b,c3b,a4b,c4b,a5b,c5b,hv,hx⟩,hp⟩
        obtain rfl:v = .agg #[.int .i64 y.k,.string y.nm,.bool y.g,.slice a1b y.az.length c1b,.slice a2b y.ws.length c2b,.slice a3b y.ks.len c3b,.slice a4b y.bs.length c4b,.slice a5b y.cz.len c5b]:=hv
        have hon:=(HON.out.call elemN hf hp).hold hx
        clear HON HC hf hp hx
        refine hK _ _ (fun _=>hon.two.nr) ?_
        clear hK K hS
        have hS:=hon.two.nr
        have HON:=Lib.hid hon
        clear hon
        refine RN.all (rs:=[4]) (by kernel_rfl) (by simp) ?_
        refine RN.All.cons rfl (fun K hK=>?_) RN.All.nil
        go_simp
        have hks:=KS.row (m:=2) (row:=#[.int .i64 x.k,.string x.nm,.bool x.g,.slice a1 x.az.length c1,.slice a2 x.ws.length c2,.slice a3 x.ks.len c3,.slice a4 x.bs.length c4,.slice a5 x.cz.len c5,.int .i64 y.k,.string y.nm,.bool y.g,.slice a1b y.az.length c1b,.slice a2b y.ws.length c2b,.slice a3b y.ks.len c3b,.slice a4b y.bs.length c4b,.slice a5b y.cz.len c5b]) (ty:=42) elemN (cells2 (HON.out.held.imp fun _ h=>h.1) (HON.out.held.imp fun _ h=>h.2)) rfl (by decide)
        have hon:=(HON.out.grow elemN (bel1 w6 (.cells #[.int .i64 x.k,.string x.nm,.bool x.g,.slice a1 x.az.length c1,.slice a2 x.ws.length c2,.slice a3 x.ks.len c3,.slice a4 x.bs.length c4,.slice a5 x.cz.len c5,.int .i64 y.k,.string y.nm,.bool y.g,.slice a1b y.az.length c1b,.slice a2b y.ws.length c2b,.slice a3b y.ks.len c3b,.slice a4b y.bs.length c4b,.slice a5b y.cz.len c5b] 42))).keep hks
        clear HON hks
        refine hK _ _ (fun _=>hon.two.nr) ?_
        clear hK K hS
        have hS:=hon.two.nr
        have HON:=Lib.hid hon
        clear hon
        refine RN.tk (i:=5) (v:=?_) rfl hS ?_ ?_
        rotate_left 1
        ·(intro wq hq;skip;go_simp;try with_reducible rfl)
        refine RN.all (rs:=[6]) (by kernel_rfl) (by simp) ?_
        refine RN.All.cons rfl (fun K hK=>?_) RN.All.nil
        have k0:=zc0 HON.out.two.nr;have f0:=zf 0 HON.out.two.nr
        have k1:=zc1 HON.out.two.nr;have f1:=zf 1 HON.out.two.nr
        have k2:=zc2 HON.out.two.nr;have f2:=zf 2 HON.out.two.nr
        have k3:=zc3 HON.out.two.nr;have f3:=zf 3 HON.out.two.nr
        have k4:=zc4 HON.out.two.nr;have f4:=zf 4 HON.out.two.nr
        have k5:=zc5 HON.out.two.nr;have f5:=zf 5 HON.out.two.nr
        have k6:=zc6 HON.out.two.nr;have f6:=zf 6 HON.out.two.nr
        have k7:=zc7 HON.out.two.nr;have f7:=zf 7 HON.out.two.nr
        go_simp
        have hst:=stored_rb (w6.alloc (.cells #[.int .i64 x.k,.string x.nm,.bool x.g,.slice a1 x.az.length c1,.slice a2 x.ws.length c2,.slice a3 x.ks.len c3,.slice a4 x.bs.length c4,.slice a5 x.cz.len c5,.int .i64 y.k,.string y.nm,.bool y.g,.slice a1b y.az.length c1b,.slice a2b y.ws.length c2b,.slice a3b y.ks.len c3b,.slice a4b y.bs.length c4b,.slice a5b y.cz.len c5b] 42)) nb (.int .i64 3) (.string ⟨#[]⟩) (.bool false) (.slice none 0 0) (.slice none 0 0) (.slice (some ⟨w6.heap.size,0,none⟩) 2 2) (.slice none 0 0) (.slice none 0 0) _ _ _ _ _ _ _ _ _ HON.out.two.nr
        refine hK _ _ (fun h=>absurd h (by decide)) ?_
        clear hK K hS k0 f0 k1 f1 k2 f2 k3 f3 k4 f4 k5 f5 k6 f6 k7 f7
        refine RN.done (by kernel_rfl) ?_ _
        have hon:=HON.out.put elemN HNB.out hst.2 hst.1
        clear HON hst
        have HON:=Lib.hid hon
        clear hon
        generalize (((((((((w6.alloc (.cells #[.int .i64 x.k,.string x.nm,.bool x.g,.slice a1 x.az.length c1,.slice a2 x.ws.length c2,.slice a3 x.ks.len c3,.slice a4 x.bs.length c4,.slice a5 x.cz.len c5,.int .i64 y.k,.string y.nm,.bool y.g,.slice a1b y.az.length c1b,.slice a2b y.ws.length c2b,.slice a3b y.ks.len c3b,.slice a4b y.bs.length c4b,.slice a5b y.cz.len c5b] 42)).setCell ⟨nb,0,none⟩ (.int .i64 3)).setCell ⟨nb,1,none⟩ (.string ⟨#[]⟩)).setCell ⟨nb,2,none⟩ (.bool false)).setCell ⟨nb,3,none⟩ (.slice none 0 0)).setCell ⟨nb,4,none⟩ (.slice none 0 0)).setCell ⟨nb,5,none⟩ (.slice (some ⟨w6.heap.size,0,none⟩) 2 2)).setCell ⟨nb,6,none⟩ (.slice none 0 0)).setCell ⟨nb,7,none⟩ (.slice none 0 0)) = W9 at HON ⊢
        go_wp2_with fail
        go_roundw
        case rel =>
         have hall:mu s p6 < mu s q:=by have hm14:=HM14.out;have hm17:=HM17.out;have hm9:=HM9.out;omega
         have hfu:=HFU.out
         exact ⟨n,p6,nd 3 [x,y],none,0,none,0,some ⟨w6.heap.size,0,none⟩,2,none,0,none,0,_,HN.out,by omega,by omega,HON.out.keep (HON.out.held.imp fun w2 h=>⟨R_empty,slNil 0,slNil 0,(slN h).1,slNil 0,nlNil _ 0,(slN h).2,rfl⟩)⟩
        case measure =>
         have hall:mu s p6 < mu s q:=by have hm14:=HM14.out;have hm17:=HM17.out;have hm9:=HM9.out;omega
         have e1:=HMW.out
         have e2:=HON.out.hp.mW
         omega
end Ps
end Go.Proofs.YtoklgmbpgnimcaaGreatDoor
