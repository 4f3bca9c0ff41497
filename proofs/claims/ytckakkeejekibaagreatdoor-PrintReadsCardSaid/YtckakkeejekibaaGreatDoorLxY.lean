/- All tokens of a text, as plain functions; that they are as they should be. -/
import Derived.Test.YtckakkeejekibaaGreatDoorLxV
import Derived.Test.YtckakkeejekibaaGreatDoorLxT
set_option maxHeartbeats 1600000
set_option maxRecDepth 100000
namespace Go.Proofs.YtckakkeejekibaaGreatDoor
open Go.RowKit Go.Sort
namespace Lx
open j6 Pt
def cO (s:ByteArray) (i:Nat):Tok:=tokF s (aheadF (s.size + 1) s i)
def mG (t:Tok):Bool:=t.k == 4 || t.k == 5
def scanF:Nat→ByteArray→Nat→List Tok
 | 0,_,_=>[]
 | n + 1,s,i=>cO s i :: if mG (cO s i) then [] else scanF n s (cO s i).j
theorem pu (s:ByteArray) (i:Nat) (hi:i≤s.size) :
  i≤(cO s i).i∧(cO s i).i≤s.size∧((cO s i).k = 1→aG (cO s i).l = true)∧((cO s i).k = 5 ↔ (cO s i).err ≠ 0)∧(mG (cO s i) = false→i < (cO s i).j∧(cO s i).i≤(cO s i).j∧(cO s i).j≤s.size):=by
 have h1:=vK s (s.size + 1) i hi;have h2:=MJ s (s.size + 1) i hi (by omega);unfold cO;generalize aheadF (s.size + 1) s i = m at h1 h2 ⊢
 unfold tokF;split
 ·exact ⟨h1.1,h1.2,by simp,by simp,fun h=>by simp [mG] at h⟩
 ·rename_i hm;have hm:m < s.size:=by omega
  obtain ⟨hb,hp,yE⟩:=h2 hm;split
  ·exact ⟨h1.1,h1.2,by simp,by simp,fun _=>by simp only [];omega⟩
  ·rename_i yl;split
   ·split
    ·exact ⟨h1.1,h1.2,by simp,by simp,fun h=>by simp [mG] at h⟩
    ·rename_i h0;have hs:dM (ag s m)≤s.size - m:=by
      have h3:=sj (ag s m) (min 2 (ag s m).length);rw [aQ] at h3;unfold dM;rw [aQ];omega
     exact ⟨h1.1,h1.2,by simp,by simp,fun _=>by simp only [];omega⟩
   ·rename_i zy;split
    ·rename_i l j hw;have:=MI hm hw hb hp yE yl (by simpa using zy);exact ⟨h1.1,h1.2,fun _=>this.1,by simp,fun _=>by simp only [];omega⟩
    ·rename_i j e hw;have:=(SA s (s.size + 1)).2.1 _ _ _ _ _ hw h1.2;exact ⟨by simp only [];omega,this.2.1,by simp,by simpa using this.2.2,fun h=>by simp [mG] at h⟩
theorem MK (s:ByteArray) (hs:s.size≤1000000) (i:Nat) (hi:i≤s.size) (w:World) :
  Calls Tryz.prog 92 #[.string s,.int .i64 i] w fun e w'=>e = .returned (.int .i64 (aheadF (s.size + 1) s i))∧w = w':=by
 generalize Yq:aheadF (s.size + 1) s i = Er;have zw:=kq Yq;clear Yq;go_enter Tryz.func92,Tryz.ntmps92;go_wp2
 go_loop [1] (fun v=>∃ j n:Nat,j≤s.size∧v = .int .i64 j∧s.size < j + n∧Er = aheadF n s j) (fun v=>s.size - (intOf v).toNat)
 case atStart=>exact ⟨i,s.size + 1,hi,rfl,by omega,zw.out.symm⟩
 case round =>
  obtain ⟨j,n,hj,rfl,hn,hq⟩:=hrel
  by_cases aB:j < s.size
  ·obtain ⟨m,rfl⟩:∃ m,n = m + 1:=⟨n - 1,by omega⟩;rw [aheadF,if_neg (by omega)] at hq;have hg:bG s j = s[j]:=(uq aB).symm;have hB:=fun w=>BK s[j].toNat w;have hP:=fun w=>(Tryz.strings_HasPrefix (s.extract j s.size) ⟨#[92,10]⟩ w).mono fun e w' h=>And.intro h.1 h.2.symm;rw [iJ,show (⟨#[92,10]⟩:ByteArray).data.toList = [92,10] from rfl] at hP;have hI:=fun w=>(Tryz.strings_IndexByte (s.extract j s.size) 10 w).mono fun e w' h=>And.intro h.1 h.2.symm;rw [iJ,show (10:Int).toNat.toUInt8 = 10 from rfl] at hI;cases hb:jE s[j].toNat
   ·rw [hb] at hB;rw [hg,hb] at hq;cases hp:Lib.hasPrefix (ag s j) [92,10]
    ·rw [hp] at hP hq;cases yE:((s[j].toNat:Int) == 35)
     ·rw [yE] at hq;have HB:=kq hB;have HP:=kq hP;have HQ:=kq hq;clear hB hP hI hq hb hp hg
      go_wp2_with (first
       | (go_at_call 117;refine (HB.out _).mono ?_;rintro e w' ⟨rfl,rfl⟩)
       | (go_at_call 118;refine (HP.out _).mono ?_;rintro e w' ⟨rfl,rfl⟩))
      go_ret;exact ⟨by rw [HQ.out];rfl,rfl⟩
     ·rw [yE] at hq
      by_cases h0:0≤Lib.indexByte (ag s j) 10
      ·have h1:=zF h0;have h2:=Cf aB (by rw [hg];exact yE) h0;rw [if_pos h0] at hq;obtain ⟨d,hd⟩:∃ d:Nat,Lib.indexByte (ag s j) 10 = (d:Int):=⟨_,(Int.toNat_of_nonneg h0).symm⟩;rw [hd] at hI hq h1 h2;simp only [Int.toNat_natCast] at h1 h2 hq;have aft:((d:Int) < 0) = False:=by simp
       have hx:IntKind.i64.wrap ((j:Int) + (d:Int)) = (j:Int) + (d:Int):=FP _ (by omega) (by omega);have HB:=kq hB;have HP:=kq hP;have HQ:=kq hq;have HI:=kq hI;clear hB hP hI hq hb hp hg hd h0
       go_wp2_with (first
        | (go_at_call 117;refine (HB.out _).mono ?_;rintro e w' ⟨rfl,rfl⟩)
        | (go_at_call 118;refine (HP.out _).mono ?_;rintro e w' ⟨rfl,rfl⟩)
        | (go_at_call 119;refine (HI.out _).mono ?_;rintro e w' ⟨rfl,rfl⟩))
       go_round
       case rel=>exact ⟨j + d,m,by omega,by go_num,by omega,HQ.out⟩
       case measure=>simp [intOf];omega
      ·rw [if_neg h0] at hq;have hm1:Lib.indexByte (ag s j) 10 = -1:=by have:=Lib.indexByte_ge (ag s j) 10;omega
       rw [hm1] at hI;have HB:=kq hB;have HP:=kq hP;have HQ:=kq hq;have HI:=kq hI;clear hB hP hI hq hb hp hg hm1 h0
       go_wp2_with (first
        | (go_at_call 117;refine (HB.out _).mono ?_;rintro e w' ⟨rfl,rfl⟩)
        | (go_at_call 118;refine (HP.out _).mono ?_;rintro e w' ⟨rfl,rfl⟩)
        | (go_at_call 119;refine (HI.out _).mono ?_;rintro e w' ⟨rfl,rfl⟩))
       go_ret;exact ⟨by rw [HQ.out];rfl,rfl⟩
    ·have h2:=wZ hp;rw [hp] at hP hq;have HB:=kq hB;have HP:=kq hP;have HQ:=kq hq;clear hB hP hI hq hb hp hg
     go_wp2_with (first
      | (go_at_call 117;refine (HB.out _).mono ?_;rintro e w' ⟨rfl,rfl⟩)
      | (go_at_call 118;refine (HP.out _).mono ?_;rintro e w' ⟨rfl,rfl⟩))
     go_round
     case rel=>exact ⟨j + 2,m,by omega,by go_num,by omega,HQ.out⟩
     case measure=>simp [intOf];omega
   ·rw [hb] at hB;rw [hg,hb] at hq;have HB:=kq hB;have HQ:=kq hq;clear hB hP hI hq hb hg;go_wp2_with (go_at_call 117;refine (HB.out _).mono ?_;rintro e w' ⟨rfl,rfl⟩);go_round
    case rel=>exact ⟨j + 1,m,by omega,by go_num,by omega,HQ.out⟩
    case measure=>simp [intOf];omega
  ·obtain rfl:j = s.size:=by omega
   have lH:Er = s.size:=by
    rw [hq];cases n with
    | zero=>rfl
    | succ n=>rw [aheadF,if_pos (Nat.le_refl _)]
   have HQ:=kq lH;clear hq lH;go_wp2_with fail;go_ret;exact ⟨by rw [HQ.out];rfl,rfl⟩
def Yr (w:World) (o:Tok) (e:Ending) (w':World):Prop :=
 ∃ a cap,e = .returned (.tuple #[.agg #[.int .i64 o.k,.int .i64 o.i,.string o.t,.slice a o.l.len cap,.int .i64 o.err],.int .i64 o.j])∧cu (fun b=>w.heap.size≤b) w' a cap o.l∧Below w.heap.size w w'
theorem SC {W:World} {tb k i k0 i0:Nat} {t t0:ByteArray} {v v0:Value} {err e0:Nat} (hT:ig W tb k0 i0 t0 v0 e0) :
  ig (((((W.setCell ⟨tb,0,none⟩ (.int .i64 k)).setCell ⟨tb,1,none⟩ (.int .i64 i)).setCell ⟨tb,2,none⟩ (.string t)).setCell ⟨tb,3,none⟩ v).setCell ⟨tb,4,none⟩ (.int .i64 err)) tb k i t v err∧(∀ b,b ≠ tb→(((((W.setCell ⟨tb,0,none⟩ (.int .i64 k)).setCell ⟨tb,1,none⟩ (.int .i64 i)).setCell ⟨tb,2,none⟩ (.string t)).setCell ⟨tb,3,none⟩ v).setCell ⟨tb,4,none⟩ (.int .i64 err)).heap[b]? = W.heap[b]?)∧(((((W.setCell ⟨tb,0,none⟩ (.int .i64 k)).setCell ⟨tb,1,none⟩ (.int .i64 i)).setCell ⟨tb,2,none⟩ (.string t)).setCell ⟨tb,3,none⟩ v).setCell ⟨tb,4,none⟩ (.int .i64 err)).heap.size = W.heap.size∧(((((W.setCell ⟨tb,0,none⟩ (.int .i64 k)).setCell ⟨tb,1,none⟩ (.int .i64 i)).setCell ⟨tb,2,none⟩ (.string t)).setCell ⟨tb,3,none⟩ v).setCell ⟨tb,4,none⟩ (.int .i64 err)).os = W.os∧(((((W.setCell ⟨tb,0,none⟩ (.int .i64 k)).setCell ⟨tb,1,none⟩ (.int .i64 i)).setCell ⟨tb,2,none⟩ (.string t)).setCell ⟨tb,3,none⟩ v).setCell ⟨tb,4,none⟩ (.int .i64 err)).tape = W.tape∧(((((W.setCell ⟨tb,0,none⟩ (.int .i64 k)).setCell ⟨tb,1,none⟩ (.int .i64 i)).setCell ⟨tb,2,none⟩ (.string t)).setCell ⟨tb,3,none⟩ v).setCell ⟨tb,4,none⟩ (.int .i64 err)).output = W.output :=
 ⟨heap_setCell_same _ _ 4 _ _ (.int .i64 err) (heap_setCell_same _ _ 3 _ _ v (heap_setCell_same _ _ 2 _ _ (.string t) (heap_setCell_same _ _ 1 _ _ (.int .i64 i) (heap_setCell_same _ _ 0 _ _ (.int .i64 k) hT)))),
  fun b hb=>(Below.heap_setCell _ _ _ _ hb).trans <| (Below.heap_setCell _ _ _ _ hb).trans <| (Below.heap_setCell _ _ _ _ hb).trans <| (Below.heap_setCell _ _ _ _ hb).trans <| Below.heap_setCell _ _ _ _ hb,by simp,(so _ _ _).trans <| (so _ _ _).trans <| (so _ _ _).trans <| (so _ _ _).trans <| so _ _ _,(st _ _ _).trans <| (st _ _ _).trans <| (st _ _ _).trans <| (st _ _ _).trans <| st _ _ _,(su _ _ _).trans <| (su _ _ _).trans <| (su _ _ _).trans <| (su _ _ _).trans <| su _ _ _⟩
theorem Pv {w W U:World} {o:Tok} {a:Option Addr} {cap tb:Nat} {tmps:Array Value} (h4:tmps[4]?.getD undef = .pointer (some ⟨tb,0,none⟩)) (h5:tmps[5]?.getD undef = .int .i64 o.j)
  (hP:ig U tb o.k o.i o.t (.slice a o.l.len cap) o.err∧(∀ b,b ≠ tb→U.heap[b]? = W.heap[b]?)∧U.heap.size = W.heap.size∧U.os = W.os∧U.tape = W.tape∧U.output = W.output)
  (hb:Below w.heap.size w W) (htb:w.heap.size≤tb) (hL:cu (fun b=>w.heap.size≤b∧b ≠ tb) W a cap o.l) :
  bodyPost Tryz.prog Tryz.f49 (Yr w o) Exit.ret { tmps:=tmps,defers:=[] } U:=by
 obtain ⟨h1,hk,hz,h3,h6,h7⟩:=hP;have x0:=dx h1;have x1:=dA h1;have x2:=ed h1;have x3:=fA h1;have x4:=dS h1;refine bodyPost_ret (v:=.tuple #[.agg #[.int .i64 o.k,.int .i64 o.i,.string o.t,.slice a o.l.len cap,.int .i64 o.err],.int .i64 o.j]) (by simp [results,Tryz.results49,go_sem,h4,h5,x0,x1,x2,x3,x4]) rfl ?_;exact ⟨a,cap,rfl,(hL.keep (by rw [hz];exact Nat.le_refl _) fun b hb _=>hk b hb.2).mono fun b hb _=>hb.1,⟨h3.trans hb.os,h6.trans hb.tape,h7.trans hb.output,by rw [hz];exact hb.size,fun b aB=>(hk b (by omega)).trans (hb.block b aB)⟩⟩
theorem jM (s:ByteArray) (hs:s.size≤1000000) (i:Nat) (hi:i≤s.size) (w:World) :
  Calls Tryz.prog 49 #[.string s,.int .i64 i] w (Yr w (cO s i)):=by
 have abT:∀ ts t w,(Builtin.max_ ts t #[.int .i64 (i:Int),.int .i64 0]).run Tryz.prog w = .ok (.int .i64 (i:Int)) w:=fun ts t w=>by rw [run_max_int2,if_neg (by omega)]
 have RZ:∀ ts t w,(Builtin.min_ ts t #[.int .i64 (i:Int),.int .i64 (s.size:Int)]).run Tryz.prog w = .ok (.int .i64 (i:Int)) w:=fun ts t w=>by rw [run_min_int2,if_neg (by omega)]
 have hA:=fun w=>MK s hs i hi w;have hal:=vK s (s.size + 1) i hi;have hT:=fun rb w (hR:fV w rb s (aheadF (s.size + 1) s i))=>ME s hs (aheadF (s.size + 1) s i) rb w hR hal.2;have hO:tokF s (aheadF (s.size + 1) s i) = cO s i:=rfl;rw [hO] at hT;generalize cO s i = o at hT ⊢
 generalize aheadF (s.size + 1) s i = m at hA hal hT hO;have HA:=kq hA;have HT:=kq hT;clear hA hT hO;go_enter Tryz.func49,Tryz.ntmps49
 go_wp2_with (first
  | (go_at_call 92;refine (HA.out _).mono ?_;rintro e w' ⟨rfl,rfl⟩))
 have qd:((w.alloc (.cells #[.int .i64 0,.int .i64 0,.string ⟨#[]⟩,.slice none 0 0,.int .i64 0] 59)).alloc (.cells #[.string s,.int .i64 m] 109)).heap[w.heap.size]? = some (.cells #[.int .i64 0,.int .i64 0,.string ⟨#[]⟩,.slice none 0 0,.int .i64 0] 59 (0,0)):=(Below.heap_alloc _ _ _ (by simp)).trans (heap_alloc_new _ _);have Iq:fV ((w.alloc (.cells #[.int .i64 0,.int .i64 0,.string ⟨#[]⟩,.slice none 0 0,.int .i64 0] 59)).alloc (.cells #[.string s,.int .i64 m] 109)) (w.heap.size + 1) s m:=by
  have h:=heap_alloc_new (w.alloc (.cells #[.int .i64 0,.int .i64 0,.string ⟨#[]⟩,.slice none 0 0,.int .i64 0] 59)) (.cells #[.string s,.int .i64 m] 109);simp only [World.size_alloc] at h;exact h
 have gZ:Below w.heap.size w ((w.alloc (.cells #[.int .i64 0,.int .i64 0,.string ⟨#[]⟩,.slice none 0 0,.int .i64 0] 59)).alloc (.cells #[.string s,.int .i64 m] 109)):=((Below.refl w.heap.size w).alloc (Nat.le_refl _) _).alloc (by simp) _;have Yt:((w.alloc (.cells #[.int .i64 0,.int .i64 0,.string ⟨#[]⟩,.slice none 0 0,.int .i64 0] 59)).alloc (.cells #[.string s,.int .i64 m] 109)).heap.size = w.heap.size + 2:=by simp
 have ug:=kq (HT.out _ _ Iq);generalize ((w.alloc (.cells #[.int .i64 0,.int .i64 0,.string ⟨#[]⟩,.slice none 0 0,.int .i64 0] 59)).alloc (.cells #[.string s,.int .i64 m] 109)) = W2 at qd Iq gZ Yt ug ⊢
 have ym:=kq qd;have fP:=kq gZ;have SE:=kq Yt;clear qd Iq gZ Yt;refine (ug.out).mono ?_;rintro e w1 ⟨⟨a,cap,rfl,hl⟩,hr,hf⟩;have Sa:w.heap.size + 2≤w1.heap.size:=by have:=hf.size;have:=SE.out;omega
 have kQ:ig w1 w.heap.size 0 0 ⟨#[]⟩ (.slice none 0 0) 0:=(hf.block _ (by have:=SE.out;omega) (.inl ⟨by have:=SE.out;omega,by omega⟩)).trans ym.out;have aP:Below w.heap.size w w1:=⟨hf.os.trans fP.out.os,hf.tape.trans fP.out.tape,hf.output.trans fP.out.output,by omega,fun b hb=>(hf.block b (by have:=SE.out;omega) (.inl ⟨by have:=SE.out;omega,by omega⟩)).trans (fP.out.block b hb)⟩;have mU:cu (fun b=>w.heap.size + 2≤b) w1 a cap o.l:=hl.mono fun b hb _=>by have:=SE.out;omega
 clear hl hf ym fP SE ug HT HA hal RZ abT;have d9:=aP.alloc (by omega) (.cells #[.int .i64 o.k,.int .i64 o.i,.string o.t,.slice a o.l.len cap,.int .i64 o.err] 59);have lM:ig (w1.alloc (.cells #[.int .i64 o.k,.int .i64 o.i,.string o.t,.slice a o.l.len cap,.int .i64 o.err] 59)) w.heap.size 0 0 ⟨#[]⟩ (.slice none 0 0) 0:=(Below.heap_alloc _ _ _ (by omega)).trans kQ;have VO:ig (w1.alloc (.cells #[.int .i64 o.k,.int .i64 o.i,.string o.t,.slice a o.l.len cap,.int .i64 o.err] 59)) w1.heap.size o.k o.i o.t (.slice a o.l.len cap) o.err:=heap_alloc_new _ _;have nR:fV (w1.alloc (.cells #[.int .i64 o.k,.int .i64 o.i,.string o.t,.slice a o.l.len cap,.int .i64 o.err] 59)) (w.heap.size + 1) s o.j:=(Below.heap_alloc _ _ _ (by omega)).trans hr;have Ba:cu (fun b=>w.heap.size≤b∧b ≠ w.heap.size) (w1.alloc (.cells #[.int .i64 o.k,.int .i64 o.i,.string o.t,.slice a o.l.len cap,.int .i64 o.err] 59)) a cap o.l:=(mU.keep (by simp) fun b _ aB=>Below.heap_alloc _ _ _ aB).mono fun b hb _=>by omega
 have lD:=kq lM;have UA:=kq VO;have KL:=kq nR;have SF:=kq Ba;have kR:=kq d9;clear aP kQ hr mU lM VO nR Ba d9;go_wp2_with fail;generalize (w1.alloc (.cells #[.int .i64 o.k,.int .i64 o.i,.string o.t,.slice a o.l.len cap,.int .i64 o.err] 59)) = V at lD UA KL SF kR ⊢
 have x0:=dx UA.out;have x1:=dA UA.out;have x2:=ed UA.out;have x3:=fA UA.out;have x4:=dS UA.out;have xj:V.cell? ⟨w.heap.size + 1,1,none⟩ = some (.int .i64 o.j):=KL.out.c1;have y0:=zf 0 lD.out;have y1:=zf 1 lD.out;have y2:=zf 2 lD.out;have y3:=zf 3 lD.out;have y4:=zf 4 lD.out;have z0:=dx lD.out;have z1:=dA lD.out;have z2:=ed lD.out;have z3:=fA lD.out;have z4:=dS lD.out;have n1:¬ (w1.heap.size = w.heap.size):=by omega
 have n2:¬ (w.heap.size = w1.heap.size):=by omega
 have n3:¬ (w.heap.size + 1 = w.heap.size):=by omega
 have n4:¬ (w.heap.size = w.heap.size + 1):=by omega
 have HPU:=kq (SC (k:=o.k) (i:=o.i) (t:=o.t) (v:=.slice a o.l.len cap) (err:=o.err) lD.out)
 go_region_held3 (fun w'=>w'.cell? ⟨w1.heap.size,0,none⟩ = some (.int .i64 o.k)∧w'.cell? ⟨w1.heap.size,1,none⟩ = some (.int .i64 o.i)∧w'.cell? ⟨w1.heap.size,2,none⟩ = some (.string o.t)∧w'.cell? ⟨w1.heap.size,3,none⟩ = some (.slice a o.l.len cap)∧w'.cell? ⟨w1.heap.size,4,none⟩ = some (.int .i64 o.err)∧w'.cell? ⟨w.heap.size + 1,1,none⟩ = some (.int .i64 o.j)) (go_keep) (fail)
 all_goals
  clear x0 x1 x2 x3 x4 xj y0 y1 y2 y3 y4 z0 z1 z2 z3 z4;have hPd:=HPU.out;rename_i Yu;clear Yu;generalize ((((V.setCell ⟨w.heap.size,0,none⟩ (.int .i64 o.k)).setCell ⟨w.heap.size,1,none⟩ (.int .i64 o.i)).setCell ⟨w.heap.size,2,none⟩ (.string o.t)).setCell ⟨w.heap.size,3,none⟩ (.slice a o.l.len cap)).setCell ⟨w.heap.size,4,none⟩ (.int .i64 o.err) = U at hPd ⊢
  have HPd:=kq hPd;clear hPd;go_wp2_with fail;refine Pv (U:=U.drew) (W:=V) (tb:=w.heap.size) ?_ ?_ HPd.out kR.out (Nat.le_refl _) SF.out
  ·rfl
  ·rfl
theorem cu.to {S S':Nat→Prop} {w w':World} {a:Option Addr} {cap:Nat} {l:PL} (h:cu S w a cap l) (hs:w.heap.size≤w'.heap.size) (hk:∀ b,S b→b < w.heap.size→w'.heap[b]? = w.heap[b]?) (hS:∀ b,S b→b < w.heap.size→S' b):cu S' w' a cap l :=
 fun w2 h2 rU=>h w2 (by omega) fun b hb aB=>(rU b (hS b hb aB) (by omega)).trans (hk b hb aB)
end Lx
end Go.Proofs.YtckakkeejekibaaGreatDoor
