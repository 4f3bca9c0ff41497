/- ahead, for every text and place. -/
import Derived.Test.YtjmpfihopeohbaaGreatDoorQxT
set_option maxHeartbeats 1600000
set_option maxRecDepth 100000
namespace Go.Proofs.YtjmpfihopeohbaaGreatDoor
open Go.RowKit Go.Sort
namespace Lx
open Cls Pt
theorem ahead_any (s:ByteArray) (hs:s.size≤1000000) (i:Nat) (hi:i≤s.size) (w:World) :
  Calls Tryz.prog 92 #[.string s,.int .i64 i] w fun e w'=>e = .returned (.int .i64 (aheadF (s.size + 1) s i))∧w = w':=by
 generalize hOUT:aheadF (s.size + 1) s i = OUT;have HOUT:=Lib.hid hOUT;clear hOUT;go_enter Tryz.func92,Tryz.ntmps92;go_wp2
 go_loop [1] (fun v=>∃ j n:Nat,j≤s.size∧v = .int .i64 j∧s.size < j + n∧OUT = aheadF n s j) (fun v=>s.size - (intOf v).toNat)
 case atStart=>exact ⟨i,s.size + 1,hi,rfl,by omega,HOUT.out.symm⟩
 case round =>
  obtain ⟨j,n,hj,rfl,hn,hq⟩:=hrel
  by_cases hlt:j < s.size
  ·obtain ⟨m,rfl⟩:∃ m,n = m + 1:=⟨n - 1,by omega⟩;rw [aheadF,if_neg (by omega)] at hq;have hg:byteAt s j = s[j]:=(getB hlt).symm;have hB:=fun w=>blank_any s[j].toNat w;have hP:=fun w=>(Tryz.strings_HasPrefix (s.extract j s.size) ⟨#[92,10]⟩ w).mono fun e w' h=>And.intro h.1 h.2.symm;rw [extract_end,show (⟨#[92,10]⟩:ByteArray).data.toList = [92,10] from rfl] at hP;have hI:=fun w=>(Tryz.strings_IndexByte (s.extract j s.size) 10 w).mono fun e w' h=>And.intro h.1 h.2.symm;rw [extract_end,show (10:Int).toNat.toUInt8 = 10 from rfl] at hI;cases hb:blankB s[j].toNat
   ·rw [hb] at hB;rw [hg,hb] at hq;cases hp:Lib.hasPrefix (restAt s j) [92,10]
    ·rw [hp] at hP hq;cases h35:((s[j].toNat:Int) == 35)
     ·rw [h35] at hq;have HB:=Lib.hid hB;have HP:=Lib.hid hP;have HQ:=Lib.hid hq;clear hB hP hI hq hb hp hg
      go_wp2_with (first
       | (go_at_call 117;refine (HB.out _).mono ?_;rintro e w' ⟨rfl,rfl⟩)
       | (go_at_call 118;refine (HP.out _).mono ?_;rintro e w' ⟨rfl,rfl⟩))
      go_ret;exact ⟨by rw [HQ.out];rfl,rfl⟩
     ·rw [h35] at hq
      by_cases h0:0≤Lib.indexByte (restAt s j) 10
      ·have h1:=index_lt h0;have h2:=index_pos hlt (by rw [hg];exact h35) h0;rw [if_pos h0] at hq;obtain ⟨d,hd⟩:∃ d:Nat,Lib.indexByte (restAt s j) 10 = (d:Int):=⟨_,(Int.toNat_of_nonneg h0).symm⟩;rw [hd] at hI hq h1 h2;simp only [Int.toNat_natCast] at h1 h2 hq;have hneg:((d:Int) < 0) = False:=by simp
       have hx:IntKind.i64.wrap ((j:Int) + (d:Int)) = (j:Int) + (d:Int):=wrapI _ (by omega) (by omega);have HB:=Lib.hid hB;have HP:=Lib.hid hP;have HQ:=Lib.hid hq;have HI:=Lib.hid hI;clear hB hP hI hq hb hp hg hd h0
       go_wp2_with (first
        | (go_at_call 117;refine (HB.out _).mono ?_;rintro e w' ⟨rfl,rfl⟩)
        | (go_at_call 118;refine (HP.out _).mono ?_;rintro e w' ⟨rfl,rfl⟩)
        | (go_at_call 119;refine (HI.out _).mono ?_;rintro e w' ⟨rfl,rfl⟩))
       go_round
       case rel=>exact ⟨j + d,m,by omega,by go_num,by omega,HQ.out⟩
       case measure=>simp [intOf];omega
      ·rw [if_neg h0] at hq;have hm1:Lib.indexByte (restAt s j) 10 = -1:=by have:=Lib.indexByte_ge (restAt s j) 10;omega
       rw [hm1] at hI;have HB:=Lib.hid hB;have HP:=Lib.hid hP;have HQ:=Lib.hid hq;have HI:=Lib.hid hI;clear hB hP hI hq hb hp hg hm1 h0
       go_wp2_with (first
        | (go_at_call 117;refine (HB.out _).mono ?_;rintro e w' ⟨rfl,rfl⟩)
        | (go_at_call 118;refine (HP.out _).mono ?_;rintro e w' ⟨rfl,rfl⟩)
        | (go_at_call 119;refine (HI.out _).mono ?_;rintro e w' ⟨rfl,rfl⟩))
       go_ret;exact ⟨by rw [HQ.out];rfl,rfl⟩
    ·have h2:=prefix_le hp;rw [hp] at hP hq;have HB:=Lib.hid hB;have HP:=Lib.hid hP;have HQ:=Lib.hid hq;clear hB hP hI hq hb hp hg
     go_wp2_with (first
      | (go_at_call 117;refine (HB.out _).mono ?_;rintro e w' ⟨rfl,rfl⟩)
      | (go_at_call 118;refine (HP.out _).mono ?_;rintro e w' ⟨rfl,rfl⟩))
     go_round
     case rel=>exact ⟨j + 2,m,by omega,by go_num,by omega,HQ.out⟩
     case measure=>simp [intOf];omega
   ·rw [hb] at hB;rw [hg,hb] at hq;have HB:=Lib.hid hB;have HQ:=Lib.hid hq;clear hB hP hI hq hb hg;go_wp2_with (go_at_call 117;refine (HB.out _).mono ?_;rintro e w' ⟨rfl,rfl⟩);go_round
    case rel=>exact ⟨j + 1,m,by omega,by go_num,by omega,HQ.out⟩
    case measure=>simp [intOf];omega
  ·obtain rfl:j = s.size:=by omega
   have hq2:OUT = s.size:=by
    rw [hq];cases n with
    | zero=>rfl
    | succ n=>rw [aheadF,if_pos (Nat.le_refl _)]
   have HQ:=Lib.hid hq2;clear hq hq2;go_wp2_with fail;go_ret;exact ⟨by rw [HQ.out];rfl,rfl⟩
end Lx
end Go.Proofs.YtjmpfihopeohbaaGreatDoor
namespace Go.Proofs.YtjmpfihopeohbaaGreatDoor
open Go.RowKit Go.Sort
namespace Lx
open Cls Pt
def GotN (w:World) (o:Tok) (e:Ending) (w':World):Prop :=
 ∃ a cap,e = .returned (.tuple #[.agg #[.int .i64 o.k,.int .i64 o.i,.string o.t,.slice a o.l.len cap,.int .i64 o.err],.int .i64 o.j])∧LiesS (fun b=>w.heap.size≤b) w' a cap o.l∧Below w.heap.size w w'
theorem tok_put {W:World} {tb k i k0 i0:Nat} {t t0:ByteArray} {v v0:Value} {err e0:Nat} (hT:TokAt W tb k0 i0 t0 v0 e0) :
  TokAt (((((W.setCell ⟨tb,0,none⟩ (.int .i64 k)).setCell ⟨tb,1,none⟩ (.int .i64 i)).setCell ⟨tb,2,none⟩ (.string t)).setCell ⟨tb,3,none⟩ v).setCell ⟨tb,4,none⟩ (.int .i64 err)) tb k i t v err∧(∀ b,b ≠ tb→(((((W.setCell ⟨tb,0,none⟩ (.int .i64 k)).setCell ⟨tb,1,none⟩ (.int .i64 i)).setCell ⟨tb,2,none⟩ (.string t)).setCell ⟨tb,3,none⟩ v).setCell ⟨tb,4,none⟩ (.int .i64 err)).heap[b]? = W.heap[b]?)∧(((((W.setCell ⟨tb,0,none⟩ (.int .i64 k)).setCell ⟨tb,1,none⟩ (.int .i64 i)).setCell ⟨tb,2,none⟩ (.string t)).setCell ⟨tb,3,none⟩ v).setCell ⟨tb,4,none⟩ (.int .i64 err)).heap.size = W.heap.size∧(((((W.setCell ⟨tb,0,none⟩ (.int .i64 k)).setCell ⟨tb,1,none⟩ (.int .i64 i)).setCell ⟨tb,2,none⟩ (.string t)).setCell ⟨tb,3,none⟩ v).setCell ⟨tb,4,none⟩ (.int .i64 err)).os = W.os∧(((((W.setCell ⟨tb,0,none⟩ (.int .i64 k)).setCell ⟨tb,1,none⟩ (.int .i64 i)).setCell ⟨tb,2,none⟩ (.string t)).setCell ⟨tb,3,none⟩ v).setCell ⟨tb,4,none⟩ (.int .i64 err)).tape = W.tape∧(((((W.setCell ⟨tb,0,none⟩ (.int .i64 k)).setCell ⟨tb,1,none⟩ (.int .i64 i)).setCell ⟨tb,2,none⟩ (.string t)).setCell ⟨tb,3,none⟩ v).setCell ⟨tb,4,none⟩ (.int .i64 err)).output = W.output :=
 ⟨heap_setCell_same _ _ 4 _ _ (.int .i64 err) (heap_setCell_same _ _ 3 _ _ v (heap_setCell_same _ _ 2 _ _ (.string t) (heap_setCell_same _ _ 1 _ _ (.int .i64 i) (heap_setCell_same _ _ 0 _ _ (.int .i64 k) hT)))),
  fun b hb=>(Below.heap_setCell _ _ _ _ hb).trans <| (Below.heap_setCell _ _ _ _ hb).trans <| (Below.heap_setCell _ _ _ _ hb).trans <| (Below.heap_setCell _ _ _ _ hb).trans <| Below.heap_setCell _ _ _ _ hb,by simp,(so _ _ _).trans <| (so _ _ _).trans <| (so _ _ _).trans <| (so _ _ _).trans <| so _ _ _,(st _ _ _).trans <| (st _ _ _).trans <| (st _ _ _).trans <| (st _ _ _).trans <| st _ _ _,(su _ _ _).trans <| (su _ _ _).trans <| (su _ _ _).trans <| (su _ _ _).trans <| su _ _ _⟩
theorem next_end {w W U:World} {o:Tok} {a:Option Addr} {cap tb:Nat} {tmps:Array Value} (h4:tmps[4]?.getD undef = .pointer (some ⟨tb,0,none⟩)) (h5:tmps[5]?.getD undef = .int .i64 o.j)
  (hP:TokAt U tb o.k o.i o.t (.slice a o.l.len cap) o.err∧(∀ b,b ≠ tb→U.heap[b]? = W.heap[b]?)∧U.heap.size = W.heap.size∧U.os = W.os∧U.tape = W.tape∧U.output = W.output)
  (hb:Below w.heap.size w W) (htb:w.heap.size≤tb) (hL:LiesS (fun b=>w.heap.size≤b∧b ≠ tb) W a cap o.l) :
  bodyPost Tryz.prog Tryz.f49 (GotN w o) Exit.ret { tmps:=tmps,defers:=[] } U:=by
 obtain ⟨h1,hk,hz,h3,h6,h7⟩:=hP;have x0:=zc0 h1;have x1:=zc1 h1;have x2:=zc2 h1;have x3:=zc3 h1;have x4:=zc4 h1;refine bodyPost_ret (v:=.tuple #[.agg #[.int .i64 o.k,.int .i64 o.i,.string o.t,.slice a o.l.len cap,.int .i64 o.err],.int .i64 o.j]) (by simp [results,Tryz.results49,go_sem,h4,h5,x0,x1,x2,x3,x4]) rfl ?_;exact ⟨a,cap,rfl,(hL.keep (by rw [hz];exact Nat.le_refl _) fun b hb _=>hk b hb.2).mono fun b hb _=>hb.1,⟨h3.trans hb.os,h6.trans hb.tape,h7.trans hb.output,by rw [hz];exact hb.size,fun b hlt=>(hk b (by omega)).trans (hb.block b hlt)⟩⟩
theorem next_any (s:ByteArray) (hs:s.size≤1000000) (hpl:Plain s) (i:Nat) (hi:i≤s.size) (h5:(tokAt s i).k ≠ 5) (w:World) :
  Calls Tryz.prog 49 #[.string s,.int .i64 i] w (GotN w (tokAt s i)):=by
 have hmax:∀ ts t w,(Builtin.max_ ts t #[.int .i64 (i:Int),.int .i64 0]).run Tryz.prog w = .ok (.int .i64 (i:Int)) w:=fun ts t w=>by rw [run_max_int2,if_neg (by omega)]
 have hmin:∀ ts t w,(Builtin.min_ ts t #[.int .i64 (i:Int),.int .i64 (s.size:Int)]).run Tryz.prog w = .ok (.int .i64 (i:Int)) w:=fun ts t w=>by rw [run_min_int2,if_neg (by omega)]
 have hA:=fun w=>ahead_any s hs i hi w;have hal:=ahead_le s (s.size + 1) i hi;have hT:=fun rb w (hR:RAt w rb s (aheadF (s.size + 1) s i))=>token_any s hs hpl (aheadF (s.size + 1) s i) rb w h5 hR hal.2;have hO:tokF s (aheadF (s.size + 1) s i) = tokAt s i:=rfl;rw [hO] at hT;generalize tokAt s i = o at hT ⊢
 generalize aheadF (s.size + 1) s i = m at hA hal hT hO;have HA:=Lib.hid hA;have HT:=Lib.hid hT;clear hA hT hO;go_enter Tryz.func49,Tryz.ntmps49
 go_wp2_with (first
  | (go_at_call 92;refine (HA.out _).mono ?_;rintro e w' ⟨rfl,rfl⟩))
 have hz0:((w.alloc (.cells #[.int .i64 0,.int .i64 0,.string ⟨#[]⟩,.slice none 0 0,.int .i64 0] 59)).alloc (.cells #[.string s,.int .i64 m] 109)).heap[w.heap.size]? = some (.cells #[.int .i64 0,.int .i64 0,.string ⟨#[]⟩,.slice none 0 0,.int .i64 0] 59 (0,0)):=(Below.heap_alloc _ _ _ (by simp)).trans (heap_alloc_new _ _);have hr0:RAt ((w.alloc (.cells #[.int .i64 0,.int .i64 0,.string ⟨#[]⟩,.slice none 0 0,.int .i64 0] 59)).alloc (.cells #[.string s,.int .i64 m] 109)) (w.heap.size + 1) s m:=by
  have h:=heap_alloc_new (w.alloc (.cells #[.int .i64 0,.int .i64 0,.string ⟨#[]⟩,.slice none 0 0,.int .i64 0] 59)) (.cells #[.string s,.int .i64 m] 109);simp only [World.size_alloc] at h;exact h
 have hb0:Below w.heap.size w ((w.alloc (.cells #[.int .i64 0,.int .i64 0,.string ⟨#[]⟩,.slice none 0 0,.int .i64 0] 59)).alloc (.cells #[.string s,.int .i64 m] 109)):=((Below.refl w.heap.size w).alloc (Nat.le_refl _) _).alloc (by simp) _;have hs0:((w.alloc (.cells #[.int .i64 0,.int .i64 0,.string ⟨#[]⟩,.slice none 0 0,.int .i64 0] 59)).alloc (.cells #[.string s,.int .i64 m] 109)).heap.size = w.heap.size + 2:=by simp
 have HT2:=Lib.hid (HT.out _ _ hr0);generalize ((w.alloc (.cells #[.int .i64 0,.int .i64 0,.string ⟨#[]⟩,.slice none 0 0,.int .i64 0] 59)).alloc (.cells #[.string s,.int .i64 m] 109)) = W2 at hz0 hr0 hb0 hs0 HT2 ⊢
 have HZ0:=Lib.hid hz0;have HB0:=Lib.hid hb0;have HS0:=Lib.hid hs0;clear hz0 hr0 hb0 hs0;refine (HT2.out).mono ?_;rintro e w1 ⟨⟨a,cap,rfl,hl⟩,hr,hf⟩;have hs1:w.heap.size + 2≤w1.heap.size:=by have:=hf.size;have:=HS0.out;omega
 have hz1:TokAt w1 w.heap.size 0 0 ⟨#[]⟩ (.slice none 0 0) 0:=(hf.block _ (by have:=HS0.out;omega) (.inl ⟨by have:=HS0.out;omega,by omega⟩)).trans HZ0.out;have hb1:Below w.heap.size w w1:=⟨hf.os.trans HB0.out.os,hf.tape.trans HB0.out.tape,hf.output.trans HB0.out.output,by omega,fun b hb=>(hf.block b (by have:=HS0.out;omega) (.inl ⟨by have:=HS0.out;omega,by omega⟩)).trans (HB0.out.block b hb)⟩;have hl1:LiesS (fun b=>w.heap.size + 2≤b) w1 a cap o.l:=hl.mono fun b hb _=>by have:=HS0.out;omega
 clear hl hf HZ0 HB0 HS0 HT2 HT HA hal hmin hmax;have hb2:=hb1.alloc (by omega) (.cells #[.int .i64 o.k,.int .i64 o.i,.string o.t,.slice a o.l.len cap,.int .i64 o.err] 59);have hz2:TokAt (w1.alloc (.cells #[.int .i64 o.k,.int .i64 o.i,.string o.t,.slice a o.l.len cap,.int .i64 o.err] 59)) w.heap.size 0 0 ⟨#[]⟩ (.slice none 0 0) 0:=(Below.heap_alloc _ _ _ (by omega)).trans hz1;have hy2:TokAt (w1.alloc (.cells #[.int .i64 o.k,.int .i64 o.i,.string o.t,.slice a o.l.len cap,.int .i64 o.err] 59)) w1.heap.size o.k o.i o.t (.slice a o.l.len cap) o.err:=heap_alloc_new _ _;have hr2:RAt (w1.alloc (.cells #[.int .i64 o.k,.int .i64 o.i,.string o.t,.slice a o.l.len cap,.int .i64 o.err] 59)) (w.heap.size + 1) s o.j:=(Below.heap_alloc _ _ _ (by omega)).trans hr;have hl2:LiesS (fun b=>w.heap.size≤b∧b ≠ w.heap.size) (w1.alloc (.cells #[.int .i64 o.k,.int .i64 o.i,.string o.t,.slice a o.l.len cap,.int .i64 o.err] 59)) a cap o.l:=(hl1.keep (by simp) fun b _ hlt=>Below.heap_alloc _ _ _ hlt).mono fun b hb _=>by omega
 have HZ2:=Lib.hid hz2;have HY2:=Lib.hid hy2;have HR2:=Lib.hid hr2;have HL2:=Lib.hid hl2;have HB2:=Lib.hid hb2;clear hb1 hz1 hr hl1 hz2 hy2 hr2 hl2 hb2;go_wp2_with fail;generalize (w1.alloc (.cells #[.int .i64 o.k,.int .i64 o.i,.string o.t,.slice a o.l.len cap,.int .i64 o.err] 59)) = V at HZ2 HY2 HR2 HL2 HB2 ⊢
 have x0:=zc0 HY2.out;have x1:=zc1 HY2.out;have x2:=zc2 HY2.out;have x3:=zc3 HY2.out;have x4:=zc4 HY2.out;have xj:V.cell? ⟨w.heap.size + 1,1,none⟩ = some (.int .i64 o.j):=HR2.out.c1;have y0:=zf 0 HZ2.out;have y1:=zf 1 HZ2.out;have y2:=zf 2 HZ2.out;have y3:=zf 3 HZ2.out;have y4:=zf 4 HZ2.out;have z0:=zc0 HZ2.out;have z1:=zc1 HZ2.out;have z2:=zc2 HZ2.out;have z3:=zc3 HZ2.out;have z4:=zc4 HZ2.out;have n1:¬ (w1.heap.size = w.heap.size):=by omega
 have n2:¬ (w.heap.size = w1.heap.size):=by omega
 have n3:¬ (w.heap.size + 1 = w.heap.size):=by omega
 have n4:¬ (w.heap.size = w.heap.size + 1):=by omega
 have HPU:=Lib.hid (tok_put (k:=o.k) (i:=o.i) (t:=o.t) (v:=.slice a o.l.len cap) (err:=o.err) HZ2.out)
 go_region_held3 (fun w'=>w'.cell? ⟨w1.heap.size,0,none⟩ = some (.int .i64 o.k)∧w'.cell? ⟨w1.heap.size,1,none⟩ = some (.int .i64 o.i)∧w'.cell? ⟨w1.heap.size,2,none⟩ = some (.string o.t)∧w'.cell? ⟨w1.heap.size,3,none⟩ = some (.slice a o.l.len cap)∧w'.cell? ⟨w1.heap.size,4,none⟩ = some (.int .i64 o.err)∧w'.cell? ⟨w.heap.size + 1,1,none⟩ = some (.int .i64 o.j)) (go_keep) (fail)
 all_goals
  clear x0 x1 x2 x3 x4 xj y0 y1 y2 y3 y4 z0 z1 z2 z3 z4;have hPd:=HPU.out;rename_i hHeld;clear hHeld;generalize ((((V.setCell ⟨w.heap.size,0,none⟩ (.int .i64 o.k)).setCell ⟨w.heap.size,1,none⟩ (.int .i64 o.i)).setCell ⟨w.heap.size,2,none⟩ (.string o.t)).setCell ⟨w.heap.size,3,none⟩ (.slice a o.l.len cap)).setCell ⟨w.heap.size,4,none⟩ (.int .i64 o.err) = U at hPd ⊢
  have HPd:=Lib.hid hPd;clear hPd;go_wp2_with fail;refine next_end (U:=U.drew) (W:=V) (tb:=w.heap.size) ?_ ?_ HPd.out HB2.out (Nat.le_refl _) HL2.out
  ·rfl
  ·rfl
end Lx
end Go.Proofs.YtjmpfihopeohbaaGreatDoor
