/- compound, given what is in it. -/
/- program, given what a list is. -/
/- each, given what is behind. -/
import Derived.Test.YtfjfgaefbldgbaaGreatPsP
namespace Go.Proofs.YtfjfgaefbldgbaaGreat
open Go.RowKit Go.Sort
namespace Ps
open Cls Pt Tr Sp Lx
set_option maxHeartbeats 4000000 in
set_option maxRecDepth 100000 in
theorem compound_step (s:ByteArray) (hs:s.size≤400000) (n:Nat) (IE:EncAt s n) (IB:BranchAt s n) (IL:LoopAt s n) (IA:EachAt s n) (IQ:ChoiceAt s n):CompoundAt s (n + 2):=by
 intro S pb d o w hd h hfu
 have HE:=Lib.hid IE;have HB:=Lib.hid IB;have HL:=Lib.hid IL;have HA:=Lib.hid IA;have HO:=Lib.hid IQ
 clear IE IB IL IA IQ
 have hon:Fn EN 8 29 S pb s d w.heap.size w.heap.size w.heap.size w (w.alloc (.cells #[.int .i64 0,.string ⟨#[]⟩,.bool false,.slice none 0 0,.slice none 0 0,.slice none 0 0,.slice none 0 0,.slice none 0 0] 29)) o (.slice none 0 0) [] (.slice none 0 0) [] row0 row0 29 S (fun _=>True):=Fn.start h
 obtain ⟨R0,hR⟩:∃ R0,(compoundF s d (n + 2) o) = R0:=⟨_,rfl⟩
 rw [hR]
 rw [compoundF] at hR
 have H:=Lib.hid h;have HN:=Lib.hid hR;have HON:=Lib.hid hon;have HFU:=Lib.hid hfu
 clear h hR hon hfu
 go_enter Tryz.func103,Tryz.ntmps103
 go_wp2_with fail
 have hko:opensB o = true→o.k ≠ 4:=fun h=>opens_k HON.out.hp.ok h
 have htx:opensB o = true→seesF tOpen o = true:=fun h=>h
 have hc:=opens_any _ pb s o d _ HON.out.hp
 have hn:=HN.out
 generalize hBo:opensB o = B at hc hn hko htx
 clear HN
 have HC:=Lib.hid hc;have HN:=Lib.hid hn
 clear hc hn
 cases B
 ·have hn:=HN.out
  rw [if_neg (by decide)] at hn
  clear HN
  have HN:=Lib.hid hn
  clear hn
  go_wp2_with fail
  refine HC.out.mono ?_
  rintro e w1 ⟨rfl,hb⟩
  have hon:=HON.out.below elemN hb
  clear HON HC hb
  have HON:=Lib.hid hon
  clear hon
  clear hko htx
  have hc:=wrong_any _ pb s o d 1 _ HON.out.hp
  have HC:=Lib.hid hc
  clear hc
  go_wp2_with fail
  refine HC.out.mono ?_
  rintro e w2 ⟨rfl,hb⟩
  have HDD:Does S pb s d w VN R0 (thrownP o.i 1) w2:=by rw [show R0 = .bad o.i 1 from HN.out.symm];exact ⟨HON.out.fr.trans (FrP.of_below hb),rfl⟩
  clear hb
  go_wp2_with fail
  exact ⟨rfl,HDD⟩
 ·have hn:=HN.out
  rw [if_pos rfl] at hn
  clear HN
  have HN:=Lib.hid hn
  clear hn
  go_wp2_with fail
  refine HC.out.mono ?_
  rintro e w1 ⟨rfl,hb⟩
  have hon:=HON.out.below elemN hb
  clear HON HC hb
  have HON:=Lib.hid hon
  clear hon
  have HKO:=Lib.hid hko
  have HTX:=Lib.hid (show Lib.containsS tOpen (textF o) = true from htx (by first | rfl | trivial))
  clear hko htx
  have hn:=HN.out
  rw [← enter_bind] at hn
  clear HN
  have HN:=Lib.hid hn
  clear hn
  have hk4:o.k ≠ 4:=HKO.out (by first | rfl | trivial)
  obtain ⟨a6,cap6,hr6,_⟩:=HON.out.hp.ex
  have c6:w1.cell? ⟨pb,6,none⟩ = some (.string (textF o)):=Lib.cell_of_heap hr6 6
  clear hr6
  have hent:=fun u q=>enter_ok (s:=s) (o:=o) (q:=q) (u:=u) hd
  have HK4:=Lib.hid hk4
  clear hk4
  have hc:=enter_any _ pb s hs o d hd _ HON.out.hp
  have hdw:DownS s _ (enterF s d o):=enter_down HON.out.hp.ok HK4.out
  have hn:=HN.out
  generalize (enterF s d o) = rX at hc hdw hn hent
  clear HN
  have HC:=Lib.hid hc;have HD0:=Lib.hid hdw;have HN:=Lib.hid hn
  clear hc hdw hn
  cases rX with
  | bad i er =>
   go_wp2_with fail
   refine HC.out.mono ?_
   rintro e w2 ⟨hf,rfl⟩
   have HDD:Does S pb s d w VN R0 (thrownP i er) w2:=by rw [show R0 = .bad i er from HN.out.symm];exact ⟨HON.out.fr.trans hf,rfl⟩
   clear hf
   go_wp2_with fail
   exact ⟨rfl,HDD⟩
  | ok u p2 =>
   have hm:=HD0.out _ _ rfl
   have HM4:=Lib.hid hm.1
   have hn:=HN.out
   rw [Rs.bind_ok] at hn
   clear HN HD0 hm
   have HN:=Lib.hid hn
   clear hn
   go_wp2_with fail
   refine HC.out.mono ?_
   rintro e w3 ⟨hf,⟨v,rfl,rfl⟩,hp⟩
   have hon:=HON.out.call elemN hf hp
   clear HON HC hf hp
   have HON:=Lib.hid hon
   clear hon
   have hd1:d + 1≤200:=hent _ _ rfl
   clear hent HKO c6
   skip
   have hn:=HN.out
   rw [openedF] at hn
   clear HN
   have HN:=Lib.hid hn
   clear hn
   have htx:=(Lib.containsS_iff _ _).1 HTX.out
   simp only [tOpen,List.mem_cons,List.not_mem_nil,or_false] at htx
   clear HTX
   generalize textF o = tx at HN htx ⊢
   rcases htx with rfl | rfl | rfl | rfl | rfl | rfl | rfl
   ·have hn:=HN.out
    rw [if_pos rfl] at hn
    clear HN
    have HN:=Lib.hid hn
    clear hn
    have hc:=HE.out _ pb (d + 1) p2 _ 11 ⟨#[125]⟩ (by decide) hd1 HON.out.hp (by have hm4:=HM4.out;have hfu:=HFU.out;omega)
    have hdw:Down s _ ((linesF s p2).bind fun _ o=>(listF s (d + 1) n [] [] o).bind fun x o=>(takeF s [⟨#[125]⟩] o).bind fun _ o=>.ok (nd 11 [x]) o):=(lines_down s (F s) p2 HON.out.hp.ok).bind fun _ q _ hq=>((downs_all s n).list (d + 1) [] [] q hq).bind fun x q _ hq=>(take_down hq (by decide)).to.bind fun _ q _ hq=>Down.ok hq
    have hn:=HN.out
    generalize ((linesF s p2).bind fun _ o=>(listF s (d + 1) n [] [] o).bind fun x o=>(takeF s [⟨#[125]⟩] o).bind fun _ o=>.ok (nd 11 [x]) o) = rX at hc hdw hn
    clear HN
    have HC:=Lib.hid hc;have HD0:=Lib.hid hdw;have HN:=Lib.hid hn
    clear hc hdw hn
    cases rX with
    | bad i er =>
     go_wp2_with fail
     refine HC.out.mono ?_
     rintro e w2 ⟨hf,rfl⟩
     have HDD:Does S pb s d w VN R0 (thrownP i er) w2:=by rw [show R0 = .bad i er from HN.out.symm];exact ⟨HON.out.fr.trans hf,rfl⟩
     clear hf
     go_wp2_with fail
     exact ⟨rfl,HDD⟩
    | ok x p5 =>
     have hm:=HD0.out _ _ rfl
     have HM7:=Lib.hid hm.1
     have hn:=HN.out
     clear HN HD0 hm
     have HN:=Lib.hid hn
     clear hn
     go_wp2_with fail
     refine HC.out.mono ?_
     rintro e w6 ⟨hf,⟨v,rfl,a1,c1,a2,c2,a3,c3,a4,c4,a5,c5,hv,hx⟩,hp⟩
     have hon:=HON.out.call elemN hf hp
     clear HON HC hf hp
     obtain rfl:v = .agg #[.int .i64 x.k,.string x.nm,.bool x.g,.slice a1 x.az.length c1,.slice a2 x.ws.length c2,.slice a3 x.ks.len c3,.slice a4 x.bs.length c4,.slice a5 x.cz.len c5]:=hv
     have hon:=hon.hold hx
     clear hx
     have HON:=Lib.hid hon
     clear hon
     have r0:w6.cell? ⟨w.heap.size,0,none⟩ = some (.int .i64 0):=Lib.cell_of_heap HON.out.two.rr 0;have f0:w6.frozen? ⟨w.heap.size,0,none⟩ = false:=frozen_of_row _ _ _ _ _ HON.out.two.rr
     have r1:w6.cell? ⟨w.heap.size,1,none⟩ = some (.string ⟨#[]⟩):=Lib.cell_of_heap HON.out.two.rr 1;have f1:w6.frozen? ⟨w.heap.size,1,none⟩ = false:=frozen_of_row _ _ _ _ _ HON.out.two.rr
     have r2:w6.cell? ⟨w.heap.size,2,none⟩ = some (.bool false):=Lib.cell_of_heap HON.out.two.rr 2;have f2:w6.frozen? ⟨w.heap.size,2,none⟩ = false:=frozen_of_row _ _ _ _ _ HON.out.two.rr
     have r3:w6.cell? ⟨w.heap.size,3,none⟩ = some (.slice none 0 0):=Lib.cell_of_heap HON.out.two.rr 3;have f3:w6.frozen? ⟨w.heap.size,3,none⟩ = false:=frozen_of_row _ _ _ _ _ HON.out.two.rr
     have r4:w6.cell? ⟨w.heap.size,4,none⟩ = some (.slice none 0 0):=Lib.cell_of_heap HON.out.two.rr 4;have f4:w6.frozen? ⟨w.heap.size,4,none⟩ = false:=frozen_of_row _ _ _ _ _ HON.out.two.rr
     have r5:w6.cell? ⟨w.heap.size,5,none⟩ = some (.slice none 0 0):=Lib.cell_of_heap HON.out.two.rr 5;have f5:w6.frozen? ⟨w.heap.size,5,none⟩ = false:=frozen_of_row _ _ _ _ _ HON.out.two.rr
     have r6:w6.cell? ⟨w.heap.size,6,none⟩ = some (.slice none 0 0):=Lib.cell_of_heap HON.out.two.rr 6;have f6:w6.frozen? ⟨w.heap.size,6,none⟩ = false:=frozen_of_row _ _ _ _ _ HON.out.two.rr
     have r7:w6.cell? ⟨w.heap.size,7,none⟩ = some (.slice none 0 0):=Lib.cell_of_heap HON.out.two.rr 7;have f7:w6.frozen? ⟨w.heap.size,7,none⟩ = false:=frozen_of_row _ _ _ _ _ HON.out.two.rr
     go_wp2_with fail
     have hst:=stored_rb w6 (w.heap.size) (.int .i64 x.k) (.string x.nm) (.bool x.g) (.slice a1 x.az.length c1) (.slice a2 x.ws.length c2) (.slice a3 x.ks.len c3) (.slice a4 x.bs.length c4) (.slice a5 x.cz.len c5) _ _ _ _ _ _ _ _ _ HON.out.two.rr
     have hsz:(((((((((w6.setCell ⟨w.heap.size,0,none⟩ (.int .i64 x.k)).setCell ⟨w.heap.size,1,none⟩ (.string x.nm)).setCell ⟨w.heap.size,2,none⟩ (.bool x.g)).setCell ⟨w.heap.size,3,none⟩ (.slice a1 x.az.length c1)).setCell ⟨w.heap.size,4,none⟩ (.slice a2 x.ws.length c2)).setCell ⟨w.heap.size,5,none⟩ (.slice a3 x.ks.len c3)).setCell ⟨w.heap.size,6,none⟩ (.slice a4 x.bs.length c4)).setCell ⟨w.heap.size,7,none⟩ (.slice a5 x.cz.len c5))).heap.size = w6.heap.size:=by simp
     have hon:=(HON.out.keep (HON.out.held.imp fun _ h=>h.2)).putr elemN hst.2 hst.1
     clear HON hst r0 f0 r1 f1 r2 f2 r3 f3 r4 f4 r5 f5 r6 f6 r7 f7
     have HON:=Lib.hid hon
     clear hon
     generalize ((((((((w6.setCell ⟨w.heap.size,0,none⟩ (.int .i64 x.k)).setCell ⟨w.heap.size,1,none⟩ (.string x.nm)).setCell ⟨w.heap.size,2,none⟩ (.bool x.g)).setCell ⟨w.heap.size,3,none⟩ (.slice a1 x.az.length c1)).setCell ⟨w.heap.size,4,none⟩ (.slice a2 x.ws.length c2)).setCell ⟨w.heap.size,5,none⟩ (.slice a3 x.ks.len c3)).setCell ⟨w.heap.size,6,none⟩ (.slice a4 x.bs.length c4)).setCell ⟨w.heap.size,7,none⟩ (.slice a5 x.cz.len c5)) = wv at HON hsz ⊢
     have HSZ:=Lib.hid hsz
     clear hsz
     have hc:=leave_does _ pb s p5 d hd _ HON.out.hp
     have HC:=Lib.hid hc
     clear hc
     go_wp2_with fail
     refine HC.out.mono ?_
     rintro e w9 ⟨hf,⟨v,rfl,rfl⟩,hp⟩
     have hon:=HON.out.call elemN hf hp
     clear HON HC hf hp
     have HON:=Lib.hid hon
     clear hon
     have r0:w9.cell? ⟨w.heap.size,0,none⟩ = some (.int .i64 x.k):=Lib.cell_of_heap HON.out.two.rr 0;have f0:w9.frozen? ⟨w.heap.size,0,none⟩ = false:=frozen_of_row _ _ _ _ _ HON.out.two.rr
     have r1:w9.cell? ⟨w.heap.size,1,none⟩ = some (.string x.nm):=Lib.cell_of_heap HON.out.two.rr 1;have f1:w9.frozen? ⟨w.heap.size,1,none⟩ = false:=frozen_of_row _ _ _ _ _ HON.out.two.rr
     have r2:w9.cell? ⟨w.heap.size,2,none⟩ = some (.bool x.g):=Lib.cell_of_heap HON.out.two.rr 2;have f2:w9.frozen? ⟨w.heap.size,2,none⟩ = false:=frozen_of_row _ _ _ _ _ HON.out.two.rr
     have r3:w9.cell? ⟨w.heap.size,3,none⟩ = some (.slice a1 x.az.length c1):=Lib.cell_of_heap HON.out.two.rr 3;have f3:w9.frozen? ⟨w.heap.size,3,none⟩ = false:=frozen_of_row _ _ _ _ _ HON.out.two.rr
     have r4:w9.cell? ⟨w.heap.size,4,none⟩ = some (.slice a2 x.ws.length c2):=Lib.cell_of_heap HON.out.two.rr 4;have f4:w9.frozen? ⟨w.heap.size,4,none⟩ = false:=frozen_of_row _ _ _ _ _ HON.out.two.rr
     have r5:w9.cell? ⟨w.heap.size,5,none⟩ = some (.slice a3 x.ks.len c3):=Lib.cell_of_heap HON.out.two.rr 5;have f5:w9.frozen? ⟨w.heap.size,5,none⟩ = false:=frozen_of_row _ _ _ _ _ HON.out.two.rr
     have r6:w9.cell? ⟨w.heap.size,6,none⟩ = some (.slice a4 x.bs.length c4):=Lib.cell_of_heap HON.out.two.rr 6;have f6:w9.frozen? ⟨w.heap.size,6,none⟩ = false:=frozen_of_row _ _ _ _ _ HON.out.two.rr
     have r7:w9.cell? ⟨w.heap.size,7,none⟩ = some (.slice a5 x.cz.len c5):=Lib.cell_of_heap HON.out.two.rr 7;have f7:w9.frozen? ⟨w.heap.size,7,none⟩ = false:=frozen_of_row _ _ _ _ _ HON.out.two.rr
     go_wp2_with fail
     have hst:=stored_rb w9 (w.heap.size) (.int .i64 x.k) (.string x.nm) (.bool x.g) (.slice a1 x.az.length c1) (.slice a2 x.ws.length c2) (.slice a3 x.ks.len c3) (.slice a4 x.bs.length c4) (.slice a5 x.cz.len c5) _ _ _ _ _ _ _ _ _ HON.out.two.rr
     generalize ((((((((w9.setCell ⟨w.heap.size,0,none⟩ (.int .i64 x.k)).setCell ⟨w.heap.size,1,none⟩ (.string x.nm)).setCell ⟨w.heap.size,2,none⟩ (.bool x.g)).setCell ⟨w.heap.size,3,none⟩ (.slice a1 x.az.length c1)).setCell ⟨w.heap.size,4,none⟩ (.slice a2 x.ws.length c2)).setCell ⟨w.heap.size,5,none⟩ (.slice a3 x.ks.len c3)).setCell ⟨w.heap.size,6,none⟩ (.slice a4 x.bs.length c4)).setCell ⟨w.heap.size,7,none⟩ (.slice a5 x.cz.len c5)) = W8 at hst ⊢
     obtain ⟨hr8,hch⟩:=hst
     have x0:=Lib.cell_of_heap hr8 0
     have x1:=Lib.cell_of_heap hr8 1
     have x2:=Lib.cell_of_heap hr8 2
     have x3:=Lib.cell_of_heap hr8 3
     have x4:=Lib.cell_of_heap hr8 4
     have x5:=Lib.cell_of_heap hr8 5
     have x6:=Lib.cell_of_heap hr8 6
     have x7:=Lib.cell_of_heap hr8 7
     refine bodyPost_ret (v:=.agg #[.int .i64 x.k,.string x.nm,.bool x.g,.slice a1 x.az.length c1,.slice a2 x.ws.length c2,.slice a3 x.ks.len c3,.slice a4 x.bs.length c4,.slice a5 x.cz.len c5]) (by simp [results,Tryz.results103,go_sem,x0,x1,x2,x3,x4,x5,x6,x7]) rfl ?_
     rw [← HN.out]
     exact HON.out.done H.out hch (VN.self (HON.out.ks hch))
   ·have hn:=HN.out
    rw [if_neg (by decide)] at hn
    rw [if_pos rfl] at hn
    clear HN
    have HN:=Lib.hid hn
    clear hn
    have hc:=HE.out _ pb (d + 1) p2 _ 12 ⟨#[41]⟩ (by decide) hd1 HON.out.hp (by have hm4:=HM4.out;have hfu:=HFU.out;omega)
    have hdw:Down s _ ((linesF s p2).bind fun _ o=>(listF s (d + 1) n [] [] o).bind fun x o=>(takeF s [⟨#[41]⟩] o).bind fun _ o=>.ok (nd 12 [x]) o):=(lines_down s (F s) p2 HON.out.hp.ok).bind fun _ q _ hq=>((downs_all s n).list (d + 1) [] [] q hq).bind fun x q _ hq=>(take_down hq (by decide)).to.bind fun _ q _ hq=>Down.ok hq
    have hn:=HN.out
    generalize ((linesF s p2).bind fun _ o=>(listF s (d + 1) n [] [] o).bind fun x o=>(takeF s [⟨#[41]⟩] o).bind fun _ o=>.ok (nd 12 [x]) o) = rX at hc hdw hn
    clear HN
    have HC:=Lib.hid hc;have HD0:=Lib.hid hdw;have HN:=Lib.hid hn
    clear hc hdw hn
    cases rX with
    | bad i er =>
     go_wp2_with fail
     refine HC.out.mono ?_
     rintro e w2 ⟨hf,rfl⟩
     have HDD:Does S pb s d w VN R0 (thrownP i er) w2:=by rw [show R0 = .bad i er from HN.out.symm];exact ⟨HON.out.fr.trans hf,rfl⟩
     clear hf
     go_wp2_with fail
     exact ⟨rfl,HDD⟩
    | ok x p10 =>
     have hm:=HD0.out _ _ rfl
     have HM12:=Lib.hid hm.1
     have hn:=HN.out
     clear HN HD0 hm
     have HN:=Lib.hid hn
     clear hn
     go_wp2_with fail
     refine HC.out.mono ?_
     rintro e w11 ⟨hf,⟨v,rfl,a1,c1,a2,c2,a3,c3,a4,c4,a5,c5,hv,hx⟩,hp⟩
     have hon:=HON.out.call elemN hf hp
     clear HON HC hf hp
     obtain rfl:v = .agg #[.int .i64 x.k,.string x.nm,.bool x.g,.slice a1 x.az.length c1,.slice a2 x.ws.length c2,.slice a3 x.ks.len c3,.slice a4 x.bs.length c4,.slice a5 x.cz.len c5]:=hv
     have hon:=hon.hold hx
     clear hx
     have HON:=Lib.hid hon
     clear hon
     have r0:w11.cell? ⟨w.heap.size,0,none⟩ = some (.int .i64 0):=Lib.cell_of_heap HON.out.two.rr 0;have f0:w11.frozen? ⟨w.heap.size,0,none⟩ = false:=frozen_of_row _ _ _ _ _ HON.out.two.rr
     have r1:w11.cell? ⟨w.heap.size,1,none⟩ = some (.string ⟨#[]⟩):=Lib.cell_of_heap HON.out.two.rr 1;have f1:w11.frozen? ⟨w.heap.size,1,none⟩ = false:=frozen_of_row _ _ _ _ _ HON.out.two.rr
     have r2:w11.cell? ⟨w.heap.size,2,none⟩ = some (.bool false):=Lib.cell_of_heap HON.out.two.rr 2;have f2:w11.frozen? ⟨w.heap.size,2,none⟩ = false:=frozen_of_row _ _ _ _ _ HON.out.two.rr
     have r3:w11.cell? ⟨w.heap.size,3,none⟩ = some (.slice none 0 0):=Lib.cell_of_heap HON.out.two.rr 3;have f3:w11.frozen? ⟨w.heap.size,3,none⟩ = false:=frozen_of_row _ _ _ _ _ HON.out.two.rr
     have r4:w11.cell? ⟨w.heap.size,4,none⟩ = some (.slice none 0 0):=Lib.cell_of_heap HON.out.two.rr 4;have f4:w11.frozen? ⟨w.heap.size,4,none⟩ = false:=frozen_of_row _ _ _ _ _ HON.out.two.rr
     have r5:w11.cell? ⟨w.heap.size,5,none⟩ = some (.slice none 0 0):=Lib.cell_of_heap HON.out.two.rr 5;have f5:w11.frozen? ⟨w.heap.size,5,none⟩ = false:=frozen_of_row _ _ _ _ _ HON.out.two.rr
     have r6:w11.cell? ⟨w.heap.size,6,none⟩ = some (.slice none 0 0):=Lib.cell_of_heap HON.out.two.rr 6;have f6:w11.frozen? ⟨w.heap.size,6,none⟩ = false:=frozen_of_row _ _ _ _ _ HON.out.two.rr
     have r7:w11.cell? ⟨w.heap.size,7,none⟩ = some (.slice none 0 0):=Lib.cell_of_heap HON.out.two.rr 7;have f7:w11.frozen? ⟨w.heap.size,7,none⟩ = false:=frozen_of_row _ _ _ _ _ HON.out.two.rr
     go_wp2_with fail
     have hst:=stored_rb w11 (w.heap.size) (.int .i64 x.k) (.string x.nm) (.bool x.g) (.slice a1 x.az.length c1) (.slice a2 x.ws.length c2) (.slice a3 x.ks.len c3) (.slice a4 x.bs.length c4) (.slice a5 x.cz.len c5) _ _ _ _ _ _ _ _ _ HON.out.two.rr
     have hsz:(((((((((w11.setCell ⟨w.heap.size,0,none⟩ (.int .i64 x.k)).setCell ⟨w.heap.size,1,none⟩ (.string x.nm)).setCell ⟨w.heap.size,2,none⟩ (.bool x.g)).setCell ⟨w.heap.size,3,none⟩ (.slice a1 x.az.length c1)).setCell ⟨w.heap.size,4,none⟩ (.slice a2 x.ws.length c2)).setCell ⟨w.heap.size,5,none⟩ (.slice a3 x.ks.len c3)).setCell ⟨w.heap.size,6,none⟩ (.slice a4 x.bs.length c4)).setCell ⟨w.heap.size,7,none⟩ (.slice a5 x.cz.len c5))).heap.size = w11.heap.size:=by simp
     have hon:=(HON.out.keep (HON.out.held.imp fun _ h=>h.2)).putr elemN hst.2 hst.1
     clear HON hst r0 f0 r1 f1 r2 f2 r3 f3 r4 f4 r5 f5 r6 f6 r7 f7
     have HON:=Lib.hid hon
     clear hon
     generalize ((((((((w11.setCell ⟨w.heap.size,0,none⟩ (.int .i64 x.k)).setCell ⟨w.heap.size,1,none⟩ (.string x.nm)).setCell ⟨w.heap.size,2,none⟩ (.bool x.g)).setCell ⟨w.heap.size,3,none⟩ (.slice a1 x.az.length c1)).setCell ⟨w.heap.size,4,none⟩ (.slice a2 x.ws.length c2)).setCell ⟨w.heap.size,5,none⟩ (.slice a3 x.ks.len c3)).setCell ⟨w.heap.size,6,none⟩ (.slice a4 x.bs.length c4)).setCell ⟨w.heap.size,7,none⟩ (.slice a5 x.cz.len c5)) = wv at HON hsz ⊢
     have HSZ:=Lib.hid hsz
     clear hsz
     have hc:=leave_does _ pb s p10 d hd _ HON.out.hp
     have HC:=Lib.hid hc
     clear hc
     go_wp2_with fail
     refine HC.out.mono ?_
     rintro e w14 ⟨hf,⟨v,rfl,rfl⟩,hp⟩
     have hon:=HON.out.call elemN hf hp
     clear HON HC hf hp
     have HON:=Lib.hid hon
     clear hon
     have r0:w14.cell? ⟨w.heap.size,0,none⟩ = some (.int .i64 x.k):=Lib.cell_of_heap HON.out.two.rr 0;have f0:w14.frozen? ⟨w.heap.size,0,none⟩ = false:=frozen_of_row _ _ _ _ _ HON.out.two.rr
     have r1:w14.cell? ⟨w.heap.size,1,none⟩ = some (.string x.nm):=Lib.cell_of_heap HON.out.two.rr 1;have f1:w14.frozen? ⟨w.heap.size,1,none⟩ = false:=frozen_of_row _ _ _ _ _ HON.out.two.rr
     have r2:w14.cell? ⟨w.heap.size,2,none⟩ = some (.bool x.g):=Lib.cell_of_heap HON.out.two.rr 2;have f2:w14.frozen? ⟨w.heap.size,2,none⟩ = false:=frozen_of_row _ _ _ _ _ HON.out.two.rr
     have r3:w14.cell? ⟨w.heap.size,3,none⟩ = some (.slice a1 x.az.length c1):=Lib.cell_of_heap HON.out.two.rr 3;have f3:w14.frozen? ⟨w.heap.size,3,none⟩ = false:=frozen_of_row _ _ _ _ _ HON.out.two.rr
     have r4:w14.cell? ⟨w.heap.size,4,none⟩ = some (.slice a2 x.ws.length c2):=Lib.cell_of_heap HON.out.two.rr 4;have f4:w14.frozen? ⟨w.heap.size,4,none⟩ = false:=frozen_of_row _ _ _ _ _ HON.out.two.rr
     have r5:w14.cell? ⟨w.heap.size,5,none⟩ = some (.slice a3 x.ks.len c3):=Lib.cell_of_heap HON.out.two.rr 5;have f5:w14.frozen? ⟨w.heap.size,5,none⟩ = false:=frozen_of_row _ _ _ _ _ HON.out.two.rr
     have r6:w14.cell? ⟨w.heap.size,6,none⟩ = some (.slice a4 x.bs.length c4):=Lib.cell_of_heap HON.out.two.rr 6;have f6:w14.frozen? ⟨w.heap.size,6,none⟩ = false:=frozen_of_row _ _ _ _ _ HON.out.two.rr
     have r7:w14.cell? ⟨w.heap.size,7,none⟩ = some (.slice a5 x.cz.len c5):=Lib.cell_of_heap HON.out.two.rr 7;have f7:w14.frozen? ⟨w.heap.size,7,none⟩ = false:=frozen_of_row _ _ _ _ _ HON.out.two.rr
     go_wp2_with fail
     have hst:=stored_rb w14 (w.heap.size) (.int .i64 x.k) (.string x.nm) (.bool x.g) (.slice a1 x.az.length c1) (.slice a2 x.ws.length c2) (.slice a3 x.ks.len c3) (.slice a4 x.bs.length c4) (.slice a5 x.cz.len c5) _ _ _ _ _ _ _ _ _ HON.out.two.rr
     generalize ((((((((w14.setCell ⟨w.heap.size,0,none⟩ (.int .i64 x.k)).setCell ⟨w.heap.size,1,none⟩ (.string x.nm)).setCell ⟨w.heap.size,2,none⟩ (.bool x.g)).setCell ⟨w.heap.size,3,none⟩ (.slice a1 x.az.length c1)).setCell ⟨w.heap.size,4,none⟩ (.slice a2 x.ws.length c2)).setCell ⟨w.heap.size,5,none⟩ (.slice a3 x.ks.len c3)).setCell ⟨w.heap.size,6,none⟩ (.slice a4 x.bs.length c4)).setCell ⟨w.heap.size,7,none⟩ (.slice a5 x.cz.len c5)) = W8 at hst ⊢
     obtain ⟨hr8,hch⟩:=hst
     have x0:=Lib.cell_of_heap hr8 0
     have x1:=Lib.cell_of_heap hr8 1
     have x2:=Lib.cell_of_heap hr8 2
     have x3:=Lib.cell_of_heap hr8 3
     have x4:=Lib.cell_of_heap hr8 4
     have x5:=Lib.cell_of_heap hr8 5
     have x6:=Lib.cell_of_heap hr8 6
     have x7:=Lib.cell_of_heap hr8 7
     refine bodyPost_ret (v:=.agg #[.int .i64 x.k,.string x.nm,.bool x.g,.slice a1 x.az.length c1,.slice a2 x.ws.length c2,.slice a3 x.ks.len c3,.slice a4 x.bs.length c4,.slice a5 x.cz.len c5]) (by simp [results,Tryz.results103,go_sem,x0,x1,x2,x3,x4,x5,x6,x7]) rfl ?_
     rw [← HN.out]
     exact HON.out.done H.out hch (VN.self (HON.out.ks hch))
   ·have hn:=HN.out
    rw [if_neg (by decide)] at hn
    rw [if_neg (by decide)] at hn
    rw [if_pos rfl] at hn
    clear HN
    have HN:=Lib.hid hn
    clear hn
    have hc:=HB.out _ pb (d + 1) p2 _ hd1 HON.out.hp (by have hm4:=HM4.out;have hfu:=HFU.out;omega)
    have hdw:Down s _ (branchF s (d + 1) n p2):=(downs_all s n).branch (d + 1) p2 HON.out.hp.ok
    have hn:=HN.out
    generalize (branchF s (d + 1) n p2) = rX at hc hdw hn
    clear HN
    have HC:=Lib.hid hc;have HD0:=Lib.hid hdw;have HN:=Lib.hid hn
    clear hc hdw hn
    cases rX with
    | bad i er =>
     go_wp2_with fail
     refine HC.out.mono ?_
     rintro e w2 ⟨hf,rfl⟩
     have HDD:Does S pb s d w VN R0 (thrownP i er) w2:=by rw [show R0 = .bad i er from HN.out.symm];exact ⟨HON.out.fr.trans hf,rfl⟩
     clear hf
     go_wp2_with fail
     exact ⟨rfl,HDD⟩
    | ok x p15 =>
     have hm:=HD0.out _ _ rfl
     have HM17:=Lib.hid hm.1
     have hn:=HN.out
     rw [Rs.bind_ok] at hn
     clear HN HD0 hm
     have HN:=Lib.hid hn
     clear hn
     go_wp2_with fail
     refine HC.out.mono ?_
     rintro e w16 ⟨hf,⟨v,rfl,a1,c1,a2,c2,a3,c3,a4,c4,a5,c5,hv,hx⟩,hp⟩
     have hon:=HON.out.call elemN hf hp
     clear HON HC hf hp
     obtain rfl:v = .agg #[.int .i64 x.k,.string x.nm,.bool x.g,.slice a1 x.az.length c1,.slice a2 x.ws.length c2,.slice a3 x.ks.len c3,.slice a4 x.bs.length c4,.slice a5 x.cz.len c5]:=hv
     have hon:=hon.hold hx
     clear hx
     have HON:=Lib.hid hon
     clear hon
     have r0:w16.cell? ⟨w.heap.size,0,none⟩ = some (.int .i64 0):=Lib.cell_of_heap HON.out.two.rr 0;have f0:w16.frozen? ⟨w.heap.size,0,none⟩ = false:=frozen_of_row _ _ _ _ _ HON.out.two.rr
     have r1:w16.cell? ⟨w.heap.size,1,none⟩ = some (.string ⟨#[]⟩):=Lib.cell_of_heap HON.out.two.rr 1;have f1:w16.frozen? ⟨w.heap.size,1,none⟩ = false:=frozen_of_row _ _ _ _ _ HON.out.two.rr
     have r2:w16.cell? ⟨w.heap.size,2,none⟩ = some (.bool false):=Lib.cell_of_heap HON.out.two.rr 2;have f2:w16.frozen? ⟨w.heap.size,2,none⟩ = false:=frozen_of_row _ _ _ _ _ HON.out.two.rr
     have r3:w16.cell? ⟨w.heap.size,3,none⟩ = some (.slice none 0 0):=Lib.cell_of_heap HON.out.two.rr 3;have f3:w16.frozen? ⟨w.heap.size,3,none⟩ = false:=frozen_of_row _ _ _ _ _ HON.out.two.rr
     have r4:w16.cell? ⟨w.heap.size,4,none⟩ = some (.slice none 0 0):=Lib.cell_of_heap HON.out.two.rr 4;have f4:w16.frozen? ⟨w.heap.size,4,none⟩ = false:=frozen_of_row _ _ _ _ _ HON.out.two.rr
     have r5:w16.cell? ⟨w.heap.size,5,none⟩ = some (.slice none 0 0):=Lib.cell_of_heap HON.out.two.rr 5;have f5:w16.frozen? ⟨w.heap.size,5,none⟩ = false:=frozen_of_row _ _ _ _ _ HON.out.two.rr
     have r6:w16.cell? ⟨w.heap.size,6,none⟩ = some (.slice none 0 0):=Lib.cell_of_heap HON.out.two.rr 6;have f6:w16.frozen? ⟨w.heap.size,6,none⟩ = false:=frozen_of_row _ _ _ _ _ HON.out.two.rr
     have r7:w16.cell? ⟨w.heap.size,7,none⟩ = some (.slice none 0 0):=Lib.cell_of_heap HON.out.two.rr 7;have f7:w16.frozen? ⟨w.heap.size,7,none⟩ = false:=frozen_of_row _ _ _ _ _ HON.out.two.rr
     go_wp2_with fail
     have hst:=stored_rb w16 (w.heap.size) (.int .i64 x.k) (.string x.nm) (.bool x.g) (.slice a1 x.az.length c1) (.slice a2 x.ws.length c2) (.slice a3 x.ks.len c3) (.slice a4 x.bs.length c4) (.slice a5 x.cz.len c5) _ _ _ _ _ _ _ _ _ HON.out.two.rr
     have hsz:(((((((((w16.setCell ⟨w.heap.size,0,none⟩ (.int .i64 x.k)).setCell ⟨w.heap.size,1,none⟩ (.string x.nm)).setCell ⟨w.heap.size,2,none⟩ (.bool x.g)).setCell ⟨w.heap.size,3,none⟩ (.slice a1 x.az.length c1)).setCell ⟨w.heap.size,4,none⟩ (.slice a2 x.ws.length c2)).setCell ⟨w.heap.size,5,none⟩ (.slice a3 x.ks.len c3)).setCell ⟨w.heap.size,6,none⟩ (.slice a4 x.bs.length c4)).setCell ⟨w.heap.size,7,none⟩ (.slice a5 x.cz.len c5))).heap.size = w16.heap.size:=by simp
     have hon:=(HON.out.keep (HON.out.held.imp fun _ h=>h.2)).putr elemN hst.2 hst.1
     clear HON hst r0 f0 r1 f1 r2 f2 r3 f3 r4 f4 r5 f5 r6 f6 r7 f7
     have HON:=Lib.hid hon
     clear hon
     generalize ((((((((w16.setCell ⟨w.heap.size,0,none⟩ (.int .i64 x.k)).setCell ⟨w.heap.size,1,none⟩ (.string x.nm)).setCell ⟨w.heap.size,2,none⟩ (.bool x.g)).setCell ⟨w.heap.size,3,none⟩ (.slice a1 x.az.length c1)).setCell ⟨w.heap.size,4,none⟩ (.slice a2 x.ws.length c2)).setCell ⟨w.heap.size,5,none⟩ (.slice a3 x.ks.len c3)).setCell ⟨w.heap.size,6,none⟩ (.slice a4 x.bs.length c4)).setCell ⟨w.heap.size,7,none⟩ (.slice a5 x.cz.len c5)) = wv at HON hsz ⊢
     have HSZ:=Lib.hid hsz
     clear hsz
     have hc:=take_row _ pb s hs p15 (d + 1) [⟨#[102,105]⟩] _ HON.out.hp (by decide)
     try simp only [World.size_alloc] at hc
     try rw [HSZ.out] at hc
     have hdw:DownS s _ (takeF s [⟨#[102,105]⟩] p15):=take_down (s:=s) (o:=p15) (l:=[⟨#[102,105]⟩]) HON.out.hp.ok (by decide)
     have hn:=HN.out
     generalize (takeF s [⟨#[102,105]⟩] p15) = rX at hc hdw hn
     clear HN
     have HC:=Lib.hid hc;have HD0:=Lib.hid hdw;have HN:=Lib.hid hn
     clear hc hdw hn
     cases rX with
     | bad i er =>
      go_wp2_with fail
      refine HC.out.mono ?_
      rintro e w2 ⟨hf,rfl⟩
      have HDD:Does S pb s d w VN R0 (thrownP i er) w2:=by rw [show R0 = .bad i er from HN.out.symm];exact ⟨HON.out.fr.trans hf,rfl⟩
      clear hf
      go_wp2_with fail
      exact ⟨rfl,HDD⟩
     | ok u p18 =>
      have hm:=HD0.out _ _ rfl
      have HM20:=Lib.hid hm.1
      have hn:=HN.out
      rw [Rs.bind_ok] at hn
      clear HN HD0 hm
      have HN:=Lib.hid hn
      clear hn
      go_wp2_with fail
      refine HC.out.mono ?_
      rintro e w19 ⟨hf,⟨v,rfl,rfl⟩,hp⟩
      have hon:=HON.out.call elemN hf hp
      clear HON HC hf hp
      have HON:=Lib.hid hon
      clear hon
      have hc:=leave_does _ pb s p18 d hd _ HON.out.hp
      have HC:=Lib.hid hc
      clear hc
      go_wp2_with fail
      refine HC.out.mono ?_
      rintro e w22 ⟨hf,⟨v,rfl,rfl⟩,hp⟩
      have hon:=HON.out.call elemN hf hp
      clear HON HC hf hp
      have HON:=Lib.hid hon
      clear hon
      have r0:w22.cell? ⟨w.heap.size,0,none⟩ = some (.int .i64 x.k):=Lib.cell_of_heap HON.out.two.rr 0;have f0:w22.frozen? ⟨w.heap.size,0,none⟩ = false:=frozen_of_row _ _ _ _ _ HON.out.two.rr
      have r1:w22.cell? ⟨w.heap.size,1,none⟩ = some (.string x.nm):=Lib.cell_of_heap HON.out.two.rr 1;have f1:w22.frozen? ⟨w.heap.size,1,none⟩ = false:=frozen_of_row _ _ _ _ _ HON.out.two.rr
      have r2:w22.cell? ⟨w.heap.size,2,none⟩ = some (.bool x.g):=Lib.cell_of_heap HON.out.two.rr 2;have f2:w22.frozen? ⟨w.heap.size,2,none⟩ = false:=frozen_of_row _ _ _ _ _ HON.out.two.rr
      have r3:w22.cell? ⟨w.heap.size,3,none⟩ = some (.slice a1 x.az.length c1):=Lib.cell_of_heap HON.out.two.rr 3;have f3:w22.frozen? ⟨w.heap.size,3,none⟩ = false:=frozen_of_row _ _ _ _ _ HON.out.two.rr
      have r4:w22.cell? ⟨w.heap.size,4,none⟩ = some (.slice a2 x.ws.length c2):=Lib.cell_of_heap HON.out.two.rr 4;have f4:w22.frozen? ⟨w.heap.size,4,none⟩ = false:=frozen_of_row _ _ _ _ _ HON.out.two.rr
      have r5:w22.cell? ⟨w.heap.size,5,none⟩ = some (.slice a3 x.ks.len c3):=Lib.cell_of_heap HON.out.two.rr 5;have f5:w22.frozen? ⟨w.heap.size,5,none⟩ = false:=frozen_of_row _ _ _ _ _ HON.out.two.rr
      have r6:w22.cell? ⟨w.heap.size,6,none⟩ = some (.slice a4 x.bs.length c4):=Lib.cell_of_heap HON.out.two.rr 6;have f6:w22.frozen? ⟨w.heap.size,6,none⟩ = false:=frozen_of_row _ _ _ _ _ HON.out.two.rr
      have r7:w22.cell? ⟨w.heap.size,7,none⟩ = some (.slice a5 x.cz.len c5):=Lib.cell_of_heap HON.out.two.rr 7;have f7:w22.frozen? ⟨w.heap.size,7,none⟩ = false:=frozen_of_row _ _ _ _ _ HON.out.two.rr
      go_wp2_with fail
      have hst:=stored_rb w22 (w.heap.size) (.int .i64 x.k) (.string x.nm) (.bool x.g) (.slice a1 x.az.length c1) (.slice a2 x.ws.length c2) (.slice a3 x.ks.len c3) (.slice a4 x.bs.length c4) (.slice a5 x.cz.len c5) _ _ _ _ _ _ _ _ _ HON.out.two.rr
      generalize ((((((((w22.setCell ⟨w.heap.size,0,none⟩ (.int .i64 x.k)).setCell ⟨w.heap.size,1,none⟩ (.string x.nm)).setCell ⟨w.heap.size,2,none⟩ (.bool x.g)).setCell ⟨w.heap.size,3,none⟩ (.slice a1 x.az.length c1)).setCell ⟨w.heap.size,4,none⟩ (.slice a2 x.ws.length c2)).setCell ⟨w.heap.size,5,none⟩ (.slice a3 x.ks.len c3)).setCell ⟨w.heap.size,6,none⟩ (.slice a4 x.bs.length c4)).setCell ⟨w.heap.size,7,none⟩ (.slice a5 x.cz.len c5)) = W8 at hst ⊢
      obtain ⟨hr8,hch⟩:=hst
      have x0:=Lib.cell_of_heap hr8 0
      have x1:=Lib.cell_of_heap hr8 1
      have x2:=Lib.cell_of_heap hr8 2
      have x3:=Lib.cell_of_heap hr8 3
      have x4:=Lib.cell_of_heap hr8 4
      have x5:=Lib.cell_of_heap hr8 5
      have x6:=Lib.cell_of_heap hr8 6
      have x7:=Lib.cell_of_heap hr8 7
      refine bodyPost_ret (v:=.agg #[.int .i64 x.k,.string x.nm,.bool x.g,.slice a1 x.az.length c1,.slice a2 x.ws.length c2,.slice a3 x.ks.len c3,.slice a4 x.bs.length c4,.slice a5 x.cz.len c5]) (by simp [results,Tryz.results103,go_sem,x0,x1,x2,x3,x4,x5,x6,x7]) rfl ?_
      rw [← HN.out]
      exact HON.out.done H.out hch (VN.self (HON.out.ks hch))
   ·have hn:=HN.out
    rw [if_neg (by decide)] at hn
    rw [if_neg (by decide)] at hn
    rw [if_neg (by decide)] at hn
    rw [if_pos rfl] at hn
    clear HN
    have HN:=Lib.hid hn
    clear hn
    have hc:=HL.out _ pb (d + 1) p2 _ 7 hd1 HON.out.hp (by have hm4:=HM4.out;have hfu:=HFU.out;omega)
    have hdw:Down s _ (loopF s (d + 1) n 7 p2):=(downs_all s n).loop (d + 1) 7 p2 HON.out.hp.ok
    have hn:=HN.out
    generalize (loopF s (d + 1) n 7 p2) = rX at hc hdw hn
    clear HN
    have HC:=Lib.hid hc;have HD0:=Lib.hid hdw;have HN:=Lib.hid hn
    clear hc hdw hn
    cases rX with
    | bad i er =>
     go_wp2_with fail
     refine HC.out.mono ?_
     rintro e w2 ⟨hf,rfl⟩
     have HDD:Does S pb s d w VN R0 (thrownP i er) w2:=by rw [show R0 = .bad i er from HN.out.symm];exact ⟨HON.out.fr.trans hf,rfl⟩
     clear hf
     go_wp2_with fail
     exact ⟨rfl,HDD⟩
    | ok x p23 =>
     have hm:=HD0.out _ _ rfl
     have HM25:=Lib.hid hm.1
     have hn:=HN.out
     clear HN HD0 hm
     have HN:=Lib.hid hn
     clear hn
     go_wp2_with fail
     refine HC.out.mono ?_
     rintro e w24 ⟨hf,⟨v,rfl,a1,c1,a2,c2,a3,c3,a4,c4,a5,c5,hv,hx⟩,hp⟩
     have hon:=HON.out.call elemN hf hp
     clear HON HC hf hp
     obtain rfl:v = .agg #[.int .i64 x.k,.string x.nm,.bool x.g,.slice a1 x.az.length c1,.slice a2 x.ws.length c2,.slice a3 x.ks.len c3,.slice a4 x.bs.length c4,.slice a5 x.cz.len c5]:=hv
     have hon:=hon.hold hx
     clear hx
     have HON:=Lib.hid hon
     clear hon
     have r0:w24.cell? ⟨w.heap.size,0,none⟩ = some (.int .i64 0):=Lib.cell_of_heap HON.out.two.rr 0;have f0:w24.frozen? ⟨w.heap.size,0,none⟩ = false:=frozen_of_row _ _ _ _ _ HON.out.two.rr
     have r1:w24.cell? ⟨w.heap.size,1,none⟩ = some (.string ⟨#[]⟩):=Lib.cell_of_heap HON.out.two.rr 1;have f1:w24.frozen? ⟨w.heap.size,1,none⟩ = false:=frozen_of_row _ _ _ _ _ HON.out.two.rr
     have r2:w24.cell? ⟨w.heap.size,2,none⟩ = some (.bool false):=Lib.cell_of_heap HON.out.two.rr 2;have f2:w24.frozen? ⟨w.heap.size,2,none⟩ = false:=frozen_of_row _ _ _ _ _ HON.out.two.rr
     have r3:w24.cell? ⟨w.heap.size,3,none⟩ = some (.slice none 0 0):=Lib.cell_of_heap HON.out.two.rr 3;have f3:w24.frozen? ⟨w.heap.size,3,none⟩ = false:=frozen_of_row _ _ _ _ _ HON.out.two.rr
     have r4:w24.cell? ⟨w.heap.size,4,none⟩ = some (.slice none 0 0):=Lib.cell_of_heap HON.out.two.rr 4;have f4:w24.frozen? ⟨w.heap.size,4,none⟩ = false:=frozen_of_row _ _ _ _ _ HON.out.two.rr
     have r5:w24.cell? ⟨w.heap.size,5,none⟩ = some (.slice none 0 0):=Lib.cell_of_heap HON.out.two.rr 5;have f5:w24.frozen? ⟨w.heap.size,5,none⟩ = false:=frozen_of_row _ _ _ _ _ HON.out.two.rr
     have r6:w24.cell? ⟨w.heap.size,6,none⟩ = some (.slice none 0 0):=Lib.cell_of_heap HON.out.two.rr 6;have f6:w24.frozen? ⟨w.heap.size,6,none⟩ = false:=frozen_of_row _ _ _ _ _ HON.out.two.rr
     have r7:w24.cell? ⟨w.heap.size,7,none⟩ = some (.slice none 0 0):=Lib.cell_of_heap HON.out.two.rr 7;have f7:w24.frozen? ⟨w.heap.size,7,none⟩ = false:=frozen_of_row _ _ _ _ _ HON.out.two.rr
     go_wp2_with fail
     have hst:=stored_rb w24 (w.heap.size) (.int .i64 x.k) (.string x.nm) (.bool x.g) (.slice a1 x.az.length c1) (.slice a2 x.ws.length c2) (.slice a3 x.ks.len c3) (.slice a4 x.bs.length c4) (.slice a5 x.cz.len c5) _ _ _ _ _ _ _ _ _ HON.out.two.rr
     have hsz:(((((((((w24.setCell ⟨w.heap.size,0,none⟩ (.int .i64 x.k)).setCell ⟨w.heap.size,1,none⟩ (.string x.nm)).setCell ⟨w.heap.size,2,none⟩ (.bool x.g)).setCell ⟨w.heap.size,3,none⟩ (.slice a1 x.az.length c1)).setCell ⟨w.heap.size,4,none⟩ (.slice a2 x.ws.length c2)).setCell ⟨w.heap.size,5,none⟩ (.slice a3 x.ks.len c3)).setCell ⟨w.heap.size,6,none⟩ (.slice a4 x.bs.length c4)).setCell ⟨w.heap.size,7,none⟩ (.slice a5 x.cz.len c5))).heap.size = w24.heap.size:=by simp
     have hon:=(HON.out.keep (HON.out.held.imp fun _ h=>h.2)).putr elemN hst.2 hst.1
     clear HON hst r0 f0 r1 f1 r2 f2 r3 f3 r4 f4 r5 f5 r6 f6 r7 f7
     have HON:=Lib.hid hon
     clear hon
     generalize ((((((((w24.setCell ⟨w.heap.size,0,none⟩ (.int .i64 x.k)).setCell ⟨w.heap.size,1,none⟩ (.string x.nm)).setCell ⟨w.heap.size,2,none⟩ (.bool x.g)).setCell ⟨w.heap.size,3,none⟩ (.slice a1 x.az.length c1)).setCell ⟨w.heap.size,4,none⟩ (.slice a2 x.ws.length c2)).setCell ⟨w.heap.size,5,none⟩ (.slice a3 x.ks.len c3)).setCell ⟨w.heap.size,6,none⟩ (.slice a4 x.bs.length c4)).setCell ⟨w.heap.size,7,none⟩ (.slice a5 x.cz.len c5)) = wv at HON hsz ⊢
     have HSZ:=Lib.hid hsz
     clear hsz
     have hc:=leave_does _ pb s p23 d hd _ HON.out.hp
     have HC:=Lib.hid hc
     clear hc
     go_wp2_with fail
     refine HC.out.mono ?_
     rintro e w27 ⟨hf,⟨v,rfl,rfl⟩,hp⟩
     have hon:=HON.out.call elemN hf hp
     clear HON HC hf hp
     have HON:=Lib.hid hon
     clear hon
     have r0:w27.cell? ⟨w.heap.size,0,none⟩ = some (.int .i64 x.k):=Lib.cell_of_heap HON.out.two.rr 0;have f0:w27.frozen? ⟨w.heap.size,0,none⟩ = false:=frozen_of_row _ _ _ _ _ HON.out.two.rr
     have r1:w27.cell? ⟨w.heap.size,1,none⟩ = some (.string x.nm):=Lib.cell_of_heap HON.out.two.rr 1;have f1:w27.frozen? ⟨w.heap.size,1,none⟩ = false:=frozen_of_row _ _ _ _ _ HON.out.two.rr
     have r2:w27.cell? ⟨w.heap.size,2,none⟩ = some (.bool x.g):=Lib.cell_of_heap HON.out.two.rr 2;have f2:w27.frozen? ⟨w.heap.size,2,none⟩ = false:=frozen_of_row _ _ _ _ _ HON.out.two.rr
     have r3:w27.cell? ⟨w.heap.size,3,none⟩ = some (.slice a1 x.az.length c1):=Lib.cell_of_heap HON.out.two.rr 3;have f3:w27.frozen? ⟨w.heap.size,3,none⟩ = false:=frozen_of_row _ _ _ _ _ HON.out.two.rr
     have r4:w27.cell? ⟨w.heap.size,4,none⟩ = some (.slice a2 x.ws.length c2):=Lib.cell_of_heap HON.out.two.rr 4;have f4:w27.frozen? ⟨w.heap.size,4,none⟩ = false:=frozen_of_row _ _ _ _ _ HON.out.two.rr
     have r5:w27.cell? ⟨w.heap.size,5,none⟩ = some (.slice a3 x.ks.len c3):=Lib.cell_of_heap HON.out.two.rr 5;have f5:w27.frozen? ⟨w.heap.size,5,none⟩ = false:=frozen_of_row _ _ _ _ _ HON.out.two.rr
     have r6:w27.cell? ⟨w.heap.size,6,none⟩ = some (.slice a4 x.bs.length c4):=Lib.cell_of_heap HON.out.two.rr 6;have f6:w27.frozen? ⟨w.heap.size,6,none⟩ = false:=frozen_of_row _ _ _ _ _ HON.out.two.rr
     have r7:w27.cell? ⟨w.heap.size,7,none⟩ = some (.slice a5 x.cz.len c5):=Lib.cell_of_heap HON.out.two.rr 7;have f7:w27.frozen? ⟨w.heap.size,7,none⟩ = false:=frozen_of_row _ _ _ _ _ HON.out.two.rr
     go_wp2_with fail
     have hst:=stored_rb w27 (w.heap.size) (.int .i64 x.k) (.string x.nm) (.bool x.g) (.slice a1 x.az.length c1) (.slice a2 x.ws.length c2) (.slice a3 x.ks.len c3) (.slice a4 x.bs.length c4) (.slice a5 x.cz.len c5) _ _ _ _ _ _ _ _ _ HON.out.two.rr
     generalize ((((((((w27.setCell ⟨w.heap.size,0,none⟩ (.int .i64 x.k)).setCell ⟨w.heap.size,1,none⟩ (.string x.nm)).setCell ⟨w.heap.size,2,none⟩ (.bool x.g)).setCell ⟨w.heap.size,3,none⟩ (.slice a1 x.az.length c1)).setCell ⟨w.heap.size,4,none⟩ (.slice a2 x.ws.length c2)).setCell ⟨w.heap.size,5,none⟩ (.slice a3 x.ks.len c3)).setCell ⟨w.heap.size,6,none⟩ (.slice a4 x.bs.length c4)).setCell ⟨w.heap.size,7,none⟩ (.slice a5 x.cz.len c5)) = W8 at hst ⊢
     obtain ⟨hr8,hch⟩:=hst
     have x0:=Lib.cell_of_heap hr8 0
     have x1:=Lib.cell_of_heap hr8 1
     have x2:=Lib.cell_of_heap hr8 2
     have x3:=Lib.cell_of_heap hr8 3
     have x4:=Lib.cell_of_heap hr8 4
     have x5:=Lib.cell_of_heap hr8 5
     have x6:=Lib.cell_of_heap hr8 6
     have x7:=Lib.cell_of_heap hr8 7
     refine bodyPost_ret (v:=.agg #[.int .i64 x.k,.string x.nm,.bool x.g,.slice a1 x.az.length c1,.slice a2 x.ws.length c2,.slice a3 x.ks.len c3,.slice a4 x.bs.length c4,.slice a5 x.cz.len c5]) (by simp [results,Tryz.results103,go_sem,x0,x1,x2,x3,x4,x5,x6,x7]) rfl ?_
     rw [← HN.out]
     exact HON.out.done H.out hch (VN.self (HON.out.ks hch))
   ·have hn:=HN.out
    rw [if_neg (by decide)] at hn
    rw [if_neg (by decide)] at hn
    rw [if_neg (by decide)] at hn
    rw [if_neg (by decide)] at hn
    rw [if_pos rfl] at hn
    clear HN
    have HN:=Lib.hid hn
    clear hn
    have hc:=HL.out _ pb (d + 1) p2 _ 8 hd1 HON.out.hp (by have hm4:=HM4.out;have hfu:=HFU.out;omega)
    have hdw:Down s _ (loopF s (d + 1) n 8 p2):=(downs_all s n).loop (d + 1) 8 p2 HON.out.hp.ok
    have hn:=HN.out
    generalize (loopF s (d + 1) n 8 p2) = rX at hc hdw hn
    clear HN
    have HC:=Lib.hid hc;have HD0:=Lib.hid hdw;have HN:=Lib.hid hn
    clear hc hdw hn
    cases rX with
    | bad i er =>
     go_wp2_with fail
     refine HC.out.mono ?_
     rintro e w2 ⟨hf,rfl⟩
     have HDD:Does S pb s d w VN R0 (thrownP i er) w2:=by rw [show R0 = .bad i er from HN.out.symm];exact ⟨HON.out.fr.trans hf,rfl⟩
     clear hf
     go_wp2_with fail
     exact ⟨rfl,HDD⟩
    | ok x p28 =>
     have hm:=HD0.out _ _ rfl
     have HM30:=Lib.hid hm.1
     have hn:=HN.out
     clear HN HD0 hm
     have HN:=Lib.hid hn
     clear hn
     go_wp2_with fail
     refine HC.out.mono ?_
     rintro e w29 ⟨hf,⟨v,rfl,a1,c1,a2,c2,a3,c3,a4,c4,a5,c5,hv,hx⟩,hp⟩
     have hon:=HON.out.call elemN hf hp
     clear HON HC hf hp
     obtain rfl:v = .agg #[.int .i64 x.k,.string x.nm,.bool x.g,.slice a1 x.az.length c1,.slice a2 x.ws.length c2,.slice a3 x.ks.len c3,.slice a4 x.bs.length c4,.slice a5 x.cz.len c5]:=hv
     have hon:=hon.hold hx
     clear hx
     have HON:=Lib.hid hon
     clear hon
     have r0:w29.cell? ⟨w.heap.size,0,none⟩ = some (.int .i64 0):=Lib.cell_of_heap HON.out.two.rr 0;have f0:w29.frozen? ⟨w.heap.size,0,none⟩ = false:=frozen_of_row _ _ _ _ _ HON.out.two.rr
     have r1:w29.cell? ⟨w.heap.size,1,none⟩ = some (.string ⟨#[]⟩):=Lib.cell_of_heap HON.out.two.rr 1;have f1:w29.frozen? ⟨w.heap.size,1,none⟩ = false:=frozen_of_row _ _ _ _ _ HON.out.two.rr
     have r2:w29.cell? ⟨w.heap.size,2,none⟩ = some (.bool false):=Lib.cell_of_heap HON.out.two.rr 2;have f2:w29.frozen? ⟨w.heap.size,2,none⟩ = false:=frozen_of_row _ _ _ _ _ HON.out.two.rr
     have r3:w29.cell? ⟨w.heap.size,3,none⟩ = some (.slice none 0 0):=Lib.cell_of_heap HON.out.two.rr 3;have f3:w29.frozen? ⟨w.heap.size,3,none⟩ = false:=frozen_of_row _ _ _ _ _ HON.out.two.rr
     have r4:w29.cell? ⟨w.heap.size,4,none⟩ = some (.slice none 0 0):=Lib.cell_of_heap HON.out.two.rr 4;have f4:w29.frozen? ⟨w.heap.size,4,none⟩ = false:=frozen_of_row _ _ _ _ _ HON.out.two.rr
     have r5:w29.cell? ⟨w.heap.size,5,none⟩ = some (.slice none 0 0):=Lib.cell_of_heap HON.out.two.rr 5;have f5:w29.frozen? ⟨w.heap.size,5,none⟩ = false:=frozen_of_row _ _ _ _ _ HON.out.two.rr
     have r6:w29.cell? ⟨w.heap.size,6,none⟩ = some (.slice none 0 0):=Lib.cell_of_heap HON.out.two.rr 6;have f6:w29.frozen? ⟨w.heap.size,6,none⟩ = false:=frozen_of_row _ _ _ _ _ HON.out.two.rr
     have r7:w29.cell? ⟨w.heap.size,7,none⟩ = some (.slice none 0 0):=Lib.cell_of_heap HON.out.two.rr 7;have f7:w29.frozen? ⟨w.heap.size,7,none⟩ = false:=frozen_of_row _ _ _ _ _ HON.out.two.rr
     go_wp2_with fail
     have hst:=stored_rb w29 (w.heap.size) (.int .i64 x.k) (.string x.nm) (.bool x.g) (.slice a1 x.az.length c1) (.slice a2 x.ws.length c2) (.slice a3 x.ks.len c3) (.slice a4 x.bs.length c4) (.slice a5 x.cz.len c5) _ _ _ _ _ _ _ _ _ HON.out.two.rr
     have hsz:(((((((((w29.setCell ⟨w.heap.size,0,none⟩ (.int .i64 x.k)).setCell ⟨w.heap.size,1,none⟩ (.string x.nm)).setCell ⟨w.heap.size,2,none⟩ (.bool x.g)).setCell ⟨w.heap.size,3,none⟩ (.slice a1 x.az.length c1)).setCell ⟨w.heap.size,4,none⟩ (.slice a2 x.ws.length c2)).setCell ⟨w.heap.size,5,none⟩ (.slice a3 x.ks.len c3)).setCell ⟨w.heap.size,6,none⟩ (.slice a4 x.bs.length c4)).setCell ⟨w.heap.size,7,none⟩ (.slice a5 x.cz.len c5))).heap.size = w29.heap.size:=by simp
     have hon:=(HON.out.keep (HON.out.held.imp fun _ h=>h.2)).putr elemN hst.2 hst.1
     clear HON hst r0 f0 r1 f1 r2 f2 r3 f3 r4 f4 r5 f5 r6 f6 r7 f7
     have HON:=Lib.hid hon
     clear hon
     generalize ((((((((w29.setCell ⟨w.heap.size,0,none⟩ (.int .i64 x.k)).setCell ⟨w.heap.size,1,none⟩ (.string x.nm)).setCell ⟨w.heap.size,2,none⟩ (.bool x.g)).setCell ⟨w.heap.size,3,none⟩ (.slice a1 x.az.length c1)).setCell ⟨w.heap.size,4,none⟩ (.slice a2 x.ws.length c2)).setCell ⟨w.heap.size,5,none⟩ (.slice a3 x.ks.len c3)).setCell ⟨w.heap.size,6,none⟩ (.slice a4 x.bs.length c4)).setCell ⟨w.heap.size,7,none⟩ (.slice a5 x.cz.len c5)) = wv at HON hsz ⊢
     have HSZ:=Lib.hid hsz
     clear hsz
     have hc:=leave_does _ pb s p28 d hd _ HON.out.hp
     have HC:=Lib.hid hc
     clear hc
     go_wp2_with fail
     refine HC.out.mono ?_
     rintro e w32 ⟨hf,⟨v,rfl,rfl⟩,hp⟩
     have hon:=HON.out.call elemN hf hp
     clear HON HC hf hp
     have HON:=Lib.hid hon
     clear hon
     have r0:w32.cell? ⟨w.heap.size,0,none⟩ = some (.int .i64 x.k):=Lib.cell_of_heap HON.out.two.rr 0;have f0:w32.frozen? ⟨w.heap.size,0,none⟩ = false:=frozen_of_row _ _ _ _ _ HON.out.two.rr
     have r1:w32.cell? ⟨w.heap.size,1,none⟩ = some (.string x.nm):=Lib.cell_of_heap HON.out.two.rr 1;have f1:w32.frozen? ⟨w.heap.size,1,none⟩ = false:=frozen_of_row _ _ _ _ _ HON.out.two.rr
     have r2:w32.cell? ⟨w.heap.size,2,none⟩ = some (.bool x.g):=Lib.cell_of_heap HON.out.two.rr 2;have f2:w32.frozen? ⟨w.heap.size,2,none⟩ = false:=frozen_of_row _ _ _ _ _ HON.out.two.rr
     have r3:w32.cell? ⟨w.heap.size,3,none⟩ = some (.slice a1 x.az.length c1):=Lib.cell_of_heap HON.out.two.rr 3;have f3:w32.frozen? ⟨w.heap.size,3,none⟩ = false:=frozen_of_row _ _ _ _ _ HON.out.two.rr
     have r4:w32.cell? ⟨w.heap.size,4,none⟩ = some (.slice a2 x.ws.length c2):=Lib.cell_of_heap HON.out.two.rr 4;have f4:w32.frozen? ⟨w.heap.size,4,none⟩ = false:=frozen_of_row _ _ _ _ _ HON.out.two.rr
     have r5:w32.cell? ⟨w.heap.size,5,none⟩ = some (.slice a3 x.ks.len c3):=Lib.cell_of_heap HON.out.two.rr 5;have f5:w32.frozen? ⟨w.heap.size,5,none⟩ = false:=frozen_of_row _ _ _ _ _ HON.out.two.rr
     have r6:w32.cell? ⟨w.heap.size,6,none⟩ = some (.slice a4 x.bs.length c4):=Lib.cell_of_heap HON.out.two.rr 6;have f6:w32.frozen? ⟨w.heap.size,6,none⟩ = false:=frozen_of_row _ _ _ _ _ HON.out.two.rr
     have r7:w32.cell? ⟨w.heap.size,7,none⟩ = some (.slice a5 x.cz.len c5):=Lib.cell_of_heap HON.out.two.rr 7;have f7:w32.frozen? ⟨w.heap.size,7,none⟩ = false:=frozen_of_row _ _ _ _ _ HON.out.two.rr
     go_wp2_with fail
     have hst:=stored_rb w32 (w.heap.size) (.int .i64 x.k) (.string x.nm) (.bool x.g) (.slice a1 x.az.length c1) (.slice a2 x.ws.length c2) (.slice a3 x.ks.len c3) (.slice a4 x.bs.length c4) (.slice a5 x.cz.len c5) _ _ _ _ _ _ _ _ _ HON.out.two.rr
     generalize ((((((((w32.setCell ⟨w.heap.size,0,none⟩ (.int .i64 x.k)).setCell ⟨w.heap.size,1,none⟩ (.string x.nm)).setCell ⟨w.heap.size,2,none⟩ (.bool x.g)).setCell ⟨w.heap.size,3,none⟩ (.slice a1 x.az.length c1)).setCell ⟨w.heap.size,4,none⟩ (.slice a2 x.ws.length c2)).setCell ⟨w.heap.size,5,none⟩ (.slice a3 x.ks.len c3)).setCell ⟨w.heap.size,6,none⟩ (.slice a4 x.bs.length c4)).setCell ⟨w.heap.size,7,none⟩ (.slice a5 x.cz.len c5)) = W8 at hst ⊢
     obtain ⟨hr8,hch⟩:=hst
     have x0:=Lib.cell_of_heap hr8 0
     have x1:=Lib.cell_of_heap hr8 1
     have x2:=Lib.cell_of_heap hr8 2
     have x3:=Lib.cell_of_heap hr8 3
     have x4:=Lib.cell_of_heap hr8 4
     have x5:=Lib.cell_of_heap hr8 5
     have x6:=Lib.cell_of_heap hr8 6
     have x7:=Lib.cell_of_heap hr8 7
     refine bodyPost_ret (v:=.agg #[.int .i64 x.k,.string x.nm,.bool x.g,.slice a1 x.az.length c1,.slice a2 x.ws.length c2,.slice a3 x.ks.len c3,.slice a4 x.bs.length c4,.slice a5 x.cz.len c5]) (by simp [results,Tryz.results103,go_sem,x0,x1,x2,x3,x4,x5,x6,x7]) rfl ?_
     rw [← HN.out]
     exact HON.out.done H.out hch (VN.self (HON.out.ks hch))
   ·have hn:=HN.out
    rw [if_neg (by decide)] at hn
    rw [if_neg (by decide)] at hn
    rw [if_neg (by decide)] at hn
    rw [if_neg (by decide)] at hn
    rw [if_neg (by decide)] at hn
    rw [if_pos rfl] at hn
    clear HN
    have HN:=Lib.hid hn
    clear hn
    have hc:=HA.out _ pb (d + 1) p2 _ hd1 HON.out.hp (by have hm4:=HM4.out;have hfu:=HFU.out;omega)
    have hdw:Down s _ (eachF s (d + 1) n p2):=(downs_all s n).each (d + 1) p2 HON.out.hp.ok
    have hn:=HN.out
    generalize (eachF s (d + 1) n p2) = rX at hc hdw hn
    clear HN
    have HC:=Lib.hid hc;have HD0:=Lib.hid hdw;have HN:=Lib.hid hn
    clear hc hdw hn
    cases rX with
    | bad i er =>
     go_wp2_with fail
     refine HC.out.mono ?_
     rintro e w2 ⟨hf,rfl⟩
     have HDD:Does S pb s d w VN R0 (thrownP i er) w2:=by rw [show R0 = .bad i er from HN.out.symm];exact ⟨HON.out.fr.trans hf,rfl⟩
     clear hf
     go_wp2_with fail
     exact ⟨rfl,HDD⟩
    | ok x p33 =>
     have hm:=HD0.out _ _ rfl
     have HM35:=Lib.hid hm.1
     have hn:=HN.out
     clear HN HD0 hm
     have HN:=Lib.hid hn
     clear hn
     go_wp2_with fail
     refine HC.out.mono ?_
     rintro e w34 ⟨hf,⟨v,rfl,a1,c1,a2,c2,a3,c3,a4,c4,a5,c5,hv,hx⟩,hp⟩
     have hon:=HON.out.call elemN hf hp
     clear HON HC hf hp
     obtain rfl:v = .agg #[.int .i64 x.k,.string x.nm,.bool x.g,.slice a1 x.az.length c1,.slice a2 x.ws.length c2,.slice a3 x.ks.len c3,.slice a4 x.bs.length c4,.slice a5 x.cz.len c5]:=hv
     have hon:=hon.hold hx
     clear hx
     have HON:=Lib.hid hon
     clear hon
     have r0:w34.cell? ⟨w.heap.size,0,none⟩ = some (.int .i64 0):=Lib.cell_of_heap HON.out.two.rr 0;have f0:w34.frozen? ⟨w.heap.size,0,none⟩ = false:=frozen_of_row _ _ _ _ _ HON.out.two.rr
     have r1:w34.cell? ⟨w.heap.size,1,none⟩ = some (.string ⟨#[]⟩):=Lib.cell_of_heap HON.out.two.rr 1;have f1:w34.frozen? ⟨w.heap.size,1,none⟩ = false:=frozen_of_row _ _ _ _ _ HON.out.two.rr
     have r2:w34.cell? ⟨w.heap.size,2,none⟩ = some (.bool false):=Lib.cell_of_heap HON.out.two.rr 2;have f2:w34.frozen? ⟨w.heap.size,2,none⟩ = false:=frozen_of_row _ _ _ _ _ HON.out.two.rr
     have r3:w34.cell? ⟨w.heap.size,3,none⟩ = some (.slice none 0 0):=Lib.cell_of_heap HON.out.two.rr 3;have f3:w34.frozen? ⟨w.heap.size,3,none⟩ = false:=frozen_of_row _ _ _ _ _ HON.out.two.rr
     have r4:w34.cell? ⟨w.heap.size,4,none⟩ = some (.slice none 0 0):=Lib.cell_of_heap HON.out.two.rr 4;have f4:w34.frozen? ⟨w.heap.size,4,none⟩ = false:=frozen_of_row _ _ _ _ _ HON.out.two.rr
     have r5:w34.cell? ⟨w.heap.size,5,none⟩ = some (.slice none 0 0):=Lib.cell_of_heap HON.out.two.rr 5;have f5:w34.frozen? ⟨w.heap.size,5,none⟩ = false:=frozen_of_row _ _ _ _ _ HON.out.two.rr
     have r6:w34.cell? ⟨w.heap.size,6,none⟩ = some (.slice none 0 0):=Lib.cell_of_heap HON.out.two.rr 6;have f6:w34.frozen? ⟨w.heap.size,6,none⟩ = false:=frozen_of_row _ _ _ _ _ HON.out.two.rr
     have r7:w34.cell? ⟨w.heap.size,7,none⟩ = some (.slice none 0 0):=Lib.cell_of_heap HON.out.two.rr 7;have f7:w34.frozen? ⟨w.heap.size,7,none⟩ = false:=frozen_of_row _ _ _ _ _ HON.out.two.rr
     go_wp2_with fail
     have hst:=stored_rb w34 (w.heap.size) (.int .i64 x.k) (.string x.nm) (.bool x.g) (.slice a1 x.az.length c1) (.slice a2 x.ws.length c2) (.slice a3 x.ks.len c3) (.slice a4 x.bs.length c4) (.slice a5 x.cz.len c5) _ _ _ _ _ _ _ _ _ HON.out.two.rr
     have hsz:(((((((((w34.setCell ⟨w.heap.size,0,none⟩ (.int .i64 x.k)).setCell ⟨w.heap.size,1,none⟩ (.string x.nm)).setCell ⟨w.heap.size,2,none⟩ (.bool x.g)).setCell ⟨w.heap.size,3,none⟩ (.slice a1 x.az.length c1)).setCell ⟨w.heap.size,4,none⟩ (.slice a2 x.ws.length c2)).setCell ⟨w.heap.size,5,none⟩ (.slice a3 x.ks.len c3)).setCell ⟨w.heap.size,6,none⟩ (.slice a4 x.bs.length c4)).setCell ⟨w.heap.size,7,none⟩ (.slice a5 x.cz.len c5))).heap.size = w34.heap.size:=by simp
     have hon:=(HON.out.keep (HON.out.held.imp fun _ h=>h.2)).putr elemN hst.2 hst.1
     clear HON hst r0 f0 r1 f1 r2 f2 r3 f3 r4 f4 r5 f5 r6 f6 r7 f7
     have HON:=Lib.hid hon
     clear hon
     generalize ((((((((w34.setCell ⟨w.heap.size,0,none⟩ (.int .i64 x.k)).setCell ⟨w.heap.size,1,none⟩ (.string x.nm)).setCell ⟨w.heap.size,2,none⟩ (.bool x.g)).setCell ⟨w.heap.size,3,none⟩ (.slice a1 x.az.length c1)).setCell ⟨w.heap.size,4,none⟩ (.slice a2 x.ws.length c2)).setCell ⟨w.heap.size,5,none⟩ (.slice a3 x.ks.len c3)).setCell ⟨w.heap.size,6,none⟩ (.slice a4 x.bs.length c4)).setCell ⟨w.heap.size,7,none⟩ (.slice a5 x.cz.len c5)) = wv at HON hsz ⊢
     have HSZ:=Lib.hid hsz
     clear hsz
     have hc:=leave_does _ pb s p33 d hd _ HON.out.hp
     have HC:=Lib.hid hc
     clear hc
     go_wp2_with fail
     refine HC.out.mono ?_
     rintro e w37 ⟨hf,⟨v,rfl,rfl⟩,hp⟩
     have hon:=HON.out.call elemN hf hp
     clear HON HC hf hp
     have HON:=Lib.hid hon
     clear hon
     have r0:w37.cell? ⟨w.heap.size,0,none⟩ = some (.int .i64 x.k):=Lib.cell_of_heap HON.out.two.rr 0;have f0:w37.frozen? ⟨w.heap.size,0,none⟩ = false:=frozen_of_row _ _ _ _ _ HON.out.two.rr
     have r1:w37.cell? ⟨w.heap.size,1,none⟩ = some (.string x.nm):=Lib.cell_of_heap HON.out.two.rr 1;have f1:w37.frozen? ⟨w.heap.size,1,none⟩ = false:=frozen_of_row _ _ _ _ _ HON.out.two.rr
     have r2:w37.cell? ⟨w.heap.size,2,none⟩ = some (.bool x.g):=Lib.cell_of_heap HON.out.two.rr 2;have f2:w37.frozen? ⟨w.heap.size,2,none⟩ = false:=frozen_of_row _ _ _ _ _ HON.out.two.rr
     have r3:w37.cell? ⟨w.heap.size,3,none⟩ = some (.slice a1 x.az.length c1):=Lib.cell_of_heap HON.out.two.rr 3;have f3:w37.frozen? ⟨w.heap.size,3,none⟩ = false:=frozen_of_row _ _ _ _ _ HON.out.two.rr
     have r4:w37.cell? ⟨w.heap.size,4,none⟩ = some (.slice a2 x.ws.length c2):=Lib.cell_of_heap HON.out.two.rr 4;have f4:w37.frozen? ⟨w.heap.size,4,none⟩ = false:=frozen_of_row _ _ _ _ _ HON.out.two.rr
     have r5:w37.cell? ⟨w.heap.size,5,none⟩ = some (.slice a3 x.ks.len c3):=Lib.cell_of_heap HON.out.two.rr 5;have f5:w37.frozen? ⟨w.heap.size,5,none⟩ = false:=frozen_of_row _ _ _ _ _ HON.out.two.rr
     have r6:w37.cell? ⟨w.heap.size,6,none⟩ = some (.slice a4 x.bs.length c4):=Lib.cell_of_heap HON.out.two.rr 6;have f6:w37.frozen? ⟨w.heap.size,6,none⟩ = false:=frozen_of_row _ _ _ _ _ HON.out.two.rr
     have r7:w37.cell? ⟨w.heap.size,7,none⟩ = some (.slice a5 x.cz.len c5):=Lib.cell_of_heap HON.out.two.rr 7;have f7:w37.frozen? ⟨w.heap.size,7,none⟩ = false:=frozen_of_row _ _ _ _ _ HON.out.two.rr
     go_wp2_with fail
     have hst:=stored_rb w37 (w.heap.size) (.int .i64 x.k) (.string x.nm) (.bool x.g) (.slice a1 x.az.length c1) (.slice a2 x.ws.length c2) (.slice a3 x.ks.len c3) (.slice a4 x.bs.length c4) (.slice a5 x.cz.len c5) _ _ _ _ _ _ _ _ _ HON.out.two.rr
     generalize ((((((((w37.setCell ⟨w.heap.size,0,none⟩ (.int .i64 x.k)).setCell ⟨w.heap.size,1,none⟩ (.string x.nm)).setCell ⟨w.heap.size,2,none⟩ (.bool x.g)).setCell ⟨w.heap.size,3,none⟩ (.slice a1 x.az.length c1)).setCell ⟨w.heap.size,4,none⟩ (.slice a2 x.ws.length c2)).setCell ⟨w.heap.size,5,none⟩ (.slice a3 x.ks.len c3)).setCell ⟨w.heap.size,6,none⟩ (.slice a4 x.bs.length c4)).setCell ⟨w.heap.size,7,none⟩ (.slice a5 x.cz.len c5)) = W8 at hst ⊢
     obtain ⟨hr8,hch⟩:=hst
     have x0:=Lib.cell_of_heap hr8 0
     have x1:=Lib.cell_of_heap hr8 1
     have x2:=Lib.cell_of_heap hr8 2
     have x3:=Lib.cell_of_heap hr8 3
     have x4:=Lib.cell_of_heap hr8 4
     have x5:=Lib.cell_of_heap hr8 5
     have x6:=Lib.cell_of_heap hr8 6
     have x7:=Lib.cell_of_heap hr8 7
     refine bodyPost_ret (v:=.agg #[.int .i64 x.k,.string x.nm,.bool x.g,.slice a1 x.az.length c1,.slice a2 x.ws.length c2,.slice a3 x.ks.len c3,.slice a4 x.bs.length c4,.slice a5 x.cz.len c5]) (by simp [results,Tryz.results103,go_sem,x0,x1,x2,x3,x4,x5,x6,x7]) rfl ?_
     rw [← HN.out]
     exact HON.out.done H.out hch (VN.self (HON.out.ks hch))
   ·have hn:=HN.out
    rw [if_neg (by decide)] at hn
    rw [if_neg (by decide)] at hn
    rw [if_neg (by decide)] at hn
    rw [if_neg (by decide)] at hn
    rw [if_neg (by decide)] at hn
    rw [if_neg (by decide)] at hn
    clear HN
    have HN:=Lib.hid hn
    clear hn
    have hc:=HO.out _ pb (d + 1) p2 _ hd1 HON.out.hp (by have hm4:=HM4.out;have hfu:=HFU.out;omega)
    have hdw:Down s _ (choiceF s (d + 1) n p2):=(downs_all s n).choice (d + 1) p2 HON.out.hp.ok
    have hn:=HN.out
    generalize (choiceF s (d + 1) n p2) = rX at hc hdw hn
    clear HN
    have HC:=Lib.hid hc;have HD0:=Lib.hid hdw;have HN:=Lib.hid hn
    clear hc hdw hn
    cases rX with
    | bad i er =>
     go_wp2_with fail
     refine HC.out.mono ?_
     rintro e w2 ⟨hf,rfl⟩
     have HDD:Does S pb s d w VN R0 (thrownP i er) w2:=by rw [show R0 = .bad i er from HN.out.symm];exact ⟨HON.out.fr.trans hf,rfl⟩
     clear hf
     go_wp2_with fail
     exact ⟨rfl,HDD⟩
    | ok x p38 =>
     have hm:=HD0.out _ _ rfl
     have HM40:=Lib.hid hm.1
     have hn:=HN.out
     clear HN HD0 hm
     have HN:=Lib.hid hn
     clear hn
     go_wp2_with fail
     refine HC.out.mono ?_
     rintro e w39 ⟨hf,⟨v,rfl,a1,c1,a2,c2,a3,c3,a4,c4,a5,c5,hv,hx⟩,hp⟩
     have hon:=HON.out.call elemN hf hp
     clear HON HC hf hp
     obtain rfl:v = .agg #[.int .i64 x.k,.string x.nm,.bool x.g,.slice a1 x.az.length c1,.slice a2 x.ws.length c2,.slice a3 x.ks.len c3,.slice a4 x.bs.length c4,.slice a5 x.cz.len c5]:=hv
     have hon:=hon.hold hx
     clear hx
     have HON:=Lib.hid hon
     clear hon
     have r0:w39.cell? ⟨w.heap.size,0,none⟩ = some (.int .i64 0):=Lib.cell_of_heap HON.out.two.rr 0;have f0:w39.frozen? ⟨w.heap.size,0,none⟩ = false:=frozen_of_row _ _ _ _ _ HON.out.two.rr
     have r1:w39.cell? ⟨w.heap.size,1,none⟩ = some (.string ⟨#[]⟩):=Lib.cell_of_heap HON.out.two.rr 1;have f1:w39.frozen? ⟨w.heap.size,1,none⟩ = false:=frozen_of_row _ _ _ _ _ HON.out.two.rr
     have r2:w39.cell? ⟨w.heap.size,2,none⟩ = some (.bool false):=Lib.cell_of_heap HON.out.two.rr 2;have f2:w39.frozen? ⟨w.heap.size,2,none⟩ = false:=frozen_of_row _ _ _ _ _ HON.out.two.rr
     have r3:w39.cell? ⟨w.heap.size,3,none⟩ = some (.slice none 0 0):=Lib.cell_of_heap HON.out.two.rr 3;have f3:w39.frozen? ⟨w.heap.size,3,none⟩ = false:=frozen_of_row _ _ _ _ _ HON.out.two.rr
     have r4:w39.cell? ⟨w.heap.size,4,none⟩ = some (.slice none 0 0):=Lib.cell_of_heap HON.out.two.rr 4;have f4:w39.frozen? ⟨w.heap.size,4,none⟩ = false:=frozen_of_row _ _ _ _ _ HON.out.two.rr
     have r5:w39.cell? ⟨w.heap.size,5,none⟩ = some (.slice none 0 0):=Lib.cell_of_heap HON.out.two.rr 5;have f5:w39.frozen? ⟨w.heap.size,5,none⟩ = false:=frozen_of_row _ _ _ _ _ HON.out.two.rr
     have r6:w39.cell? ⟨w.heap.size,6,none⟩ = some (.slice none 0 0):=Lib.cell_of_heap HON.out.two.rr 6;have f6:w39.frozen? ⟨w.heap.size,6,none⟩ = false:=frozen_of_row _ _ _ _ _ HON.out.two.rr
     have r7:w39.cell? ⟨w.heap.size,7,none⟩ = some (.slice none 0 0):=Lib.cell_of_heap HON.out.two.rr 7;have f7:w39.frozen? ⟨w.heap.size,7,none⟩ = false:=frozen_of_row _ _ _ _ _ HON.out.two.rr
     go_wp2_with fail
     have hst:=stored_rb w39 (w.heap.size) (.int .i64 x.k) (.string x.nm) (.bool x.g) (.slice a1 x.az.length c1) (.slice a2 x.ws.length c2) (.slice a3 x.ks.len c3) (.slice a4 x.bs.length c4) (.slice a5 x.cz.len c5) _ _ _ _ _ _ _ _ _ HON.out.two.rr
     have hsz:(((((((((w39.setCell ⟨w.heap.size,0,none⟩ (.int .i64 x.k)).setCell ⟨w.heap.size,1,none⟩ (.string x.nm)).setCell ⟨w.heap.size,2,none⟩ (.bool x.g)).setCell ⟨w.heap.size,3,none⟩ (.slice a1 x.az.length c1)).setCell ⟨w.heap.size,4,none⟩ (.slice a2 x.ws.length c2)).setCell ⟨w.heap.size,5,none⟩ (.slice a3 x.ks.len c3)).setCell ⟨w.heap.size,6,none⟩ (.slice a4 x.bs.length c4)).setCell ⟨w.heap.size,7,none⟩ (.slice a5 x.cz.len c5))).heap.size = w39.heap.size:=by simp
     have hon:=(HON.out.keep (HON.out.held.imp fun _ h=>h.2)).putr elemN hst.2 hst.1
     clear HON hst r0 f0 r1 f1 r2 f2 r3 f3 r4 f4 r5 f5 r6 f6 r7 f7
     have HON:=Lib.hid hon
     clear hon
     generalize ((((((((w39.setCell ⟨w.heap.size,0,none⟩ (.int .i64 x.k)).setCell ⟨w.heap.size,1,none⟩ (.string x.nm)).setCell ⟨w.heap.size,2,none⟩ (.bool x.g)).setCell ⟨w.heap.size,3,none⟩ (.slice a1 x.az.length c1)).setCell ⟨w.heap.size,4,none⟩ (.slice a2 x.ws.length c2)).setCell ⟨w.heap.size,5,none⟩ (.slice a3 x.ks.len c3)).setCell ⟨w.heap.size,6,none⟩ (.slice a4 x.bs.length c4)).setCell ⟨w.heap.size,7,none⟩ (.slice a5 x.cz.len c5)) = wv at HON hsz ⊢
     have HSZ:=Lib.hid hsz
     clear hsz
     have hc:=leave_does _ pb s p38 d hd _ HON.out.hp
     have HC:=Lib.hid hc
     clear hc
     go_wp2_with fail
     refine HC.out.mono ?_
     rintro e w42 ⟨hf,⟨v,rfl,rfl⟩,hp⟩
     have hon:=HON.out.call elemN hf hp
     clear HON HC hf hp
     have HON:=Lib.hid hon
     clear hon
     have r0:w42.cell? ⟨w.heap.size,0,none⟩ = some (.int .i64 x.k):=Lib.cell_of_heap HON.out.two.rr 0;have f0:w42.frozen? ⟨w.heap.size,0,none⟩ = false:=frozen_of_row _ _ _ _ _ HON.out.two.rr
     have r1:w42.cell? ⟨w.heap.size,1,none⟩ = some (.string x.nm):=Lib.cell_of_heap HON.out.two.rr 1;have f1:w42.frozen? ⟨w.heap.size,1,none⟩ = false:=frozen_of_row _ _ _ _ _ HON.out.two.rr
     have r2:w42.cell? ⟨w.heap.size,2,none⟩ = some (.bool x.g):=Lib.cell_of_heap HON.out.two.rr 2;have f2:w42.frozen? ⟨w.heap.size,2,none⟩ = false:=frozen_of_row _ _ _ _ _ HON.out.two.rr
     have r3:w42.cell? ⟨w.heap.size,3,none⟩ = some (.slice a1 x.az.length c1):=Lib.cell_of_heap HON.out.two.rr 3;have f3:w42.frozen? ⟨w.heap.size,3,none⟩ = false:=frozen_of_row _ _ _ _ _ HON.out.two.rr
     have r4:w42.cell? ⟨w.heap.size,4,none⟩ = some (.slice a2 x.ws.length c2):=Lib.cell_of_heap HON.out.two.rr 4;have f4:w42.frozen? ⟨w.heap.size,4,none⟩ = false:=frozen_of_row _ _ _ _ _ HON.out.two.rr
     have r5:w42.cell? ⟨w.heap.size,5,none⟩ = some (.slice a3 x.ks.len c3):=Lib.cell_of_heap HON.out.two.rr 5;have f5:w42.frozen? ⟨w.heap.size,5,none⟩ = false:=frozen_of_row _ _ _ _ _ HON.out.two.rr
     have r6:w42.cell? ⟨w.heap.size,6,none⟩ = some (.slice a4 x.bs.length c4):=Lib.cell_of_heap HON.out.two.rr 6;have f6:w42.frozen? ⟨w.heap.size,6,none⟩ = false:=frozen_of_row _ _ _ _ _ HON.out.two.rr
     have r7:w42.cell? ⟨w.heap.size,7,none⟩ = some (.slice a5 x.cz.len c5):=Lib.cell_of_heap HON.out.two.rr 7;have f7:w42.frozen? ⟨w.heap.size,7,none⟩ = false:=frozen_of_row _ _ _ _ _ HON.out.two.rr
     go_wp2_with fail
     have hst:=stored_rb w42 (w.heap.size) (.int .i64 x.k) (.string x.nm) (.bool x.g) (.slice a1 x.az.length c1) (.slice a2 x.ws.length c2) (.slice a3 x.ks.len c3) (.slice a4 x.bs.length c4) (.slice a5 x.cz.len c5) _ _ _ _ _ _ _ _ _ HON.out.two.rr
     generalize ((((((((w42.setCell ⟨w.heap.size,0,none⟩ (.int .i64 x.k)).setCell ⟨w.heap.size,1,none⟩ (.string x.nm)).setCell ⟨w.heap.size,2,none⟩ (.bool x.g)).setCell ⟨w.heap.size,3,none⟩ (.slice a1 x.az.length c1)).setCell ⟨w.heap.size,4,none⟩ (.slice a2 x.ws.length c2)).setCell ⟨w.heap.size,5,none⟩ (.slice a3 x.ks.len c3)).setCell ⟨w.heap.size,6,none⟩ (.slice a4 x.bs.length c4)).setCell ⟨w.heap.size,7,none⟩ (.slice a5 x.cz.len c5)) = W8 at hst ⊢
     obtain ⟨hr8,hch⟩:=hst
     have x0:=Lib.cell_of_heap hr8 0
     have x1:=Lib.cell_of_heap hr8 1
     have x2:=Lib.cell_of_heap hr8 2
     have x3:=Lib.cell_of_heap hr8 3
     have x4:=Lib.cell_of_heap hr8 4
     have x5:=Lib.cell_of_heap hr8 5
     have x6:=Lib.cell_of_heap hr8 6
     have x7:=Lib.cell_of_heap hr8 7
     refine bodyPost_ret (v:=.agg #[.int .i64 x.k,.string x.nm,.bool x.g,.slice a1 x.az.length c1,.slice a2 x.ws.length c2,.slice a3 x.ks.len c3,.slice a4 x.bs.length c4,.slice a5 x.cz.len c5]) (by simp [results,Tryz.results103,go_sem,x0,x1,x2,x3,x4,x5,x6,x7]) rfl ?_
     rw [← HN.out]
     exact HON.out.done H.out hch (VN.self (HON.out.ks hch))
end Ps
end Go.Proofs.YtfjfgaefbldgbaaGreat
namespace Go.Proofs.YtfjfgaefbldgbaaGreat
open Go.RowKit Go.Sort
namespace Ps
open Cls Pt Tr Sp Lx
def endF (x:ND) (o:Tok):Rs ND:=if o.k = 4 then .ok x o else .bad o.i 1
def programF (s:ByteArray) (n:Nat) (o:Tok):Rs ND:=(linesF s o).bind fun _ o=>if beginsB o then (listF s 0 n [] [] o).bind fun x o=>endF x o else endF (listD [] []) o
set_option maxHeartbeats 4000000 in
set_option maxRecDepth 100000 in
theorem program_any (s:ByteArray) (hs:s.size≤400000) (n:Nat) (IH:ListAt s n) (S:Nat→Prop) (pb:Nat) (o:Tok) (w:World) (h:PAt S w pb s o 0) (hfu:10 * mu s o + 6 < n) :
  Calls Tryz.prog 13 #[.pointer (some ⟨pb,0,none⟩)] w (Does S pb s 0 w VN (programF s n o)):=by
 have HIH:=Lib.hid IH
 clear IH
 have hon:Fn EN 8 29 S pb s 0 w.heap.size w.heap.size w.heap.size w (w.alloc (.cells #[.int .i64 0,.string ⟨#[]⟩,.bool false,.slice none 0 0,.slice none 0 0,.slice none 0 0,.slice none 0 0,.slice none 0 0] 29)) o (.slice none 0 0) [] (.slice none 0 0) [] row0 row0 29 S (fun _=>True):=Fn.start h
 obtain ⟨R0,hR⟩:∃ R0,(programF s n o) = R0:=⟨_,rfl⟩
 rw [hR]
 unfold programF at hR
 have H:=Lib.hid h;have HN:=Lib.hid hR;have HON:=Lib.hid hon;have HFU:=Lib.hid hfu
 clear h hR hon hfu
 have hon:Fn EN 8 29 S pb s 0 ((w.alloc (.cells #[.int .i64 0,.string ⟨#[]⟩,.bool false,.slice none 0 0,.slice none 0 0,.slice none 0 0,.slice none 0 0,.slice none 0 0] 29))).heap.size w.heap.size w.heap.size w ((w.alloc (.cells #[.int .i64 0,.string ⟨#[]⟩,.bool false,.slice none 0 0,.slice none 0 0,.slice none 0 0,.slice none 0 0,.slice none 0 0] 29)).alloc (.cells #[.int .i64 5,.string ⟨#[]⟩,.bool false,.slice none 0 0,.slice none 0 0,.slice none 0 0,.slice none 0 0,.slice none 0 0] 29)) _ (.slice none 0 0) [] (.slice none 0 0) [] #[.int .i64 5,.string ⟨#[]⟩,.bool false,.slice none 0 0,.slice none 0 0,.slice none 0 0,.slice none 0 0,.slice none 0 0] row0 29 _ _:=HON.out.var elemN (Row.nil _ _ _ _) (fun _ h=>by cases h)
 clear HON
 have esz:((w.alloc (.cells #[.int .i64 0,.string ⟨#[]⟩,.bool false,.slice none 0 0,.slice none 0 0,.slice none 0 0,.slice none 0 0,.slice none 0 0] 29))).heap.size = w.heap.size + 1:=by simp
 rw [esz] at hon
 clear esz
 have HON:=Lib.hid hon
 clear hon
 go_enter Tryz.func13,Tryz.ntmps13
 go_wp2_with fail
 have hc:=lines_any _ pb s hs o 0 _ HON.out.hp
 have hdw:Down s _ (linesF s o):=lines_down s (F s) o HON.out.hp.ok
 have hn:=HN.out
 generalize (linesF s o) = rX at hc hdw hn
 clear HN
 have HC:=Lib.hid hc;have HD0:=Lib.hid hdw;have HN:=Lib.hid hn
 clear hc hdw hn
 cases rX with
 | bad i er =>
  go_wp2_with fail
  refine HC.out.mono ?_
  rintro e w2 ⟨hf,rfl⟩
  have HDD:Does S pb s 0 w VN R0 (thrownP i er) w2:=by rw [show R0 = .bad i er from HN.out.symm];exact ⟨HON.out.fr.trans hf,rfl⟩
  clear hf
  go_wp2_with fail
  exact ⟨rfl,HDD⟩
 | ok u p1 =>
  have hm:=HD0.out _ _ rfl
  have HM3:=Lib.hid hm.1
  have hn:=HN.out
  rw [Rs.bind_ok] at hn
  clear HN HD0 hm
  have HN:=Lib.hid hn
  clear hn
  go_wp2_with fail
  refine HC.out.mono ?_
  rintro e w2 ⟨hf,⟨v,rfl,rfl⟩,hp⟩
  have hon:=HON.out.call elemN hf hp
  clear HON HC hf hp
  have HON:=Lib.hid hon
  clear hon
  have hc:=begins_any _ pb s p1 0 _ HON.out.hp
  have hn:=HN.out
  generalize (beginsB p1) = B at hc hn
  clear HN
  have HC:=Lib.hid hc;have HN:=Lib.hid hn
  clear hc hn
  cases B
  ·have hn:=HN.out
   rw [if_neg (by decide)] at hn
   clear HN
   have HN:=Lib.hid hn
   clear hn
   go_wp2_with fail
   refine HC.out.mono ?_
   rintro e w4 ⟨rfl,hb⟩
   have hon:=HON.out.below elemN hb
   clear HON HC hb
   have HON:=Lib.hid hon
   clear hon
   obtain ⟨a6,cap6,hr6,_⟩:=HON.out.hp.ex
   have cc1:w4.cell? ⟨pb,1,none⟩ = some (.int .i64 p1.k):=Lib.cell_of_heap hr6 1
   clear hr6
   have hn:=HN.out
   unfold endF at hn
   by_cases hk:p1.k = 4
   ·rw [if_pos hk] at hn
    have hk1:((p1.k:Int) != 4) = false:=by rw [hk];rfl
    clear HN hk
    have HN:=Lib.hid hn
    clear hn
    have r0:w4.cell? ⟨w.heap.size,0,none⟩ = some (.int .i64 0):=Lib.cell_of_heap HON.out.two.rr 0;have f0:w4.frozen? ⟨w.heap.size,0,none⟩ = false:=frozen_of_row _ _ _ _ _ HON.out.two.rr;have k0:w4.cell? ⟨w.heap.size + 1,0,none⟩ = some (.int .i64 5):=Lib.cell_of_heap HON.out.two.nr 0
    have r1:w4.cell? ⟨w.heap.size,1,none⟩ = some (.string ⟨#[]⟩):=Lib.cell_of_heap HON.out.two.rr 1;have f1:w4.frozen? ⟨w.heap.size,1,none⟩ = false:=frozen_of_row _ _ _ _ _ HON.out.two.rr;have k1:w4.cell? ⟨w.heap.size + 1,1,none⟩ = some (.string ⟨#[]⟩):=Lib.cell_of_heap HON.out.two.nr 1
    have r2:w4.cell? ⟨w.heap.size,2,none⟩ = some (.bool false):=Lib.cell_of_heap HON.out.two.rr 2;have f2:w4.frozen? ⟨w.heap.size,2,none⟩ = false:=frozen_of_row _ _ _ _ _ HON.out.two.rr;have k2:w4.cell? ⟨w.heap.size + 1,2,none⟩ = some (.bool false):=Lib.cell_of_heap HON.out.two.nr 2
    have r3:w4.cell? ⟨w.heap.size,3,none⟩ = some (.slice none 0 0):=Lib.cell_of_heap HON.out.two.rr 3;have f3:w4.frozen? ⟨w.heap.size,3,none⟩ = false:=frozen_of_row _ _ _ _ _ HON.out.two.rr;have k3:w4.cell? ⟨w.heap.size + 1,3,none⟩ = some (.slice none 0 0):=Lib.cell_of_heap HON.out.two.nr 3
    have r4:w4.cell? ⟨w.heap.size,4,none⟩ = some (.slice none 0 0):=Lib.cell_of_heap HON.out.two.rr 4;have f4:w4.frozen? ⟨w.heap.size,4,none⟩ = false:=frozen_of_row _ _ _ _ _ HON.out.two.rr;have k4:w4.cell? ⟨w.heap.size + 1,4,none⟩ = some (.slice none 0 0):=Lib.cell_of_heap HON.out.two.nr 4
    have r5:w4.cell? ⟨w.heap.size,5,none⟩ = some (.slice none 0 0):=Lib.cell_of_heap HON.out.two.rr 5;have f5:w4.frozen? ⟨w.heap.size,5,none⟩ = false:=frozen_of_row _ _ _ _ _ HON.out.two.rr;have k5:w4.cell? ⟨w.heap.size + 1,5,none⟩ = some (.slice none 0 0):=Lib.cell_of_heap HON.out.two.nr 5
    have r6:w4.cell? ⟨w.heap.size,6,none⟩ = some (.slice none 0 0):=Lib.cell_of_heap HON.out.two.rr 6;have f6:w4.frozen? ⟨w.heap.size,6,none⟩ = false:=frozen_of_row _ _ _ _ _ HON.out.two.rr;have k6:w4.cell? ⟨w.heap.size + 1,6,none⟩ = some (.slice none 0 0):=Lib.cell_of_heap HON.out.two.nr 6
    have r7:w4.cell? ⟨w.heap.size,7,none⟩ = some (.slice none 0 0):=Lib.cell_of_heap HON.out.two.rr 7;have f7:w4.frozen? ⟨w.heap.size,7,none⟩ = false:=frozen_of_row _ _ _ _ _ HON.out.two.rr;have k7:w4.cell? ⟨w.heap.size + 1,7,none⟩ = some (.slice none 0 0):=Lib.cell_of_heap HON.out.two.nr 7
    go_wp2_with fail
    have hst:=stored_rb w4 (w.heap.size) (.int .i64 5) (.string ⟨#[]⟩) (.bool false) (.slice none 0 0) (.slice none 0 0) (.slice none 0 0) (.slice none 0 0) (.slice none 0 0) _ _ _ _ _ _ _ _ _ HON.out.two.rr
    generalize ((((((((w4.setCell ⟨w.heap.size,0,none⟩ (.int .i64 5)).setCell ⟨w.heap.size,1,none⟩ (.string ⟨#[]⟩)).setCell ⟨w.heap.size,2,none⟩ (.bool false)).setCell ⟨w.heap.size,3,none⟩ (.slice none 0 0)).setCell ⟨w.heap.size,4,none⟩ (.slice none 0 0)).setCell ⟨w.heap.size,5,none⟩ (.slice none 0 0)).setCell ⟨w.heap.size,6,none⟩ (.slice none 0 0)).setCell ⟨w.heap.size,7,none⟩ (.slice none 0 0)) = W8 at hst ⊢
    obtain ⟨hr8,hch⟩:=hst
    have x0:=Lib.cell_of_heap hr8 0
    have x1:=Lib.cell_of_heap hr8 1
    have x2:=Lib.cell_of_heap hr8 2
    have x3:=Lib.cell_of_heap hr8 3
    have x4:=Lib.cell_of_heap hr8 4
    have x5:=Lib.cell_of_heap hr8 5
    have x6:=Lib.cell_of_heap hr8 6
    have x7:=Lib.cell_of_heap hr8 7
    refine bodyPost_ret (v:=.agg #[.int .i64 5,.string ⟨#[]⟩,.bool false,.slice none 0 0,.slice none 0 0,.slice none 0 0,.slice none 0 0,.slice none 0 0]) (by simp [results,Tryz.results13,go_sem,x0,x1,x2,x3,x4,x5,x6,x7]) rfl ?_
    rw [← HN.out]
    exact HON.out.done H.out hch (VN.kids (ks:=[]) rfl R_empty (KS.imp (HON.out.ks hch) fun _ _=>slNil 0))
   ·rw [if_neg hk] at hn
    have hk1:((p1.k:Int) != 4) = true:=by simp;omega
    clear HN hk
    have HN:=Lib.hid hn
    clear hn
    have HC:=Lib.hid (wrong_any _ pb s p1 0 1 _ HON.out.hp)
    go_wp2_with fail
    refine HC.out.mono ?_
    rintro e w2 ⟨rfl,hb⟩
    have HDD:Does S pb s 0 w VN R0 (thrownP p1.i 1) w2:=by rw [show R0 = .bad p1.i 1 from HN.out.symm];exact ⟨HON.out.fr.trans (FrP.of_below hb),rfl⟩
    clear hb
    go_wp2_with fail
    exact ⟨rfl,HDD⟩
  ·have hn:=HN.out
   rw [if_pos rfl] at hn
   clear HN
   have HN:=Lib.hid hn
   clear hn
   go_wp2_with fail
   refine HC.out.mono ?_
   rintro e w4 ⟨rfl,hb⟩
   have hon:=HON.out.below elemN hb
   clear HON HC hb
   have HON:=Lib.hid hon
   clear hon
   have hc:=HIH.out _ pb 0 p1 _ (by omega) HON.out.hp (by have hm3:=HM3.out;have hfu:=HFU.out;omega)
   have hdw:Down s _ (listF s 0 n [] [] p1):=(downs_all s n).list 0 [] [] p1 HON.out.hp.ok
   have hn:=HN.out
   generalize (listF s 0 n [] [] p1) = rX at hc hdw hn
   clear HN
   have HC:=Lib.hid hc;have HD0:=Lib.hid hdw;have HN:=Lib.hid hn
   clear hc hdw hn
   cases rX with
   | bad i er =>
    go_wp2_with fail
    refine HC.out.mono ?_
    rintro e w2 ⟨hf,rfl⟩
    have HDD:Does S pb s 0 w VN R0 (thrownP i er) w2:=by rw [show R0 = .bad i er from HN.out.symm];exact ⟨HON.out.fr.trans hf,rfl⟩
    clear hf
    go_wp2_with fail
    exact ⟨rfl,HDD⟩
   | ok x p5 =>
    have hm:=HD0.out _ _ rfl
    have HM7:=Lib.hid hm.1
    have hn:=HN.out
    rw [Rs.bind_ok] at hn
    clear HN HD0 hm
    have HN:=Lib.hid hn
    clear hn
    go_wp2_with fail
    refine HC.out.mono ?_
    rintro e w6 ⟨hf,⟨v,rfl,a1,c1,a2,c2,a3,c3,a4,c4,a5,c5,hv,hx⟩,hp⟩
    have hon:=HON.out.call elemN hf hp
    clear HON HC hf hp
    obtain rfl:v = .agg #[.int .i64 x.k,.string x.nm,.bool x.g,.slice a1 x.az.length c1,.slice a2 x.ws.length c2,.slice a3 x.ks.len c3,.slice a4 x.bs.length c4,.slice a5 x.cz.len c5]:=hv
    have hon:=hon.hold hx
    clear hx
    have HON:=Lib.hid hon
    clear hon
    have k0:w6.cell? ⟨w.heap.size + 1,0,none⟩ = some (.int .i64 5):=Lib.cell_of_heap HON.out.two.nr 0;have f0:w6.frozen? ⟨w.heap.size + 1,0,none⟩ = false:=frozen_of_row _ _ _ _ _ HON.out.two.nr
    have k1:w6.cell? ⟨w.heap.size + 1,1,none⟩ = some (.string ⟨#[]⟩):=Lib.cell_of_heap HON.out.two.nr 1;have f1:w6.frozen? ⟨w.heap.size + 1,1,none⟩ = false:=frozen_of_row _ _ _ _ _ HON.out.two.nr
    have k2:w6.cell? ⟨w.heap.size + 1,2,none⟩ = some (.bool false):=Lib.cell_of_heap HON.out.two.nr 2;have f2:w6.frozen? ⟨w.heap.size + 1,2,none⟩ = false:=frozen_of_row _ _ _ _ _ HON.out.two.nr
    have k3:w6.cell? ⟨w.heap.size + 1,3,none⟩ = some (.slice none 0 0):=Lib.cell_of_heap HON.out.two.nr 3;have f3:w6.frozen? ⟨w.heap.size + 1,3,none⟩ = false:=frozen_of_row _ _ _ _ _ HON.out.two.nr
    have k4:w6.cell? ⟨w.heap.size + 1,4,none⟩ = some (.slice none 0 0):=Lib.cell_of_heap HON.out.two.nr 4;have f4:w6.frozen? ⟨w.heap.size + 1,4,none⟩ = false:=frozen_of_row _ _ _ _ _ HON.out.two.nr
    have k5:w6.cell? ⟨w.heap.size + 1,5,none⟩ = some (.slice none 0 0):=Lib.cell_of_heap HON.out.two.nr 5;have f5:w6.frozen? ⟨w.heap.size + 1,5,none⟩ = false:=frozen_of_row _ _ _ _ _ HON.out.two.nr
    have k6:w6.cell? ⟨w.heap.size + 1,6,none⟩ = some (.slice none 0 0):=Lib.cell_of_heap HON.out.two.nr 6;have f6:w6.frozen? ⟨w.heap.size + 1,6,none⟩ = false:=frozen_of_row _ _ _ _ _ HON.out.two.nr
    have k7:w6.cell? ⟨w.heap.size + 1,7,none⟩ = some (.slice none 0 0):=Lib.cell_of_heap HON.out.two.nr 7;have f7:w6.frozen? ⟨w.heap.size + 1,7,none⟩ = false:=frozen_of_row _ _ _ _ _ HON.out.two.nr
    have hst:=stored_rb w6 (w.heap.size + 1) (.int .i64 x.k) (.string x.nm) (.bool x.g) (.slice a1 x.az.length c1) (.slice a2 x.ws.length c2) (.slice a3 x.ks.len c3) (.slice a4 x.bs.length c4) (.slice a5 x.cz.len c5) _ _ _ _ _ _ _ _ _ HON.out.two.nr
    have hsz:(((((((((w6.setCell ⟨w.heap.size + 1,0,none⟩ (.int .i64 x.k)).setCell ⟨w.heap.size + 1,1,none⟩ (.string x.nm)).setCell ⟨w.heap.size + 1,2,none⟩ (.bool x.g)).setCell ⟨w.heap.size + 1,3,none⟩ (.slice a1 x.az.length c1)).setCell ⟨w.heap.size + 1,4,none⟩ (.slice a2 x.ws.length c2)).setCell ⟨w.heap.size + 1,5,none⟩ (.slice a3 x.ks.len c3)).setCell ⟨w.heap.size + 1,6,none⟩ (.slice a4 x.bs.length c4)).setCell ⟨w.heap.size + 1,7,none⟩ (.slice a5 x.cz.len c5))).heap.size = w6.heap.size:=by simp
    have hon:=(HON.out.keep (HON.out.held.imp fun _ h=>h.2)).put elemN (by omega) hst.2 hst.1
    clear HON hst
    have HON:=Lib.hid hon
    clear hon
    obtain ⟨wv,hwv⟩:∃ wv,wv = ((((((((w6.setCell ⟨w.heap.size + 1,0,none⟩ (.int .i64 x.k)).setCell ⟨w.heap.size + 1,1,none⟩ (.string x.nm)).setCell ⟨w.heap.size + 1,2,none⟩ (.bool x.g)).setCell ⟨w.heap.size + 1,3,none⟩ (.slice a1 x.az.length c1)).setCell ⟨w.heap.size + 1,4,none⟩ (.slice a2 x.ws.length c2)).setCell ⟨w.heap.size + 1,5,none⟩ (.slice a3 x.ks.len c3)).setCell ⟨w.heap.size + 1,6,none⟩ (.slice a4 x.bs.length c4)).setCell ⟨w.heap.size + 1,7,none⟩ (.slice a5 x.cz.len c5)):=⟨_,rfl⟩
    rw [← hwv] at HON
    obtain ⟨a6,cap6,hr6,_⟩:=HON.out.hp.ex
    have cc1:wv.cell? ⟨pb,1,none⟩ = some (.int .i64 p5.k):=Lib.cell_of_heap hr6 1
    rw [hwv] at cc1
    clear hr6 hsz
    have m0:wv.cell? ⟨w.heap.size + 1,0,none⟩ = some (.int .i64 x.k):=Lib.cell_of_heap HON.out.two.nr 0
    rw [hwv] at m0
    have m1:wv.cell? ⟨w.heap.size + 1,1,none⟩ = some (.string x.nm):=Lib.cell_of_heap HON.out.two.nr 1
    rw [hwv] at m1
    have m2:wv.cell? ⟨w.heap.size + 1,2,none⟩ = some (.bool x.g):=Lib.cell_of_heap HON.out.two.nr 2
    rw [hwv] at m2
    have m3:wv.cell? ⟨w.heap.size + 1,3,none⟩ = some (.slice a1 x.az.length c1):=Lib.cell_of_heap HON.out.two.nr 3
    rw [hwv] at m3
    have m4:wv.cell? ⟨w.heap.size + 1,4,none⟩ = some (.slice a2 x.ws.length c2):=Lib.cell_of_heap HON.out.two.nr 4
    rw [hwv] at m4
    have m5:wv.cell? ⟨w.heap.size + 1,5,none⟩ = some (.slice a3 x.ks.len c3):=Lib.cell_of_heap HON.out.two.nr 5
    rw [hwv] at m5
    have m6:wv.cell? ⟨w.heap.size + 1,6,none⟩ = some (.slice a4 x.bs.length c4):=Lib.cell_of_heap HON.out.two.nr 6
    rw [hwv] at m6
    have m7:wv.cell? ⟨w.heap.size + 1,7,none⟩ = some (.slice a5 x.cz.len c5):=Lib.cell_of_heap HON.out.two.nr 7
    rw [hwv] at m7
    have r0:wv.cell? ⟨w.heap.size,0,none⟩ = some (.int .i64 0):=Lib.cell_of_heap HON.out.two.rr 0;have ff0:wv.frozen? ⟨w.heap.size,0,none⟩ = false:=frozen_of_row _ _ _ _ _ HON.out.two.rr
    rw [hwv] at r0 ff0
    have r1:wv.cell? ⟨w.heap.size,1,none⟩ = some (.string ⟨#[]⟩):=Lib.cell_of_heap HON.out.two.rr 1;have ff1:wv.frozen? ⟨w.heap.size,1,none⟩ = false:=frozen_of_row _ _ _ _ _ HON.out.two.rr
    rw [hwv] at r1 ff1
    have r2:wv.cell? ⟨w.heap.size,2,none⟩ = some (.bool false):=Lib.cell_of_heap HON.out.two.rr 2;have ff2:wv.frozen? ⟨w.heap.size,2,none⟩ = false:=frozen_of_row _ _ _ _ _ HON.out.two.rr
    rw [hwv] at r2 ff2
    have r3:wv.cell? ⟨w.heap.size,3,none⟩ = some (.slice none 0 0):=Lib.cell_of_heap HON.out.two.rr 3;have ff3:wv.frozen? ⟨w.heap.size,3,none⟩ = false:=frozen_of_row _ _ _ _ _ HON.out.two.rr
    rw [hwv] at r3 ff3
    have r4:wv.cell? ⟨w.heap.size,4,none⟩ = some (.slice none 0 0):=Lib.cell_of_heap HON.out.two.rr 4;have ff4:wv.frozen? ⟨w.heap.size,4,none⟩ = false:=frozen_of_row _ _ _ _ _ HON.out.two.rr
    rw [hwv] at r4 ff4
    have r5:wv.cell? ⟨w.heap.size,5,none⟩ = some (.slice none 0 0):=Lib.cell_of_heap HON.out.two.rr 5;have ff5:wv.frozen? ⟨w.heap.size,5,none⟩ = false:=frozen_of_row _ _ _ _ _ HON.out.two.rr
    rw [hwv] at r5 ff5
    have r6:wv.cell? ⟨w.heap.size,6,none⟩ = some (.slice none 0 0):=Lib.cell_of_heap HON.out.two.rr 6;have ff6:wv.frozen? ⟨w.heap.size,6,none⟩ = false:=frozen_of_row _ _ _ _ _ HON.out.two.rr
    rw [hwv] at r6 ff6
    have r7:wv.cell? ⟨w.heap.size,7,none⟩ = some (.slice none 0 0):=Lib.cell_of_heap HON.out.two.rr 7;have ff7:wv.frozen? ⟨w.heap.size,7,none⟩ = false:=frozen_of_row _ _ _ _ _ HON.out.two.rr
    rw [hwv] at r7 ff7
    have hn:=HN.out
    unfold endF at hn
    by_cases hk:p5.k = 4
    ·rw [if_pos hk] at hn
     have hk1:((p5.k:Int) != 4) = false:=by rw [hk];rfl
     clear HN hk
     have HN:=Lib.hid hn
     clear hn
     have HWV:=Lib.hid hwv
     clear hwv
     go_wp2_with fail
     rw [← HWV.out]
     have hst:=stored_rb wv (w.heap.size) (.int .i64 x.k) (.string x.nm) (.bool x.g) (.slice a1 x.az.length c1) (.slice a2 x.ws.length c2) (.slice a3 x.ks.len c3) (.slice a4 x.bs.length c4) (.slice a5 x.cz.len c5) _ _ _ _ _ _ _ _ _ HON.out.two.rr
     generalize ((((((((wv.setCell ⟨w.heap.size,0,none⟩ (.int .i64 x.k)).setCell ⟨w.heap.size,1,none⟩ (.string x.nm)).setCell ⟨w.heap.size,2,none⟩ (.bool x.g)).setCell ⟨w.heap.size,3,none⟩ (.slice a1 x.az.length c1)).setCell ⟨w.heap.size,4,none⟩ (.slice a2 x.ws.length c2)).setCell ⟨w.heap.size,5,none⟩ (.slice a3 x.ks.len c3)).setCell ⟨w.heap.size,6,none⟩ (.slice a4 x.bs.length c4)).setCell ⟨w.heap.size,7,none⟩ (.slice a5 x.cz.len c5)) = W8 at hst ⊢
     obtain ⟨hr8,hch⟩:=hst
     have x0:=Lib.cell_of_heap hr8 0
     have x1:=Lib.cell_of_heap hr8 1
     have x2:=Lib.cell_of_heap hr8 2
     have x3:=Lib.cell_of_heap hr8 3
     have x4:=Lib.cell_of_heap hr8 4
     have x5:=Lib.cell_of_heap hr8 5
     have x6:=Lib.cell_of_heap hr8 6
     have x7:=Lib.cell_of_heap hr8 7
     refine bodyPost_ret (v:=.agg #[.int .i64 x.k,.string x.nm,.bool x.g,.slice a1 x.az.length c1,.slice a2 x.ws.length c2,.slice a3 x.ks.len c3,.slice a4 x.bs.length c4,.slice a5 x.cz.len c5]) (by simp [results,Tryz.results13,go_sem,x0,x1,x2,x3,x4,x5,x6,x7]) rfl ?_
     rw [← HN.out]
     exact HON.out.done H.out hch (VN.self (HON.out.ks hch))
    ·rw [if_neg hk] at hn
     have hk1:((p5.k:Int) != 4) = true:=by simp;omega
     clear HN hk
     have HN:=Lib.hid hn
     clear hn
     have hc:=wrong_any _ pb s p5 0 1 _ HON.out.hp
     rw [hwv] at hc
     have HC:=Lib.hid hc
     clear hc
     have HWV:=Lib.hid hwv
     clear hwv
     go_wp2_with fail
     refine HC.out.mono ?_
     rintro e w2 ⟨rfl,hb⟩
     have HDD:Does S pb s 0 w VN R0 (thrownP p5.i 1) w2:=by rw [show R0 = .bad p5.i 1 from HN.out.symm];rw [← HWV.out] at hb;exact ⟨HON.out.fr.trans (FrP.of_below hb),rfl⟩
     clear hb
     go_wp2_with fail
     exact ⟨rfl,HDD⟩
end Ps
end Go.Proofs.YtfjfgaefbldgbaaGreat
namespace Go.Proofs.YtfjfgaefbldgbaaGreat
open Go.RowKit Go.Sort
namespace Ps
open Cls Pt Tr Sp Lx
theorem name_sz {s:ByteArray} (hs:s.size≤400000) {o q:Tok} {nm:ByteArray} (ho:TokOK s o) (h:nameF s o = .ok nm q):nm.size≤R:=by
 unfold nameF at h
 split at h
 ·cases hn:nextF s o with
  | bad i e=>rw [hn] at h;cases h
  | ok u p =>
   rw [hn] at h
   simp only [Rs.bind] at h
   injection h with h1 h2
   subst h1
   have:=ho.text hs
   unfold R
   omega
 ·cases h
theorem VN.each {S:Nat→Prop} {w:World} {nm:ByteArray} {g:Bool} {ws:List PL} {ks:List ND} {a2 a3:Option Addr} {c2 c3 m m2:Nat} (hm:ks.length = m) (hm2:ws.length = m2) (hnm:nm.size≤R) (h2:KS S w fun w2=>Sl 1 (PW w2) a2 c2 ws) (h3:KS S w fun w2=>Sl 8 (PN w2) a3 c3 ks) :
  VN S w (.agg #[.int .i64 9,.string nm,.bool g,.slice none 0 0,.slice a2 m2 c2,.slice a3 m c3,.slice none 0 0,.slice none 0 0]) ⟨9,nm,g,[],ws,toN ks,[],.nil⟩:=by
 subst hm
 subst hm2
 refine ⟨none,0,a2,c2,a3,c3,none,0,none,0,?_,fun w2 hs hk=>?_⟩
 ·simp only [nvs,toN_len];rfl
 ·have hn:=slN (h3 w2 hs hk)
  exact ⟨hnm,slNil 0,h2 w2 hs hk,hn.1,slNil 0,nlNil _ 0,hn.2,rfl⟩
set_option maxHeartbeats 4000000 in
set_option maxRecDepth 100000 in
theorem each_step (s:ByteArray) (hs:s.size≤400000) (n:Nat) (IB:BehindAt s n):EachAt s (n + 1):=by
 intro S pb d o w hd h hfu
 have HB:=Lib.hid IB
 clear IB
 have hon:Fn EN 8 29 S pb s d w.heap.size w.heap.size w.heap.size w (w.alloc (.cells #[.int .i64 0,.string ⟨#[]⟩,.bool false,.slice none 0 0,.slice none 0 0,.slice none 0 0,.slice none 0 0,.slice none 0 0] 29)) o (.slice none 0 0) [] (.slice none 0 0) [] row0 row0 29 S (fun _=>True):=Fn.start h
 obtain ⟨R0,hR⟩:∃ R0,(eachF s d (n + 1) o) = R0:=⟨_,rfl⟩
 rw [hR]
 rw [eachF] at hR
 have H:=Lib.hid h;have HN:=Lib.hid hR;have HON:=Lib.hid hon;have HFU:=Lib.hid hfu
 clear h hR hon hfu
 go_enter Tryz.func123,Tryz.ntmps123
 go_wp2_with fail
 have hn:=HN.out
 simp only [eachW,Rs.bind_assoc] at hn
 clear HN
 have HN:=Lib.hid hn
 clear hn
 have hnms:=fun a q=>name_sz (s:=s) (o:=o) (q:=q) (nm:=a) hs HON.out.hp.ok
 have hc:=name_any _ pb s hs o d _ HON.out.hp
 have hdw:DownS s _ (nameF s o):=name_down HON.out.hp.ok
 have hn:=HN.out
 generalize (nameF s o) = rX at hc hdw hn hnms
 clear HN
 have HC:=Lib.hid hc;have HD0:=Lib.hid hdw;have HN:=Lib.hid hn
 clear hc hdw hn
 cases rX with
 | bad i er =>
  go_wp2_with fail
  refine HC.out.mono ?_
  rintro e w2 ⟨hf,rfl⟩
  have HDD:Does S pb s d w VN R0 (thrownP i er) w2:=by rw [show R0 = .bad i er from HN.out.symm];exact ⟨HON.out.fr.trans hf,rfl⟩
  clear hf
  go_wp2_with fail
  exact ⟨rfl,HDD⟩
 | ok nm p1 =>
  have hm:=HD0.out _ _ rfl
  have HM3:=Lib.hid hm.1
  have hn:=HN.out
  rw [Rs.bind_ok] at hn
  clear HN HD0 hm
  have HN:=Lib.hid hn
  clear hn
  go_wp2_with fail
  refine HC.out.mono ?_
  rintro e w2 ⟨hf,⟨v,rfl,rfl⟩,hp⟩
  have hon:=HON.out.call elemN hf hp
  clear HON HC hf hp
  have hnm:=hnms _ _ rfl
  clear hnms
  have HON:=Lib.hid hon
  clear hon
  have hnb:w2.heap.size ≠ w.heap.size:=by have e1:=HON.out.lb;have e2:=(Array.getElem?_eq_some_iff.1 HON.out.two.rr).1;omega
  have HNB:=Lib.hid hnb
  clear hnb
  have hon:Fn EN 8 29 S pb s d (w2).heap.size w.heap.size w.heap.size w (w2.alloc (.cells #[.int .i64 9,.string nm,.bool false,.slice none 0 0,.slice none 0 0,.slice none 0 0,.slice none 0 0,.slice none 0 0] 29)) _ (.slice none 0 0) [] (.slice none 0 0) [] #[.int .i64 9,.string nm,.bool false,.slice none 0 0,.slice none 0 0,.slice none 0 0,.slice none 0 0,.slice none 0 0] row0 29 _ _:=HON.out.var elemN (Row.nil _ _ _ _) (fun _ h=>by cases h)
  clear HON
  have HON:=Lib.hid hon
  clear hon
  have hc:=skip_row _ pb s hs p1 d [⟨#[59]⟩] _ HON.out.hp (by decide)
  try simp only [World.size_alloc,World.size_setCell] at hc
  try rw [HSZ.out] at hc
  have hdw:Down s _ (skipF s [⟨#[59]⟩] p1):=skip_down (s:=s) (o:=p1) (l:=[⟨#[59]⟩]) HON.out.hp.ok (by decide)
  have hn:=HN.out
  generalize (skipF s [⟨#[59]⟩] p1) = rX at hc hdw hn
  clear HN
  have HC:=Lib.hid hc;have HD0:=Lib.hid hdw;have HN:=Lib.hid hn
  clear hc hdw hn
  cases rX with
  | bad i er =>
   go_wp2_with fail
   refine HC.out.mono ?_
   rintro e w2 ⟨hf,rfl⟩
   have HDD:Does S pb s d w VN R0 (thrownP i er) w2:=by rw [show R0 = .bad i er from HN.out.symm];exact ⟨HON.out.fr.trans hf,rfl⟩
   clear hf
   go_wp2_with fail
   exact ⟨rfl,HDD⟩
  | ok b p4 =>
   have hm:=HD0.out _ _ rfl
   have HM6:=Lib.hid hm.1
   have hn:=HN.out
   rw [Rs.bind_ok] at hn
   clear HN HD0 hm
   have HN:=Lib.hid hn
   clear hn
   go_wp2_with fail
   refine HC.out.mono ?_
   rintro e w5 ⟨hf,⟨v,rfl,rfl⟩,hp⟩
   have hon:=HON.out.call elemN hf hp
   clear HON HC hf hp
   have HON:=Lib.hid hon
   clear hon
   cases b
   ·skip
    have hc:=lines_any _ pb s hs p4 d _ HON.out.hp
    have hdw:Down s _ (linesF s p4):=lines_down s (F s) p4 HON.out.hp.ok
    have hn:=HN.out
    generalize (linesF s p4) = rX at hc hdw hn
    clear HN
    have HC:=Lib.hid hc;have HD0:=Lib.hid hdw;have HN:=Lib.hid hn
    clear hc hdw hn
    cases rX with
    | bad i er =>
     go_wp2_with fail
     refine HC.out.mono ?_
     rintro e w2 ⟨hf,rfl⟩
     have HDD:Does S pb s d w VN R0 (thrownP i er) w2:=by rw [show R0 = .bad i er from HN.out.symm];exact ⟨HON.out.fr.trans hf,rfl⟩
     clear hf
     go_wp2_with fail
     exact ⟨rfl,HDD⟩
    | ok u p7 =>
     have hm:=HD0.out _ _ rfl
     have HM9:=Lib.hid hm.1
     have hn:=HN.out
     rw [Rs.bind_ok] at hn
     clear HN HD0 hm
     have HN:=Lib.hid hn
     clear hn
     go_wp2_with fail
     refine HC.out.mono ?_
     rintro e w8 ⟨hf,⟨v,rfl,rfl⟩,hp⟩
     have hon:=HON.out.call elemN hf hp
     clear HON HC hf hp
     have HON:=Lib.hid hon
     clear hon
     have hn:=HN.out
     rw [if_neg (by decide),Rs.bind_assoc] at hn
     clear HN
     have HN:=Lib.hid hn
     clear hn
     have hc:=skip_row _ pb s hs p7 d [⟨#[105,110]⟩] _ HON.out.hp (by decide)
     try simp only [World.size_alloc,World.size_setCell] at hc
     try rw [HSZ.out] at hc
     have hdw:Down s _ (skipF s [⟨#[105,110]⟩] p7):=skip_down (s:=s) (o:=p7) (l:=[⟨#[105,110]⟩]) HON.out.hp.ok (by decide)
     have hn:=HN.out
     generalize (skipF s [⟨#[105,110]⟩] p7) = rX at hc hdw hn
     clear HN
     have HC:=Lib.hid hc;have HD0:=Lib.hid hdw;have HN:=Lib.hid hn
     clear hc hdw hn
     cases rX with
     | bad i er =>
      go_wp2_with fail
      refine HC.out.mono ?_
      rintro e w2 ⟨hf,rfl⟩
      have HDD:Does S pb s d w VN R0 (thrownP i er) w2:=by rw [show R0 = .bad i er from HN.out.symm];exact ⟨HON.out.fr.trans hf,rfl⟩
      clear hf
      go_wp2_with fail
      exact ⟨rfl,HDD⟩
     | ok b p10 =>
      have hm:=HD0.out _ _ rfl
      have HM12:=Lib.hid hm.1
      have hn:=HN.out
      rw [Rs.bind_ok] at hn
      clear HN HD0 hm
      have HN:=Lib.hid hn
      clear hn
      go_wp2_with fail
      refine HC.out.mono ?_
      rintro e w11 ⟨hf,⟨v,rfl,rfl⟩,hp⟩
      have hon:=HON.out.call elemN hf hp
      clear HON HC hf hp
      have HON:=Lib.hid hon
      clear hon
      cases b
      ·skip
       have hn:=HN.out
       rw [if_neg (by decide),Rs.bind_ok] at hn
       clear HN
       have HN:=Lib.hid hn
       clear hn
       have k2:w11.cell? ⟨w2.heap.size,2,none⟩ = some (.bool false):=Lib.cell_of_heap HON.out.two.nr 2;have f2:w11.frozen? ⟨w2.heap.size,2,none⟩ = false:=frozen_of_row _ _ _ _ _ HON.out.two.nr
       have hon:=HON.out.store elemN HNB.out 2 (.bool false)
       clear HON
       have HON:=Lib.hid hon
       clear hon
       have m2:(w11.setCell ⟨w2.heap.size,2,none⟩ (.bool false)).cell? ⟨w2.heap.size,2,none⟩ = some (.bool false):=Lib.cell_of_heap HON.out.two.nr 2
       have hc:=HB.out _ pb d p10 _ ⟨#[100,111]⟩ (by decide) hd HON.out.hp (by have hm3:=HM3.out;have hm6:=HM6.out;have hm9:=HM9.out;have hm12:=HM12.out;have hfu:=HFU.out;omega)
       have hdw:Down s _ (behindF s d n ⟨#[100,111]⟩ p10):=((downs_all s n).behind d ⟨#[100,111]⟩ p10 (by decide) HON.out.hp.ok).to
       have hn:=HN.out
       generalize (behindF s d n ⟨#[100,111]⟩ p10) = rX at hc hdw hn
       clear HN
       have HC:=Lib.hid hc;have HD0:=Lib.hid hdw;have HN:=Lib.hid hn
       clear hc hdw hn
       cases rX with
       | bad i er =>
        go_wp2_with fail
        refine HC.out.mono ?_
        rintro e w2 ⟨hf,rfl⟩
        have HDD:Does S pb s d w VN R0 (thrownP i er) w2:=by rw [show R0 = .bad i er from HN.out.symm];exact ⟨HON.out.fr.trans hf,rfl⟩
        clear hf
        go_wp2_with fail
        exact ⟨rfl,HDD⟩
       | ok y p13 =>
        have hm:=HD0.out _ _ rfl
        have HM15:=Lib.hid hm.1
        have hn:=HN.out
        rw [Rs.bind_ok] at hn
        clear HN HD0 hm
        have HN:=Lib.hid hn
        clear hn
        go_wp2_with fail
        refine HC.out.mono ?_
        rintro e w14 ⟨hf,⟨v,rfl,a1b,c1b,a2b,c2b,a3b,c3b,a4b,c4b,a5b,c5b,hv,hx⟩,hp⟩
        have hon:=HON.out.call elemN hf hp
        clear HON HC hf hp
        obtain rfl:v = .agg #[.int .i64 y.k,.string y.nm,.bool y.g,.slice a1b y.az.length c1b,.slice a2b y.ws.length c2b,.slice a3b y.ks.len c3b,.slice a4b y.bs.length c4b,.slice a5b y.cz.len c5b]:=hv
        have hon:=hon.hold hx
        clear hx
        have HON:=Lib.hid hon
        clear hon
        try clear k2 f2
        try clear k4 f4
        have hks:=KS.row (m:=1) (row:=#[.int .i64 y.k,.string y.nm,.bool y.g,.slice a1b y.az.length c1b,.slice a2b y.ws.length c2b,.slice a3b y.ks.len c3b,.slice a4b y.bs.length c4b,.slice a5b y.cz.len c5b]) (ty:=29) elemN (cells1 (HON.out.held.imp fun _ h=>h.2)) rfl (by decide)
        have hon:=(HON.out.grow elemN (bel1 w14 (.cells #[.int .i64 y.k,.string y.nm,.bool y.g,.slice a1b y.az.length c1b,.slice a2b y.ws.length c2b,.slice a3b y.ks.len c3b,.slice a4b y.bs.length c4b,.slice a5b y.cz.len c5b] 29))).hold hks
        clear HON hks
        have HON:=Lib.hid hon
        clear hon
        have k5:(w14.alloc (.cells #[.int .i64 y.k,.string y.nm,.bool y.g,.slice a1b y.az.length c1b,.slice a2b y.ws.length c2b,.slice a3b y.ks.len c3b,.slice a4b y.bs.length c4b,.slice a5b y.cz.len c5b] 29)).cell? ⟨w2.heap.size,5,none⟩ = some (.slice none 0 0):=Lib.cell_of_heap HON.out.two.nr 5;have f5:(w14.alloc (.cells #[.int .i64 y.k,.string y.nm,.bool y.g,.slice a1b y.az.length c1b,.slice a2b y.ws.length c2b,.slice a3b y.ks.len c3b,.slice a4b y.bs.length c4b,.slice a5b y.cz.len c5b] 29)).frozen? ⟨w2.heap.size,5,none⟩ = false:=frozen_of_row _ _ _ _ _ HON.out.two.nr
        have hon:=HON.out.store elemN HNB.out 5 (.slice (some ⟨w14.heap.size,0,none⟩) 1 1)
        clear HON
        have HON:=Lib.hid hon
        clear hon
        have hc:=take_row _ pb s hs p13 d [⟨#[100,111,110,101]⟩] _ HON.out.hp (by decide)
        try simp only [World.size_alloc,World.size_setCell] at hc
        try rw [HSZ.out] at hc
        have hdw:DownS s _ (takeF s [⟨#[100,111,110,101]⟩] p13):=take_down (s:=s) (o:=p13) (l:=[⟨#[100,111,110,101]⟩]) HON.out.hp.ok (by decide)
        have hn:=HN.out
        generalize (takeF s [⟨#[100,111,110,101]⟩] p13) = rX at hc hdw hn
        clear HN
        have HC:=Lib.hid hc;have HD0:=Lib.hid hdw;have HN:=Lib.hid hn
        clear hc hdw hn
        cases rX with
        | bad i er =>
         go_wp2_with fail
         refine HC.out.mono ?_
         rintro e w2 ⟨hf,rfl⟩
         have HDD:Does S pb s d w VN R0 (thrownP i er) w2:=by rw [show R0 = .bad i er from HN.out.symm];exact ⟨HON.out.fr.trans hf,rfl⟩
         clear hf
         go_wp2_with fail
         exact ⟨rfl,HDD⟩
        | ok u p16 =>
         have hm:=HD0.out _ _ rfl
         have HM18:=Lib.hid hm.1
         have hn:=HN.out
         rw [Rs.bind_ok] at hn
         clear HN HD0 hm
         have HN:=Lib.hid hn
         clear hn
         go_wp2_with fail
         refine HC.out.mono ?_
         rintro e w17 ⟨hf,⟨v,rfl,rfl⟩,hp⟩
         have hon:=HON.out.call elemN hf hp
         clear HON HC hf hp
         have HON:=Lib.hid hon
         clear hon
         try clear k5 f5
         have r0:w17.cell? ⟨w.heap.size,0,none⟩ = some (.int .i64 0):=Lib.cell_of_heap HON.out.two.rr 0;have f0:w17.frozen? ⟨w.heap.size,0,none⟩ = false:=frozen_of_row _ _ _ _ _ HON.out.two.rr;have k0:w17.cell? ⟨w2.heap.size,0,none⟩ = some (.int .i64 9):=Lib.cell_of_heap HON.out.two.nr 0
         have r1:w17.cell? ⟨w.heap.size,1,none⟩ = some (.string ⟨#[]⟩):=Lib.cell_of_heap HON.out.two.rr 1;have f1:w17.frozen? ⟨w.heap.size,1,none⟩ = false:=frozen_of_row _ _ _ _ _ HON.out.two.rr;have k1:w17.cell? ⟨w2.heap.size,1,none⟩ = some (.string nm):=Lib.cell_of_heap HON.out.two.nr 1
         have r2:w17.cell? ⟨w.heap.size,2,none⟩ = some (.bool false):=Lib.cell_of_heap HON.out.two.rr 2;have f2:w17.frozen? ⟨w.heap.size,2,none⟩ = false:=frozen_of_row _ _ _ _ _ HON.out.two.rr;have k2:w17.cell? ⟨w2.heap.size,2,none⟩ = some (.bool false):=Lib.cell_of_heap HON.out.two.nr 2
         have r3:w17.cell? ⟨w.heap.size,3,none⟩ = some (.slice none 0 0):=Lib.cell_of_heap HON.out.two.rr 3;have f3:w17.frozen? ⟨w.heap.size,3,none⟩ = false:=frozen_of_row _ _ _ _ _ HON.out.two.rr;have k3:w17.cell? ⟨w2.heap.size,3,none⟩ = some (.slice none 0 0):=Lib.cell_of_heap HON.out.two.nr 3
         have r4:w17.cell? ⟨w.heap.size,4,none⟩ = some (.slice none 0 0):=Lib.cell_of_heap HON.out.two.rr 4;have f4:w17.frozen? ⟨w.heap.size,4,none⟩ = false:=frozen_of_row _ _ _ _ _ HON.out.two.rr;have k4:w17.cell? ⟨w2.heap.size,4,none⟩ = some (.slice none 0 0):=Lib.cell_of_heap HON.out.two.nr 4
         have r5:w17.cell? ⟨w.heap.size,5,none⟩ = some (.slice none 0 0):=Lib.cell_of_heap HON.out.two.rr 5;have f5:w17.frozen? ⟨w.heap.size,5,none⟩ = false:=frozen_of_row _ _ _ _ _ HON.out.two.rr;have k5:w17.cell? ⟨w2.heap.size,5,none⟩ = some (.slice (some ⟨w14.heap.size,0,none⟩) 1 1):=Lib.cell_of_heap HON.out.two.nr 5
         have r6:w17.cell? ⟨w.heap.size,6,none⟩ = some (.slice none 0 0):=Lib.cell_of_heap HON.out.two.rr 6;have f6:w17.frozen? ⟨w.heap.size,6,none⟩ = false:=frozen_of_row _ _ _ _ _ HON.out.two.rr;have k6:w17.cell? ⟨w2.heap.size,6,none⟩ = some (.slice none 0 0):=Lib.cell_of_heap HON.out.two.nr 6
         have r7:w17.cell? ⟨w.heap.size,7,none⟩ = some (.slice none 0 0):=Lib.cell_of_heap HON.out.two.rr 7;have f7:w17.frozen? ⟨w.heap.size,7,none⟩ = false:=frozen_of_row _ _ _ _ _ HON.out.two.rr;have k7:w17.cell? ⟨w2.heap.size,7,none⟩ = some (.slice none 0 0):=Lib.cell_of_heap HON.out.two.nr 7
         go_wp2_with fail
         have hst:=stored_rb w17 (w.heap.size) (.int .i64 9) (.string nm) (.bool false) (.slice none 0 0) (.slice none 0 0) (.slice (some ⟨w14.heap.size,0,none⟩) 1 1) (.slice none 0 0) (.slice none 0 0) _ _ _ _ _ _ _ _ _ HON.out.two.rr
         generalize ((((((((w17.setCell ⟨w.heap.size,0,none⟩ (.int .i64 9)).setCell ⟨w.heap.size,1,none⟩ (.string nm)).setCell ⟨w.heap.size,2,none⟩ (.bool false)).setCell ⟨w.heap.size,3,none⟩ (.slice none 0 0)).setCell ⟨w.heap.size,4,none⟩ (.slice none 0 0)).setCell ⟨w.heap.size,5,none⟩ (.slice (some ⟨w14.heap.size,0,none⟩) 1 1)).setCell ⟨w.heap.size,6,none⟩ (.slice none 0 0)).setCell ⟨w.heap.size,7,none⟩ (.slice none 0 0)) = W8 at hst ⊢
         obtain ⟨hr8,hch⟩:=hst
         have x0:=Lib.cell_of_heap hr8 0
         have x1:=Lib.cell_of_heap hr8 1
         have x2:=Lib.cell_of_heap hr8 2
         have x3:=Lib.cell_of_heap hr8 3
         have x4:=Lib.cell_of_heap hr8 4
         have x5:=Lib.cell_of_heap hr8 5
         have x6:=Lib.cell_of_heap hr8 6
         have x7:=Lib.cell_of_heap hr8 7
         refine bodyPost_ret (v:=.agg #[.int .i64 9,.string nm,.bool false,.slice none 0 0,.slice none 0 0,.slice (some ⟨w14.heap.size,0,none⟩) 1 1,.slice none 0 0,.slice none 0 0]) (by simp [results,Tryz.results123,go_sem,x0,x1,x2,x3,x4,x5,x6,x7]) rfl ?_
         rw [← HN.out]
         exact HON.out.done H.out hch (VN.each (ws:=[]) rfl rfl hnm (KS.imp (HON.out.ks hch) fun _ _=>slNil 0) ((HON.out.ks hch).imp fun _ h=>h.2))
      ·skip
       have hn:=HN.out
       first | rw [if_pos rfl] at hn | rw [if_pos trivial] at hn
       simp only [Rs.bind_assoc,Rs.bind_ok] at hn
       clear HN
       have HN:=Lib.hid hn
       clear hn
       have k2:w11.cell? ⟨w2.heap.size,2,none⟩ = some (.bool false):=Lib.cell_of_heap HON.out.two.nr 2;have f2:w11.frozen? ⟨w2.heap.size,2,none⟩ = false:=frozen_of_row _ _ _ _ _ HON.out.two.nr
       have hon:=HON.out.store elemN HNB.out 2 (.bool true)
       clear HON
       have HON:=Lib.hid hon
       clear hon
       have m2:(w11.setCell ⟨w2.heap.size,2,none⟩ (.bool true)).cell? ⟨w2.heap.size,2,none⟩ = some (.bool true):=Lib.cell_of_heap HON.out.two.nr 2
       have hc:=words_any _ pb s hs p10 d _ HON.out.hp
       have hdw:Down s _ (wordsF s p10):=words_down s (F s) [] p10 HON.out.hp.ok
       have hn:=HN.out
       generalize (wordsF s p10) = rX at hc hdw hn
       clear HN
       have HC:=Lib.hid hc;have HD0:=Lib.hid hdw;have HN:=Lib.hid hn
       clear hc hdw hn
       cases rX with
       | bad i er =>
        go_wp2_with fail
        refine HC.out.mono ?_
        rintro e w2 ⟨hf,rfl⟩
        have HDD:Does S pb s d w VN R0 (thrownP i er) w2:=by rw [show R0 = .bad i er from HN.out.symm];exact ⟨HON.out.fr.trans hf,rfl⟩
        clear hf
        go_wp2_with fail
        exact ⟨rfl,HDD⟩
       | ok ws p19 =>
        have hm:=HD0.out _ _ rfl
        have HM21:=Lib.hid hm.1
        have hn:=HN.out
        rw [Rs.bind_ok] at hn
        clear HN HD0 hm
        have HN:=Lib.hid hn
        clear hn
        go_wp2_with fail
        refine HC.out.mono ?_
        rintro e w20 ⟨hf,⟨v,rfl,aw,cw,rfl,hks⟩,hp⟩
        have hon:=HON.out.call elemN hf hp
        clear HON HC hf hp
        have hon:=hon.hold hks
        clear hks
        have HON:=Lib.hid hon
        clear hon
        try clear k2 f2 m2
        have k4:w20.cell? ⟨w2.heap.size,4,none⟩ = some (.slice none 0 0):=Lib.cell_of_heap HON.out.two.nr 4;have f4:w20.frozen? ⟨w2.heap.size,4,none⟩ = false:=frozen_of_row _ _ _ _ _ HON.out.two.nr
        have hon:=HON.out.store elemN HNB.out 4 (.slice aw ws.length cw)
        clear HON
        have HON:=Lib.hid hon
        clear hon
        have hc:=take_row _ pb s hs p19 d [⟨#[59]⟩,tLine] _ HON.out.hp (by decide)
        try simp only [World.size_alloc,World.size_setCell] at hc
        try rw [HSZ.out] at hc
        have hdw:DownS s _ (takeF s [⟨#[59]⟩,tLine] p19):=take_down (s:=s) (o:=p19) (l:=[⟨#[59]⟩,tLine]) HON.out.hp.ok (by decide)
        have hn:=HN.out
        generalize (takeF s [⟨#[59]⟩,tLine] p19) = rX at hc hdw hn
        clear HN
        have HC:=Lib.hid hc;have HD0:=Lib.hid hdw;have HN:=Lib.hid hn
        clear hc hdw hn
        cases rX with
        | bad i er =>
         go_wp2_with fail
         refine HC.out.mono ?_
         rintro e w2 ⟨hf,rfl⟩
         have HDD:Does S pb s d w VN R0 (thrownP i er) w2:=by rw [show R0 = .bad i er from HN.out.symm];exact ⟨HON.out.fr.trans hf,rfl⟩
         clear hf
         go_wp2_with fail
         exact ⟨rfl,HDD⟩
        | ok u p22 =>
         have hm:=HD0.out _ _ rfl
         have HM24:=Lib.hid hm.1
         have hn:=HN.out
         rw [Rs.bind_ok] at hn
         clear HN HD0 hm
         have HN:=Lib.hid hn
         clear hn
         go_wp2_with fail
         refine HC.out.mono ?_
         rintro e w23 ⟨hf,⟨v,rfl,rfl⟩,hp⟩
         have hon:=HON.out.call elemN hf hp
         clear HON HC hf hp
         have HON:=Lib.hid hon
         clear hon
         have hc:=lines_any _ pb s hs p22 d _ HON.out.hp
         have hdw:Down s _ (linesF s p22):=lines_down s (F s) p22 HON.out.hp.ok
         have hn:=HN.out
         generalize (linesF s p22) = rX at hc hdw hn
         clear HN
         have HC:=Lib.hid hc;have HD0:=Lib.hid hdw;have HN:=Lib.hid hn
         clear hc hdw hn
         cases rX with
         | bad i er =>
          go_wp2_with fail
          refine HC.out.mono ?_
          rintro e w2 ⟨hf,rfl⟩
          have HDD:Does S pb s d w VN R0 (thrownP i er) w2:=by rw [show R0 = .bad i er from HN.out.symm];exact ⟨HON.out.fr.trans hf,rfl⟩
          clear hf
          go_wp2_with fail
          exact ⟨rfl,HDD⟩
         | ok u p25 =>
          have hm:=HD0.out _ _ rfl
          have HM27:=Lib.hid hm.1
          have hn:=HN.out
          rw [Rs.bind_ok] at hn
          clear HN HD0 hm
          have HN:=Lib.hid hn
          clear hn
          go_wp2_with fail
          refine HC.out.mono ?_
          rintro e w26 ⟨hf,⟨v,rfl,rfl⟩,hp⟩
          have hon:=HON.out.call elemN hf hp
          clear HON HC hf hp
          have HON:=Lib.hid hon
          clear hon
          have hc:=HB.out _ pb d p25 _ ⟨#[100,111]⟩ (by decide) hd HON.out.hp (by have hm3:=HM3.out;have hm6:=HM6.out;have hm9:=HM9.out;have hm12:=HM12.out;have hm21:=HM21.out;have hm24:=HM24.out;have hm27:=HM27.out;have hfu:=HFU.out;omega)
          have hdw:Down s _ (behindF s d n ⟨#[100,111]⟩ p25):=((downs_all s n).behind d ⟨#[100,111]⟩ p25 (by decide) HON.out.hp.ok).to
          have hn:=HN.out
          generalize (behindF s d n ⟨#[100,111]⟩ p25) = rX at hc hdw hn
          clear HN
          have HC:=Lib.hid hc;have HD0:=Lib.hid hdw;have HN:=Lib.hid hn
          clear hc hdw hn
          cases rX with
          | bad i er =>
           go_wp2_with fail
           refine HC.out.mono ?_
           rintro e w2 ⟨hf,rfl⟩
           have HDD:Does S pb s d w VN R0 (thrownP i er) w2:=by rw [show R0 = .bad i er from HN.out.symm];exact ⟨HON.out.fr.trans hf,rfl⟩
           clear hf
           go_wp2_with fail
           exact ⟨rfl,HDD⟩
          | ok y p28 =>
           have hm:=HD0.out _ _ rfl
           have HM30:=Lib.hid hm.1
           have hn:=HN.out
           rw [Rs.bind_ok] at hn
           clear HN HD0 hm
           have HN:=Lib.hid hn
           clear hn
           go_wp2_with fail
           refine HC.out.mono ?_
           rintro e w29 ⟨hf,⟨v,rfl,a1b,c1b,a2b,c2b,a3b,c3b,a4b,c4b,a5b,c5b,hv,hx⟩,hp⟩
           have hon:=HON.out.call elemN hf hp
           clear HON HC hf hp
           obtain rfl:v = .agg #[.int .i64 y.k,.string y.nm,.bool y.g,.slice a1b y.az.length c1b,.slice a2b y.ws.length c2b,.slice a3b y.ks.len c3b,.slice a4b y.bs.length c4b,.slice a5b y.cz.len c5b]:=hv
           have hon:=hon.hold hx
           clear hx
           have HON:=Lib.hid hon
           clear hon
           try clear k2 f2
           try clear k4 f4
           have hks:=KS.row (m:=1) (row:=#[.int .i64 y.k,.string y.nm,.bool y.g,.slice a1b y.az.length c1b,.slice a2b y.ws.length c2b,.slice a3b y.ks.len c3b,.slice a4b y.bs.length c4b,.slice a5b y.cz.len c5b]) (ty:=29) elemN (cells1 (HON.out.held.imp fun _ h=>h.2)) rfl (by decide)
           have hon:=(HON.out.grow elemN (bel1 w29 (.cells #[.int .i64 y.k,.string y.nm,.bool y.g,.slice a1b y.az.length c1b,.slice a2b y.ws.length c2b,.slice a3b y.ks.len c3b,.slice a4b y.bs.length c4b,.slice a5b y.cz.len c5b] 29))).hold hks
           clear HON hks
           have HON:=Lib.hid hon
           clear hon
           have k5:(w29.alloc (.cells #[.int .i64 y.k,.string y.nm,.bool y.g,.slice a1b y.az.length c1b,.slice a2b y.ws.length c2b,.slice a3b y.ks.len c3b,.slice a4b y.bs.length c4b,.slice a5b y.cz.len c5b] 29)).cell? ⟨w2.heap.size,5,none⟩ = some (.slice none 0 0):=Lib.cell_of_heap HON.out.two.nr 5;have f5:(w29.alloc (.cells #[.int .i64 y.k,.string y.nm,.bool y.g,.slice a1b y.az.length c1b,.slice a2b y.ws.length c2b,.slice a3b y.ks.len c3b,.slice a4b y.bs.length c4b,.slice a5b y.cz.len c5b] 29)).frozen? ⟨w2.heap.size,5,none⟩ = false:=frozen_of_row _ _ _ _ _ HON.out.two.nr
           have hon:=HON.out.store elemN HNB.out 5 (.slice (some ⟨w29.heap.size,0,none⟩) 1 1)
           clear HON
           have HON:=Lib.hid hon
           clear hon
           have hc:=take_row _ pb s hs p28 d [⟨#[100,111,110,101]⟩] _ HON.out.hp (by decide)
           try simp only [World.size_alloc,World.size_setCell] at hc
           try rw [HSZ.out] at hc
           have hdw:DownS s _ (takeF s [⟨#[100,111,110,101]⟩] p28):=take_down (s:=s) (o:=p28) (l:=[⟨#[100,111,110,101]⟩]) HON.out.hp.ok (by decide)
           have hn:=HN.out
           generalize (takeF s [⟨#[100,111,110,101]⟩] p28) = rX at hc hdw hn
           clear HN
           have HC:=Lib.hid hc;have HD0:=Lib.hid hdw;have HN:=Lib.hid hn
           clear hc hdw hn
           cases rX with
           | bad i er =>
            go_wp2_with fail
            refine HC.out.mono ?_
            rintro e w2 ⟨hf,rfl⟩
            have HDD:Does S pb s d w VN R0 (thrownP i er) w2:=by rw [show R0 = .bad i er from HN.out.symm];exact ⟨HON.out.fr.trans hf,rfl⟩
            clear hf
            go_wp2_with fail
            exact ⟨rfl,HDD⟩
           | ok u p31 =>
            have hm:=HD0.out _ _ rfl
            have HM33:=Lib.hid hm.1
            have hn:=HN.out
            rw [Rs.bind_ok] at hn
            clear HN HD0 hm
            have HN:=Lib.hid hn
            clear hn
            go_wp2_with fail
            refine HC.out.mono ?_
            rintro e w32 ⟨hf,⟨v,rfl,rfl⟩,hp⟩
            have hon:=HON.out.call elemN hf hp
            clear HON HC hf hp
            have HON:=Lib.hid hon
            clear hon
            try clear k5 f5
            have r0:w32.cell? ⟨w.heap.size,0,none⟩ = some (.int .i64 0):=Lib.cell_of_heap HON.out.two.rr 0;have f0:w32.frozen? ⟨w.heap.size,0,none⟩ = false:=frozen_of_row _ _ _ _ _ HON.out.two.rr;have k0:w32.cell? ⟨w2.heap.size,0,none⟩ = some (.int .i64 9):=Lib.cell_of_heap HON.out.two.nr 0
            have r1:w32.cell? ⟨w.heap.size,1,none⟩ = some (.string ⟨#[]⟩):=Lib.cell_of_heap HON.out.two.rr 1;have f1:w32.frozen? ⟨w.heap.size,1,none⟩ = false:=frozen_of_row _ _ _ _ _ HON.out.two.rr;have k1:w32.cell? ⟨w2.heap.size,1,none⟩ = some (.string nm):=Lib.cell_of_heap HON.out.two.nr 1
            have r2:w32.cell? ⟨w.heap.size,2,none⟩ = some (.bool false):=Lib.cell_of_heap HON.out.two.rr 2;have f2:w32.frozen? ⟨w.heap.size,2,none⟩ = false:=frozen_of_row _ _ _ _ _ HON.out.two.rr;have k2:w32.cell? ⟨w2.heap.size,2,none⟩ = some (.bool true):=Lib.cell_of_heap HON.out.two.nr 2
            have r3:w32.cell? ⟨w.heap.size,3,none⟩ = some (.slice none 0 0):=Lib.cell_of_heap HON.out.two.rr 3;have f3:w32.frozen? ⟨w.heap.size,3,none⟩ = false:=frozen_of_row _ _ _ _ _ HON.out.two.rr;have k3:w32.cell? ⟨w2.heap.size,3,none⟩ = some (.slice none 0 0):=Lib.cell_of_heap HON.out.two.nr 3
            have r4:w32.cell? ⟨w.heap.size,4,none⟩ = some (.slice none 0 0):=Lib.cell_of_heap HON.out.two.rr 4;have f4:w32.frozen? ⟨w.heap.size,4,none⟩ = false:=frozen_of_row _ _ _ _ _ HON.out.two.rr;have k4:w32.cell? ⟨w2.heap.size,4,none⟩ = some (.slice aw ws.length cw):=Lib.cell_of_heap HON.out.two.nr 4
            have r5:w32.cell? ⟨w.heap.size,5,none⟩ = some (.slice none 0 0):=Lib.cell_of_heap HON.out.two.rr 5;have f5:w32.frozen? ⟨w.heap.size,5,none⟩ = false:=frozen_of_row _ _ _ _ _ HON.out.two.rr;have k5:w32.cell? ⟨w2.heap.size,5,none⟩ = some (.slice (some ⟨w29.heap.size,0,none⟩) 1 1):=Lib.cell_of_heap HON.out.two.nr 5
            have r6:w32.cell? ⟨w.heap.size,6,none⟩ = some (.slice none 0 0):=Lib.cell_of_heap HON.out.two.rr 6;have f6:w32.frozen? ⟨w.heap.size,6,none⟩ = false:=frozen_of_row _ _ _ _ _ HON.out.two.rr;have k6:w32.cell? ⟨w2.heap.size,6,none⟩ = some (.slice none 0 0):=Lib.cell_of_heap HON.out.two.nr 6
            have r7:w32.cell? ⟨w.heap.size,7,none⟩ = some (.slice none 0 0):=Lib.cell_of_heap HON.out.two.rr 7;have f7:w32.frozen? ⟨w.heap.size,7,none⟩ = false:=frozen_of_row _ _ _ _ _ HON.out.two.rr;have k7:w32.cell? ⟨w2.heap.size,7,none⟩ = some (.slice none 0 0):=Lib.cell_of_heap HON.out.two.nr 7
            go_wp2_with fail
            have hst:=stored_rb w32 (w.heap.size) (.int .i64 9) (.string nm) (.bool true) (.slice none 0 0) (.slice aw ws.length cw) (.slice (some ⟨w29.heap.size,0,none⟩) 1 1) (.slice none 0 0) (.slice none 0 0) _ _ _ _ _ _ _ _ _ HON.out.two.rr
            generalize ((((((((w32.setCell ⟨w.heap.size,0,none⟩ (.int .i64 9)).setCell ⟨w.heap.size,1,none⟩ (.string nm)).setCell ⟨w.heap.size,2,none⟩ (.bool true)).setCell ⟨w.heap.size,3,none⟩ (.slice none 0 0)).setCell ⟨w.heap.size,4,none⟩ (.slice aw ws.length cw)).setCell ⟨w.heap.size,5,none⟩ (.slice (some ⟨w29.heap.size,0,none⟩) 1 1)).setCell ⟨w.heap.size,6,none⟩ (.slice none 0 0)).setCell ⟨w.heap.size,7,none⟩ (.slice none 0 0)) = W8 at hst ⊢
            obtain ⟨hr8,hch⟩:=hst
            have x0:=Lib.cell_of_heap hr8 0
            have x1:=Lib.cell_of_heap hr8 1
            have x2:=Lib.cell_of_heap hr8 2
            have x3:=Lib.cell_of_heap hr8 3
            have x4:=Lib.cell_of_heap hr8 4
            have x5:=Lib.cell_of_heap hr8 5
            have x6:=Lib.cell_of_heap hr8 6
            have x7:=Lib.cell_of_heap hr8 7
            refine bodyPost_ret (v:=.agg #[.int .i64 9,.string nm,.bool true,.slice none 0 0,.slice aw ws.length cw,.slice (some ⟨w29.heap.size,0,none⟩) 1 1,.slice none 0 0,.slice none 0 0]) (by simp [results,Tryz.results123,go_sem,x0,x1,x2,x3,x4,x5,x6,x7]) rfl ?_
            rw [← HN.out]
            exact HON.out.done H.out hch (VN.each rfl rfl hnm ((HON.out.ks hch).imp fun _ h=>h.1.1.2) ((HON.out.ks hch).imp fun _ h=>h.2))
   ·skip
    have hc:=lines_any _ pb s hs p4 d _ HON.out.hp
    have hdw:Down s _ (linesF s p4):=lines_down s (F s) p4 HON.out.hp.ok
    have hn:=HN.out
    generalize (linesF s p4) = rX at hc hdw hn
    clear HN
    have HC:=Lib.hid hc;have HD0:=Lib.hid hdw;have HN:=Lib.hid hn
    clear hc hdw hn
    cases rX with
    | bad i er =>
     go_wp2_with fail
     refine HC.out.mono ?_
     rintro e w2 ⟨hf,rfl⟩
     have HDD:Does S pb s d w VN R0 (thrownP i er) w2:=by rw [show R0 = .bad i er from HN.out.symm];exact ⟨HON.out.fr.trans hf,rfl⟩
     clear hf
     go_wp2_with fail
     exact ⟨rfl,HDD⟩
    | ok u p34 =>
     have hm:=HD0.out _ _ rfl
     have HM36:=Lib.hid hm.1
     have hn:=HN.out
     rw [Rs.bind_ok] at hn
     clear HN HD0 hm
     have HN:=Lib.hid hn
     clear hn
     go_wp2_with fail
     refine HC.out.mono ?_
     rintro e w35 ⟨hf,⟨v,rfl,rfl⟩,hp⟩
     have hon:=HON.out.call elemN hf hp
     clear HON HC hf hp
     have HON:=Lib.hid hon
     clear hon
     have hn:=HN.out
     first | rw [if_pos rfl,Rs.bind_ok] at hn | rw [if_pos trivial,Rs.bind_ok] at hn
     clear HN
     have HN:=Lib.hid hn
     clear hn
     have hc:=HB.out _ pb d p34 _ ⟨#[100,111]⟩ (by decide) hd HON.out.hp (by have hm3:=HM3.out;have hm6:=HM6.out;have hm36:=HM36.out;have hfu:=HFU.out;omega)
     have hdw:Down s _ (behindF s d n ⟨#[100,111]⟩ p34):=((downs_all s n).behind d ⟨#[100,111]⟩ p34 (by decide) HON.out.hp.ok).to
     have hn:=HN.out
     generalize (behindF s d n ⟨#[100,111]⟩ p34) = rX at hc hdw hn
     clear HN
     have HC:=Lib.hid hc;have HD0:=Lib.hid hdw;have HN:=Lib.hid hn
     clear hc hdw hn
     cases rX with
     | bad i er =>
      go_wp2_with fail
      refine HC.out.mono ?_
      rintro e w2 ⟨hf,rfl⟩
      have HDD:Does S pb s d w VN R0 (thrownP i er) w2:=by rw [show R0 = .bad i er from HN.out.symm];exact ⟨HON.out.fr.trans hf,rfl⟩
      clear hf
      go_wp2_with fail
      exact ⟨rfl,HDD⟩
     | ok y p37 =>
      have hm:=HD0.out _ _ rfl
      have HM39:=Lib.hid hm.1
      have hn:=HN.out
      rw [Rs.bind_ok] at hn
      clear HN HD0 hm
      have HN:=Lib.hid hn
      clear hn
      go_wp2_with fail
      refine HC.out.mono ?_
      rintro e w38 ⟨hf,⟨v,rfl,a1b,c1b,a2b,c2b,a3b,c3b,a4b,c4b,a5b,c5b,hv,hx⟩,hp⟩
      have hon:=HON.out.call elemN hf hp
      clear HON HC hf hp
      obtain rfl:v = .agg #[.int .i64 y.k,.string y.nm,.bool y.g,.slice a1b y.az.length c1b,.slice a2b y.ws.length c2b,.slice a3b y.ks.len c3b,.slice a4b y.bs.length c4b,.slice a5b y.cz.len c5b]:=hv
      have hon:=hon.hold hx
      clear hx
      have HON:=Lib.hid hon
      clear hon
      try clear k2 f2
      try clear k4 f4
      have hks:=KS.row (m:=1) (row:=#[.int .i64 y.k,.string y.nm,.bool y.g,.slice a1b y.az.length c1b,.slice a2b y.ws.length c2b,.slice a3b y.ks.len c3b,.slice a4b y.bs.length c4b,.slice a5b y.cz.len c5b]) (ty:=29) elemN (cells1 (HON.out.held.imp fun _ h=>h.2)) rfl (by decide)
      have hon:=(HON.out.grow elemN (bel1 w38 (.cells #[.int .i64 y.k,.string y.nm,.bool y.g,.slice a1b y.az.length c1b,.slice a2b y.ws.length c2b,.slice a3b y.ks.len c3b,.slice a4b y.bs.length c4b,.slice a5b y.cz.len c5b] 29))).hold hks
      clear HON hks
      have HON:=Lib.hid hon
      clear hon
      have k5:(w38.alloc (.cells #[.int .i64 y.k,.string y.nm,.bool y.g,.slice a1b y.az.length c1b,.slice a2b y.ws.length c2b,.slice a3b y.ks.len c3b,.slice a4b y.bs.length c4b,.slice a5b y.cz.len c5b] 29)).cell? ⟨w2.heap.size,5,none⟩ = some (.slice none 0 0):=Lib.cell_of_heap HON.out.two.nr 5;have f5:(w38.alloc (.cells #[.int .i64 y.k,.string y.nm,.bool y.g,.slice a1b y.az.length c1b,.slice a2b y.ws.length c2b,.slice a3b y.ks.len c3b,.slice a4b y.bs.length c4b,.slice a5b y.cz.len c5b] 29)).frozen? ⟨w2.heap.size,5,none⟩ = false:=frozen_of_row _ _ _ _ _ HON.out.two.nr
      have hon:=HON.out.store elemN HNB.out 5 (.slice (some ⟨w38.heap.size,0,none⟩) 1 1)
      clear HON
      have HON:=Lib.hid hon
      clear hon
      have hc:=take_row _ pb s hs p37 d [⟨#[100,111,110,101]⟩] _ HON.out.hp (by decide)
      try simp only [World.size_alloc,World.size_setCell] at hc
      try rw [HSZ.out] at hc
      have hdw:DownS s _ (takeF s [⟨#[100,111,110,101]⟩] p37):=take_down (s:=s) (o:=p37) (l:=[⟨#[100,111,110,101]⟩]) HON.out.hp.ok (by decide)
      have hn:=HN.out
      generalize (takeF s [⟨#[100,111,110,101]⟩] p37) = rX at hc hdw hn
      clear HN
      have HC:=Lib.hid hc;have HD0:=Lib.hid hdw;have HN:=Lib.hid hn
      clear hc hdw hn
      cases rX with
      | bad i er =>
       go_wp2_with fail
       refine HC.out.mono ?_
       rintro e w2 ⟨hf,rfl⟩
       have HDD:Does S pb s d w VN R0 (thrownP i er) w2:=by rw [show R0 = .bad i er from HN.out.symm];exact ⟨HON.out.fr.trans hf,rfl⟩
       clear hf
       go_wp2_with fail
       exact ⟨rfl,HDD⟩
      | ok u p40 =>
       have hm:=HD0.out _ _ rfl
       have HM42:=Lib.hid hm.1
       have hn:=HN.out
       rw [Rs.bind_ok] at hn
       clear HN HD0 hm
       have HN:=Lib.hid hn
       clear hn
       go_wp2_with fail
       refine HC.out.mono ?_
       rintro e w41 ⟨hf,⟨v,rfl,rfl⟩,hp⟩
       have hon:=HON.out.call elemN hf hp
       clear HON HC hf hp
       have HON:=Lib.hid hon
       clear hon
       try clear k5 f5
       have r0:w41.cell? ⟨w.heap.size,0,none⟩ = some (.int .i64 0):=Lib.cell_of_heap HON.out.two.rr 0;have f0:w41.frozen? ⟨w.heap.size,0,none⟩ = false:=frozen_of_row _ _ _ _ _ HON.out.two.rr;have k0:w41.cell? ⟨w2.heap.size,0,none⟩ = some (.int .i64 9):=Lib.cell_of_heap HON.out.two.nr 0
       have r1:w41.cell? ⟨w.heap.size,1,none⟩ = some (.string ⟨#[]⟩):=Lib.cell_of_heap HON.out.two.rr 1;have f1:w41.frozen? ⟨w.heap.size,1,none⟩ = false:=frozen_of_row _ _ _ _ _ HON.out.two.rr;have k1:w41.cell? ⟨w2.heap.size,1,none⟩ = some (.string nm):=Lib.cell_of_heap HON.out.two.nr 1
       have r2:w41.cell? ⟨w.heap.size,2,none⟩ = some (.bool false):=Lib.cell_of_heap HON.out.two.rr 2;have f2:w41.frozen? ⟨w.heap.size,2,none⟩ = false:=frozen_of_row _ _ _ _ _ HON.out.two.rr;have k2:w41.cell? ⟨w2.heap.size,2,none⟩ = some (.bool false):=Lib.cell_of_heap HON.out.two.nr 2
       have r3:w41.cell? ⟨w.heap.size,3,none⟩ = some (.slice none 0 0):=Lib.cell_of_heap HON.out.two.rr 3;have f3:w41.frozen? ⟨w.heap.size,3,none⟩ = false:=frozen_of_row _ _ _ _ _ HON.out.two.rr;have k3:w41.cell? ⟨w2.heap.size,3,none⟩ = some (.slice none 0 0):=Lib.cell_of_heap HON.out.two.nr 3
       have r4:w41.cell? ⟨w.heap.size,4,none⟩ = some (.slice none 0 0):=Lib.cell_of_heap HON.out.two.rr 4;have f4:w41.frozen? ⟨w.heap.size,4,none⟩ = false:=frozen_of_row _ _ _ _ _ HON.out.two.rr;have k4:w41.cell? ⟨w2.heap.size,4,none⟩ = some (.slice none 0 0):=Lib.cell_of_heap HON.out.two.nr 4
       have r5:w41.cell? ⟨w.heap.size,5,none⟩ = some (.slice none 0 0):=Lib.cell_of_heap HON.out.two.rr 5;have f5:w41.frozen? ⟨w.heap.size,5,none⟩ = false:=frozen_of_row _ _ _ _ _ HON.out.two.rr;have k5:w41.cell? ⟨w2.heap.size,5,none⟩ = some (.slice (some ⟨w38.heap.size,0,none⟩) 1 1):=Lib.cell_of_heap HON.out.two.nr 5
       have r6:w41.cell? ⟨w.heap.size,6,none⟩ = some (.slice none 0 0):=Lib.cell_of_heap HON.out.two.rr 6;have f6:w41.frozen? ⟨w.heap.size,6,none⟩ = false:=frozen_of_row _ _ _ _ _ HON.out.two.rr;have k6:w41.cell? ⟨w2.heap.size,6,none⟩ = some (.slice none 0 0):=Lib.cell_of_heap HON.out.two.nr 6
       have r7:w41.cell? ⟨w.heap.size,7,none⟩ = some (.slice none 0 0):=Lib.cell_of_heap HON.out.two.rr 7;have f7:w41.frozen? ⟨w.heap.size,7,none⟩ = false:=frozen_of_row _ _ _ _ _ HON.out.two.rr;have k7:w41.cell? ⟨w2.heap.size,7,none⟩ = some (.slice none 0 0):=Lib.cell_of_heap HON.out.two.nr 7
       go_wp2_with fail
       have hst:=stored_rb w41 (w.heap.size) (.int .i64 9) (.string nm) (.bool false) (.slice none 0 0) (.slice none 0 0) (.slice (some ⟨w38.heap.size,0,none⟩) 1 1) (.slice none 0 0) (.slice none 0 0) _ _ _ _ _ _ _ _ _ HON.out.two.rr
       generalize ((((((((w41.setCell ⟨w.heap.size,0,none⟩ (.int .i64 9)).setCell ⟨w.heap.size,1,none⟩ (.string nm)).setCell ⟨w.heap.size,2,none⟩ (.bool false)).setCell ⟨w.heap.size,3,none⟩ (.slice none 0 0)).setCell ⟨w.heap.size,4,none⟩ (.slice none 0 0)).setCell ⟨w.heap.size,5,none⟩ (.slice (some ⟨w38.heap.size,0,none⟩) 1 1)).setCell ⟨w.heap.size,6,none⟩ (.slice none 0 0)).setCell ⟨w.heap.size,7,none⟩ (.slice none 0 0)) = W8 at hst ⊢
       obtain ⟨hr8,hch⟩:=hst
       have x0:=Lib.cell_of_heap hr8 0
       have x1:=Lib.cell_of_heap hr8 1
       have x2:=Lib.cell_of_heap hr8 2
       have x3:=Lib.cell_of_heap hr8 3
       have x4:=Lib.cell_of_heap hr8 4
       have x5:=Lib.cell_of_heap hr8 5
       have x6:=Lib.cell_of_heap hr8 6
       have x7:=Lib.cell_of_heap hr8 7
       refine bodyPost_ret (v:=.agg #[.int .i64 9,.string nm,.bool false,.slice none 0 0,.slice none 0 0,.slice (some ⟨w38.heap.size,0,none⟩) 1 1,.slice none 0 0,.slice none 0 0]) (by simp [results,Tryz.results123,go_sem,x0,x1,x2,x3,x4,x5,x6,x7]) rfl ?_
       rw [← HN.out]
       exact HON.out.done H.out hch (VN.each (ws:=[]) rfl rfl hnm (KS.imp (HON.out.ks hch) fun _ _=>slNil 0) ((HON.out.ks hch).imp fun _ h=>h.2))
end Ps
end Go.Proofs.YtfjfgaefbldgbaaGreat
