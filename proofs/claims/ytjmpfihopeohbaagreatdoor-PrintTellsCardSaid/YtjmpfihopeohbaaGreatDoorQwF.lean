/- The writer's entry. -/
import Derived.Test.YtjmpfihopeohbaaGreatDoorQwC
set_option maxHeartbeats 4000000
set_option maxRecDepth 100000
namespace Go.Proofs.YtjmpfihopeohbaaGreatDoor
open Go.RowKit Go.Sort
namespace Pw
open Cls Pt Tr Pr
open Ps (ND)
theorem ofN_drop:∀ {n:Nat} {l r ks cs:NL} {k:Int} {nm:ByteArray} {g:Bool} {az:List (ByteArray × PL)} {ws:List PL} {bs:List Bool},NL.okN l true = true→l.drop n = .node k nm g az ws ks bs cs r→(⟨k,nm,g,az,ws,ks,bs,cs⟩:ND) ∈ ofN l
 | 0,l,_,_,_,_,_,_,_,_,_,_,h=>by
  have h:l = _:=h;subst h;exact List.mem_cons_self
 | n + 1,.nil,_,_,_,_,_,_,_,_,_,_,h=>by simp [NL.drop] at h
 | n + 1,.node _ _ _ _ _ _ _ _ r',_,_,_,_,_,_,_,_,_,ho,h=>by
  simp only [NL.okN,Bool.and_eq_true] at ho;exact List.mem_cons_of_mem _ (ofN_drop ho.2 h)
 | n + 1,.cse _ _ _,_,_,_,_,_,_,_,_,_,ho,_=>by simp [NL.okN] at ho
theorem size_drop {n:Nat} {l r ks cs:NL} {k:Int} {nm:ByteArray} {g:Bool} {az:List (ByteArray × PL)} {ws:List PL} {bs:List Bool} (h:l.drop n = .node k nm g az ws ks bs cs r):sz ⟨k,nm,g,az,ws,ks,bs,cs⟩ < l.size:=by
 have:=NL.drop_size n l;rw [h] at this;simp only [NL.size] at this;simp only [sz];omega
theorem Wrote.from {b:Nat} {t:T} {w w1 w2:World} {e:Ending} (h:Wrote b t w1 e w2) (hb:Below w.heap.size w w1) (hlt:b < w.heap.size):Wrote b t w e w2:=⟨h.1,h.2.1,(Pb.Kept.of_below hb (Nat.le_of_lt hlt)).trans h.2.2⟩
theorem write_one {w0:World} {M:Nat} (h:WriteAt w0 M) (p:Pc) (v:Value) (acc:T) (w:World) (hp:msr p < M∧PcR p) (hv:PcV w0 p v) (ho:Out w0 acc w) (hl:acc.length + (pcT p).length≤400000) :
  Calls Tryz.prog 19 #[.pointer (some ⟨w0.heap.size,0,none⟩),.slice (some ⟨w.heap.size,0,none⟩) 1 1] (w.alloc (.cells #[v] 20)) (Wrote w0.heap.size (acc ++ pcT p) w):=by
 have:=write_row h [p] [v] acc w (by intro q hq;simp only [List.mem_singleton] at hq;subst hq;exact hp) (.cons hv .nil) (by simp) ho (by simpa [pcsT] using hl);have he:pcsT [p] = pcT p:=by simp [pcsT]
 rw [he] at this;exact this
theorem write_two {w0:World} {M:Nat} (h:WriteAt w0 M) (p q:Pc) (v u:Value) (acc:T) (w:World) (hp:msr p < M∧PcR p) (hq:msr q < M∧PcR q) (hv:PcV w0 p v) (hu:PcV w0 q u) (ho:Out w0 acc w) (hl:acc.length + (pcT p).length + (pcT q).length≤400000) :
  Calls Tryz.prog 19 #[.pointer (some ⟨w0.heap.size,0,none⟩),.slice (some ⟨w.heap.size,0,none⟩) 2 2] (w.alloc (.cells #[v,u] 20)) (Wrote w0.heap.size (acc ++ (pcT p ++ pcT q)) w):=by
 have:=write_row h [p,q] [v,u] acc w (by intro r hr;simp only [List.mem_cons,List.not_mem_nil,or_false] at hr;rcases hr with rfl | rfl <;> assumption) (.cons hv (.cons hu .nil)) (by simp) ho (by simp only [pcsT,List.map_cons,List.map_nil,List.flatten_cons,List.flatten_nil,List.length_append,List.length_nil];omega);have he:pcsT [p,q] = pcT p ++ pcT q:=by simp [pcsT]
 rw [he] at this;exact this
def hd0 (n:Nat):T:=if n = 0 then [40] else [124]
theorem entry_any (w0:World) (ps:List PL) (bd:NL) (hW:WriteAt w0 (msr (.cse ps bd))) (hR:PcR (.cse ps bd)):EntryAt w0 ps bd:=by
 intro a1 c1 a2 c2 acc w hs hb ho hl;have HW:=Lib.hid hW;have HR:=Lib.hid hR;have HS:=Lib.hid hs;have HB:=Lib.hid hb;have HO:=Lib.hid ho;have HL:=Lib.hid hl;have hle:=hs.le;have hle2:=hb.le;clear hW hR hs hb ho hl;unfold Wrote;go_enter Tryz.func40,Tryz.ntmps40;go_wp2;have hrow:(w.alloc (.cells #[.slice a1 ps.length c1,.slice a2 bd.len c2] 44)).heap[w.heap.size]? = some (.cells #[.slice a1 ps.length c1,.slice a2 bd.len c2] 44 (0,0)):=heap_new' _ _;have hk0:Pb.Kept w0.heap.size w (w.alloc (.cells #[.slice a1 ps.length c1,.slice a2 bd.len c2] 44)):=Pb.Kept.of_below (bel1 _ _) (Nat.le_of_lt HO.out.is.lt);have ho1:=HO.out.below (bel1 w (.cells #[.slice a1 ps.length c1,.slice a2 bd.len c2] 44));have hlt:=HO.out.is.lt;generalize w.alloc (.cells #[.slice a1 ps.length c1,.slice a2 bd.len c2] 44) = w1 at hrow hk0 ho1 ⊢
 have HROW:=Lib.hid hrow;have HK0:=Lib.hid hk0;have HO1:=Lib.hid ho1;have HLT:=Lib.hid hlt;clear hrow hk0 ho1 hlt
 go_loopw [12,4] (fun i h wr=>∃ (n:Nat) (acc':T),n≤ps.length∧i = .int .i64 n∧h = .string ⟨(hd0 n).toArray⟩∧Out w0 acc' wr∧acc ++ behind [40] [124] (ps.map wordT) = acc' ++ behind (hd0 n) [124] ((ps.drop n).map wordT)∧Pb.Kept w0.heap.size w1 wr) (fun i _ wr=>ps.length - (intOf i).toNat)
 case atStart=>exact ⟨0,acc,Nat.zero_le _,rfl,rfl,HO1.out,rfl,Pb.Kept.refl _ _⟩
 case round =>
  obtain ⟨n,acc',hn,rfl,rfl,hi,htx,hkp⟩:=hrel;have HI:=Lib.hid hi;have HT:=Lib.hid htx;have HK:=Lib.hid hkp;clear hi htx hkp;have hlA:acc.length + (behind [40] [124] (ps.map wordT)).length + ((txt bd).flatten.length + 5)≤400000:=by
   have:=HL.out;simp only [caseT,List.length_append,List.length_cons,List.length_nil] at this;omega
  have hlB:=congrArg List.length HT.out;simp only [List.length_append] at hlB
  by_cases hlt:n < ps.length
  ·obtain ⟨l,hp⟩:∃ l,ps[n]? = some l:=⟨_,List.getElem?_eq_getElem hlt⟩;have hdr:ps.drop n = l :: ps.drop (n + 1):=by
    rw [List.drop_eq_getElem_cons hlt];rw [List.getElem?_eq_getElem hlt] at hp;injection hp with hp;rw [hp]
   obtain ⟨b,o,rfl,x1,d1,hc,hli⟩:=HS.out.get hp;rw [Nat.mul_one] at hc;have hc':=cell_below HI.out.b hc;have hT:acc ++ behind [40] [124] (ps.map wordT) = (acc' ++ (hd0 n ++ wordT l)) ++ behind (hd0 (n + 1)) [124] ((ps.drop (n + 1)).map wordT):=by
    rw [HT.out,hdr];simp only [List.map_cons,behind,List.append_assoc];rfl
   have hlC:=congrArg List.length hT;simp only [List.length_append] at hlC;have hCall:=write_two HW.out (.str ⟨(hd0 n).toArray⟩) (.word l) _ _ acc' wr ⟨Nat.succ_pos _,trivial⟩ ⟨Nat.succ_pos _,HR.out.1 l (List.mem_of_getElem? hp)⟩ rfl ⟨x1,d1,rfl,hli⟩ HI.out (by simp only [pcT];omega);have HCALL:=Lib.hid hCall;have HT2:=Lib.hid hT;clear hCall hT hc hli hdr hp hlA hlB hlC;go_wp2_with (go_at_call 19;refine (HCALL.out).mono ?_;rintro e w2 ⟨rfl,h3,h4⟩);have H3:=Lib.hid h3;have H4:=Lib.hid h4;clear h3 h4;go_roundw
   case rel=>exact ⟨n + 1,_,by omega,by go_num,rfl,HI.out.kept H3.out H4.out,HT2.out,HK.out.trans H4.out⟩
   case measure=>simp [intOf];omega
  ·obtain rfl:n = ps.length:=by omega
   have hT:acc ++ behind [40] [124] (ps.map wordT) = acc':=by
    rw [HT.out,List.drop_length];simp [behind]
   have hlC:=congrArg List.length hT;simp only [List.length_append] at hlC;have hrow:wr.heap[w.heap.size]? = some (.cells #[.slice a1 ps.length c1,.slice a2 bd.len c2] 44 (0,0)):=HK.out.2 _ _ HROW.out (by have:=HLT.out;simp;omega) (fun c fz hc=>by injection hc with _ h2 _;exact absurd h2 (by decide));have hCall:=write_one HW.out (.str ⟨#[41,32]⟩) _ acc' wr ⟨Nat.succ_pos _,trivial⟩ rfl HI.out (by simp only [pcT,List.length_cons,List.length_nil];omega);have HCALL:=Lib.hid hCall;have HT2:=Lib.hid hT;have HROW2:=Lib.hid hrow;clear hCall hT hlA hlB hlC hrow;go_wp2_with fail;refine (HCALL.out).mono ?_;rintro e w2 ⟨rfl,h3,h4⟩;have hrow:w2.heap[w.heap.size]? = some (.cells #[.slice a1 ps.length c1,.slice a2 bd.len c2] 44 (0,0)):=h4.2 _ _ HROW2.out (by have:=HLT.out;simp;omega) (fun c fz hc=>by injection hc with _ h2 _;exact absurd h2 (by decide));have r1:=zc1 hrow;have H3:=Lib.hid h3;have H4:=Lib.hid (HK0.out.trans (HK.out.trans h4));have HI2:=Lib.hid (HI.out.kept h3 h4);clear h3 h4 hrow;have hlA:acc.length + (behind [40] [124] (ps.map wordT)).length + ((txt bd).flatten.length + 5)≤400000:=by
    have:=HL.out;simp only [caseT,List.length_append,List.length_cons,List.length_nil] at this;omega
   have HLA:=Lib.hid hlA;clear hlA;go_wp2;clear r1
   go_loopw [31] (fun i wq=>∃ (k:Nat) (acq:T),k≤bd.len∧i = .int .i64 k∧Out w0 acq wq∧acc' ++ pcT (.str ⟨#[41,32]⟩) ++ (txt bd).flatten = acq ++ (txt (bd.drop k)).flatten∧Pb.Kept w0.heap.size w wq) (fun i wq=>bd.len - (intOf i).toNat)
   case atStart=>exact ⟨0,_,Nat.zero_le _,rfl,HI2.out,rfl,H4.out⟩
   case round =>
    obtain ⟨k,acq,hk,rfl,hi,htx,hkp⟩:=hrel;have HIQ:=Lib.hid hi;have HTQ:=Lib.hid htx;have HKQ:=Lib.hid hkp;clear hi htx hkp;have hlB:=congrArg List.length HTQ.out;have hlC:=congrArg List.length HT2.out;simp only [List.length_append,pcT,List.length_cons,List.length_nil] at hlB hlC;have hlD:=HLA.out
    by_cases hlt:k < bd.len
    ·obtain ⟨k1,nm1,g1,az1,ws1,ks1,bs1,cz1,r,hd1⟩:=NL.drop_node hlt HR.out.2.2.1;obtain ⟨b1,o1,rfl,hb1,x11,d11,x12,d12,x13,d13,x14,d14,x15,d15,hc1,hh1⟩:=HB.out.getN HR.out.2.2.1 hd1;have hb8:=HIQ.out.b;have c10:wr.cell? ⟨b1,o1 + k * 8,none⟩ = some (.int .i64 k1):=cell_below hb8 (hc1 0 _ rfl);have c11:wr.cell? ⟨b1,o1 + k * 8 + 1,none⟩ = some (.string nm1):=cell_below hb8 (hc1 1 _ rfl);have c12:wr.cell? ⟨b1,o1 + k * 8 + 2,none⟩ = some (.bool g1):=cell_below hb8 (hc1 2 _ rfl);have c13:wr.cell? ⟨b1,o1 + k * 8 + 3,none⟩ = some (.slice x11 az1.length d11):=cell_below hb8 (hc1 3 _ rfl);have c14:wr.cell? ⟨b1,o1 + k * 8 + 4,none⟩ = some (.slice x12 ws1.length d12):=cell_below hb8 (hc1 4 _ rfl);have c15:wr.cell? ⟨b1,o1 + k * 8 + 5,none⟩ = some (.slice x13 ks1.len d13):=cell_below hb8 (hc1 5 _ rfl);have c16:wr.cell? ⟨b1,o1 + k * 8 + 6,none⟩ = some (.slice x14 bs1.length d14):=cell_below hb8 (hc1 6 _ rfl);have c17:wr.cell? ⟨b1,o1 + k * 8 + 7,none⟩ = some (.slice x15 cz1.len d15):=cell_below hb8 (hc1 7 _ rfl);have hsz:=size_drop hd1;have hT:acc' ++ pcT (.str ⟨#[41,32]⟩) ++ (txt bd).flatten = (acq ++ tx ⟨k1,nm1,g1,az1,ws1,ks1,bs1,cz1⟩) ++ (txt (bd.drop (k + 1))).flatten:=by
      rw [HTQ.out,NL.drop_succN hd1,hd1];simp only [txt,List.flatten_cons,List.append_assoc];rfl
     have hlE:=congrArg List.length hT;simp only [List.length_append,pcT,List.length_cons,List.length_nil] at hlE;have hCall:=write_one HW.out (.node ⟨k1,nm1,g1,az1,ws1,ks1,bs1,cz1⟩) _ acq (wr.alloc (.cells #[.int .i64 k1,.string nm1,.bool g1,.slice x11 az1.length d11,.slice x12 ws1.length d12,.slice x13 ks1.len d13,.slice x14 bs1.length d14,.slice x15 cz1.len d15] 28)) ⟨by simp only [msr];omega,HR.out.2.2.2 _ (ofN_drop HR.out.2.2.1 hd1)⟩ ⟨_,_,_,_,_,_,_,_,_,_,rfl,hh1⟩ (HIQ.out.below (bel1 _ _)) (by simp only [pcT];omega);have hsz1:(wr.alloc (.cells #[.int .i64 k1,.string nm1,.bool g1,.slice x11 az1.length d11,.slice x12 ws1.length d12,.slice x13 ks1.len d13,.slice x14 bs1.length d14,.slice x15 cz1.len d15] 28)).heap.size = wr.heap.size + 1:=by simp
     rw [hsz1] at hCall;have HCALL:=Lib.hid (hCall.mono fun _ _ h=>Wrote.from h (bel1 _ _) HIQ.out.is.lt);have HT3:=Lib.hid hT;unfold nodeV at HCALL;clear hCall hT hb8 hc1 hh1 hd1 hlB hlC hlD hlE hsz hsz1;go_wp2_with (go_at_call 19;refine (HCALL.out).mono ?_;rintro e w2 ⟨rfl,h3,h4⟩);have H5:=Lib.hid h3;have H6:=Lib.hid h4;clear h3 h4;go_roundw
     case rel=>exact ⟨k + 1,_,by omega,by go_num,HIQ.out.kept H5.out H6.out,HT3.out,HKQ.out.trans H6.out⟩
     case measure=>simp [intOf];omega
    ·obtain rfl:k = bd.len:=by omega
     have hT:acc' ++ pcT (.str ⟨#[41,32]⟩) ++ (txt bd).flatten = acq:=by
      rw [HTQ.out,NL.drop_end (Nat.le_refl _)];simp [txt]
     have hlE:=congrArg List.length hT;simp only [List.length_append,pcT,List.length_cons,List.length_nil] at hlE;have hCall:=write_one HW.out (.str ⟨#[59,59,32]⟩) _ acq wr ⟨Nat.succ_pos _,trivial⟩ rfl HIQ.out (by simp only [pcT,List.length_cons,List.length_nil];omega);have HCALL:=Lib.hid hCall;have HT3:=Lib.hid hT;clear hCall hT hlB hlC hlD hlE;go_wp2_with (go_at_call 19;refine (HCALL.out).mono ?_;rintro e w2 ⟨rfl,h3,h4⟩);go_end0;refine ⟨rfl,?_,HKQ.out.trans h4⟩;have he:acc ++ caseT ps (txt bd) = acq ++ pcT (.str ⟨#[59,59,32]⟩):=by
      rw [← HT3.out,← HT2.out];simp only [caseT,pcT,List.append_assoc]
     rw [he];exact h3
end Pw
end Go.Proofs.YtjmpfihopeohbaaGreatDoor
namespace Go.Proofs.YtjmpfihopeohbaaGreatDoor
open Go.RowKit Go.Sort
namespace Pw
open Cls Pt Tr Pr
open Ps (ND)
abbrev Cells (k:Int) (nm:ByteArray) (g:Bool) (a1:Option Addr) (n1 c1:Nat) (a2:Option Addr) (n2 c2:Nat) (a3:Option Addr) (n3 c3:Nat) (a4:Option Addr) (n4 c4:Nat) (a5:Option Addr) (n5 c5:Nat):Obj :=
 .cells #[.int .i64 k,.string nm,.bool g,.slice a1 n1 c1,.slice a2 n2 c2,.slice a3 n3 c3,.slice a4 n4 c4,.slice a5 n5 c5] 28
theorem row_kept {w w':World} {b g:Nat} {cs:Array Value} {fz:Nat × Nat} (h:w.heap[g]? = some (.cells cs 28 fz)) (hg:b < g) (hk:Pb.Kept b w w'):w'.heap[g]? = some (.cells cs 28 fz) :=
 hk.2 g _ h (by simp;omega) (fun c fz hc=>by injection hc with _ h2 _;exact absurd h2 (by decide))
def hd1 (n:Nat):T:=if n = 0 then [] else [32]
theorem simple_any (w0:World) (M:Nat) (hM:1 < M) (hW:WriteAt w0 M) (k:Int) (nm:ByteArray) (g:Bool) (az:List (ByteArray × PL)) (ws:List PL) (n3 n4 n5:Nat) (a1 c1 a2 c2 a3 c3 a4 c4 a5 c5) (acc:T) (w:World)
  (hra:∀ x ∈ az,rightL none x.2 0 1 = true) (hrw:∀ l ∈ ws,rightL none l 0 1 = true) (ha:Sl 2 (PA w0) a1 c1 az) (hw:Sl 1 (PW w0) a2 c2 ws) (ho:Out w0 acc w) (hl:acc.length + (simpleT az ws).length≤400000) :
  Calls Tryz.prog 60 #[.pointer (some ⟨w0.heap.size,0,none⟩),.agg #[.int .i64 k,.string nm,.bool g,.slice a1 az.length c1,.slice a2 ws.length c2,.slice a3 n3 c3,.slice a4 n4 c4,.slice a5 n5 c5]] w (Wrote w0.heap.size (acc ++ simpleT az ws) w):=by
 have HW:=Lib.hid hW;have HRA:=Lib.hid hra;have HRW:=Lib.hid hrw;have HA:=Lib.hid ha;have HWS:=Lib.hid hw;have HO:=Lib.hid ho;have HL:=Lib.hid hl;have hle:=ha.le;have hle2:=hw.le;clear hW hra hrw ha hw ho hl;unfold Wrote;go_enter Tryz.func60,Tryz.ntmps60;go_wp2;have hrow:=heap_new' w (Cells k nm g a1 az.length c1 a2 ws.length c2 a3 n3 c3 a4 n4 c4 a5 n5 c5);have hk0:Pb.Kept w0.heap.size w (w.alloc (Cells k nm g a1 az.length c1 a2 ws.length c2 a3 n3 c3 a4 n4 c4 a5 n5 c5)):=Pb.Kept.of_below (bel1 _ _) (Nat.le_of_lt HO.out.is.lt);have ho1:=HO.out.below (bel1 w (Cells k nm g a1 az.length c1 a2 ws.length c2 a3 n3 c3 a4 n4 c4 a5 n5 c5));have hlt:=HO.out.is.lt;unfold Cells at hrow hk0 ho1;generalize w.alloc (.cells #[.int .i64 k,.string nm,.bool g,.slice a1 az.length c1,.slice a2 ws.length c2,.slice a3 n3 c3,.slice a4 n4 c4,.slice a5 n5 c5] 28) = w1 at hrow hk0 ho1 ⊢
 have HROW:=Lib.hid hrow;have HK0:=Lib.hid hk0;have HO1:=Lib.hid ho1;have HLT:=Lib.hid hlt;clear hrow hk0 ho1 hlt
 go_loopw [12,4] (fun i h wr=>∃ (n:Nat) (acc':T),n≤az.length∧i = .int .i64 n∧h = .string ⟨(hd1 n).toArray⟩∧Out w0 acc' wr∧acc ++ simpleT az ws = acc' ++ behind (hd1 n) [32] ((az.drop n).map asgT ++ ws.map wordT)∧Pb.Kept w0.heap.size w1 wr) (fun i _ wr=>az.length - (intOf i).toNat)
 case atStart=>exact ⟨0,acc,Nat.zero_le _,rfl,rfl,HO1.out,rfl,Pb.Kept.refl _ _⟩
 case round =>
  obtain ⟨n,acc',hn,rfl,rfl,hi,htx,hkp⟩:=hrel;have HI:=Lib.hid hi;have HT:=Lib.hid htx;have HK:=Lib.hid hkp;clear hi htx hkp;have hlA:=HL.out;have hlB:=congrArg List.length HT.out;simp only [List.length_append] at hlB
  by_cases hlt:n < az.length
  ·obtain ⟨x,hp⟩:∃ x,az[n]? = some x:=⟨_,List.getElem?_eq_getElem hlt⟩;have hdr:az.drop n = x :: az.drop (n + 1):=by
    rw [List.drop_eq_getElem_cons hlt];rw [List.getElem?_eq_getElem hlt] at hp;injection hp with hp;rw [hp]
   obtain ⟨b,o,rfl,hc1,_,x1,d1,hc2,hli⟩:=HA.out.get hp;have c10:wr.cell? ⟨b,o + n * 2,none⟩ = some (.string x.1):=cell_below HI.out.b hc1;have c11:wr.cell? ⟨b,o + n * 2 + 1,none⟩ = some (.slice x1 x.2.len d1):=cell_below HI.out.b hc2;have hT:acc ++ simpleT az ws = (acc' ++ (hd1 n ++ asgT x)) ++ behind (hd1 (n + 1)) [32] ((az.drop (n + 1)).map asgT ++ ws.map wordT):=by
    rw [HT.out,hdr];simp only [List.map_cons,List.cons_append,behind,List.append_assoc];rfl
   have hlC:=congrArg List.length hT;simp only [List.length_append] at hlC;have hCall:=write_two HW.out (.str ⟨(hd1 n).toArray⟩) (.asg x) _ _ acc' (wr.alloc (.cells #[.string x.1,.slice x1 x.2.len d1] 42)) ⟨Nat.lt_of_succ_lt hM,trivial⟩ ⟨hM,HRA.out x (List.mem_of_getElem? hp)⟩ rfl ⟨x1,d1,rfl,hli⟩ (HI.out.below (bel1 _ _)) (by simp only [pcT];omega);have hsz1:(wr.alloc (.cells #[.string x.1,.slice x1 x.2.len d1] 42)).heap.size = wr.heap.size + 1:=by simp
   rw [hsz1] at hCall;have HCALL:=Lib.hid (hCall.mono fun _ _ h=>Wrote.from h (bel1 _ _) HI.out.is.lt);have HT2:=Lib.hid hT;clear hCall hT hc1 hc2 hli hdr hp hlA hlB hlC hsz1;go_wp2_with (go_at_call 19;refine (HCALL.out).mono ?_;rintro e w2 ⟨rfl,h3,h4⟩);have H3:=Lib.hid h3;have H4:=Lib.hid h4;clear h3 h4;go_roundw
   case rel=>exact ⟨n + 1,_,by omega,by go_num,rfl,HI.out.kept H3.out H4.out,HT2.out,HK.out.trans H4.out⟩
   case measure=>simp [intOf];omega
  ·obtain rfl:n = az.length:=by omega
   have hT:acc ++ simpleT az ws = acc' ++ behind (hd1 (az.length + 0)) [32] ((ws.drop 0).map wordT):=by
    rw [HT.out,List.drop_length];rfl
   have hrow:=row_kept HROW.out HLT.out HK.out;have r4:=zc4 hrow;have HT2:=Lib.hid hT;clear hT hlA hlB hrow;go_wp2;clear r4;have HK2:=Lib.hid (HK0.out.trans HK.out)
   go_loopw [27,4] (fun i h wq=>∃ (n:Nat) (acq:T),n≤ws.length∧i = .int .i64 n∧h = .string ⟨(hd1 (az.length + n)).toArray⟩∧Out w0 acq wq∧acc ++ simpleT az ws = acq ++ behind (hd1 (az.length + n)) [32] ((ws.drop n).map wordT)∧Pb.Kept w0.heap.size w wq) (fun i _ wq=>ws.length - (intOf i).toNat)
   case atStart=>exact ⟨0,acc',Nat.zero_le _,rfl,rfl,HI.out,HT2.out,HK2.out⟩
   case round =>
    obtain ⟨n,acq,hn,rfl,rfl,hi,htx,hkp⟩:=hrel;have HIQ:=Lib.hid hi;have HTQ:=Lib.hid htx;have HKQ:=Lib.hid hkp;clear hi htx hkp;have hlA:=HL.out;have hlB:=congrArg List.length HTQ.out;simp only [List.length_append] at hlB
    by_cases hlt:n < ws.length
    ·obtain ⟨l,hp⟩:∃ l,ws[n]? = some l:=⟨_,List.getElem?_eq_getElem hlt⟩;have hdr:ws.drop n = l :: ws.drop (n + 1):=by
      rw [List.drop_eq_getElem_cons hlt];rw [List.getElem?_eq_getElem hlt] at hp;injection hp with hp;rw [hp]
     obtain ⟨b,o,rfl,x1,d1,hc,hli⟩:=HWS.out.get hp;rw [Nat.mul_one] at hc;have hc':=cell_below HIQ.out.b hc;have hT:acc ++ simpleT az ws = (acq ++ (hd1 (az.length + n) ++ wordT l)) ++ behind (hd1 (az.length + (n + 1))) [32] ((ws.drop (n + 1)).map wordT):=by
      rw [HTQ.out,hdr];simp only [List.map_cons,behind,List.append_assoc];rfl
     have hlC:=congrArg List.length hT;simp only [List.length_append] at hlC;have hCall:=write_two HW.out (.str ⟨(hd1 (az.length + n)).toArray⟩) (.word l) _ _ acq wr ⟨Nat.lt_of_succ_lt hM,trivial⟩ ⟨Nat.lt_of_succ_lt hM,HRW.out l (List.mem_of_getElem? hp)⟩ rfl ⟨x1,d1,rfl,hli⟩ HIQ.out (by simp only [pcT];omega);have HCALL:=Lib.hid hCall;have HT3:=Lib.hid hT;clear hCall hT hc hli hdr hp hlA hlB hlC;go_wp2_with (go_at_call 19;refine (HCALL.out).mono ?_;rintro e w2 ⟨rfl,h3,h4⟩);have H3:=Lib.hid h3;have H4:=Lib.hid h4;clear h3 h4;go_roundw
     case rel=>exact ⟨n + 1,_,by omega,by go_num,rfl,HIQ.out.kept H3.out H4.out,HT3.out,HKQ.out.trans H4.out⟩
     case measure=>simp [intOf];omega
    ·obtain rfl:n = ws.length:=by omega
     go_wp2;go_end0;refine ⟨rfl,?_,HKQ.out⟩;rw [HTQ.out,List.drop_length];simpa [behind] using HIQ.out.is
end Pw
end Go.Proofs.YtjmpfihopeohbaaGreatDoor
namespace Go.Proofs.YtjmpfihopeohbaaGreatDoor
open Go.RowKit Go.Sort
namespace Pw
open Cls Pt Tr Pr
open Ps (ND)
structure KidsR (M:Nat) (ks:NL):Prop where
 ok:NL.okN ks true = true
 m:4 * ks.size + 3 < M
 r:∀ x ∈ ofN ks,∃ D,W x D
theorem KidsR.pos {M:Nat} {ks:NL} (h:KidsR M ks):0 < M:=Nat.lt_of_le_of_lt (Nat.zero_le _) h.m
theorem KidsR.at {M:Nat} {l r ks cs:NL} {k:Int} {nm:ByteArray} {g:Bool} {az:List (ByteArray × PL)} {ws:List PL} {bs:List Bool} {n:Nat} (h:KidsR M l) (hd:l.drop n = .node k nm g az ws ks bs cs r):msr (.node ⟨k,nm,g,az,ws,ks,bs,cs⟩) < M∧PcR (.node ⟨k,nm,g,az,ws,ks,bs,cs⟩) :=
 ⟨by have:=size_drop hd;have:=h.m;simp only [msr];omega,h.r _ (ofN_drop h.ok hd)⟩
theorem list_any (w0:World) (M:Nat) (hW:WriteAt w0 M) (k:Int) (nm:ByteArray) (g:Bool) (ks:NL) (bs:List Bool) (n1 n2 n5:Nat) (a1 c1 a2 c2 a3 c3 a4 c4 a5 c5) (acc:T) (w:World)
  (hR:KidsR M ks) (hbl:ks.len = bs.length) (hk:NLies w0 a3 c3 ks) (hb:Sl 1 (PB w0) a4 c4 bs) (ho:Out w0 acc w) (hl:acc.length + (itemsT (txt ks) bs).length≤400000) :
  Calls Tryz.prog 61 #[.pointer (some ⟨w0.heap.size,0,none⟩),.agg #[.int .i64 k,.string nm,.bool g,.slice a1 n1 c1,.slice a2 n2 c2,.slice a3 ks.len c3,.slice a4 bs.length c4,.slice a5 n5 c5]] w (Wrote w0.heap.size (acc ++ itemsT (txt ks) bs) w):=by
 have HW:=Lib.hid hW;have HR:=Lib.hid hR;have HKS:=Lib.hid hk;have HBS:=Lib.hid hb;have HO:=Lib.hid ho;have HL:=Lib.hid hl;have hle:=hk.le;have hle2:=hb.le;have HBL:=Lib.hid hbl;clear hW hR hk hb ho hl hbl;unfold Wrote;go_enter Tryz.func61,Tryz.ntmps61;go_wp2;have hrow:=heap_new' w (Cells k nm g a1 n1 c1 a2 n2 c2 a3 ks.len c3 a4 bs.length c4 a5 n5 c5);have hk0:Pb.Kept w0.heap.size w (w.alloc (Cells k nm g a1 n1 c1 a2 n2 c2 a3 ks.len c3 a4 bs.length c4 a5 n5 c5)):=Pb.Kept.of_below (bel1 _ _) (Nat.le_of_lt HO.out.is.lt);have ho1:=HO.out.below (bel1 w (Cells k nm g a1 n1 c1 a2 n2 c2 a3 ks.len c3 a4 bs.length c4 a5 n5 c5));have hlt:=HO.out.is.lt;unfold Cells at hrow hk0 ho1;generalize w.alloc (.cells #[.int .i64 k,.string nm,.bool g,.slice a1 n1 c1,.slice a2 n2 c2,.slice a3 ks.len c3,.slice a4 bs.length c4,.slice a5 n5 c5] 28) = w1 at hrow hk0 ho1 ⊢
 have HROW:=Lib.hid hrow;have HK0:=Lib.hid hk0;have HO1:=Lib.hid ho1;have HLT:=Lib.hid hlt;clear hrow hk0 ho1 hlt
 go_loopw [10] (fun i wr=>∃ (n:Nat) (acc':T),n≤ks.len∧i = .int .i64 n∧Out w0 acc' wr∧acc ++ itemsT (txt ks) bs = acc' ++ itemsT (txt (ks.drop n)) (bs.drop n)∧Pb.Kept w0.heap.size w1 wr) (fun i wr=>ks.len - (intOf i).toNat)
 case atStart=>exact ⟨0,acc,Nat.zero_le _,rfl,HO1.out,rfl,Pb.Kept.refl _ _⟩
 case round =>
  obtain ⟨n,acc',hn,rfl,hi,htx,hkp⟩:=hrel;have HI:=Lib.hid hi;have HT:=Lib.hid htx;have HK:=Lib.hid hkp;clear hi htx hkp
  by_cases hlt:n < ks.len
  ·have hltb:n < bs.length:=by have:=HBL.out;omega
   obtain ⟨b,hp⟩:∃ b,bs[n]? = some b:=⟨_,List.getElem?_eq_getElem hltb⟩;have hdb:bs.drop n = b :: bs.drop (n + 1):=by
    rw [List.drop_eq_getElem_cons hltb];rw [List.getElem?_eq_getElem hltb] at hp;injection hp with hp;rw [hp]
   obtain ⟨b4,o4,rfl,hc4⟩:=HBS.out.get hp;rw [Nat.mul_one] at hc4;obtain ⟨k1,nm1,g1,az1,ws1,ks1,bs1,cz1,r,hd1⟩:=NL.drop_node hlt HR.out.ok;obtain ⟨b1,o1,rfl,hb1,x11,d11,x12,d12,x13,d13,x14,d14,x15,d15,hc1,hh1⟩:=HKS.out.getN HR.out.ok hd1;have hb8:=HI.out.b;have c10:wr.cell? ⟨b1,o1 + n * 8,none⟩ = some (.int .i64 k1):=cell_below hb8 (hc1 0 _ rfl);have c11:wr.cell? ⟨b1,o1 + n * 8 + 1,none⟩ = some (.string nm1):=cell_below hb8 (hc1 1 _ rfl);have c12:wr.cell? ⟨b1,o1 + n * 8 + 2,none⟩ = some (.bool g1):=cell_below hb8 (hc1 2 _ rfl);have c13:wr.cell? ⟨b1,o1 + n * 8 + 3,none⟩ = some (.slice x11 az1.length d11):=cell_below hb8 (hc1 3 _ rfl);have c14:wr.cell? ⟨b1,o1 + n * 8 + 4,none⟩ = some (.slice x12 ws1.length d12):=cell_below hb8 (hc1 4 _ rfl);have c15:wr.cell? ⟨b1,o1 + n * 8 + 5,none⟩ = some (.slice x13 ks1.len d13):=cell_below hb8 (hc1 5 _ rfl);have c16:wr.cell? ⟨b1,o1 + n * 8 + 6,none⟩ = some (.slice x14 bs1.length d14):=cell_below hb8 (hc1 6 _ rfl);have c17:wr.cell? ⟨b1,o1 + n * 8 + 7,none⟩ = some (.slice x15 cz1.len d15):=cell_below hb8 (hc1 7 _ rfl);have hbA:=bel1 wr (Cells k1 nm1 g1 x11 az1.length d11 x12 ws1.length d12 x13 ks1.len d13 x14 bs1.length d14 x15 cz1.len d15);have hrow:=row_kept HROW.out HLT.out HK.out;have r6':wr.cell? ⟨w.heap.size,6,none⟩ = some (.slice (some ⟨b4,o4,none⟩) bs.length c4):=Lib.cell_of_heap hrow 6;have r6:=cell_below hbA r6';have b4':=cell_below (HI.out.b.trans (Pb.Kept.of_below hbA (Nat.le_of_lt HI.out.is.lt)).1) hc4;unfold Cells at r6 b4';have hT:acc ++ itemsT (txt ks) bs = (acc' ++ (tx ⟨k1,nm1,g1,az1,ws1,ks1,bs1,cz1⟩ ++ (if b then [32,38,32] else [59,32]))) ++ itemsT (txt (ks.drop (n + 1))) (bs.drop (n + 1)):=by
    rw [HT.out,NL.drop_succN hd1,hd1,hdb];simp only [txt,itemsT,List.append_assoc];rfl
   have hlC:=congrArg List.length hT;have hlA:=HL.out;simp only [List.length_append] at hlC;have hCall:=write_two HW.out (.node ⟨k1,nm1,g1,az1,ws1,ks1,bs1,cz1⟩) (.str ⟨(if b then [32,38,32] else [59,32]:T).toArray⟩) _ _ acc' (wr.alloc (Cells k1 nm1 g1 x11 az1.length d11 x12 ws1.length d12 x13 ks1.len d13 x14 bs1.length d14 x15 cz1.len d15)) (HR.out.at hd1) ⟨by have:=HR.out.m;simp only [msr];omega,trivial⟩ ⟨_,_,_,_,_,_,_,_,_,_,rfl,hh1⟩ rfl (HI.out.below hbA) (by simp only [pcT];omega);have hsz1:(wr.alloc (Cells k1 nm1 g1 x11 az1.length d11 x12 ws1.length d12 x13 ks1.len d13 x14 bs1.length d14 x15 cz1.len d15)).heap.size = wr.heap.size + 1:=by simp
   rw [hsz1] at hCall;have HCALL:=Lib.hid (hCall.mono fun _ _ h=>Wrote.from h (bel1 _ _) HI.out.is.lt);have HT2:=Lib.hid hT;unfold nodeV Cells at HCALL;clear hCall hT hc1 hh1 hd1 hdb hp hlA hlC hsz1 hc4 hb8 hbA hrow r6';cases b
   ·go_wp2_with (go_at_call 19;refine (HCALL.out).mono ?_;rintro e w2 ⟨rfl,h3,h4⟩);have H3:=Lib.hid h3;have H4:=Lib.hid h4;clear h3 h4;go_roundw
    case rel=>exact ⟨n + 1,_,by omega,by go_num,HI.out.kept H3.out H4.out,HT2.out,HK.out.trans H4.out⟩
    case measure=>simp [intOf];omega
   ·go_wp2_with (go_at_call 19;refine (HCALL.out).mono ?_;rintro e w2 ⟨rfl,h3,h4⟩);have H3:=Lib.hid h3;have H4:=Lib.hid h4;clear h3 h4;go_roundw
    case rel=>exact ⟨n + 1,_,by omega,by go_num,HI.out.kept H3.out H4.out,HT2.out,HK.out.trans H4.out⟩
    case measure=>simp [intOf];omega
  ·obtain rfl:n = ks.len:=by omega
   go_wp2;go_end0;refine ⟨rfl,?_,HK0.out.trans HK.out⟩;rw [HT.out,NL.drop_end (Nat.le_refl _)];simpa [txt,itemsT] using HI.out.is
end Pw
end Go.Proofs.YtjmpfihopeohbaaGreatDoor
