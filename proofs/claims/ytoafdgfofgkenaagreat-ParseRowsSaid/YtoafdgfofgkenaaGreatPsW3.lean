/- parseAlive. -/
/- The walk of ParseRows. -/
import Derived.Test.YtoafdgfofgkenaaGreatPsPb
import Derived.Test.YtoafdgfofgkenaaGreatPsV3
import Derived.Test.YtoafdgfofgkenaaGreatPsW2
import Derived.Test.YtoafdgfofgkenaaGreatRtN
import Derived.Test.YtoafdgfofgkenaaGreatRegN
import Derived.Deep.CutBlock
import Derived.Deep.CutRange
namespace Go.Proofs.YtoafdgfofgkenaaGreat
open Go.RowKit Go.Sort
namespace Ps
open Cls Pt Tr Sp Lx
def badB {T:Type} (r:Rs T) (i e:Nat):Bool:=match r with
 | .bad j f=>i == j && e == f
 | .ok _ _=>false
def kidsB (r:Rs ND) (n:Nat):Bool:=match r with
 | .bad _ _=>false
 | .ok x _=>x.ks.len == n
theorem badB_eq {T:Type} {r:Rs T} {i e:Nat} (h:badB r i e = true):r = .bad i e:=by
 cases r with
 | bad j f=>simp only [badB,Bool.and_eq_true,beq_iff_eq] at h;rw [h.1,h.2]
 | ok _ _=>cases h
theorem kidsB_eq {r:Rs ND} {n:Nat} (h:kidsB r n = true):∃ x q,r = .ok x q∧x.ks.len = n:=by
 cases r with
 | bad j f=>cases h
 | ok x q=>exact ⟨x,q,rfl,by simpa [kidsB] using h⟩
theorem alive1:badB (parseF ⟨#[97,32,38,38]⟩) 4 1 = true:=by kernel_rfl
theorem alive2:badB (parseF ⟨#[105,102,32,97,59,32,102,105]⟩) 6 1 = true:=by kernel_rfl
theorem alive3:kidsB (parseF ⟨#[97]⟩) 1 = true:=by kernel_rfl
set_option maxHeartbeats 1600000 in
set_option maxRecDepth 100000 in
theorem parseAlive_any (m:Int) (w:World) (hm:w.cell? ⟨0,0,none⟩ = some (.int .i64 m)) :
  Calls Tryz.prog 15 #[] w fun e w'=>e = .returned (.bool true)∧Below w.heap.size w w':=by
 have h1:=fun w' (hb:Below w.heap.size w w')=>parse_any ⟨#[97,32,38,38]⟩ (by decide) m w' (cell_below hb hm)
 have h2:=fun w' (hb:Below w.heap.size w w')=>parse_any ⟨#[105,102,32,97,59,32,102,105]⟩ (by decide) m w' (cell_below hb hm)
 have h3:=fun w' (hb:Below w.heap.size w w')=>parse_any ⟨#[97]⟩ (by decide) m w' (cell_below hb hm)
 rw [badB_eq alive1] at h1
 rw [badB_eq alive2] at h2
 obtain ⟨x,q,hx,hl⟩:=kidsB_eq alive3
 rw [hx] at h3
 have H1:=Lib.hid h1;have H2:=Lib.hid h2;have H3:=Lib.hid h3;have HL:=Lib.hid hl
 clear h1 h2 h3 hx hm hl
 go_enter Tryz.func15,Tryz.ntmps15
 go_wp2_with fail
 refine (H1.out _ (Below.refl _ _)).mono ?_
 rintro e w1 ⟨hb1,rfl⟩
 have HB1:=Lib.hid hb1
 clear hb1
 go_wp2_with fail
 refine (H2.out _ (thru HB1.out (bel1 _ _))).mono ?_
 rintro e w2 ⟨hb2,rfl⟩
 have HB2:=Lib.hid (thru HB1.out (thru (bel1 _ _) hb2))
 clear hb2
 go_wp2_with fail
 refine (H3.out _ (thru HB2.out (bel1 _ _))).mono ?_
 rintro e w3 ⟨hb3,a1,c1,a2,c2,a3,c3,a4,c4,a5,c5,rfl,hh⟩
 have HB3:=Lib.hid (thru HB2.out (thru (bel1 _ _) hb3))
 have hv:(nvs x a1 c1 a2 c2 a3 c3 a4 c4 a5 c5).toArray = #[.int .i64 x.k,.string x.nm,.bool x.g,.slice a1 x.az.length c1,.slice a2 x.ws.length c2,.slice a3 x.ks.len c3,.slice a4 x.bs.length c4,.slice a5 x.cz.len c5]:=rfl
 rw [hv,HL.out]
 clear hb3 hh hv
 go_wp2_with fail
 go_ret
 exact ⟨rfl,thru HB3.out (bel1 _ _)⟩
end Ps
end Go.Proofs.YtoafdgfofgkenaaGreat
namespace Go.Proofs.YtoafdgfofgkenaaGreat
open Go.RowKit Go.Sort
namespace Ps
open Cls Pt Tr Sp Lx
theorem eqL_rf {T:Type} {p:T→T→Bool} (h:∀ x,p x x = true):∀ l:List T,eqL p l l = true
 | []=>rfl
 | x :: r=>by simp only [eqL,h x,eqL_rf h r,Bool.and_true]
theorem same_rf:∀ l:PL,same l l = true
 | .nil=>rfl
 | .cons k q t o f r=>by simp [same,same_rf f,same_rf r]
theorem sameN_rf:∀ l:NL,sameN l l = true
 | .nil=>rfl
 | .node k nm g az ws ks bs cz r=>by
  simp [sameN,sameN_rf ks,sameN_rf cz,sameN_rf r,eqL_rf same_rf,eqL_rf (p:=sameA) (fun x=>by simp [sameA,same_rf]),eqL_rf (p:=((· == ·):Bool→Bool→Bool)) (fun x=>by simp)]
 | .cse ps b r=>by simp [sameN,sameN_rf b,sameN_rf r,eqL_rf same_rf]
theorem nodeEq_rf (k:Int) (nm:ByteArray) (g:Bool) (az:List (ByteArray × PL)) (ws:List PL) (ks:NL) (bs:List Bool) (cz:NL):nodeEq k nm g az ws ks bs cz k nm g az ws ks bs cz = true:=by
 simp [nodeEq,sameN_rf,eqL_rf same_rf,eqL_rf (p:=sameA) (fun x=>by simp [sameA,same_rf]),eqL_rf (p:=((· == ·):Bool→Bool→Bool)) (fun x=>by simp)]
theorem wantI {c A B:Prop} [Decidable c] (hc:c) (h:A):if c then A else B:=by rw [if_pos hc];exact h
theorem tok_some {s:ByteArray} {o:Tok}:∀ (n i:Nat),i≤s.size→o ∈ scanF n s i→∃ j,j≤s.size∧o = tokAt s j
 | 0,_,_,hm=>by cases hm
 | n + 1,i,hi,hm=>by
  rw [scanF] at hm
  rcases List.mem_cons.1 hm with rfl | hm
  ·exact ⟨i,hi,rfl⟩
  ·cases hst:stopT (tokAt s i)
   ·rw [hst,if_neg (by decide)] at hm
    have hg:=(tok_good s i hi).2.2.2.2 hst
    exact tok_some n _ hg.2.2 hm
   ·rw [hst,if_pos rfl] at hm
    cases hm
theorem got_any {w w':World} {r:Rs ND} {e:Ending} (h:GotPa w r e w'):Below w.heap.size w w'∧∃ (k:Int) (nm:ByteArray) (g:Bool) (a1:Option Addr) (n1 c1:Nat) (a2:Option Addr) (n2 c2:Nat) (a3:Option Addr) (n3 c3:Nat) (a4:Option Addr) (n4 c4:Nat) (a5:Option Addr) (n5 c5:Nat) (i er:Int),
  e = .returned (.tuple #[.agg #[.int .i64 k,.string nm,.bool g,.slice a1 n1 c1,.slice a2 n2 c2,.slice a3 n3 c3,.slice a4 n4 c4,.slice a5 n5 c5],.int .i64 i,.int .i64 er]):=by
 obtain ⟨hb,h⟩:=h
 cases r with
 | ok x q =>
  obtain ⟨a1,c1,a2,c2,a3,c3,a4,c4,a5,c5,he,_⟩:=h
  exact ⟨hb,_,_,_,_,_,_,_,_,_,_,_,_,_,_,_,_,_,_,_,_,he⟩
 | bad i er=>exact ⟨hb,_,_,_,_,_,_,_,_,_,_,_,_,_,_,_,_,_,_,_,_,h⟩
theorem got_bad {w w':World} {i er:Nat} {e:Ending} (h:GotPa w (.bad i er) e w'):Below w.heap.size w w'∧e = .returned (.tuple #[.agg #[.int .i64 0,.string ⟨#[]⟩,.bool false,.slice none 0 0,.slice none 0 0,.slice none 0 0,.slice none 0 0,.slice none 0 0],.int .i64 i,.int .i64 er]):=h
theorem got_list {w w':World} {K:List ND} {B:List Bool} {q:Tok} {e:Ending} (h:GotPa w (.ok (listD K B) q) e w'):Below w.heap.size w w'∧∃ a1 c1 a2 c2 a3 c3 a4 c4 a5 c5,
  e = .returned (.tuple #[.agg #[.int .i64 5,.string ⟨#[]⟩,.bool false,.slice a1 0 c1,.slice a2 0 c2,.slice a3 K.length c3,.slice a4 B.length c4,.slice a5 0 c5],.int .i64 0,.int .i64 0])∧Holds w' ⟨#[]⟩ [] [] (toN K) B .nil a1 c1 a2 c2 a3 c3 a4 c4 a5 c5:=by
 obtain ⟨hb,a1,c1,a2,c2,a3,c3,a4,c4,a5,c5,he,hh⟩:=h
 refine ⟨hb,a1,c1,a2,c2,a3,c3,a4,c4,a5,c5,?_,hh⟩
 rw [he,← toN_len K]
 rfl
set_option maxHeartbeats 20000000 in
set_option maxRecDepth 100000 in
theorem rows_law (a b:ByteArray) (hsa:a.size≤9223372036854775807) (hsb:b.size≤9223372036854775807) (m:Int) (w:World) (hm:w.cell? ⟨0,0,none⟩ = some (.int .i64 m)) :
  Calls Tryz.prog 5 #[.string a,.string b] w fun e w'=>e = .returned (.bool true)∧Below w.heap.size w w':=by
 have HAL:=Lib.hid (parseAlive_any m w hm)
 by_cases h2:1500 < a.size
 ·clear hm
  go_enter Tryz.func5,Tryz.ntmps5
  go_wp2_with fail
  refine HAL.out.mono ?_
  rintro e w1 ⟨rfl,hb1⟩
  go_wp2_with fail
  go_ret
  exact ⟨rfl,hb1⟩
 by_cases h3:1500 < b.size
 ·clear hm
  go_enter Tryz.func5,Tryz.ntmps5
  go_wp2_with fail
  refine HAL.out.mono ?_
  rintro e w1 ⟨rfl,hb1⟩
  go_wp2_with fail
  go_ret
  exact ⟨rfl,hb1⟩
 have hPa:=fun w' (hb:Below w.heap.size w w')=>parse_any a (by omega) m w' (cell_below hb hm)
 have hPb:=fun w' (hb:Below w.heap.size w w')=>parse_any b (by omega) m w' (cell_below hb hm)
 have hPs:=fun w' (hb:Below w.heap.size w w')=>parse_any ((a ++ ⟨#[10]⟩) ++ b) (by rw [ByteArray.size_append,ByteArray.size_append,show (⟨#[10]⟩:ByteArray).size = 1 from rfl];omega) m w' (cell_below hb hm)
 cases hpa:parseF a with
 | bad i er =>
  have her:=((parse_e a).1 i er hpa).1
  rw [hpa] at hPa
  have hne:((er:Int) != 0) = true:=by simp;omega
  have HPA:=Lib.hid hPa;have HPB:=Lib.hid hPb;have HPS:=Lib.hid hPs
  clear hPa hPb hPs hm hpa her
  go_enter Tryz.func5,Tryz.ntmps5
  go_wp2_with fail
  refine HAL.out.mono ?_
  rintro e w1 ⟨rfl,hb1⟩
  have HB1:=Lib.hid hb1
  clear hb1
  go_wp2_with fail
  refine (HPA.out _ HB1.out).mono ?_
  intro e w2 hg
  obtain ⟨hb2,rfl⟩:=got_bad hg
  have HB2:=Lib.hid (thru HB1.out hb2)
  clear hb2 hg
  go_wp2_with fail
  refine (HPB.out _ (thru HB2.out (bel1 _ _))).mono ?_
  intro e w3 hg
  obtain ⟨hb3,qk,qnm,qg,qa1,qn1,qc1,qa2,qn2,qc2,qa3,qn3,qc3,qa4,qn4,qc4,qa5,qn5,qc5,i3,e3,rfl⟩:=got_any hg
  have HB3:=Lib.hid (thru HB2.out (thru (bel1 _ _) hb3))
  clear hb3 hg
  go_wp2_with fail
  refine (HPS.out _ (thru HB3.out (bel1 _ _))).mono ?_
  intro e w4 hg
  obtain ⟨hb4,tk,tnm,tg,ta1,tn1,tc1,ta2,tn2,tc2,ta3,tn3,tc3,ta4,tn4,tc4,ta5,tn5,tc5,i4,e4,rfl⟩:=got_any hg
  have HB4:=Lib.hid (thru HB3.out (thru (bel1 _ _) hb4))
  clear hb4 hg
  go_wp2_with fail
  go_ret
  exact ⟨rfl,thru HB4.out (bel1 _ _)⟩
 | ok x q =>
  obtain ⟨hr1,hr2⟩:=rows_pure a b _ rfl hpa
  rw [hpa] at hPa
  cases hpb:parseF b with
  | bad i er =>
   have hE:=(parse_e b).1 i er hpb
   have her:=hE.1
   have hib:i≤b.size:=by
    obtain ⟨o,ho,hi⟩:=hE.2
    obtain ⟨j,hj,rfl⟩:=tok_some _ _ (Nat.zero_le _) ho
    rw [← hi]
    exact (tok_good b j hj).2.1
   rw [hr1 i er hpb] at hPs
   rw [hpb] at hPb
   have hne:((er:Int) != 0) = true:=by simp;omega
   have heq:((er:Int) == (er:Int)) = true:=by simp
   have hpos:(((a.size + 1 + i:Nat):Int) == (i:Int) + (a.size:Int) + 1) = true:=by rw [beq_iff_eq];omega
   generalize (a.size + 1 + i:Nat) = pos at hpos hPs
   have HPA:=Lib.hid hPa;have HPB:=Lib.hid hPb;have HPS:=Lib.hid hPs
   clear hPa hPb hPs hm hpa her hr1 hr2 hpb hE
   go_enter Tryz.func5,Tryz.ntmps5
   go_wp2_with fail
   refine HAL.out.mono ?_
   rintro e w1 ⟨rfl,hb1⟩
   have HB1:=Lib.hid hb1
   clear hb1
   go_wp2_with fail
   refine (HPA.out _ HB1.out).mono ?_
   rintro e w2 ⟨hb2,a1,c1,a2,c2,a3,c3,a4,c4,a5,c5,rfl,_⟩
   have hv:(nvs x a1 c1 a2 c2 a3 c3 a4 c4 a5 c5).toArray = #[.int .i64 x.k,.string x.nm,.bool x.g,.slice a1 x.az.length c1,.slice a2 x.ws.length c2,.slice a3 x.ks.len c3,.slice a4 x.bs.length c4,.slice a5 x.cz.len c5]:=rfl
   rw [hv]
   have HB2:=Lib.hid (thru HB1.out hb2)
   clear hb2 hv
   go_wp2_with fail
   refine (HPB.out _ (thru HB2.out (bel1 _ _))).mono ?_
   intro e w3 hg
   obtain ⟨hb3,rfl⟩:=got_bad hg
   have HB3:=Lib.hid (thru HB2.out (thru (bel1 _ _) hb3))
   clear hb3 hg
   go_wp2_with fail
   refine (HPS.out _ (thru HB3.out (bel1 _ _))).mono ?_
   intro e w4 hg
   obtain ⟨hb4,rfl⟩:=got_bad hg
   have HB4:=Lib.hid (thru HB3.out (thru (bel1 _ _) hb4))
   clear hb4 hg
   go_wp2_with fail
   go_ret
   exact ⟨rfl,thru HB4.out (bel1 _ _)⟩
  | ok y p =>
   obtain ⟨xK,xB,yK,yB,q',rfl,rfl,hps⟩:=hr2 y p hpb
   rw [hpb] at hPb
   rw [hps] at hPs
   have hfa:=parse_cnt hpa
   have hfb:=parse_cnt hpb
   unfold fuelP at hfa hfb
   simp only [listD,toN_len] at hfa hfb
   have hxl:xK.length≤40000:=by omega
   have hyl:yK.length≤40000:=by omega
   have hxb:xB.length≤40000:=by omega
   have hyb:yB.length≤40000:=by omega
   have HPA:=Lib.hid hPa;have HPB:=Lib.hid hPb;have HPS:=Lib.hid hPs
   clear hPa hPb hPs hm hpa hr1 hr2 hpb hps hfa hfb
   go_enter Tryz.func5,Tryz.ntmps5
   go_wp2_with fail
   refine HAL.out.mono ?_
   rintro e w1 ⟨rfl,hb1⟩
   have HB1:=Lib.hid hb1
   clear hb1
   go_wp2_with fail
   refine (HPA.out _ HB1.out).mono ?_
   intro e w2 hg
   obtain ⟨hb2,x1,xd1,x2,xd2,x3,xd3,x4,xd4,x5,xd5,rfl,hx⟩:=got_list hg
   have HB2:=Lib.hid (thru HB1.out hb2);have HX:=Lib.hid hx
   clear hb2 hg hx
   go_wp2_with fail
   refine (HPB.out _ (thru HB2.out (bel1 _ _))).mono ?_
   intro e w3 hg
   obtain ⟨hb3,y1,yd1,y2,yd2,y3,yd3,y4,yd4,y5,yd5,rfl,hy⟩:=got_list hg
   have hrx:=(hb3.block _ (by simp)).trans (heap_alloc_new w2 (.cells #[.int .i64 5,.string ⟨#[]⟩,.bool false,.slice x1 0 xd1,.slice x2 0 xd2,.slice x3 xK.length xd3,.slice x4 xB.length xd4,.slice x5 0 xd5] 28))
   have HB3:=Lib.hid (thru HB2.out (thru (bel1 _ _) hb3));have HY:=Lib.hid hy;have HRX:=Lib.hid hrx
   have HX3:=Lib.hid (HX.out.below (thru (bel1 _ (.cells #[.int .i64 5,.string ⟨#[]⟩,.bool false,.slice x1 0 xd1,.slice x2 0 xd2,.slice x3 xK.length xd3,.slice x4 xB.length xd4,.slice x5 0 xd5] 28)) hb3))
   clear hb3 hg hy hrx
   go_wp2_with fail
   refine (HPS.out _ (thru HB3.out (bel1 _ _))).mono ?_
   intro e w4 hg
   have hg2:=got_list hg
   rw [List.length_append,List.length_append] at hg2
   obtain ⟨hb4,z1,zd1,z2,zd2,z3,zd3,z4,zd4,z5,zd5,rfl,hz⟩:=hg2
   have hry:=(hb4.block _ (by simp)).trans (heap_alloc_new w3 (.cells #[.int .i64 5,.string ⟨#[]⟩,.bool false,.slice y1 0 yd1,.slice y2 0 yd2,.slice y3 yK.length yd3,.slice y4 yB.length yd4,.slice y5 0 yd5] 28))
   have hb34:=thru (bel1 w3 (.cells #[.int .i64 5,.string ⟨#[]⟩,.bool false,.slice y1 0 yd1,.slice y2 0 yd2,.slice y3 yK.length yd3,.slice y4 yB.length yd4,.slice y5 0 yd5] 28)) hb4
   have HRX4:=Lib.hid ((hb34.block _ (Array.getElem?_eq_some_iff.1 HRX.out).1).trans HRX.out)
   have HX4:=Lib.hid (HX3.out.below hb34);have HY4:=Lib.hid (HY.out.below hb34)
   have HB4:=Lib.hid (thru HB3.out hb34);have HZ:=Lib.hid hz;have HRY:=Lib.hid hry
   clear hb4 hg hz hry hb34 HX HX3 HY HRX
   go_upto_region 12 with fail
   have hb5:=bel1 w4 (.cells #[.int .i64 5,.string ⟨#[]⟩,.bool false,.slice z1 0 zd1,.slice z2 0 zd2,.slice z3 (xK.length + yK.length) zd3,.slice z4 (xB.length + yB.length) zd4,.slice z5 0 zd5] 28)
   have hrz:=heap_alloc_new w4 (.cells #[.int .i64 5,.string ⟨#[]⟩,.bool false,.slice z1 0 zd1,.slice z2 0 zd2,.slice z3 (xK.length + yK.length) zd3,.slice z4 (xB.length + yB.length) zd4,.slice z5 0 zd5] 28)
   have HRX5:=Lib.hid ((hb5.block _ (Array.getElem?_eq_some_iff.1 HRX4.out).1).trans HRX4.out);have HRY5:=Lib.hid ((hb5.block _ (Array.getElem?_eq_some_iff.1 HRY.out).1).trans HRY.out);have HRZ:=Lib.hid hrz
   have HX5:=Lib.hid (HX4.out.below hb5);have HY5:=Lib.hid (HY4.out.below hb5);have HZ5:=Lib.hid (HZ.out.below hb5);have HB5:=Lib.hid (thru HB4.out hb5)
   clear hb5 hrz HX4 HY4 HZ HB4 HRX4 HRY
   generalize (w4.alloc (.cells #[.int .i64 5,.string ⟨#[]⟩,.bool false,.slice z1 0 zd1,.slice z2 0 zd2,.slice z3 (xK.length + yK.length) zd3,.slice z4 (xB.length + yB.length) zd4,.slice z5 0 zd5] 28)) = W0 at HRX5 HRY5 HRZ HX5 HY5 HZ5 HB5 ⊢
   go_cut [14] from 62 to 77 (fun s14 wx=>∃ nb,s14 = .pointer (some ⟨nb,0,none⟩)∧Fin W0 wx nb xK yK xB yB)
   case first =>
    obtain ⟨cax,hcax⟩:=copy_of each_node (sl_toN HX5.out.hks HX5.out.okk)
    obtain ⟨cay,hcay⟩:=copy_of each_node (sl_toN HY5.out.hks HY5.out.okk)
    obtain ⟨cbx,hcbx⟩:=copy_of each_bool HX5.out.hbs
    obtain ⟨cby,hcby⟩:=copy_of each_bool HY5.out.hbs
    have CAX:=Lib.hid hcax;have CAY:=Lib.hid hcay;have CBX:=Lib.hid hcbx;have CBY:=Lib.hid hcby
    obtain ⟨S,hSd⟩:∃ S:World→Prop,S = fun w'=>w'.heap[w2.heap.size]? = some (.cells #[.int .i64 5,.string ⟨#[]⟩,.bool false,.slice x1 0 xd1,.slice x2 0 xd2,.slice x3 xK.length xd3,.slice x4 xB.length xd4,.slice x5 0 xd5] 28 (0,0))∧w'.heap[w3.heap.size]? = some (.cells #[.int .i64 5,.string ⟨#[]⟩,.bool false,.slice y1 0 yd1,.slice y2 0 yd2,.slice y3 yK.length yd3,.slice y4 yB.length yd4,.slice y5 0 yd5] 28 (0,0)):=⟨_,rfl⟩
    have hSB:∀ w',Below W0.heap.size W0 w'→S w':=fun w' hb=>by rw [hSd];exact ⟨(hb.block _ (Array.getElem?_eq_some_iff.1 HRX5.out).1).trans HRX5.out,(hb.block _ (Array.getElem?_eq_some_iff.1 HRY5.out).1).trans HRY5.out⟩
    have hS1:∀ w',S w'→w'.heap[w2.heap.size]? = some (.cells #[.int .i64 5,.string ⟨#[]⟩,.bool false,.slice x1 0 xd1,.slice x2 0 xd2,.slice x3 xK.length xd3,.slice x4 xB.length xd4,.slice x5 0 xd5] 28 (0,0))∧w'.heap[w3.heap.size]? = some (.cells #[.int .i64 5,.string ⟨#[]⟩,.bool false,.slice y1 0 yd1,.slice y2 0 yd2,.slice y3 yK.length yd3,.slice y4 yB.length yd4,.slice y5 0 yd5] 28 (0,0)):=fun w' h=>by rw [hSd] at h;exact h
    have HSB:=Lib.hid hSB;have HS1:=Lib.hid hS1
    clear hcax hcay hcbx hcby hSd hSB hS1
    refine RN.begins S [16] (by kernel_rfl) ?_
    have hbd:Below W0.heap.size W0 W0.drew:=(Below.refl _ _).drew
    have hS:=HSB.out _ hbd
    refine RN.take (i:=1) (v:=?_) rfl (by decide) (by kernel_rfl) (by kernel_rfl) (by kernel_rfl) (by kernel_rfl) (by kernel_rfl) (by first | exact fun _ _ _ h=>h | exact fun _ _ _ h=>(by cases h.1) | exact fun _ _ _ h=>door_put (by decide) h) (.inl ⟨by rfl,?_⟩) hS ?_
    rotate_left 1
    ·(intro wq hq;have sx3:wq.cell? ⟨w2.heap.size,5,none⟩ = some (.slice x3 xK.length xd3):=Lib.cell_of_heap (HS1.out _ hq).1 5;have sx4:wq.cell? ⟨w2.heap.size,6,none⟩ = some (.slice x4 xB.length xd4):=Lib.cell_of_heap (HS1.out _ hq).1 6;have sy3:wq.cell? ⟨w3.heap.size,5,none⟩ = some (.slice y3 yK.length yd3):=Lib.cell_of_heap (HS1.out _ hq).2 5;have sy4:wq.cell? ⟨w3.heap.size,6,none⟩ = some (.slice y4 yB.length yd4):=Lib.cell_of_heap (HS1.out _ hq).2 6;go_simp;try with_reducible rfl)
    refine RN.take (i:=2) (v:=?_) rfl (by decide) (by kernel_rfl) (by kernel_rfl) (by kernel_rfl) (by kernel_rfl) (by kernel_rfl) (by first | exact fun _ _ _ h=>h | exact fun _ _ _ h=>(by cases h.1) | exact fun _ _ _ h=>door_put (by decide) h) (.inl ⟨by rfl,?_⟩) hS ?_
    rotate_left 1
    ·(intro wq hq;have sx3:wq.cell? ⟨w2.heap.size,5,none⟩ = some (.slice x3 xK.length xd3):=Lib.cell_of_heap (HS1.out _ hq).1 5;have sx4:wq.cell? ⟨w2.heap.size,6,none⟩ = some (.slice x4 xB.length xd4):=Lib.cell_of_heap (HS1.out _ hq).1 6;have sy3:wq.cell? ⟨w3.heap.size,5,none⟩ = some (.slice y3 yK.length yd3):=Lib.cell_of_heap (HS1.out _ hq).2 5;have sy4:wq.cell? ⟨w3.heap.size,6,none⟩ = some (.slice y4 yB.length yd4):=Lib.cell_of_heap (HS1.out _ hq).2 6;go_simp;try with_reducible rfl)
    refine RN.take (i:=4) (v:=?_) rfl (by decide) (by kernel_rfl) (by kernel_rfl) (by kernel_rfl) (by kernel_rfl) (by kernel_rfl) (by first | exact fun _ _ _ h=>h | exact fun _ _ _ h=>(by cases h.1) | exact fun _ _ _ h=>door_put (by decide) h) (.inl ⟨by rfl,?_⟩) hS ?_
    rotate_left 1
    ·(intro wq hq;have sx3:wq.cell? ⟨w2.heap.size,5,none⟩ = some (.slice x3 xK.length xd3):=Lib.cell_of_heap (HS1.out _ hq).1 5;have sx4:wq.cell? ⟨w2.heap.size,6,none⟩ = some (.slice x4 xB.length xd4):=Lib.cell_of_heap (HS1.out _ hq).1 6;have sy3:wq.cell? ⟨w3.heap.size,5,none⟩ = some (.slice y3 yK.length yd3):=Lib.cell_of_heap (HS1.out _ hq).2 5;have sy4:wq.cell? ⟨w3.heap.size,6,none⟩ = some (.slice y4 yB.length yd4):=Lib.cell_of_heap (HS1.out _ hq).2 6;go_simp;try with_reducible rfl)
    refine RN.take (i:=5) (v:=?_) rfl (by decide) (by kernel_rfl) (by kernel_rfl) (by kernel_rfl) (by kernel_rfl) (by kernel_rfl) (by first | exact fun _ _ _ h=>h | exact fun _ _ _ h=>(by cases h.1) | exact fun _ _ _ h=>door_put (by decide) h) (.inl ⟨by rfl,?_⟩) hS ?_
    rotate_left 1
    ·(intro wq hq;have sx3:wq.cell? ⟨w2.heap.size,5,none⟩ = some (.slice x3 xK.length xd3):=Lib.cell_of_heap (HS1.out _ hq).1 5;have sx4:wq.cell? ⟨w2.heap.size,6,none⟩ = some (.slice x4 xB.length xd4):=Lib.cell_of_heap (HS1.out _ hq).1 6;have sy3:wq.cell? ⟨w3.heap.size,5,none⟩ = some (.slice y3 yK.length yd3):=Lib.cell_of_heap (HS1.out _ hq).2 5;have sy4:wq.cell? ⟨w3.heap.size,6,none⟩ = some (.slice y4 yB.length yd4):=Lib.cell_of_heap (HS1.out _ hq).2 6;go_simp;try with_reducible rfl)
    refine RN.take (i:=8) (v:=?_) rfl (by decide) (by kernel_rfl) (by kernel_rfl) (by kernel_rfl) (by kernel_rfl) (by kernel_rfl) (by first | exact fun _ _ _ h=>h | exact fun _ _ _ h=>(by cases h.1) | exact fun _ _ _ h=>door_put (by decide) h) (.inl ⟨by rfl,?_⟩) hS ?_
    rotate_left 1
    ·(intro wq hq;have sx3:wq.cell? ⟨w2.heap.size,5,none⟩ = some (.slice x3 xK.length xd3):=Lib.cell_of_heap (HS1.out _ hq).1 5;have sx4:wq.cell? ⟨w2.heap.size,6,none⟩ = some (.slice x4 xB.length xd4):=Lib.cell_of_heap (HS1.out _ hq).1 6;have sy3:wq.cell? ⟨w3.heap.size,5,none⟩ = some (.slice y3 yK.length yd3):=Lib.cell_of_heap (HS1.out _ hq).2 5;have sy4:wq.cell? ⟨w3.heap.size,6,none⟩ = some (.slice y4 yB.length yd4):=Lib.cell_of_heap (HS1.out _ hq).2 6;go_simp;try with_reducible rfl)
    refine RN.take (i:=9) (v:=?_) rfl (by decide) (by kernel_rfl) (by kernel_rfl) (by kernel_rfl) (by kernel_rfl) (by kernel_rfl) (by first | exact fun _ _ _ h=>h | exact fun _ _ _ h=>(by cases h.1) | exact fun _ _ _ h=>door_put (by decide) h) (.inl ⟨by rfl,?_⟩) hS ?_
    rotate_left 1
    ·(intro wq hq;have sx3:wq.cell? ⟨w2.heap.size,5,none⟩ = some (.slice x3 xK.length xd3):=Lib.cell_of_heap (HS1.out _ hq).1 5;have sx4:wq.cell? ⟨w2.heap.size,6,none⟩ = some (.slice x4 xB.length xd4):=Lib.cell_of_heap (HS1.out _ hq).1 6;have sy3:wq.cell? ⟨w3.heap.size,5,none⟩ = some (.slice y3 yK.length yd3):=Lib.cell_of_heap (HS1.out _ hq).2 5;have sy4:wq.cell? ⟨w3.heap.size,6,none⟩ = some (.slice y4 yB.length yd4):=Lib.cell_of_heap (HS1.out _ hq).2 6;go_simp;try with_reducible rfl)
    refine RN.take (i:=11) (v:=?_) rfl (by decide) (by kernel_rfl) (by kernel_rfl) (by kernel_rfl) (by kernel_rfl) (by kernel_rfl) (by first | exact fun _ _ _ h=>h | exact fun _ _ _ h=>(by cases h.1) | exact fun _ _ _ h=>door_put (by decide) h) (.inl ⟨by rfl,?_⟩) hS ?_
    rotate_left 1
    ·(intro wq hq;have sx3:wq.cell? ⟨w2.heap.size,5,none⟩ = some (.slice x3 xK.length xd3):=Lib.cell_of_heap (HS1.out _ hq).1 5;have sx4:wq.cell? ⟨w2.heap.size,6,none⟩ = some (.slice x4 xB.length xd4):=Lib.cell_of_heap (HS1.out _ hq).1 6;have sy3:wq.cell? ⟨w3.heap.size,5,none⟩ = some (.slice y3 yK.length yd3):=Lib.cell_of_heap (HS1.out _ hq).2 5;have sy4:wq.cell? ⟨w3.heap.size,6,none⟩ = some (.slice y4 yB.length yd4):=Lib.cell_of_heap (HS1.out _ hq).2 6;go_simp;try with_reducible rfl)
    refine RN.take (i:=12) (v:=?_) rfl (by decide) (by kernel_rfl) (by kernel_rfl) (by kernel_rfl) (by kernel_rfl) (by kernel_rfl) (by first | exact fun _ _ _ h=>h | exact fun _ _ _ h=>(by cases h.1) | exact fun _ _ _ h=>door_put (by decide) h) (.inl ⟨by rfl,?_⟩) hS ?_
    rotate_left 1
    ·(intro wq hq;have sx3:wq.cell? ⟨w2.heap.size,5,none⟩ = some (.slice x3 xK.length xd3):=Lib.cell_of_heap (HS1.out _ hq).1 5;have sx4:wq.cell? ⟨w2.heap.size,6,none⟩ = some (.slice x4 xB.length xd4):=Lib.cell_of_heap (HS1.out _ hq).1 6;have sy3:wq.cell? ⟨w3.heap.size,5,none⟩ = some (.slice y3 yK.length yd3):=Lib.cell_of_heap (HS1.out _ hq).2 5;have sy4:wq.cell? ⟨w3.heap.size,6,none⟩ = some (.slice y4 yB.length yd4):=Lib.cell_of_heap (HS1.out _ hq).2 6;go_simp;try with_reducible rfl)
    have G0:Hid (GR W0 W0.drew none none none):=Lib.hid (Gr.start _ _ _ hbd)
    clear hS hbd
    generalize W0.drew = v0 at G0 ⊢
    refine RN.all (rs:=[0,7,15]) (by kernel_rfl) (by simp) ?_
    refine RN.All.cons rfl (fun K hK=>?_) (RN.All.cons rfl (fun K hK=>?_) (RN.All.cons rfl (fun K hK=>?_) RN.All.nil))
    ·go_simp
     have G1:=Lib.hid G0.out.newA
     refine hK _ _ (fun _=>HSB.out _ G1.out.bel) ?_
     generalize (v0.alloc (.cells #[] 28)) = v1 at G1 ⊢
     clear hK K G0
     refine RN.all (rs:=[3,7,15]) (by kernel_rfl) (by simp) ?_
     refine RN.All.cons rfl (fun K hK=>?_) (RN.All.cons rfl (fun K hK=>?_) (RN.All.cons rfl (fun K hK=>?_) RN.All.nil))
     ·refine wantI (by rfl) ?_
      refine wp_A G1.out (.tmp 62) (.tmp 64) rfl rfl CAX.out rfl (by omega) ?_
      intro ra2 rn2 rc2 v2 hg2
      have G2:=Lib.hid hg2
      refine hK _ _ (fun _=>HSB.out _ G2.out.bel) ?_
      clear hK K hg2 G1
      refine RN.all (rs:=[6,7,15]) (by kernel_rfl) (by simp) ?_
      refine RN.All.cons rfl (fun K hK=>?_) (RN.All.cons rfl (fun K hK=>?_) (RN.All.cons rfl (fun K hK=>?_) RN.All.nil))
      ·refine wantI (by rfl) ?_
       refine wp_A G2.out (.tmp 65) (.tmp 67) rfl rfl CAY.out rfl (by omega) ?_
       intro ra3 rn3 rc3 v3 hg2
       have G3:=Lib.hid hg2
       refine hK _ _ (fun _=>HSB.out _ G3.out.bel) ?_
       clear hK K hg2 G2
       refine RN.all (rs:=[7,15]) (by kernel_rfl) (by simp) ?_
       refine RN.All.cons rfl (fun K hK=>?_) (RN.All.cons rfl (fun K hK=>?_) RN.All.nil)
       ·go_simp
        have G4:=Lib.hid G3.out.newB
        refine hK _ _ (fun _=>HSB.out _ G4.out.bel) ?_
        generalize (v3.alloc (.cells #[] 4)) = v4 at G4 ⊢
        clear hK K G3
        refine RN.all (rs:=[10,15]) (by kernel_rfl) (by simp) ?_
        refine RN.All.cons rfl (fun K hK=>?_) (RN.All.cons rfl (fun K hK=>?_) RN.All.nil)
        ·refine wantI (by rfl) ?_
         refine wp_B G4.out (.tmp 69) (.tmp 71) rfl rfl CBX.out rfl (by omega) ?_
         intro ra5 rn5 rc5 v5 hg2
         have G5:=Lib.hid hg2
         refine hK _ _ (fun _=>HSB.out _ G5.out.bel) ?_
         clear hK K hg2 G4
         refine RN.all (rs:=[13,15]) (by kernel_rfl) (by simp) ?_
         refine RN.All.cons rfl (fun K hK=>?_) (RN.All.cons rfl (fun K hK=>?_) RN.All.nil)
         ·refine wantI (by rfl) ?_
          refine wp_B G5.out (.tmp 72) (.tmp 74) rfl rfl CBY.out rfl (by omega) ?_
          intro ra6 rn6 rc6 v6 hg2
          have G6:=Lib.hid hg2
          refine hK _ _ (fun _=>HSB.out _ G6.out.bel) ?_
          clear hK K hg2 G5
          have hS:=HSB.out _ G6.out.bel
          refine RN.take (i:=14) (v:=?_) rfl (by decide) (by kernel_rfl) (by kernel_rfl) (by kernel_rfl) (by kernel_rfl) (by kernel_rfl) (by first | exact fun _ _ _ h=>h | exact fun _ _ _ h=>(by cases h.1) | exact fun _ _ _ h=>door_put (by decide) h) (.inl ⟨by rfl,?_⟩) hS ?_
          rotate_left 1
          ·(intro wq hq;skip;go_simp;try with_reducible rfl)
          clear hS
          refine RN.all (rs:=[15]) (by kernel_rfl) (by simp) ?_
          refine RN.All.cons rfl (fun K hK=>?_) RN.All.nil
          go_simp
          have G7:=Lib.hid G6.out.newN
          refine hK _ _ (fun _=>HSB.out _ G7.out.bel) ?_
          have e15:v6.alloc (.cells #[.int .i64 0,.string ⟨#[]⟩,.bool false,.slice none 0 0,.slice none 0 0,.slice none 0 0,.slice none 0 0,.slice none 0 0] 28) = v6.alloc Z8:=rfl
          rw [e15]
          clear e15
          generalize v6.alloc Z8 = v7 at G7 ⊢
          clear hK K G6
          have hn1:=(G7.out.n _ rfl).1
          unfold Z8 at hn1
          have n0:=cell_of_row _ _ 0 _ _ _ hn1;have n1:=cell_of_row _ _ 1 _ _ _ hn1;have n2:=cell_of_row _ _ 2 _ _ _ hn1;have n3:=cell_of_row _ _ 3 _ _ _ hn1;have n4:=cell_of_row _ _ 4 _ _ _ hn1;have n5:=cell_of_row _ _ 5 _ _ _ hn1;have n6:=cell_of_row _ _ 6 _ _ _ hn1;have n7:=cell_of_row _ _ 7 _ _ _ hn1
          have f0:=frozen_of_row _ _ 0 _ _ hn1;have f1:=frozen_of_row _ _ 1 _ _ hn1;have f2:=frozen_of_row _ _ 2 _ _ hn1;have f3:=frozen_of_row _ _ 3 _ _ hn1;have f4:=frozen_of_row _ _ 4 _ _ hn1;have f5:=frozen_of_row _ _ 5 _ _ hn1;have f6:=frozen_of_row _ _ 6 _ _ hn1;have f7:=frozen_of_row _ _ 7 _ _ hn1
          simp at n0 n1 n2 n3 n4 n5 n6 n7
          clear hn1
          refine RN.all (rs:=[16]) (by kernel_rfl) (by simp) ?_
          refine RN.All.cons rfl (fun K hK=>?_) RN.All.nil
          go_simp
          refine hK _ _ (fun h=>absurd h (by decide)) ?_
          clear hK K n0 n1 n2 n3 n4 n5 n6 n7 f0 f1 f2 f3 f4 f5 f6 f7
          refine RN.done (by kernel_rfl) ?_ _
          go_wp2_with fail
          go_meet
          exact ⟨_,rfl,fin_of G7.out CAX.out CAY.out CBX.out CBY.out (by omega) (by omega)⟩
         ·go_simp
          have G8:=Lib.hid G5.out.newN
          refine hK _ _ (fun _=>HSB.out _ G8.out.bel) ?_
          have e15:v5.alloc (.cells #[.int .i64 0,.string ⟨#[]⟩,.bool false,.slice none 0 0,.slice none 0 0,.slice none 0 0,.slice none 0 0,.slice none 0 0] 28) = v5.alloc Z8:=rfl
          rw [e15]
          clear e15
          generalize v5.alloc Z8 = v8 at G8 ⊢
          clear hK K G5
          refine RN.all (rs:=[13]) (by kernel_rfl) (by simp) ?_
          refine RN.All.cons rfl (fun K hK=>?_) RN.All.nil
          refine wantI (by rfl) ?_
          refine wp_B G8.out (.tmp 72) (.tmp 74) rfl rfl CBY.out rfl (by omega) ?_
          intro ra9 rn9 rc9 v9 hg2
          have G9:=Lib.hid hg2
          refine hK _ _ (fun _=>HSB.out _ G9.out.bel) ?_
          clear hK K hg2 G8
          have hS:=HSB.out _ G9.out.bel
          refine RN.take (i:=14) (v:=?_) rfl (by decide) (by kernel_rfl) (by kernel_rfl) (by kernel_rfl) (by kernel_rfl) (by kernel_rfl) (by first | exact fun _ _ _ h=>h | exact fun _ _ _ h=>(by cases h.1) | exact fun _ _ _ h=>door_put (by decide) h) (.inl ⟨by rfl,?_⟩) hS ?_
          rotate_left 1
          ·(intro wq hq;skip;go_simp;try with_reducible rfl)
          clear hS
          have hn1:=(G9.out.n _ rfl).1
          unfold Z8 at hn1
          have n0:=cell_of_row _ _ 0 _ _ _ hn1;have n1:=cell_of_row _ _ 1 _ _ _ hn1;have n2:=cell_of_row _ _ 2 _ _ _ hn1;have n3:=cell_of_row _ _ 3 _ _ _ hn1;have n4:=cell_of_row _ _ 4 _ _ _ hn1;have n5:=cell_of_row _ _ 5 _ _ _ hn1;have n6:=cell_of_row _ _ 6 _ _ _ hn1;have n7:=cell_of_row _ _ 7 _ _ _ hn1
          have f0:=frozen_of_row _ _ 0 _ _ hn1;have f1:=frozen_of_row _ _ 1 _ _ hn1;have f2:=frozen_of_row _ _ 2 _ _ hn1;have f3:=frozen_of_row _ _ 3 _ _ hn1;have f4:=frozen_of_row _ _ 4 _ _ hn1;have f5:=frozen_of_row _ _ 5 _ _ hn1;have f6:=frozen_of_row _ _ 6 _ _ hn1;have f7:=frozen_of_row _ _ 7 _ _ hn1
          simp at n0 n1 n2 n3 n4 n5 n6 n7
          clear hn1
          refine RN.all (rs:=[16]) (by kernel_rfl) (by simp) ?_
          refine RN.All.cons rfl (fun K hK=>?_) RN.All.nil
          go_simp
          refine hK _ _ (fun h=>absurd h (by decide)) ?_
          clear hK K n0 n1 n2 n3 n4 n5 n6 n7 f0 f1 f2 f3 f4 f5 f6 f7
          refine RN.done (by kernel_rfl) ?_ _
          go_wp2_with fail
          go_meet
          exact ⟨_,rfl,fin_of G9.out CAX.out CAY.out CBX.out CBY.out (by omega) (by omega)⟩
        ·go_simp
         have G10:=Lib.hid G4.out.newN
         refine hK _ _ (fun _=>HSB.out _ G10.out.bel) ?_
         have e15:v4.alloc (.cells #[.int .i64 0,.string ⟨#[]⟩,.bool false,.slice none 0 0,.slice none 0 0,.slice none 0 0,.slice none 0 0,.slice none 0 0] 28) = v4.alloc Z8:=rfl
         rw [e15]
         clear e15
         generalize v4.alloc Z8 = v10 at G10 ⊢
         clear hK K G4
         refine RN.all (rs:=[10]) (by kernel_rfl) (by simp) ?_
         refine RN.All.cons rfl (fun K hK=>?_) RN.All.nil
         refine wantI (by rfl) ?_
         refine wp_B G10.out (.tmp 69) (.tmp 71) rfl rfl CBX.out rfl (by omega) ?_
         intro ra11 rn11 rc11 v11 hg2
         have G11:=Lib.hid hg2
         refine hK _ _ (fun _=>HSB.out _ G11.out.bel) ?_
         clear hK K hg2 G10
         refine RN.all (rs:=[13]) (by kernel_rfl) (by simp) ?_
         refine RN.All.cons rfl (fun K hK=>?_) RN.All.nil
         refine wantI (by rfl) ?_
         refine wp_B G11.out (.tmp 72) (.tmp 74) rfl rfl CBY.out rfl (by omega) ?_
         intro ra12 rn12 rc12 v12 hg2
         have G12:=Lib.hid hg2
         refine hK _ _ (fun _=>HSB.out _ G12.out.bel) ?_
         clear hK K hg2 G11
         have hS:=HSB.out _ G12.out.bel
         refine RN.take (i:=14) (v:=?_) rfl (by decide) (by kernel_rfl) (by kernel_rfl) (by kernel_rfl) (by kernel_rfl) (by kernel_rfl) (by first | exact fun _ _ _ h=>h | exact fun _ _ _ h=>(by cases h.1) | exact fun _ _ _ h=>door_put (by decide) h) (.inl ⟨by rfl,?_⟩) hS ?_
         rotate_left 1
         ·(intro wq hq;skip;go_simp;try with_reducible rfl)
         clear hS
         have hn1:=(G12.out.n _ rfl).1
         unfold Z8 at hn1
         have n0:=cell_of_row _ _ 0 _ _ _ hn1;have n1:=cell_of_row _ _ 1 _ _ _ hn1;have n2:=cell_of_row _ _ 2 _ _ _ hn1;have n3:=cell_of_row _ _ 3 _ _ _ hn1;have n4:=cell_of_row _ _ 4 _ _ _ hn1;have n5:=cell_of_row _ _ 5 _ _ _ hn1;have n6:=cell_of_row _ _ 6 _ _ _ hn1;have n7:=cell_of_row _ _ 7 _ _ _ hn1
         have f0:=frozen_of_row _ _ 0 _ _ hn1;have f1:=frozen_of_row _ _ 1 _ _ hn1;have f2:=frozen_of_row _ _ 2 _ _ hn1;have f3:=frozen_of_row _ _ 3 _ _ hn1;have f4:=frozen_of_row _ _ 4 _ _ hn1;have f5:=frozen_of_row _ _ 5 _ _ hn1;have f6:=frozen_of_row _ _ 6 _ _ hn1;have f7:=frozen_of_row _ _ 7 _ _ hn1
         simp at n0 n1 n2 n3 n4 n5 n6 n7
         clear hn1
         refine RN.all (rs:=[16]) (by kernel_rfl) (by simp) ?_
         refine RN.All.cons rfl (fun K hK=>?_) RN.All.nil
         go_simp
         refine hK _ _ (fun h=>absurd h (by decide)) ?_
         clear hK K n0 n1 n2 n3 n4 n5 n6 n7 f0 f1 f2 f3 f4 f5 f6 f7
         refine RN.done (by kernel_rfl) ?_ _
         go_wp2_with fail
         go_meet
         exact ⟨_,rfl,fin_of G12.out CAX.out CAY.out CBX.out CBY.out (by omega) (by omega)⟩
       ·go_simp
        have G13:=Lib.hid G3.out.newN
        refine hK _ _ (fun _=>HSB.out _ G13.out.bel) ?_
        have e15:v3.alloc (.cells #[.int .i64 0,.string ⟨#[]⟩,.bool false,.slice none 0 0,.slice none 0 0,.slice none 0 0,.slice none 0 0,.slice none 0 0] 28) = v3.alloc Z8:=rfl
        rw [e15]
        clear e15
        generalize v3.alloc Z8 = v13 at G13 ⊢
        clear hK K G3
        refine RN.all (rs:=[7]) (by kernel_rfl) (by simp) ?_
        refine RN.All.cons rfl (fun K hK=>?_) RN.All.nil
        go_simp
        have G14:=Lib.hid G13.out.newB
        refine hK _ _ (fun _=>HSB.out _ G14.out.bel) ?_
        generalize (v13.alloc (.cells #[] 4)) = v14 at G14 ⊢
        clear hK K G13
        refine RN.all (rs:=[10]) (by kernel_rfl) (by simp) ?_
        refine RN.All.cons rfl (fun K hK=>?_) RN.All.nil
        refine wantI (by rfl) ?_
        refine wp_B G14.out (.tmp 69) (.tmp 71) rfl rfl CBX.out rfl (by omega) ?_
        intro ra15 rn15 rc15 v15 hg2
        have G15:=Lib.hid hg2
        refine hK _ _ (fun _=>HSB.out _ G15.out.bel) ?_
        clear hK K hg2 G14
        refine RN.all (rs:=[13]) (by kernel_rfl) (by simp) ?_
        refine RN.All.cons rfl (fun K hK=>?_) RN.All.nil
        refine wantI (by rfl) ?_
        refine wp_B G15.out (.tmp 72) (.tmp 74) rfl rfl CBY.out rfl (by omega) ?_
        intro ra16 rn16 rc16 v16 hg2
        have G16:=Lib.hid hg2
        refine hK _ _ (fun _=>HSB.out _ G16.out.bel) ?_
        clear hK K hg2 G15
        have hS:=HSB.out _ G16.out.bel
        refine RN.take (i:=14) (v:=?_) rfl (by decide) (by kernel_rfl) (by kernel_rfl) (by kernel_rfl) (by kernel_rfl) (by kernel_rfl) (by first | exact fun _ _ _ h=>h | exact fun _ _ _ h=>(by cases h.1) | exact fun _ _ _ h=>door_put (by decide) h) (.inl ⟨by rfl,?_⟩) hS ?_
        rotate_left 1
        ·(intro wq hq;skip;go_simp;try with_reducible rfl)
        clear hS
        have hn1:=(G16.out.n _ rfl).1
        unfold Z8 at hn1
        have n0:=cell_of_row _ _ 0 _ _ _ hn1;have n1:=cell_of_row _ _ 1 _ _ _ hn1;have n2:=cell_of_row _ _ 2 _ _ _ hn1;have n3:=cell_of_row _ _ 3 _ _ _ hn1;have n4:=cell_of_row _ _ 4 _ _ _ hn1;have n5:=cell_of_row _ _ 5 _ _ _ hn1;have n6:=cell_of_row _ _ 6 _ _ _ hn1;have n7:=cell_of_row _ _ 7 _ _ _ hn1
        have f0:=frozen_of_row _ _ 0 _ _ hn1;have f1:=frozen_of_row _ _ 1 _ _ hn1;have f2:=frozen_of_row _ _ 2 _ _ hn1;have f3:=frozen_of_row _ _ 3 _ _ hn1;have f4:=frozen_of_row _ _ 4 _ _ hn1;have f5:=frozen_of_row _ _ 5 _ _ hn1;have f6:=frozen_of_row _ _ 6 _ _ hn1;have f7:=frozen_of_row _ _ 7 _ _ hn1
        simp at n0 n1 n2 n3 n4 n5 n6 n7
        clear hn1
        refine RN.all (rs:=[16]) (by kernel_rfl) (by simp) ?_
        refine RN.All.cons rfl (fun K hK=>?_) RN.All.nil
        go_simp
        refine hK _ _ (fun h=>absurd h (by decide)) ?_
        clear hK K n0 n1 n2 n3 n4 n5 n6 n7 f0 f1 f2 f3 f4 f5 f6 f7
        refine RN.done (by kernel_rfl) ?_ _
        go_wp2_with fail
        go_meet
        exact ⟨_,rfl,fin_of G16.out CAX.out CAY.out CBX.out CBY.out (by omega) (by omega)⟩
      ·go_simp
       have G17:=Lib.hid G2.out.newB
       refine hK _ _ (fun _=>HSB.out _ G17.out.bel) ?_
       generalize (v2.alloc (.cells #[] 4)) = v17 at G17 ⊢
       clear hK K G2
       refine RN.all (rs:=[6,15]) (by kernel_rfl) (by simp) ?_
       refine RN.All.cons rfl (fun K hK=>?_) (RN.All.cons rfl (fun K hK=>?_) RN.All.nil)
       ·refine wantI (by rfl) ?_
        refine wp_A G17.out (.tmp 65) (.tmp 67) rfl rfl CAY.out rfl (by omega) ?_
        intro ra18 rn18 rc18 v18 hg2
        have G18:=Lib.hid hg2
        refine hK _ _ (fun _=>HSB.out _ G18.out.bel) ?_
        clear hK K hg2 G17
        refine RN.all (rs:=[10,15]) (by kernel_rfl) (by simp) ?_
        refine RN.All.cons rfl (fun K hK=>?_) (RN.All.cons rfl (fun K hK=>?_) RN.All.nil)
        ·refine wantI (by rfl) ?_
         refine wp_B G18.out (.tmp 69) (.tmp 71) rfl rfl CBX.out rfl (by omega) ?_
         intro ra19 rn19 rc19 v19 hg2
         have G19:=Lib.hid hg2
         refine hK _ _ (fun _=>HSB.out _ G19.out.bel) ?_
         clear hK K hg2 G18
         refine RN.all (rs:=[13,15]) (by kernel_rfl) (by simp) ?_
         refine RN.All.cons rfl (fun K hK=>?_) (RN.All.cons rfl (fun K hK=>?_) RN.All.nil)
         ·refine wantI (by rfl) ?_
          refine wp_B G19.out (.tmp 72) (.tmp 74) rfl rfl CBY.out rfl (by omega) ?_
          intro ra20 rn20 rc20 v20 hg2
          have G20:=Lib.hid hg2
          refine hK _ _ (fun _=>HSB.out _ G20.out.bel) ?_
          clear hK K hg2 G19
          have hS:=HSB.out _ G20.out.bel
          refine RN.take (i:=14) (v:=?_) rfl (by decide) (by kernel_rfl) (by kernel_rfl) (by kernel_rfl) (by kernel_rfl) (by kernel_rfl) (by first | exact fun _ _ _ h=>h | exact fun _ _ _ h=>(by cases h.1) | exact fun _ _ _ h=>door_put (by decide) h) (.inl ⟨by rfl,?_⟩) hS ?_
          rotate_left 1
          ·(intro wq hq;skip;go_simp;try with_reducible rfl)
          clear hS
          refine RN.all (rs:=[15]) (by kernel_rfl) (by simp) ?_
          refine RN.All.cons rfl (fun K hK=>?_) RN.All.nil
          go_simp
          have G21:=Lib.hid G20.out.newN
          refine hK _ _ (fun _=>HSB.out _ G21.out.bel) ?_
          have e15:v20.alloc (.cells #[.int .i64 0,.string ⟨#[]⟩,.bool false,.slice none 0 0,.slice none 0 0,.slice none 0 0,.slice none 0 0,.slice none 0 0] 28) = v20.alloc Z8:=rfl
          rw [e15]
          clear e15
          generalize v20.alloc Z8 = v21 at G21 ⊢
          clear hK K G20
          have hn1:=(G21.out.n _ rfl).1
          unfold Z8 at hn1
          have n0:=cell_of_row _ _ 0 _ _ _ hn1;have n1:=cell_of_row _ _ 1 _ _ _ hn1;have n2:=cell_of_row _ _ 2 _ _ _ hn1;have n3:=cell_of_row _ _ 3 _ _ _ hn1;have n4:=cell_of_row _ _ 4 _ _ _ hn1;have n5:=cell_of_row _ _ 5 _ _ _ hn1;have n6:=cell_of_row _ _ 6 _ _ _ hn1;have n7:=cell_of_row _ _ 7 _ _ _ hn1
          have f0:=frozen_of_row _ _ 0 _ _ hn1;have f1:=frozen_of_row _ _ 1 _ _ hn1;have f2:=frozen_of_row _ _ 2 _ _ hn1;have f3:=frozen_of_row _ _ 3 _ _ hn1;have f4:=frozen_of_row _ _ 4 _ _ hn1;have f5:=frozen_of_row _ _ 5 _ _ hn1;have f6:=frozen_of_row _ _ 6 _ _ hn1;have f7:=frozen_of_row _ _ 7 _ _ hn1
          simp at n0 n1 n2 n3 n4 n5 n6 n7
          clear hn1
          refine RN.all (rs:=[16]) (by kernel_rfl) (by simp) ?_
          refine RN.All.cons rfl (fun K hK=>?_) RN.All.nil
          go_simp
          refine hK _ _ (fun h=>absurd h (by decide)) ?_
          clear hK K n0 n1 n2 n3 n4 n5 n6 n7 f0 f1 f2 f3 f4 f5 f6 f7
          refine RN.done (by kernel_rfl) ?_ _
          go_wp2_with fail
          go_meet
          exact ⟨_,rfl,fin_of G21.out CAX.out CAY.out CBX.out CBY.out (by omega) (by omega)⟩
         ·go_simp
          have G22:=Lib.hid G19.out.newN
          refine hK _ _ (fun _=>HSB.out _ G22.out.bel) ?_
          have e15:v19.alloc (.cells #[.int .i64 0,.string ⟨#[]⟩,.bool false,.slice none 0 0,.slice none 0 0,.slice none 0 0,.slice none 0 0,.slice none 0 0] 28) = v19.alloc Z8:=rfl
          rw [e15]
          clear e15
          generalize v19.alloc Z8 = v22 at G22 ⊢
          clear hK K G19
          refine RN.all (rs:=[13]) (by kernel_rfl) (by simp) ?_
          refine RN.All.cons rfl (fun K hK=>?_) RN.All.nil
          refine wantI (by rfl) ?_
          refine wp_B G22.out (.tmp 72) (.tmp 74) rfl rfl CBY.out rfl (by omega) ?_
          intro ra23 rn23 rc23 v23 hg2
          have G23:=Lib.hid hg2
          refine hK _ _ (fun _=>HSB.out _ G23.out.bel) ?_
          clear hK K hg2 G22
          have hS:=HSB.out _ G23.out.bel
          refine RN.take (i:=14) (v:=?_) rfl (by decide) (by kernel_rfl) (by kernel_rfl) (by kernel_rfl) (by kernel_rfl) (by kernel_rfl) (by first | exact fun _ _ _ h=>h | exact fun _ _ _ h=>(by cases h.1) | exact fun _ _ _ h=>door_put (by decide) h) (.inl ⟨by rfl,?_⟩) hS ?_
          rotate_left 1
          ·(intro wq hq;skip;go_simp;try with_reducible rfl)
          clear hS
          have hn1:=(G23.out.n _ rfl).1
          unfold Z8 at hn1
          have n0:=cell_of_row _ _ 0 _ _ _ hn1;have n1:=cell_of_row _ _ 1 _ _ _ hn1;have n2:=cell_of_row _ _ 2 _ _ _ hn1;have n3:=cell_of_row _ _ 3 _ _ _ hn1;have n4:=cell_of_row _ _ 4 _ _ _ hn1;have n5:=cell_of_row _ _ 5 _ _ _ hn1;have n6:=cell_of_row _ _ 6 _ _ _ hn1;have n7:=cell_of_row _ _ 7 _ _ _ hn1
          have f0:=frozen_of_row _ _ 0 _ _ hn1;have f1:=frozen_of_row _ _ 1 _ _ hn1;have f2:=frozen_of_row _ _ 2 _ _ hn1;have f3:=frozen_of_row _ _ 3 _ _ hn1;have f4:=frozen_of_row _ _ 4 _ _ hn1;have f5:=frozen_of_row _ _ 5 _ _ hn1;have f6:=frozen_of_row _ _ 6 _ _ hn1;have f7:=frozen_of_row _ _ 7 _ _ hn1
          simp at n0 n1 n2 n3 n4 n5 n6 n7
          clear hn1
          refine RN.all (rs:=[16]) (by kernel_rfl) (by simp) ?_
          refine RN.All.cons rfl (fun K hK=>?_) RN.All.nil
          go_simp
          refine hK _ _ (fun h=>absurd h (by decide)) ?_
          clear hK K n0 n1 n2 n3 n4 n5 n6 n7 f0 f1 f2 f3 f4 f5 f6 f7
          refine RN.done (by kernel_rfl) ?_ _
          go_wp2_with fail
          go_meet
          exact ⟨_,rfl,fin_of G23.out CAX.out CAY.out CBX.out CBY.out (by omega) (by omega)⟩
        ·go_simp
         have G24:=Lib.hid G18.out.newN
         refine hK _ _ (fun _=>HSB.out _ G24.out.bel) ?_
         have e15:v18.alloc (.cells #[.int .i64 0,.string ⟨#[]⟩,.bool false,.slice none 0 0,.slice none 0 0,.slice none 0 0,.slice none 0 0,.slice none 0 0] 28) = v18.alloc Z8:=rfl
         rw [e15]
         clear e15
         generalize v18.alloc Z8 = v24 at G24 ⊢
         clear hK K G18
         refine RN.all (rs:=[10]) (by kernel_rfl) (by simp) ?_
         refine RN.All.cons rfl (fun K hK=>?_) RN.All.nil
         refine wantI (by rfl) ?_
         refine wp_B G24.out (.tmp 69) (.tmp 71) rfl rfl CBX.out rfl (by omega) ?_
         intro ra25 rn25 rc25 v25 hg2
         have G25:=Lib.hid hg2
         refine hK _ _ (fun _=>HSB.out _ G25.out.bel) ?_
         clear hK K hg2 G24
         refine RN.all (rs:=[13]) (by kernel_rfl) (by simp) ?_
         refine RN.All.cons rfl (fun K hK=>?_) RN.All.nil
         refine wantI (by rfl) ?_
         refine wp_B G25.out (.tmp 72) (.tmp 74) rfl rfl CBY.out rfl (by omega) ?_
         intro ra26 rn26 rc26 v26 hg2
         have G26:=Lib.hid hg2
         refine hK _ _ (fun _=>HSB.out _ G26.out.bel) ?_
         clear hK K hg2 G25
         have hS:=HSB.out _ G26.out.bel
         refine RN.take (i:=14) (v:=?_) rfl (by decide) (by kernel_rfl) (by kernel_rfl) (by kernel_rfl) (by kernel_rfl) (by kernel_rfl) (by first | exact fun _ _ _ h=>h | exact fun _ _ _ h=>(by cases h.1) | exact fun _ _ _ h=>door_put (by decide) h) (.inl ⟨by rfl,?_⟩) hS ?_
         rotate_left 1
         ·(intro wq hq;skip;go_simp;try with_reducible rfl)
         clear hS
         have hn1:=(G26.out.n _ rfl).1
         unfold Z8 at hn1
         have n0:=cell_of_row _ _ 0 _ _ _ hn1;have n1:=cell_of_row _ _ 1 _ _ _ hn1;have n2:=cell_of_row _ _ 2 _ _ _ hn1;have n3:=cell_of_row _ _ 3 _ _ _ hn1;have n4:=cell_of_row _ _ 4 _ _ _ hn1;have n5:=cell_of_row _ _ 5 _ _ _ hn1;have n6:=cell_of_row _ _ 6 _ _ _ hn1;have n7:=cell_of_row _ _ 7 _ _ _ hn1
         have f0:=frozen_of_row _ _ 0 _ _ hn1;have f1:=frozen_of_row _ _ 1 _ _ hn1;have f2:=frozen_of_row _ _ 2 _ _ hn1;have f3:=frozen_of_row _ _ 3 _ _ hn1;have f4:=frozen_of_row _ _ 4 _ _ hn1;have f5:=frozen_of_row _ _ 5 _ _ hn1;have f6:=frozen_of_row _ _ 6 _ _ hn1;have f7:=frozen_of_row _ _ 7 _ _ hn1
         simp at n0 n1 n2 n3 n4 n5 n6 n7
         clear hn1
         refine RN.all (rs:=[16]) (by kernel_rfl) (by simp) ?_
         refine RN.All.cons rfl (fun K hK=>?_) RN.All.nil
         go_simp
         refine hK _ _ (fun h=>absurd h (by decide)) ?_
         clear hK K n0 n1 n2 n3 n4 n5 n6 n7 f0 f1 f2 f3 f4 f5 f6 f7
         refine RN.done (by kernel_rfl) ?_ _
         go_wp2_with fail
         go_meet
         exact ⟨_,rfl,fin_of G26.out CAX.out CAY.out CBX.out CBY.out (by omega) (by omega)⟩
       ·go_simp
        have G27:=Lib.hid G17.out.newN
        refine hK _ _ (fun _=>HSB.out _ G27.out.bel) ?_
        have e15:v17.alloc (.cells #[.int .i64 0,.string ⟨#[]⟩,.bool false,.slice none 0 0,.slice none 0 0,.slice none 0 0,.slice none 0 0,.slice none 0 0] 28) = v17.alloc Z8:=rfl
        rw [e15]
        clear e15
        generalize v17.alloc Z8 = v27 at G27 ⊢
        clear hK K G17
        refine RN.all (rs:=[6]) (by kernel_rfl) (by simp) ?_
        refine RN.All.cons rfl (fun K hK=>?_) RN.All.nil
        refine wantI (by rfl) ?_
        refine wp_A G27.out (.tmp 65) (.tmp 67) rfl rfl CAY.out rfl (by omega) ?_
        intro ra28 rn28 rc28 v28 hg2
        have G28:=Lib.hid hg2
        refine hK _ _ (fun _=>HSB.out _ G28.out.bel) ?_
        clear hK K hg2 G27
        refine RN.all (rs:=[10]) (by kernel_rfl) (by simp) ?_
        refine RN.All.cons rfl (fun K hK=>?_) RN.All.nil
        refine wantI (by rfl) ?_
        refine wp_B G28.out (.tmp 69) (.tmp 71) rfl rfl CBX.out rfl (by omega) ?_
        intro ra29 rn29 rc29 v29 hg2
        have G29:=Lib.hid hg2
        refine hK _ _ (fun _=>HSB.out _ G29.out.bel) ?_
        clear hK K hg2 G28
        refine RN.all (rs:=[13]) (by kernel_rfl) (by simp) ?_
        refine RN.All.cons rfl (fun K hK=>?_) RN.All.nil
        refine wantI (by rfl) ?_
        refine wp_B G29.out (.tmp 72) (.tmp 74) rfl rfl CBY.out rfl (by omega) ?_
        intro ra30 rn30 rc30 v30 hg2
        have G30:=Lib.hid hg2
        refine hK _ _ (fun _=>HSB.out _ G30.out.bel) ?_
        clear hK K hg2 G29
        have hS:=HSB.out _ G30.out.bel
        refine RN.take (i:=14) (v:=?_) rfl (by decide) (by kernel_rfl) (by kernel_rfl) (by kernel_rfl) (by kernel_rfl) (by kernel_rfl) (by first | exact fun _ _ _ h=>h | exact fun _ _ _ h=>(by cases h.1) | exact fun _ _ _ h=>door_put (by decide) h) (.inl ⟨by rfl,?_⟩) hS ?_
        rotate_left 1
        ·(intro wq hq;skip;go_simp;try with_reducible rfl)
        clear hS
        have hn1:=(G30.out.n _ rfl).1
        unfold Z8 at hn1
        have n0:=cell_of_row _ _ 0 _ _ _ hn1;have n1:=cell_of_row _ _ 1 _ _ _ hn1;have n2:=cell_of_row _ _ 2 _ _ _ hn1;have n3:=cell_of_row _ _ 3 _ _ _ hn1;have n4:=cell_of_row _ _ 4 _ _ _ hn1;have n5:=cell_of_row _ _ 5 _ _ _ hn1;have n6:=cell_of_row _ _ 6 _ _ _ hn1;have n7:=cell_of_row _ _ 7 _ _ _ hn1
        have f0:=frozen_of_row _ _ 0 _ _ hn1;have f1:=frozen_of_row _ _ 1 _ _ hn1;have f2:=frozen_of_row _ _ 2 _ _ hn1;have f3:=frozen_of_row _ _ 3 _ _ hn1;have f4:=frozen_of_row _ _ 4 _ _ hn1;have f5:=frozen_of_row _ _ 5 _ _ hn1;have f6:=frozen_of_row _ _ 6 _ _ hn1;have f7:=frozen_of_row _ _ 7 _ _ hn1
        simp at n0 n1 n2 n3 n4 n5 n6 n7
        clear hn1
        refine RN.all (rs:=[16]) (by kernel_rfl) (by simp) ?_
        refine RN.All.cons rfl (fun K hK=>?_) RN.All.nil
        go_simp
        refine hK _ _ (fun h=>absurd h (by decide)) ?_
        clear hK K n0 n1 n2 n3 n4 n5 n6 n7 f0 f1 f2 f3 f4 f5 f6 f7
        refine RN.done (by kernel_rfl) ?_ _
        go_wp2_with fail
        go_meet
        exact ⟨_,rfl,fin_of G30.out CAX.out CAY.out CBX.out CBY.out (by omega) (by omega)⟩
      ·go_simp
       have G31:=Lib.hid G2.out.newN
       refine hK _ _ (fun _=>HSB.out _ G31.out.bel) ?_
       have e15:v2.alloc (.cells #[.int .i64 0,.string ⟨#[]⟩,.bool false,.slice none 0 0,.slice none 0 0,.slice none 0 0,.slice none 0 0,.slice none 0 0] 28) = v2.alloc Z8:=rfl
       rw [e15]
       clear e15
       generalize v2.alloc Z8 = v31 at G31 ⊢
       clear hK K G2
       refine RN.all (rs:=[6,7]) (by kernel_rfl) (by simp) ?_
       refine RN.All.cons rfl (fun K hK=>?_) (RN.All.cons rfl (fun K hK=>?_) RN.All.nil)
       ·refine wantI (by rfl) ?_
        refine wp_A G31.out (.tmp 65) (.tmp 67) rfl rfl CAY.out rfl (by omega) ?_
        intro ra32 rn32 rc32 v32 hg2
        have G32:=Lib.hid hg2
        refine hK _ _ (fun _=>HSB.out _ G32.out.bel) ?_
        clear hK K hg2 G31
        refine RN.all (rs:=[7]) (by kernel_rfl) (by simp) ?_
        refine RN.All.cons rfl (fun K hK=>?_) RN.All.nil
        go_simp
        have G33:=Lib.hid G32.out.newB
        refine hK _ _ (fun _=>HSB.out _ G33.out.bel) ?_
        generalize (v32.alloc (.cells #[] 4)) = v33 at G33 ⊢
        clear hK K G32
        refine RN.all (rs:=[10]) (by kernel_rfl) (by simp) ?_
        refine RN.All.cons rfl (fun K hK=>?_) RN.All.nil
        refine wantI (by rfl) ?_
        refine wp_B G33.out (.tmp 69) (.tmp 71) rfl rfl CBX.out rfl (by omega) ?_
        intro ra34 rn34 rc34 v34 hg2
        have G34:=Lib.hid hg2
        refine hK _ _ (fun _=>HSB.out _ G34.out.bel) ?_
        clear hK K hg2 G33
        refine RN.all (rs:=[13]) (by kernel_rfl) (by simp) ?_
        refine RN.All.cons rfl (fun K hK=>?_) RN.All.nil
        refine wantI (by rfl) ?_
        refine wp_B G34.out (.tmp 72) (.tmp 74) rfl rfl CBY.out rfl (by omega) ?_
        intro ra35 rn35 rc35 v35 hg2
        have G35:=Lib.hid hg2
        refine hK _ _ (fun _=>HSB.out _ G35.out.bel) ?_
        clear hK K hg2 G34
        have hS:=HSB.out _ G35.out.bel
        refine RN.take (i:=14) (v:=?_) rfl (by decide) (by kernel_rfl) (by kernel_rfl) (by kernel_rfl) (by kernel_rfl) (by kernel_rfl) (by first | exact fun _ _ _ h=>h | exact fun _ _ _ h=>(by cases h.1) | exact fun _ _ _ h=>door_put (by decide) h) (.inl ⟨by rfl,?_⟩) hS ?_
        rotate_left 1
        ·(intro wq hq;skip;go_simp;try with_reducible rfl)
        clear hS
        have hn1:=(G35.out.n _ rfl).1
        unfold Z8 at hn1
        have n0:=cell_of_row _ _ 0 _ _ _ hn1;have n1:=cell_of_row _ _ 1 _ _ _ hn1;have n2:=cell_of_row _ _ 2 _ _ _ hn1;have n3:=cell_of_row _ _ 3 _ _ _ hn1;have n4:=cell_of_row _ _ 4 _ _ _ hn1;have n5:=cell_of_row _ _ 5 _ _ _ hn1;have n6:=cell_of_row _ _ 6 _ _ _ hn1;have n7:=cell_of_row _ _ 7 _ _ _ hn1
        have f0:=frozen_of_row _ _ 0 _ _ hn1;have f1:=frozen_of_row _ _ 1 _ _ hn1;have f2:=frozen_of_row _ _ 2 _ _ hn1;have f3:=frozen_of_row _ _ 3 _ _ hn1;have f4:=frozen_of_row _ _ 4 _ _ hn1;have f5:=frozen_of_row _ _ 5 _ _ hn1;have f6:=frozen_of_row _ _ 6 _ _ hn1;have f7:=frozen_of_row _ _ 7 _ _ hn1
        simp at n0 n1 n2 n3 n4 n5 n6 n7
        clear hn1
        refine RN.all (rs:=[16]) (by kernel_rfl) (by simp) ?_
        refine RN.All.cons rfl (fun K hK=>?_) RN.All.nil
        go_simp
        refine hK _ _ (fun h=>absurd h (by decide)) ?_
        clear hK K n0 n1 n2 n3 n4 n5 n6 n7 f0 f1 f2 f3 f4 f5 f6 f7
        refine RN.done (by kernel_rfl) ?_ _
        go_wp2_with fail
        go_meet
        exact ⟨_,rfl,fin_of G35.out CAX.out CAY.out CBX.out CBY.out (by omega) (by omega)⟩
       ·go_simp
        have G36:=Lib.hid G31.out.newB
        refine hK _ _ (fun _=>HSB.out _ G36.out.bel) ?_
        generalize (v31.alloc (.cells #[] 4)) = v36 at G36 ⊢
        clear hK K G31
        refine RN.all (rs:=[6]) (by kernel_rfl) (by simp) ?_
        refine RN.All.cons rfl (fun K hK=>?_) RN.All.nil
        refine wantI (by rfl) ?_
        refine wp_A G36.out (.tmp 65) (.tmp 67) rfl rfl CAY.out rfl (by omega) ?_
        intro ra37 rn37 rc37 v37 hg2
        have G37:=Lib.hid hg2
        refine hK _ _ (fun _=>HSB.out _ G37.out.bel) ?_
        clear hK K hg2 G36
        refine RN.all (rs:=[10]) (by kernel_rfl) (by simp) ?_
        refine RN.All.cons rfl (fun K hK=>?_) RN.All.nil
        refine wantI (by rfl) ?_
        refine wp_B G37.out (.tmp 69) (.tmp 71) rfl rfl CBX.out rfl (by omega) ?_
        intro ra38 rn38 rc38 v38 hg2
        have G38:=Lib.hid hg2
        refine hK _ _ (fun _=>HSB.out _ G38.out.bel) ?_
        clear hK K hg2 G37
        refine RN.all (rs:=[13]) (by kernel_rfl) (by simp) ?_
        refine RN.All.cons rfl (fun K hK=>?_) RN.All.nil
        refine wantI (by rfl) ?_
        refine wp_B G38.out (.tmp 72) (.tmp 74) rfl rfl CBY.out rfl (by omega) ?_
        intro ra39 rn39 rc39 v39 hg2
        have G39:=Lib.hid hg2
        refine hK _ _ (fun _=>HSB.out _ G39.out.bel) ?_
        clear hK K hg2 G38
        have hS:=HSB.out _ G39.out.bel
        refine RN.take (i:=14) (v:=?_) rfl (by decide) (by kernel_rfl) (by kernel_rfl) (by kernel_rfl) (by kernel_rfl) (by kernel_rfl) (by first | exact fun _ _ _ h=>h | exact fun _ _ _ h=>(by cases h.1) | exact fun _ _ _ h=>door_put (by decide) h) (.inl ⟨by rfl,?_⟩) hS ?_
        rotate_left 1
        ·(intro wq hq;skip;go_simp;try with_reducible rfl)
        clear hS
        have hn1:=(G39.out.n _ rfl).1
        unfold Z8 at hn1
        have n0:=cell_of_row _ _ 0 _ _ _ hn1;have n1:=cell_of_row _ _ 1 _ _ _ hn1;have n2:=cell_of_row _ _ 2 _ _ _ hn1;have n3:=cell_of_row _ _ 3 _ _ _ hn1;have n4:=cell_of_row _ _ 4 _ _ _ hn1;have n5:=cell_of_row _ _ 5 _ _ _ hn1;have n6:=cell_of_row _ _ 6 _ _ _ hn1;have n7:=cell_of_row _ _ 7 _ _ _ hn1
        have f0:=frozen_of_row _ _ 0 _ _ hn1;have f1:=frozen_of_row _ _ 1 _ _ hn1;have f2:=frozen_of_row _ _ 2 _ _ hn1;have f3:=frozen_of_row _ _ 3 _ _ hn1;have f4:=frozen_of_row _ _ 4 _ _ hn1;have f5:=frozen_of_row _ _ 5 _ _ hn1;have f6:=frozen_of_row _ _ 6 _ _ hn1;have f7:=frozen_of_row _ _ 7 _ _ hn1
        simp at n0 n1 n2 n3 n4 n5 n6 n7
        clear hn1
        refine RN.all (rs:=[16]) (by kernel_rfl) (by simp) ?_
        refine RN.All.cons rfl (fun K hK=>?_) RN.All.nil
        go_simp
        refine hK _ _ (fun h=>absurd h (by decide)) ?_
        clear hK K n0 n1 n2 n3 n4 n5 n6 n7 f0 f1 f2 f3 f4 f5 f6 f7
        refine RN.done (by kernel_rfl) ?_ _
        go_wp2_with fail
        go_meet
        exact ⟨_,rfl,fin_of G39.out CAX.out CAY.out CBX.out CBY.out (by omega) (by omega)⟩
     ·go_simp
      have G40:=Lib.hid G1.out.newB
      refine hK _ _ (fun _=>HSB.out _ G40.out.bel) ?_
      generalize (v1.alloc (.cells #[] 4)) = v40 at G40 ⊢
      clear hK K G1
      refine RN.all (rs:=[3,15]) (by kernel_rfl) (by simp) ?_
      refine RN.All.cons rfl (fun K hK=>?_) (RN.All.cons rfl (fun K hK=>?_) RN.All.nil)
      ·refine wantI (by rfl) ?_
       refine wp_A G40.out (.tmp 62) (.tmp 64) rfl rfl CAX.out rfl (by omega) ?_
       intro ra41 rn41 rc41 v41 hg2
       have G41:=Lib.hid hg2
       refine hK _ _ (fun _=>HSB.out _ G41.out.bel) ?_
       clear hK K hg2 G40
       refine RN.all (rs:=[6,15]) (by kernel_rfl) (by simp) ?_
       refine RN.All.cons rfl (fun K hK=>?_) (RN.All.cons rfl (fun K hK=>?_) RN.All.nil)
       ·refine wantI (by rfl) ?_
        refine wp_A G41.out (.tmp 65) (.tmp 67) rfl rfl CAY.out rfl (by omega) ?_
        intro ra42 rn42 rc42 v42 hg2
        have G42:=Lib.hid hg2
        refine hK _ _ (fun _=>HSB.out _ G42.out.bel) ?_
        clear hK K hg2 G41
        refine RN.all (rs:=[10,15]) (by kernel_rfl) (by simp) ?_
        refine RN.All.cons rfl (fun K hK=>?_) (RN.All.cons rfl (fun K hK=>?_) RN.All.nil)
        ·refine wantI (by rfl) ?_
         refine wp_B G42.out (.tmp 69) (.tmp 71) rfl rfl CBX.out rfl (by omega) ?_
         intro ra43 rn43 rc43 v43 hg2
         have G43:=Lib.hid hg2
         refine hK _ _ (fun _=>HSB.out _ G43.out.bel) ?_
         clear hK K hg2 G42
         refine RN.all (rs:=[13,15]) (by kernel_rfl) (by simp) ?_
         refine RN.All.cons rfl (fun K hK=>?_) (RN.All.cons rfl (fun K hK=>?_) RN.All.nil)
         ·refine wantI (by rfl) ?_
          refine wp_B G43.out (.tmp 72) (.tmp 74) rfl rfl CBY.out rfl (by omega) ?_
          intro ra44 rn44 rc44 v44 hg2
          have G44:=Lib.hid hg2
          refine hK _ _ (fun _=>HSB.out _ G44.out.bel) ?_
          clear hK K hg2 G43
          have hS:=HSB.out _ G44.out.bel
          refine RN.take (i:=14) (v:=?_) rfl (by decide) (by kernel_rfl) (by kernel_rfl) (by kernel_rfl) (by kernel_rfl) (by kernel_rfl) (by first | exact fun _ _ _ h=>h | exact fun _ _ _ h=>(by cases h.1) | exact fun _ _ _ h=>door_put (by decide) h) (.inl ⟨by rfl,?_⟩) hS ?_
          rotate_left 1
          ·(intro wq hq;skip;go_simp;try with_reducible rfl)
          clear hS
          refine RN.all (rs:=[15]) (by kernel_rfl) (by simp) ?_
          refine RN.All.cons rfl (fun K hK=>?_) RN.All.nil
          go_simp
          have G45:=Lib.hid G44.out.newN
          refine hK _ _ (fun _=>HSB.out _ G45.out.bel) ?_
          have e15:v44.alloc (.cells #[.int .i64 0,.string ⟨#[]⟩,.bool false,.slice none 0 0,.slice none 0 0,.slice none 0 0,.slice none 0 0,.slice none 0 0] 28) = v44.alloc Z8:=rfl
          rw [e15]
          clear e15
          generalize v44.alloc Z8 = v45 at G45 ⊢
          clear hK K G44
          have hn1:=(G45.out.n _ rfl).1
          unfold Z8 at hn1
          have n0:=cell_of_row _ _ 0 _ _ _ hn1;have n1:=cell_of_row _ _ 1 _ _ _ hn1;have n2:=cell_of_row _ _ 2 _ _ _ hn1;have n3:=cell_of_row _ _ 3 _ _ _ hn1;have n4:=cell_of_row _ _ 4 _ _ _ hn1;have n5:=cell_of_row _ _ 5 _ _ _ hn1;have n6:=cell_of_row _ _ 6 _ _ _ hn1;have n7:=cell_of_row _ _ 7 _ _ _ hn1
          have f0:=frozen_of_row _ _ 0 _ _ hn1;have f1:=frozen_of_row _ _ 1 _ _ hn1;have f2:=frozen_of_row _ _ 2 _ _ hn1;have f3:=frozen_of_row _ _ 3 _ _ hn1;have f4:=frozen_of_row _ _ 4 _ _ hn1;have f5:=frozen_of_row _ _ 5 _ _ hn1;have f6:=frozen_of_row _ _ 6 _ _ hn1;have f7:=frozen_of_row _ _ 7 _ _ hn1
          simp at n0 n1 n2 n3 n4 n5 n6 n7
          clear hn1
          refine RN.all (rs:=[16]) (by kernel_rfl) (by simp) ?_
          refine RN.All.cons rfl (fun K hK=>?_) RN.All.nil
          go_simp
          refine hK _ _ (fun h=>absurd h (by decide)) ?_
          clear hK K n0 n1 n2 n3 n4 n5 n6 n7 f0 f1 f2 f3 f4 f5 f6 f7
          refine RN.done (by kernel_rfl) ?_ _
          go_wp2_with fail
          go_meet
          exact ⟨_,rfl,fin_of G45.out CAX.out CAY.out CBX.out CBY.out (by omega) (by omega)⟩
         ·go_simp
          have G46:=Lib.hid G43.out.newN
          refine hK _ _ (fun _=>HSB.out _ G46.out.bel) ?_
          have e15:v43.alloc (.cells #[.int .i64 0,.string ⟨#[]⟩,.bool false,.slice none 0 0,.slice none 0 0,.slice none 0 0,.slice none 0 0,.slice none 0 0] 28) = v43.alloc Z8:=rfl
          rw [e15]
          clear e15
          generalize v43.alloc Z8 = v46 at G46 ⊢
          clear hK K G43
          refine RN.all (rs:=[13]) (by kernel_rfl) (by simp) ?_
          refine RN.All.cons rfl (fun K hK=>?_) RN.All.nil
          refine wantI (by rfl) ?_
          refine wp_B G46.out (.tmp 72) (.tmp 74) rfl rfl CBY.out rfl (by omega) ?_
          intro ra47 rn47 rc47 v47 hg2
          have G47:=Lib.hid hg2
          refine hK _ _ (fun _=>HSB.out _ G47.out.bel) ?_
          clear hK K hg2 G46
          have hS:=HSB.out _ G47.out.bel
          refine RN.take (i:=14) (v:=?_) rfl (by decide) (by kernel_rfl) (by kernel_rfl) (by kernel_rfl) (by kernel_rfl) (by kernel_rfl) (by first | exact fun _ _ _ h=>h | exact fun _ _ _ h=>(by cases h.1) | exact fun _ _ _ h=>door_put (by decide) h) (.inl ⟨by rfl,?_⟩) hS ?_
          rotate_left 1
          ·(intro wq hq;skip;go_simp;try with_reducible rfl)
          clear hS
          have hn1:=(G47.out.n _ rfl).1
          unfold Z8 at hn1
          have n0:=cell_of_row _ _ 0 _ _ _ hn1;have n1:=cell_of_row _ _ 1 _ _ _ hn1;have n2:=cell_of_row _ _ 2 _ _ _ hn1;have n3:=cell_of_row _ _ 3 _ _ _ hn1;have n4:=cell_of_row _ _ 4 _ _ _ hn1;have n5:=cell_of_row _ _ 5 _ _ _ hn1;have n6:=cell_of_row _ _ 6 _ _ _ hn1;have n7:=cell_of_row _ _ 7 _ _ _ hn1
          have f0:=frozen_of_row _ _ 0 _ _ hn1;have f1:=frozen_of_row _ _ 1 _ _ hn1;have f2:=frozen_of_row _ _ 2 _ _ hn1;have f3:=frozen_of_row _ _ 3 _ _ hn1;have f4:=frozen_of_row _ _ 4 _ _ hn1;have f5:=frozen_of_row _ _ 5 _ _ hn1;have f6:=frozen_of_row _ _ 6 _ _ hn1;have f7:=frozen_of_row _ _ 7 _ _ hn1
          simp at n0 n1 n2 n3 n4 n5 n6 n7
          clear hn1
          refine RN.all (rs:=[16]) (by kernel_rfl) (by simp) ?_
          refine RN.All.cons rfl (fun K hK=>?_) RN.All.nil
          go_simp
          refine hK _ _ (fun h=>absurd h (by decide)) ?_
          clear hK K n0 n1 n2 n3 n4 n5 n6 n7 f0 f1 f2 f3 f4 f5 f6 f7
          refine RN.done (by kernel_rfl) ?_ _
          go_wp2_with fail
          go_meet
          exact ⟨_,rfl,fin_of G47.out CAX.out CAY.out CBX.out CBY.out (by omega) (by omega)⟩
        ·go_simp
         have G48:=Lib.hid G42.out.newN
         refine hK _ _ (fun _=>HSB.out _ G48.out.bel) ?_
         have e15:v42.alloc (.cells #[.int .i64 0,.string ⟨#[]⟩,.bool false,.slice none 0 0,.slice none 0 0,.slice none 0 0,.slice none 0 0,.slice none 0 0] 28) = v42.alloc Z8:=rfl
         rw [e15]
         clear e15
         generalize v42.alloc Z8 = v48 at G48 ⊢
         clear hK K G42
         refine RN.all (rs:=[10]) (by kernel_rfl) (by simp) ?_
         refine RN.All.cons rfl (fun K hK=>?_) RN.All.nil
         refine wantI (by rfl) ?_
         refine wp_B G48.out (.tmp 69) (.tmp 71) rfl rfl CBX.out rfl (by omega) ?_
         intro ra49 rn49 rc49 v49 hg2
         have G49:=Lib.hid hg2
         refine hK _ _ (fun _=>HSB.out _ G49.out.bel) ?_
         clear hK K hg2 G48
         refine RN.all (rs:=[13]) (by kernel_rfl) (by simp) ?_
         refine RN.All.cons rfl (fun K hK=>?_) RN.All.nil
         refine wantI (by rfl) ?_
         refine wp_B G49.out (.tmp 72) (.tmp 74) rfl rfl CBY.out rfl (by omega) ?_
         intro ra50 rn50 rc50 v50 hg2
         have G50:=Lib.hid hg2
         refine hK _ _ (fun _=>HSB.out _ G50.out.bel) ?_
         clear hK K hg2 G49
         have hS:=HSB.out _ G50.out.bel
         refine RN.take (i:=14) (v:=?_) rfl (by decide) (by kernel_rfl) (by kernel_rfl) (by kernel_rfl) (by kernel_rfl) (by kernel_rfl) (by first | exact fun _ _ _ h=>h | exact fun _ _ _ h=>(by cases h.1) | exact fun _ _ _ h=>door_put (by decide) h) (.inl ⟨by rfl,?_⟩) hS ?_
         rotate_left 1
         ·(intro wq hq;skip;go_simp;try with_reducible rfl)
         clear hS
         have hn1:=(G50.out.n _ rfl).1
         unfold Z8 at hn1
         have n0:=cell_of_row _ _ 0 _ _ _ hn1;have n1:=cell_of_row _ _ 1 _ _ _ hn1;have n2:=cell_of_row _ _ 2 _ _ _ hn1;have n3:=cell_of_row _ _ 3 _ _ _ hn1;have n4:=cell_of_row _ _ 4 _ _ _ hn1;have n5:=cell_of_row _ _ 5 _ _ _ hn1;have n6:=cell_of_row _ _ 6 _ _ _ hn1;have n7:=cell_of_row _ _ 7 _ _ _ hn1
         have f0:=frozen_of_row _ _ 0 _ _ hn1;have f1:=frozen_of_row _ _ 1 _ _ hn1;have f2:=frozen_of_row _ _ 2 _ _ hn1;have f3:=frozen_of_row _ _ 3 _ _ hn1;have f4:=frozen_of_row _ _ 4 _ _ hn1;have f5:=frozen_of_row _ _ 5 _ _ hn1;have f6:=frozen_of_row _ _ 6 _ _ hn1;have f7:=frozen_of_row _ _ 7 _ _ hn1
         simp at n0 n1 n2 n3 n4 n5 n6 n7
         clear hn1
         refine RN.all (rs:=[16]) (by kernel_rfl) (by simp) ?_
         refine RN.All.cons rfl (fun K hK=>?_) RN.All.nil
         go_simp
         refine hK _ _ (fun h=>absurd h (by decide)) ?_
         clear hK K n0 n1 n2 n3 n4 n5 n6 n7 f0 f1 f2 f3 f4 f5 f6 f7
         refine RN.done (by kernel_rfl) ?_ _
         go_wp2_with fail
         go_meet
         exact ⟨_,rfl,fin_of G50.out CAX.out CAY.out CBX.out CBY.out (by omega) (by omega)⟩
       ·go_simp
        have G51:=Lib.hid G41.out.newN
        refine hK _ _ (fun _=>HSB.out _ G51.out.bel) ?_
        have e15:v41.alloc (.cells #[.int .i64 0,.string ⟨#[]⟩,.bool false,.slice none 0 0,.slice none 0 0,.slice none 0 0,.slice none 0 0,.slice none 0 0] 28) = v41.alloc Z8:=rfl
        rw [e15]
        clear e15
        generalize v41.alloc Z8 = v51 at G51 ⊢
        clear hK K G41
        refine RN.all (rs:=[6]) (by kernel_rfl) (by simp) ?_
        refine RN.All.cons rfl (fun K hK=>?_) RN.All.nil
        refine wantI (by rfl) ?_
        refine wp_A G51.out (.tmp 65) (.tmp 67) rfl rfl CAY.out rfl (by omega) ?_
        intro ra52 rn52 rc52 v52 hg2
        have G52:=Lib.hid hg2
        refine hK _ _ (fun _=>HSB.out _ G52.out.bel) ?_
        clear hK K hg2 G51
        refine RN.all (rs:=[10]) (by kernel_rfl) (by simp) ?_
        refine RN.All.cons rfl (fun K hK=>?_) RN.All.nil
        refine wantI (by rfl) ?_
        refine wp_B G52.out (.tmp 69) (.tmp 71) rfl rfl CBX.out rfl (by omega) ?_
        intro ra53 rn53 rc53 v53 hg2
        have G53:=Lib.hid hg2
        refine hK _ _ (fun _=>HSB.out _ G53.out.bel) ?_
        clear hK K hg2 G52
        refine RN.all (rs:=[13]) (by kernel_rfl) (by simp) ?_
        refine RN.All.cons rfl (fun K hK=>?_) RN.All.nil
        refine wantI (by rfl) ?_
        refine wp_B G53.out (.tmp 72) (.tmp 74) rfl rfl CBY.out rfl (by omega) ?_
        intro ra54 rn54 rc54 v54 hg2
        have G54:=Lib.hid hg2
        refine hK _ _ (fun _=>HSB.out _ G54.out.bel) ?_
        clear hK K hg2 G53
        have hS:=HSB.out _ G54.out.bel
        refine RN.take (i:=14) (v:=?_) rfl (by decide) (by kernel_rfl) (by kernel_rfl) (by kernel_rfl) (by kernel_rfl) (by kernel_rfl) (by first | exact fun _ _ _ h=>h | exact fun _ _ _ h=>(by cases h.1) | exact fun _ _ _ h=>door_put (by decide) h) (.inl ⟨by rfl,?_⟩) hS ?_
        rotate_left 1
        ·(intro wq hq;skip;go_simp;try with_reducible rfl)
        clear hS
        have hn1:=(G54.out.n _ rfl).1
        unfold Z8 at hn1
        have n0:=cell_of_row _ _ 0 _ _ _ hn1;have n1:=cell_of_row _ _ 1 _ _ _ hn1;have n2:=cell_of_row _ _ 2 _ _ _ hn1;have n3:=cell_of_row _ _ 3 _ _ _ hn1;have n4:=cell_of_row _ _ 4 _ _ _ hn1;have n5:=cell_of_row _ _ 5 _ _ _ hn1;have n6:=cell_of_row _ _ 6 _ _ _ hn1;have n7:=cell_of_row _ _ 7 _ _ _ hn1
        have f0:=frozen_of_row _ _ 0 _ _ hn1;have f1:=frozen_of_row _ _ 1 _ _ hn1;have f2:=frozen_of_row _ _ 2 _ _ hn1;have f3:=frozen_of_row _ _ 3 _ _ hn1;have f4:=frozen_of_row _ _ 4 _ _ hn1;have f5:=frozen_of_row _ _ 5 _ _ hn1;have f6:=frozen_of_row _ _ 6 _ _ hn1;have f7:=frozen_of_row _ _ 7 _ _ hn1
        simp at n0 n1 n2 n3 n4 n5 n6 n7
        clear hn1
        refine RN.all (rs:=[16]) (by kernel_rfl) (by simp) ?_
        refine RN.All.cons rfl (fun K hK=>?_) RN.All.nil
        go_simp
        refine hK _ _ (fun h=>absurd h (by decide)) ?_
        clear hK K n0 n1 n2 n3 n4 n5 n6 n7 f0 f1 f2 f3 f4 f5 f6 f7
        refine RN.done (by kernel_rfl) ?_ _
        go_wp2_with fail
        go_meet
        exact ⟨_,rfl,fin_of G54.out CAX.out CAY.out CBX.out CBY.out (by omega) (by omega)⟩
      ·go_simp
       have G55:=Lib.hid G40.out.newN
       refine hK _ _ (fun _=>HSB.out _ G55.out.bel) ?_
       have e15:v40.alloc (.cells #[.int .i64 0,.string ⟨#[]⟩,.bool false,.slice none 0 0,.slice none 0 0,.slice none 0 0,.slice none 0 0,.slice none 0 0] 28) = v40.alloc Z8:=rfl
       rw [e15]
       clear e15
       generalize v40.alloc Z8 = v55 at G55 ⊢
       clear hK K G40
       refine RN.all (rs:=[3]) (by kernel_rfl) (by simp) ?_
       refine RN.All.cons rfl (fun K hK=>?_) RN.All.nil
       refine wantI (by rfl) ?_
       refine wp_A G55.out (.tmp 62) (.tmp 64) rfl rfl CAX.out rfl (by omega) ?_
       intro ra56 rn56 rc56 v56 hg2
       have G56:=Lib.hid hg2
       refine hK _ _ (fun _=>HSB.out _ G56.out.bel) ?_
       clear hK K hg2 G55
       refine RN.all (rs:=[6]) (by kernel_rfl) (by simp) ?_
       refine RN.All.cons rfl (fun K hK=>?_) RN.All.nil
       refine wantI (by rfl) ?_
       refine wp_A G56.out (.tmp 65) (.tmp 67) rfl rfl CAY.out rfl (by omega) ?_
       intro ra57 rn57 rc57 v57 hg2
       have G57:=Lib.hid hg2
       refine hK _ _ (fun _=>HSB.out _ G57.out.bel) ?_
       clear hK K hg2 G56
       refine RN.all (rs:=[10]) (by kernel_rfl) (by simp) ?_
       refine RN.All.cons rfl (fun K hK=>?_) RN.All.nil
       refine wantI (by rfl) ?_
       refine wp_B G57.out (.tmp 69) (.tmp 71) rfl rfl CBX.out rfl (by omega) ?_
       intro ra58 rn58 rc58 v58 hg2
       have G58:=Lib.hid hg2
       refine hK _ _ (fun _=>HSB.out _ G58.out.bel) ?_
       clear hK K hg2 G57
       refine RN.all (rs:=[13]) (by kernel_rfl) (by simp) ?_
       refine RN.All.cons rfl (fun K hK=>?_) RN.All.nil
       refine wantI (by rfl) ?_
       refine wp_B G58.out (.tmp 72) (.tmp 74) rfl rfl CBY.out rfl (by omega) ?_
       intro ra59 rn59 rc59 v59 hg2
       have G59:=Lib.hid hg2
       refine hK _ _ (fun _=>HSB.out _ G59.out.bel) ?_
       clear hK K hg2 G58
       have hS:=HSB.out _ G59.out.bel
       refine RN.take (i:=14) (v:=?_) rfl (by decide) (by kernel_rfl) (by kernel_rfl) (by kernel_rfl) (by kernel_rfl) (by kernel_rfl) (by first | exact fun _ _ _ h=>h | exact fun _ _ _ h=>(by cases h.1) | exact fun _ _ _ h=>door_put (by decide) h) (.inl ⟨by rfl,?_⟩) hS ?_
       rotate_left 1
       ·(intro wq hq;skip;go_simp;try with_reducible rfl)
       clear hS
       have hn1:=(G59.out.n _ rfl).1
       unfold Z8 at hn1
       have n0:=cell_of_row _ _ 0 _ _ _ hn1;have n1:=cell_of_row _ _ 1 _ _ _ hn1;have n2:=cell_of_row _ _ 2 _ _ _ hn1;have n3:=cell_of_row _ _ 3 _ _ _ hn1;have n4:=cell_of_row _ _ 4 _ _ _ hn1;have n5:=cell_of_row _ _ 5 _ _ _ hn1;have n6:=cell_of_row _ _ 6 _ _ _ hn1;have n7:=cell_of_row _ _ 7 _ _ _ hn1
       have f0:=frozen_of_row _ _ 0 _ _ hn1;have f1:=frozen_of_row _ _ 1 _ _ hn1;have f2:=frozen_of_row _ _ 2 _ _ hn1;have f3:=frozen_of_row _ _ 3 _ _ hn1;have f4:=frozen_of_row _ _ 4 _ _ hn1;have f5:=frozen_of_row _ _ 5 _ _ hn1;have f6:=frozen_of_row _ _ 6 _ _ hn1;have f7:=frozen_of_row _ _ 7 _ _ hn1
       simp at n0 n1 n2 n3 n4 n5 n6 n7
       clear hn1
       refine RN.all (rs:=[16]) (by kernel_rfl) (by simp) ?_
       refine RN.All.cons rfl (fun K hK=>?_) RN.All.nil
       go_simp
       refine hK _ _ (fun h=>absurd h (by decide)) ?_
       clear hK K n0 n1 n2 n3 n4 n5 n6 n7 f0 f1 f2 f3 f4 f5 f6 f7
       refine RN.done (by kernel_rfl) ?_ _
       go_wp2_with fail
       go_meet
       exact ⟨_,rfl,fin_of G59.out CAX.out CAY.out CBX.out CBY.out (by omega) (by omega)⟩
     ·go_simp
      have G60:=Lib.hid G1.out.newN
      refine hK _ _ (fun _=>HSB.out _ G60.out.bel) ?_
      have e15:v1.alloc (.cells #[.int .i64 0,.string ⟨#[]⟩,.bool false,.slice none 0 0,.slice none 0 0,.slice none 0 0,.slice none 0 0,.slice none 0 0] 28) = v1.alloc Z8:=rfl
      rw [e15]
      clear e15
      generalize v1.alloc Z8 = v60 at G60 ⊢
      clear hK K G1
      refine RN.all (rs:=[3,7]) (by kernel_rfl) (by simp) ?_
      refine RN.All.cons rfl (fun K hK=>?_) (RN.All.cons rfl (fun K hK=>?_) RN.All.nil)
      ·refine wantI (by rfl) ?_
       refine wp_A G60.out (.tmp 62) (.tmp 64) rfl rfl CAX.out rfl (by omega) ?_
       intro ra61 rn61 rc61 v61 hg2
       have G61:=Lib.hid hg2
       refine hK _ _ (fun _=>HSB.out _ G61.out.bel) ?_
       clear hK K hg2 G60
       refine RN.all (rs:=[6,7]) (by kernel_rfl) (by simp) ?_
       refine RN.All.cons rfl (fun K hK=>?_) (RN.All.cons rfl (fun K hK=>?_) RN.All.nil)
       ·refine wantI (by rfl) ?_
        refine wp_A G61.out (.tmp 65) (.tmp 67) rfl rfl CAY.out rfl (by omega) ?_
        intro ra62 rn62 rc62 v62 hg2
        have G62:=Lib.hid hg2
        refine hK _ _ (fun _=>HSB.out _ G62.out.bel) ?_
        clear hK K hg2 G61
        refine RN.all (rs:=[7]) (by kernel_rfl) (by simp) ?_
        refine RN.All.cons rfl (fun K hK=>?_) RN.All.nil
        go_simp
        have G63:=Lib.hid G62.out.newB
        refine hK _ _ (fun _=>HSB.out _ G63.out.bel) ?_
        generalize (v62.alloc (.cells #[] 4)) = v63 at G63 ⊢
        clear hK K G62
        refine RN.all (rs:=[10]) (by kernel_rfl) (by simp) ?_
        refine RN.All.cons rfl (fun K hK=>?_) RN.All.nil
        refine wantI (by rfl) ?_
        refine wp_B G63.out (.tmp 69) (.tmp 71) rfl rfl CBX.out rfl (by omega) ?_
        intro ra64 rn64 rc64 v64 hg2
        have G64:=Lib.hid hg2
        refine hK _ _ (fun _=>HSB.out _ G64.out.bel) ?_
        clear hK K hg2 G63
        refine RN.all (rs:=[13]) (by kernel_rfl) (by simp) ?_
        refine RN.All.cons rfl (fun K hK=>?_) RN.All.nil
        refine wantI (by rfl) ?_
        refine wp_B G64.out (.tmp 72) (.tmp 74) rfl rfl CBY.out rfl (by omega) ?_
        intro ra65 rn65 rc65 v65 hg2
        have G65:=Lib.hid hg2
        refine hK _ _ (fun _=>HSB.out _ G65.out.bel) ?_
        clear hK K hg2 G64
        have hS:=HSB.out _ G65.out.bel
        refine RN.take (i:=14) (v:=?_) rfl (by decide) (by kernel_rfl) (by kernel_rfl) (by kernel_rfl) (by kernel_rfl) (by kernel_rfl) (by first | exact fun _ _ _ h=>h | exact fun _ _ _ h=>(by cases h.1) | exact fun _ _ _ h=>door_put (by decide) h) (.inl ⟨by rfl,?_⟩) hS ?_
        rotate_left 1
        ·(intro wq hq;skip;go_simp;try with_reducible rfl)
        clear hS
        have hn1:=(G65.out.n _ rfl).1
        unfold Z8 at hn1
        have n0:=cell_of_row _ _ 0 _ _ _ hn1;have n1:=cell_of_row _ _ 1 _ _ _ hn1;have n2:=cell_of_row _ _ 2 _ _ _ hn1;have n3:=cell_of_row _ _ 3 _ _ _ hn1;have n4:=cell_of_row _ _ 4 _ _ _ hn1;have n5:=cell_of_row _ _ 5 _ _ _ hn1;have n6:=cell_of_row _ _ 6 _ _ _ hn1;have n7:=cell_of_row _ _ 7 _ _ _ hn1
        have f0:=frozen_of_row _ _ 0 _ _ hn1;have f1:=frozen_of_row _ _ 1 _ _ hn1;have f2:=frozen_of_row _ _ 2 _ _ hn1;have f3:=frozen_of_row _ _ 3 _ _ hn1;have f4:=frozen_of_row _ _ 4 _ _ hn1;have f5:=frozen_of_row _ _ 5 _ _ hn1;have f6:=frozen_of_row _ _ 6 _ _ hn1;have f7:=frozen_of_row _ _ 7 _ _ hn1
        simp at n0 n1 n2 n3 n4 n5 n6 n7
        clear hn1
        refine RN.all (rs:=[16]) (by kernel_rfl) (by simp) ?_
        refine RN.All.cons rfl (fun K hK=>?_) RN.All.nil
        go_simp
        refine hK _ _ (fun h=>absurd h (by decide)) ?_
        clear hK K n0 n1 n2 n3 n4 n5 n6 n7 f0 f1 f2 f3 f4 f5 f6 f7
        refine RN.done (by kernel_rfl) ?_ _
        go_wp2_with fail
        go_meet
        exact ⟨_,rfl,fin_of G65.out CAX.out CAY.out CBX.out CBY.out (by omega) (by omega)⟩
       ·go_simp
        have G66:=Lib.hid G61.out.newB
        refine hK _ _ (fun _=>HSB.out _ G66.out.bel) ?_
        generalize (v61.alloc (.cells #[] 4)) = v66 at G66 ⊢
        clear hK K G61
        refine RN.all (rs:=[6]) (by kernel_rfl) (by simp) ?_
        refine RN.All.cons rfl (fun K hK=>?_) RN.All.nil
        refine wantI (by rfl) ?_
        refine wp_A G66.out (.tmp 65) (.tmp 67) rfl rfl CAY.out rfl (by omega) ?_
        intro ra67 rn67 rc67 v67 hg2
        have G67:=Lib.hid hg2
        refine hK _ _ (fun _=>HSB.out _ G67.out.bel) ?_
        clear hK K hg2 G66
        refine RN.all (rs:=[10]) (by kernel_rfl) (by simp) ?_
        refine RN.All.cons rfl (fun K hK=>?_) RN.All.nil
        refine wantI (by rfl) ?_
        refine wp_B G67.out (.tmp 69) (.tmp 71) rfl rfl CBX.out rfl (by omega) ?_
        intro ra68 rn68 rc68 v68 hg2
        have G68:=Lib.hid hg2
        refine hK _ _ (fun _=>HSB.out _ G68.out.bel) ?_
        clear hK K hg2 G67
        refine RN.all (rs:=[13]) (by kernel_rfl) (by simp) ?_
        refine RN.All.cons rfl (fun K hK=>?_) RN.All.nil
        refine wantI (by rfl) ?_
        refine wp_B G68.out (.tmp 72) (.tmp 74) rfl rfl CBY.out rfl (by omega) ?_
        intro ra69 rn69 rc69 v69 hg2
        have G69:=Lib.hid hg2
        refine hK _ _ (fun _=>HSB.out _ G69.out.bel) ?_
        clear hK K hg2 G68
        have hS:=HSB.out _ G69.out.bel
        refine RN.take (i:=14) (v:=?_) rfl (by decide) (by kernel_rfl) (by kernel_rfl) (by kernel_rfl) (by kernel_rfl) (by kernel_rfl) (by first | exact fun _ _ _ h=>h | exact fun _ _ _ h=>(by cases h.1) | exact fun _ _ _ h=>door_put (by decide) h) (.inl ⟨by rfl,?_⟩) hS ?_
        rotate_left 1
        ·(intro wq hq;skip;go_simp;try with_reducible rfl)
        clear hS
        have hn1:=(G69.out.n _ rfl).1
        unfold Z8 at hn1
        have n0:=cell_of_row _ _ 0 _ _ _ hn1;have n1:=cell_of_row _ _ 1 _ _ _ hn1;have n2:=cell_of_row _ _ 2 _ _ _ hn1;have n3:=cell_of_row _ _ 3 _ _ _ hn1;have n4:=cell_of_row _ _ 4 _ _ _ hn1;have n5:=cell_of_row _ _ 5 _ _ _ hn1;have n6:=cell_of_row _ _ 6 _ _ _ hn1;have n7:=cell_of_row _ _ 7 _ _ _ hn1
        have f0:=frozen_of_row _ _ 0 _ _ hn1;have f1:=frozen_of_row _ _ 1 _ _ hn1;have f2:=frozen_of_row _ _ 2 _ _ hn1;have f3:=frozen_of_row _ _ 3 _ _ hn1;have f4:=frozen_of_row _ _ 4 _ _ hn1;have f5:=frozen_of_row _ _ 5 _ _ hn1;have f6:=frozen_of_row _ _ 6 _ _ hn1;have f7:=frozen_of_row _ _ 7 _ _ hn1
        simp at n0 n1 n2 n3 n4 n5 n6 n7
        clear hn1
        refine RN.all (rs:=[16]) (by kernel_rfl) (by simp) ?_
        refine RN.All.cons rfl (fun K hK=>?_) RN.All.nil
        go_simp
        refine hK _ _ (fun h=>absurd h (by decide)) ?_
        clear hK K n0 n1 n2 n3 n4 n5 n6 n7 f0 f1 f2 f3 f4 f5 f6 f7
        refine RN.done (by kernel_rfl) ?_ _
        go_wp2_with fail
        go_meet
        exact ⟨_,rfl,fin_of G69.out CAX.out CAY.out CBX.out CBY.out (by omega) (by omega)⟩
      ·go_simp
       have G70:=Lib.hid G60.out.newB
       refine hK _ _ (fun _=>HSB.out _ G70.out.bel) ?_
       generalize (v60.alloc (.cells #[] 4)) = v70 at G70 ⊢
       clear hK K G60
       refine RN.all (rs:=[3]) (by kernel_rfl) (by simp) ?_
       refine RN.All.cons rfl (fun K hK=>?_) RN.All.nil
       refine wantI (by rfl) ?_
       refine wp_A G70.out (.tmp 62) (.tmp 64) rfl rfl CAX.out rfl (by omega) ?_
       intro ra71 rn71 rc71 v71 hg2
       have G71:=Lib.hid hg2
       refine hK _ _ (fun _=>HSB.out _ G71.out.bel) ?_
       clear hK K hg2 G70
       refine RN.all (rs:=[6]) (by kernel_rfl) (by simp) ?_
       refine RN.All.cons rfl (fun K hK=>?_) RN.All.nil
       refine wantI (by rfl) ?_
       refine wp_A G71.out (.tmp 65) (.tmp 67) rfl rfl CAY.out rfl (by omega) ?_
       intro ra72 rn72 rc72 v72 hg2
       have G72:=Lib.hid hg2
       refine hK _ _ (fun _=>HSB.out _ G72.out.bel) ?_
       clear hK K hg2 G71
       refine RN.all (rs:=[10]) (by kernel_rfl) (by simp) ?_
       refine RN.All.cons rfl (fun K hK=>?_) RN.All.nil
       refine wantI (by rfl) ?_
       refine wp_B G72.out (.tmp 69) (.tmp 71) rfl rfl CBX.out rfl (by omega) ?_
       intro ra73 rn73 rc73 v73 hg2
       have G73:=Lib.hid hg2
       refine hK _ _ (fun _=>HSB.out _ G73.out.bel) ?_
       clear hK K hg2 G72
       refine RN.all (rs:=[13]) (by kernel_rfl) (by simp) ?_
       refine RN.All.cons rfl (fun K hK=>?_) RN.All.nil
       refine wantI (by rfl) ?_
       refine wp_B G73.out (.tmp 72) (.tmp 74) rfl rfl CBY.out rfl (by omega) ?_
       intro ra74 rn74 rc74 v74 hg2
       have G74:=Lib.hid hg2
       refine hK _ _ (fun _=>HSB.out _ G74.out.bel) ?_
       clear hK K hg2 G73
       have hS:=HSB.out _ G74.out.bel
       refine RN.take (i:=14) (v:=?_) rfl (by decide) (by kernel_rfl) (by kernel_rfl) (by kernel_rfl) (by kernel_rfl) (by kernel_rfl) (by first | exact fun _ _ _ h=>h | exact fun _ _ _ h=>(by cases h.1) | exact fun _ _ _ h=>door_put (by decide) h) (.inl ⟨by rfl,?_⟩) hS ?_
       rotate_left 1
       ·(intro wq hq;skip;go_simp;try with_reducible rfl)
       clear hS
       have hn1:=(G74.out.n _ rfl).1
       unfold Z8 at hn1
       have n0:=cell_of_row _ _ 0 _ _ _ hn1;have n1:=cell_of_row _ _ 1 _ _ _ hn1;have n2:=cell_of_row _ _ 2 _ _ _ hn1;have n3:=cell_of_row _ _ 3 _ _ _ hn1;have n4:=cell_of_row _ _ 4 _ _ _ hn1;have n5:=cell_of_row _ _ 5 _ _ _ hn1;have n6:=cell_of_row _ _ 6 _ _ _ hn1;have n7:=cell_of_row _ _ 7 _ _ _ hn1
       have f0:=frozen_of_row _ _ 0 _ _ hn1;have f1:=frozen_of_row _ _ 1 _ _ hn1;have f2:=frozen_of_row _ _ 2 _ _ hn1;have f3:=frozen_of_row _ _ 3 _ _ hn1;have f4:=frozen_of_row _ _ 4 _ _ hn1;have f5:=frozen_of_row _ _ 5 _ _ hn1;have f6:=frozen_of_row _ _ 6 _ _ hn1;have f7:=frozen_of_row _ _ 7 _ _ hn1
       simp at n0 n1 n2 n3 n4 n5 n6 n7
       clear hn1
       refine RN.all (rs:=[16]) (by kernel_rfl) (by simp) ?_
       refine RN.All.cons rfl (fun K hK=>?_) RN.All.nil
       go_simp
       refine hK _ _ (fun h=>absurd h (by decide)) ?_
       clear hK K n0 n1 n2 n3 n4 n5 n6 n7 f0 f1 f2 f3 f4 f5 f6 f7
       refine RN.done (by kernel_rfl) ?_ _
       go_wp2_with fail
       go_meet
       exact ⟨_,rfl,fin_of G74.out CAX.out CAY.out CBX.out CBY.out (by omega) (by omega)⟩
    ·go_simp
     have G75:=Lib.hid G0.out.newB
     refine hK _ _ (fun _=>HSB.out _ G75.out.bel) ?_
     generalize (v0.alloc (.cells #[] 4)) = v75 at G75 ⊢
     clear hK K G0
     refine RN.all (rs:=[0,15]) (by kernel_rfl) (by simp) ?_
     refine RN.All.cons rfl (fun K hK=>?_) (RN.All.cons rfl (fun K hK=>?_) RN.All.nil)
     ·go_simp
      have G76:=Lib.hid G75.out.newA
      refine hK _ _ (fun _=>HSB.out _ G76.out.bel) ?_
      generalize (v75.alloc (.cells #[] 28)) = v76 at G76 ⊢
      clear hK K G75
      refine RN.all (rs:=[3,15]) (by kernel_rfl) (by simp) ?_
      refine RN.All.cons rfl (fun K hK=>?_) (RN.All.cons rfl (fun K hK=>?_) RN.All.nil)
      ·refine wantI (by rfl) ?_
       refine wp_A G76.out (.tmp 62) (.tmp 64) rfl rfl CAX.out rfl (by omega) ?_
       intro ra77 rn77 rc77 v77 hg2
       have G77:=Lib.hid hg2
       refine hK _ _ (fun _=>HSB.out _ G77.out.bel) ?_
       clear hK K hg2 G76
       refine RN.all (rs:=[6,15]) (by kernel_rfl) (by simp) ?_
       refine RN.All.cons rfl (fun K hK=>?_) (RN.All.cons rfl (fun K hK=>?_) RN.All.nil)
       ·refine wantI (by rfl) ?_
        refine wp_A G77.out (.tmp 65) (.tmp 67) rfl rfl CAY.out rfl (by omega) ?_
        intro ra78 rn78 rc78 v78 hg2
        have G78:=Lib.hid hg2
        refine hK _ _ (fun _=>HSB.out _ G78.out.bel) ?_
        clear hK K hg2 G77
        refine RN.all (rs:=[10,15]) (by kernel_rfl) (by simp) ?_
        refine RN.All.cons rfl (fun K hK=>?_) (RN.All.cons rfl (fun K hK=>?_) RN.All.nil)
        ·refine wantI (by rfl) ?_
         refine wp_B G78.out (.tmp 69) (.tmp 71) rfl rfl CBX.out rfl (by omega) ?_
         intro ra79 rn79 rc79 v79 hg2
         have G79:=Lib.hid hg2
         refine hK _ _ (fun _=>HSB.out _ G79.out.bel) ?_
         clear hK K hg2 G78
         refine RN.all (rs:=[13,15]) (by kernel_rfl) (by simp) ?_
         refine RN.All.cons rfl (fun K hK=>?_) (RN.All.cons rfl (fun K hK=>?_) RN.All.nil)
         ·refine wantI (by rfl) ?_
          refine wp_B G79.out (.tmp 72) (.tmp 74) rfl rfl CBY.out rfl (by omega) ?_
          intro ra80 rn80 rc80 v80 hg2
          have G80:=Lib.hid hg2
          refine hK _ _ (fun _=>HSB.out _ G80.out.bel) ?_
          clear hK K hg2 G79
          have hS:=HSB.out _ G80.out.bel
          refine RN.take (i:=14) (v:=?_) rfl (by decide) (by kernel_rfl) (by kernel_rfl) (by kernel_rfl) (by kernel_rfl) (by kernel_rfl) (by first | exact fun _ _ _ h=>h | exact fun _ _ _ h=>(by cases h.1) | exact fun _ _ _ h=>door_put (by decide) h) (.inl ⟨by rfl,?_⟩) hS ?_
          rotate_left 1
          ·(intro wq hq;skip;go_simp;try with_reducible rfl)
          clear hS
          refine RN.all (rs:=[15]) (by kernel_rfl) (by simp) ?_
          refine RN.All.cons rfl (fun K hK=>?_) RN.All.nil
          go_simp
          have G81:=Lib.hid G80.out.newN
          refine hK _ _ (fun _=>HSB.out _ G81.out.bel) ?_
          have e15:v80.alloc (.cells #[.int .i64 0,.string ⟨#[]⟩,.bool false,.slice none 0 0,.slice none 0 0,.slice none 0 0,.slice none 0 0,.slice none 0 0] 28) = v80.alloc Z8:=rfl
          rw [e15]
          clear e15
          generalize v80.alloc Z8 = v81 at G81 ⊢
          clear hK K G80
          have hn1:=(G81.out.n _ rfl).1
          unfold Z8 at hn1
          have n0:=cell_of_row _ _ 0 _ _ _ hn1;have n1:=cell_of_row _ _ 1 _ _ _ hn1;have n2:=cell_of_row _ _ 2 _ _ _ hn1;have n3:=cell_of_row _ _ 3 _ _ _ hn1;have n4:=cell_of_row _ _ 4 _ _ _ hn1;have n5:=cell_of_row _ _ 5 _ _ _ hn1;have n6:=cell_of_row _ _ 6 _ _ _ hn1;have n7:=cell_of_row _ _ 7 _ _ _ hn1
          have f0:=frozen_of_row _ _ 0 _ _ hn1;have f1:=frozen_of_row _ _ 1 _ _ hn1;have f2:=frozen_of_row _ _ 2 _ _ hn1;have f3:=frozen_of_row _ _ 3 _ _ hn1;have f4:=frozen_of_row _ _ 4 _ _ hn1;have f5:=frozen_of_row _ _ 5 _ _ hn1;have f6:=frozen_of_row _ _ 6 _ _ hn1;have f7:=frozen_of_row _ _ 7 _ _ hn1
          simp at n0 n1 n2 n3 n4 n5 n6 n7
          clear hn1
          refine RN.all (rs:=[16]) (by kernel_rfl) (by simp) ?_
          refine RN.All.cons rfl (fun K hK=>?_) RN.All.nil
          go_simp
          refine hK _ _ (fun h=>absurd h (by decide)) ?_
          clear hK K n0 n1 n2 n3 n4 n5 n6 n7 f0 f1 f2 f3 f4 f5 f6 f7
          refine RN.done (by kernel_rfl) ?_ _
          go_wp2_with fail
          go_meet
          exact ⟨_,rfl,fin_of G81.out CAX.out CAY.out CBX.out CBY.out (by omega) (by omega)⟩
         ·go_simp
          have G82:=Lib.hid G79.out.newN
          refine hK _ _ (fun _=>HSB.out _ G82.out.bel) ?_
          have e15:v79.alloc (.cells #[.int .i64 0,.string ⟨#[]⟩,.bool false,.slice none 0 0,.slice none 0 0,.slice none 0 0,.slice none 0 0,.slice none 0 0] 28) = v79.alloc Z8:=rfl
          rw [e15]
          clear e15
          generalize v79.alloc Z8 = v82 at G82 ⊢
          clear hK K G79
          refine RN.all (rs:=[13]) (by kernel_rfl) (by simp) ?_
          refine RN.All.cons rfl (fun K hK=>?_) RN.All.nil
          refine wantI (by rfl) ?_
          refine wp_B G82.out (.tmp 72) (.tmp 74) rfl rfl CBY.out rfl (by omega) ?_
          intro ra83 rn83 rc83 v83 hg2
          have G83:=Lib.hid hg2
          refine hK _ _ (fun _=>HSB.out _ G83.out.bel) ?_
          clear hK K hg2 G82
          have hS:=HSB.out _ G83.out.bel
          refine RN.take (i:=14) (v:=?_) rfl (by decide) (by kernel_rfl) (by kernel_rfl) (by kernel_rfl) (by kernel_rfl) (by kernel_rfl) (by first | exact fun _ _ _ h=>h | exact fun _ _ _ h=>(by cases h.1) | exact fun _ _ _ h=>door_put (by decide) h) (.inl ⟨by rfl,?_⟩) hS ?_
          rotate_left 1
          ·(intro wq hq;skip;go_simp;try with_reducible rfl)
          clear hS
          have hn1:=(G83.out.n _ rfl).1
          unfold Z8 at hn1
          have n0:=cell_of_row _ _ 0 _ _ _ hn1;have n1:=cell_of_row _ _ 1 _ _ _ hn1;have n2:=cell_of_row _ _ 2 _ _ _ hn1;have n3:=cell_of_row _ _ 3 _ _ _ hn1;have n4:=cell_of_row _ _ 4 _ _ _ hn1;have n5:=cell_of_row _ _ 5 _ _ _ hn1;have n6:=cell_of_row _ _ 6 _ _ _ hn1;have n7:=cell_of_row _ _ 7 _ _ _ hn1
          have f0:=frozen_of_row _ _ 0 _ _ hn1;have f1:=frozen_of_row _ _ 1 _ _ hn1;have f2:=frozen_of_row _ _ 2 _ _ hn1;have f3:=frozen_of_row _ _ 3 _ _ hn1;have f4:=frozen_of_row _ _ 4 _ _ hn1;have f5:=frozen_of_row _ _ 5 _ _ hn1;have f6:=frozen_of_row _ _ 6 _ _ hn1;have f7:=frozen_of_row _ _ 7 _ _ hn1
          simp at n0 n1 n2 n3 n4 n5 n6 n7
          clear hn1
          refine RN.all (rs:=[16]) (by kernel_rfl) (by simp) ?_
          refine RN.All.cons rfl (fun K hK=>?_) RN.All.nil
          go_simp
          refine hK _ _ (fun h=>absurd h (by decide)) ?_
          clear hK K n0 n1 n2 n3 n4 n5 n6 n7 f0 f1 f2 f3 f4 f5 f6 f7
          refine RN.done (by kernel_rfl) ?_ _
          go_wp2_with fail
          go_meet
          exact ⟨_,rfl,fin_of G83.out CAX.out CAY.out CBX.out CBY.out (by omega) (by omega)⟩
        ·go_simp
         have G84:=Lib.hid G78.out.newN
         refine hK _ _ (fun _=>HSB.out _ G84.out.bel) ?_
         have e15:v78.alloc (.cells #[.int .i64 0,.string ⟨#[]⟩,.bool false,.slice none 0 0,.slice none 0 0,.slice none 0 0,.slice none 0 0,.slice none 0 0] 28) = v78.alloc Z8:=rfl
         rw [e15]
         clear e15
         generalize v78.alloc Z8 = v84 at G84 ⊢
         clear hK K G78
         refine RN.all (rs:=[10]) (by kernel_rfl) (by simp) ?_
         refine RN.All.cons rfl (fun K hK=>?_) RN.All.nil
         refine wantI (by rfl) ?_
         refine wp_B G84.out (.tmp 69) (.tmp 71) rfl rfl CBX.out rfl (by omega) ?_
         intro ra85 rn85 rc85 v85 hg2
         have G85:=Lib.hid hg2
         refine hK _ _ (fun _=>HSB.out _ G85.out.bel) ?_
         clear hK K hg2 G84
         refine RN.all (rs:=[13]) (by kernel_rfl) (by simp) ?_
         refine RN.All.cons rfl (fun K hK=>?_) RN.All.nil
         refine wantI (by rfl) ?_
         refine wp_B G85.out (.tmp 72) (.tmp 74) rfl rfl CBY.out rfl (by omega) ?_
         intro ra86 rn86 rc86 v86 hg2
         have G86:=Lib.hid hg2
         refine hK _ _ (fun _=>HSB.out _ G86.out.bel) ?_
         clear hK K hg2 G85
         have hS:=HSB.out _ G86.out.bel
         refine RN.take (i:=14) (v:=?_) rfl (by decide) (by kernel_rfl) (by kernel_rfl) (by kernel_rfl) (by kernel_rfl) (by kernel_rfl) (by first | exact fun _ _ _ h=>h | exact fun _ _ _ h=>(by cases h.1) | exact fun _ _ _ h=>door_put (by decide) h) (.inl ⟨by rfl,?_⟩) hS ?_
         rotate_left 1
         ·(intro wq hq;skip;go_simp;try with_reducible rfl)
         clear hS
         have hn1:=(G86.out.n _ rfl).1
         unfold Z8 at hn1
         have n0:=cell_of_row _ _ 0 _ _ _ hn1;have n1:=cell_of_row _ _ 1 _ _ _ hn1;have n2:=cell_of_row _ _ 2 _ _ _ hn1;have n3:=cell_of_row _ _ 3 _ _ _ hn1;have n4:=cell_of_row _ _ 4 _ _ _ hn1;have n5:=cell_of_row _ _ 5 _ _ _ hn1;have n6:=cell_of_row _ _ 6 _ _ _ hn1;have n7:=cell_of_row _ _ 7 _ _ _ hn1
         have f0:=frozen_of_row _ _ 0 _ _ hn1;have f1:=frozen_of_row _ _ 1 _ _ hn1;have f2:=frozen_of_row _ _ 2 _ _ hn1;have f3:=frozen_of_row _ _ 3 _ _ hn1;have f4:=frozen_of_row _ _ 4 _ _ hn1;have f5:=frozen_of_row _ _ 5 _ _ hn1;have f6:=frozen_of_row _ _ 6 _ _ hn1;have f7:=frozen_of_row _ _ 7 _ _ hn1
         simp at n0 n1 n2 n3 n4 n5 n6 n7
         clear hn1
         refine RN.all (rs:=[16]) (by kernel_rfl) (by simp) ?_
         refine RN.All.cons rfl (fun K hK=>?_) RN.All.nil
         go_simp
         refine hK _ _ (fun h=>absurd h (by decide)) ?_
         clear hK K n0 n1 n2 n3 n4 n5 n6 n7 f0 f1 f2 f3 f4 f5 f6 f7
         refine RN.done (by kernel_rfl) ?_ _
         go_wp2_with fail
         go_meet
         exact ⟨_,rfl,fin_of G86.out CAX.out CAY.out CBX.out CBY.out (by omega) (by omega)⟩
       ·go_simp
        have G87:=Lib.hid G77.out.newN
        refine hK _ _ (fun _=>HSB.out _ G87.out.bel) ?_
        have e15:v77.alloc (.cells #[.int .i64 0,.string ⟨#[]⟩,.bool false,.slice none 0 0,.slice none 0 0,.slice none 0 0,.slice none 0 0,.slice none 0 0] 28) = v77.alloc Z8:=rfl
        rw [e15]
        clear e15
        generalize v77.alloc Z8 = v87 at G87 ⊢
        clear hK K G77
        refine RN.all (rs:=[6]) (by kernel_rfl) (by simp) ?_
        refine RN.All.cons rfl (fun K hK=>?_) RN.All.nil
        refine wantI (by rfl) ?_
        refine wp_A G87.out (.tmp 65) (.tmp 67) rfl rfl CAY.out rfl (by omega) ?_
        intro ra88 rn88 rc88 v88 hg2
        have G88:=Lib.hid hg2
        refine hK _ _ (fun _=>HSB.out _ G88.out.bel) ?_
        clear hK K hg2 G87
        refine RN.all (rs:=[10]) (by kernel_rfl) (by simp) ?_
        refine RN.All.cons rfl (fun K hK=>?_) RN.All.nil
        refine wantI (by rfl) ?_
        refine wp_B G88.out (.tmp 69) (.tmp 71) rfl rfl CBX.out rfl (by omega) ?_
        intro ra89 rn89 rc89 v89 hg2
        have G89:=Lib.hid hg2
        refine hK _ _ (fun _=>HSB.out _ G89.out.bel) ?_
        clear hK K hg2 G88
        refine RN.all (rs:=[13]) (by kernel_rfl) (by simp) ?_
        refine RN.All.cons rfl (fun K hK=>?_) RN.All.nil
        refine wantI (by rfl) ?_
        refine wp_B G89.out (.tmp 72) (.tmp 74) rfl rfl CBY.out rfl (by omega) ?_
        intro ra90 rn90 rc90 v90 hg2
        have G90:=Lib.hid hg2
        refine hK _ _ (fun _=>HSB.out _ G90.out.bel) ?_
        clear hK K hg2 G89
        have hS:=HSB.out _ G90.out.bel
        refine RN.take (i:=14) (v:=?_) rfl (by decide) (by kernel_rfl) (by kernel_rfl) (by kernel_rfl) (by kernel_rfl) (by kernel_rfl) (by first | exact fun _ _ _ h=>h | exact fun _ _ _ h=>(by cases h.1) | exact fun _ _ _ h=>door_put (by decide) h) (.inl ⟨by rfl,?_⟩) hS ?_
        rotate_left 1
        ·(intro wq hq;skip;go_simp;try with_reducible rfl)
        clear hS
        have hn1:=(G90.out.n _ rfl).1
        unfold Z8 at hn1
        have n0:=cell_of_row _ _ 0 _ _ _ hn1;have n1:=cell_of_row _ _ 1 _ _ _ hn1;have n2:=cell_of_row _ _ 2 _ _ _ hn1;have n3:=cell_of_row _ _ 3 _ _ _ hn1;have n4:=cell_of_row _ _ 4 _ _ _ hn1;have n5:=cell_of_row _ _ 5 _ _ _ hn1;have n6:=cell_of_row _ _ 6 _ _ _ hn1;have n7:=cell_of_row _ _ 7 _ _ _ hn1
        have f0:=frozen_of_row _ _ 0 _ _ hn1;have f1:=frozen_of_row _ _ 1 _ _ hn1;have f2:=frozen_of_row _ _ 2 _ _ hn1;have f3:=frozen_of_row _ _ 3 _ _ hn1;have f4:=frozen_of_row _ _ 4 _ _ hn1;have f5:=frozen_of_row _ _ 5 _ _ hn1;have f6:=frozen_of_row _ _ 6 _ _ hn1;have f7:=frozen_of_row _ _ 7 _ _ hn1
        simp at n0 n1 n2 n3 n4 n5 n6 n7
        clear hn1
        refine RN.all (rs:=[16]) (by kernel_rfl) (by simp) ?_
        refine RN.All.cons rfl (fun K hK=>?_) RN.All.nil
        go_simp
        refine hK _ _ (fun h=>absurd h (by decide)) ?_
        clear hK K n0 n1 n2 n3 n4 n5 n6 n7 f0 f1 f2 f3 f4 f5 f6 f7
        refine RN.done (by kernel_rfl) ?_ _
        go_wp2_with fail
        go_meet
        exact ⟨_,rfl,fin_of G90.out CAX.out CAY.out CBX.out CBY.out (by omega) (by omega)⟩
      ·go_simp
       have G91:=Lib.hid G76.out.newN
       refine hK _ _ (fun _=>HSB.out _ G91.out.bel) ?_
       have e15:v76.alloc (.cells #[.int .i64 0,.string ⟨#[]⟩,.bool false,.slice none 0 0,.slice none 0 0,.slice none 0 0,.slice none 0 0,.slice none 0 0] 28) = v76.alloc Z8:=rfl
       rw [e15]
       clear e15
       generalize v76.alloc Z8 = v91 at G91 ⊢
       clear hK K G76
       refine RN.all (rs:=[3]) (by kernel_rfl) (by simp) ?_
       refine RN.All.cons rfl (fun K hK=>?_) RN.All.nil
       refine wantI (by rfl) ?_
       refine wp_A G91.out (.tmp 62) (.tmp 64) rfl rfl CAX.out rfl (by omega) ?_
       intro ra92 rn92 rc92 v92 hg2
       have G92:=Lib.hid hg2
       refine hK _ _ (fun _=>HSB.out _ G92.out.bel) ?_
       clear hK K hg2 G91
       refine RN.all (rs:=[6]) (by kernel_rfl) (by simp) ?_
       refine RN.All.cons rfl (fun K hK=>?_) RN.All.nil
       refine wantI (by rfl) ?_
       refine wp_A G92.out (.tmp 65) (.tmp 67) rfl rfl CAY.out rfl (by omega) ?_
       intro ra93 rn93 rc93 v93 hg2
       have G93:=Lib.hid hg2
       refine hK _ _ (fun _=>HSB.out _ G93.out.bel) ?_
       clear hK K hg2 G92
       refine RN.all (rs:=[10]) (by kernel_rfl) (by simp) ?_
       refine RN.All.cons rfl (fun K hK=>?_) RN.All.nil
       refine wantI (by rfl) ?_
       refine wp_B G93.out (.tmp 69) (.tmp 71) rfl rfl CBX.out rfl (by omega) ?_
       intro ra94 rn94 rc94 v94 hg2
       have G94:=Lib.hid hg2
       refine hK _ _ (fun _=>HSB.out _ G94.out.bel) ?_
       clear hK K hg2 G93
       refine RN.all (rs:=[13]) (by kernel_rfl) (by simp) ?_
       refine RN.All.cons rfl (fun K hK=>?_) RN.All.nil
       refine wantI (by rfl) ?_
       refine wp_B G94.out (.tmp 72) (.tmp 74) rfl rfl CBY.out rfl (by omega) ?_
       intro ra95 rn95 rc95 v95 hg2
       have G95:=Lib.hid hg2
       refine hK _ _ (fun _=>HSB.out _ G95.out.bel) ?_
       clear hK K hg2 G94
       have hS:=HSB.out _ G95.out.bel
       refine RN.take (i:=14) (v:=?_) rfl (by decide) (by kernel_rfl) (by kernel_rfl) (by kernel_rfl) (by kernel_rfl) (by kernel_rfl) (by first | exact fun _ _ _ h=>h | exact fun _ _ _ h=>(by cases h.1) | exact fun _ _ _ h=>door_put (by decide) h) (.inl ⟨by rfl,?_⟩) hS ?_
       rotate_left 1
       ·(intro wq hq;skip;go_simp;try with_reducible rfl)
       clear hS
       have hn1:=(G95.out.n _ rfl).1
       unfold Z8 at hn1
       have n0:=cell_of_row _ _ 0 _ _ _ hn1;have n1:=cell_of_row _ _ 1 _ _ _ hn1;have n2:=cell_of_row _ _ 2 _ _ _ hn1;have n3:=cell_of_row _ _ 3 _ _ _ hn1;have n4:=cell_of_row _ _ 4 _ _ _ hn1;have n5:=cell_of_row _ _ 5 _ _ _ hn1;have n6:=cell_of_row _ _ 6 _ _ _ hn1;have n7:=cell_of_row _ _ 7 _ _ _ hn1
       have f0:=frozen_of_row _ _ 0 _ _ hn1;have f1:=frozen_of_row _ _ 1 _ _ hn1;have f2:=frozen_of_row _ _ 2 _ _ hn1;have f3:=frozen_of_row _ _ 3 _ _ hn1;have f4:=frozen_of_row _ _ 4 _ _ hn1;have f5:=frozen_of_row _ _ 5 _ _ hn1;have f6:=frozen_of_row _ _ 6 _ _ hn1;have f7:=frozen_of_row _ _ 7 _ _ hn1
       simp at n0 n1 n2 n3 n4 n5 n6 n7
       clear hn1
       refine RN.all (rs:=[16]) (by kernel_rfl) (by simp) ?_
       refine RN.All.cons rfl (fun K hK=>?_) RN.All.nil
       go_simp
       refine hK _ _ (fun h=>absurd h (by decide)) ?_
       clear hK K n0 n1 n2 n3 n4 n5 n6 n7 f0 f1 f2 f3 f4 f5 f6 f7
       refine RN.done (by kernel_rfl) ?_ _
       go_wp2_with fail
       go_meet
       exact ⟨_,rfl,fin_of G95.out CAX.out CAY.out CBX.out CBY.out (by omega) (by omega)⟩
     ·go_simp
      have G96:=Lib.hid G75.out.newN
      refine hK _ _ (fun _=>HSB.out _ G96.out.bel) ?_
      have e15:v75.alloc (.cells #[.int .i64 0,.string ⟨#[]⟩,.bool false,.slice none 0 0,.slice none 0 0,.slice none 0 0,.slice none 0 0,.slice none 0 0] 28) = v75.alloc Z8:=rfl
      rw [e15]
      clear e15
      generalize v75.alloc Z8 = v96 at G96 ⊢
      clear hK K G75
      refine RN.all (rs:=[0]) (by kernel_rfl) (by simp) ?_
      refine RN.All.cons rfl (fun K hK=>?_) RN.All.nil
      go_simp
      have G97:=Lib.hid G96.out.newA
      refine hK _ _ (fun _=>HSB.out _ G97.out.bel) ?_
      generalize (v96.alloc (.cells #[] 28)) = v97 at G97 ⊢
      clear hK K G96
      refine RN.all (rs:=[3]) (by kernel_rfl) (by simp) ?_
      refine RN.All.cons rfl (fun K hK=>?_) RN.All.nil
      refine wantI (by rfl) ?_
      refine wp_A G97.out (.tmp 62) (.tmp 64) rfl rfl CAX.out rfl (by omega) ?_
      intro ra98 rn98 rc98 v98 hg2
      have G98:=Lib.hid hg2
      refine hK _ _ (fun _=>HSB.out _ G98.out.bel) ?_
      clear hK K hg2 G97
      refine RN.all (rs:=[6]) (by kernel_rfl) (by simp) ?_
      refine RN.All.cons rfl (fun K hK=>?_) RN.All.nil
      refine wantI (by rfl) ?_
      refine wp_A G98.out (.tmp 65) (.tmp 67) rfl rfl CAY.out rfl (by omega) ?_
      intro ra99 rn99 rc99 v99 hg2
      have G99:=Lib.hid hg2
      refine hK _ _ (fun _=>HSB.out _ G99.out.bel) ?_
      clear hK K hg2 G98
      refine RN.all (rs:=[10]) (by kernel_rfl) (by simp) ?_
      refine RN.All.cons rfl (fun K hK=>?_) RN.All.nil
      refine wantI (by rfl) ?_
      refine wp_B G99.out (.tmp 69) (.tmp 71) rfl rfl CBX.out rfl (by omega) ?_
      intro ra100 rn100 rc100 v100 hg2
      have G100:=Lib.hid hg2
      refine hK _ _ (fun _=>HSB.out _ G100.out.bel) ?_
      clear hK K hg2 G99
      refine RN.all (rs:=[13]) (by kernel_rfl) (by simp) ?_
      refine RN.All.cons rfl (fun K hK=>?_) RN.All.nil
      refine wantI (by rfl) ?_
      refine wp_B G100.out (.tmp 72) (.tmp 74) rfl rfl CBY.out rfl (by omega) ?_
      intro ra101 rn101 rc101 v101 hg2
      have G101:=Lib.hid hg2
      refine hK _ _ (fun _=>HSB.out _ G101.out.bel) ?_
      clear hK K hg2 G100
      have hS:=HSB.out _ G101.out.bel
      refine RN.take (i:=14) (v:=?_) rfl (by decide) (by kernel_rfl) (by kernel_rfl) (by kernel_rfl) (by kernel_rfl) (by kernel_rfl) (by first | exact fun _ _ _ h=>h | exact fun _ _ _ h=>(by cases h.1) | exact fun _ _ _ h=>door_put (by decide) h) (.inl ⟨by rfl,?_⟩) hS ?_
      rotate_left 1
      ·(intro wq hq;skip;go_simp;try with_reducible rfl)
      clear hS
      have hn1:=(G101.out.n _ rfl).1
      unfold Z8 at hn1
      have n0:=cell_of_row _ _ 0 _ _ _ hn1;have n1:=cell_of_row _ _ 1 _ _ _ hn1;have n2:=cell_of_row _ _ 2 _ _ _ hn1;have n3:=cell_of_row _ _ 3 _ _ _ hn1;have n4:=cell_of_row _ _ 4 _ _ _ hn1;have n5:=cell_of_row _ _ 5 _ _ _ hn1;have n6:=cell_of_row _ _ 6 _ _ _ hn1;have n7:=cell_of_row _ _ 7 _ _ _ hn1
      have f0:=frozen_of_row _ _ 0 _ _ hn1;have f1:=frozen_of_row _ _ 1 _ _ hn1;have f2:=frozen_of_row _ _ 2 _ _ hn1;have f3:=frozen_of_row _ _ 3 _ _ hn1;have f4:=frozen_of_row _ _ 4 _ _ hn1;have f5:=frozen_of_row _ _ 5 _ _ hn1;have f6:=frozen_of_row _ _ 6 _ _ hn1;have f7:=frozen_of_row _ _ 7 _ _ hn1
      simp at n0 n1 n2 n3 n4 n5 n6 n7
      clear hn1
      refine RN.all (rs:=[16]) (by kernel_rfl) (by simp) ?_
      refine RN.All.cons rfl (fun K hK=>?_) RN.All.nil
      go_simp
      refine hK _ _ (fun h=>absurd h (by decide)) ?_
      clear hK K n0 n1 n2 n3 n4 n5 n6 n7 f0 f1 f2 f3 f4 f5 f6 f7
      refine RN.done (by kernel_rfl) ?_ _
      go_wp2_with fail
      go_meet
      exact ⟨_,rfl,fin_of G101.out CAX.out CAY.out CBX.out CBY.out (by omega) (by omega)⟩
    ·go_simp
     have G102:=Lib.hid G0.out.newN
     refine hK _ _ (fun _=>HSB.out _ G102.out.bel) ?_
     have e15:v0.alloc (.cells #[.int .i64 0,.string ⟨#[]⟩,.bool false,.slice none 0 0,.slice none 0 0,.slice none 0 0,.slice none 0 0,.slice none 0 0] 28) = v0.alloc Z8:=rfl
     rw [e15]
     clear e15
     generalize v0.alloc Z8 = v102 at G102 ⊢
     clear hK K G0
     refine RN.all (rs:=[0,7]) (by kernel_rfl) (by simp) ?_
     refine RN.All.cons rfl (fun K hK=>?_) (RN.All.cons rfl (fun K hK=>?_) RN.All.nil)
     ·go_simp
      have G103:=Lib.hid G102.out.newA
      refine hK _ _ (fun _=>HSB.out _ G103.out.bel) ?_
      generalize (v102.alloc (.cells #[] 28)) = v103 at G103 ⊢
      clear hK K G102
      refine RN.all (rs:=[3,7]) (by kernel_rfl) (by simp) ?_
      refine RN.All.cons rfl (fun K hK=>?_) (RN.All.cons rfl (fun K hK=>?_) RN.All.nil)
      ·refine wantI (by rfl) ?_
       refine wp_A G103.out (.tmp 62) (.tmp 64) rfl rfl CAX.out rfl (by omega) ?_
       intro ra104 rn104 rc104 v104 hg2
       have G104:=Lib.hid hg2
       refine hK _ _ (fun _=>HSB.out _ G104.out.bel) ?_
       clear hK K hg2 G103
       refine RN.all (rs:=[6,7]) (by kernel_rfl) (by simp) ?_
       refine RN.All.cons rfl (fun K hK=>?_) (RN.All.cons rfl (fun K hK=>?_) RN.All.nil)
       ·refine wantI (by rfl) ?_
        refine wp_A G104.out (.tmp 65) (.tmp 67) rfl rfl CAY.out rfl (by omega) ?_
        intro ra105 rn105 rc105 v105 hg2
        have G105:=Lib.hid hg2
        refine hK _ _ (fun _=>HSB.out _ G105.out.bel) ?_
        clear hK K hg2 G104
        refine RN.all (rs:=[7]) (by kernel_rfl) (by simp) ?_
        refine RN.All.cons rfl (fun K hK=>?_) RN.All.nil
        go_simp
        have G106:=Lib.hid G105.out.newB
        refine hK _ _ (fun _=>HSB.out _ G106.out.bel) ?_
        generalize (v105.alloc (.cells #[] 4)) = v106 at G106 ⊢
        clear hK K G105
        refine RN.all (rs:=[10]) (by kernel_rfl) (by simp) ?_
        refine RN.All.cons rfl (fun K hK=>?_) RN.All.nil
        refine wantI (by rfl) ?_
        refine wp_B G106.out (.tmp 69) (.tmp 71) rfl rfl CBX.out rfl (by omega) ?_
        intro ra107 rn107 rc107 v107 hg2
        have G107:=Lib.hid hg2
        refine hK _ _ (fun _=>HSB.out _ G107.out.bel) ?_
        clear hK K hg2 G106
        refine RN.all (rs:=[13]) (by kernel_rfl) (by simp) ?_
        refine RN.All.cons rfl (fun K hK=>?_) RN.All.nil
        refine wantI (by rfl) ?_
        refine wp_B G107.out (.tmp 72) (.tmp 74) rfl rfl CBY.out rfl (by omega) ?_
        intro ra108 rn108 rc108 v108 hg2
        have G108:=Lib.hid hg2
        refine hK _ _ (fun _=>HSB.out _ G108.out.bel) ?_
        clear hK K hg2 G107
        have hS:=HSB.out _ G108.out.bel
        refine RN.take (i:=14) (v:=?_) rfl (by decide) (by kernel_rfl) (by kernel_rfl) (by kernel_rfl) (by kernel_rfl) (by kernel_rfl) (by first | exact fun _ _ _ h=>h | exact fun _ _ _ h=>(by cases h.1) | exact fun _ _ _ h=>door_put (by decide) h) (.inl ⟨by rfl,?_⟩) hS ?_
        rotate_left 1
        ·(intro wq hq;skip;go_simp;try with_reducible rfl)
        clear hS
        have hn1:=(G108.out.n _ rfl).1
        unfold Z8 at hn1
        have n0:=cell_of_row _ _ 0 _ _ _ hn1;have n1:=cell_of_row _ _ 1 _ _ _ hn1;have n2:=cell_of_row _ _ 2 _ _ _ hn1;have n3:=cell_of_row _ _ 3 _ _ _ hn1;have n4:=cell_of_row _ _ 4 _ _ _ hn1;have n5:=cell_of_row _ _ 5 _ _ _ hn1;have n6:=cell_of_row _ _ 6 _ _ _ hn1;have n7:=cell_of_row _ _ 7 _ _ _ hn1
        have f0:=frozen_of_row _ _ 0 _ _ hn1;have f1:=frozen_of_row _ _ 1 _ _ hn1;have f2:=frozen_of_row _ _ 2 _ _ hn1;have f3:=frozen_of_row _ _ 3 _ _ hn1;have f4:=frozen_of_row _ _ 4 _ _ hn1;have f5:=frozen_of_row _ _ 5 _ _ hn1;have f6:=frozen_of_row _ _ 6 _ _ hn1;have f7:=frozen_of_row _ _ 7 _ _ hn1
        simp at n0 n1 n2 n3 n4 n5 n6 n7
        clear hn1
        refine RN.all (rs:=[16]) (by kernel_rfl) (by simp) ?_
        refine RN.All.cons rfl (fun K hK=>?_) RN.All.nil
        go_simp
        refine hK _ _ (fun h=>absurd h (by decide)) ?_
        clear hK K n0 n1 n2 n3 n4 n5 n6 n7 f0 f1 f2 f3 f4 f5 f6 f7
        refine RN.done (by kernel_rfl) ?_ _
        go_wp2_with fail
        go_meet
        exact ⟨_,rfl,fin_of G108.out CAX.out CAY.out CBX.out CBY.out (by omega) (by omega)⟩
       ·go_simp
        have G109:=Lib.hid G104.out.newB
        refine hK _ _ (fun _=>HSB.out _ G109.out.bel) ?_
        generalize (v104.alloc (.cells #[] 4)) = v109 at G109 ⊢
        clear hK K G104
        refine RN.all (rs:=[6]) (by kernel_rfl) (by simp) ?_
        refine RN.All.cons rfl (fun K hK=>?_) RN.All.nil
        refine wantI (by rfl) ?_
        refine wp_A G109.out (.tmp 65) (.tmp 67) rfl rfl CAY.out rfl (by omega) ?_
        intro ra110 rn110 rc110 v110 hg2
        have G110:=Lib.hid hg2
        refine hK _ _ (fun _=>HSB.out _ G110.out.bel) ?_
        clear hK K hg2 G109
        refine RN.all (rs:=[10]) (by kernel_rfl) (by simp) ?_
        refine RN.All.cons rfl (fun K hK=>?_) RN.All.nil
        refine wantI (by rfl) ?_
        refine wp_B G110.out (.tmp 69) (.tmp 71) rfl rfl CBX.out rfl (by omega) ?_
        intro ra111 rn111 rc111 v111 hg2
        have G111:=Lib.hid hg2
        refine hK _ _ (fun _=>HSB.out _ G111.out.bel) ?_
        clear hK K hg2 G110
        refine RN.all (rs:=[13]) (by kernel_rfl) (by simp) ?_
        refine RN.All.cons rfl (fun K hK=>?_) RN.All.nil
        refine wantI (by rfl) ?_
        refine wp_B G111.out (.tmp 72) (.tmp 74) rfl rfl CBY.out rfl (by omega) ?_
        intro ra112 rn112 rc112 v112 hg2
        have G112:=Lib.hid hg2
        refine hK _ _ (fun _=>HSB.out _ G112.out.bel) ?_
        clear hK K hg2 G111
        have hS:=HSB.out _ G112.out.bel
        refine RN.take (i:=14) (v:=?_) rfl (by decide) (by kernel_rfl) (by kernel_rfl) (by kernel_rfl) (by kernel_rfl) (by kernel_rfl) (by first | exact fun _ _ _ h=>h | exact fun _ _ _ h=>(by cases h.1) | exact fun _ _ _ h=>door_put (by decide) h) (.inl ⟨by rfl,?_⟩) hS ?_
        rotate_left 1
        ·(intro wq hq;skip;go_simp;try with_reducible rfl)
        clear hS
        have hn1:=(G112.out.n _ rfl).1
        unfold Z8 at hn1
        have n0:=cell_of_row _ _ 0 _ _ _ hn1;have n1:=cell_of_row _ _ 1 _ _ _ hn1;have n2:=cell_of_row _ _ 2 _ _ _ hn1;have n3:=cell_of_row _ _ 3 _ _ _ hn1;have n4:=cell_of_row _ _ 4 _ _ _ hn1;have n5:=cell_of_row _ _ 5 _ _ _ hn1;have n6:=cell_of_row _ _ 6 _ _ _ hn1;have n7:=cell_of_row _ _ 7 _ _ _ hn1
        have f0:=frozen_of_row _ _ 0 _ _ hn1;have f1:=frozen_of_row _ _ 1 _ _ hn1;have f2:=frozen_of_row _ _ 2 _ _ hn1;have f3:=frozen_of_row _ _ 3 _ _ hn1;have f4:=frozen_of_row _ _ 4 _ _ hn1;have f5:=frozen_of_row _ _ 5 _ _ hn1;have f6:=frozen_of_row _ _ 6 _ _ hn1;have f7:=frozen_of_row _ _ 7 _ _ hn1
        simp at n0 n1 n2 n3 n4 n5 n6 n7
        clear hn1
        refine RN.all (rs:=[16]) (by kernel_rfl) (by simp) ?_
        refine RN.All.cons rfl (fun K hK=>?_) RN.All.nil
        go_simp
        refine hK _ _ (fun h=>absurd h (by decide)) ?_
        clear hK K n0 n1 n2 n3 n4 n5 n6 n7 f0 f1 f2 f3 f4 f5 f6 f7
        refine RN.done (by kernel_rfl) ?_ _
        go_wp2_with fail
        go_meet
        exact ⟨_,rfl,fin_of G112.out CAX.out CAY.out CBX.out CBY.out (by omega) (by omega)⟩
      ·go_simp
       have G113:=Lib.hid G103.out.newB
       refine hK _ _ (fun _=>HSB.out _ G113.out.bel) ?_
       generalize (v103.alloc (.cells #[] 4)) = v113 at G113 ⊢
       clear hK K G103
       refine RN.all (rs:=[3]) (by kernel_rfl) (by simp) ?_
       refine RN.All.cons rfl (fun K hK=>?_) RN.All.nil
       refine wantI (by rfl) ?_
       refine wp_A G113.out (.tmp 62) (.tmp 64) rfl rfl CAX.out rfl (by omega) ?_
       intro ra114 rn114 rc114 v114 hg2
       have G114:=Lib.hid hg2
       refine hK _ _ (fun _=>HSB.out _ G114.out.bel) ?_
       clear hK K hg2 G113
       refine RN.all (rs:=[6]) (by kernel_rfl) (by simp) ?_
       refine RN.All.cons rfl (fun K hK=>?_) RN.All.nil
       refine wantI (by rfl) ?_
       refine wp_A G114.out (.tmp 65) (.tmp 67) rfl rfl CAY.out rfl (by omega) ?_
       intro ra115 rn115 rc115 v115 hg2
       have G115:=Lib.hid hg2
       refine hK _ _ (fun _=>HSB.out _ G115.out.bel) ?_
       clear hK K hg2 G114
       refine RN.all (rs:=[10]) (by kernel_rfl) (by simp) ?_
       refine RN.All.cons rfl (fun K hK=>?_) RN.All.nil
       refine wantI (by rfl) ?_
       refine wp_B G115.out (.tmp 69) (.tmp 71) rfl rfl CBX.out rfl (by omega) ?_
       intro ra116 rn116 rc116 v116 hg2
       have G116:=Lib.hid hg2
       refine hK _ _ (fun _=>HSB.out _ G116.out.bel) ?_
       clear hK K hg2 G115
       refine RN.all (rs:=[13]) (by kernel_rfl) (by simp) ?_
       refine RN.All.cons rfl (fun K hK=>?_) RN.All.nil
       refine wantI (by rfl) ?_
       refine wp_B G116.out (.tmp 72) (.tmp 74) rfl rfl CBY.out rfl (by omega) ?_
       intro ra117 rn117 rc117 v117 hg2
       have G117:=Lib.hid hg2
       refine hK _ _ (fun _=>HSB.out _ G117.out.bel) ?_
       clear hK K hg2 G116
       have hS:=HSB.out _ G117.out.bel
       refine RN.take (i:=14) (v:=?_) rfl (by decide) (by kernel_rfl) (by kernel_rfl) (by kernel_rfl) (by kernel_rfl) (by kernel_rfl) (by first | exact fun _ _ _ h=>h | exact fun _ _ _ h=>(by cases h.1) | exact fun _ _ _ h=>door_put (by decide) h) (.inl ⟨by rfl,?_⟩) hS ?_
       rotate_left 1
       ·(intro wq hq;skip;go_simp;try with_reducible rfl)
       clear hS
       have hn1:=(G117.out.n _ rfl).1
       unfold Z8 at hn1
       have n0:=cell_of_row _ _ 0 _ _ _ hn1;have n1:=cell_of_row _ _ 1 _ _ _ hn1;have n2:=cell_of_row _ _ 2 _ _ _ hn1;have n3:=cell_of_row _ _ 3 _ _ _ hn1;have n4:=cell_of_row _ _ 4 _ _ _ hn1;have n5:=cell_of_row _ _ 5 _ _ _ hn1;have n6:=cell_of_row _ _ 6 _ _ _ hn1;have n7:=cell_of_row _ _ 7 _ _ _ hn1
       have f0:=frozen_of_row _ _ 0 _ _ hn1;have f1:=frozen_of_row _ _ 1 _ _ hn1;have f2:=frozen_of_row _ _ 2 _ _ hn1;have f3:=frozen_of_row _ _ 3 _ _ hn1;have f4:=frozen_of_row _ _ 4 _ _ hn1;have f5:=frozen_of_row _ _ 5 _ _ hn1;have f6:=frozen_of_row _ _ 6 _ _ hn1;have f7:=frozen_of_row _ _ 7 _ _ hn1
       simp at n0 n1 n2 n3 n4 n5 n6 n7
       clear hn1
       refine RN.all (rs:=[16]) (by kernel_rfl) (by simp) ?_
       refine RN.All.cons rfl (fun K hK=>?_) RN.All.nil
       go_simp
       refine hK _ _ (fun h=>absurd h (by decide)) ?_
       clear hK K n0 n1 n2 n3 n4 n5 n6 n7 f0 f1 f2 f3 f4 f5 f6 f7
       refine RN.done (by kernel_rfl) ?_ _
       go_wp2_with fail
       go_meet
       exact ⟨_,rfl,fin_of G117.out CAX.out CAY.out CBX.out CBY.out (by omega) (by omega)⟩
     ·go_simp
      have G118:=Lib.hid G102.out.newB
      refine hK _ _ (fun _=>HSB.out _ G118.out.bel) ?_
      generalize (v102.alloc (.cells #[] 4)) = v118 at G118 ⊢
      clear hK K G102
      refine RN.all (rs:=[0]) (by kernel_rfl) (by simp) ?_
      refine RN.All.cons rfl (fun K hK=>?_) RN.All.nil
      go_simp
      have G119:=Lib.hid G118.out.newA
      refine hK _ _ (fun _=>HSB.out _ G119.out.bel) ?_
      generalize (v118.alloc (.cells #[] 28)) = v119 at G119 ⊢
      clear hK K G118
      refine RN.all (rs:=[3]) (by kernel_rfl) (by simp) ?_
      refine RN.All.cons rfl (fun K hK=>?_) RN.All.nil
      refine wantI (by rfl) ?_
      refine wp_A G119.out (.tmp 62) (.tmp 64) rfl rfl CAX.out rfl (by omega) ?_
      intro ra120 rn120 rc120 v120 hg2
      have G120:=Lib.hid hg2
      refine hK _ _ (fun _=>HSB.out _ G120.out.bel) ?_
      clear hK K hg2 G119
      refine RN.all (rs:=[6]) (by kernel_rfl) (by simp) ?_
      refine RN.All.cons rfl (fun K hK=>?_) RN.All.nil
      refine wantI (by rfl) ?_
      refine wp_A G120.out (.tmp 65) (.tmp 67) rfl rfl CAY.out rfl (by omega) ?_
      intro ra121 rn121 rc121 v121 hg2
      have G121:=Lib.hid hg2
      refine hK _ _ (fun _=>HSB.out _ G121.out.bel) ?_
      clear hK K hg2 G120
      refine RN.all (rs:=[10]) (by kernel_rfl) (by simp) ?_
      refine RN.All.cons rfl (fun K hK=>?_) RN.All.nil
      refine wantI (by rfl) ?_
      refine wp_B G121.out (.tmp 69) (.tmp 71) rfl rfl CBX.out rfl (by omega) ?_
      intro ra122 rn122 rc122 v122 hg2
      have G122:=Lib.hid hg2
      refine hK _ _ (fun _=>HSB.out _ G122.out.bel) ?_
      clear hK K hg2 G121
      refine RN.all (rs:=[13]) (by kernel_rfl) (by simp) ?_
      refine RN.All.cons rfl (fun K hK=>?_) RN.All.nil
      refine wantI (by rfl) ?_
      refine wp_B G122.out (.tmp 72) (.tmp 74) rfl rfl CBY.out rfl (by omega) ?_
      intro ra123 rn123 rc123 v123 hg2
      have G123:=Lib.hid hg2
      refine hK _ _ (fun _=>HSB.out _ G123.out.bel) ?_
      clear hK K hg2 G122
      have hS:=HSB.out _ G123.out.bel
      refine RN.take (i:=14) (v:=?_) rfl (by decide) (by kernel_rfl) (by kernel_rfl) (by kernel_rfl) (by kernel_rfl) (by kernel_rfl) (by first | exact fun _ _ _ h=>h | exact fun _ _ _ h=>(by cases h.1) | exact fun _ _ _ h=>door_put (by decide) h) (.inl ⟨by rfl,?_⟩) hS ?_
      rotate_left 1
      ·(intro wq hq;skip;go_simp;try with_reducible rfl)
      clear hS
      have hn1:=(G123.out.n _ rfl).1
      unfold Z8 at hn1
      have n0:=cell_of_row _ _ 0 _ _ _ hn1;have n1:=cell_of_row _ _ 1 _ _ _ hn1;have n2:=cell_of_row _ _ 2 _ _ _ hn1;have n3:=cell_of_row _ _ 3 _ _ _ hn1;have n4:=cell_of_row _ _ 4 _ _ _ hn1;have n5:=cell_of_row _ _ 5 _ _ _ hn1;have n6:=cell_of_row _ _ 6 _ _ _ hn1;have n7:=cell_of_row _ _ 7 _ _ _ hn1
      have f0:=frozen_of_row _ _ 0 _ _ hn1;have f1:=frozen_of_row _ _ 1 _ _ hn1;have f2:=frozen_of_row _ _ 2 _ _ hn1;have f3:=frozen_of_row _ _ 3 _ _ hn1;have f4:=frozen_of_row _ _ 4 _ _ hn1;have f5:=frozen_of_row _ _ 5 _ _ hn1;have f6:=frozen_of_row _ _ 6 _ _ hn1;have f7:=frozen_of_row _ _ 7 _ _ hn1
      simp at n0 n1 n2 n3 n4 n5 n6 n7
      clear hn1
      refine RN.all (rs:=[16]) (by kernel_rfl) (by simp) ?_
      refine RN.All.cons rfl (fun K hK=>?_) RN.All.nil
      go_simp
      refine hK _ _ (fun h=>absurd h (by decide)) ?_
      clear hK K n0 n1 n2 n3 n4 n5 n6 n7 f0 f1 f2 f3 f4 f5 f6 f7
      refine RN.done (by kernel_rfl) ?_ _
      go_wp2_with fail
      go_meet
      exact ⟨_,rfl,fin_of G123.out CAX.out CAY.out CBX.out CBY.out (by omega) (by omega)⟩
   case rest =>
    obtain ⟨nb,rfl,a3,c3,a4,c4,hn,s3,s4,hbw⟩:=hcut
    have hrz:=(hbw.block _ (Array.getElem?_eq_some_iff.1 HRZ.out).1).trans HRZ.out
    have zc0:=cell_of_row _ _ 0 _ _ _ hrz;have zc1:=cell_of_row _ _ 1 _ _ _ hrz;have zc2:=cell_of_row _ _ 2 _ _ _ hrz;have zc3:=cell_of_row _ _ 3 _ _ _ hrz;have zc4:=cell_of_row _ _ 4 _ _ _ hrz;have zc5:=cell_of_row _ _ 5 _ _ _ hrz;have zc6:=cell_of_row _ _ 6 _ _ _ hrz;have zc7:=cell_of_row _ _ 7 _ _ _ hrz
    simp at zc0 zc1 zc2 zc3 zc4 zc5 zc6 zc7
    have nc0:=cell_of_row _ _ 0 _ _ _ hn;have nc1:=cell_of_row _ _ 1 _ _ _ hn;have nc2:=cell_of_row _ _ 2 _ _ _ hn;have nc3:=cell_of_row _ _ 3 _ _ _ hn;have nc4:=cell_of_row _ _ 4 _ _ _ hn;have nc5:=cell_of_row _ _ 5 _ _ _ hn;have nc6:=cell_of_row _ _ 6 _ _ _ hn;have nc7:=cell_of_row _ _ 7 _ _ _ hn
    simp at nc0 nc1 nc2 nc3 nc4 nc5 nc6 nc7
    have hl:=lies_sl s3
    have hh:Holds wc ⟨#[]⟩ [] [] (toN (xK ++ yK)) (xB ++ yB) .nil none 0 none 0 a3 c3 a4 c4 none 0:=⟨Nat.zero_le _,sl_nil _ _,sl_nil _ _,hl.1,s4,⟨Nat.le_refl _,Nat.zero_le _,.inl rfl⟩,hl.2,rfl⟩
    have hsame:=Tr.rsame_all ((toN (xK ++ yK)).size + 1) 5 ⟨#[]⟩ false [] [] (toN (xK ++ yK)) (xB ++ yB) .nil 5 ⟨#[]⟩ false [] [] (toN (xK ++ yK)) (xB ++ yB) .nil z1 zd1 z2 zd2 z3 zd3 z4 zd4 z5 zd5 none 0 none 0 a3 c3 a4 c4 none 0 wc (Nat.lt_succ_self _) (HZ5.out.below hbw) hh
    rw [nodeEq_rf,toN_len,List.length_append,List.length_append] at hsame
    have HSA:=Lib.hid hsame;have HBW:=Lib.hid (thru HB5.out hbw)
    clear hn s3 s4 hbw hl hh hsame hrz
    go_wp2_with fail
    refine HSA.out.mono ?_
    rintro e w9 ⟨rfl,hb9⟩
    have HB9:=Lib.hid (thru HBW.out hb9)
    clear hb9
    go_wp2_with fail
    go_ret
    exact ⟨rfl,HB9.out⟩
end Ps
end Go.Proofs.YtoafdgfofgkenaaGreat
