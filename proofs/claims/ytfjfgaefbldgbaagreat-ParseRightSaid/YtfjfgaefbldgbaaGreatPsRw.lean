/- parseAlive. -/
/- The walk of ParseRight. -/
import Derived.Test.YtfjfgaefbldgbaaGreatPsPb
import Derived.Test.YtfjfgaefbldgbaaGreatPsR3
import Derived.Test.YtfjfgaefbldgbaaGreatPsL3
import Derived.Test.YtfjfgaefbldgbaaGreatTrQp
import Derived.Test.YtfjfgaefbldgbaaGreatTrE
import Derived.Test.YtfjfgaefbldgbaaGreatTrF
namespace Go.Proofs.YtfjfgaefbldgbaaGreat
open Go.RowKit Go.Sort
namespace Ps
open Cls Pt Tr Sp Lx
def badB {T:Type} (r:Rs T) (i e:Nat):Bool:=match r with
 | .bad j f=>i == j && e == f
 | .ok _ _=>false
def kidsB (r:Rs ND) (n:Nat):Bool:=match r with
 | .bad _ _=>false
 | .ok x _=>x.ks.len == n
theorem badB_eq {T:Type} {r:Rs T} {i e:Nat} (h:badB r i e = true):r = .bad i e:=by
 cases r with
 | bad j f=>simp only [badB,Bool.and_eq_true,beq_iff_eq] at h;rw [h.1,h.2]
 | ok _ _=>cases h
theorem kidsB_eq {r:Rs ND} {n:Nat} (h:kidsB r n = true):∃ x q,r = .ok x q∧x.ks.len = n:=by
 cases r with
 | bad j f=>cases h
 | ok x q=>exact ⟨x,q,rfl,by simpa [kidsB] using h⟩
theorem alive1:badB (parseF ⟨#[97,32,38,38]⟩) 4 1 = true:=by kernel_rfl
theorem alive2:badB (parseF ⟨#[105,102,32,97,59,32,102,105]⟩) 6 1 = true:=by kernel_rfl
theorem alive3:kidsB (parseF ⟨#[97]⟩) 1 = true:=by kernel_rfl
set_option maxHeartbeats 1600000 in
set_option maxRecDepth 100000 in
theorem parseAlive_any (m:Int) (w:World) (hm:w.cell? ⟨0,0,none⟩ = some (.int .i64 m)) :
  Calls Tryz.prog 5 #[] w fun e w'=>e = .returned (.bool true)∧Below w.heap.size w w':=by
 have h1:=fun w' (hb:Below w.heap.size w w')=>parse_any ⟨#[97,32,38,38]⟩ (by decide) m w' (cell_below hb hm)
 have h2:=fun w' (hb:Below w.heap.size w w')=>parse_any ⟨#[105,102,32,97,59,32,102,105]⟩ (by decide) m w' (cell_below hb hm)
 have h3:=fun w' (hb:Below w.heap.size w w')=>parse_any ⟨#[97]⟩ (by decide) m w' (cell_below hb hm)
 rw [badB_eq alive1] at h1
 rw [badB_eq alive2] at h2
 obtain ⟨x,q,hx,hl⟩:=kidsB_eq alive3
 rw [hx] at h3
 have H1:=Lib.hid h1;have H2:=Lib.hid h2;have H3:=Lib.hid h3;have HL:=Lib.hid hl
 clear h1 h2 h3 hx hm hl
 go_enter Tryz.func5,Tryz.ntmps5
 go_wp2_with fail
 refine (H1.out _ (Below.refl _ _)).mono ?_
 rintro e w1 ⟨hb1,rfl⟩
 have HB1:=Lib.hid hb1
 clear hb1
 go_wp2_with fail
 refine (H2.out _ (thru HB1.out (bel1 _ _))).mono ?_
 rintro e w2 ⟨hb2,rfl⟩
 have HB2:=Lib.hid (thru HB1.out (thru (bel1 _ _) hb2))
 clear hb2
 go_wp2_with fail
 refine (H3.out _ (thru HB2.out (bel1 _ _))).mono ?_
 rintro e w3 ⟨hb3,a1,c1,a2,c2,a3,c3,a4,c4,a5,c5,rfl,hh⟩
 have HB3:=Lib.hid (thru HB2.out (thru (bel1 _ _) hb3))
 have hv:(nvs x a1 c1 a2 c2 a3 c3 a4 c4 a5 c5).toArray = #[.int .i64 x.k,.string x.nm,.bool x.g,.slice a1 x.az.length c1,.slice a2 x.ws.length c2,.slice a3 x.ks.len c3,.slice a4 x.bs.length c4,.slice a5 x.cz.len c5]:=rfl
 rw [hv,HL.out]
 clear hb3 hh hv
 go_wp2_with fail
 go_ret
 exact ⟨rfl,thru HB3.out (bel1 _ _)⟩
end Ps
end Go.Proofs.YtfjfgaefbldgbaaGreat
namespace Go.Proofs.YtfjfgaefbldgbaaGreat
open Go.RowKit Go.Sort
namespace Ps
open Cls Pt Tr Sp Lx
theorem scan_last {s:ByteArray}:∀ (n i:Nat),i≤s.size→s.size - i < n→∃ done t,scanF n s i = done ++ [t]∧(∀ o ∈ done,stopT o = false)∧stopT t = true
 | 0,_,_,h=>by omega
 | n + 1,i,hi,hn=>by
  rw [scanF]
  cases hst:stopT (tokAt s i)
  ·have hg:=(tok_good s i hi).2.2.2.2 hst
   obtain ⟨done,t,h1,h2,h3⟩:=scan_last n (tokAt s i).j hg.2.2 (by omega)
   rw [if_neg (by decide),h1]
   exact ⟨tokAt s i :: done,t,rfl,fun o ho=>by
    rcases List.mem_cons.1 ho with rfl | ho
    ·exact hst
    ·exact h2 o ho,h3⟩
  ·exact ⟨[],tokAt s i,by rw [if_pos rfl];rfl,none_in,hst⟩
theorem last_tok (s:ByteArray):∃ t,(toks s)[(toks s).length - 1]? = some t∧0 < (toks s).length∧t.i≤s.size∧(t.k ≠ 5→∀ o ∈ toks s,o.k ≠ 5):=by
 obtain ⟨done,t,h1,h2,h3⟩:=scan_last (s:=s) (s.size + 1) 0 (Nat.zero_le _) (by omega)
 have ht:t ∈ toks s:=by
  show t ∈ scanF (s.size + 1) s 0
  rw [h1]
  simp
 obtain ⟨j,hj,htj⟩:=scan_mem _ _ (Nat.zero_le _) ht
 refine ⟨t,?_,?_,by rw [htj];exact (tok_good s j hj).2.1,fun hk o ho=>?_⟩
 ·show (scanF (s.size + 1) s 0)[(scanF (s.size + 1) s 0).length - 1]? = some t
  rw [h1]
  simp
 ·show 0 < (scanF (s.size + 1) s 0).length
  rw [h1]
  simp
 ·have ho2:o ∈ scanF (s.size + 1) s 0:=ho
  rw [h1] at ho2
  rcases List.mem_append.1 ho2 with ho2 | ho2
  ·intro h5
   have:=h2 o ho2
   simp [stopT,h5] at this
  ·simp only [List.mem_singleton] at ho2
   subst ho2
   exact hk
theorem ext_of (s more:ByteArray):Ext s ((s ++ ⟨#[10]⟩) ++ more) more.data.toList:=by
 unfold Ext
 simp
theorem zero_holds (w:World):Holds w ⟨#[]⟩ [] [] .nil [] .nil none 0 none 0 none 0 none 0 none 0 :=
 ⟨Nat.zero_le _,sl_nil _ _,sl_nil _ _,⟨Nat.le_refl _,Nat.zero_le _,.inl rfl⟩,sl_nil _ _,⟨Nat.le_refl _,Nat.zero_le _,.inl rfl⟩,rfl,rfl⟩
set_option maxHeartbeats 3200000 in
set_option maxRecDepth 100000 in
theorem right_law (s more:ByteArray) (hs:s.size≤9223372036854775807) (hmo:more.size≤9223372036854775807) (m:Int) (w:World) (hm:w.cell? ⟨0,0,none⟩ = some (.int .i64 m)) :
  Calls Tryz.prog 3 #[.string s,.string more] w fun e w'=>e = .returned (.bool true)∧Below w.heap.size w w':=by
 by_cases h2:2000 < s.size
 ·have HAL:=Lib.hid (parseAlive_any m w hm)
  clear hm
  go_enter Tryz.func3,Tryz.ntmps3
  go_wp2_with fail
  refine HAL.out.mono ?_
  rintro e w1 ⟨rfl,hb1⟩
  go_wp2_with fail
  go_ret
  exact ⟨rfl,hb1⟩
 ·by_cases h3:500 < more.size
  ·have HAL:=Lib.hid (parseAlive_any m w hm)
   clear hm
   go_enter Tryz.func3,Tryz.ntmps3
   go_wp2_with fail
   refine HAL.out.mono ?_
   rintro e w1 ⟨rfl,hb1⟩
   go_wp2_with fail
   go_ret
   exact ⟨rfl,hb1⟩
  ·have HAL:=Lib.hid (parseAlive_any m w hm)
   have hP:=fun w' (hb:Below w.heap.size w w')=>parse_any s (by omega) m w' (cell_below hb hm)
   cases hp:parseF s with
   | ok x q =>
    have hr:=parse_right hp
    have hf:=parse_fit (by omega) hp
    rw [hp] at hP
    have hG:=fun w' (hb:Below w.heap.size w w') a1 c1 a2 c2 a3 c3 a4 c4 a5 c5 (hh:Holds w' x.nm x.az x.ws x.ks x.bs x.cz a1 c1 a2 c2 a3 c3 a4 c4 a5 c5)=>Tr.program_any x.k x.nm x.g x.az x.ws x.ks x.bs x.cz a1 c1 a2 c2 a3 c3 a4 c4 a5 c5 m w' hh hf.1 hf.2.1 hf.2.2 (cell_below hb hm)
    have hpr:(x.k == 5 && nodeR x.k x.nm x.g x.az x.ws x.ks x.bs x.cz 1) = true:=by
     have:=hr.2
     unfold NR at this
     rw [hr.1] at this ⊢
     rw [this]
     rfl
    rw [hpr] at hG
    have HP:=Lib.hid hP;have HG:=Lib.hid hG
    clear hP hG hm hp hr hf hpr
    go_enter Tryz.func3,Tryz.ntmps3
    go_wp2_with fail
    refine HAL.out.mono ?_
    rintro e w1 ⟨rfl,hb1⟩
    have HB1:=Lib.hid hb1
    clear hb1
    go_wp2_with fail
    refine (HP.out _ HB1.out).mono ?_
    rintro e w2 ⟨hb2,a1,c1,a2,c2,a3,c3,a4,c4,a5,c5,rfl,hh⟩
    have hv:(nvs x a1 c1 a2 c2 a3 c3 a4 c4 a5 c5).toArray = #[.int .i64 x.k,.string x.nm,.bool x.g,.slice a1 x.az.length c1,.slice a2 x.ws.length c2,.slice a3 x.ks.len c3,.slice a4 x.bs.length c4,.slice a5 x.cz.len c5]:=rfl
    rw [hv]
    have HB2:=Lib.hid (thru HB1.out hb2);have HH:=Lib.hid hh
    clear hb2 hh hv
    go_wp2_with fail
    refine (HG.out _ (thru HB2.out (bel1 _ _)) _ _ _ _ _ _ _ _ _ _ (HH.out.below (bel1 _ _))).mono ?_
    rintro e w4 ⟨rfl,hb4⟩
    have HB4:=Lib.hid (thru HB2.out (thru (bel1 _ _) hb4))
    clear hb4
    go_wp2_with fail
    go_ret
    exact ⟨rfl,HB4.out⟩
   | bad i er =>
    have hE:=(parse_e s).1 i er hp
    rw [hp] at hP
    have hS:=fun w=>scan_any s (by omega) w
    obtain ⟨lt,hlg,hpos,hli,hlk⟩:=last_tok s
    obtain ⟨lw,hlw,hlwi⟩:=hE.2
    have hfar:lt.k ≠ 5→i < lt.i→parseF ((s ++ ⟨#[10]⟩) ++ more) = .bad i er:=fun h5 hi=>parse_far ⟨⟨_,ext_of s more⟩,hlk h5⟩ hp (by omega)
    have hP2:=fun w' (hb:Below w.heap.size w w')=>parse_any ((s ++ ⟨#[10]⟩) ++ more) (by rw [ByteArray.size_append,ByteArray.size_append,show (⟨#[10]⟩:ByteArray).size = 1 from rfl];omega) m w' (cell_below hb hm)
    have herr:((er:Int) == 0) = false:=by simp;omega
    have hne:nodeEq 0 ⟨#[]⟩ false [] [] .nil [] .nil 0 ⟨#[]⟩ false [] [] .nil [] .nil = true:=by simp [nodeEq,sameN,eqL]
    have hsm:∀ w':World,Calls Tryz.prog 9 #[.agg #[.int .i64 0,.string ⟨#[]⟩,.bool false,.slice none 0 0,.slice none 0 0,.slice none 0 0,.slice none 0 0,.slice none 0 0],.agg #[.int .i64 0,.string ⟨#[]⟩,.bool false,.slice none 0 0,.slice none 0 0,.slice none 0 0,.slice none 0 0,.slice none 0 0]] w' fun e w2=>e = .returned (.bool true)∧Below w'.heap.size w' w2:=fun w' =>
     (Tr.same_all 0 0 ⟨#[]⟩ false [] [] .nil [] .nil 0 ⟨#[]⟩ false [] [] .nil [] .nil none 0 none 0 none 0 none 0 none 0 none 0 none 0 none 0 none 0 none 0 w' (by decide) (zero_holds w') (zero_holds w')).mono fun e w2 h=>⟨by rw [← hne];exact h.1,h.2⟩
    unfold toks at hlw hlg hpos
    have hLn:=scan_len s (s.size + 1) 0
    generalize scanF (s.size + 1) s 0 = L at hS hlw hlg hpos hLn
    have HP:=Lib.hid hP;have HP2:=Lib.hid hP2;have HS:=Lib.hid hS;have HF:=Lib.hid hfar;have HSM:=Lib.hid hsm;have HLW:=Lib.hid hlw;have HLG:=Lib.hid hlg
    clear hP hP2 hS hfar hsm hm hp hE hlk hlw hlg
    go_enter Tryz.func3,Tryz.ntmps3
    go_wp2_with fail
    refine HAL.out.mono ?_
    rintro e w1 ⟨rfl,hb1⟩
    have HB1:=Lib.hid hb1
    clear hb1
    go_wp2_with fail
    refine (HP.out _ HB1.out).mono ?_
    rintro e w2 ⟨hb2,rfl⟩
    have HB2:=Lib.hid (thru HB1.out hb2)
    clear hb2
    go_wp2_with fail
    refine (HS.out _).mono ?_
    rintro e w3 ⟨g,cap,rfl,hI,hb3⟩
    have hrow:w3.heap[w2.heap.size]? = some (.cells #[.int .i64 0,.string ⟨#[]⟩,.bool false,.slice none 0 0,.slice none 0 0,.slice none 0 0,.slice none 0 0,.slice none 0 0] 29 (0,0)):=(hb3.block _ (by simp)).trans (heap_alloc_new _ _)
    have HI:=Lib.hid hI;have HB3:=Lib.hid (thru HB2.out (thru (bel1 _ _) hb3));have HROW:=Lib.hid hrow
    clear hI hb3 hrow
    go_wp2
    go_loopw [8,44] (fun v x wr=>∃ (n:Nat) (fd:Bool),n≤L.length∧x = .int .i64 n∧v = .bool fd∧fd = (L.take n).any (fun t=>t.i == i)∧TokI wr g 0 L∧wr.heap[w2.heap.size]? = some (.cells #[.int .i64 0,.string ⟨#[]⟩,.bool false,.slice none 0 0,.slice none 0 0,.slice none 0 0,.slice none 0 0,.slice none 0 0] 29 (0,0))∧Below w.heap.size w wr) (fun v x wr=>L.length - (intOf x).toNat)
    case atStart=>exact ⟨0,false,Nat.zero_le _,rfl,rfl,rfl,HI.out,HROW.out,HB3.out⟩
    case round =>
     obtain ⟨n,fd,hn,rfl,rfl,hfd,hI3,hrow3,hbw⟩:=hrel
     by_cases hlt:n < L.length
     ·obtain ⟨t,hget⟩:∃ t,L[n]? = some t:=⟨_,List.getElem?_eq_getElem hlt⟩
      obtain ⟨⟨c0,c1,c2,c4⟩,a,ca,c3,hli⟩:=hI3.get hget
      simp only [Nat.zero_add] at c0 c1 c2 c3 c4
      have hnx:(L.take (n + 1)).any (fun t=>t.i == i) = (fd || t.i == i):=by
       rw [List.take_add_one,hget,hfd]
       simp
      have hws:=hbw.size
      have hI4:=hI3.below ((Below.refl wr.heap.size wr).alloc (Nat.le_refl _) (.cells #[.int .i64 t.k,.int .i64 t.i,.string t.t,.slice a t.l.len ca,.int .i64 t.err] 39))
      have hB4:=hbw.alloc hws (.cells #[.int .i64 t.k,.int .i64 t.i,.string t.t,.slice a t.l.len ca,.int .i64 t.err] 39)
      have hrow4:=(((Below.refl wr.heap.size wr).alloc (Nat.le_refl _) (.cells #[.int .i64 t.k,.int .i64 t.i,.string t.t,.slice a t.l.len ca,.int .i64 t.err] 39)).block _ (Array.getElem?_eq_some_iff.1 hrow3).1).trans hrow3
      have HI4:=Lib.hid hI4;have HB4:=Lib.hid hB4;have HROW4:=Lib.hid hrow4;have HNX:=Lib.hid hnx
      clear hI4 hB4 hrow4 hrow3 hI3 hbw hli hget hfd hnx
      cases fd
      ·cases hti:((t.i:Int) == (i:Int))
       ·go_wp2_with fail
        go_roundw
        case rel=>exact ⟨n + 1,false,by omega,by go_num,rfl,by rw [HNX.out];simp at hti ⊢;omega,HI4.out,HROW4.out,HB4.out⟩
        case measure=>simp [intOf];omega
       ·go_wp2_with fail
        go_roundw
        case rel=>exact ⟨n + 1,true,by omega,by go_num,rfl,by rw [HNX.out];simp at hti ⊢;omega,HI4.out,HROW4.out,HB4.out⟩
        case measure=>simp [intOf];omega
      ·go_wp2_with fail
       go_roundw
       case rel=>exact ⟨n + 1,true,by omega,by go_num,rfl,by rw [HNX.out];rfl,HI4.out,HROW4.out,HB4.out⟩
       case measure=>simp [intOf];omega
     ·obtain rfl:n = L.length:=by omega
      have hfd2:fd = true:=by
       rw [hfd,List.take_length,List.any_eq_true]
       exact ⟨lw,HLW.out,by simp [hlwi]⟩
      subst hfd2
      have HBW:=Lib.hid hbw;have HI5:=Lib.hid hI3;have HROW5:=Lib.hid hrow3
      have q0:=Lib.cell_of_heap hrow3 0;have q1:=Lib.cell_of_heap hrow3 1;have q2:=Lib.cell_of_heap hrow3 2;have q3:=Lib.cell_of_heap hrow3 3;have q4:=Lib.cell_of_heap hrow3 4;have q5:=Lib.cell_of_heap hrow3 5;have q6:=Lib.cell_of_heap hrow3 6;have q7:=Lib.cell_of_heap hrow3 7
      clear hI3 hbw hrow3 hfd
      go_wp2_with fail
      refine (HSM.out _).mono ?_
      rintro e w5 ⟨rfl,hb5⟩
      have hI6:=HI5.out.below hb5
      obtain ⟨⟨c0,c1,c2,c4⟩,a,ca,c3,hli2⟩:=hI6.get HLG.out
      simp only [Nat.zero_add] at c0 c1 c2 c3 c4
      have HB6:=Lib.hid (thru HBW.out hb5)
      clear hli2 hI6 hb5 q0 q1 q2 q3 q4 q5 q6 q7
      cases hk5:((lt.k:Int) == 5)
      ·by_cases hge:lt.i≤i
       ·go_wp2_with fail
        go_ret
        exact ⟨rfl,thru HB6.out (bel1 _ _)⟩
       ·have hPP:=HP2.out
        rw [HF.out (by simp at hk5;omega) (by omega)] at hPP
        have HPP:=Lib.hid hPP
        clear hPP
        go_wp2_with fail
        refine (HPP.out _ (thru HB6.out (bel1 _ _))).mono ?_
        rintro e w7 ⟨hb7,rfl⟩
        have HB7:=Lib.hid (thru HB6.out (thru (bel1 _ _) hb7))
        clear hb7
        go_wp2_with fail
        go_ret
        exact ⟨by simp,thru HB7.out (bel1 _ _)⟩
      ·go_wp2_with fail
       go_ret
       exact ⟨rfl,thru HB6.out (bel1 _ _)⟩
end Ps
end Go.Proofs.YtfjfgaefbldgbaaGreat
