/- The reference: what is written of every right node. -/
import Derived.Test.YtjmpfihopeohbaaGreatDoorQvF
import Derived.Test.YtjmpfihopeohbaaGreatDoorQwL
import Derived.Test.YtjmpfihopeohbaaGreatDoorRtC
set_option maxHeartbeats 3200000
set_option maxRecDepth 100000
namespace Go.Proofs.YtjmpfihopeohbaaGreatDoor
open Go.RowKit Go.Sort
namespace Rq
open Cls Pt Tr Pr
open Ps (ND CD toN toC nd listD)
theorem azB_mem {x:ByteArray × PL}:∀ {az:List (ByteArray × PL)},x ∈ az→x.1.size + Bd.bytes x.2≤azB az
 | [],h=>by simp at h
 | y :: r,h=>by
  simp only [azB];rcases List.mem_cons.1 h with rfl | h
  ·omega
  ·have:=azB_mem h;omega
def Small (x:ND):Prop:=azB x.az + wsB x.ws + totN x.ks + totN x.cz≤100000
theorem small_mem {y:ND}:∀ {l:List ND},y ∈ l→azB y.az + wsB y.ws + totN y.ks + totN y.cz≤totN (toN l)
 | [],h=>by simp at h
 | x :: r,h=>by
  show _≤totN (.node x.k x.nm x.g x.az x.ws x.ks x.bs x.cz (toN r));simp only [totN];rcases List.mem_cons.1 h with rfl | h
  ·omega
  ·have:=small_mem h;omega
theorem small_case {c:CD}:∀ {l:List CD},c ∈ l→wsB c.1 + totN (toN c.2)≤totN (toC l)
 | [],h=>by simp at h
 | x :: r,h=>by
  show _≤totN (.cse x.1 (toN x.2) (toC r));simp only [totN];rcases List.mem_cons.1 h with rfl | h
  ·omega
  ·have:=small_case h;omega
theorem fine_ws {ws:List PL} (h:wsB ws≤100000) (hr:∀ l ∈ ws,rightL none l 0 1 = true):∀ l ∈ ws,Fine l:=fun l hl=>⟨hr l hl,Nat.le_trans (wsB_mem hl) h⟩
theorem fine_az {az:List (ByteArray × PL)} (h:azB az≤100000) (hr:∀ x ∈ az,rightL none x.2 0 1 = true):∀ x ∈ az,Fine x.2:=fun x hx=>⟨hr x hx,by have:=azB_mem hx;omega⟩
theorem flat_mem {x:T}:∀ {L:List T},x ∈ L→x.length≤L.flatten.length
 | [],h=>by simp at h
 | y :: r,h=>by
  rw [List.flatten_cons,List.length_append];rcases List.mem_cons.1 h with rfl | h
  ·omega
  ·have:=flat_mem h;omega
theorem items_mem {y:ND}:∀ {l:List ND} {bs:List Bool},l.length = bs.length→y ∈ l→(tx y).length≤(itemsT (l.map tx) bs).length
 | [],_,_,h=>by simp at h
 | x :: r,[],h,_=>by simp at h
 | x :: r,b :: bs,hl,h=>by
  rw [List.map_cons,items_cons];simp only [List.length_append];rcases List.mem_cons.1 h with rfl | h
  ·omega
  ·have:=items_mem (bs:=bs) (by simpa using hl) h;omega
theorem not_list {k:Int} (h:itemB k = true):k ≠ 5:=by rintro rfl;exact absurd h (by decide)
theorem not_list2 {k:Int} (h:unitB k = true):k ≠ 5:=by rintro rfl;exact absurd h (by decide)
theorem not_list3 {k:Int} (h:commandB k = true):k ≠ 5:=by rintro rfl;exact absurd h (by decide)
theorem not_list4 {k:Int} (h:compoundB k = true):k ≠ 5:=by rintro rfl;exact absurd h (by decide)
structure At (n:Nat):Prop where
 w:∀ (x:ND) (D:Nat),W x D→sz x < n→x.k ≠ 5→Small x→(tx x).length≤1000000→WrAt x
 i:∀ (x:ND) (D:Nat),W x D→sz x < n→x.k = 5→Small x→(tx x).length≤1000000→ItAt x
theorem items_at (n:Nat) (ih:At n) (x:ND) (D:Nat) (hx:W x D) (hn:sz x < n + 1) (hk:x.k = 5) (hs:Small x) (hl:(tx x).length≤1000000):ItAt x:=by
 obtain ⟨l,e,h1,h2,h3⟩:=inv_5 hx hk;generalize x.bs = bs at e h1;subst e;have ht:tx (listD l bs) = itemsT (txt (toN l)) bs:=rfl;have ht2:=tx_5 l bs;rw [ht] at hl;intro a1 c1 a2 c2 a3 c3 a4 c4 a5 c5 w h
 have hc:=ritems_any 5 ⟨#[]⟩ false [] [] (toN l) bs .nil a1 c1 a2 c2 a3 c3 a4 c4 a5 c5 w h (fun y hy=>by
  rw [Pw.ofN_toN] at hy;obtain ⟨hi,hw,hlt⟩:=h3 y hy;have hm:=items_mem h1 hy;refine ih.w y D hw (by omega) (not_list hi) ?_ ?_
  ·have hs:azB ([]:List (ByteArray × PL)) + wsB [] + totN (toN l) + totN .nil≤100000:=hs;have:=small_mem hy;unfold Small;simp only [azB,wsB,totN] at hs;omega
  ·rw [← ht,ht2] at hl
   omega) (by rw [Ps.toN_len];exact h1) hl
 exact hc
theorem small_kids {k:Int} {l:List ND} (hs:Small (nd k l)) {y:ND} (hy:y ∈ l):Small y:=by
 have hs:azB ([]:List (ByteArray × PL)) + wsB [] + totN (toN l) + totN .nil≤100000:=hs;have:=small_mem hy;unfold Small;simp only [azB,wsB,totN] at hs;omega
theorem body_at {n:Nat} (ih:At n) {y:ND} {D m:Nat} (h:Body y D m) (hm:m≤n) (hs:Small y) (hl:(tx y).length≤1000000):ItAt y:=ih.i y D h.w (by have:=h.lt;omega) h.k hs hl
theorem written_at (n:Nat) (ih:At n) (x:ND) (D:Nat) (hx:W x D) (hn:sz x < n + 1) (hk:x.k ≠ 5) (hs:Small x) (hl:(tx x).length≤1000000):WrAt x:=by
 have hk3:=(parts_of hx).2.2;have hsz:sz x≤n:=by omega
 by_cases k1:x.k = 1
 ·obtain ⟨e,hr⟩:=inv_1 hx k1;generalize x.az = az at e hr;generalize x.ws = ws at e hr;subst e;have hs:azB az + wsB ws + totN .nil + totN .nil≤100000:=hs;obtain ⟨r1,r2⟩:=Pw.simple_rights hr;exact rw_1 az ws (fine_ws (by omega) r2) (fine_az (by omega) r1) hl
 by_cases k2:x.k = 2
 ·obtain ⟨a,b,e,i1,i2,h1,h2,l1,l2⟩:=inv_23 hx (.inl k2);rw [k2] at e;subst e;have hl2:=congrArg List.length (tx_2 a b);simp only [List.length_append] at hl2;exact rw_2 a b (ih.w a D h1 (by omega) (not_list i1) (small_kids hs (by simp)) (by omega)) (ih.w b D h2 (by omega) (not_list2 i2) (small_kids hs (by simp)) (by omega)) hl
 by_cases k3:x.k = 3
 ·obtain ⟨a,b,e,i1,i2,h1,h2,l1,l2⟩:=inv_23 hx (.inr k3);rw [k3] at e;subst e;have hl2:=congrArg List.length (tx_3 a b);simp only [List.length_append] at hl2;exact rw_3 a b (ih.w a D h1 (by omega) (not_list i1) (small_kids hs (by simp)) (by omega)) (ih.w b D h2 (by omega) (not_list2 i2) (small_kids hs (by simp)) (by omega)) hl
 by_cases k4:x.k = 4
 ·obtain ⟨a,e,i1,h1,l1⟩:=inv_4 hx k4;subst e;have hl2:=congrArg List.length (tx_4 a);simp only [List.length_append] at hl2;exact rw_4 a (ih.w a D h1 (by omega) (not_list3 i1) (small_kids hs (by simp)) (by omega)) hl
 by_cases k6:x.k = 6
 ·obtain ⟨l,e,_,h1,h2,_⟩:=inv_ks hx (.inl k6);have hlen:=h2 k6;clear h2;rw [k6] at e;subst e;rcases hlen with hlen | hlen
  ·match l,hlen with
   | [a,b],_ =>
    have hl2:=congrArg List.length (tx_62 a b);simp only [List.length_append] at hl2;exact rw_62 a b (body_at ih (h1 a (by simp)) hsz (small_kids hs (by simp)) (by omega)) (body_at ih (h1 b (by simp)) hsz (small_kids hs (by simp)) (by omega)) hl
  ·match l,hlen with
   | [a,b,c],_ =>
    have hl2:=congrArg List.length (tx_63 a b c);simp only [List.length_append] at hl2;exact rw_63 a b c (body_at ih (h1 a (by simp)) hsz (small_kids hs (by simp)) (by omega)) (body_at ih (h1 b (by simp)) hsz (small_kids hs (by simp)) (by omega)) (body_at ih (h1 c (by simp)) hsz (small_kids hs (by simp)) (by omega)) hl
 by_cases k7:x.k = 7
 ·obtain ⟨l,e,_,h1,_,h2,_⟩:=inv_ks hx (.inr (.inl k7));have hlen:=h2 (.inl k7);clear h2;rw [k7] at e;subst e
  match l,hlen with
  | [a,b],_ =>
   have hl2:=congrArg List.length (tx_7 a b);simp only [List.length_append] at hl2;exact rw_7 a b (body_at ih (h1 a (by simp)) hsz (small_kids hs (by simp)) (by omega)) (body_at ih (h1 b (by simp)) hsz (small_kids hs (by simp)) (by omega)) hl
 by_cases k8:x.k = 8
 ·obtain ⟨l,e,_,h1,_,h2,_⟩:=inv_ks hx (.inr (.inr (.inl k8)));have hlen:=h2 (.inr k8);clear h2;rw [k8] at e;subst e
  match l,hlen with
  | [a,b],_ =>
   have hl2:=congrArg List.length (tx_8 a b);simp only [List.length_append] at hl2;exact rw_8 a b (body_at ih (h1 a (by simp)) hsz (small_kids hs (by simp)) (by omega)) (body_at ih (h1 b (by simp)) hsz (small_kids hs (by simp)) (by omega)) hl
 by_cases k9:x.k = 9
 ·obtain ⟨y,e,_,hf,h1⟩:=inv_9 hx k9;generalize x.nm = nm at e hf;generalize x.g = g at e hf;generalize x.ws = ws at e hf;subst e;unfold forB at hf;simp only [Bool.and_eq_true] at hf;have hr:∀ l ∈ ws,rightL none l 0 1 = true:=fun l hl=>rightW_L (List.all_eq_true.1 hf.2 l hl);have hs:azB ([]:List (ByteArray × PL)) + wsB ws + totN (toN [y]) + totN .nil≤100000:=hs;have hy:Small y:=by
   have:=small_mem (List.mem_singleton.2 rfl:y ∈ [y]);unfold Small;omega
  have hl2:=congrArg List.length (tx_9 nm g ws y);simp only [List.length_append] at hl2;have hb:=body_at ih h1 hsz hy (by omega);cases g
  ·exact rw_9f nm ws y (fine_ws (by omega) hr) hb hl
  ·exact rw_9t nm ws y (fine_ws (by omega) hr) hb hl
 by_cases k10:x.k = 10
 ·obtain ⟨wd,cs,e,_,hr,h1⟩:=inv_10 hx k10;subst e;have hs:azB ([]:List (ByteArray × PL)) + wsB [wd] + totN .nil + totN (toC cs)≤100000:=hs;have hl2:=congrArg List.length (tx_10 wd cs);simp only [List.length_append] at hl2;refine rw_10 wd (toC cs) (fine_ws (ws:=[wd]) (by omega) (fun l h=>by rw [List.mem_singleton.1 h];exact rightW_L hr) wd (List.mem_singleton.2 rfl)) (fun m ps bd r hd=>?_) hl;obtain ⟨c,hc,rfl,rfl⟩:=Pw.case_drop hd;have he:=h1 c hc;have hm:=small_case hc;have hf:=flat_mem (List.mem_map_of_mem (f:=csT) hc);refine ⟨fine_ws (by omega) fun l hl=>rightW_L (he.all l hl),?_⟩;have h1:=he.one
  match hc2:c.2,h1 with
  | [],_=>exact .inl rfl
  | [y],_ =>
   right;have hy:y ∈ c.2:=by rw [hc2];simp
   have hm2:=small_mem hy;have hcl:(tx y).length≤(csT c).length:=by
    unfold csT caseT;have:=flat_mem (List.mem_map_of_mem (f:=tx) hy);simp only [List.length_append];omega
   exact ⟨y,rfl,body_at ih (he.body y hy) hsz (by unfold Small;omega) (by omega)⟩
  | _ :: _ :: _,h1=>simp at h1
 by_cases k11:x.k = 11
 ·obtain ⟨l,e,_,h1,_,_,h2⟩:=inv_ks hx (.inr (.inr (.inr (.inl k11))));have hlen:=h2 (.inl k11);clear h2;rw [k11] at e;subst e
  match l,hlen with
  | [a],_ =>
   have hl2:=congrArg List.length (tx_11 a);simp only [List.length_append] at hl2;exact rw_11 a (body_at ih (h1 a (by simp)) hsz (small_kids hs (by simp)) (by omega)) hl
 by_cases k12:x.k = 12
 ·obtain ⟨l,e,_,h1,_,_,h2⟩:=inv_ks hx (.inr (.inr (.inr (.inr k12))));have hlen:=h2 (.inr k12);clear h2;rw [k12] at e;subst e
  match l,hlen with
  | [a],_ =>
   have hl2:=congrArg List.length (tx_12 a);simp only [List.length_append] at hl2;exact rw_12 a (body_at ih (h1 a (by simp)) hsz (small_kids hs (by simp)) (by omega)) hl
 by_cases k13:x.k = 13
 ·obtain ⟨y,e,_,_,i1,h1,l1⟩:=inv_13 hx k13;generalize x.nm = nm at e;subst e;have hs:azB ([]:List (ByteArray × PL)) + wsB [] + totN (toN [y]) + totN .nil≤100000:=hs;have hy:Small y:=by
   have:=small_mem (List.mem_singleton.2 rfl:y ∈ [y]);unfold Small;omega
  have hl2:=congrArg List.length (tx_13 nm y);simp only [List.length_append] at hl2;exact rw_13 nm y (ih.w y D h1 (by omega) (not_list4 i1) hy (by omega)) hl
 exact absurd hk3 (by unfold kindB;simp [k1,k2,k3,k4,hk,k6,k7,k8,k9,k10,k11,k12,k13])
theorem all_at:∀ n,At n
 | 0=>⟨fun _ _ _ h=>absurd h (Nat.not_lt_zero _),fun _ _ _ h=>absurd h (Nat.not_lt_zero _)⟩
 | n + 1=>⟨written_at n (all_at n),items_at n (all_at n)⟩
theorem written_all (x:ND) (D:Nat) (hx:W x D) (hk:x.k ≠ 5) (hs:Small x) (hl:(tx x).length≤1000000):WrAt x:=(all_at (sz x + 1)).w x D hx (Nat.lt_succ_self _) hk hs hl
end Rq
end Go.Proofs.YtjmpfihopeohbaaGreatDoor
namespace Go.Proofs.YtjmpfihopeohbaaGreatDoor
open Go.RowKit Go.Sort
namespace Rq
open Cls Pt Tr Pr
open Ps (ND CD toN toC nd listD)
theorem behind_len:∀ (f b:T) (L:List T),f.length≤1→b.length≤1→(behind f b L).length≤L.flatten.length + L.length
 | _,_,[],_,_=>Nat.zero_le _
 | f,b,x :: r,hf,hb=>by
  have:=behind_len b b r hb hb;rw [behind_cons];simp only [List.length_append,List.flatten_cons,List.length_cons];omega
theorem ws_len:∀ ws:List PL,(ws.map wordT).flatten.length + ws.length≤6 * wsB ws
 | []=>Nat.zero_le _
 | l :: r=>by
  have h1:=ws_len r;have h2:(wordT l).length≤5 * Bd.bytes l:=Bd.text_len l 0;simp only [List.map_cons,List.flatten_cons,List.length_append,List.length_cons,wsB];omega
theorem az_len:∀ az:List (ByteArray × PL),(az.map asgT).flatten.length + az.length≤6 * azB az
 | []=>Nat.zero_le _
 | x :: r=>by
  have h1:=az_len r;have h2:(wordT x.2).length≤5 * Bd.bytes x.2:=Bd.text_len x.2 0;have h3:=lenB x.1;simp only [List.map_cons,List.flatten_cons,List.length_append,List.length_cons,azB,asgT];omega
theorem items_len:∀ (K:List T) (bs:List Bool),(itemsT K bs).length≤K.flatten.length + 3 * bs.length
 | [],_=>Nat.zero_le _
 | x :: r,[]=>Nat.zero_le _
 | x :: r,b :: bs=>by
  have:=items_len r bs;have hb:(if b then ([32,38,32]:T) else [59,32]).length≤3:=by cases b <;> decide
  rw [items_cons];simp only [List.length_append,List.flatten_cons,List.length_cons];omega
theorem line_len:∀ (K:List T) (bs:List Bool),(lineT K bs).length≤K.flatten.length + 3 * bs.length
 | [],_=>Nat.zero_le _
 | x :: r,[]=>Nat.zero_le _
 | x :: r,b :: bs=>by
  have:=line_len r bs;have hb:(endT b).length≤3:=by cases b <;> decide
  rw [line_cons];simp only [List.length_append,List.flatten_cons,List.length_cons];omega
theorem at_len (K:List T):(at0 K 0).length + (at0 K 1).length + (at0 K 2).length≤K.flatten.length:=by
 match K with
 | []=>simp [at0]
 | [a]=>simp [at0]
 | [a,b]=>simp [at0]
 | a :: b :: c :: r=>simp only [at0,List.getD_cons_zero,List.getD_cons_succ,List.flatten_cons,List.length_append];omega
theorem at_word (ws:List PL):(at0 (ws.map wordT) 0).length≤6 * wsB ws:=by
 have h1:=at_len (ws.map wordT);have h2:=ws_len ws;omega
theorem simple_len (az:List (ByteArray × PL)) (ws:List PL):(simpleT az ws).length≤6 * azB az + 6 * wsB ws:=by
 have h:=behind_len [] [32] (az.map asgT ++ ws.map wordT) (by decide) (by decide);have h1:=ws_len ws;have h2:=az_len az;unfold simpleT;simp only [List.flatten_append,List.length_append,List.length_map] at h;omega
theorem cmd_len (k:Int) (nm:ByteArray) (g:Bool) (az:List (ByteArray × PL)) (ws:List PL) (K:List T) (bs:List Bool) (C:List T):(cmdT k nm g az ws K bs C).length≤30 + nm.size + 6 * wsB ws + 6 * azB az + 3 * bs.length + K.flatten.length + C.flatten.length:=by
 have h1:=at_len K;have h2:=simple_len az ws;have h3:=items_len K bs;have h4:=behind_len [32] [32] (ws.map wordT) (by decide) (by decide);have h5:=at_word ws;have h6:=ws_len ws;have h7:=lenB nm;rw [List.length_map] at h4;have h8:(if K.length = 3 then kElse ++ ([32] ++ at0 K 2) else ([]:T)).length≤5 + (at0 K 2).length:=by
  split
  ·simp only [List.length_append,List.length_cons,List.length_nil,kElse];omega
  ·exact Nat.zero_le _
 have h9:(if g then [32] ++ (kIn ++ (behind [32] [32] (ws.map wordT) ++ [59])) else ([]:T)).length≤4 + (behind [32] [32] (ws.map wordT)).length:=by
  cases g
  ·exact Nat.zero_le _
  ·simp only [if_true,List.length_append,List.length_cons,List.length_nil,kIn];omega
 unfold cmdT
 by_cases k1:k = 1
 ·rw [if_pos k1];omega
 rw [if_neg k1]
 by_cases k2:k = 2
 ·rw [if_pos k2];simp only [List.length_append,List.length_cons,List.length_nil];omega
 rw [if_neg k2]
 by_cases k3:k = 3
 ·rw [if_pos k3];simp only [List.length_append,List.length_cons,List.length_nil];omega
 rw [if_neg k3]
 by_cases k4:k = 4
 ·rw [if_pos k4];simp only [List.length_append,List.length_cons,List.length_nil];omega
 rw [if_neg k4]
 by_cases k5:k = 5
 ·rw [if_pos k5];omega
 rw [if_neg k5]
 by_cases k6:k = 6
 ·rw [if_pos k6];simp only [List.length_append,List.length_cons,List.length_nil,kIf,kThen,kFi];omega
 rw [if_neg k6]
 by_cases k7:k = 7
 ·rw [if_pos k7];simp only [List.length_append,List.length_cons,List.length_nil,kWhile,kDo,kDone];omega
 rw [if_neg k7]
 by_cases k8:k = 8
 ·rw [if_pos k8];simp only [List.length_append,List.length_cons,List.length_nil,kUntil,kDo,kDone];omega
 rw [if_neg k8]
 by_cases k9:k = 9
 ·rw [if_pos k9];simp only [List.length_append,List.length_cons,List.length_nil,kFor,kDo,kDone];omega
 rw [if_neg k9]
 by_cases k10:k = 10
 ·rw [if_pos k10];simp only [List.length_append,List.length_cons,List.length_nil,kCase,kIn,kEsac];omega
 rw [if_neg k10]
 by_cases k11:k = 11
 ·rw [if_pos k11];simp only [List.length_append,List.length_cons,List.length_nil];omega
 rw [if_neg k11]
 by_cases k12:k = 12
 ·rw [if_pos k12];simp only [List.length_append,List.length_cons,List.length_nil];omega
 rw [if_neg k12];simp only [List.length_append,List.length_cons,List.length_nil];omega
theorem case_len (ps:List PL) (B:List T):(caseT ps B).length≤5 + 6 * wsB ps + B.flatten.length:=by
 have h4:=behind_len [40] [124] (ps.map wordT) (by decide) (by decide);have h6:=ws_len ps;rw [List.length_map] at h4;unfold caseT;simp only [List.length_append,List.length_cons,List.length_nil];omega
theorem txt_most:∀ l:NL,(txt l).flatten.length≤30 * totN l
 | .nil=>Nat.zero_le _
 | .node k nm g az ws ks bs cz r=>by
  have h1:=txt_most ks;have h2:=txt_most cz;have h3:=txt_most r;have h4:=cmd_len k nm g az ws (txt ks) bs (txt cz);simp only [txt,List.flatten_cons,List.length_append,totN];omega
 | .cse ps b r=>by
  have h1:=txt_most b;have h3:=txt_most r;have h4:=case_len ps (txt b);simp only [txt,List.flatten_cons,List.length_append,totN];omega
theorem tx_most (x:ND):(tx x).length≤30 * totX x.nm x.az x.ws x.ks x.bs x.cz:=by
 have h1:=txt_most x.ks;have h2:=txt_most x.cz;have h4:=cmd_len x.k x.nm x.g x.az x.ws (txt x.ks) x.bs (txt x.cz);unfold tx totX;omega
theorem line_most (nm:ByteArray) (az:List (ByteArray × PL)) (ws:List PL) (ks:NL) (bs:List Bool) (cz:NL):(lineT (txt ks) bs).length≤30 * totX nm az ws ks bs cz:=by
 have h1:=txt_most ks;have h2:=line_len (txt ks) bs;unfold totX;omega
end Rq
end Go.Proofs.YtjmpfihopeohbaaGreatDoor
namespace Go.Proofs.YtjmpfihopeohbaaGreatDoor
open Go.RowKit Go.Sort
namespace Rq
open Cls Pt Tr Pr
open Ps (ND CD toN toC nd listD)
theorem tx_pos {x:ND} {D:Nat} (hx:W x D) (hk:x.k ≠ 5):0 < (tx x).length:=by
 by_cases k1:x.k = 1
 ·obtain ⟨e,hs⟩:=inv_1 hx k1;generalize x.az = az at e hs;generalize x.ws = ws at e hs;subst e;show 0 < (behind [] [32] (az.map asgT ++ ws.map wordT)).length
  match az,ws,hs with
  | y :: r,ws,_ =>
   rw [List.map_cons,List.cons_append,behind_cons];simp only [List.length_append,asgT,List.length_cons];omega
  | [],l :: r,hs =>
   have hr:=(Pw.simple_rights hs).2 l (by simp);have hw:(l :: r).all rightW = true:=by
    cases h:(l :: r).all rightW
    ·rw [simple_words h] at hs;exact absurd hs (by decide)
    ·rfl
   have hl:rightW l = true:=List.all_eq_true.1 hw l (by simp);have hb:=Pw.bytes_text l none 0 1 hr;have h1:1≤Bd.bytes l:=by
    cases l with
    | nil=>exact absurd hl (by decide)
    | cons=>simp only [Bd.bytes];omega
   rw [List.map_nil,List.nil_append,List.map_cons,behind_cons];simp only [List.length_append,wordT];omega
  | [],[],hs=>rw [simple_empty (by rfl)] at hs;exact absurd hs (by decide)
 unfold tx cmdT;rw [if_neg k1]
 by_cases k2:x.k = 2
 ·rw [if_pos k2];simp only [List.length_append,List.length_cons,List.length_nil];omega
 rw [if_neg k2]
 by_cases k3:x.k = 3
 ·rw [if_pos k3];simp only [List.length_append,List.length_cons,List.length_nil];omega
 rw [if_neg k3]
 by_cases k4:x.k = 4
 ·rw [if_pos k4];simp only [List.length_append,List.length_cons,List.length_nil];omega
 rw [if_neg k4];rw [if_neg hk]
 by_cases k6:x.k = 6
 ·rw [if_pos k6];simp only [List.length_append,List.length_cons,List.length_nil];omega
 rw [if_neg k6]
 by_cases k7:x.k = 7
 ·rw [if_pos k7];simp only [List.length_append,List.length_cons,List.length_nil];omega
 rw [if_neg k7]
 by_cases k8:x.k = 8
 ·rw [if_pos k8];simp only [List.length_append,List.length_cons,List.length_nil];omega
 rw [if_neg k8]
 by_cases k9:x.k = 9
 ·rw [if_pos k9];simp only [List.length_append,List.length_cons,List.length_nil];omega
 rw [if_neg k9]
 by_cases k10:x.k = 10
 ·rw [if_pos k10];simp only [List.length_append,List.length_cons,List.length_nil];omega
 rw [if_neg k10]
 by_cases k11:x.k = 11
 ·rw [if_pos k11];simp only [List.length_append,List.length_cons,List.length_nil];omega
 rw [if_neg k11]
 by_cases k12:x.k = 12
 ·rw [if_pos k12];simp only [List.length_append,List.length_cons,List.length_nil];omega
 rw [if_neg k12];simp only [List.length_append,List.length_cons,List.length_nil];omega
theorem ptop_no (k:Int) (nm:ByteArray) (g:Bool) (az:List (ByteArray × PL)) (ws:List PL) (ks:NL) (bs:List Bool) (cz:NL) (a1 c1 a2 c2 a3 c3 a4 c4 a5 c5) (m:Int) (w:World) (h:Holds w nm az ws ks bs cz a1 c1 a2 c2 a3 c3 a4 c4 a5 c5) (hok:∀ l ∈ ws,wOK l) (hfk:fitN ks) (hfc:fitN cz) (hm:w.cell? ⟨0,0,none⟩ = some (.int .i64 m)) (hp:(k == 5 && nodeR k nm g az ws ks bs cz 1) = false) :
  Calls Tryz.prog 8 #[.agg #[.int .i64 k,.string nm,.bool g,.slice a1 az.length c1,.slice a2 ws.length c2,.slice a3 ks.len c3,.slice a4 bs.length c4,.slice a5 cz.len c5]] w fun e w'=>e = .returned (.string ⟨#[]⟩)∧Below w.heap.size w w':=by
 have hb1:=bel1 w (.cells #[.int .i64 k,.string nm,.bool g,.slice a1 az.length c1,.slice a2 ws.length c2,.slice a3 ks.len c3,.slice a4 bs.length c4,.slice a5 cz.len c5] 28);have hP:=program_any k nm g az ws ks bs cz a1 c1 a2 c2 a3 c3 a4 c4 a5 c5 m (w.alloc (.cells #[.int .i64 k,.string nm,.bool g,.slice a1 az.length c1,.slice a2 ws.length c2,.slice a3 ks.len c3,.slice a4 bs.length c4,.slice a5 cz.len c5] 28)) (h.below hb1) hok hfk hfc (cell_below hb1 hm);rw [hp] at hP;unfold nodeV at hP;have HP:=Lib.hid hP;have HB1:=Lib.hid hb1;clear hP hb1 h hp hok hfk hfc hm;go_enter Tryz.func8,Tryz.ntmps8;go_wp2_with fail;refine HP.out.mono ?_;rintro e w1 ⟨rfl,hb⟩;have HB:=Lib.hid (thru HB1.out hb);clear hb;go_wp2_with fail;go_ret;exact ⟨rfl,HB.out⟩
theorem pcom_no (k:Int) (nm:ByteArray) (g:Bool) (az:List (ByteArray × PL)) (ws:List PL) (ks:NL) (bs:List Bool) (cz:NL) (a1 c1 a2 c2 a3 c3 a4 c4 a5 c5) (m:Int) (w:World) (h:Holds w nm az ws ks bs cz a1 c1 a2 c2 a3 c3 a4 c4 a5 c5) (hok:∀ l ∈ ws,wOK l) (hfk:fitN ks) (hfc:fitN cz) (hm:w.cell? ⟨0,0,none⟩ = some (.int .i64 m)) (hp:(!(k == 5) && nodeR k nm g az ws ks bs cz 1) = false) :
  Calls Tryz.prog 10 #[.agg #[.int .i64 k,.string nm,.bool g,.slice a1 az.length c1,.slice a2 ws.length c2,.slice a3 ks.len c3,.slice a4 bs.length c4,.slice a5 cz.len c5]] w fun e w'=>e = .returned (.string ⟨#[]⟩)∧Below w.heap.size w w':=by
 have hb1:=bel1 w (.cells #[.int .i64 k,.string nm,.bool g,.slice a1 az.length c1,.slice a2 ws.length c2,.slice a3 ks.len c3,.slice a4 bs.length c4,.slice a5 cz.len c5] 28);have hR:=right_top k nm g az ws ks bs cz a1 c1 a2 c2 a3 c3 a4 c4 a5 c5 m (w.alloc (.cells #[.int .i64 k,.string nm,.bool g,.slice a1 az.length c1,.slice a2 ws.length c2,.slice a3 ks.len c3,.slice a4 bs.length c4,.slice a5 cz.len c5] 28)) (h.below hb1) hok hfk hfc (cell_below hb1 hm)
 by_cases hk:k = 5
 ·have hk1:(k == 5) = true:=by simpa using hk
  have HB1:=Lib.hid hb1;clear hR hb1 h hp hk hok hfk hfc hm;go_enter Tryz.func10,Tryz.ntmps10;go_wp2_with fail;go_ret;exact ⟨rfl,HB1.out⟩
 ·have hk1:(k == 5) = false:=by simpa using hk
  have hr:nodeR k nm g az ws ks bs cz 1 = false:=by simpa [hk1] using hp
  rw [hr] at hR;unfold nodeV at hR;have HR:=Lib.hid hR;have HB1:=Lib.hid hb1;clear hR hb1 h hp hr hk hok hfk hfc hm;go_enter Tryz.func10,Tryz.ntmps10;go_wp2_with fail;refine HR.out.mono ?_;rintro e w1 ⟨rfl,hb⟩;have HB:=Lib.hid (thru HB1.out hb);clear hb;go_wp2_with fail;go_ret;exact ⟨rfl,HB.out⟩
theorem pcom_yes (k:Int) (nm:ByteArray) (g:Bool) (az:List (ByteArray × PL)) (ws:List PL) (ks:NL) (bs:List Bool) (cz:NL) (a1 c1 a2 c2 a3 c3 a4 c4 a5 c5) (m:Int) (w:World) (h:Holds w nm az ws ks bs cz a1 c1 a2 c2 a3 c3 a4 c4 a5 c5) (hok:∀ l ∈ ws,wOK l) (hfk:fitN ks) (hfc:fitN cz) (hm:w.cell? ⟨0,0,none⟩ = some (.int .i64 m)) (hk1:(k == 5) = false) (hr:nodeR k nm g az ws ks bs cz 1 = true) (hl:(tx ⟨k,nm,g,az,ws,ks,bs,cz⟩).length≤400000) :
  Calls Tryz.prog 10 #[.agg #[.int .i64 k,.string nm,.bool g,.slice a1 az.length c1,.slice a2 ws.length c2,.slice a3 ks.len c3,.slice a4 bs.length c4,.slice a5 cz.len c5]] w fun e w'=>e = .returned (.string ⟨(tx ⟨k,nm,g,az,ws,ks,bs,cz⟩).toArray⟩)∧Below w.heap.size w w':=by
 obtain ⟨w1,hw1⟩:∃ w1,w1 = w.alloc (.cells #[.int .i64 k,.string nm,.bool g,.slice a1 az.length c1,.slice a2 ws.length c2,.slice a3 ks.len c3,.slice a4 bs.length c4,.slice a5 cz.len c5] 28):=⟨_,rfl⟩;have hb1:Below w.heap.size w w1:=by rw [hw1];exact bel1 _ _
 have hR:=right_top k nm g az ws ks bs cz a1 c1 a2 c2 a3 c3 a4 c4 a5 c5 m w1 (h.below hb1) hok hfk hfc (cell_below hb1 hm);have hx:W ⟨k,nm,g,az,ws,ks,bs,cz⟩ 1:=⟨by exact hr,h.okk,h.okc⟩;have hpos:=tx_pos hx (by simpa using hk1);rw [hr] at hR;unfold nodeV at hR;have hrow:w1.heap[w.heap.size]? = some (.cells #[.int .i64 k,.string nm,.bool g,.slice a1 az.length c1,.slice a2 ws.length c2,.slice a3 ks.len c3,.slice a4 bs.length c4,.slice a5 cz.len c5] 28 (0,0)):=by rw [hw1];exact heap_new' _ _
 have HR:=Lib.hid hR;have HB1:=Lib.hid hb1;have HW1:=Lib.hid hw1;have HROW:=Lib.hid hrow;have HX:=Lib.hid hx;have HL:=Lib.hid hl;have HH:=Lib.hid (h.below hb1);have HM:=Lib.hid (cell_below hb1 hm);have HNE:=Lib.hid (show tx ⟨k,nm,g,az,ws,ks,bs,cz⟩ ≠ [] from fun e=>by rw [e] at hpos;exact absurd hpos (by decide));clear hR hb1 h hr hl hw1 hrow hx hpos hok hfk hfc hm;go_enter Tryz.func10,Tryz.ntmps10;go_wp2_with fail;rw [← HW1.out];refine HR.out.mono ?_;rintro e w2 ⟨rfl,hb⟩;have k0:(w2.alloc (.cells #[.pointer none,.slice none 0 0] 51)).cell? ⟨w.heap.size,0,none⟩ = some (.int .i64 k):=cell_below (bel1 _ _) (cell_below hb (Lib.cell_of_heap HROW.out 0));have k1:(w2.alloc (.cells #[.pointer none,.slice none 0 0] 51)).cell? ⟨w.heap.size,1,none⟩ = some (.string nm):=cell_below (bel1 _ _) (cell_below hb (Lib.cell_of_heap HROW.out 1));have k2:(w2.alloc (.cells #[.pointer none,.slice none 0 0] 51)).cell? ⟨w.heap.size,2,none⟩ = some (.bool g):=cell_below (bel1 _ _) (cell_below hb (Lib.cell_of_heap HROW.out 2));have k3:(w2.alloc (.cells #[.pointer none,.slice none 0 0] 51)).cell? ⟨w.heap.size,3,none⟩ = some (.slice a1 az.length c1):=cell_below (bel1 _ _) (cell_below hb (Lib.cell_of_heap HROW.out 3));have k4:(w2.alloc (.cells #[.pointer none,.slice none 0 0] 51)).cell? ⟨w.heap.size,4,none⟩ = some (.slice a2 ws.length c2):=cell_below (bel1 _ _) (cell_below hb (Lib.cell_of_heap HROW.out 4));have k5:(w2.alloc (.cells #[.pointer none,.slice none 0 0] 51)).cell? ⟨w.heap.size,5,none⟩ = some (.slice a3 ks.len c3):=cell_below (bel1 _ _) (cell_below hb (Lib.cell_of_heap HROW.out 5));have k6:(w2.alloc (.cells #[.pointer none,.slice none 0 0] 51)).cell? ⟨w.heap.size,6,none⟩ = some (.slice a4 bs.length c4):=cell_below (bel1 _ _) (cell_below hb (Lib.cell_of_heap HROW.out 6));have k7:(w2.alloc (.cells #[.pointer none,.slice none 0 0] 51)).cell? ⟨w.heap.size,7,none⟩ = some (.slice a5 cz.len c5):=cell_below (bel1 _ _) (cell_below hb (Lib.cell_of_heap HROW.out 7));have hW:=Pw.write_all w2 m (cell_below hb HM.out) (Pw.msr (.node ⟨k,nm,g,az,ws,ks,bs,cz⟩) + 1);have hO:Pw.Out w2 [] (w2.alloc (.cells #[.pointer none,.slice none 0 0] 51)):=⟨Lib.IsBuilderF.of (Lib.fresh_isBuilder 51 5 w2),bel1 _ _⟩;have hC:=Pw.write_one hW (.node ⟨k,nm,g,az,ws,ks,bs,cz⟩) _ [] (w2.alloc (.cells #[.pointer none,.slice none 0 0] 51)) ⟨Nat.lt_succ_self _,1,HX.out⟩ ⟨_,_,_,_,_,_,_,_,_,_,rfl,HH.out.below hb⟩ hO (by rw [List.length_nil,Nat.zero_add];exact HL.out);rw [show (w2.alloc (.cells #[.pointer none,.slice none 0 0] 51)).heap.size = w2.heap.size + 1 by simp] at hC;unfold nodeV at hC;have HC:=Lib.hid hC;have HB:=Lib.hid hb;have HO:=Lib.hid hO;clear hC hb hW hO;go_wp2_with fail;refine HC.out.mono ?_;rintro e w3 ⟨rfl,h3,h4⟩;have hi:Pw.Out w2 (tx ⟨k,nm,g,az,ws,ks,bs,cz⟩) w3:=HO.out.kept h3 h4;have HS:=Lib.hid (Pb.string_any _ _ _ hi.is HNE.out);have HI:=Lib.hid hi.b;clear h3 h4 hi;go_wp2_with (go_at_call 20;refine HS.out.mono ?_;rintro e w4 ⟨rfl,hb4⟩);go_ret;exact ⟨rfl,thru HB1.out (thru HB.out (HI.out.trans hb4))⟩
end Rq
end Go.Proofs.YtjmpfihopeohbaaGreatDoor
