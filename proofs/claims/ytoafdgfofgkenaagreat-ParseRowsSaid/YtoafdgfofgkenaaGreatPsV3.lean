/- Two programs, one behind the other: what is read of both. Pure. -/
import Derived.Test.YtoafdgfofgkenaaGreatPsV2
import Derived.Test.YtoafdgfofgkenaaGreatPsS5
import Derived.Test.YtoafdgfofgkenaaGreatPsR3
namespace Go.Proofs.YtoafdgfofgkenaaGreat
open Go.RowKit Go.Sort
namespace Ps
open Cls Pt Tr Sp Lx
def Le {T:Type} (r r':Rs T):Prop:=(∀ i e,r = .bad i e→e ≠ 0→r' = .bad i e)∧(∀ a q,r = .ok a q→r' = .ok a q)
section
variable {T U:Type} {r r' r2:Rs T} {f f':T→Tok→Rs U}
theorem Le.refl:Le r r:=⟨fun _ _ h _=>h,fun _ _ h=>h⟩
theorem Le.of_eq (h:r = r'):Le r r':=by subst h;exact Le.refl
theorem Le.trans (h:Le r r') (k:Le r' r2):Le r r2:=⟨fun i e e1 e2=>k.1 i e (h.1 i e e1 e2) e2,fun a q e=>k.2 a q (h.2 a q e)⟩
theorem Le.bind (h:Le r r') (hf:∀ a q,r = .ok a q→Le (f a q) (f' a q)):Le (r.bind f) (r'.bind f'):=by
 cases r with
 | bad i e =>
  refine ⟨fun j g e1 e2=>?_,fun a q e1=>by cases e1⟩
  have e3:Rs.bad i e = (Rs.bad j g:Rs U):=e1
  injection e3 with h1 h2
  subst h1;subst h2
  rw [h.1 i e rfl e2]
  rfl
 | ok a q =>
  rw [h.2 a q rfl]
  exact hf a q rfl
end
def contF (s:ByteArray) (n m:Nat) (K:List ND) (B:List Bool) (o:Tok):Rs ND:=(linesN s n o).bind fun _ q=>if beginsB q then (listF s 0 m K B q).bind endF else endF (listD K B) q
theorem begins_end {s:ByteArray} {o:Tok} (ho:TokOK s o) (h4:o.k = 4):beginsB o = false:=by
 unfold beginsB
 rw [show simplyB o = false by unfold simplyB;rw [h4];rfl,opens_end ho h4,sees_end ho h4 (by decide)]
 rfl
section
variable {s s':ByteArray} (L:Ex s s')
include L
theorem lines_top:∀ n n' o,n≤n'→TokOK s o→o.k ≠ 4→∀ q,linesN s n o = .ok () q→q.k = 4→∃ m,n'≤m + mu s o∧Le (linesN s' m (nlT s)) (linesN s' n' o)
 | 0,_,_,_,_,_,_,h,_=>by cases h
 | n + 1,0,_,h,_,_,_,_,_=>absurd h (by omega)
 | n + 1,n' + 1,o,hn,ho,hk,q,h,h4=>by
  rw [linesN] at h
  unfold skipF at h
  by_cases hs:seesF [tLine] o = true
  ·rw [if_pos hs] at h
   cases hx:nextF s o with
   | bad i e=>rw [hx] at h;cases h
   | ok u p =>
    rw [hx] at h
    have hv:=next_v L ho
    obtain ⟨hmu,hp⟩:=next_mu ho hk hx
    by_cases hp4:p.k = 4
    ·refine ⟨n',by omega,Le.of_eq ?_⟩
     rw [linesN]
     unfold skipF
     rw [if_pos hs,hv.fin u p hx hp4]
     rfl
    ·obtain ⟨m,h1,h2⟩:=lines_top n n' p (by omega) hp hp4 q h h4
     refine ⟨m,by omega,h2.trans (Le.of_eq ?_)⟩
     rw [linesN]
     unfold skipF
     rw [if_pos hs,hv.ok u p hx hp4]
     rfl
  ·rw [if_neg hs] at h
   injection h with h1 h2
   subst h2
   exact absurd h4 hk
theorem list_top:∀ n n' ks bs o,n≤n'→TokOK s o→o.k ≠ 4→∀ z q,listF s 0 n ks bs o = .ok z q→q.k = 4 →
  ∃ K B lm m,z = listD K B∧n'≤m + mu s o∧F s'≤lm + 2 * s.size + 1∧Le (contF s' lm m K B (nlT s)) ((listF s' 0 n' ks bs o).bind endF)
 | 0,_,_,_,_,_,_,_,_,_,h,_=>by rw [listF] at h;cases h
 | n + 1,0,_,_,_,h,_,_,_,_,_,_=>absurd h (by omega)
 | n + 1,k + 1,ks,bs,o,hn,ho,hk,z,q,h,h4=>by
  have hv:=(vs_all L n k (by omega)).item 0 o ho hk
  have hd:=(downs_all s n).item 0 o ho
  rw [listF] at h
  have hmo:1≤mu s o:=by unfold mu;rw [if_neg hk];omega
  cases hi:itemF s 0 n o with
  | bad i e=>rw [hi] at h;cases h
  | ok x p =>
   rw [hi] at h hv hd
   obtain ⟨hmp,hp⟩:=hd x p rfl
   have h:((skipF s [⟨#[59]⟩,⟨#[38]⟩,tLine] p).bind fun b p2=>if b then (linesF s p2).bind fun _ q=>if beginsB q then listF s 0 n (ks ++ [x]) (bs ++ [seesF [⟨#[38]⟩] p]) q else .ok (listD (ks ++ [x]) (bs ++ [seesF [⟨#[38]⟩] p])) q
    else .ok (listD (ks ++ [x]) (bs ++ [seesF [⟨#[38]⟩] p])) p2) = .ok z q:=h
   by_cases hp4:p.k = 4
   ·rw [skip_end hp hp4 (by decide)] at h
    have h:Rs.ok (listD (ks ++ [x]) (bs ++ [seesF [⟨#[38]⟩] p])) p = Rs.ok z q:=h
    injection h with h1 h2
    subst h1;subst h2
    rw [sees_end hp hp4 (by decide)]
    refine ⟨_,_,F s' + 1,k,rfl,by omega,by omega,Le.of_eq ?_⟩
    rw [listF,hv.fin x p rfl hp4]
    unfold contF
    rw [linesN]
    show ((skipF s' [tLine] (nlT s)).bind _).bind _ = ((skipF s' [⟨#[59]⟩,⟨#[38]⟩,tLine] (nlT s)).bind _).bind endF
    unfold skipF
    rw [if_pos (show seesF [tLine] (nlT s) = true from by rw [sees_nl];decide),if_pos (show seesF [⟨#[59]⟩,⟨#[38]⟩,tLine] (nlT s) = true from by rw [sees_nl];decide),
     show seesF [⟨#[38]⟩] (nlT s) = false from by rw [sees_nl];decide]
    cases nextF s' (nlT s) with
    | bad i e=>rfl
    | ok u p2 =>
     show (linesN s' (F s') p2).bind _ = ((linesN s' (F s') p2).bind _).bind endF
     cases linesN s' (F s') p2 with
     | bad i e=>rfl
     | ok u q =>
      show (if beginsB q then _ else _) = (if beginsB q then _ else _:Rs ND).bind endF
      cases beginsB q <;> rfl
   ·have hv1:=hv.ok x p rfl hp4
    have hl:∀ b:Bool,(listF s' 0 (k + 1) ks bs o) = ((skipF s' [⟨#[59]⟩,⟨#[38]⟩,tLine] p).bind fun b p2=>if b then (linesF s' p2).bind fun _ q=>if beginsB q then listF s' 0 k (ks ++ [x]) (bs ++ [seesF [⟨#[38]⟩] p]) q else .ok (listD (ks ++ [x]) (bs ++ [seesF [⟨#[38]⟩] p])) q
      else .ok (listD (ks ++ [x]) (bs ++ [seesF [⟨#[38]⟩] p])) p2):=fun _=>by rw [listF,hv1];rfl
    rw [hl true]
    unfold skipF at h ⊢
    by_cases hs:seesF [⟨#[59]⟩,⟨#[38]⟩,tLine] p = true
    ·rw [if_pos hs] at h ⊢
     generalize (seesF [⟨#[38]⟩] p) = bb at h ⊢
     have hv2:=next_v L hp
     cases hx:nextF s p with
     | bad i e=>rw [hx] at h;cases h
     | ok u p2 =>
      rw [hx] at h
      obtain ⟨hmu,hp2⟩:=next_mu hp hp4 hx
      have h:((linesF s p2).bind fun _ q=>if beginsB q then listF s 0 n (ks ++ [x]) (bs ++ [bb]) q else .ok (listD (ks ++ [x]) (bs ++ [bb])) q) = .ok z q:=h
      by_cases hp24:p2.k = 4
      ·rw [hv2.fin u p2 hx hp24]
       cases hl2:linesF s p2 with
       | bad i e=>rw [hl2] at h;cases h
       | ok u2 q1 =>
        rw [hl2] at h
        have hq:=lines_end _ hp2 hp24 u2 q1 hl2
        have h5:(if beginsB q1 then listF s 0 n (ks ++ [x]) (bs ++ [bb]) q1 else .ok (listD (ks ++ [x]) (bs ++ [bb])) q1) = Rs.ok z q:=h
        rw [hq,begins_end hp2 hp24] at h5
        have h6:Rs.ok (listD (ks ++ [x]) (bs ++ [bb])) p2 = Rs.ok z q:=h5
        injection h6 with h1 h2
        refine ⟨_,_,F s',k,h1.symm,by omega,by omega,Le.of_eq ?_⟩
        show (linesN s' (F s') (nlT s)).bind _ = ((linesN s' (F s') (nlT s)).bind _).bind endF
        cases linesN s' (F s') (nlT s) with
        | bad i e=>rfl
        | ok u q =>
         show (if beginsB q then _ else _) = (if beginsB q then _ else _:Rs ND).bind endF
         cases beginsB q <;> rfl
      ·rw [hv2.ok u p2 hx hp24]
       have hG:∀ q',((linesF s' p2).bind fun _ q=>if beginsB q then listF s' 0 k (ks ++ [x]) (bs ++ [bb]) q else .ok (listD (ks ++ [x]) (bs ++ [bb])) q).bind endF = contF s' (F s') k (ks ++ [x]) (bs ++ [bb]) p2∨q' = 0:=fun _=>.inl (by
        unfold contF
        show ((linesN s' (F s') p2).bind _).bind endF = (linesN s' (F s') p2).bind _
        cases linesN s' (F s') p2 with
        | bad i e=>rfl
        | ok u q =>
         show (if beginsB q then _ else _:Rs ND).bind endF = (if beginsB q then _ else _)
         cases beginsB q <;> rfl)
       have hG1:=(hG 1).resolve_right (by decide)
       show ∃ K B lm m,z = listD K B∧k + 1≤m + mu s o∧F s'≤lm + 2 * s.size + 1∧Le (contF s' lm m K B (nlT s)) (((linesF s' p2).bind fun _ q=>if beginsB q then listF s' 0 k (ks ++ [x]) (bs ++ [bb]) q else .ok (listD (ks ++ [x]) (bs ++ [bb])) q).bind endF)
       rw [hG1]
       cases hl2:linesF s p2 with
       | bad i e=>rw [hl2] at h;cases h
       | ok u2 q1 =>
        rw [hl2] at h
        have hq1:=lines_down s _ p2 hp2 u2 q1 hl2
        have h:(if beginsB q1 then listF s 0 n (ks ++ [x]) (bs ++ [bb]) q1 else .ok (listD (ks ++ [x]) (bs ++ [bb])) q1) = Rs.ok z q:=h
        by_cases hq14:q1.k = 4
        ·rw [begins_end hq1.2 hq14] at h
         have h:Rs.ok (listD (ks ++ [x]) (bs ++ [bb])) q1 = Rs.ok z q:=h
         injection h with h1 h2
         obtain ⟨lm,h3,h5⟩:=lines_top L (F s) (F s') p2 (F_lem L) hp2 hp24 q1 hl2 hq14
         have hmu2:mu s p2≤2 * s.size + 1:=by unfold mu;split <;> omega
         exact ⟨_,_,lm,k,h1.symm,by omega,by omega,h5.bind fun _ _ _=>Le.refl⟩
        ·have hz:=((linesF_m L hp2).ok u2 q1 hl2 hq14).1
         have hc:contF s' (F s') k (ks ++ [x]) (bs ++ [bb]) p2 = if beginsB q1 then (listF s' 0 k (ks ++ [x]) (bs ++ [bb]) q1).bind endF else endF (listD (ks ++ [x]) (bs ++ [bb])) q1:=by
          unfold contF
          rw [show linesN s' (F s') p2 = .ok u2 q1 from hz]
          rfl
         rw [hc]
         cases hbg:beginsB q1 with
         | false =>
          rw [hbg] at h
          have h:Rs.ok (listD (ks ++ [x]) (bs ++ [bb])) q1 = Rs.ok z q:=h
          injection h with h1 h2
          subst h2
          exact absurd h4 hq14
         | true =>
          rw [hbg] at h
          obtain ⟨K,B,lm,m,h1,h2,h3,h5⟩:=list_top n k (ks ++ [x]) (bs ++ [bb]) q1 (by omega) hq1.2 hq14 z q h h4
          exact ⟨K,B,lm,m,h1,by omega,h3,h5⟩
    ·rw [if_neg hs] at h
     have h:Rs.ok (listD (ks ++ [x]) (bs ++ [seesF [⟨#[38]⟩] p])) p = Rs.ok z q:=h
     injection h with h1 h2
     subst h2
     exact absurd h4 hp4
omit L in
theorem o0_ok (s:ByteArray):TokOK s o0:=⟨Nat.zero_le _,Nat.zero_le _,(fun h=>by cases h),Nat.zero_le _,Nat.zero_le _⟩
theorem parse_top {z:ND} {q:Tok} (h:parseF s = .ok z q):∃ K B lm m,z = listD K B∧F s'≤lm + 2 * s.size + 1∧fuelP s'≤m + 2 * s.size + 1∧Le (contF s' lm m K B (nlT s)) (parseF s'):=by
 unfold parseF at h ⊢
 have hv:=next_v L (o0_ok s)
 cases hx:nextF s o0 with
 | bad i e=>rw [hx] at h;cases h
 | ok u o =>
  rw [hx] at h
  have ho:=hv.fine u o hx
  have h:contF s (F s) (fuelP s) [] [] o = .ok z q:=h
  unfold contF at h
  by_cases ho4:o.k = 4
  ·rw [hv.fin u o hx ho4]
   cases hl2:linesN s (F s) o with
   | bad i e=>rw [hl2] at h;cases h
   | ok u2 q1 =>
    rw [hl2] at h
    have hq:=lines_end _ ho ho4 u2 q1 hl2
    have h5:(if beginsB q1 then (listF s 0 (fuelP s) [] [] q1).bind endF else endF (listD [] []) q1) = .ok z q:=h
    rw [hq,begins_end ho ho4] at h5
    have h6:endF (listD [] []) o = .ok z q:=h5
    unfold endF at h6
    rw [if_pos ho4] at h6
    injection h6 with h1 h2
    exact ⟨[],[],F s',fuelP s',h1.symm,by omega,by omega,Le.refl⟩
  ·rw [hv.ok u o hx ho4]
   cases hl2:linesN s (F s) o with
   | bad i e=>rw [hl2] at h;cases h
   | ok u2 q1 =>
    rw [hl2] at h
    have hq1:=lines_down s _ o ho u2 q1 hl2
    have h:(if beginsB q1 then (listF s 0 (fuelP s) [] [] q1).bind endF else endF (listD [] []) q1) = .ok z q:=h
    by_cases hq14:q1.k = 4
    ·rw [begins_end hq1.2 hq14] at h
     have h:endF (listD [] []) q1 = .ok z q:=h
     unfold endF at h
     rw [if_pos hq14] at h
     injection h with h1 h2
     obtain ⟨lm,h3,h5⟩:=lines_top L (F s) (F s') o (F_lem L) ho ho4 q1 hl2 hq14
     have hmu2:mu s o≤2 * s.size + 1:=by unfold mu;split <;> omega
     exact ⟨[],[],lm,fuelP s',h1.symm,by omega,by omega,h5.bind fun _ _ _=>Le.refl⟩
    ·have hz:=((linesF_m L ho).ok u2 q1 hl2 hq14).1
     have hc:contF s' (F s') (fuelP s') [] [] o = if beginsB q1 then (listF s' 0 (fuelP s') [] [] q1).bind endF else endF (listD [] []) q1:=by
      unfold contF
      rw [show linesN s' (F s') o = .ok u2 q1 from hz]
      rfl
     show ∃ K B lm m,z = listD K B∧F s'≤lm + 2 * s.size + 1∧fuelP s'≤m + 2 * s.size + 1∧Le (contF s' lm m K B (nlT s)) (contF s' (F s') (fuelP s') [] [] o)
     rw [hc]
     cases hbg:beginsB q1 with
     | false =>
      rw [hbg] at h
      have h:endF (listD [] []) q1 = .ok z q:=h
      unfold endF at h
      rw [if_neg hq14] at h
      cases h
     | true =>
      rw [hbg] at h
      have h:(listF s 0 (fuelP s) [] [] q1).bind endF = .ok z q:=h
      cases hl3:listF s 0 (fuelP s) [] [] q1 with
      | bad i e=>rw [hl3] at h;cases h
      | ok z2 q2 =>
       rw [hl3] at h
       have h:endF z2 q2 = .ok z q:=h
       unfold endF at h
       by_cases hq24:q2.k = 4
       ·rw [if_pos hq24] at h
        injection h with h1 h2
        subst h1
        have hle:=L.le
        obtain ⟨K,B,lm,m,h1,h2,h3,h5⟩:=list_top L (fuelP s) (fuelP s') [] [] q1 (by unfold fuelP;omega) hq1.2 hq14 z2 q2 hl3 hq24
        have hmu2:mu s q1≤2 * s.size + 1:=by unfold mu;split <;> omega
        exact ⟨K,B,lm,m,h1,h3,by omega,h5⟩
       ·rw [if_neg hq24] at h
        cases h
end
theorem list_acc (s:ByteArray) (d:Nat) (K:List ND) (B:List Bool):∀ n ks bs o,(∀ i e,listF s d n ks bs o = .bad i e→listF s d n (K ++ ks) (B ++ bs) o = .bad i e) ∧
  (∀ x q,listF s d n ks bs o = .ok x q→∃ K2 B2,x = listD K2 B2∧listF s d n (K ++ ks) (B ++ bs) o = .ok (listD (K ++ K2) (B ++ B2)) q)
 | 0,ks,bs,o=>by
  rw [listF,listF]
  exact ⟨fun i e h=>h,fun x q h=>by cases h⟩
 | n + 1,ks,bs,o=>by
  rw [listF,listF]
  cases itemF s d n o with
  | bad i e=>exact ⟨fun i e h=>h,fun x q h=>by cases h⟩
  | ok x p =>
   show (∀ i e,((skipF s [⟨#[59]⟩,⟨#[38]⟩,tLine] p).bind _) = .bad i e→((skipF s [⟨#[59]⟩,⟨#[38]⟩,tLine] p).bind _) = .bad i e)∧(∀ x q,((skipF s [⟨#[59]⟩,⟨#[38]⟩,tLine] p).bind _) = .ok x q→∃ K2 B2,x = listD K2 B2∧((skipF s [⟨#[59]⟩,⟨#[38]⟩,tLine] p).bind _) = .ok (listD (K ++ K2) (B ++ B2)) q)
   generalize seesF [⟨#[38]⟩] p = bb
   cases skipF s [⟨#[59]⟩,⟨#[38]⟩,tLine] p with
   | bad i e=>exact ⟨fun i e h=>h,fun x q h=>by cases h⟩
   | ok b p2 =>
    cases b with
    | false=>exact ⟨fun i e h=>(by cases h),fun z q h=>by
      have h:Rs.ok (listD (ks ++ [x]) (bs ++ [bb])) p2 = Rs.ok z q:=h
      injection h with h1 h2
      subst h2
      exact ⟨_,_,h1.symm,by rw [← List.append_assoc,← List.append_assoc];rfl⟩⟩
    | true =>
     show (∀ i e,((linesF s p2).bind _) = .bad i e→((linesF s p2).bind _) = .bad i e)∧(∀ x q,((linesF s p2).bind _) = .ok x q→∃ K2 B2,x = listD K2 B2∧((linesF s p2).bind _) = .ok (listD (K ++ K2) (B ++ B2)) q)
     cases linesF s p2 with
     | bad i e=>exact ⟨fun i e h=>h,fun x q h=>by cases h⟩
     | ok u q1 =>
      show (∀ i e,(if beginsB q1 then listF s d n (ks ++ [x]) (bs ++ [bb]) q1 else .ok (listD (ks ++ [x]) (bs ++ [bb])) q1) = .bad i e→(if beginsB q1 then listF s d n (K ++ ks ++ [x]) (B ++ bs ++ [bb]) q1 else .ok (listD (K ++ ks ++ [x]) (B ++ bs ++ [bb])) q1) = .bad i e) ∧
       (∀ z q,(if beginsB q1 then listF s d n (ks ++ [x]) (bs ++ [bb]) q1 else .ok (listD (ks ++ [x]) (bs ++ [bb])) q1) = .ok z q→∃ K2 B2,z = listD K2 B2∧(if beginsB q1 then listF s d n (K ++ ks ++ [x]) (B ++ bs ++ [bb]) q1 else .ok (listD (K ++ ks ++ [x]) (B ++ bs ++ [bb])) q1) = .ok (listD (K ++ K2) (B ++ B2)) q)
      rw [List.append_assoc,List.append_assoc]
      cases beginsB q1 with
      | true=>exact list_acc s d K B n (ks ++ [x]) (bs ++ [bb]) q1
      | false=>exact ⟨fun i e h=>(by cases h),fun z q h=>by
        have h:Rs.ok (listD (ks ++ [x]) (bs ++ [bb])) q1 = Rs.ok z q:=h
        injection h with h1 h2
        subst h2
        exact ⟨_,_,h1.symm,rfl⟩⟩
theorem cont_acc (s:ByteArray) (n m:Nat) (K:List ND) (B:List Bool) (o:Tok):(∀ i e,contF s n m [] [] o = .bad i e→contF s n m K B o = .bad i e) ∧
  (∀ y q,contF s n m [] [] o = .ok y q→∃ K2 B2,y = listD K2 B2∧contF s n m K B o = .ok (listD (K ++ K2) (B ++ B2)) q):=by
 unfold contF
 cases linesN s n o with
 | bad i e=>exact ⟨fun i e h=>h,fun x q h=>by cases h⟩
 | ok u q1 =>
  show (∀ i e,(if beginsB q1 then (listF s 0 m [] [] q1).bind endF else endF (listD [] []) q1) = .bad i e→(if beginsB q1 then (listF s 0 m K B q1).bind endF else endF (listD K B) q1) = .bad i e) ∧
   (∀ y q,(if beginsB q1 then (listF s 0 m [] [] q1).bind endF else endF (listD [] []) q1) = .ok y q→∃ K2 B2,y = listD K2 B2∧(if beginsB q1 then (listF s 0 m K B q1).bind endF else endF (listD K B) q1) = .ok (listD (K ++ K2) (B ++ B2)) q)
  cases beginsB q1 with
  | false =>
   show (∀ i e,endF (listD [] []) q1 = .bad i e→endF (listD K B) q1 = .bad i e)∧(∀ y q,endF (listD [] []) q1 = .ok y q→∃ K2 B2,y = listD K2 B2∧endF (listD K B) q1 = .ok (listD (K ++ K2) (B ++ B2)) q)
   unfold endF
   by_cases h4:q1.k = 4
   ·rw [if_pos h4,if_pos h4]
    exact ⟨fun i e h=>(by cases h),fun y q h=>by injection h with h1 h2;subst h2;exact ⟨[],[],h1.symm,by rw [List.append_nil,List.append_nil]⟩⟩
   ·rw [if_neg h4,if_neg h4]
    exact ⟨fun i e h=>(by injection h with h1 h2;subst h1;subst h2;rfl),fun y q h=>by cases h⟩
  | true =>
   obtain ⟨h1,h2⟩:=list_acc s 0 K B m [] [] q1
   rw [List.append_nil,List.append_nil] at h1 h2
   show (∀ i e,(listF s 0 m [] [] q1).bind endF = .bad i e→(listF s 0 m K B q1).bind endF = .bad i e)∧(∀ y q,(listF s 0 m [] [] q1).bind endF = .ok y q→∃ K2 B2,y = listD K2 B2∧(listF s 0 m K B q1).bind endF = .ok (listD (K ++ K2) (B ++ B2)) q)
   cases hl:listF s 0 m [] [] q1 with
   | bad i e=>rw [h1 i e hl];exact ⟨fun i e h=>h,fun x q h=>by cases h⟩
   | ok x p =>
    obtain ⟨K2,B2,rfl,h3⟩:=h2 x p hl
    rw [h3]
    show (∀ i e,endF (listD K2 B2) p = .bad i e→endF (listD (K ++ K2) (B ++ B2)) p = .bad i e)∧(∀ y q,endF (listD K2 B2) p = .ok y q→∃ K2 B2',y = listD K2 B2'∧endF (listD (K ++ _) (B ++ B2)) p = .ok (listD (K ++ K2) (B ++ B2')) q)
    unfold endF
    by_cases h4:p.k = 4
    ·rw [if_pos h4,if_pos h4]
     exact ⟨fun i e h=>(by cases h),fun y q h=>by injection h with h5 h6;subst h6;exact ⟨K2,B2,h5.symm,rfl⟩⟩
    ·rw [if_neg h4,if_neg h4]
     exact ⟨fun i e h=>(by injection h with h1 h2;subst h1;subst h2;rfl),fun y q h=>by cases h⟩
theorem cont_y {b s':ByteArray} {n0:Nat} (T:Tm b s' n0) {o:Tok} (hj:o.j = n0) (hs:seesF [tLine] o = true) (k m:Nat) (hk:F b≤k) (hm:fuelP b≤m):Y b n0 (parseF b) (contF s' (k + 1) m [] [] o):=by
 have h1:contF s' (k + 1) m [] [] o = (nextF s' (mvT n0 o0)).bind fun _ p=>contF s' k m [] [] p:=by
  unfold contF
  rw [linesN]
  unfold skipF
  rw [if_pos hs,show nextF s' o = nextF s' (mvT n0 o0) by unfold nextF;rw [hj];rfl]
  cases nextF s' (mvT n0 o0) <;> rfl
 rw [h1]
 have hend:∀ (x:ND) (p:Tok),TokOK b p→Y b n0 (endF x p) (endF x (mvT n0 p)):=fun x p hp=>by
  unfold endF
  exact Y.ite (fun _=>Y.done hp) fun _=>Y.wrong
 unfold parseF
 have h0:TokOK b o0:=⟨Nat.zero_le _,Nat.zero_le _,(fun h=>by cases h),Nat.zero_le _,Nat.zero_le _⟩
 refine (next_y T h0).bind fun _ p hp=>?_
 exact (lines_y T (F b) k p hk hp).bind fun _ q hq=>Y.ite (fun _=>((ys_all T _ _ hm).list 0 [] [] q hq).bind fun x q2 hq2=>hend x q2 hq2) fun _=>hend _ q hq
theorem rows_pure (a b s':ByteArray) (hs':s' = (a ++ ⟨#[10]⟩) ++ b) {x:ND} {q:Tok} (h:parseF a = .ok x q) :
  (∀ i e,parseF b = .bad i e→parseF s' = .bad (a.size + 1 + i) e) ∧
  (∀ y p,parseF b = .ok y p→∃ K B K2 B2 q',x = listD K B∧y = listD K2 B2∧parseF s' = .ok (listD (K ++ K2) (B ++ B2)) q'):=by
 subst hs'
 have L:Ex a ((a ++ ⟨#[10]⟩) ++ b):=⟨⟨b.data.toList,by unfold Ext;simp⟩⟩
 have hsz:((a ++ ⟨#[10]⟩) ++ b).size = a.size + 1 + b.size:=by rw [ByteArray.size_append,ByteArray.size_append];rfl
 have hmv:Mv b ((a ++ ⟨#[10]⟩) ++ b) (a.size + 1):=⟨fun i=>by
  unfold restAt
  rw [ByteArray.data_append,ByteArray.data_append,Array.toList_append,Array.toList_append,List.drop_append,List.drop_of_length_le (by simp;try omega)]
  simp only [List.nil_append,List.length_append]
  congr 1
  show a.data.size + 1 + i - (a.data.size + 1) = i
  omega,hsz⟩
 have T:Tm b ((a ++ ⟨#[10]⟩) ++ b) (a.size + 1):=⟨fun j hj=>tok_mv hmv j hj,by omega⟩
 obtain ⟨K,B,lm,m,rfl,h1,h2,h3⟩:=parse_top L h
 unfold F at h1
 unfold fuelP at h2
 rw [hsz] at h1 h2
 obtain ⟨k,rfl⟩:∃ k,lm = k + 1:=⟨lm - 1,by omega⟩
 have hy:=cont_y T (o:=nlT a) rfl (by rw [sees_nl];decide) k m (by unfold F;omega) (by unfold fuelP;omega)
 obtain ⟨c1,c2⟩:=cont_acc ((a ++ ⟨#[10]⟩) ++ b) (k + 1) m K B (nlT a)
 refine ⟨fun i e hb=>?_,fun y p hb=>?_⟩
 ·have he:=((parse_e b).1 i e hb).1
  exact h3.1 _ _ (c1 _ _ (hy.bad i e hb he)) he
 ·obtain ⟨K2,B2,h5,h6⟩:=c2 _ _ (hy.ok y p hb)
  exact ⟨K,B,K2,B2,_,rfl,h5,h3.2 _ _ h6⟩
theorem list_cnt (s:ByteArray) (d:Nat):∀ n ks bs o x q,listF s d n ks bs o = .ok x q→x.ks.len≤ks.length + n∧x.bs.length≤bs.length + n
 | 0,_,_,_,_,_,h=>by rw [listF] at h;cases h
 | n + 1,ks,bs,o,x,q,h=>by
  have done:∀ (y:ND) (bb:Bool) (p:Tok),Rs.ok (listD (ks ++ [y]) (bs ++ [bb])) p = Rs.ok x q→x.ks.len≤ks.length + (n + 1)∧x.bs.length≤bs.length + (n + 1):=fun y bb p h=>by
   injection h with h1 h2
   subst h1
   simp only [listD,toN_len,List.length_append,List.length_singleton]
   omega
  rw [listF] at h
  cases hi:itemF s d n o with
  | bad i e=>rw [hi] at h;cases h
  | ok y p =>
   rw [hi] at h
   have h:((skipF s [⟨#[59]⟩,⟨#[38]⟩,tLine] p).bind fun b p2=>if b then (linesF s p2).bind fun _ q=>if beginsB q then listF s d n (ks ++ [y]) (bs ++ [seesF [⟨#[38]⟩] p]) q else .ok (listD (ks ++ [y]) (bs ++ [seesF [⟨#[38]⟩] p])) q
    else .ok (listD (ks ++ [y]) (bs ++ [seesF [⟨#[38]⟩] p])) p2) = .ok x q:=h
   generalize seesF [⟨#[38]⟩] p = bb at h
   cases hs:skipF s [⟨#[59]⟩,⟨#[38]⟩,tLine] p with
   | bad i e=>rw [hs] at h;cases h
   | ok b p2 =>
    rw [hs] at h
    cases b with
    | false=>exact done y bb p2 h
    | true =>
     have h:((linesF s p2).bind fun _ q=>if beginsB q then listF s d n (ks ++ [y]) (bs ++ [bb]) q else .ok (listD (ks ++ [y]) (bs ++ [bb])) q) = .ok x q:=h
     cases hl:linesF s p2 with
     | bad i e=>rw [hl] at h;cases h
     | ok u q1 =>
      rw [hl] at h
      have h:(if beginsB q1 then listF s d n (ks ++ [y]) (bs ++ [bb]) q1 else .ok (listD (ks ++ [y]) (bs ++ [bb])) q1) = .ok x q:=h
      cases hb:beginsB q1 with
      | true =>
       rw [hb] at h
       have:=list_cnt s d n _ _ q1 x q h
       simp only [List.length_append,List.length_singleton] at this
       omega
      | false =>
       rw [hb] at h
       exact done y bb q1 h
theorem parse_cnt {s:ByteArray} {x:ND} {q:Tok} (h:parseF s = .ok x q):x.ks.len≤fuelP s∧x.bs.length≤fuelP s:=by
 unfold parseF at h
 cases hx:nextF s o0 with
 | bad i e=>rw [hx] at h;cases h
 | ok u o =>
  rw [hx] at h
  have h:contF s (F s) (fuelP s) [] [] o = .ok x q:=h
  unfold contF at h
  have fin:∀ (z:ND) (p:Tok),endF z p = .ok x q→x = z:=fun z p h=>by
   unfold endF at h
   split at h
   ·injection h with h1 h2
    exact h1.symm
   ·cases h
  cases hl:linesN s (F s) o with
  | bad i e=>rw [hl] at h;cases h
  | ok u q1 =>
   rw [hl] at h
   have h:(if beginsB q1 then (listF s 0 (fuelP s) [] [] q1).bind endF else endF (listD [] []) q1) = .ok x q:=h
   cases hb:beginsB q1 with
   | false =>
    rw [hb] at h
    rw [fin _ _ h]
    exact ⟨Nat.zero_le _,Nat.zero_le _⟩
   | true =>
    rw [hb] at h
    have h:(listF s 0 (fuelP s) [] [] q1).bind endF = .ok x q:=h
    cases hl2:listF s 0 (fuelP s) [] [] q1 with
    | bad i e=>rw [hl2] at h;cases h
    | ok z p =>
     rw [hl2] at h
     rw [fin z p h]
     have:=list_cnt s 0 _ _ _ q1 z p hl2
     simpa using this
end Ps
end Go.Proofs.YtoafdgfofgkenaaGreat
