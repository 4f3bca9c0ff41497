/- The reference's Weight, for all parts; what a small one says of them. -/
import Derived.Test.YtbcldfaphnnmlaaPtB
import Derived.Test.YtbcldfaphnnmlaaPtY
import Derived.Test.YtbcldfaphnnmlaaQTail
namespace Go.Proofs.Ytbcldfaphnnmlaa
open Go.RowKit Go.Sort
namespace Pt
open Cls Bd
def wGo:PL→Nat→Nat→Nat
 | .nil,_,n=>n
 | .cons _ _ t o f r,d,n =>
  if 10000 < n + (1 + t.size + o.size + (if 250 < d + 1∨10000 < f.len then 100000 else wGo f (d + 1) 0)) then 100000
  else wGo r d (n + (1 + t.size + o.size + (if 250 < d + 1∨10000 < f.len then 100000 else wGo f (d + 1) 0)))
def weight (l:PL) (d:Nat):Nat:=if 250 < d∨10000 < l.len then 100000 else wGo l d 0
theorem wGo_cons (k:Int) (q:Bool) (t o:ByteArray) (f r:PL) (d n:Nat) :
  wGo (.cons k q t o f r) d n = if 10000 < n + (1 + t.size + o.size + weight f (d + 1)) then 100000 else wGo r d (n + (1 + t.size + o.size + weight f (d + 1))):=rfl
theorem wGo_le:∀ (l:PL) (d n:Nat),n≤10000→wGo l d n≤100000
 | .nil,_,n,h=>by simp only [wGo];omega
 | .cons k q t o f r,d,n,h=>by
  rw [wGo_cons]
  split
  ·exact Nat.le_refl _
  ·exact wGo_le r d _ (by omega)
theorem weight_le (l:PL) (d:Nat):weight l d≤100000:=by
 unfold weight
 split
 ·exact Nat.le_refl _
 ·exact wGo_le l d 0 (by omega)
theorem wGo_bytes:∀ (l:PL) (d n:Nat),wGo l d n≤10000→wGo l d n = n + Bd.bytes l
 | .nil,_,n,h=>by simp [wGo,Bd.bytes]
 | .cons k q t o f r,d,n,h=>by
  rw [wGo_cons] at h ⊢
  split at h
  ·omega
  ·rename_i hc
   rw [if_neg hc]
   have h1:=wGo_bytes r d _ h
   have hw:weight f (d + 1)≤10000:=by omega
   have h2:weight f (d + 1) = Bd.bytes f:=by
    unfold weight at hw ⊢
    split at hw
    ·omega
    ·rename_i hc2
     rw [if_neg hc2]
     have:=wGo_bytes f (d + 1) 0 hw
     omega
   rw [h1,h2]
   simp only [Bd.bytes]
   omega
theorem weight_bytes {l:PL} {d:Nat} (h:weight l d≤10000):Bd.bytes l = weight l d:=by
 unfold weight at h ⊢
 split at h
 ·omega
 ·rename_i hc
  rw [if_neg hc]
  have:=wGo_bytes l d 0 h
  omega
theorem wrapW (x:Int) (h1:0≤x) (h2:x≤4611686018427387904):IntKind.i64.wrap x = x:=(wrapEq _).trans (IntWalk.wrap64_in _ ⟨by omega,by omega⟩)
set_option maxHeartbeats 1000000 in
set_option maxRecDepth 100000 in
theorem weight_step (l:PL) (a:Option Addr) (cap d:Nat) (w:World) (hd:d≤1000) (hl:Lies w a cap l)
  (hS:∀ (f:PL) (a:Option Addr) (cap:Nat) (w:World),f.size < l.size→d≤250→Lies w a cap f→Calls Try.prog 35 #[.slice a f.len cap,.int .i64 ((d:Int) + 1)] w fun e w'=>e = .returned (.int .i64 (weight f (d + 1)))∧Below w.heap.size w w') :
  Calls Try.prog 35 #[.slice a l.len cap,.int .i64 d] w fun e w'=>e = .returned (.int .i64 (weight l d))∧Below w.heap.size w w':=by
 have HL:=Lib.hid hl;have HS:=Lib.hid hS;clear hl hS
 have hle:=HL.out.le
 by_cases h1:250 < d
 ·have hdI:((d:Int) > 250) = True:=by simp;omega
  have hdJ:(250 < (d:Int)) = True:=by simp;omega
  have HW:=Lib.hid (show weight l d = 100000 by simp [weight,h1])
  clear h1
  go_enter Try.func35,Try.ntmps35
  go_wp2
  go_ret
  exact ⟨by rw [HW.out];rfl,Below.refl _ _⟩
 ·by_cases h2:10000 < l.len
  ·have hdI:((d:Int) > 250) = False:=by simp;omega
   have hdJ:(250 < (d:Int)) = False:=by simp;omega
   have hlI:((l.len:Int) > 10000) = True:=by simp;omega
   have hlJ:(10000 < (l.len:Int)) = True:=by simp;omega
   have HW:=Lib.hid (show weight l d = 100000 by simp [weight,h2])
   clear h1 h2
   go_enter Try.func35,Try.ntmps35
   go_wp2
   go_ret
   exact ⟨by rw [HW.out];rfl,Below.refl _ _⟩
  ·have hdI:((d:Int) > 250) = False:=by simp;omega
   have hdJ:(250 < (d:Int)) = False:=by simp;omega
   have hlI:((l.len:Int) > 10000) = False:=by simp;omega
   have hlJ:(10000 < (l.len:Int)) = False:=by simp;omega
   have HW:=Lib.hid (show weight l d = wGo l d 0 by simp [weight,h1,h2])
   have HD:=Lib.hid (show d≤250 by omega)
   clear h1 h2
   go_enter Try.func35,Try.ntmps35
   go_wp2
   go_loopw [5,17] (fun s i wr=>∃ n j:Nat,j≤l.len∧s = .int .i64 n∧i = .int .i64 j∧n≤10000∧wGo l d 0 = wGo (l.drop j) d n∧Below w.heap.size w wr) (fun _ i wr=>l.len - (intOf i).toNat)
   case atStart=>exact ⟨0,0,Nat.zero_le _,rfl,rfl,by omega,rfl,Below.refl _ _⟩
   case round =>
    obtain ⟨n,j,hj,rfl,rfl,hn,hr,hbw⟩:=hrel
    have HR:=Lib.hid hr;have HB:=Lib.hid hbw;clear hr hbw
    by_cases hlt:j < l.len
    ·obtain ⟨k,q,t,o,f,r,hdr⟩:=PL.drop_at hlt
     obtain ⟨b1,p1,rfl,hb1,c10,c11,c12,c13,ht,ho,a1,ca1,c14,hl1⟩:=(HL.out.below HB.out).get hdr
     have ht':t.size≤140737488351232:=ht
     have ho':o.size≤140737488351232:=ho
     have hszf:f.size < l.size:=by
      have:=PL.drop_size j l
      rw [hdr] at this
      simp only [PL.size] at this
      omega
     have hwl:=weight_le f (d + 1)
     have HT:=Lib.hid (show wGo l d 0 = if 10000 < n + (1 + t.size + o.size + weight f (d + 1)) then 100000 else wGo (l.drop (j + 1)) d (n + (1 + t.size + o.size + weight f (d + 1))) by
      rw [HR.out,PL.drop_succ hdr,hdr,wGo_cons])
     have HP:=Lib.hid (fun dd os=>Calls.regrown_of (HS.out f a1 ca1 (grow (redrawn (wr.alloc (.cells #[.int .i64 k,.bool q,.string t,.string o,.slice a1 f.len ca1] 85)) dd) os) hszf HD.out (hl1.below (thru (bel1 wr _) (below_regrown _ dd os)))))
     have HBX:=Lib.hid (show Box (wr.alloc (.cells #[.int .i64 k,.bool q,.string t,.string o,.slice a1 f.len ca1] 85)) wr.heap.size k q t o a1 f.len ca1 from heap_alloc_new wr _)
     have HBL:=Lib.hid (fun dq osq=>thru HB.out (thru (bel1 wr (.cells #[.int .i64 k,.bool q,.string t,.string o,.slice a1 f.len ca1] 85)) (below_regrown _ dq osq)))
     have w1:IntKind.i64.wrap (1 + (t.size:Int)) = 1 + (t.size:Int):=wrapW _ (by omega) (by omega)
     have w2:IntKind.i64.wrap (1 + (t.size:Int) + (o.size:Int)) = 1 + (t.size:Int) + (o.size:Int):=wrapW _ (by omega) (by omega)
     have w3:IntKind.i64.wrap ((d:Int) + 1) = (d:Int) + 1:=wrapW _ (by omega) (by omega)
     have w4:IntKind.i64.wrap (1 + (t.size:Int) + (o.size:Int) + (weight f (d + 1):Int)) = 1 + (t.size:Int) + (o.size:Int) + (weight f (d + 1):Int):=wrapW _ (by omega) (by omega)
     have w5:IntKind.i64.wrap ((n:Int) + (1 + (t.size:Int) + (o.size:Int) + (weight f (d + 1):Int))) = ((n + (1 + t.size + o.size + weight f (d + 1)):Nat):Int):=(wrapW _ (by omega) (by omega)).trans (by push_cast;rfl)
     clear hl1 hdr
     generalize weight f (d + 1) = W at HP HT w4 w5 hwl ⊢
     generalize hm:n + (1 + t.size + o.size + W) = M at HT w5 ⊢
     have HMM:=Lib.hid hm
     clear hm hwl
     go_wp2
     generalize wr.alloc (.cells #[.int .i64 k,.bool q,.string t,.string o,.slice a1 f.len ca1] 85) = wA at HP HBX HBL ⊢
     have r2:=cell_regrown (show wA.cell? ⟨wr.heap.size,2,none⟩ = some (.string t) from HBX.out.cell 2)
     have r3:=cell_regrown (show wA.cell? ⟨wr.heap.size,3,none⟩ = some (.string o) from HBX.out.cell 3)
     have r4:=cell_regrown (show wA.cell? ⟨wr.heap.size,4,none⟩ = some (.slice a1 f.len ca1) from HBX.out.cell 4)
     refine Qu.region (by kernel_rfl) (by kernel_rfl) ?_
     repeat (first
      | (first | refine Qu.carry0 rfl (fun K hK=>?_) | refine Qu.carryG rfl rfl rfl (fun K hK=>?_)
         go_simp
         first
         | (refine hK _ ?_;clear hK K)
         | (apply Exists.intro;refine ⟨fun _=>?_,hK _ ?_⟩;exact HP.out _ _;clear hK K))
      | (refine Qu.passG rfl rfl rfl (fun K hK=>?_);go_simp;refine hK _ ?_;clear hK K))
     refine Qu.fin ?_
     rintro ⟨dq,osq⟩
     by_cases hbig:10000 < M
     ·have hbI:((M:Int) > 10000) = True:=by simp;omega
      have hbJ:(10000 < (M:Int)) = True:=by simp;omega
      have HG:=Lib.hid hbig
      clear hbig
      go_wp2
      go_ret
      exact ⟨by rw [HW.out,HT.out,if_pos HG.out];rfl,HBL.out dq osq⟩
     ·have hbI:((M:Int) > 10000) = False:=by simp;omega
      have hbJ:(10000 < (M:Int)) = False:=by simp;omega
      have HG:=Lib.hid hbig
      clear hbig
      go_wp2
      go_roundw
      case rel=>exact ⟨M,j + 1,by omega,rfl,by go_num,by have:=HG.out;omega,by rw [HT.out,if_neg HG.out],HBL.out dq osq⟩
      case measure=>simp [intOf];omega
    ·obtain rfl:j = l.len:=by omega
     go_wp2
     go_ret
     exact ⟨by rw [HW.out,HR.out,PL.drop_end (Nat.le_refl _)];rfl,HB.out⟩
theorem weight_any (n:Nat):∀ (l:PL) (a:Option Addr) (cap d:Nat) (w:World),l.size < n→d≤1000→Lies w a cap l →
  Calls Try.prog 35 #[.slice a l.len cap,.int .i64 d] w fun e w'=>e = .returned (.int .i64 (weight l d))∧Below w.heap.size w w':=by
 induction n with
 | zero=>intro _ _ _ _ _ h;omega
 | succ n ih =>
  intro l a cap d w hn hd hl
  refine weight_step l a cap d w hd hl (fun f a cap w hf hd h=>?_)
  have:=ih f a cap (d + 1) w (by omega) (by omega) h
  simpa only [Int.natCast_add,Int.natCast_one] using this
end Pt
end Go.Proofs.Ytbcldfaphnnmlaa
