/- A copy of parts in memory of its own: plain facts; word.fresh. -/
/- strings.Cut at "="; word.Split; the reference's Split: for all parts. -/
import Derived.Test.YtbcldfaphnnmlaaPtB
import Derived.Deep.OwnRows
import Derived.Test.YtbcldfaphnnmlaaClsN
import Derived.Test.YtbcldfaphnnmlaaShelf
import Derived.Lib.IndexMore
namespace Go.Proofs.Ytbcldfaphnnmlaa
open Go.RowKit Go.Sort
namespace Sp
open Cls Pt
def LiesNew (N:Nat) (w:World) (a:Option Addr) (cap:Nat) (l:PL):Prop :=
 ∀ w2:World,w.heap.size≤w2.heap.size→(∀ b,N≤b→b < w.heap.size→w2.heap[b]? = w.heap[b]?)→Lies w2 a cap l
theorem LiesNew.lies {N:Nat} {w:World} {a:Option Addr} {cap:Nat} {l:PL} (h:LiesNew N w a cap l):Lies w a cap l:=h w (Nat.le_refl _) fun _ _ _=>rfl
theorem LiesNew.keep {N:Nat} {w w':World} {a:Option Addr} {cap:Nat} {l:PL} (h:LiesNew N w a cap l) (hs:w.heap.size≤w'.heap.size) (hk:∀ b,N≤b→b < w.heap.size→w'.heap[b]? = w.heap[b]?):LiesNew N w' a cap l :=
 fun w2 h2 hk2=>h w2 (by omega) fun b hb hlt=>(hk2 b hb (by omega)).trans (hk b hb hlt)
theorem LiesNew.mono {N N':Nat} {w:World} {a:Option Addr} {cap:Nat} {l:PL} (h:LiesNew N w a cap l) (hN:N'≤N):LiesNew N' w a cap l :=
 fun w2 h2 hk2=>h w2 h2 fun b hb hlt=>hk2 b (by omega) hlt
theorem LiesNew.below {N:Nat} {w w':World} {a:Option Addr} {cap:Nat} {l:PL} (h:LiesNew N w a cap l) (hb:Below w.heap.size w w'):LiesNew N w' a cap l :=
 h.keep hb.size fun b _ hlt=>hb.block b hlt
def Copied (w:World) (B k:Nat) (l:PL):Prop :=
 ∀ (j:Nat) (kk:Int) (q:Bool) (t o:ByteArray) (f r:PL),j < k→l.drop j = .cons kk q t o f r →
  (w.cell? ⟨B,j * 5,none⟩ = some (.int .i64 kk)∧w.cell? ⟨B,j * 5 + 1,none⟩ = some (.bool q)∧w.cell? ⟨B,j * 5 + 2,none⟩ = some (.string t)∧w.cell? ⟨B,j * 5 + 3,none⟩ = some (.string o)∧t.size≤R∧o.size≤R) ∧
  ∃ a cap,w.cell? ⟨B,j * 5 + 4,none⟩ = some (.slice a f.len cap)∧LiesNew (B + 1) w a cap f
theorem Copied.tail {w:World} {B:Nat} {l:PL} (h:Copied w B l.len l):∀ m,m≤l.len→At w B ((l.len - m) * 5) (l.drop (l.len - m))
 | 0,_=>by rw [Nat.sub_zero,PL.drop_end (Nat.le_refl _)];trivial
 | m + 1,hm=>by
  obtain ⟨kk,q,t,o,f,r,hd⟩:=PL.drop_at (n:=l.len - (m + 1)) (l:=l) (by omega)
  obtain ⟨⟨h0,h1,h2,h3,h4,h5⟩,a,cap,h6,h7⟩:=h _ _ _ _ _ _ _ (by omega) hd
  rw [hd]
  refine ⟨⟨h0,h1,h2,h3,h4,h5⟩,⟨a,cap,h6,h7.lies.1,h7.lies.2.1,h7.lies.2.2⟩,?_⟩
  have:=Copied.tail h m (by omega)
  rw [← PL.drop_succ hd,show (l.len - (m + 1)) * 5 + 5 = (l.len - m) * 5 by omega,show l.len - (m + 1) + 1 = l.len - m by omega]
  exact this
theorem Copied.at {w:World} {B:Nat} {l:PL} (h:Copied w B l.len l):At w B 0 l:=by
 have:=h.tail l.len (Nat.le_refl _)
 simpa [PL.drop] using this
theorem Copied.keep {w w':World} {B k:Nat} {l:PL} (h:Copied w B k l) (hs:w.heap.size≤w'.heap.size) (hk:∀ b,B≤b→b < w.heap.size→w'.heap[b]? = w.heap[b]?):Copied w' B k l:=by
 intro j kk q t o f r hj hd
 obtain ⟨⟨h0,h1,h2,h3,h4,h5⟩,a,cap,h6,h7⟩:=h j kk q t o f r hj hd
 have hlt:=World.block_lt_of_cell? _ _ h0
 have hc:∀ {i v},w.cell? ⟨B,i,none⟩ = some v→w'.cell? ⟨B,i,none⟩ = some v:=fun {i v} h=>(World.cell?_of_block (w:=w) (a:=⟨B,i,none⟩) (hk B (Nat.le_refl _) hlt)).trans h
 exact ⟨⟨hc h0,hc h1,hc h2,hc h3,h4,h5⟩,a,cap,hc h6,h7.keep hs fun b hb hlt=>hk b (by omega) hlt⟩
end Sp
end Go.Proofs.Ytbcldfaphnnmlaa
namespace Go.Proofs.Ytbcldfaphnnmlaa
open Go.RowKit Go.Sort
namespace Sp
open Cls Pt
end Sp
end Go.Proofs.Ytbcldfaphnnmlaa
