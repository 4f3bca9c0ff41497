/- strings.Cut at "="; word.Split; the reference's Split: for all parts. -/
import Derived.Test.YtoklgmbpgnimcaaGreatDoorSpB
import Derived.Test.YtoklgmbpgnimcaaGreatDoorClsN
import Derived.Test.YtoklgmbpgnimcaaGreatDoorShelf
import Derived.Lib.IndexMore
namespace Go.Proofs.YtoklgmbpgnimcaaGreatDoor
open Go.RowKit Go.Sort
namespace Sp
open Cls Pt
theorem take_le (n:Nat) (s:ByteArray):(s.data.toList.take n).length≤s.size:=by rw [List.length_take,lenB];omega
def eqT (l:List UInt8):Option Nat:=if 0≤Lib.indexByte l 61 then if nameL (l.take (Lib.indexByte l 61).toNat) then some (Lib.indexByte l 61).toNat else none else none
def splitP:PL→Option Nat
 | .cons k q t _ _ _=>if k == 1 && !q then eqT t.data.toList else none
 | .nil=>none
def restP:PL→Nat→PL
 | .cons k q t o f r,n=>if t.size≤n + 1 then r else .cons k q ⟨(t.data.toList.drop (n + 1)).toArray⟩ o f r
 | .nil,_=>.nil
theorem eqT_some {l:List UInt8} {n:Nat} (h:eqT l = some n):Lib.indexByte l 61 = n∧nameL (l.take n) = true∧n < l.length:=by
 unfold eqT at h
 split at h
 ·split at h
  ·rename_i h0 h1
   cases h
   have he:Lib.indexByte l 61 = ((Lib.indexByte l 61).toNat:Int):=by omega
   refine ⟨he,h1,?_⟩
   have:=(Lib.indexByte_some he).1
   exact (List.getElem?_eq_some_iff.1 this).1
  ·cases h
 ·cases h
theorem lies_tail {w:World} {b p cap:Nat} {k:Int} {q:Bool} {t o:ByteArray} {f r:PL} (h:Lies w (some ⟨b,p,none⟩) cap (.cons k q t o f r)):Lies w (some ⟨b,p + 5,none⟩) (cap - 1) r:=by
 obtain ⟨h1,h2,h3⟩:=h
 simp only [PL.len] at h1 h2
 refine ⟨by omega,by omega,?_⟩
 rcases h3 with h3 | ⟨b',o',ha,_,_,h3⟩
 ·cases h3
 ·cases ha
  exact .inr ⟨_,_,rfl,h3⟩
theorem lies_none {w:World} {a:Option Addr} {r:PL} (h:r.len = 0):Lies w a 0 r:=by
 cases r with
 | nil=>exact ⟨Nat.le_refl _,Nat.zero_le _,.inl rfl⟩
 | cons=>simp [PL.len] at h
theorem retext {w w2:World} {k:Int} {q:Bool} {t o s:ByteArray} {f r:PL} (h:Copied w2 w.heap.size (PL.cons k q t o f r).len (.cons k q t o f r)) (hs:s.size≤R) {row:Array Value} {T:TypeId}
  (hrow:w2.heap[w.heap.size]? = some (.cells row T (0,0))):Copied (w2.setCell ⟨w.heap.size,2,none⟩ (.string s)) w.heap.size (PL.cons k q s o f r).len (.cons k q s o f r):=by
 have g1:=heap_setCell_same _ _ 2 _ _ (.string s) hrow
 have hoth:∀ b,b ≠ w.heap.size→(w2.setCell ⟨w.heap.size,2,none⟩ (.string s)).heap[b]? = w2.heap[b]?:=fun b hb=>heap_setCell_other _ _ _ _ hb
 have hsz:(w2.setCell ⟨w.heap.size,2,none⟩ (.string s)).heap.size = w2.heap.size:=by simp
 generalize w2.setCell ⟨w.heap.size,2,none⟩ (.string s) = W at *
 have hc:∀ {i v},i ≠ 2→w2.cell? ⟨w.heap.size,i,none⟩ = some v→W.cell? ⟨w.heap.size,i,none⟩ = some v:=by
  intro i v hi h
  rw [Lib.cell_of_heap hrow] at h
  rw [Lib.cell_of_heap g1]
  rw [Array.getElem?_setIfInBounds,if_neg (by omega)]
  exact h
 intro j k' q' t' o' f' r' hj hd
 cases j with
 | zero =>
  simp only [PL.drop] at hd
  cases hd
  obtain ⟨⟨h0,h1,h2,h3,h4,h5⟩,a,cap,h6,h7⟩:=h 0 k q t o f r hj rfl
  refine ⟨⟨hc (by omega) h0,hc (by omega) h1,?_,hc (by omega) h3,hs,h5⟩,a,cap,hc (by omega) h6,h7.keep (by omega) fun b hb hl=>hoth b (by omega)⟩
  rw [Lib.cell_of_heap hrow] at h2
  rw [Lib.cell_of_heap g1]
  have:2 < row.size:=by
   have:=(Array.getElem?_eq_some_iff.1 h2).1
   simpa using this
  simp [Array.getElem?_setIfInBounds,this]
 | succ j =>
  obtain ⟨⟨h0,h1,h2,h3,h4,h5⟩,a,cap,h6,h7⟩:=h (j + 1) k' q' t' o' f' r' hj hd
  exact ⟨⟨hc (by omega) h0,hc (by omega) h1,hc (by omega) h2,hc (by omega) h3,h4,h5⟩,a,cap,hc (by omega) h6,h7.keep (by omega) fun b hb hl=>hoth b (by omega)⟩
theorem cut_eq (l:List UInt8):Lib.cut l [61] = if 0≤Lib.indexByte l 61 then (l.take (Lib.indexByte l 61).toNat,l.drop ((Lib.indexByte l 61).toNat + 1),true) else (l,[],false):=by
 unfold Lib.cut
 rw [Lib.index_one]
 rfl
theorem below_drewN (w:World) (n:Nat):Below w.heap.size w (w.drewN n):=by
 exact ⟨rfl,rfl,rfl,Nat.le_refl _,fun _ _=>rfl⟩
theorem cut_any (s:ByteArray) (m:Int) (w:World) (hs:s.size≤1000000) (hm:w.cell? ⟨1,0,none⟩ = some (.int .i64 m)) :
  Calls Tryz.prog 142 #[.string s,.string ⟨#[61]⟩] w fun e w'=>e = .returned (.tuple #[.string ⟨(Lib.cut s.data.toList [61]).1.toArray⟩,.string ⟨(Lib.cut s.data.toList [61]).2.1.toArray⟩,.bool (Lib.cut s.data.toList [61]).2.2])∧Below w.heap.size w w' :=
 (Tryz.strings_Cut s ⟨#[61]⟩ m w (by omega) hm).mono fun e w' ⟨he,n,hn⟩=>⟨he,hn ▸ below_drewN w n⟩
set_option maxHeartbeats 800000 in
set_option maxRecDepth 100000 in
theorem split_no (l:PL) (a:Option Addr) (cap:Nat) (m:Int) (w:World) (hl:Lies w a cap l) (hsz:l.size≤1000000) (ht:∀ k q t o f r,l = .cons k q t o f r→t.size≤1000000) (hm:w.cell? ⟨1,0,none⟩ = some (.int .i64 m)) (hn:splitP l = none) :
  Calls Tryz.prog 134 #[.slice a l.len cap] w fun e w'=>e = .returned (.tuple #[.string ⟨#[]⟩,.slice none 0 0,.bool false])∧Below w.heap.size w w':=by
 have HM:=Lib.hid hm;clear hm
 have HL:=Lib.hid hl;clear hl
 have HN:=Lib.hid hn;clear hn
 have HT:=Lib.hid ht;clear ht
 have hle:=HL.out.le
 cases l with
 | nil =>
  go_enter Tryz.func134,Tryz.ntmps134
  go_wp2
  go_ret3
  exact ⟨rfl,Below.refl _ _⟩
 | cons k q t o f r =>
  obtain ⟨b1,p1,rfl,hb1,c10,c11,c12,c13,ht,ho,a1,ca1,c14,hl1⟩:=HL.out.get (i:=0) rfl
  rw [Nat.zero_mul,Nat.add_zero] at c10 c11 c12 c13 c14
  have hts:=HT.out _ _ _ _ _ _ rfl
  have hlen:(PL.cons k q t o f r).len = r.len + 1:=rfl
  have hne:(((r.len + 1:Nat):Int) == 0) = false:=by simp;omega
  have hne2:((r.len:Int) + 1 == 0) = false:=by simp;omega
  rw [hlen]
  cases hk:(k == 1) <;> cases q
  all_goals
   have hk2:(k != 1) = !(k == 1):=rfl
   rw [hk] at hk2
  case true.false =>
   have hcut:=cut_any t m w hts HM.out
   have hN:=HN.out
   simp only [splitP,hk,eqT] at hN
   rw [cut_eq] at hcut
   have HK:=Lib.hid hk
   clear hk hlen hle hl1 hts
   by_cases h0:0≤Lib.indexByte t.data.toList 61
   ·rw [if_pos h0] at hcut
    have hnm:nameL (t.data.toList.take (Lib.indexByte t.data.toList 61).toNat) = false:=by
     cases h:nameL (t.data.toList.take (Lib.indexByte t.data.toList 61).toNat)
     ·rfl
     ·simp [h0,h] at hN
    have e1:nameL (⟨(t.data.toList.take (Lib.indexByte t.data.toList 61).toNat).toArray⟩:ByteArray).data.toList = false:=by simpa using hnm
    have hname:=fun w=>name_any ⟨(t.data.toList.take (Lib.indexByte t.data.toList 61).toNat).toArray⟩ w (Nat.le_trans (by show (List.toArray _).size≤_;rw [List.size_toArray];exact take_le _ t) (show t.size≤9223372036854775807 by unfold R at ht;omega))
    rw [e1] at hname
    have HC:=Lib.hid hcut;have HNM:=Lib.hid hname
    clear hcut hname hnm hN h0 e1
    go_enter Tryz.func134,Tryz.ntmps134
    go_wp2_with (first
     | (go_at_call 142;refine (HC.out).mono ?_;rintro e w1 ⟨rfl,hb⟩;have HB1:=Lib.hid hb;clear hb)
     | (go_at_call 114;refine (HNM.out _).mono ?_;rintro e w' ⟨rfl,rfl⟩))
    go_ret3
    exact ⟨rfl,HB1.out⟩
   ·rw [if_neg h0] at hcut
    have HC:=Lib.hid hcut
    clear hcut hN h0
    go_enter Tryz.func134,Tryz.ntmps134
    go_wp2_with (go_at_call 142;refine (HC.out).mono ?_;rintro e w1 ⟨rfl,hb⟩;have HB1:=Lib.hid hb;clear hb)
    go_ret3
    exact ⟨rfl,HB1.out⟩
  all_goals
   have HK:=Lib.hid hk
   clear hk hlen hle hl1 hts
   go_enter Tryz.func134,Tryz.ntmps134
   go_wp2
   go_ret3
   exact ⟨rfl,Below.refl _ _⟩
end Sp
end Go.Proofs.YtoklgmbpgnimcaaGreatDoor
