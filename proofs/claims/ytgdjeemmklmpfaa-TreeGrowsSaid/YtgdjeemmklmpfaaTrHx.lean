/- Nodes that lie there whatever becomes of one block. -/
import Derived.Test.YtgdjeemmklmpfaaTrZ
namespace Go.Proofs.Ytgdjeemmklmpfaa
open Go.RowKit Go.Sort
namespace Tr
open Cls Pt

/-- A node ahead of others, from its eight values. -/
theorem nat_cons {w : World} {b o : Nat} {k : Int} {nm : ByteArray} {g : Bool} {az : List (ByteArray × PL)} {ws : List PL} {ks cz r : NL} {bs : List Bool} {x1 x2 x3 x4 x5 : Option Addr} {d1 d2 d3 d4 d5 : Nat}
    (h : Holds w nm az ws ks bs cz x1 d1 x2 d2 x3 d3 x4 d4 x5 d5) (hc : ∀ j v, (nodeV k nm g x1 az.length d1 x2 ws.length d2 x3 ks.len d3 x4 bs.length d4 x5 cz.len d5)[j]? = some v → w.cell? ⟨b, o + j, none⟩ = some v) (hr : NAt w r b (o + 8)) :
    NAt w (.node k nm g az ws ks bs cz r) b o :=
  ⟨⟨hc 0 _ rfl, hc 1 _ rfl, hc 2 _ rfl, h.hnm⟩, ⟨x1, d1, hc 3 _ rfl, h.haz⟩, ⟨x2, d2, hc 4 _ rfl, h.hws⟩, ⟨x3, d3, hc 5 _ rfl, h.hks.1, h.hks.2.1, h.hks.2.2⟩, ⟨x4, d4, hc 6 _ rfl, h.hbs⟩, ⟨x5, d5, hc 7 _ rfl, h.hcs.1, h.hcs.2.1, h.hcs.2.2⟩, hr⟩
/-- One node in a block of its own. -/
theorem nlies_one {w : World} {b : Nat} {k : Int} {nm : ByteArray} {g : Bool} {az : List (ByteArray × PL)} {ws : List PL} {ks cz : NL} {bs : List Bool} {x1 x2 x3 x4 x5 : Option Addr} {d1 d2 d3 d4 d5 : Nat} {t : TypeId}
    (h : Holds w nm az ws ks bs cz x1 d1 x2 d2 x3 d3 x4 d4 x5 d5) (hr : w.heap[b]? = some (.cells (nodeV k nm g x1 az.length d1 x2 ws.length d2 x3 ks.len d3 x4 bs.length d4 x5 cz.len d5) t (0, 0))) :
    NLies w (some ⟨b, 0, none⟩) 1 (.node k nm g az ws ks bs cz .nil) :=
  ⟨Nat.le_refl _, (by decide : 1 ≤ R), .inr ⟨b, 0, rfl, nat_cons h (fun j v hv => by rw [Nat.zero_add]; exact (Lib.cell_of_heap hr j).trans hv) trivial⟩⟩
/-- A node's slices hold so, whatever becomes of block pb. -/
def HoldsX (pb : Nat) (w : World) (nm : ByteArray) (az : List (ByteArray × PL)) (ws : List PL) (ks : NL) (bs : List Bool) (cz : NL) (x1 : Option Addr) (d1 : Nat) (x2 : Option Addr) (d2 : Nat) (x3 : Option Addr) (d3 : Nat) (x4 : Option Addr) (d4 : Nat) (x5 : Option Addr) (d5 : Nat) : Prop :=
  ∀ w2, FrP pb w w2 → Holds w2 nm az ws ks bs cz x1 d1 x2 d2 x3 d3 x4 d4 x5 d5
theorem HoldsX.fr {pb : Nat} {w w' : World} {nm : ByteArray} {az : List (ByteArray × PL)} {ws : List PL} {ks cz : NL} {bs : List Bool} {x1 x2 x3 x4 x5 : Option Addr} {d1 d2 d3 d4 d5 : Nat} (h : HoldsX pb w nm az ws ks bs cz x1 d1 x2 d2 x3 d3 x4 d4 x5 d5) (hf : FrP pb w w') : HoldsX pb w' nm az ws ks bs cz x1 d1 x2 d2 x3 d3 x4 d4 x5 d5 :=
  fun w2 h2 => h w2 (hf.trans h2)
theorem HoldsX.of_below {pb : Nat} {w w' : World} {nm : ByteArray} {az : List (ByteArray × PL)} {ws : List PL} {ks cz : NL} {bs : List Bool} {x1 x2 x3 x4 x5 : Option Addr} {d1 d2 d3 d4 d5 : Nat} (h : Holds w nm az ws ks bs cz x1 d1 x2 d2 x3 d3 x4 d4 x5 d5) (hb : Below w.heap.size w w') (hp : w.heap.size ≤ pb) : HoldsX pb w' nm az ws ks bs cz x1 d1 x2 d2 x3 d3 x4 d4 x5 d5 :=
  fun _ h2 => h.below (h2.below hb hp)
theorem FrP.row {pb b : Nat} {w w2 : World} {cs : Array Value} {t : TypeId} (hf : FrP pb w w2) (hn : b ≠ pb) (h : w.heap[b]? = some (.cells cs t (0, 0))) : w2.heap[b]? = some (.cells cs t (0, 0)) :=
  (hf.block b (Array.getElem?_eq_some_iff.1 h).1 hn).trans h

/-- What is built in one round. -/
theorem built_holds {pb b1 b2 b3 b4 : Nat} {w : World} {k k1 : Int} {nm : ByteArray} {g q : Bool} {az : List (ByteArray × PL)} {ws : List PL} {ks cz : NL} {bs : List Bool} {x1 x2 x3 x4 x5 : Option Addr} {d1 d2 d3 d4 d5 : Nat} {y : Option Addr} {e : Nat} {t1 t2 t3 t4 : TypeId}
    (h : HoldsX pb w nm az ws ks bs cz x1 d1 x2 d2 x3 d3 x4 d4 x5 d5) (hs : HoldsX pb w ⟨#[]⟩ [] [wA] .nil [] .nil none 0 y e none 0 none 0 none 0)
    (h1 : w.heap[b1]? = some (.cells (nodeV k nm g x1 az.length d1 x2 ws.length d2 x3 ks.len d3 x4 bs.length d4 x5 cz.len d5) t1 (0, 0))) (n1 : b1 ≠ pb)
    (h2 : w.heap[b2]? = some (.cells (nodeV 1 ⟨#[]⟩ false none 0 0 y 1 e none 0 0 none 0 0 none 0 0) t2 (0, 0))) (n2 : b2 ≠ pb)
    (h3 : w.heap[b3]? = some (.cells #[.int .i64 k1, .string ⟨#[]⟩, .bool false, .slice none 0 0, .slice none 0 0, .slice (some ⟨b1, 0, none⟩) 1 1, .slice none 0 0, .slice none 0 0, .int .i64 4, .string ⟨#[]⟩, .bool false, .slice none 0 0, .slice none 0 0, .slice (some ⟨b2, 0, none⟩) 1 1, .slice none 0 0, .slice none 0 0] t3 (0, 0))) (n3 : b3 ≠ pb)
    (h4 : w.heap[b4]? = some (.cells #[.bool q, .bool false] t4 (0, 0))) (n4 : b4 ≠ pb) (hok : NL.okN ks true = true) (hoc : NL.okN cz false = true) :
    HoldsX pb w ⟨#[]⟩ [] [] (.node k1 ⟨#[]⟩ false [] [] (.node k nm g az ws ks bs cz .nil) [] .nil (.node 4 ⟨#[]⟩ false [] [] sA [] .nil .nil)) [q, false] .nil none 0 none 0 (some ⟨b3, 0, none⟩) 2 (some ⟨b4, 0, none⟩) 2 none 0 := by
  intro w2 hf
  have l1 := nlies_one (h w2 hf) (hf.row n1 h1)
  have l2 : NLies w2 (some ⟨b2, 0, none⟩) 1 sA := nlies_one (hs w2 hf) (hf.row n2 h2)
  have r3 := hf.row n3 h3
  have r4 := hf.row n4 h4
  have o1 : NL.okN (.node k nm g az ws ks bs cz .nil) true = true := by simp [NL.okN, hok, hoc]
  have o2 : NL.okN sA true = true := rfl
  have hh1 : Holds w2 ⟨#[]⟩ [] [] (.node k nm g az ws ks bs cz .nil) [] .nil none 0 none 0 (some ⟨b1, 0, none⟩) 1 none 0 none 0 := ⟨by decide, sl_nil _ _, sl_nil _ _, l1, sl_nil _ _, nl_nil _, o1, rfl⟩
  have hh2 : Holds w2 ⟨#[]⟩ [] [] sA [] .nil none 0 none 0 (some ⟨b2, 0, none⟩) 1 none 0 none 0 := ⟨by decide, sl_nil _ _, sl_nil _ _, l2, sl_nil _ _, nl_nil _, o2, rfl⟩
  have n2' : NAt w2 (.node 4 ⟨#[]⟩ false [] [] sA [] .nil .nil) b3 8 := nat_cons hh2 (fun j v hv => (Lib.cell_of_heap r3 (8 + j)).trans (by
    match j, hv with
    | 0, hv => cases hv; rfl
    | 1, hv => cases hv; rfl
    | 2, hv => cases hv; rfl
    | 3, hv => cases hv; rfl
    | 4, hv => cases hv; rfl
    | 5, hv => cases hv; rfl
    | 6, hv => cases hv; rfl
    | 7, hv => cases hv; rfl
    | j + 8, hv => simp [nodeV] at hv)) trivial
  have n1' : NAt w2 (.node k1 ⟨#[]⟩ false [] [] (.node k nm g az ws ks bs cz .nil) [] .nil (.node 4 ⟨#[]⟩ false [] [] sA [] .nil .nil)) b3 0 := nat_cons hh1 (fun j v hv => (Lib.cell_of_heap r3 (0 + j)).trans (by
    match j, hv with
    | 0, hv => cases hv; rfl
    | 1, hv => cases hv; rfl
    | 2, hv => cases hv; rfl
    | 3, hv => cases hv; rfl
    | 4, hv => cases hv; rfl
    | 5, hv => cases hv; rfl
    | 6, hv => cases hv; rfl
    | 7, hv => cases hv; rfl
    | j + 8, hv => simp [nodeV] at hv)) n2'
  exact ⟨by decide, sl_nil _ _, sl_nil _ _, ⟨Nat.le_refl _, (by decide : 2 ≤ R), .inr ⟨_, _, rfl, n1'⟩⟩, ⟨Nat.le_refl _, (by decide : 2 ≤ R), .inr ⟨_, _, rfl, Lib.cell_of_heap r4 0, Lib.cell_of_heap r4 1, trivial⟩⟩, nl_nil _, by simp [NL.okN, hok, hoc, sA], rfl⟩
end Tr
end Go.Proofs.Ytgdjeemmklmpfaa
