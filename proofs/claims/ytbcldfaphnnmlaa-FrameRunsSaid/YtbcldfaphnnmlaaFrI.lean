/- Are items more than are looked at? -/
import Derived.Test.YtbcldfaphnnmlaaFrE
import Derived.Test.YtbcldfaphnnmlaaTrV
namespace Go.Proofs.Ytbcldfaphnnmlaa
open Go.RowKit Go.Sort
namespace Fra
open Cls Pt Tr
/-- What great answers. -/
def Greats (w : World) (n : Nat) (e : Ending) (w' : World) : Prop := (∃ b, e = .returned (.bool b) ∧ (b = false → n ≤ 40)) ∧ Below w.heap.size w w'
theorem greats_yes {w w' : World} {n : Nat} {e : Ending} (he : e = .returned (.bool true)) (hb : Below w.heap.size w w') : Greats w n e w' := ⟨⟨true, he, fun h => by cases h⟩, hb⟩
theorem greats_is {w w' : World} {n : Nat} {e : Ending} (he : e = .returned (.bool (decide ((40 : Int) < n)))) (hb : Below w.heap.size w w') : Greats w n e w' := ⟨⟨_, he, fun h => by have := of_decide_eq_false h; omega⟩, hb⟩
set_option maxRecDepth 4000 in
set_option maxHeartbeats 1600000 in
theorem great_any {w : World} {v : Value} {l : List IV} (hL : LAt w v l) (hG : ∀ y ∈ l, Good w y) (hn : l.length ≤ 140737488351232) :
    Calls Try.prog 6 #[v] w (Greats w l.length) := by
  obtain ⟨a, cap, rfl, hle, hc⟩ := hL
  have HC := Lib.hid hc; have HG := Lib.hid hG
  clear hc hG
  go_enter Try.func6, Try.ntmps6
  go_wp2_with fail
  go_loopw [7] (fun i wr => ∃ n : Nat, n ≤ l.length ∧ i = .int .i64 n ∧ Below w.heap.size w wr) (fun i _ => l.length - (intOf i).toNat)
  case atStart => exact ⟨0, Nat.zero_le _, rfl, Below.refl _ _⟩
  case round =>
    obtain ⟨n, hk, rfl, hb⟩ := hrel
    have HB := Lib.hid hb
    clear hb
    by_cases hlt : n < l.length
    · obtain ⟨p, hp⟩ : ∃ p, l[n]? = some p := ⟨_, List.getElem?_eq_getElem hlt⟩
      obtain ⟨b, o, rfl, hbl, hcell⟩ := HC.out n p hp
      have s0 : wr.cell? ⟨b, o + n * 14, none⟩ = some (.int .i64 p.k) := cell_below HB.out (hcell 0 _ rfl)
      have s1 : wr.cell? ⟨b, o + n * 14 + 1, none⟩ = some (.int .i64 p.nk) := cell_below HB.out (hcell 1 _ rfl)
      have s2 : wr.cell? ⟨b, o + n * 14 + 2, none⟩ = some (.string p.nm) := cell_below HB.out (hcell 2 _ rfl)
      have s3 : wr.cell? ⟨b, o + n * 14 + 3, none⟩ = some (.bool p.g) := cell_below HB.out (hcell 3 _ rfl)
      have s4 : wr.cell? ⟨b, o + n * 14 + 4, none⟩ = some (.slice p.a1 p.az.length p.c1) := cell_below HB.out (hcell 4 _ rfl)
      have s5 : wr.cell? ⟨b, o + n * 14 + 5, none⟩ = some (.slice p.a2 p.nw.length p.c2) := cell_below HB.out (hcell 5 _ rfl)
      have s6 : wr.cell? ⟨b, o + n * 14 + 6, none⟩ = some (.slice p.a3 p.ks.len p.c3) := cell_below HB.out (hcell 6 _ rfl)
      have s7 : wr.cell? ⟨b, o + n * 14 + 7, none⟩ = some (.slice p.a4 p.bs.length p.c4) := cell_below HB.out (hcell 7 _ rfl)
      have s8 : wr.cell? ⟨b, o + n * 14 + 8, none⟩ = some (.slice p.a5 p.cz.len p.c5) := cell_below HB.out (hcell 8 _ rfl)
      have s9 : wr.cell? ⟨b, o + n * 14 + 9, none⟩ = some (.int .i64 p.pl) := cell_below HB.out (hcell 9 _ rfl)
      have s10 : wr.cell? ⟨b, o + n * 14 + 10, none⟩ = some (.int .i64 p.st) := cell_below HB.out (hcell 10 _ rfl)
      have s11 : wr.cell? ⟨b, o + n * 14 + 11, none⟩ = some (.bool p.fr) := cell_below HB.out (hcell 11 _ rfl)
      have s12 : wr.cell? ⟨b, o + n * 14 + 12, none⟩ = some (.slice p.wa p.ws.length p.wc) := cell_below HB.out (hcell 12 _ rfl)
      have s13 : wr.cell? ⟨b, o + n * 14 + 13, none⟩ = some (.slice p.pa p.ps.length p.pc) := cell_below HB.out (hcell 13 _ rfl)
      have hb1 : Below w.heap.size w (wr.alloc (.cells #[.int .i64 p.k, .int .i64 p.nk, .string p.nm, .bool p.g, .slice p.a1 p.az.length p.c1, .slice p.a2 p.nw.length p.c2, .slice p.a3 p.ks.len p.c3, .slice p.a4 p.bs.length p.c4, .slice p.a5 p.cz.len p.c5, .int .i64 p.pl, .int .i64 p.st, .bool p.fr, .slice p.wa p.ws.length p.wc, .slice p.pa p.ps.length p.pc] 41)) := HB.out.trans ((bel1 _ _).mono HB.out.size)
      have hg := (HG.out p (List.mem_of_getElem? hp)).stay hb1
      have hW := weight_at (p.ks.size + p.cz.size + 1) p.nk p.nm p.g p.az p.nw p.ks p.bs p.cz p.a1 p.c1 p.a2 p.c2 p.a3 p.c3 p.a4 p.c4 p.a5 p.c5 0 (wr.alloc (.cells #[.int .i64 p.k, .int .i64 p.nk, .string p.nm, .bool p.g, .slice p.a1 p.az.length p.c1, .slice p.a2 p.nw.length p.c2, .slice p.a3 p.ks.len p.c3, .slice p.a4 p.bs.length p.c4, .slice p.a5 p.cz.len p.c5, .int .i64 p.pl, .int .i64 p.st, .bool p.fr, .slice p.wa p.ws.length p.wc, .slice p.pa p.ps.length p.pc] 41)) (by omega) (by omega) hg.nd
      have HW := Lib.hid hW; have HB1 := Lib.hid hb1
      unfold nodeV Heavy at HW
      clear hW hb1 hg hcell hp
      by_cases h1 : 50 < p.ws.length
      · go_wp2_with fail
        go_ret
        exact greats_yes rfl HB1.out
      · by_cases h2 : 50 < p.ps.length
        · go_wp2_with fail
          go_ret
          exact greats_yes rfl HB1.out
        · go_wp2_with fail
          refine HW.out.mono ?_
          rintro e w2 ⟨⟨x, rfl, _, _⟩, hb2⟩
          have HB2 := Lib.hid (HB1.out.trans (hb2.mono HB1.out.size))
          clear hb2 s0 s1 s2 s3 s4 s5 s6 s7 s8 s9 s10 s11 s12 s13
          by_cases h3 : 300 < x
          · go_wp2_with fail
            go_ret
            exact greats_yes rfl HB2.out
          · go_wp2_with fail
            go_roundw
            case rel => exact ⟨n + 1, by omega, by go_num, HB2.out⟩
            case measure => simp [intOf]; omega
    · obtain rfl : n = l.length := by omega
      go_wp2_with fail
      go_ret
      exact greats_is rfl HB.out
end Fra
end Go.Proofs.Ytbcldfaphnnmlaa
