/- The law's Same, out of what the stack's readers answer. -/
import Derived.Test.YtbcldfaphnnmlaaFrE
import Derived.Test.YtbcldfaphnnmlaaFrD
namespace Go.Proofs.Ytbcldfaphnnmlaa
open Go.RowKit Go.Sort
namespace Fra
open Cls Pt Tr
/-- The kinds of a row, as a row. -/
def kI (l : List IV) : List Value := l.map fun y => Value.int .i64 y.k
/-- The uppermost item. -/
def topV (l : List IV) : Value := match l.getLast? with
  | none => .tuple #[.agg (icells zero).toArray, .bool false]
  | some y => .tuple #[.agg (icells y).toArray, .bool true]
/-- What those methods answer that change nothing. -/
structure Reads (w : World) (p : Value) (l : List IV) : Prop where
  len : ∀ w1, Below w.heap.size w w1 → Calls Try.prog 18 #[p] w1 fun e w2 => e = .returned (.int .i64 l.length) ∧ Below w1.heap.size w1 w2
  saved : ∀ w1, Below w.heap.size w w1 → Calls Try.prog 21 #[p] w1 fun e w2 => e = .returned (outS (svd l l.length)) ∧ Below w1.heap.size w1 w2
  kinds : ∀ w1, Below w.heap.size w w1 → Calls Try.prog 33 #[p] w1 fun e w2 => ∃ u B, e = .returned u ∧ w2.ownsRow B 3 1 u l.length (kI l) ∧ Below w1.heap.size w1 w2
  loops : ∀ w1, Below w.heap.size w w1 → Calls Try.prog 20 #[p] w1 fun e w2 => e = .returned (.int .i64 (lps l l.length).length) ∧ Below w1.heap.size w1 w2
  top : ∀ w1, Below w.heap.size w w1 → Calls Try.prog 22 #[p] w1 fun e w2 => e = .returned (topV l) ∧ Below w1.heap.size w1 w2
theorem kI_at {l : List IV} {j : Nat} {y : IV} (h : l[j]? = some y) : (kI l)[j]? = some (.int .i64 y.k) := by unfold kI; rw [List.getElem?_map, h]; rfl
/-- A row of numbers of one's own, cell by cell. -/
theorem kI_cells {w : World} {B : Nat} {v : Value} {l : List IV} (h : w.ownsRow B 3 1 v l.length (kI l)) : ∃ a cap, v = .slice a l.length cap ∧ ∀ j y, l[j]? = some y → ∃ b, a = some ⟨b, 0, none⟩ ∧ b < w.heap.size ∧ w.cell? ⟨b, j, none⟩ = some (.int .i64 y.k) := by
  rcases h.2 with ⟨rfl, h0⟩ | ⟨g, cap, cur, rfl, hg, hb, h1, h2, h3, h4⟩
  · exact ⟨none, 0, by rw [h0], fun j p hj => by have := (List.getElem?_eq_some_iff.1 hj).1; omega⟩
  · refine ⟨_, cap, rfl, fun j y hj => ⟨g, rfl, (Array.getElem?_eq_some_iff.1 hb).1, ?_⟩⟩
    have hjl := (List.getElem?_eq_some_iff.1 hj).1
    have h5 : (cur.toList.take (l.length * 1))[j]? = some (.int .i64 y.k) := by rw [h4]; exact kI_at hj
    rw [List.getElem?_take_of_lt (by omega)] at h5
    rw [Lib.cell_of_heap hb j, ← Array.getElem?_toList]; exact h5
theorem own_on {w w' : World} {base : Nat} {e : TypeId} {size : Nat} {v : Value} {n : Nat} {xs : List Value} (h : w.ownsRow base e size v n xs) (hb : Below w.heap.size w w') : w'.ownsRow base e size v n xs := by
  obtain ⟨h1, h2⟩ := h
  refine ⟨h1, ?_⟩
  rcases h2 with h2 | ⟨g, cap, cur, hv, hg, hh, r⟩
  · exact .inl h2
  · exact .inr ⟨g, cap, cur, hv, hg, (hb.block g (Array.getElem?_eq_some_iff.1 hh).1).trans hh, r⟩
set_option maxHeartbeats 800000 in
/-- Two rows of the same kinds are the same. -/
theorem kinds_same {w : World} {va vb : Value} {A B : Nat} {l : List IV} (ha : w.ownsRow A 3 1 va l.length (kI l)) (hb : w.ownsRow B 3 1 vb l.length (kI l)) (hl : l.length ≤ 100000) :
    Calls Try.prog 26 #[va, vb] w fun e w' => e = .returned (.bool true) ∧ Below w.heap.size w w' := by
  obtain ⟨a, cap, rfl, hca⟩ := kI_cells ha
  obtain ⟨a2, cap2, rfl, hcb⟩ := kI_cells hb
  have HA := Lib.hid hca; have HB := Lib.hid hcb
  clear ha hb hca hcb
  go_enter Try.func26, Try.ntmps26
  go_wp2_with fail
  go_loopw [13] (fun i wr => ∃ k : Nat, k ≤ l.length ∧ i = .int .i64 k ∧ Below w.heap.size w wr) (fun i _ => l.length - (intOf i).toNat)
  case atStart => exact ⟨0, Nat.zero_le _, rfl, Below.refl _ _⟩
  case round =>
    obtain ⟨k, hk, rfl, hbw⟩ := hrel
    have HBW := Lib.hid hbw
    clear hbw
    by_cases hlt : k < l.length
    · obtain ⟨y, hy⟩ : ∃ y, l[k]? = some y := ⟨_, List.getElem?_eq_getElem hlt⟩
      obtain ⟨b, rfl, h1, h2⟩ := HA.out k y hy
      obtain ⟨b2, rfl, h3, h4⟩ := HB.out k y hy
      have q1 := (World.cell?_of_block (HBW.out.block b h1)).trans h2
      have q2 := (World.cell?_of_block (HBW.out.block b2 h3)).trans h4
      clear h1 h2 h3 h4 hy
      go_wp2_with fail
      go_region
      all_goals
        go_wp2_with fail
        go_roundw
        case rel => exact ⟨k + 1, by omega, by go_num, HBW.out.os, HBW.out.tape, HBW.out.output, HBW.out.size, HBW.out.block⟩
        case measure => simp [intOf]; omega
    · obtain rfl : k = l.length := by omega
      go_wp2_with fail
      go_ret
      exact ⟨rfl, HBW.out⟩
set_option maxRecDepth 4000 in
set_option maxHeartbeats 1600000 in
theorem same_any {w : World} {p v : Value} {l : List IV} (hR : Reads w p l) (hL : LAt w v l) (hG : ∀ y ∈ l, Good w y) (hn : l.length ≤ 100000) :
    Calls Try.prog 17 #[p, v] w fun e w' => e = .returned (.int .i64 1) ∧ Below w.heap.size w w' := by
  obtain ⟨i0, hi, hz0, hz1, hz2⟩ := info_parts infoInt
  obtain ⟨a, cap, rfl, hle, hc⟩ := hL
  have HR := Lib.hid hR; have HC := Lib.hid hc; have HG := Lib.hid hG
  clear hR hc hG
  go_enter Try.func17, Try.ntmps17
  go_wp2_with fail
  have ho0 := World.ownsRow_made (base := w.heap.size) (e := 3) (size := 1) w #[] 0 (Nat.le_refl _) (Nat.zero_le _) (by simp)
  have HO0 := Lib.hid ho0; have HB0 := Lib.hid (bel1 w (.cells #[] 3))
  clear ho0
  go_loopw [5, 17] (fun v i wr => ∃ n : Nat, n ≤ l.length ∧ i = .int .i64 (n : Int) ∧ wr.ownsRow w.heap.size 3 1 v (l.take n).length (kI (l.take n)) ∧ Below w.heap.size w wr) (fun _ i _ => l.length - (intOf i).toNat)
  case atStart => exact ⟨0, Nat.zero_le _, rfl, HO0.out, HB0.out⟩
  case round =>
    obtain ⟨n, hk, rfl, hown, hb⟩ := hrel
    have HO := Lib.hid hown; have HB := Lib.hid hb
    clear hown hb
    by_cases hlt : n < l.length
    · obtain ⟨y, hy⟩ : ∃ y, l[n]? = some y := ⟨_, List.getElem?_eq_getElem hlt⟩
      obtain ⟨b, o, rfl, hbl, hcell⟩ := HC.out n y hy
      have s0 : wr.cell? ⟨b, o + n * 14, none⟩ = some (.int .i64 y.k) := cell_below HB.out (hcell 0 _ rfl)
      have s1 : wr.cell? ⟨b, o + n * 14 + 1, none⟩ = some (.int .i64 y.nk) := cell_below HB.out (hcell 1 _ rfl)
      have s2 : wr.cell? ⟨b, o + n * 14 + 2, none⟩ = some (.string y.nm) := cell_below HB.out (hcell 2 _ rfl)
      have s3 : wr.cell? ⟨b, o + n * 14 + 3, none⟩ = some (.bool y.g) := cell_below HB.out (hcell 3 _ rfl)
      have s4 : wr.cell? ⟨b, o + n * 14 + 4, none⟩ = some (.slice y.a1 y.az.length y.c1) := cell_below HB.out (hcell 4 _ rfl)
      have s5 : wr.cell? ⟨b, o + n * 14 + 5, none⟩ = some (.slice y.a2 y.nw.length y.c2) := cell_below HB.out (hcell 5 _ rfl)
      have s6 : wr.cell? ⟨b, o + n * 14 + 6, none⟩ = some (.slice y.a3 y.ks.len y.c3) := cell_below HB.out (hcell 6 _ rfl)
      have s7 : wr.cell? ⟨b, o + n * 14 + 7, none⟩ = some (.slice y.a4 y.bs.length y.c4) := cell_below HB.out (hcell 7 _ rfl)
      have s8 : wr.cell? ⟨b, o + n * 14 + 8, none⟩ = some (.slice y.a5 y.cz.len y.c5) := cell_below HB.out (hcell 8 _ rfl)
      have s9 : wr.cell? ⟨b, o + n * 14 + 9, none⟩ = some (.int .i64 y.pl) := cell_below HB.out (hcell 9 _ rfl)
      have s10 : wr.cell? ⟨b, o + n * 14 + 10, none⟩ = some (.int .i64 y.st) := cell_below HB.out (hcell 10 _ rfl)
      have s11 : wr.cell? ⟨b, o + n * 14 + 11, none⟩ = some (.bool y.fr) := cell_below HB.out (hcell 11 _ rfl)
      have s12 : wr.cell? ⟨b, o + n * 14 + 12, none⟩ = some (.slice y.wa y.ws.length y.wc) := cell_below HB.out (hcell 12 _ rfl)
      have s13 : wr.cell? ⟨b, o + n * 14 + 13, none⟩ = some (.slice y.pa y.ps.length y.pc) := cell_below HB.out (hcell 13 _ rfl)
      have htk : l.take (n + 1) = l.take n ++ [y] := by rw [List.take_add_one, hy]; rfl
      have HT := Lib.hid htk
      have hlen : (l.take (n + 1)).length = (l.take n).length + 1 := by rw [htk, List.length_append]; rfl
      have hkI : kI (l.take (n + 1)) = kI (l.take n) ++ [.int .i64 y.k] := by rw [htk]; unfold kI; rw [List.map_append]; rfl
      have HL := Lib.hid hlen; have HK := Lib.hid hkI
      have hone : ∀ j u, [Value.int .i64 y.k][j]? = some u → ((wr.alloc (.cells #[.int .i64 y.k, .int .i64 y.nk, .string y.nm, .bool y.g, .slice y.a1 y.az.length y.c1, .slice y.a2 y.nw.length y.c2, .slice y.a3 y.ks.len y.c3, .slice y.a4 y.bs.length y.c4, .slice y.a5 y.cz.len y.c5, .int .i64 y.pl, .int .i64 y.st, .bool y.fr, .slice y.wa y.ws.length y.wc, .slice y.pa y.ps.length y.pc] 41)).alloc (.cells #[.int .i64 y.k] 3)).cell? ((⟨wr.heap.size + 1, 0, none⟩ : Addr).add j) = some u := by
        have h0 := cell_one_new (wr.alloc (.cells #[.int .i64 y.k, .int .i64 y.nk, .string y.nm, .bool y.g, .slice y.a1 y.az.length y.c1, .slice y.a2 y.nw.length y.c2, .slice y.a3 y.ks.len y.c3, .slice y.a4 y.bs.length y.c4, .slice y.a5 y.cz.len y.c5, .int .i64 y.pl, .int .i64 y.st, .bool y.fr, .slice y.wa y.ws.length y.wc, .slice y.pa y.ps.length y.pc] 41)) (.int .i64 y.k) 3
        rwa [World.size_alloc] at h0
      have hsz5 : w.heap.size ≤ ((wr.alloc (.cells #[.int .i64 y.k, .int .i64 y.nk, .string y.nm, .bool y.g, .slice y.a1 y.az.length y.c1, .slice y.a2 y.nw.length y.c2, .slice y.a3 y.ks.len y.c3, .slice y.a4 y.bs.length y.c4, .slice y.a5 y.cz.len y.c5, .int .i64 y.pl, .int .i64 y.st, .bool y.fr, .slice y.wa y.ws.length y.wc, .slice y.pa y.ps.length y.pc] 41)).alloc (.cells #[.int .i64 y.k] 3)).heap.size := by
        rw [World.size_alloc, World.size_alloc]; have := HB.out.size; omega
      have hb6 : Below w.heap.size w ((wr.alloc (.cells #[.int .i64 y.k, .int .i64 y.nk, .string y.nm, .bool y.g, .slice y.a1 y.az.length y.c1, .slice y.a2 y.nw.length y.c2, .slice y.a3 y.ks.len y.c3, .slice y.a4 y.bs.length y.c4, .slice y.a5 y.cz.len y.c5, .int .i64 y.pl, .int .i64 y.st, .bool y.fr, .slice y.wa y.ws.length y.wc, .slice y.pa y.ps.length y.pc] 41)).alloc (.cells #[.int .i64 y.k] 3)) := (HB.out.alloc HB.out.size (.cells #[.int .i64 y.k, .int .i64 y.nk, .string y.nm, .bool y.g, .slice y.a1 y.az.length y.c1, .slice y.a2 y.nw.length y.c2, .slice y.a3 y.ks.len y.c3, .slice y.a4 y.bs.length y.c4, .slice y.a5 y.cz.len y.c5, .int .i64 y.pl, .int .i64 y.st, .bool y.fr, .slice y.wa y.ws.length y.wc, .slice y.pa y.ps.length y.pc] 41)).alloc (by rw [World.size_alloc]; have := HB.out.size; omega) (.cells #[.int .i64 y.k] 3)
      have HB6 := Lib.hid hb6
      clear hb6
      have hle5 : (l.take n).length ≤ 100000 := by rw [List.length_take]; omega
      have HONE := Lib.hid hone; have HSZ5 := Lib.hid hsz5; have HLE := Lib.hid hle5
      clear hcell hy htk hone hsz5 hlen hkI hle5
      go_wp2_with (first
        | (at_builtin; refine wpList_append_own_at _ rfl _ _ 39 rfl w.heap.size 3 i0 (.int .i64 0) 1 8 Try.underlying39 hi hz0 hz1 hz2 rfl (by decide) _ _ _ rfl ((HO.out.alloc _).alloc _) ⟨_, 0, none⟩ 1 1 [.int .i64 y.k] rfl rfl HONE.out (by intro u hu; simp at hu; subst hu; rfl) (by have := HLE.out; unfold maxLen; omega) (by have := HLE.out; omega) HSZ5.out ?_; intro v' w5 hown5 hgrow5 hnil5 hloc5))
      clear hnil5 hloc5
      have hlo : ∀ g, u5.ownBlock = some g → w.heap.size ≤ g := fun g e => (HO.out.lt g e).1
      have hb5 := HB6.out.grown hgrow5 HSZ5.out hlo
      have H1 := Lib.hid hown5; have H2 := Lib.hid hb5
      clear hown5 hb5 hgrow5 hlo
      go_wp2_with fail
      go_roundw
      case rel => exact ⟨n + 1, by omega, by go_num, by rw [HL.out, HK.out]; exact H1.out, H2.out⟩
      case measure => simp [intOf]; omega
    · obtain rfl : n = l.length := by omega
      have HO1 := HO.out
      rw [List.take_length] at HO1
      have HO2 := Lib.hid HO1
      clear HO1 HO
      have HL0 : Hid (LAt w (.slice a l.length cap) l) := Lib.hid ⟨a, cap, rfl, hle, HC.out⟩
      have HSV := Lib.hid (HR.out.saved _ HB.out)
      have HRS := fun w1 (hb : Below w.heap.size w w1) => rsaved_any (HL0.out.stay hb) hn
      obtain ⟨sn, sb, hsv⟩ : ∃ sn sb, outS (svd l l.length) = .tuple #[.int .i64 sn, .bool sb] := by cases svd l l.length <;> exact ⟨_, _, rfl⟩
      rw [hsv] at HSV HRS
      have HRS2 := Lib.hid HRS
      clear HRS hsv
      go_wp2_with fail
      refine HSV.out.mono ?_
      rintro e w1 ⟨rfl, hb1⟩
      have HB1 := Lib.hid (thru HB.out hb1); have HO3 := Lib.hid (own_on HO2.out hb1)
      clear hb1 HSV
      go_wp2_with fail
      refine (HRS2.out w1 HB1.out).mono ?_
      rintro e w2 ⟨rfl, rfl⟩
      go_wp2_with fail
      refine (HR.out.len _ HB1.out).mono ?_
      rintro e w2 ⟨rfl, hb2⟩
      have HB2 := Lib.hid (thru HB1.out hb2); have HO4 := Lib.hid (own_on HO3.out hb2)
      clear hb2
      go_wp2_with fail
      refine (HR.out.kinds _ HB2.out).mono ?_
      rintro e w3 ⟨u, B, rfl, hu, hb3⟩
      have HB3 := Lib.hid (thru HB2.out hb3); have HO5 := Lib.hid (own_on HO4.out hb3); have HU := Lib.hid hu
      clear hb3 hu
      go_wp2_with fail
      refine (kinds_same HU.out HO5.out hn).mono ?_
      rintro e w4 ⟨rfl, hb4⟩
      have HB4 := Lib.hid (thru HB3.out hb4)
      clear hb4
      go_wp2_with fail
      refine (HR.out.loops _ HB4.out).mono ?_
      rintro e w5 ⟨rfl, hb5⟩
      have HB5 := Lib.hid (thru HB4.out hb5)
      clear hb5
      go_wp2_with fail
      refine (rLoops_any (HL0.out.stay HB5.out) hn).mono ?_
      rintro e w6 ⟨rfl, hb6⟩
      have HB6 := Lib.hid (thru HB5.out hb6)
      clear hb6
      go_wp2_with fail
      have HT := Lib.hid (HR.out.top _ HB6.out)
      by_cases h0 : l.length = 0
      · have ht : topV l = .tuple #[.agg (icells zero).toArray, .bool false] := by rw [List.length_eq_zero_iff.1 h0]; rfl
        simp only [icells, zero, NL.len, List.length_nil] at ht
        rw [ht] at HT
        refine HT.out.mono ?_
        rintro e w7 ⟨rfl, hb7⟩
        have HB7 := Lib.hid (thru HB6.out hb7)
        clear hb7 HT ht
        have h1 : (l.length : Int) = 0 := by omega
        obtain ⟨W8, hW8⟩ : ∃ W, W = w7.alloc (.cells #[.int .i64 0, .int .i64 0, .string ⟨#[]⟩, .bool false, .slice none 0 0, .slice none 0 0, .slice none 0 0, .slice none 0 0, .slice none 0 0, .int .i64 0, .int .i64 0, .bool false, .slice none 0 0, .slice none 0 0] 43) := ⟨_, rfl⟩
        have hr8 : W8.heap[w7.heap.size]? = some (.cells #[.int .i64 0, .int .i64 0, .string ⟨#[]⟩, .bool false, .slice none 0 0, .slice none 0 0, .slice none 0 0, .slice none 0 0, .slice none 0 0, .int .i64 0, .int .i64 0, .bool false, .slice none 0 0, .slice none 0 0] 43 (0, 0)) := by rw [hW8]; exact heap_alloc_new _ _
        have hb8 : Below w7.heap.size w7 W8 := by rw [hW8]; exact bel1 _ _
        have HB8 := Lib.hid (thru HB7.out hb8)
        go_wp2_with fail
        rw [← hW8]
        have q0 := cell_regrown (Lib.cell_of_heap hr8 0)
        have q1 := cell_regrown (Lib.cell_of_heap hr8 1)
        have q2 := cell_regrown (Lib.cell_of_heap hr8 2)
        have q3 := cell_regrown (Lib.cell_of_heap hr8 3)
        have q4 := cell_regrown (Lib.cell_of_heap hr8 4)
        have q5 := cell_regrown (Lib.cell_of_heap hr8 5)
        have q6 := cell_regrown (Lib.cell_of_heap hr8 6)
        have q7 := cell_regrown (Lib.cell_of_heap hr8 7)
        have q8 := cell_regrown (Lib.cell_of_heap hr8 8)
        have q9 := cell_regrown (Lib.cell_of_heap hr8 9)
        have q10 := cell_regrown (Lib.cell_of_heap hr8 10)
        have q11 := cell_regrown (Lib.cell_of_heap hr8 11)
        have q12 := cell_regrown (Lib.cell_of_heap hr8 12)
        have q13 := cell_regrown (Lib.cell_of_heap hr8 13)
        have hcs := fun dd os => Calls.regrown_of (item_self zero (grow (redrawn W8 dd) os) (zero_good _))
        simp only [icells, zero, NL.len, List.length_nil] at hcs
        have HCS := Lib.hid hcs
        clear hcs hW8 hr8 hb8
        refine Qu.region (by kernel_rfl) (by kernel_rfl) ?_
        repeat (first
          | (first | refine Qu.carry0 rfl (fun K hK => ?_) | refine Qu.carryG rfl rfl rfl (fun K hK => ?_)
             go_simp
             first
             | (refine hK _ ?_; clear hK K)
             | (apply Exists.intro; refine ⟨fun _ => ?_, hK _ ?_⟩; (go_at_call 9; exact HCS.out _ _); clear hK K))
          | (refine Qu.passG rfl rfl rfl (fun K hK => ?_); go_simp; refine hK _ ?_; clear hK K))
        refine Qu.fin ?_
        rintro ⟨dq, osq⟩
        go_wp2_with fail
        go_ret
        exact ⟨rfl, thru HB8.out (below_regrown W8 dq osq)⟩
      · obtain ⟨y, hy⟩ : ∃ y, l[l.length - 1]? = some y := ⟨_, List.getElem?_eq_getElem (by omega)⟩
        have ht : topV l = .tuple #[.agg (icells y).toArray, .bool true] := by unfold topV; rw [List.getLast?_eq_getElem?, hy]
        simp only [icells] at ht
        rw [ht] at HT
        refine HT.out.mono ?_
        rintro e w7 ⟨rfl, hb7⟩
        have HB7 := Lib.hid (thru HB6.out hb7)
        clear hb7 HT ht
        have hp : decide (0 < l.length) = true := decide_eq_true (by omega)
        have hp2 : (0 < l.length) = True := eq_true (by omega)
        have hx : (l.length : Int) - 1 = ((l.length - 1 : Nat) : Int) := by omega
        have hw : IntKind.i64.wrap ((l.length - 1 : Nat) : Int) = ((l.length - 1 : Nat) : Int) := (wrapEq _).trans (IntWalk.wrap64_in _ ⟨by omega, by omega⟩)
        have hlt1 : (l.length - 1 < l.length) = True := eq_true (by omega)
        obtain ⟨b, o, rfl, hbl, hcell⟩ := HC.out _ y hy
        have s0 : w7.cell? ⟨b, o + (l.length - 1) * 14, none⟩ = some (.int .i64 y.k) := cell_below HB7.out (hcell 0 _ rfl)
        have s1 : w7.cell? ⟨b, o + (l.length - 1) * 14 + 1, none⟩ = some (.int .i64 y.nk) := cell_below HB7.out (hcell 1 _ rfl)
        have s2 : w7.cell? ⟨b, o + (l.length - 1) * 14 + 2, none⟩ = some (.string y.nm) := cell_below HB7.out (hcell 2 _ rfl)
        have s3 : w7.cell? ⟨b, o + (l.length - 1) * 14 + 3, none⟩ = some (.bool y.g) := cell_below HB7.out (hcell 3 _ rfl)
        have s4 : w7.cell? ⟨b, o + (l.length - 1) * 14 + 4, none⟩ = some (.slice y.a1 y.az.length y.c1) := cell_below HB7.out (hcell 4 _ rfl)
        have s5 : w7.cell? ⟨b, o + (l.length - 1) * 14 + 5, none⟩ = some (.slice y.a2 y.nw.length y.c2) := cell_below HB7.out (hcell 5 _ rfl)
        have s6 : w7.cell? ⟨b, o + (l.length - 1) * 14 + 6, none⟩ = some (.slice y.a3 y.ks.len y.c3) := cell_below HB7.out (hcell 6 _ rfl)
        have s7 : w7.cell? ⟨b, o + (l.length - 1) * 14 + 7, none⟩ = some (.slice y.a4 y.bs.length y.c4) := cell_below HB7.out (hcell 7 _ rfl)
        have s8 : w7.cell? ⟨b, o + (l.length - 1) * 14 + 8, none⟩ = some (.slice y.a5 y.cz.len y.c5) := cell_below HB7.out (hcell 8 _ rfl)
        have s9 : w7.cell? ⟨b, o + (l.length - 1) * 14 + 9, none⟩ = some (.int .i64 y.pl) := cell_below HB7.out (hcell 9 _ rfl)
        have s10 : w7.cell? ⟨b, o + (l.length - 1) * 14 + 10, none⟩ = some (.int .i64 y.st) := cell_below HB7.out (hcell 10 _ rfl)
        have s11 : w7.cell? ⟨b, o + (l.length - 1) * 14 + 11, none⟩ = some (.bool y.fr) := cell_below HB7.out (hcell 11 _ rfl)
        have s12 : w7.cell? ⟨b, o + (l.length - 1) * 14 + 12, none⟩ = some (.slice y.wa y.ws.length y.wc) := cell_below HB7.out (hcell 12 _ rfl)
        have s13 : w7.cell? ⟨b, o + (l.length - 1) * 14 + 13, none⟩ = some (.slice y.pa y.ps.length y.pc) := cell_below HB7.out (hcell 13 _ rfl)
        have HY := Lib.hid hy
        clear hcell hy
        obtain ⟨W8, hW8⟩ : ∃ W, W = w7.alloc (.cells #[.int .i64 y.k, .int .i64 y.nk, .string y.nm, .bool y.g, .slice y.a1 y.az.length y.c1, .slice y.a2 y.nw.length y.c2, .slice y.a3 y.ks.len y.c3, .slice y.a4 y.bs.length y.c4, .slice y.a5 y.cz.len y.c5, .int .i64 y.pl, .int .i64 y.st, .bool y.fr, .slice y.wa y.ws.length y.wc, .slice y.pa y.ps.length y.pc] 43) := ⟨_, rfl⟩
        have hr8 : W8.heap[w7.heap.size]? = some (.cells #[.int .i64 y.k, .int .i64 y.nk, .string y.nm, .bool y.g, .slice y.a1 y.az.length y.c1, .slice y.a2 y.nw.length y.c2, .slice y.a3 y.ks.len y.c3, .slice y.a4 y.bs.length y.c4, .slice y.a5 y.cz.len y.c5, .int .i64 y.pl, .int .i64 y.st, .bool y.fr, .slice y.wa y.ws.length y.wc, .slice y.pa y.ps.length y.pc] 43 (0, 0)) := by rw [hW8]; exact heap_alloc_new _ _
        have hb8 : Below w7.heap.size w7 W8 := by rw [hW8]; exact bel1 _ _
        have HB8 := Lib.hid (thru HB7.out hb8)
        go_wp2_with fail
        rw [← hW8]
        have q0 := cell_regrown (Lib.cell_of_heap hr8 0)
        have q1 := cell_regrown (Lib.cell_of_heap hr8 1)
        have q2 := cell_regrown (Lib.cell_of_heap hr8 2)
        have q3 := cell_regrown (Lib.cell_of_heap hr8 3)
        have q4 := cell_regrown (Lib.cell_of_heap hr8 4)
        have q5 := cell_regrown (Lib.cell_of_heap hr8 5)
        have q6 := cell_regrown (Lib.cell_of_heap hr8 6)
        have q7 := cell_regrown (Lib.cell_of_heap hr8 7)
        have q8 := cell_regrown (Lib.cell_of_heap hr8 8)
        have q9 := cell_regrown (Lib.cell_of_heap hr8 9)
        have q10 := cell_regrown (Lib.cell_of_heap hr8 10)
        have q11 := cell_regrown (Lib.cell_of_heap hr8 11)
        have q12 := cell_regrown (Lib.cell_of_heap hr8 12)
        have q13 := cell_regrown (Lib.cell_of_heap hr8 13)
        have t0 := cell_regrown (cell_below hb8 s0)
        have t1 := cell_regrown (cell_below hb8 s1)
        have t2 := cell_regrown (cell_below hb8 s2)
        have t3 := cell_regrown (cell_below hb8 s3)
        have t4 := cell_regrown (cell_below hb8 s4)
        have t5 := cell_regrown (cell_below hb8 s5)
        have t6 := cell_regrown (cell_below hb8 s6)
        have t7 := cell_regrown (cell_below hb8 s7)
        have t8 := cell_regrown (cell_below hb8 s8)
        have t9 := cell_regrown (cell_below hb8 s9)
        have t10 := cell_regrown (cell_below hb8 s10)
        have t11 := cell_regrown (cell_below hb8 s11)
        have t12 := cell_regrown (cell_below hb8 s12)
        have t13 := cell_regrown (cell_below hb8 s13)
        clear s0 s1 s2 s3 s4 s5 s6 s7 s8 s9 s10 s11 s12 s13
        have hcs := fun dd os => Calls.regrown_of (item_self y (grow (redrawn W8 dd) os) ((HG.out y (List.mem_of_getElem? HY.out)).stay (thru HB8.out (below_regrown W8 dd os))))
        simp only [icells] at hcs
        have HCS := Lib.hid hcs
        clear hcs hW8 hr8 hb8
        refine Qu.region (by kernel_rfl) (by kernel_rfl) ?_
        repeat (first
          | (first | refine Qu.carry0 rfl (fun K hK => ?_) | refine Qu.carryG rfl rfl rfl (fun K hK => ?_)
             go_simp
             first
             | (refine hK _ ?_; clear hK K)
             | (apply Exists.intro; refine ⟨fun _ => ?_, hK _ ?_⟩; (go_at_call 9; exact HCS.out _ _); clear hK K))
          | (refine Qu.passG rfl rfl rfl (fun K hK => ?_); go_simp; refine hK _ ?_; clear hK K))
        refine Qu.fin ?_
        rintro ⟨dq, osq⟩
        go_wp2_with fail
        go_ret
        exact ⟨rfl, thru HB8.out (below_regrown W8 dq osq)⟩
end Fra
end Go.Proofs.Ytbcldfaphnnmlaa
