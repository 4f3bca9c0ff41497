/- FrameRuns. -/
import Derived.Test.YtbcldfaphnnmlaaFrT
import Derived.Test.YtbcldfaphnnmlaaFrH
import Derived.Test.YtbcldfaphnnmlaaFrI
import Derived.Test.YtbcldfaphnnmlaaFrJ
namespace Go.Proofs.Ytbcldfaphnnmlaa
open Go.RowKit Go.Sort
namespace Fra
open Cls Pt Tr
/-- What is neither a stack nor one of its items stays. -/
def Keeps (w w' : World) : Prop := ∀ (g : Nat) (cs : Array Value) (T : TypeId) (f : Nat × Nat), w.heap[g]? = some (.cells cs T f) → T ≠ 26 → T ≠ 43 → w'.heap[g]? = some (.cells cs T f)
section
variable {W0 w : World} {b : Nat} {l l' : List IV} {u : Value}
theorem Two.pushK {sv : Value} {m k : List IV} (h : Two W0 w b l u m) (hk : LAt w sv k) (hl : l.length + k.length ≤ 100000) :
    Calls Try.prog 7 #[.pointer (some ⟨b, 0, none⟩), sv] w fun e w' => e = .returned (.tuple #[]) ∧ Two W0 w' b (l ++ k) u m ∧ Keeps w w' := by
  obtain ⟨v, hv⟩ := h.stk
  exact (push_any hv h.on.size hk hl).mono fun e w' ⟨he, v', hs, hc⟩ => ⟨he, h.chg hv hs hc, fun _ _ _ _ hg h1 h2 => hc.other hv hg h1 h2⟩
theorem Two.brkK {m : List IV} (h : Two W0 w b l u m) (hl : l.length ≤ 100000) (n : Int) (h0 : -9223372036854775808 ≤ n) :
    Calls Try.prog 10 #[.pointer (some ⟨b, 0, none⟩), .int .i64 n] w fun e w' => e = .returned (.bool (outB (Fra.brk l n))) ∧ Two W0 w' b (brkL l n) u m ∧ Keeps w w' := by
  obtain ⟨v, hv⟩ := h.stk
  exact (break_any hl hv n h0).mono fun e w' ⟨he, v', hs, hc⟩ => ⟨he, h.chg hv hs hc, fun _ _ _ _ hg h1 h2 => hc.other hv hg h1 h2⟩
theorem Two.goK {m : List IV} (h : Two W0 w b l u m) (hl : l.length ≤ 100000) (n : Int) (h0 : -9223372036854775808 ≤ n) :
    Calls Try.prog 12 #[.pointer (some ⟨b, 0, none⟩), .int .i64 n] w fun e w' => e = .returned (.bool (outB (Fra.brk l n))) ∧ Two W0 w' b (goL l n) u m ∧ Keeps w w' := by
  obtain ⟨v, hv⟩ := h.stk
  exact (continue_any hl hv n h0).mono fun e w' ⟨he, v', hs, hc⟩ => ⟨he, h.chg hv hs hc, fun _ _ _ _ hg h1 h2 => hc.other hv hg h1 h2⟩
theorem Two.rbrk (h : Two W0 w b l' u l) (hl : l.length ≤ 100000) (n : Int) (h0 : -9223372036854775808 ≤ n) :
    Calls Try.prog 11 #[u, .int .i64 n] w fun e w' => ∃ u', e = .returned (.tuple #[u', .bool (outB (Fra.brk l n))]) ∧ Two W0 w' b l' u' (brkL l n) := by
  refine (rbreak_any n (LAt.own h.row) hl h0).mono fun e w' he => ?_
  unfold Broke at he
  unfold brkL
  cases hb : Fra.brk l n with
  | none => rw [hb] at he; exact ⟨u, he.1, h.stay he.2⟩
  | some i =>
    rw [hb] at he
    obtain ⟨⟨v', he, ho⟩, hb2⟩ := he
    exact ⟨v', he, h.other hb2 ho⟩
theorem Two.rgo (h : Two W0 w b l' u l) (hl : l.length ≤ 100000) (n : Int) (h0 : -9223372036854775808 ≤ n) :
    Calls Try.prog 13 #[u, .int .i64 n] w fun e w' => ∃ u', e = .returned (.tuple #[u', .bool (outB (Fra.brk l n))]) ∧ Two W0 w' b l' u' (goL l n) := by
  refine (rcontinue_any n (LAt.own h.row) hl h0).mono fun e w' he => ?_
  unfold Goes at he
  unfold goL
  cases hb : Fra.brk l n with
  | none => rw [hb] at he; exact ⟨u, he.1, h.stay he.2⟩
  | some i =>
    rw [hb] at he
    obtain ⟨⟨v', x, hx, he, ho⟩, hb2⟩ := he
    simp only [hx]
    exact ⟨v', he, h.other hb2 ho⟩
/-- What Return answers: an item, and whether there is one. -/
theorem ret_form (l : List IV) : ∃ (y : IV) (g : Bool), retV l = .tuple #[.agg (icells y).toArray, .bool g] ∧ (y = zero ∨ y ∈ l) ∧ (∀ (W0 w : World) (b : Nat) (l' : List IV) (u : Value), Two W0 w b l' u l → l.length ≤ 100000 →
    Calls Try.prog 15 #[u] w fun e w' => ∃ u', e = .returned (.tuple #[u', .agg (icells y).toArray, .bool g]) ∧ Two W0 w' b l' u' (retL l) ∧ Below w.heap.size w w') := by
  cases hr : Fra.ret l l.length with
  | none =>
    refine ⟨zero, false, by unfold retV; rw [hr], .inl rfl, fun W0 w b l' u h hl => ?_⟩
    refine (rreturn_any (LAt.own h.row) hl).mono fun e w' he => ?_
    unfold Returned at he
    unfold retL
    rw [hr] at he ⊢
    exact ⟨u, he.1, h.stay he.2, he.2⟩
  | some p =>
    obtain ⟨i, x⟩ := p
    have hx := (ret_lt l _ _ _ hr).2.1
    refine ⟨x, true, by unfold retV; rw [hr], .inr (List.mem_of_getElem? hx), fun W0 w b l' u h hl => ?_⟩
    refine (rreturn_any (LAt.own h.row) hl).mono fun e w' he => ?_
    unfold Returned at he
    unfold retL
    rw [hr] at he ⊢
    obtain ⟨⟨v', he, ho⟩, hb2⟩ := he
    exact ⟨v', he, h.other hb2 ho, hb2⟩
end
theorem Keeps.trans {w w1 w2 : World} (h : Keeps w w1) (k : Keeps w1 w2) : Keeps w w2 := fun g cs T f hg h1 h2 => k g cs T f (h g cs T f hg h1 h2) h1 h2
theorem Keeps.of_below {w w1 : World} (h : Below w.heap.size w w1) : Keeps w w1 := fun g cs T f hg _ _ => (h.block g (Array.getElem?_eq_some_iff.1 hg).1).trans hg
theorem topV_take {l : List IV} {n : Nat} {z : IV} (h : l[n]? = some z) : topV (l.take (n + 1)) = .tuple #[.agg (icells z).toArray, .bool true] := by
  rw [List.take_add_one, h]
  unfold topV
  rw [show (some z).toList = [z] from rfl, List.getLast?_concat]
theorem take_take_one {l : List IV} {n : Nat} (h : n < l.length) : (l.take (n + 1)).take ((l.take (n + 1)).length - 1) = l.take n := by
  rw [List.length_take, Nat.min_eq_left (by omega), Nat.add_sub_cancel, List.take_take, Nat.min_eq_left (by omega)]
theorem brkL_mem {l : List IV} {n : Int} {y : IV} (h : y ∈ brkL l n) : y ∈ l := by
  unfold brkL at h
  split at h
  · exact h
  · exact List.mem_of_mem_take h
theorem brkL_len (l : List IV) (n : Int) : (brkL l n).length ≤ l.length := by
  unfold brkL
  split
  · exact Nat.le_refl _
  · exact List.length_take_le' _ _
theorem retL_mem {l : List IV} {y : IV} (h : y ∈ retL l) : y ∈ l := by
  unfold retL at h
  split at h
  · exact h
  · exact List.mem_of_mem_take h
theorem retL_len (l : List IV) : (retL l).length ≤ l.length := by
  unfold retL
  split
  · exact Nat.le_refl _
  · exact List.length_take_le' _ _
theorem goL_good {w : World} {l : List IV} (n : Int) (h : ∀ y ∈ l, Good w y) : ∀ y ∈ goL l n, Good w y := by
  intro y hy
  unfold goL at hy
  split at hy
  · exact h y hy
  · split at hy
    · exact h y hy
    · rename_i x hx
      rcases List.mem_append.1 hy with hy | hy
      · exact h y (List.mem_of_mem_take hy)
      · rw [List.mem_singleton.1 hy]
        have := h x (List.mem_of_getElem? hx)
        unfold goes
        split
        · exact this
        · exact again_good this
theorem goL_len (l : List IV) (n : Int) : (goL l n).length ≤ l.length + 1 := by
  unfold goL
  split
  · omega
  · split
    · omega
    · rw [List.length_append, List.length_singleton]
      have := List.length_take_le' ‹Nat› l
      omega
set_option maxRecDepth 100000 in
set_option maxHeartbeats 12800000 in
theorem runs_law (W : World) (a : Option Addr) (cap : Nat) (acts : List Ac) (hs : Sl 3 (PAc W) a cap acts) :
    Calls Try.prog 3 #[.slice a acts.length cap] W fun e w' => e = .returned (.bool true) ∧ Below W.heap.size W w' := by
  have HSL := Lib.hid hs
  have hlen := hs.2.1
  have HAL := Lib.hid (fun w => frameAlive_any w)
  clear hs
  have hRR : R = 140737488351232 := rfl
  obtain ⟨i0, hi, hz0, hz1, hz2⟩ := info_parts infoR
  have HI := Lib.hid hi; have HZ0 := Lib.hid hz0; have HZ1 := Lib.hid hz1; have HZ2 := Lib.hid hz2
  clear hi hz0 hz1 hz2
  go_enter Try.func3, Try.ntmps3
  go_wp2_with fail
  refine (HAL.out _).mono ?_
  rintro e w1 ⟨rfl, hb1⟩
  have HB1 := Lib.hid hb1
  clear hb1
  by_cases h40 : 40 < acts.length
  · go_wp2_with fail
    go_ret
    exact ⟨rfl, HB1.out⟩
  have h0 := Two.new (Below.refl w1.heap.size w1)
  have h2 := h0.stay (bel1 (w1.alloc (.cells #[.slice none 0 0] 26)) (.cells #[] 41))
  have ho2 : ((w1.alloc (.cells #[.slice none 0 0] 26)).alloc (.cells #[] 41)).ownsRow w1.heap.size 41 14 (.slice (some ⟨w1.heap.size + 1, 0, none⟩) 0 0) 0 (lcells []) := by
    have := World.ownsRow_made (base := w1.heap.size) (e := 41) (size := 14) (w1.alloc (.cells #[.slice none 0 0] 26)) #[] 0 (by rw [World.size_alloc]; omega) (Nat.zero_le _) (by simp)
    rw [World.size_alloc] at this
    exact this
  have H0 := Lib.hid (⟨h2.lo, h2.stk, ho2, h2.on⟩ : Two w1 _ w1.heap.size [] _ [])
  clear h0 h2 ho2
  go_wp2_with fail
  go_loopw [4, 35] (fun v i wr => ∃ (j : Nat) (l : List IV), j ≤ acts.length ∧ i = .int .i64 j ∧ l.length ≤ 41 * j ∧ (∀ z ∈ l, Good W z) ∧ Two w1 wr w1.heap.size l v l) (fun _ i _ => acts.length - (intOf i).toNat)
  case atStart => exact ⟨0, [], Nat.zero_le _, rfl, Nat.zero_le _, fun z hz => (by cases hz), H0.out⟩
  case round =>
    obtain ⟨j, l, hj, rfl, hl, hg, ht⟩ := hrel
    obtain ⟨a1, c1, rfl⟩ := own_slice ht.row
    have HT := Lib.hid ht; have HG := Lib.hid hg
    clear ht hg
    by_cases hlt : j < acts.length
    · obtain ⟨y, hy⟩ : ∃ y, acts[j]? = some y := ⟨_, List.getElem?_eq_getElem hlt⟩
      obtain ⟨ba, o, rfl, hp⟩ := HSL.out.get hy
      obtain ⟨hit, ⟨hn0, hn1⟩, hc⟩ := hp
      have hbw := thru HB1.out HT.out.on
      have q0 : wr.cell? ⟨ba, o + j * 3, none⟩ = some (.int .i64 y.kind) := cell_below hbw (hc 0 _ rfl)
      have q1 : wr.cell? ⟨ba, o + j * 3 + 1, none⟩ = some (.int .i64 y.n) := cell_below hbw (hc 1 _ rfl)
      have q2 : wr.cell? ⟨ba, o + j * 3 + 2, none⟩ = some (.slice y.a y.l.length y.c) := cell_below hbw (hc 2 _ rfl)
      have hba := bel1 wr (.cells #[.int .i64 y.kind, .int .i64 y.n, .slice y.a y.l.length y.c] 29)
      have hza := heap_alloc_new wr (.cells #[.int .i64 y.kind, .int .i64 y.n, .slice y.a y.l.length y.c] 29)
      have hIT := LAt.of_sl hit
      have hGI := good_of_sl hit
      have hln := hit.2.1
      have C4 := great_any (hIT.stay (thru hbw hba)) (fun z hz => ((hGI z hz).ok).stay (thru hbw hba)) (by omega)
      have HZA := Lib.hid hza; have HIT := Lib.hid hIT; have HGI := Lib.hid (fun z hz => (hGI z hz).ok); have HBA := Lib.hid hba
      unfold Greats at C4
      have HC4 := Lib.hid C4
      clear hc hy hbw hza hIT hGI hba C4 hit
      go_wp2_with fail
      refine HC4.out.mono ?_
      rintro e w5 ⟨⟨bg, rfl, hbg⟩, hb5⟩
      have H5 := Lib.hid (HT.out.stay (thru HBA.out hb5))
      have hza5 := (hb5.block wr.heap.size (Array.getElem?_eq_some_iff.1 HZA.out).1).trans HZA.out
      clear hb5
      cases bg
      · have hy40 := hbg rfl
        have x0 : w5.cell? ⟨wr.heap.size, 0, none⟩ = some (.int .i64 y.kind) := Lib.cell_of_heap hza5 0
        have x1 : w5.cell? ⟨wr.heap.size, 1, none⟩ = some (.int .i64 y.n) := Lib.cell_of_heap hza5 1
        have x2 : w5.cell? ⟨wr.heap.size, 2, none⟩ = some (.slice y.a y.l.length y.c) := Lib.cell_of_heap hza5 2
        have HZ5 := Lib.hid hza5
        clear hza5 hbg
        cases h0 : (y.kind == 0)
        · skip
          cases h1 : (y.kind == 1)
          · skip
            cases h2 : (y.kind == 2)
            · skip
              cases h3 : (y.kind == 3)
              · skip
                cases h4 : (y.kind == 4)
                · skip
                  cases h5 : (y.kind == 5)
                  · skip
                    as_aux_lemma =>
                      obtain ⟨vS, hvS⟩ := H5.out.stk
                      have hGS : ∀ z ∈ l, Good W z := HG.out
                      have hlS : (l).length ≤ 41 * (j + 1) := by omega
                      have CS := same_any (reads_any (by omega) hvS) (LAt.own H5.out.row) (fun z hz => (hGS z hz).stay (thru HB1.out H5.out.on)) (by omega)
                      clear hvS
                      go_wp2_with fail
                      refine CS.mono ?_
                      rintro e w9 ⟨rfl, hb9⟩
                      have H9 := Lib.hid (H5.out.stay hb9)
                      clear hb9 CS
                      have HGS := Lib.hid hGS
                      clear hGS
                      go_wp2_with fail
                      go_roundw
                      case rel => exact ⟨j + 1, l, by omega, by go_num, hlS, HGS.out, H9.out⟩
                      case measure => simp [intOf]; omega
                  · skip
                    as_aux_lemma =>
                      go_wp2_with fail
                      refine (H5.out.clear).mono ?_
                      rintro e w6 ⟨rfl, h6⟩
                      have h7 : Two w1 w6 w1.heap.size [] (.slice none 0 0) [] := ⟨h6.lo, h6.stk, World.ownsRow_nil _ _ _ _, h6.on⟩
                      have H7 := Lib.hid h7
                      clear h6 h7
                      obtain ⟨vS, hvS⟩ := H7.out.stk
                      have hGS : ∀ z ∈ ([] : List IV), Good W z := fun z hz => by cases hz
                      have hlS : (([] : List IV)).length ≤ 41 * (j + 1) := by simp
                      have CS := same_any (reads_any (by omega) hvS) (LAt.own H7.out.row) (fun z hz => (hGS z hz).stay (thru HB1.out H7.out.on)) (by omega)
                      clear hvS
                      go_wp2_with fail
                      refine CS.mono ?_
                      rintro e w9 ⟨rfl, hb9⟩
                      have H9 := Lib.hid (H7.out.stay hb9)
                      clear hb9 CS
                      have HGS := Lib.hid hGS
                      clear hGS
                      go_wp2_with fail
                      go_roundw
                      case rel => exact ⟨j + 1, ([] : List IV), by omega, by go_num, hlS, HGS.out, H9.out⟩
                      case measure => simp [intOf]; omega
                · skip
                  as_aux_lemma =>
                    obtain ⟨x, gb, hrv, hxm, hrr⟩ := ret_form l
                    have C5 := H5.out.ret (by omega)
                    rw [hrv] at C5
                    have hxg : Good W x := hxm.elim (fun e => by rw [e]; exact zero_good _) fun h => HG.out x h
                    have HX := Lib.hid hxg; have HRR := Lib.hid hrr
                    clear hrv hxm hxg hrr
                    simp only [icells] at C5
                    go_wp2_with fail
                    refine C5.mono ?_
                    rintro e w6 ⟨rfl, h6⟩
                    have hs6 := h6.stay (bel1 w6 (.cells #[.int .i64 x.k, .int .i64 x.nk, .string x.nm, .bool x.g, .slice x.a1 x.az.length x.c1, .slice x.a2 x.nw.length x.c2, .slice x.a3 x.ks.len x.c3, .slice x.a4 x.bs.length x.c4, .slice x.a5 x.cz.len x.c5, .int .i64 x.pl, .int .i64 x.st, .bool x.fr, .slice x.wa x.ws.length x.wc, .slice x.pa x.ps.length x.pc] 43))
                    have hx6 := heap_alloc_new w6 (.cells #[.int .i64 x.k, .int .i64 x.nk, .string x.nm, .bool x.g, .slice x.a1 x.az.length x.c1, .slice x.a2 x.nw.length x.c2, .slice x.a3 x.ks.len x.c3, .slice x.a4 x.bs.length x.c4, .slice x.a5 x.cz.len x.c5, .int .i64 x.pl, .int .i64 x.st, .bool x.fr, .slice x.wa x.ws.length x.wc, .slice x.pa x.ps.length x.pc] 43)
                    have C6 := HRR.out _ _ _ _ _ hs6 (by omega)
                    simp only [icells] at C6
                    have HX6 := Lib.hid hx6
                    clear h6 hs6 hx6 C5
                    go_wp2_with fail
                    refine C6.mono ?_
                    rintro e w7 ⟨u7, rfl, h7, hb7⟩
                    obtain ⟨a7, c7, rfl⟩ := own_slice h7.row
                    have hb8 := bel1 w7 (.cells #[.int .i64 x.k, .int .i64 x.nk, .string x.nm, .bool x.g, .slice x.a1 x.az.length x.c1, .slice x.a2 x.nw.length x.c2, .slice x.a3 x.ks.len x.c3, .slice x.a4 x.bs.length x.c4, .slice x.a5 x.cz.len x.c5, .int .i64 x.pl, .int .i64 x.st, .bool x.fr, .slice x.wa x.ws.length x.wc, .slice x.pa x.ps.length x.pc] 41)
                    have hx7 := (hb7.block w6.heap.size (Array.getElem?_eq_some_iff.1 HX6.out).1).trans HX6.out
                    have hx8 := (hb8.block w6.heap.size (Array.getElem?_eq_some_iff.1 hx7).1).trans hx7
                    have hy8 := heap_alloc_new w7 (.cells #[.int .i64 x.k, .int .i64 x.nk, .string x.nm, .bool x.g, .slice x.a1 x.az.length x.c1, .slice x.a2 x.nw.length x.c2, .slice x.a3 x.ks.len x.c3, .slice x.a4 x.bs.length x.c4, .slice x.a5 x.cz.len x.c5, .int .i64 x.pl, .int .i64 x.st, .bool x.fr, .slice x.wa x.ws.length x.wc, .slice x.pa x.ps.length x.pc] 41)
                    have h8 := h7.stay hb8
                    have CI := item_self x _ (HX.out.stay (thru HB1.out h8.on))
                    simp only [icells] at CI
                    have HX8 := Lib.hid hx8; have HY8 := Lib.hid hy8; have H8 := Lib.hid h8; have HCI := Lib.hid CI
                    clear hb7 h7 hx7 hx8 hy8 h8 hb8 CI C6
                    have s0 : (w7.alloc (.cells #[.int .i64 x.k, .int .i64 x.nk, .string x.nm, .bool x.g, .slice x.a1 x.az.length x.c1, .slice x.a2 x.nw.length x.c2, .slice x.a3 x.ks.len x.c3, .slice x.a4 x.bs.length x.c4, .slice x.a5 x.cz.len x.c5, .int .i64 x.pl, .int .i64 x.st, .bool x.fr, .slice x.wa x.ws.length x.wc, .slice x.pa x.ps.length x.pc] 41)).cell? ⟨w6.heap.size, 0, none⟩ = some (.int .i64 x.k) := Lib.cell_of_heap HX8.out 0
                    have s1 : (w7.alloc (.cells #[.int .i64 x.k, .int .i64 x.nk, .string x.nm, .bool x.g, .slice x.a1 x.az.length x.c1, .slice x.a2 x.nw.length x.c2, .slice x.a3 x.ks.len x.c3, .slice x.a4 x.bs.length x.c4, .slice x.a5 x.cz.len x.c5, .int .i64 x.pl, .int .i64 x.st, .bool x.fr, .slice x.wa x.ws.length x.wc, .slice x.pa x.ps.length x.pc] 41)).cell? ⟨w6.heap.size, 1, none⟩ = some (.int .i64 x.nk) := Lib.cell_of_heap HX8.out 1
                    have s2 : (w7.alloc (.cells #[.int .i64 x.k, .int .i64 x.nk, .string x.nm, .bool x.g, .slice x.a1 x.az.length x.c1, .slice x.a2 x.nw.length x.c2, .slice x.a3 x.ks.len x.c3, .slice x.a4 x.bs.length x.c4, .slice x.a5 x.cz.len x.c5, .int .i64 x.pl, .int .i64 x.st, .bool x.fr, .slice x.wa x.ws.length x.wc, .slice x.pa x.ps.length x.pc] 41)).cell? ⟨w6.heap.size, 2, none⟩ = some (.string x.nm) := Lib.cell_of_heap HX8.out 2
                    have s3 : (w7.alloc (.cells #[.int .i64 x.k, .int .i64 x.nk, .string x.nm, .bool x.g, .slice x.a1 x.az.length x.c1, .slice x.a2 x.nw.length x.c2, .slice x.a3 x.ks.len x.c3, .slice x.a4 x.bs.length x.c4, .slice x.a5 x.cz.len x.c5, .int .i64 x.pl, .int .i64 x.st, .bool x.fr, .slice x.wa x.ws.length x.wc, .slice x.pa x.ps.length x.pc] 41)).cell? ⟨w6.heap.size, 3, none⟩ = some (.bool x.g) := Lib.cell_of_heap HX8.out 3
                    have s4 : (w7.alloc (.cells #[.int .i64 x.k, .int .i64 x.nk, .string x.nm, .bool x.g, .slice x.a1 x.az.length x.c1, .slice x.a2 x.nw.length x.c2, .slice x.a3 x.ks.len x.c3, .slice x.a4 x.bs.length x.c4, .slice x.a5 x.cz.len x.c5, .int .i64 x.pl, .int .i64 x.st, .bool x.fr, .slice x.wa x.ws.length x.wc, .slice x.pa x.ps.length x.pc] 41)).cell? ⟨w6.heap.size, 4, none⟩ = some (.slice x.a1 x.az.length x.c1) := Lib.cell_of_heap HX8.out 4
                    have s5 : (w7.alloc (.cells #[.int .i64 x.k, .int .i64 x.nk, .string x.nm, .bool x.g, .slice x.a1 x.az.length x.c1, .slice x.a2 x.nw.length x.c2, .slice x.a3 x.ks.len x.c3, .slice x.a4 x.bs.length x.c4, .slice x.a5 x.cz.len x.c5, .int .i64 x.pl, .int .i64 x.st, .bool x.fr, .slice x.wa x.ws.length x.wc, .slice x.pa x.ps.length x.pc] 41)).cell? ⟨w6.heap.size, 5, none⟩ = some (.slice x.a2 x.nw.length x.c2) := Lib.cell_of_heap HX8.out 5
                    have s6 : (w7.alloc (.cells #[.int .i64 x.k, .int .i64 x.nk, .string x.nm, .bool x.g, .slice x.a1 x.az.length x.c1, .slice x.a2 x.nw.length x.c2, .slice x.a3 x.ks.len x.c3, .slice x.a4 x.bs.length x.c4, .slice x.a5 x.cz.len x.c5, .int .i64 x.pl, .int .i64 x.st, .bool x.fr, .slice x.wa x.ws.length x.wc, .slice x.pa x.ps.length x.pc] 41)).cell? ⟨w6.heap.size, 6, none⟩ = some (.slice x.a3 x.ks.len x.c3) := Lib.cell_of_heap HX8.out 6
                    have s7 : (w7.alloc (.cells #[.int .i64 x.k, .int .i64 x.nk, .string x.nm, .bool x.g, .slice x.a1 x.az.length x.c1, .slice x.a2 x.nw.length x.c2, .slice x.a3 x.ks.len x.c3, .slice x.a4 x.bs.length x.c4, .slice x.a5 x.cz.len x.c5, .int .i64 x.pl, .int .i64 x.st, .bool x.fr, .slice x.wa x.ws.length x.wc, .slice x.pa x.ps.length x.pc] 41)).cell? ⟨w6.heap.size, 7, none⟩ = some (.slice x.a4 x.bs.length x.c4) := Lib.cell_of_heap HX8.out 7
                    have s8 : (w7.alloc (.cells #[.int .i64 x.k, .int .i64 x.nk, .string x.nm, .bool x.g, .slice x.a1 x.az.length x.c1, .slice x.a2 x.nw.length x.c2, .slice x.a3 x.ks.len x.c3, .slice x.a4 x.bs.length x.c4, .slice x.a5 x.cz.len x.c5, .int .i64 x.pl, .int .i64 x.st, .bool x.fr, .slice x.wa x.ws.length x.wc, .slice x.pa x.ps.length x.pc] 41)).cell? ⟨w6.heap.size, 8, none⟩ = some (.slice x.a5 x.cz.len x.c5) := Lib.cell_of_heap HX8.out 8
                    have s9 : (w7.alloc (.cells #[.int .i64 x.k, .int .i64 x.nk, .string x.nm, .bool x.g, .slice x.a1 x.az.length x.c1, .slice x.a2 x.nw.length x.c2, .slice x.a3 x.ks.len x.c3, .slice x.a4 x.bs.length x.c4, .slice x.a5 x.cz.len x.c5, .int .i64 x.pl, .int .i64 x.st, .bool x.fr, .slice x.wa x.ws.length x.wc, .slice x.pa x.ps.length x.pc] 41)).cell? ⟨w6.heap.size, 9, none⟩ = some (.int .i64 x.pl) := Lib.cell_of_heap HX8.out 9
                    have s10 : (w7.alloc (.cells #[.int .i64 x.k, .int .i64 x.nk, .string x.nm, .bool x.g, .slice x.a1 x.az.length x.c1, .slice x.a2 x.nw.length x.c2, .slice x.a3 x.ks.len x.c3, .slice x.a4 x.bs.length x.c4, .slice x.a5 x.cz.len x.c5, .int .i64 x.pl, .int .i64 x.st, .bool x.fr, .slice x.wa x.ws.length x.wc, .slice x.pa x.ps.length x.pc] 41)).cell? ⟨w6.heap.size, 10, none⟩ = some (.int .i64 x.st) := Lib.cell_of_heap HX8.out 10
                    have s11 : (w7.alloc (.cells #[.int .i64 x.k, .int .i64 x.nk, .string x.nm, .bool x.g, .slice x.a1 x.az.length x.c1, .slice x.a2 x.nw.length x.c2, .slice x.a3 x.ks.len x.c3, .slice x.a4 x.bs.length x.c4, .slice x.a5 x.cz.len x.c5, .int .i64 x.pl, .int .i64 x.st, .bool x.fr, .slice x.wa x.ws.length x.wc, .slice x.pa x.ps.length x.pc] 41)).cell? ⟨w6.heap.size, 11, none⟩ = some (.bool x.fr) := Lib.cell_of_heap HX8.out 11
                    have s12 : (w7.alloc (.cells #[.int .i64 x.k, .int .i64 x.nk, .string x.nm, .bool x.g, .slice x.a1 x.az.length x.c1, .slice x.a2 x.nw.length x.c2, .slice x.a3 x.ks.len x.c3, .slice x.a4 x.bs.length x.c4, .slice x.a5 x.cz.len x.c5, .int .i64 x.pl, .int .i64 x.st, .bool x.fr, .slice x.wa x.ws.length x.wc, .slice x.pa x.ps.length x.pc] 41)).cell? ⟨w6.heap.size, 12, none⟩ = some (.slice x.wa x.ws.length x.wc) := Lib.cell_of_heap HX8.out 12
                    have s13 : (w7.alloc (.cells #[.int .i64 x.k, .int .i64 x.nk, .string x.nm, .bool x.g, .slice x.a1 x.az.length x.c1, .slice x.a2 x.nw.length x.c2, .slice x.a3 x.ks.len x.c3, .slice x.a4 x.bs.length x.c4, .slice x.a5 x.cz.len x.c5, .int .i64 x.pl, .int .i64 x.st, .bool x.fr, .slice x.wa x.ws.length x.wc, .slice x.pa x.ps.length x.pc] 41)).cell? ⟨w6.heap.size, 13, none⟩ = some (.slice x.pa x.ps.length x.pc) := Lib.cell_of_heap HX8.out 13
                    go_wp2_with fail
                    refine HCI.out.mono ?_
                    rintro e w8 ⟨rfl, hb9⟩
                    have H7 := Lib.hid (H8.out.stay hb9)
                    clear hb9 s0 s1 s2 s3 s4 s5 s6 s7 s8 s9 s10 s11 s12 s13
                    obtain ⟨vS, hvS⟩ := H7.out.stk
                    have hGS : ∀ z ∈ retL l, Good W z := fun z hz => HG.out z (retL_mem hz)
                    have hlS : (retL l).length ≤ 41 * (j + 1) := by have := retL_len l; omega
                    have CS := same_any (reads_any (by omega) hvS) (LAt.own H7.out.row) (fun z hz => (hGS z hz).stay (thru HB1.out H7.out.on)) (by omega)
                    clear hvS
                    go_wp2_with fail
                    refine CS.mono ?_
                    rintro e w9 ⟨rfl, hb9⟩
                    have H9 := Lib.hid (H7.out.stay hb9)
                    clear hb9 CS
                    have HGS := Lib.hid hGS
                    clear hGS
                    go_wp2_with fail
                    go_roundw
                    case rel => exact ⟨j + 1, retL l, by omega, by go_num, hlS, HGS.out, H9.out⟩
                    case measure => simp [intOf]; omega
              · skip
                as_aux_lemma =>
                  have C5 := H5.out.goK (by omega) y.n hn0
                  generalize hob : outB (Fra.brk l y.n) = ob at C5
                  have HOB := Lib.hid hob
                  clear hob
                  go_wp2_with fail
                  refine C5.mono ?_
                  rintro e w6 ⟨rfl, h6, hk6⟩
                  have H6 := Lib.hid h6
                  have C6 := fun (h : Two w1 w6 w1.heap.size (goL l y.n) (.slice a1 l.length c1) l) => h.rgo (by omega) y.n hn0
                  have hz6 := hk6 _ _ _ _ HZ5.out (by decide) (by decide)
                  clear h6 x0 x1 x2 hk6
                  have x1 : w6.cell? ⟨wr.heap.size, 1, none⟩ = some (.int .i64 y.n) := Lib.cell_of_heap hz6 1
                  rw [HOB.out] at C6
                  go_wp2_with fail
                  refine (C6 H6.out).mono ?_
                  rintro e w7 ⟨u7, rfl, h7⟩
                  obtain ⟨a7, c7, rfl⟩ := own_slice h7.row
                  have H7 := Lib.hid h7
                  clear h7 C6 x1 hz6
                  obtain ⟨vS, hvS⟩ := H7.out.stk
                  have hGS : ∀ z ∈ goL l y.n, Good W z := goL_good y.n HG.out
                  have hlS : (goL l y.n).length ≤ 41 * (j + 1) := by have := goL_len l y.n; omega
                  have CS := same_any (reads_any (by omega) hvS) (LAt.own H7.out.row) (fun z hz => (hGS z hz).stay (thru HB1.out H7.out.on)) (by omega)
                  clear hvS
                  go_wp2_with fail
                  refine CS.mono ?_
                  rintro e w9 ⟨rfl, hb9⟩
                  have H9 := Lib.hid (H7.out.stay hb9)
                  clear hb9 CS
                  have HGS := Lib.hid hGS
                  clear hGS
                  go_wp2_with fail
                  go_roundw
                  case rel => exact ⟨j + 1, goL l y.n, by omega, by go_num, hlS, HGS.out, H9.out⟩
                  case measure => simp [intOf]; omega
            · skip
              as_aux_lemma =>
                have C5 := H5.out.brkK (by omega) y.n hn0
                generalize hob : outB (Fra.brk l y.n) = ob at C5
                have HOB := Lib.hid hob
                clear hob
                go_wp2_with fail
                refine C5.mono ?_
                rintro e w6 ⟨rfl, h6, hk6⟩
                have H6 := Lib.hid h6
                have C6 := fun (h : Two w1 w6 w1.heap.size (brkL l y.n) (.slice a1 l.length c1) l) => h.rbrk (by omega) y.n hn0
                have hz6 := hk6 _ _ _ _ HZ5.out (by decide) (by decide)
                clear h6 x0 x1 x2 hk6
                have x1 : w6.cell? ⟨wr.heap.size, 1, none⟩ = some (.int .i64 y.n) := Lib.cell_of_heap hz6 1
                rw [HOB.out] at C6
                go_wp2_with fail
                refine (C6 H6.out).mono ?_
                rintro e w7 ⟨u7, rfl, h7⟩
                obtain ⟨a7, c7, rfl⟩ := own_slice h7.row
                have H7 := Lib.hid h7
                clear h7 C6 x1 hz6
                obtain ⟨vS, hvS⟩ := H7.out.stk
                have hGS : ∀ z ∈ brkL l y.n, Good W z := fun z hz => HG.out z (brkL_mem hz)
                have hlS : (brkL l y.n).length ≤ 41 * (j + 1) := by have := brkL_len l y.n; omega
                have CS := same_any (reads_any (by omega) hvS) (LAt.own H7.out.row) (fun z hz => (hGS z hz).stay (thru HB1.out H7.out.on)) (by omega)
                clear hvS
                go_wp2_with fail
                refine CS.mono ?_
                rintro e w9 ⟨rfl, hb9⟩
                have H9 := Lib.hid (H7.out.stay hb9)
                clear hb9 CS
                have HGS := Lib.hid hGS
                clear hGS
                go_wp2_with fail
                go_roundw
                case rel => exact ⟨j + 1, brkL l y.n, by omega, by go_num, hlS, HGS.out, H9.out⟩
                case measure => simp [intOf]; omega
          · skip
            as_aux_lemma =>
              have C5 := H5.out.pop (by omega)
              by_cases hl0 : l.length = 0
              · skip
                obtain rfl : l = [] := List.length_eq_zero_iff.1 hl0
                simp only [List.length_nil] at H5 C5
                have ht : topV [] = .tuple #[.agg #[.int .i64 0, .int .i64 0, .string ⟨#[]⟩, .bool false, .slice none 0 0, .slice none 0 0, .slice none 0 0, .slice none 0 0, .slice none 0 0, .int .i64 0, .int .i64 0, .bool false, .slice none 0 0, .slice none 0 0], .bool false] := rfl
                rw [ht, List.take_nil] at C5
                clear ht hl0
                go_wp2_with fail
                refine C5.mono ?_
                rintro e w6 ⟨rfl, h6⟩
                have h7 := h6.stay (bel1 w6 (.cells #[.int .i64 0, .int .i64 0, .string ⟨#[]⟩, .bool false, .slice none 0 0, .slice none 0 0, .slice none 0 0, .slice none 0 0, .slice none 0 0, .int .i64 0, .int .i64 0, .bool false, .slice none 0 0, .slice none 0 0] 43))
                have CI := fun w => item_self zero w (zero_good _)
                simp only [icells, zero, NL.len, List.length_nil] at CI
                have HCI := Lib.hid CI
                have H7 := Lib.hid h7
                clear CI h6 h7 C5
                go_wp2_with fail
                refine (HCI.out _).mono ?_
                rintro e w8 ⟨rfl, hb8⟩
                have H8 := Lib.hid (H7.out.stay hb8)
                clear hb8
                go_wp2_with fail
                obtain ⟨vS, hvS⟩ := H8.out.stk
                have hGS : ∀ z ∈ ([] : List IV), Good W z := fun z hz => by cases hz
                have hlS : (([] : List IV)).length ≤ 41 * (j + 1) := by simp
                have CS := same_any (reads_any (by omega) hvS) (LAt.own H8.out.row) (fun z hz => (hGS z hz).stay (thru HB1.out H8.out.on)) (by omega)
                clear hvS
                refine CS.mono ?_
                rintro e w9 ⟨rfl, hb9⟩
                have H9 := Lib.hid (H8.out.stay hb9)
                clear hb9 CS
                have HGS := Lib.hid hGS
                clear hGS
                go_wp2_with fail
                go_roundw
                case rel => exact ⟨j + 1, ([] : List IV), by omega, by go_num, hlS, HGS.out, H9.out⟩
                case measure => simp [intOf]; omega
              · skip
                obtain ⟨z, hz⟩ : ∃ z, l[l.length - 1]? = some z := ⟨_, List.getElem?_eq_getElem (by omega)⟩
                have ht : topV l = .tuple #[.agg #[.int .i64 z.k, .int .i64 z.nk, .string z.nm, .bool z.g, .slice z.a1 z.az.length z.c1, .slice z.a2 z.nw.length z.c2, .slice z.a3 z.ks.len z.c3, .slice z.a4 z.bs.length z.c4, .slice z.a5 z.cz.len z.c5, .int .i64 z.pl, .int .i64 z.st, .bool z.fr, .slice z.wa z.ws.length z.wc, .slice z.pa z.ps.length z.pc], .bool true] := by unfold topV; rw [List.getLast?_eq_getElem?, hz]; rfl
                rw [ht] at C5
                clear ht
                obtain ⟨D, hD⟩ : ∃ D, D = l.take (l.length - 1) := ⟨_, rfl⟩
                rw [← hD] at C5
                have HD := Lib.hid hD
                have hDl : D.length ≤ 100000 := by rw [hD, List.length_take]; omega
                have hzg := HG.out z (List.mem_of_getElem? hz)
                have hp : decide (0 < l.length) = true := decide_eq_true (by omega)
                have hp2 : (0 < l.length) = True := eq_true (by omega)
                have hx : (l.length : Int) - 1 = ((l.length - 1 : Nat) : Int) := by omega
                have hw : IntKind.i64.wrap ((l.length - 1 : Nat) : Int) = ((l.length - 1 : Nat) : Int) := (wrapEq _).trans (IntWalk.wrap64_in _ ⟨by omega, by omega⟩)
                have hlt1 : (l.length - 1 < l.length) = True := eq_true (by omega)
                have HZG := Lib.hid hzg; have HZ := Lib.hid hz
                clear hzg hz hD
                go_wp2_with fail
                refine C5.mono ?_
                rintro e w6 ⟨rfl, h6⟩
                have h7 := h6.stay (bel1 w6 (.cells #[.int .i64 z.k, .int .i64 z.nk, .string z.nm, .bool z.g, .slice z.a1 z.az.length z.c1, .slice z.a2 z.nw.length z.c2, .slice z.a3 z.ks.len z.c3, .slice z.a4 z.bs.length z.c4, .slice z.a5 z.cz.len z.c5, .int .i64 z.pl, .int .i64 z.st, .bool z.fr, .slice z.wa z.ws.length z.wc, .slice z.pa z.ps.length z.pc] 43))
                have hz7 := heap_alloc_new w6 (.cells #[.int .i64 z.k, .int .i64 z.nk, .string z.nm, .bool z.g, .slice z.a1 z.az.length z.c1, .slice z.a2 z.nw.length z.c2, .slice z.a3 z.ks.len z.c3, .slice z.a4 z.bs.length z.c4, .slice z.a5 z.cz.len z.c5, .int .i64 z.pl, .int .i64 z.st, .bool z.fr, .slice z.wa z.ws.length z.wc, .slice z.pa z.ps.length z.pc] 43)
                obtain ⟨W7, hW7⟩ : ∃ W, W = (w6.alloc (.cells #[.int .i64 z.k, .int .i64 z.nk, .string z.nm, .bool z.g, .slice z.a1 z.az.length z.c1, .slice z.a2 z.nw.length z.c2, .slice z.a3 z.ks.len z.c3, .slice z.a4 z.bs.length z.c4, .slice z.a5 z.cz.len z.c5, .int .i64 z.pl, .int .i64 z.st, .bool z.fr, .slice z.wa z.ws.length z.wc, .slice z.pa z.ps.length z.pc] 43)) := ⟨_, rfl⟩
                rw [← hW7] at h7 hz7
                obtain ⟨ad, cap1, e8, hle1, hcl⟩ := LAt.own h7.row
                injection e8 with e9 _ e10
                subst e9 e10
                obtain ⟨g8, o8, e11, hbl8, hc8⟩ := hcl _ _ HZ.out
                subst e11
                clear hcl
                have H7 := Lib.hid h7; have HC5 := Lib.hid hc8; have HZ7 := Lib.hid hz7
                clear h6 h7 hc8 hz7 C5
                go_wp2_with fail
                rw [← hW7]
                have q0 : W7.cell? ⟨w6.heap.size, 0, none⟩ = some (.int .i64 z.k) := Lib.cell_of_heap HZ7.out 0
                have q1 : W7.cell? ⟨w6.heap.size, 1, none⟩ = some (.int .i64 z.nk) := Lib.cell_of_heap HZ7.out 1
                have q2 : W7.cell? ⟨w6.heap.size, 2, none⟩ = some (.string z.nm) := Lib.cell_of_heap HZ7.out 2
                have q3 : W7.cell? ⟨w6.heap.size, 3, none⟩ = some (.bool z.g) := Lib.cell_of_heap HZ7.out 3
                have q4 : W7.cell? ⟨w6.heap.size, 4, none⟩ = some (.slice z.a1 z.az.length z.c1) := Lib.cell_of_heap HZ7.out 4
                have q5 : W7.cell? ⟨w6.heap.size, 5, none⟩ = some (.slice z.a2 z.nw.length z.c2) := Lib.cell_of_heap HZ7.out 5
                have q6 : W7.cell? ⟨w6.heap.size, 6, none⟩ = some (.slice z.a3 z.ks.len z.c3) := Lib.cell_of_heap HZ7.out 6
                have q7 : W7.cell? ⟨w6.heap.size, 7, none⟩ = some (.slice z.a4 z.bs.length z.c4) := Lib.cell_of_heap HZ7.out 7
                have q8 : W7.cell? ⟨w6.heap.size, 8, none⟩ = some (.slice z.a5 z.cz.len z.c5) := Lib.cell_of_heap HZ7.out 8
                have q9 : W7.cell? ⟨w6.heap.size, 9, none⟩ = some (.int .i64 z.pl) := Lib.cell_of_heap HZ7.out 9
                have q10 : W7.cell? ⟨w6.heap.size, 10, none⟩ = some (.int .i64 z.st) := Lib.cell_of_heap HZ7.out 10
                have q11 : W7.cell? ⟨w6.heap.size, 11, none⟩ = some (.bool z.fr) := Lib.cell_of_heap HZ7.out 11
                have q12 : W7.cell? ⟨w6.heap.size, 12, none⟩ = some (.slice z.wa z.ws.length z.wc) := Lib.cell_of_heap HZ7.out 12
                have q13 : W7.cell? ⟨w6.heap.size, 13, none⟩ = some (.slice z.pa z.ps.length z.pc) := Lib.cell_of_heap HZ7.out 13
                have q0 := cell_regrown q0
                have q1 := cell_regrown q1
                have q2 := cell_regrown q2
                have q3 := cell_regrown q3
                have q4 := cell_regrown q4
                have q5 := cell_regrown q5
                have q6 := cell_regrown q6
                have q7 := cell_regrown q7
                have q8 := cell_regrown q8
                have q9 := cell_regrown q9
                have q10 := cell_regrown q10
                have q11 := cell_regrown q11
                have q12 := cell_regrown q12
                have q13 := cell_regrown q13
                have t0 : W7.cell? ⟨g8, o8 + (l.length - 1) * 14, none⟩ = some (.int .i64 z.k) := HC5.out 0 _ rfl
                have t1 : W7.cell? ⟨g8, o8 + (l.length - 1) * 14 + 1, none⟩ = some (.int .i64 z.nk) := HC5.out 1 _ rfl
                have t2 : W7.cell? ⟨g8, o8 + (l.length - 1) * 14 + 2, none⟩ = some (.string z.nm) := HC5.out 2 _ rfl
                have t3 : W7.cell? ⟨g8, o8 + (l.length - 1) * 14 + 3, none⟩ = some (.bool z.g) := HC5.out 3 _ rfl
                have t4 : W7.cell? ⟨g8, o8 + (l.length - 1) * 14 + 4, none⟩ = some (.slice z.a1 z.az.length z.c1) := HC5.out 4 _ rfl
                have t5 : W7.cell? ⟨g8, o8 + (l.length - 1) * 14 + 5, none⟩ = some (.slice z.a2 z.nw.length z.c2) := HC5.out 5 _ rfl
                have t6 : W7.cell? ⟨g8, o8 + (l.length - 1) * 14 + 6, none⟩ = some (.slice z.a3 z.ks.len z.c3) := HC5.out 6 _ rfl
                have t7 : W7.cell? ⟨g8, o8 + (l.length - 1) * 14 + 7, none⟩ = some (.slice z.a4 z.bs.length z.c4) := HC5.out 7 _ rfl
                have t8 : W7.cell? ⟨g8, o8 + (l.length - 1) * 14 + 8, none⟩ = some (.slice z.a5 z.cz.len z.c5) := HC5.out 8 _ rfl
                have t9 : W7.cell? ⟨g8, o8 + (l.length - 1) * 14 + 9, none⟩ = some (.int .i64 z.pl) := HC5.out 9 _ rfl
                have t10 : W7.cell? ⟨g8, o8 + (l.length - 1) * 14 + 10, none⟩ = some (.int .i64 z.st) := HC5.out 10 _ rfl
                have t11 : W7.cell? ⟨g8, o8 + (l.length - 1) * 14 + 11, none⟩ = some (.bool z.fr) := HC5.out 11 _ rfl
                have t12 : W7.cell? ⟨g8, o8 + (l.length - 1) * 14 + 12, none⟩ = some (.slice z.wa z.ws.length z.wc) := HC5.out 12 _ rfl
                have t13 : W7.cell? ⟨g8, o8 + (l.length - 1) * 14 + 13, none⟩ = some (.slice z.pa z.ps.length z.pc) := HC5.out 13 _ rfl
                have t0 := cell_regrown t0
                have t1 := cell_regrown t1
                have t2 := cell_regrown t2
                have t3 := cell_regrown t3
                have t4 := cell_regrown t4
                have t5 := cell_regrown t5
                have t6 := cell_regrown t6
                have t7 := cell_regrown t7
                have t8 := cell_regrown t8
                have t9 := cell_regrown t9
                have t10 := cell_regrown t10
                have t11 := cell_regrown t11
                have t12 := cell_regrown t12
                have t13 := cell_regrown t13
                have hcs := fun dd os => Calls.regrown_of (item_self z (grow (redrawn W7 dd) os) (HZG.out.stay (thru HB1.out (H7.out.on.trans ((below_regrown W7 dd os).mono H7.out.on.size)))))
                simp only [icells] at hcs
                have HCS := Lib.hid hcs
                clear hcs hW7
                refine Qu.region (by kernel_rfl) (by kernel_rfl) ?_
                repeat (first
                  | (first | refine Qu.carry0 rfl (fun K hK => ?_) | refine Qu.carryG rfl rfl rfl (fun K hK => ?_)
                     go_simp
                     first
                     | (refine hK _ ?_; clear hK K)
                     | (apply Exists.intro; refine ⟨fun _ => ?_, hK _ ?_⟩; (go_at_call 9; exact HCS.out _ _); clear hK K))
                  | (refine Qu.passG rfl rfl rfl (fun K hK => ?_); go_simp; refine hK _ ?_; clear hK K))
                refine Qu.fin ?_
                rintro ⟨dq, osq⟩
                have h8 := H7.out.stay (below_regrown W7 dq osq)
                generalize grow (redrawn W7 dq) osq = w8 at h8 ⊢
                clear HCS q0 q1 q2 q3 q4 q5 q6 q7 q8 q9 q10 q11 q12 q13 t0 t1 t2 t3 t4 t5 t6 t7 t8 t9 t10 t11 t12 t13
                have ho0 := World.ownsRow_made (base := w8.heap.size) (e := 41) (size := 14) w8 #[] 0 (Nat.le_refl _) (Nat.zero_le _) (by simp)
                have hm8 := (LAt.take (LAt.own (h8.stay (bel1 w8 (.cells #[] 41))).row) (l.length - 1) c1 (by omega) (by omega))
                rw [← HD.out] at hm8
                have hb8 := bel1 w8 (.cells #[] 41)
                have H8 := Lib.hid h8; have HO0 := Lib.hid ho0; have HM8 := Lib.hid hm8; have HB8 := Lib.hid hb8
                clear h8 ho0 hm8 hb8
                have hsz8 : w8.heap.size ≤ (w8.alloc (.cells #[] 41)).heap.size := by rw [World.size_alloc]; omega
                have hlt2 : ([] : List IV).length + D.length ≤ 100000000 := by simp only [List.length_nil]; omega
                go_wp2_with (
                  at_builtin
                  refine append_items rfl _ _ 27 rfl w8.heap.size 41 i0 _ Try.underlying27 HI.out HZ0.out HZ1.out HZ2.out rfl _ [] rfl HO0.out _ D rfl HM8.out hlt2 hsz8 ?_
                  intro v9 w9 hown9 hgrow9 _
                  rw [List.nil_append] at hown9
                  obtain ⟨a9, c9, rfl⟩ := own_slice hown9
                  have hp9 := H8.out.other (HB8.out.grown hgrow9 hsz8 (fun g e => (HO0.out.lt g e).1)) hown9
                  have HP9 := Lib.hid hp9
                  clear hown9 hgrow9 hp9
                  skip)
                obtain ⟨vS, hvS⟩ := HP9.out.stk
                have hGS : ∀ z ∈ D, Good W z := fun z hz => HG.out z (by rw [HD.out] at hz; exact List.mem_of_mem_take hz)
                have hlS : (D).length ≤ 41 * (j + 1) := by rw [HD.out, List.length_take]; omega
                have CS := same_any (reads_any (by omega) hvS) (LAt.own HP9.out.row) (fun z hz => (hGS z hz).stay (thru HB1.out HP9.out.on)) (by omega)
                clear hvS
                refine CS.mono ?_
                rintro e w9 ⟨rfl, hb9⟩
                have H9 := Lib.hid (HP9.out.stay hb9)
                clear hb9 CS
                have HGS := Lib.hid hGS
                clear hGS
                go_wp2_with fail
                go_roundw
                case rel => exact ⟨j + 1, D, by omega, by go_num, hlS, HGS.out, H9.out⟩
                case measure => simp [intOf]; omega
        · skip
          obtain ⟨wo, hwo⟩ : ∃ wo, wo = wr := ⟨_, rfl⟩
          subst hwo
          have hk5 := Keeps.of_below (Below.refl w5.heap.size w5)
          have HK5 := Lib.hid hk5
          clear hk5
          have hyl : y.l.length ≤ 40 := hy40
          go_wp2_with fail
          go_loopw [49] (fun i wr => ∃ n : Nat, n ≤ y.l.length ∧ i = .int .i64 n ∧ Two w1 wr w1.heap.size (l ++ y.l.take n) (.slice a1 l.length c1) l ∧ Keeps w5 wr) (fun i _ => y.l.length - (intOf i).toNat)
          case atStart => exact ⟨0, Nat.zero_le _, rfl, by rw [List.take_zero, List.append_nil]; exact H5.out, HK5.out⟩
          case round =>
            obtain ⟨n, hn, rfl, ht6, hk6⟩ := hrel
            have H6 := Lib.hid ht6; have HK6 := Lib.hid hk6
            clear ht6 hk6 x0 x1 x2
            by_cases hlt6 : n < y.l.length
            · skip
              obtain ⟨z, hz⟩ : ∃ z, y.l[n]? = some z := ⟨_, List.getElem?_eq_getElem hlt6⟩
              obtain ⟨az, cz, e8, hle1, hcl⟩ := HIT.out
              injection e8 with e9 _ e10
              obtain ⟨g8, o8, e11, hbl8, hc8⟩ := hcl n z hz
              have hya : y.a = some ⟨g8, o8, none⟩ := by rw [e9, e11]
              clear e9 e10 e11 hcl
              have s0 : wr.cell? ⟨g8, o8 + n * 14, none⟩ = some (.int .i64 z.k) := cell_below (thru HB1.out H6.out.on) (hc8 0 _ rfl)
              have s1 : wr.cell? ⟨g8, o8 + n * 14 + 1, none⟩ = some (.int .i64 z.nk) := cell_below (thru HB1.out H6.out.on) (hc8 1 _ rfl)
              have s2 : wr.cell? ⟨g8, o8 + n * 14 + 2, none⟩ = some (.string z.nm) := cell_below (thru HB1.out H6.out.on) (hc8 2 _ rfl)
              have s3 : wr.cell? ⟨g8, o8 + n * 14 + 3, none⟩ = some (.bool z.g) := cell_below (thru HB1.out H6.out.on) (hc8 3 _ rfl)
              have s4 : wr.cell? ⟨g8, o8 + n * 14 + 4, none⟩ = some (.slice z.a1 z.az.length z.c1) := cell_below (thru HB1.out H6.out.on) (hc8 4 _ rfl)
              have s5 : wr.cell? ⟨g8, o8 + n * 14 + 5, none⟩ = some (.slice z.a2 z.nw.length z.c2) := cell_below (thru HB1.out H6.out.on) (hc8 5 _ rfl)
              have s6 : wr.cell? ⟨g8, o8 + n * 14 + 6, none⟩ = some (.slice z.a3 z.ks.len z.c3) := cell_below (thru HB1.out H6.out.on) (hc8 6 _ rfl)
              have s7 : wr.cell? ⟨g8, o8 + n * 14 + 7, none⟩ = some (.slice z.a4 z.bs.length z.c4) := cell_below (thru HB1.out H6.out.on) (hc8 7 _ rfl)
              have s8 : wr.cell? ⟨g8, o8 + n * 14 + 8, none⟩ = some (.slice z.a5 z.cz.len z.c5) := cell_below (thru HB1.out H6.out.on) (hc8 8 _ rfl)
              have s9 : wr.cell? ⟨g8, o8 + n * 14 + 9, none⟩ = some (.int .i64 z.pl) := cell_below (thru HB1.out H6.out.on) (hc8 9 _ rfl)
              have s10 : wr.cell? ⟨g8, o8 + n * 14 + 10, none⟩ = some (.int .i64 z.st) := cell_below (thru HB1.out H6.out.on) (hc8 10 _ rfl)
              have s11 : wr.cell? ⟨g8, o8 + n * 14 + 11, none⟩ = some (.bool z.fr) := cell_below (thru HB1.out H6.out.on) (hc8 11 _ rfl)
              have s12 : wr.cell? ⟨g8, o8 + n * 14 + 12, none⟩ = some (.slice z.wa z.ws.length z.wc) := cell_below (thru HB1.out H6.out.on) (hc8 12 _ rfl)
              have s13 : wr.cell? ⟨g8, o8 + n * 14 + 13, none⟩ = some (.slice z.pa z.ps.length z.pc) := cell_below (thru HB1.out H6.out.on) (hc8 13 _ rfl)
              have hb8 := bel1 wr (.cells #[.int .i64 z.k, .int .i64 z.nk, .string z.nm, .bool z.g, .slice z.a1 z.az.length z.c1, .slice z.a2 z.nw.length z.c2, .slice z.a3 z.ks.len z.c3, .slice z.a4 z.bs.length z.c4, .slice z.a5 z.cz.len z.c5, .int .i64 z.pl, .int .i64 z.st, .bool z.fr, .slice z.wa z.ws.length z.wc, .slice z.pa z.ps.length z.pc] 41)
              have hb9 := bel1 (wr.alloc (.cells #[.int .i64 z.k, .int .i64 z.nk, .string z.nm, .bool z.g, .slice z.a1 z.az.length z.c1, .slice z.a2 z.nw.length z.c2, .slice z.a3 z.ks.len z.c3, .slice z.a4 z.bs.length z.c4, .slice z.a5 z.cz.len z.c5, .int .i64 z.pl, .int .i64 z.st, .bool z.fr, .slice z.wa z.ws.length z.wc, .slice z.pa z.ps.length z.pc] 41)) (.cells #[.int .i64 z.k, .int .i64 z.nk, .string z.nm, .bool z.g, .slice z.a1 z.az.length z.c1, .slice z.a2 z.nw.length z.c2, .slice z.a3 z.ks.len z.c3, .slice z.a4 z.bs.length z.c4, .slice z.a5 z.cz.len z.c5, .int .i64 z.pl, .int .i64 z.st, .bool z.fr, .slice z.wa z.ws.length z.wc, .slice z.pa z.ps.length z.pc] 43)
              have hlen8 : (l ++ y.l.take n).length + [z].length ≤ 100000 := by rw [List.length_append, List.length_take, List.length_singleton]; omega
              have C8 := (H6.out.stay (thru hb8 hb9)).pushK (lit_items (l := [z]) (heap_alloc_new (wr.alloc (.cells #[.int .i64 z.k, .int .i64 z.nk, .string z.nm, .bool z.g, .slice z.a1 z.az.length z.c1, .slice z.a2 z.nw.length z.c2, .slice z.a3 z.ks.len z.c3, .slice z.a4 z.bs.length z.c4, .slice z.a5 z.cz.len z.c5, .int .i64 z.pl, .int .i64 z.st, .bool z.fr, .slice z.wa z.ws.length z.wc, .slice z.pa z.ps.length z.pc] 41)) (.cells #[.int .i64 z.k, .int .i64 z.nk, .string z.nm, .bool z.g, .slice z.a1 z.az.length z.c1, .slice z.a2 z.nw.length z.c2, .slice z.a3 z.ks.len z.c3, .slice z.a4 z.bs.length z.c4, .slice z.a5 z.cz.len z.c5, .int .i64 z.pl, .int .i64 z.st, .bool z.fr, .slice z.wa z.ws.length z.wc, .slice z.pa z.ps.length z.pc] 43)) rfl) hlen8
              have hk9 := HK6.out.trans (Keeps.of_below (thru hb8 hb9))
              rw [World.size_alloc] at C8
              have htk : l ++ y.l.take (n + 1) = (l ++ y.l.take n) ++ [z] := by rw [List.take_add_one, hz, List.append_assoc]; rfl
              rw [← htk] at C8
              have HC8 := Lib.hid C8; have HK9 := Lib.hid hk9; have HY := Lib.hid hya
              clear C8 hk9 htk hz hc8 hb8 hb9 hlen8 hya
              simp only [List.length_singleton] at HC8
              rw [HY.out]
              go_wp2_with fail
              refine HC8.out.mono ?_
              rintro e w8 ⟨rfl, h8, hk8⟩
              have H8 := Lib.hid h8; have HK8 := Lib.hid (HK9.out.trans hk8)
              clear h8 hk8
              go_wp2_with fail
              go_roundw
              case rel => exact ⟨n + 1, by omega, by go_num, H8.out, HK8.out⟩
              case measure => simp [intOf]; omega
            · skip
              obtain rfl : n = y.l.length := by omega
              have h7 := H6.out
              rw [List.take_length] at h7
              have hz6 := HK6.out _ _ _ _ HZ5.out (by decide) (by decide)
              have H7 := Lib.hid h7; have HZ6 := Lib.hid hz6
              clear h7 hz6 hlt6
              go_wp2_with fail
              obtain ⟨W0, hW0⟩ : ∃ W0, W0 = wr := ⟨_, rfl⟩
              subst hW0
              refine RN.begins (fun w' => Below W0.heap.size W0 w') [6] (by kernel_rfl) ?_
              have hS : Below W0.heap.size W0 W0.drew := ⟨rfl, rfl, rfl, Nat.le_refl _, fun _ _ => rfl⟩
              refine RN.tk (i := 1) rfl hS (by intro wq hq; skip; go_simp; try with_reducible rfl) ?_
              refine RN.tk (i := 3) rfl hS (by intro wq hq; skip; go_simp; try with_reducible rfl) ?_
              refine RN.tk (i := 4) rfl hS (by intro wq hq; have x2 : wq.cell? ⟨wo.heap.size, 2, none⟩ = some (.slice y.a y.l.length y.c) := cell_below hq (Lib.cell_of_heap HZ6.out 2); go_simp; try with_reducible rfl) ?_
              refine RN.all (rs := [0]) (by kernel_rfl) (by simp) ?_
              refine RN.All.cons rfl (fun K hK => ?_) RN.All.nil
              go_simp
              have hb1 : Below W0.heap.size W0 (W0.alloc (.cells #[] 41)).drew := ⟨rfl, rfl, rfl, (bel1 W0 _).size, (bel1 W0 _).block⟩
              refine hK _ _ (fun _ => hb1) ?_
              clear hK K hS
              have hS := hb1
              have ho0 := World.ownsRow_made (base := W0.heap.size) (e := 41) (size := 14) W0 #[] 0 (Nat.le_refl _) (Nat.zero_le _) (by simp)
              have ho1 : (W0.alloc (.cells #[] 41)).drew.ownsRow W0.heap.size 41 14 (.slice (some ⟨W0.heap.size, 0, none⟩) 0 0) ([] : List IV).length (lcells []) := ho0
              generalize (W0.alloc (.cells #[] 41)).drew = W2 at hS hb1 ho1 ⊢
              clear ho0
              have hm1 : LAt W2 (.slice a1 l.length c1) l := (LAt.own H7.out.row).stay hS
              have hm2 : LAt W0 (.slice y.a y.l.length y.c) y.l := HIT.out.stay (thru HB1.out H7.out.on)
              refine RN.all (rs := [2]) (by kernel_rfl) (by simp) ?_
              refine RN.All.cons rfl (fun K hK => ?_) RN.All.nil
              refine op_items (by rfl) (.tmp 57) (.tmp 58) 27 (by rfl) W0.heap.size 41 i0 _ Try.underlying27 HI.out HZ0.out HZ1.out HZ2.out rfl _ [] (by rfl) ho1 _ l (by rfl) hm1 (by simp only [List.length_nil]; omega) hS.size ?_
              intro v3 W3 hown3 hgrow3 _
              rw [List.nil_append] at hown3
              have hb3 : Below W0.heap.size W0 W3 := hS.grown hgrow3 hS.size (fun g e => (ho1.lt g e).1)
              refine hK _ _ (fun _ => hb3) ?_
              clear hK K hS hgrow3 ho1 hm1 hb1
              have hS := hb3
              have hm3 := hm2.stay hS
              refine RN.all (rs := [5]) (by kernel_rfl) (by simp) ?_
              refine RN.All.cons rfl (fun K hK => ?_) RN.All.nil
              refine op_items (by rfl) (.tmp 59) (.tmp 61) 27 (by rfl) W0.heap.size 41 i0 _ Try.underlying27 HI.out HZ0.out HZ1.out HZ2.out rfl _ l (by rfl) hown3 _ y.l (by rfl) hm3 (by omega) hS.size ?_
              intro v4 W4 hown4 hgrow4 _
              obtain ⟨D, hD⟩ : ∃ D, D = l ++ y.l := ⟨_, rfl⟩
              rw [← hD] at hown4
              have HD := Lib.hid hD
              clear hD
              have hb4 : Below W0.heap.size W0 W4 := hS.grown hgrow4 hS.size (fun g e => (hown3.lt g e).1)
              obtain ⟨a9, c9, rfl⟩ := own_slice hown4
              refine hK _ _ (fun _ => hb4) ?_
              clear hK K hS hgrow4 hm3 hm2 hb3
              have hS := hb4
              have hp9 := H7.out.other hb4 hown4
              rw [← HD.out] at hp9
              have HP9 := Lib.hid hp9
              clear hown3 hown4 hp9
              refine RN.all (rs := [6]) (by kernel_rfl) (by simp) ?_
              refine RN.All.cons rfl (fun K hK => ?_) RN.All.nil
              go_simp
              refine hK _ _ (fun h => absurd h (by decide)) ?_
              clear hK K hS hb4
              refine RN.done (by kernel_rfl) ?_ _
              obtain ⟨vS, hvS⟩ := HP9.out.stk
              have hGS : ∀ z ∈ D, Good W z := fun z hz => by rw [HD.out] at hz; exact (List.mem_append.1 hz).elim (HG.out z) (HGI.out z)
              have hlS : (D).length ≤ 41 * (j + 1) := by rw [HD.out, List.length_append]; omega
              have CS := same_any (reads_any (by omega) hvS) (LAt.own HP9.out.row) (fun z hz => (hGS z hz).stay (thru HB1.out HP9.out.on)) (by omega)
              clear hvS
              go_wp2_with fail
              refine CS.mono ?_
              rintro e w9 ⟨rfl, hb9⟩
              have H9 := Lib.hid (HP9.out.stay hb9)
              clear hb9 CS
              have HGS := Lib.hid hGS
              clear hGS
              go_wp2_with fail
              go_roundw
              case rel => exact ⟨j + 1, D, by omega, by go_num, hlS, HGS.out, H9.out⟩
              case measure => simp [intOf]; omega
      · go_wp2_with fail
        go_ret
        exact ⟨rfl, thru HB1.out H5.out.on⟩
    · obtain rfl : j = acts.length := by omega
      as_aux_lemma =>
        obtain ⟨wo, hwo⟩ : ∃ wo, wo = wr := ⟨_, rfl⟩
        subst hwo
        have hl41 : l.length ≤ 1640 := by omega
        go_wp2_with fail
        go_loopw [22] (fun i wr => ∃ n : Nat, n ≤ l.length ∧ i = .int .i64 ((n : Int) - 1) ∧ Two w1 wr w1.heap.size (l.take n) (.slice a1 l.length c1) l) (fun i _ => (intOf i + 1).toNat)
        case atStart => exact ⟨l.length, Nat.le_refl _, rfl, by rw [List.take_length]; exact HT.out⟩
        case round =>
          obtain ⟨n, hn, rfl, ht6⟩ := hrel
          have H6 := Lib.hid ht6
          clear ht6
          cases n with
          | zero =>
            have C6 := H6.out.pop (by rw [List.length_take]; omega)
            rw [List.take_zero, List.take_nil, show topV [] = .tuple #[.agg #[.int .i64 0, .int .i64 0, .string ⟨#[]⟩, .bool false, .slice none 0 0, .slice none 0 0, .slice none 0 0, .slice none 0 0, .slice none 0 0, .int .i64 0, .int .i64 0, .bool false, .slice none 0 0, .slice none 0 0], .bool false] from rfl] at C6
            go_wp2_with fail
            refine C6.mono ?_
            rintro e w6 ⟨rfl, h6⟩
            have C7 := (h6.stay (bel1 w6 (.cells #[.int .i64 0, .int .i64 0, .string ⟨#[]⟩, .bool false, .slice none 0 0, .slice none 0 0, .slice none 0 0, .slice none 0 0, .slice none 0 0, .int .i64 0, .int .i64 0, .bool false, .slice none 0 0, .slice none 0 0] 43))).len
            clear h6 C6
            go_wp2_with fail
            refine C7.mono ?_
            rintro e w7 ⟨rfl, h7⟩
            have H7 := Lib.hid h7
            clear h7 C7
            go_wp2_with fail
            go_ret
            exact ⟨rfl, thru HB1.out H7.out.on⟩
          | succ n =>
            have hlt6 : n < l.length := by omega
            obtain ⟨z, hz⟩ : ∃ z, l[n]? = some z := ⟨_, List.getElem?_eq_getElem hlt6⟩
            have C6 := H6.out.pop (by rw [List.length_take]; omega)
            rw [topV_take hz, take_take_one hlt6] at C6
            simp only [icells] at C6
            have hzg := HG.out z (List.mem_of_getElem? hz)
            have HZG := Lib.hid hzg; have HZ := Lib.hid hz
            have hcast : ((n + 1 : Nat) : Int) - 1 = (n : Int) := by omega
            rw [hcast]
            clear hzg hz hcast
            generalize hD : l.take n = D at C6
            have HD := Lib.hid hD
            clear hD
            go_wp2_with fail
            refine C6.mono ?_
            rintro e w6 ⟨rfl, h6⟩
            have h7 := h6.stay (bel1 w6 (.cells #[.int .i64 z.k, .int .i64 z.nk, .string z.nm, .bool z.g, .slice z.a1 z.az.length z.c1, .slice z.a2 z.nw.length z.c2, .slice z.a3 z.ks.len z.c3, .slice z.a4 z.bs.length z.c4, .slice z.a5 z.cz.len z.c5, .int .i64 z.pl, .int .i64 z.st, .bool z.fr, .slice z.wa z.ws.length z.wc, .slice z.pa z.ps.length z.pc] 43))
            have hz7 := heap_alloc_new w6 (.cells #[.int .i64 z.k, .int .i64 z.nk, .string z.nm, .bool z.g, .slice z.a1 z.az.length z.c1, .slice z.a2 z.nw.length z.c2, .slice z.a3 z.ks.len z.c3, .slice z.a4 z.bs.length z.c4, .slice z.a5 z.cz.len z.c5, .int .i64 z.pl, .int .i64 z.st, .bool z.fr, .slice z.wa z.ws.length z.wc, .slice z.pa z.ps.length z.pc] 43)
            obtain ⟨W7, hW7⟩ : ∃ W, W = (w6.alloc (.cells #[.int .i64 z.k, .int .i64 z.nk, .string z.nm, .bool z.g, .slice z.a1 z.az.length z.c1, .slice z.a2 z.nw.length z.c2, .slice z.a3 z.ks.len z.c3, .slice z.a4 z.bs.length z.c4, .slice z.a5 z.cz.len z.c5, .int .i64 z.pl, .int .i64 z.st, .bool z.fr, .slice z.wa z.ws.length z.wc, .slice z.pa z.ps.length z.pc] 43)) := ⟨_, rfl⟩
            rw [← hW7] at h7 hz7
            obtain ⟨ad, cap1, e8, hle1, hcl⟩ := LAt.own h7.row
            injection e8 with e9 _ e10
            subst e9 e10
            obtain ⟨g8, o8, e11, hbl8, hc8⟩ := hcl _ _ HZ.out
            subst e11
            clear hcl
            have H7 := Lib.hid h7; have HC5 := Lib.hid hc8; have HZ7 := Lib.hid hz7
            clear h6 h7 hc8 hz7 C6
            go_wp2_with fail
            rw [← hW7]
            have q0 : W7.cell? ⟨w6.heap.size, 0, none⟩ = some (.int .i64 z.k) := Lib.cell_of_heap HZ7.out 0
            have q1 : W7.cell? ⟨w6.heap.size, 1, none⟩ = some (.int .i64 z.nk) := Lib.cell_of_heap HZ7.out 1
            have q2 : W7.cell? ⟨w6.heap.size, 2, none⟩ = some (.string z.nm) := Lib.cell_of_heap HZ7.out 2
            have q3 : W7.cell? ⟨w6.heap.size, 3, none⟩ = some (.bool z.g) := Lib.cell_of_heap HZ7.out 3
            have q4 : W7.cell? ⟨w6.heap.size, 4, none⟩ = some (.slice z.a1 z.az.length z.c1) := Lib.cell_of_heap HZ7.out 4
            have q5 : W7.cell? ⟨w6.heap.size, 5, none⟩ = some (.slice z.a2 z.nw.length z.c2) := Lib.cell_of_heap HZ7.out 5
            have q6 : W7.cell? ⟨w6.heap.size, 6, none⟩ = some (.slice z.a3 z.ks.len z.c3) := Lib.cell_of_heap HZ7.out 6
            have q7 : W7.cell? ⟨w6.heap.size, 7, none⟩ = some (.slice z.a4 z.bs.length z.c4) := Lib.cell_of_heap HZ7.out 7
            have q8 : W7.cell? ⟨w6.heap.size, 8, none⟩ = some (.slice z.a5 z.cz.len z.c5) := Lib.cell_of_heap HZ7.out 8
            have q9 : W7.cell? ⟨w6.heap.size, 9, none⟩ = some (.int .i64 z.pl) := Lib.cell_of_heap HZ7.out 9
            have q10 : W7.cell? ⟨w6.heap.size, 10, none⟩ = some (.int .i64 z.st) := Lib.cell_of_heap HZ7.out 10
            have q11 : W7.cell? ⟨w6.heap.size, 11, none⟩ = some (.bool z.fr) := Lib.cell_of_heap HZ7.out 11
            have q12 : W7.cell? ⟨w6.heap.size, 12, none⟩ = some (.slice z.wa z.ws.length z.wc) := Lib.cell_of_heap HZ7.out 12
            have q13 : W7.cell? ⟨w6.heap.size, 13, none⟩ = some (.slice z.pa z.ps.length z.pc) := Lib.cell_of_heap HZ7.out 13
            have q0 := cell_regrown q0
            have q1 := cell_regrown q1
            have q2 := cell_regrown q2
            have q3 := cell_regrown q3
            have q4 := cell_regrown q4
            have q5 := cell_regrown q5
            have q6 := cell_regrown q6
            have q7 := cell_regrown q7
            have q8 := cell_regrown q8
            have q9 := cell_regrown q9
            have q10 := cell_regrown q10
            have q11 := cell_regrown q11
            have q12 := cell_regrown q12
            have q13 := cell_regrown q13
            have t0 : W7.cell? ⟨g8, o8 + n * 14, none⟩ = some (.int .i64 z.k) := HC5.out 0 _ rfl
            have t1 : W7.cell? ⟨g8, o8 + n * 14 + 1, none⟩ = some (.int .i64 z.nk) := HC5.out 1 _ rfl
            have t2 : W7.cell? ⟨g8, o8 + n * 14 + 2, none⟩ = some (.string z.nm) := HC5.out 2 _ rfl
            have t3 : W7.cell? ⟨g8, o8 + n * 14 + 3, none⟩ = some (.bool z.g) := HC5.out 3 _ rfl
            have t4 : W7.cell? ⟨g8, o8 + n * 14 + 4, none⟩ = some (.slice z.a1 z.az.length z.c1) := HC5.out 4 _ rfl
            have t5 : W7.cell? ⟨g8, o8 + n * 14 + 5, none⟩ = some (.slice z.a2 z.nw.length z.c2) := HC5.out 5 _ rfl
            have t6 : W7.cell? ⟨g8, o8 + n * 14 + 6, none⟩ = some (.slice z.a3 z.ks.len z.c3) := HC5.out 6 _ rfl
            have t7 : W7.cell? ⟨g8, o8 + n * 14 + 7, none⟩ = some (.slice z.a4 z.bs.length z.c4) := HC5.out 7 _ rfl
            have t8 : W7.cell? ⟨g8, o8 + n * 14 + 8, none⟩ = some (.slice z.a5 z.cz.len z.c5) := HC5.out 8 _ rfl
            have t9 : W7.cell? ⟨g8, o8 + n * 14 + 9, none⟩ = some (.int .i64 z.pl) := HC5.out 9 _ rfl
            have t10 : W7.cell? ⟨g8, o8 + n * 14 + 10, none⟩ = some (.int .i64 z.st) := HC5.out 10 _ rfl
            have t11 : W7.cell? ⟨g8, o8 + n * 14 + 11, none⟩ = some (.bool z.fr) := HC5.out 11 _ rfl
            have t12 : W7.cell? ⟨g8, o8 + n * 14 + 12, none⟩ = some (.slice z.wa z.ws.length z.wc) := HC5.out 12 _ rfl
            have t13 : W7.cell? ⟨g8, o8 + n * 14 + 13, none⟩ = some (.slice z.pa z.ps.length z.pc) := HC5.out 13 _ rfl
            have t0 := cell_regrown t0
            have t1 := cell_regrown t1
            have t2 := cell_regrown t2
            have t3 := cell_regrown t3
            have t4 := cell_regrown t4
            have t5 := cell_regrown t5
            have t6 := cell_regrown t6
            have t7 := cell_regrown t7
            have t8 := cell_regrown t8
            have t9 := cell_regrown t9
            have t10 := cell_regrown t10
            have t11 := cell_regrown t11
            have t12 := cell_regrown t12
            have t13 := cell_regrown t13
            have hcs := fun dd os => Calls.regrown_of (item_self z (grow (redrawn W7 dd) os) (HZG.out.stay (thru HB1.out (H7.out.on.trans ((below_regrown W7 dd os).mono H7.out.on.size)))))
            simp only [icells] at hcs
            have HCS := Lib.hid hcs
            have hlt1 : (n < l.length) = True := eq_true hlt6
            have hlti : ((n : Int) < (l.length : Int)) = True := eq_true (by omega)
            clear hcs hW7
            refine Qu.region (by kernel_rfl) (by kernel_rfl) ?_
            repeat (first
              | (first | refine Qu.carry0 rfl (fun K hK => ?_) | refine Qu.carryG rfl rfl rfl (fun K hK => ?_)
                 go_simp
                 first
                 | (refine hK _ ?_; clear hK K)
                 | (apply Exists.intro; refine ⟨fun _ => ?_, hK _ ?_⟩; (go_at_call 9; exact HCS.out _ _); clear hK K))
              | (refine Qu.passG rfl rfl rfl (fun K hK => ?_); go_simp; refine hK _ ?_; clear hK K))
            refine Qu.fin ?_
            rintro ⟨dq, osq⟩
            have h8 := H7.out.stay (below_regrown W7 dq osq)
            generalize grow (redrawn W7 dq) osq = w8 at h8 ⊢
            have H8 := Lib.hid h8
            clear h8 HCS q0 q1 q2 q3 q4 q5 q6 q7 q8 q9 q10 q11 q12 q13 t0 t1 t2 t3 t4 t5 t6 t7 t8 t9 t10 t11 t12 t13
            go_wp2_with fail
            go_roundw
            case rel => exact ⟨n, by omega, rfl, by rw [HD.out]; exact H8.out⟩
            case measure => simp [intOf]
end Fra
end Go.Proofs.Ytbcldfaphnnmlaa
