/- The reference's Procs, Children, SameInts, SameEnds. -/
import Derived.Test.YtlebglnlkkoakaaKrC
namespace Go.Proofs.Ytlebglnlkkoakaa
open Go.RowKit Go.Maps
namespace Kn
/-- The pids of those of a list that are such. -/
def pidsL (g : P → Bool) (l : List P) : List Int := (l.filter g).map (·.pid)
theorem pidsL_snoc (g : P → Bool) (l : List P) (p : P) : pidsL g (l ++ [p]) = pidsL g l ++ (if g p then [p.pid] else []) := by
  unfold pidsL
  rw [List.filter_append, List.map_append]
  cases h : g p <;> simp [h]
theorem pidsL_len (g : P → Bool) (l : List P) : (pidsL g l).length ≤ l.length := by unfold pidsL; rw [List.length_map]; exact List.length_filter_le _ _
theorem own_stays {w w' : World} {base : Nat} {e : TypeId} {size : Nat} {v : Value} {n : Nat} {xs : List Value} (h : w.ownsRow base e size v n xs) (hb : Below w.heap.size w w') : w'.ownsRow base e size v n xs := by
  obtain ⟨h1, h2⟩ := h
  refine ⟨h1, ?_⟩
  rcases h2 with h2 | ⟨g, cap, cur, hv, hg, hh, r⟩
  · exact .inl h2
  · exact .inr ⟨g, cap, cur, hv, hg, (hb.block g (Array.getElem?_eq_some_iff.1 hh).1).trans hh, r⟩
theorem pids_skip {w wr : World} {g : P → Bool} {l : List P} {k : Nat} {p : P} {v : Value} (ht : l.take (k + 1) = l.take k ++ [p]) (hg : g p = false) (h : wr.ownsRow w.heap.size 3 1 v (pidsL g (l.take k)).length ((pidsL g (l.take k)).map (Value.int .i64))) :
    wr.ownsRow w.heap.size 3 1 v (pidsL g (l.take (k + 1))).length ((pidsL g (l.take (k + 1))).map (Value.int .i64)) := by
  rw [ht, pidsL_snoc, hg]; simpa using h
theorem pids_more {w wr : World} {g : P → Bool} {l : List P} {k : Nat} {p : P} {v : Value} (ht : l.take (k + 1) = l.take k ++ [p]) (hg : g p = true) (h : wr.ownsRow w.heap.size 3 1 v ((pidsL g (l.take k)).length + 1) ((pidsL g (l.take k)).map (Value.int .i64) ++ [.int .i64 p.pid])) :
    wr.ownsRow w.heap.size 3 1 v (pidsL g (l.take (k + 1))).length ((pidsL g (l.take (k + 1))).map (Value.int .i64)) := by
  rw [ht, pidsL_snoc, hg]; simpa using h
set_option maxRecDepth 4000 in
set_option maxHeartbeats 1600000 in
theorem rprocs_any {w : World} {t : T} {lv ev : Value} (hL : LAt w lv t.l) (hn : t.l.length ≤ 64) :
    Calls Try.prog 43 #[tv t lv ev] w fun e w' => ∃ v, e = .returned v ∧ w'.ownsRow w.heap.size 3 1 v (pidsL (·.live) t.l).length ((pidsL (·.live) t.l).map (Value.int .i64)) ∧ Below w.heap.size w w' := by
  obtain ⟨i0, hi, hz0, hz1, hz2⟩ := info_parts Sig.infoInt
  obtain ⟨l, last, ends⟩ := t
  unfold tv
  dsimp only at hL hn ⊢
  obtain ⟨a, cap, rfl, hc⟩ := hL
  have HC := Lib.hid hc
  clear hc
  go_enter Try.func43, Try.ntmps43
  go_wp2_with fail
  have hb0 := below_alloc w (.cells #[.slice a l.length cap, .int .i64 last, ev] 31)
  have hs0 : (w.alloc (.cells #[.slice a l.length cap, .int .i64 last, ev] 31)).heap.size = w.heap.size + 1 := World.size_alloc _ _
  have ho0 := World.ownsRow_made (base := w.heap.size) (e := 3) (size := 1) (w.alloc (.cells #[.slice a l.length cap, .int .i64 last, ev] 31)) #[] 0 (by rw [hs0]; omega) (Nat.zero_le _) (by simp)
  have hb1 : Below w.heap.size w ((w.alloc (.cells #[.slice a l.length cap, .int .i64 last, ev] 31)).alloc (.cells #[] 3)) := hb0.trans ((below_alloc _ _).mono hb0.size)
  have hx1 := ((below_alloc (w.alloc (.cells #[.slice a l.length cap, .int .i64 last, ev] 31)) (.cells #[] 3)).block w.heap.size (by rw [hs0]; omega)).trans (heap_alloc_new w (.cells #[.slice a l.length cap, .int .i64 last, ev] 31))
  rw [hs0] at ho0
  have HO0 := Lib.hid ho0; have HB0 := Lib.hid hb1; have HX1 := Lib.hid hx1
  clear hb0 hs0 ho0 hb1 hx1
  go_loopw [3, 10] (fun v i wr => ∃ k : Nat, k ≤ l.length ∧ i = .int .i64 k ∧ wr.ownsRow w.heap.size 3 1 v (pidsL (·.live) (l.take k)).length ((pidsL (·.live) (l.take k)).map (Value.int .i64)) ∧ Below w.heap.size w wr ∧ v.ownBlock ≠ some w.heap.size ∧ wr.heap[w.heap.size]? = some (.cells #[.slice a l.length cap, .int .i64 last, ev] 31 (0, 0))) (fun _ i _ => l.length - (intOf i).toNat)
  case atStart => exact ⟨0, Nat.zero_le _, rfl, HO0.out, HB0.out, (fun e => by have e2 : w.heap.size + 1 = w.heap.size := Option.some.inj e; omega), HX1.out⟩
  case round =>
    obtain ⟨k, hk, rfl, hown, hb, hne, hx⟩ := hrel
    have HO := Lib.hid hown; have HB := Lib.hid hb; have HNE := Lib.hid hne; have HX := Lib.hid hx
    have hln := Nat.le_trans (pidsL_len (·.live) (l.take k)) (List.length_take_le' k l)
    have hws := hb.size
    clear hown hb hne hx
    by_cases hlt : k < l.length
    · obtain ⟨b, rfl, hbl, hcell⟩ := HC.out k _ (List.getElem?_eq_getElem hlt)
      have HT := Lib.hid (List.take_succ_eq_append_getElem hlt)
      have HIX := Lib.hid (List.getElem?_eq_getElem hlt)
      generalize l[k] = p at hcell HT HIX
      have rd : ∀ i u, (qcells p)[i]? = some u → wr.cell? ⟨b, k * 7 + i, none⟩ = some u := fun i u hu => (World.cell?_of_block (HB.out.block b hbl)).trans (hcell i u hu)
      have r0 : wr.cell? ⟨b, k * 7, none⟩ = some (.int .i64 p.pid) := rd 0 _ rfl
      have r1 : wr.cell? ⟨b, k * 7 + 1, none⟩ = some (.int .i64 p.par) := rd 1 _ rfl
      have r2 : wr.cell? ⟨b, k * 7 + 2, none⟩ = some (.int .i64 p.st) := rd 2 _ rfl
      have r3 : wr.cell? ⟨b, k * 7 + 3, none⟩ = some (.bool p.live) := rd 3 _ rfl
      have r4 : wr.cell? ⟨b, k * 7 + 4, none⟩ = some (.int .u32 p.ig) := rd 4 _ rfl
      have r5 : wr.cell? ⟨b, k * 7 + 5, none⟩ = some (.int .u32 p.ca) := rd 5 _ rfl
      have r6 : wr.cell? ⟨b, k * 7 + 6, none⟩ = some (.int .u32 p.pe) := rd 6 _ rfl
      clear rd hcell
      have hbw : Below w.heap.size w (wr.alloc (.cells #[.int .i64 p.pid, .int .i64 p.par, .int .i64 p.st, .bool p.live, .int .u32 p.ig, .int .u32 p.ca, .int .u32 p.pe] 73)) := HB.out.trans ((below_alloc wr _).mono HB.out.size)
      have hlt0 := (Array.getElem?_eq_some_iff.1 HX.out).1
      have hown2 := HO.out.alloc (.cells #[.int .i64 p.pid, .int .i64 p.par, .int .i64 p.st, .bool p.live, .int .u32 p.ig, .int .u32 p.ca, .int .u32 p.pe] 73)
      have hx2 := ((below_alloc wr (.cells #[.int .i64 p.pid, .int .i64 p.par, .int .i64 p.st, .bool p.live, .int .u32 p.ig, .int .u32 p.ca, .int .u32 p.pe] 73)).block _ hlt0).trans HX.out
      have HO2 := Lib.hid hown2; have HBW := Lib.hid hbw; have HX2 := Lib.hid hx2
      clear hown2 hbw hx2
      cases hg : (·.live) p
      · have HG := Lib.hid hg
        have hlv : p.live = false := hg
        rw [hlv] at r3 HO2 HBW HX2
        go_wp2_with fail
        go_roundw
        case rel => exact ⟨k + 1, by omega, by go_num, pids_skip (w := w) HT.out HG.out HO2.out, HBW.out, HNE.out, HX2.out⟩
        case measure => simp [intOf]; omega
      · have HG := Lib.hid hg
        have hlv : p.live = true := hg
        rw [hlv] at r3 HO2 HBW HX2
        have hone : ∀ j u, [Value.int .i64 p.pid][j]? = some u → ((wr.alloc (.cells #[.int .i64 p.pid, .int .i64 p.par, .int .i64 p.st, .bool true, .int .u32 p.ig, .int .u32 p.ca, .int .u32 p.pe] 73)).alloc (.cells #[.int .i64 p.pid] 3)).cell? ((⟨wr.heap.size + 1, 0, none⟩ : Addr).add j) = some u := by
          have := cell_one_new (wr.alloc (.cells #[.int .i64 p.pid, .int .i64 p.par, .int .i64 p.st, .bool true, .int .u32 p.ig, .int .u32 p.ca, .int .u32 p.pe] 73)) (.int .i64 p.pid) 3
          rwa [World.size_alloc] at this
        have hsz5 : w.heap.size < ((wr.alloc (.cells #[.int .i64 p.pid, .int .i64 p.par, .int .i64 p.st, .bool true, .int .u32 p.ig, .int .u32 p.ca, .int .u32 p.pe] 73)).alloc (.cells #[.int .i64 p.pid] 3)).heap.size := by
          rw [World.size_alloc, World.size_alloc]; omega
        have HONE := Lib.hid hone; have HSZ5 := Lib.hid hsz5
        clear hone hsz5
        go_wp2_with (at_builtin; refine wpList_append_own_at _ rfl _ _ 60 rfl w.heap.size 3 i0 (.int .i64 0) 1 8 Try.underlying60 hi hz0 hz1 hz2 rfl (by decide) _ _ _ rfl (HO2.out.alloc _) ⟨_, 0, none⟩ 1 1 [.int .i64 p.pid] rfl rfl HONE.out (ints_oneCell .i64 [p.pid]) (by unfold maxLen; omega) (by omega) (Nat.le_of_lt HSZ5.out) ?_; intro v' w5 hown5 hgrow5 hnil5 hloc5)
        clear hnil5
        have hlo : ∀ g, u3.ownBlock = some g → w.heap.size ≤ g := fun g e => (HO.out.lt g e).1
        have hb5 := (HBW.out.alloc (Nat.le_trans HBW.out.size (Nat.le_refl _)) (.cells #[.int .i64 p.pid] 3)).grown hgrow5 (Nat.le_of_lt HSZ5.out) hlo
        have hx5 := (hgrow5.block w.heap.size (by rw [World.size_alloc]; have := (Array.getElem?_eq_some_iff.1 HX2.out).1; omega) (fun e => HNE.out e.symm)).trans (((below_alloc _ _).block _ (Array.getElem?_eq_some_iff.1 HX2.out).1).trans HX2.out)
        have hne5 : v'.ownBlock ≠ some w.heap.size := fun e => hloc5.elim (fun e2 => HNE.out (e2.symm.trans e)) fun e2 => by
          have e3 := Option.some.inj (e2.symm.trans e)
          have := HSZ5.out
          omega
        have hown6 := pids_more (w := w) HT.out HG.out hown5
        have H1 := Lib.hid hown6; have H2 := Lib.hid hb5; have H3 := Lib.hid hx5; have H4 := Lib.hid hne5
        clear hown5 hown6 hb5 hx5 hne5 hgrow5 hloc5 hlo
        go_wp2_with fail
        go_roundw
        case rel => exact ⟨k + 1, by omega, by go_num, H1.out, H2.out, H4.out, H3.out⟩
        case measure => simp [intOf]; omega
    · obtain rfl : k = l.length := by omega
      go_wp2_with fail
      go_ret
      have := HO.out
      rw [List.take_length] at this
      exact ⟨_, rfl, this, HB.out⟩
set_option maxRecDepth 4000 in
set_option maxHeartbeats 1600000 in
theorem rchildren_any {w : World} {t : T} {lv ev : Value} (hL : LAt w lv t.l) (hn : t.l.length ≤ 64) (par : Int) :
    Calls Try.prog 45 #[tv t lv ev, .int .i64 par] w fun e w' => ∃ v, e = .returned v ∧ w'.ownsRow w.heap.size 3 1 v (pidsL (fun p => child t par p.pid) t.l).length ((pidsL (fun p => child t par p.pid) t.l).map (Value.int .i64)) ∧ Below w.heap.size w w' := by
  obtain ⟨i0, hi, hz0, hz1, hz2⟩ := info_parts Sig.infoInt
  have HCH := Lib.hid (fun w' (hb : Below w.heap.size w w') x => rchild_any (ev := ev) (hL.stay hb) hn par x)
  obtain ⟨gf, hgf⟩ : ∃ gf : P → Bool, gf = fun p => child t par p.pid := ⟨_, rfl⟩
  rw [← hgf]
  have HGF := Lib.hid (fun p : P => show child t par p.pid = gf p by rw [hgf])
  clear hgf
  obtain ⟨l, last, ends⟩ := t
  unfold tv at HCH ⊢
  dsimp only at hL hn HCH ⊢
  obtain ⟨a, cap, rfl, hc⟩ := hL
  have HC := Lib.hid hc
  clear hc
  go_enter Try.func45, Try.ntmps45
  go_wp2_with fail
  have hb0 := below_alloc w (.cells #[.slice a l.length cap, .int .i64 last, ev] 31)
  have hs0 : (w.alloc (.cells #[.slice a l.length cap, .int .i64 last, ev] 31)).heap.size = w.heap.size + 1 := World.size_alloc _ _
  have ho0 := World.ownsRow_made (base := w.heap.size) (e := 3) (size := 1) (w.alloc (.cells #[.slice a l.length cap, .int .i64 last, ev] 31)) #[] 0 (by rw [hs0]; omega) (Nat.zero_le _) (by simp)
  have hb1 : Below w.heap.size w ((w.alloc (.cells #[.slice a l.length cap, .int .i64 last, ev] 31)).alloc (.cells #[] 3)) := hb0.trans ((below_alloc _ _).mono hb0.size)
  have hx1 := ((below_alloc (w.alloc (.cells #[.slice a l.length cap, .int .i64 last, ev] 31)) (.cells #[] 3)).block w.heap.size (by rw [hs0]; omega)).trans (heap_alloc_new w (.cells #[.slice a l.length cap, .int .i64 last, ev] 31))
  rw [hs0] at ho0
  have HO0 := Lib.hid ho0; have HB0 := Lib.hid hb1; have HX1 := Lib.hid hx1
  clear hb0 hs0 ho0 hb1 hx1
  go_loopw [5, 12] (fun v i wr => ∃ k : Nat, k ≤ l.length ∧ i = .int .i64 k ∧ wr.ownsRow w.heap.size 3 1 v (pidsL gf (l.take k)).length ((pidsL gf (l.take k)).map (Value.int .i64)) ∧ Below w.heap.size w wr ∧ v.ownBlock ≠ some w.heap.size ∧ wr.heap[w.heap.size]? = some (.cells #[.slice a l.length cap, .int .i64 last, ev] 31 (0, 0))) (fun _ i _ => l.length - (intOf i).toNat)
  case atStart => exact ⟨0, Nat.zero_le _, rfl, HO0.out, HB0.out, (fun e => by have e2 : w.heap.size + 1 = w.heap.size := Option.some.inj e; omega), HX1.out⟩
  case round =>
    obtain ⟨k, hk, rfl, hown, hb, hne, hx⟩ := hrel
    have HO := Lib.hid hown; have HB := Lib.hid hb; have HNE := Lib.hid hne; have HX := Lib.hid hx
    have hln := Nat.le_trans (pidsL_len gf (l.take k)) (List.length_take_le' k l)
    have hws := hb.size
    clear hown hb hne hx
    by_cases hlt : k < l.length
    · obtain ⟨b, rfl, hbl, hcell⟩ := HC.out k _ (List.getElem?_eq_getElem hlt)
      have HT := Lib.hid (List.take_succ_eq_append_getElem hlt)
      generalize l[k] = p at hcell HT
      have rd : ∀ i u, (qcells p)[i]? = some u → wr.cell? ⟨b, k * 7 + i, none⟩ = some u := fun i u hu => (World.cell?_of_block (HB.out.block b hbl)).trans (hcell i u hu)
      have r0 : wr.cell? ⟨b, k * 7, none⟩ = some (.int .i64 p.pid) := rd 0 _ rfl
      have r1 : wr.cell? ⟨b, k * 7 + 1, none⟩ = some (.int .i64 p.par) := rd 1 _ rfl
      have r2 : wr.cell? ⟨b, k * 7 + 2, none⟩ = some (.int .i64 p.st) := rd 2 _ rfl
      have r3 : wr.cell? ⟨b, k * 7 + 3, none⟩ = some (.bool p.live) := rd 3 _ rfl
      have r4 : wr.cell? ⟨b, k * 7 + 4, none⟩ = some (.int .u32 p.ig) := rd 4 _ rfl
      have r5 : wr.cell? ⟨b, k * 7 + 5, none⟩ = some (.int .u32 p.ca) := rd 5 _ rfl
      have r6 : wr.cell? ⟨b, k * 7 + 6, none⟩ = some (.int .u32 p.pe) := rd 6 _ rfl
      clear rd hcell
      have hlt0 := (Array.getElem?_eq_some_iff.1 HX.out).1
      have hba := below_alloc wr (.cells #[.int .i64 p.pid, .int .i64 p.par, .int .i64 p.st, .bool p.live, .int .u32 p.ig, .int .u32 p.ca, .int .u32 p.pe] 73)
      have hbw := HB.out.trans (hba.mono HB.out.size)
      have hx2 := (hba.block _ hlt0).trans HX.out
      have HBA := Lib.hid hba; have HBW := Lib.hid hbw; have HX2 := Lib.hid hx2
      have HNB := Lib.hid (heap_alloc_new wr (.cells #[.int .i64 p.pid, .int .i64 p.par, .int .i64 p.st, .bool p.live, .int .u32 p.ig, .int .u32 p.ca, .int .u32 p.pe] 73))
      have HCC := Lib.hid (HCH.out _ hbw p.pid)
      have c0 : (wr.alloc (.cells #[.int .i64 p.pid, .int .i64 p.par, .int .i64 p.st, .bool p.live, .int .u32 p.ig, .int .u32 p.ca, .int .u32 p.pe] 73)).cell? ⟨w.heap.size, 0, none⟩ = some (.slice (some ⟨b, 0, none⟩) l.length cap) := Lib.cell_of_heap hx2 0
      have c1 : (wr.alloc (.cells #[.int .i64 p.pid, .int .i64 p.par, .int .i64 p.st, .bool p.live, .int .u32 p.ig, .int .u32 p.ca, .int .u32 p.pe] 73)).cell? ⟨w.heap.size, 1, none⟩ = some (.int .i64 last) := Lib.cell_of_heap hx2 1
      have c2 : (wr.alloc (.cells #[.int .i64 p.pid, .int .i64 p.par, .int .i64 p.st, .bool p.live, .int .u32 p.ig, .int .u32 p.ca, .int .u32 p.pe] 73)).cell? ⟨w.heap.size, 2, none⟩ = some ev := Lib.cell_of_heap hx2 2
      rw [HGF.out p] at HCC
      clear hba hbw hx2
      go_wp2_with fail
      refine HCC.out.mono ?_
      rintro e w2 ⟨rfl, hb2⟩
      have hbz : Below wr.heap.size wr w2 := HBA.out.trans (hb2.mono HBA.out.size)
      have hbw2 := HBW.out.trans (hb2.mono HBW.out.size)
      have hx3 := (hb2.block _ (Array.getElem?_eq_some_iff.1 HX2.out).1).trans HX2.out
      have hpb := (hb2.block _ (Array.getElem?_eq_some_iff.1 HNB.out).1).trans HNB.out
      have p0 : w2.cell? ⟨wr.heap.size, 0, none⟩ = some (.int .i64 p.pid) := Lib.cell_of_heap hpb 0
      have hown2 := own_stays HO.out hbz
      have hsz2 : w.heap.size < w2.heap.size := Nat.lt_of_lt_of_le hlt0 hbz.size
      have HO2 := Lib.hid hown2; have HB2 := Lib.hid hbw2; have HX3 := Lib.hid hx3
      clear hb2 hbz hbw2 hx3 hpb hown2 HCC
      cases hg : gf p
      · have HG := Lib.hid hg
        go_wp2_with fail
        go_roundw
        case rel => exact ⟨k + 1, by omega, by go_num, pids_skip (w := w) HT.out HG.out HO2.out, HB2.out, HNE.out, HX3.out⟩
        case measure => simp [intOf]; omega
      · have HG := Lib.hid hg
        have HSZ := Lib.hid (show w.heap.size ≤ (w2.alloc (.cells #[.int .i64 p.pid] 3)).heap.size by rw [World.size_alloc]; omega)
        go_wp2_with (at_builtin; refine wpList_append_own_at _ rfl _ _ 60 rfl w.heap.size 3 i0 (.int .i64 0) 1 8 Try.underlying60 hi hz0 hz1 hz2 rfl (by decide) _ _ _ rfl (HO2.out.alloc _) ⟨_, 0, none⟩ 1 1 [.int .i64 p.pid] rfl rfl (cell_one_new _ _ _) (ints_oneCell .i64 [p.pid]) (by unfold maxLen; omega) (by omega) HSZ.out ?_; intro v' w5 hown5 hgrow5 hnil5 hloc5)
        clear hnil5
        have hlo : ∀ g, u5.ownBlock = some g → w.heap.size ≤ g := fun g e => (HO.out.lt g e).1
        have hb5 := (HB2.out.alloc HB2.out.size (.cells #[.int .i64 p.pid] 3)).grown hgrow5 HSZ.out hlo
        have hx5 := (hgrow5.block w.heap.size (by rw [World.size_alloc]; omega) (fun e => HNE.out e.symm)).trans (((below_alloc _ _).block _ (Array.getElem?_eq_some_iff.1 HX3.out).1).trans HX3.out)
        have hne5 : v'.ownBlock ≠ some w.heap.size := fun e => hloc5.elim (fun e2 => HNE.out (e2.symm.trans e)) fun e2 => by
          have e3 := Option.some.inj (e2.symm.trans e)
          have e4 := World.size_alloc w2 (.cells #[.int .i64 p.pid] 3)
          omega
        have hown6 := pids_more (w := w) HT.out HG.out hown5
        have H1 := Lib.hid hown6; have H2 := Lib.hid hb5; have H3 := Lib.hid hx5; have H4 := Lib.hid hne5
        clear hown5 hown6 hb5 hx5 hne5 hgrow5 hloc5 hlo
        go_wp2_with fail
        go_roundw
        case rel => exact ⟨k + 1, by omega, by go_num, H1.out, H2.out, H4.out, H3.out⟩
        case measure => simp [intOf]; omega
    · obtain rfl : k = l.length := by omega
      go_wp2_with fail
      go_ret
      have := HO.out
      rw [List.take_length] at this
      exact ⟨_, rfl, this, HB.out⟩
set_option maxHeartbeats 800000 in
theorem same_ints {w : World} {B B2 : Nat} {va vb : Value} {l : List Int} (ha : w.ownsRow B 3 1 va l.length (l.map (Value.int .i64))) (hb : w.ownsRow B2 3 1 vb l.length (l.map (Value.int .i64))) (hl : l.length ≤ 100000) :
    Calls Try.prog 41 #[va, vb] w fun e w' => e = .returned (.bool true) ∧ Below w.heap.size w w' := by
  have HOA := Lib.hid ha; have HOB := Lib.hid hb
  obtain ⟨a, cap, rfl, hca⟩ := slice_of_owns ha
  obtain ⟨a2, cap2, rfl, hcb⟩ := slice_of_owns hb
  have HA := Lib.hid hca; have HB := Lib.hid hcb
  clear ha hb hca hcb
  go_enter Try.func41, Try.ntmps41
  go_wp2_with fail
  go_loopw [13] (fun i wr => ∃ k : Nat, k ≤ l.length ∧ i = .int .i64 k ∧ Below w.heap.size w wr) (fun i _ => l.length - (intOf i).toNat)
  case atStart => exact ⟨0, Nat.zero_le _, rfl, Below.refl _ _⟩
  case round =>
    obtain ⟨k, hk, rfl, hbw⟩ := hrel
    have HBW := Lib.hid hbw
    clear hbw
    by_cases hlt : k < l.length
    · obtain ⟨b, rfl, h1⟩ := HA.out k hlt
      obtain ⟨b2, rfl, h2⟩ := HB.out k hlt
      have q1 := (World.cell?_of_block (HBW.out.block b (HOA.out.lt b rfl).2)).trans h1
      have q2 := (World.cell?_of_block (HBW.out.block b2 (HOB.out.lt b2 rfl).2)).trans h2
      clear h1 h2
      generalize l.getD k 0 = x at q1 q2
      go_wp2_with fail
      go_region
      all_goals
        go_wp2_with fail
        go_roundw
        case rel => exact ⟨k + 1, by omega, by go_num, HBW.out.os, HBW.out.tape, HBW.out.output, HBW.out.size, HBW.out.block⟩
        case measure => simp [intOf]; omega
    · obtain rfl : k = l.length := by omega
      go_wp2_with fail
      go_ret
      exact ⟨rfl, HBW.out⟩
/-- A row of ends that lies in memory. -/
theorem ends_at {w : World} {B : Nat} {v : Value} {l : List (Int × Int)} (h : w.ownsRow B 87 2 v l.length (ecells l)) : ∃ a cap, v = .slice a l.length cap ∧ ∀ k, k < l.length → ∃ b x y, a = some ⟨b, 0, none⟩ ∧ l[k]? = some (x, y) ∧ ∀ w', Below w.heap.size w w' → w'.cell? ⟨b, k * 2, none⟩ = some (.int .i64 x) ∧ w'.cell? ⟨b, k * 2 + 1, none⟩ = some (.int .i64 y) := by
  have rd : ∀ {l : List (Int × Int)} {k : Nat} {x y : Int}, l[k]? = some (x, y) → (ecells l)[k * 2]? = some (.int .i64 x) ∧ (ecells l)[k * 2 + 1]? = some (.int .i64 y) := by
    intro l
    induction l with
    | nil => intro k x y h; simp at h
    | cons a r ih =>
      intro k x y h
      unfold ecells
      rw [List.flatMap_cons]
      cases k with
      | zero => simp at h; subst h; exact ⟨rfl, rfl⟩
      | succ k =>
        simp at h
        have := ih h
        rw [List.getElem?_append_right (by simp; omega), List.getElem?_append_right (by simp; omega)]
        simp only [List.length_cons, List.length_nil]
        rw [show (k + 1) * 2 - (0 + 1 + 1) = k * 2 by omega, show (k + 1) * 2 + 1 - (0 + 1 + 1) = k * 2 + 1 by omega]
        exact this
  have len : ∀ l : List (Int × Int), (ecells l).length = l.length * 2 := ecells_len
  rcases h.2 with ⟨rfl, h0⟩ | ⟨g, cap, cur, rfl, hg, hb, h1, h2, h3, h4⟩
  · exact ⟨none, 0, by rw [h0], fun k hk => by omega⟩
  · refine ⟨_, cap, rfl, fun k hk => ⟨g, (l[k]).1, (l[k]).2, rfl, List.getElem?_eq_getElem hk, fun w' hb' => ?_⟩⟩
    have r := rd (l := l) (k := k) (x := (l[k]).1) (y := (l[k]).2) (List.getElem?_eq_getElem hk)
    have hb2 := (hb'.block g (Array.getElem?_eq_some_iff.1 hb).1).trans hb
    constructor
    · rw [Lib.cell_of_heap hb2 (k * 2), ← Array.getElem?_toList, ← r.1, ← h4, List.getElem?_take_of_lt (by omega)]
    · rw [Lib.cell_of_heap hb2 (k * 2 + 1), ← Array.getElem?_toList, ← r.2, ← h4, List.getElem?_take_of_lt (by omega)]
set_option maxHeartbeats 800000 in
theorem same_ends {w : World} {B B2 : Nat} {va vb : Value} {l : List (Int × Int)} (ha : w.ownsRow B 87 2 va l.length (ecells l)) (hb : w.ownsRow B2 87 2 vb l.length (ecells l)) (hl : l.length ≤ 100000) :
    Calls Try.prog 44 #[va, vb] w fun e w' => e = .returned (.bool true) ∧ Below w.heap.size w w' := by
  obtain ⟨a, cap, rfl, hca⟩ := ends_at ha
  obtain ⟨a2, cap2, rfl, hcb⟩ := ends_at hb
  have HA := Lib.hid hca; have HB := Lib.hid hcb
  clear ha hb hca hcb
  go_enter Try.func44, Try.ntmps44
  go_wp2_with fail
  go_loopw [13] (fun i wr => ∃ k : Nat, k ≤ l.length ∧ i = .int .i64 k ∧ Below w.heap.size w wr) (fun i _ => l.length - (intOf i).toNat)
  case atStart => exact ⟨0, Nat.zero_le _, rfl, Below.refl _ _⟩
  case round =>
    obtain ⟨k, hk, rfl, hbw⟩ := hrel
    have HBW := Lib.hid hbw
    clear hbw
    by_cases hlt : k < l.length
    · obtain ⟨b, x, y, rfl, hx, h1⟩ := HA.out k hlt
      obtain ⟨b2, x2, y2, rfl, hx2, h2⟩ := HB.out k hlt
      have e := Option.some.inj (hx.symm.trans hx2)
      obtain ⟨rfl, rfl⟩ : x = x2 ∧ y = y2 := by cases e; exact ⟨rfl, rfl⟩
      obtain ⟨q1, q2⟩ := h1 wr HBW.out
      obtain ⟨q3, q4⟩ := h2 wr HBW.out
      clear h1 h2 hx hx2 e
      go_wp2_with fail
      go_region
      all_goals
        go_wp2_with fail
        go_roundw
        case rel => exact ⟨k + 1, by omega, by go_num, HBW.out.os, HBW.out.tape, HBW.out.output, HBW.out.size, HBW.out.block⟩
        case measure => simp [intOf]; omega
    · obtain rfl : k = l.length := by omega
      go_wp2_with fail
      go_ret
      exact ⟨rfl, HBW.out⟩
end Kn
end Go.Proofs.Ytlebglnlkkoakaa
