/- The law's Same: of two tables that tell the same it says so. -/
import Derived.Test.YtlebglnlkkoakaaKrT
namespace Go.Proofs.Ytlebglnlkkoakaa
open Go.RowKit Go.Maps
namespace Kn
theorem cells3 {w wq : World} {g : Nat} {a b c : Value} {T : TypeId} (hx : w.heap[g]? = some (.cells #[a, b, c] T (0, 0))) (hb : Below w.heap.size w wq) : wq.cell? ⟨g, 0, none⟩ = some a ∧ wq.cell? ⟨g, 1, none⟩ = some b ∧ wq.cell? ⟨g, 2, none⟩ = some c := by
  have h := (hb.block g (Array.getElem?_eq_some_iff.1 hx).1).trans hx
  exact ⟨Lib.cell_of_heap h 0, Lib.cell_of_heap h 1, Lib.cell_of_heap h 2⟩
theorem cellsQ {w wq : World} {g : Nat} {c0 c1 c2 c3 c4 c5 c6 : Value} {T : TypeId} (hx : w.heap[g]? = some (.cells #[c0, c1, c2, c3, c4, c5, c6] T (0, 0))) (hb : Below w.heap.size w wq) : wq.cell? ⟨g, 0, none⟩ = some c0 ∧ wq.cell? ⟨g, 1, none⟩ = some c1 ∧ wq.cell? ⟨g, 3, none⟩ = some c3 := by
  have h := (hb.block g (Array.getElem?_eq_some_iff.1 hx).1).trans hx
  exact ⟨Lib.cell_of_heap h 0, Lib.cell_of_heap h 1, Lib.cell_of_heap h 3⟩
theorem suchL_procs {t : T} (O : Ok t) : suchL t (live t) = procs t := by
  unfold suchL procs
  rw [List.filter_congr fun p hp => live_mem O hp]
set_option maxRecDepth 8000 in
set_option maxHeartbeats 3200000 in
theorem same_any {w0 wS : World} {B tb n : Nat} {t u : T} {lv ev : Value} (N : Two w0 B tb n t u lv ev wS) (S : Sim t u) (hn : n ≤ 1000) :
    Calls Try.prog 9 #[.pointer (some ⟨tb, 0, none⟩), tv u lv ev] wS fun e w' => e = .returned (.int .i64 1) ∧ Below wS.heap.size wS w' := by
  have Ou := S.ok N.inv.ok
  have hl64 := Ou.len
  have hel : u.ends.length ≤ 1000 := by have := N.inv.ends; rw [← S.ends]; omega
  have hlp : (procs u).length ≤ 100000 := by
    have : (procs u).length ≤ u.l.length := by unfold procs; rw [List.length_map]; exact List.length_filter_le _ _
    omega
  obtain ⟨la, lc, rfl, _⟩ := N.rt.at
  obtain ⟨ea, en, ec, rfl⟩ := ends_shape N.rt.e
  have NN := Lib.hid N; have HS := Lib.hid S; have HOU := Lib.hid Ou
  have hb0 := below_alloc wS (.cells #[(.slice la u.l.length lc), .int .i64 u.last, (.slice ea en ec)] 31)
  have hx := heap_alloc_new wS (.cells #[(.slice la u.l.length lc), .int .i64 u.last, (.slice ea en ec)] 31)
  have NA := Lib.hid (N.more hb0)
  have HX := Lib.hid hx; have HB0 := Lib.hid hb0; have HLP := Lib.hid hlp
  have HLE := Lib.hid (show u.ends.length ≤ 100000 by omega)
  clear N S Ou hx hb0 hlp hel
  unfold tv
  go_enter Try.func9, Try.ntmps9
  go_wp2_with fail
  generalize wS.alloc (.cells #[(.slice la u.l.length lc), .int .i64 u.last, (.slice ea en ec)] 31) = wA at NA HX HB0 ⊢
  have HP := Lib.hid (fun wq (hb : Below wA.heap.size wA wq) => (NA.out.more hb).now.procs)
  rw [suchL_procs NA.out.inv.ok, HS.out.procs] at HP
  have HRP := Lib.hid (fun wq (hb : Below wA.heap.size wA wq) => rprocs_any (t := u) (ev := (.slice ea en ec)) (NA.out.more hb).rt.at hl64)
  have HLEN := Lib.hid (fun wq (hb : Below wA.heap.size wA wq) => (NA.out.more hb).now.len)
  rw [HS.out.len] at HLEN
  have HENDS := Lib.hid (fun wq (hb : Below wA.heap.size wA wq) => (NA.out.more hb).now.ends (by omega))
  rw [HS.out.ends] at HENDS
  have HOE := Lib.hid (fun wq (hb : Below wA.heap.size wA wq) => (NA.out.more hb).rt.e)
  unfold tv at HRP
  rw [show pidsL (·.live) u.l = procs u from rfl] at HRP
  refine RN.begins (fun wq => Below wA.heap.size wA wq) [] (by kernel_rfl) ?_
  have hS : (fun wq => Below wA.heap.size wA wq) wA.drew := ⟨rfl, rfl, rfl, Nat.le_refl _, fun _ _ => rfl⟩
  refine RN.take (i := 0) (v := ?_) rfl (by decide) (by kernel_rfl) (by kernel_rfl) (by kernel_rfl) (by kernel_rfl) (by kernel_rfl) (by first | exact fun _ _ _ h => h | exact fun _ _ _ h => (by cases h.1) | exact fun _ _ _ h => door_put (by decide) h) (.inl ⟨by rfl, ?_⟩) hS ?_
  rotate_left 1
  · (intro wq hq; skip; go_simp; try with_reducible rfl)
  refine RN.take (i := 2) (v := ?_) rfl (by decide) (by kernel_rfl) (by kernel_rfl) (by kernel_rfl) (by kernel_rfl) (by kernel_rfl) (by first | exact fun _ _ _ h => h | exact fun _ _ _ h => (by cases h.1) | exact fun _ _ _ h => door_put (by decide) h) (.inl ⟨by rfl, ?_⟩) hS ?_
  rotate_left 1
  · (intro wq hq; have s := cells3 HX.out hq; have s0 := s.1; have s1 := s.2.1; have s2 := s.2.2; go_simp; try with_reducible rfl)
  refine RN.all (rs := [1]) (by kernel_rfl) (by simp) ?_
  refine RN.All.cons rfl (fun K hK => ?_) RN.All.nil
  go_simp
  refine (HP.out _ hS).mono ?_
  rintro e w1 ⟨v1, rfl, ho1, hbn⟩
  have hS1 := Below.trans hS (hbn.mono (Below.size hS))
  refine hK _ _ (fun _ => hS1) ?_
  clear hK K hS
  clear hbn
  have hS : (fun wq => Below wA.heap.size wA wq) w1 := hS1
  clear hS1
  refine RN.all (rs := [3]) (by kernel_rfl) (by simp) ?_
  refine RN.All.cons rfl (fun K hK => ?_) RN.All.nil
  go_simp
  refine (HRP.out _ hS).mono ?_
  rintro e w2 ⟨v2, rfl, ho2, hbn⟩
  have hS1 := Below.trans hS (hbn.mono (Below.size hS))
  refine hK _ _ (fun _ => hS1) ?_
  clear hK K hS
  have ho3 := own_stays ho1 hbn
  clear ho1
  clear hbn
  have hS : (fun wq => Below wA.heap.size wA wq) w2 := hS1
  clear hS1
  refine RN.all (rs := [4]) (by kernel_rfl) (by simp) ?_
  refine RN.All.cons rfl (fun K hK => ?_) RN.All.nil
  go_simp
  refine (same_ints ho3 ho2 HLP.out).mono ?_
  rintro e w3 ⟨rfl, hbn⟩
  have hS1 := Below.trans hS (hbn.mono (Below.size hS))
  refine hK _ _ (fun _ => hS1) ?_
  clear hK K hS
  clear ho2 ho3
  clear hbn
  have hS : (fun wq => Below wA.heap.size wA wq) w3 := hS1
  clear hS1
  refine RN.take (i := 5) (v := ?_) rfl (by decide) (by kernel_rfl) (by kernel_rfl) (by kernel_rfl) (by kernel_rfl) (by kernel_rfl) (by first | exact fun _ _ _ h => h | exact fun _ _ _ h => (by cases h.1) | exact fun _ _ _ h => door_put (by decide) h) (.inl ⟨by rfl, ?_⟩) hS ?_
  rotate_left 1
  · (intro wq hq; skip; go_simp; try with_reducible rfl)
  refine RN.take (i := 6) (v := ?_) rfl (by decide) (by kernel_rfl) (by kernel_rfl) (by kernel_rfl) (by kernel_rfl) (by kernel_rfl) (by first | exact fun _ _ _ h => h | exact fun _ _ _ h => (by cases h.1) | exact fun _ _ _ h => door_put (by decide) h) (.inl ⟨by rfl, ?_⟩) hS ?_
  rotate_left 1
  · (intro wq hq; skip; go_simp; try with_reducible rfl)
  refine RN.take (i := 7) (v := ?_) rfl (by decide) (by kernel_rfl) (by kernel_rfl) (by kernel_rfl) (by kernel_rfl) (by kernel_rfl) (by first | exact fun _ _ _ h => h | exact fun _ _ _ h => (by cases h.1) | exact fun _ _ _ h => door_put (by decide) h) (.inl ⟨by kernel_rfl, ?_⟩) hS ?_
  rotate_left 1
  · (intro wq hq; skip; go_simp; try with_reducible rfl)
  refine RN.take (i := 9) (v := ?_) rfl (by decide) (by kernel_rfl) (by kernel_rfl) (by kernel_rfl) (by kernel_rfl) (by kernel_rfl) (by first | exact fun _ _ _ h => h | exact fun _ _ _ h => (by cases h.1) | exact fun _ _ _ h => door_put (by decide) h) (.inl ⟨by kernel_rfl, ?_⟩) hS ?_
  rotate_left 1
  · (intro wq hq; skip; go_simp; try with_reducible rfl)
  refine RN.take (i := 10) (v := ?_) rfl (by decide) (by kernel_rfl) (by kernel_rfl) (by kernel_rfl) (by kernel_rfl) (by kernel_rfl) (by first | exact fun _ _ _ h => h | exact fun _ _ _ h => (by cases h.1) | exact fun _ _ _ h => door_put (by decide) h) (.inl ⟨by kernel_rfl, ?_⟩) hS ?_
  rotate_left 1
  · (intro wq hq; have s := cells3 HX.out hq; have s0 := s.1; have s1 := s.2.1; have s2 := s.2.2; go_simp; try with_reducible rfl)
  refine RN.take (i := 11) (v := ?_) rfl (by decide) (by kernel_rfl) (by kernel_rfl) (by kernel_rfl) (by kernel_rfl) (by kernel_rfl) (by first | exact fun _ _ _ h => h | exact fun _ _ _ h => (by cases h.1) | exact fun _ _ _ h => door_put (by decide) h) (.inl ⟨by kernel_rfl, ?_⟩) hS ?_
  rotate_left 1
  · (intro wq hq; skip; go_simp; try with_reducible rfl)
  refine RN.all (rs := [8]) (by kernel_rfl) (by simp) ?_
  refine RN.All.cons rfl (fun K hK => ?_) RN.All.nil
  go_simp
  refine (HLEN.out _ hS).mono ?_
  rintro e w4 ⟨rfl, rfl⟩
  refine hK _ _ (fun _ => hS) ?_
  clear hK K
  refine RN.take (i := 12) (v := ?_) rfl (by decide) (by kernel_rfl) (by kernel_rfl) (by kernel_rfl) (by kernel_rfl) (by kernel_rfl) (by first | exact fun _ _ _ h => h | exact fun _ _ _ h => (by cases h.1) | exact fun _ _ _ h => door_put (by decide) h) (.inl ⟨by kernel_rfl, ?_⟩) hS ?_
  rotate_left 1
  · (intro wq hq; skip; go_simp; try with_reducible rfl)
  refine RN.take (i := 13) (v := ?_) rfl (by decide) (by kernel_rfl) (by kernel_rfl) (by kernel_rfl) (by kernel_rfl) (by kernel_rfl) (by first | exact fun _ _ _ h => h | exact fun _ _ _ h => (by cases h.1) | exact fun _ _ _ h => door_put (by decide) h) (.inl ⟨by kernel_rfl, ?_⟩) hS ?_
  rotate_left 1
  · (intro wq hq; skip; go_simp; try with_reducible rfl)
  refine RN.take (i := 14) (v := ?_) rfl (by decide) (by kernel_rfl) (by kernel_rfl) (by kernel_rfl) (by kernel_rfl) (by kernel_rfl) (by first | exact fun _ _ _ h => h | exact fun _ _ _ h => (by cases h.1) | exact fun _ _ _ h => door_put (by decide) h) (.inl ⟨by kernel_rfl, ?_⟩) hS ?_
  rotate_left 1
  · (intro wq hq; skip; go_simp; try with_reducible rfl)
  refine RN.take (i := 15) (v := ?_) rfl (by decide) (by kernel_rfl) (by kernel_rfl) (by kernel_rfl) (by kernel_rfl) (by kernel_rfl) (by first | exact fun _ _ _ h => h | exact fun _ _ _ h => (by cases h.1) | exact fun _ _ _ h => door_put (by decide) h) (.inl ⟨by kernel_rfl, ?_⟩) hS ?_
  rotate_left 1
  · (intro wq hq; skip; go_simp; try with_reducible rfl)
  refine RN.take (i := 17) (v := ?_) rfl (by decide) (by kernel_rfl) (by kernel_rfl) (by kernel_rfl) (by kernel_rfl) (by kernel_rfl) (by first | exact fun _ _ _ h => h | exact fun _ _ _ h => (by cases h.1) | exact fun _ _ _ h => door_put (by decide) h) (.inl ⟨by kernel_rfl, ?_⟩) hS ?_
  rotate_left 1
  · (intro wq hq; skip; go_simp; try with_reducible rfl)
  refine RN.take (i := 18) (v := ?_) rfl (by decide) (by kernel_rfl) (by kernel_rfl) (by kernel_rfl) (by kernel_rfl) (by kernel_rfl) (by first | exact fun _ _ _ h => h | exact fun _ _ _ h => (by cases h.1) | exact fun _ _ _ h => door_put (by decide) h) (.inl ⟨by kernel_rfl, ?_⟩) hS ?_
  rotate_left 1
  · (intro wq hq; have s := cells3 HX.out hq; have s0 := s.1; have s1 := s.2.1; have s2 := s.2.2; go_simp; try with_reducible rfl)
  refine RN.all (rs := [16]) (by kernel_rfl) (by simp) ?_
  refine RN.All.cons rfl (fun K hK => ?_) RN.All.nil
  go_simp
  refine (HENDS.out _ hS).mono ?_
  rintro e w5 ⟨v5, rfl, ho5, hbn⟩
  have hS1 := Below.trans hS (hbn.mono (Below.size hS))
  refine hK _ _ (fun _ => hS1) ?_
  clear hK K hS
  clear hbn
  have hS : (fun wq => Below wA.heap.size wA wq) w5 := hS1
  clear hS1
  have ho6 := HOE.out _ hS
  refine RN.all (rs := [19]) (by kernel_rfl) (by simp) ?_
  refine RN.All.cons rfl (fun K hK => ?_) RN.All.nil
  go_simp
  refine (same_ends ho5 ho6 HLE.out).mono ?_
  rintro e w6 ⟨rfl, hbn⟩
  have hS1 := Below.trans hS (hbn.mono (Below.size hS))
  refine hK _ _ (fun _ => hS1) ?_
  clear hK K hS
  clear ho5 ho6
  clear hbn
  have hS : (fun wq => Below wA.heap.size wA wq) w6 := hS1
  clear hS1
  refine RN.take (i := 20) (v := ?_) rfl (by decide) (by kernel_rfl) (by kernel_rfl) (by kernel_rfl) (by kernel_rfl) (by kernel_rfl) (by first | exact fun _ _ _ h => h | exact fun _ _ _ h => (by cases h.1) | exact fun _ _ _ h => door_put (by decide) h) (.inl ⟨by kernel_rfl, ?_⟩) hS ?_
  rotate_left 1
  · (intro wq hq; skip; go_simp; try with_reducible rfl)
  refine RN.take (i := 21) (v := ?_) rfl (by decide) (by kernel_rfl) (by kernel_rfl) (by kernel_rfl) (by kernel_rfl) (by kernel_rfl) (by first | exact fun _ _ _ h => h | exact fun _ _ _ h => (by cases h.1) | exact fun _ _ _ h => door_put (by decide) h) (.inl ⟨by kernel_rfl, ?_⟩) hS ?_
  rotate_left 1
  · (intro wq hq; skip; go_simp; try with_reducible rfl)
  refine RN.done (by kernel_rfl) ?_ _
  have HB6 := Lib.hid hS
  clear hS
  have x0 := (cells3 HX.out HB6.out).1
  go_wp2_with fail
  clear x0 HP HRP HLEN HENDS HOE HLP HLE
  go_loopw [33] (fun i wq => ∃ k : Nat, k ≤ u.l.length ∧ i = .int .i64 k ∧ Below wA.heap.size wA wq) (fun i _ => u.l.length - (intOf i).toNat)
  case atStart => exact ⟨0, Nat.zero_le _, rfl, HB6.out⟩
  case round =>
    obtain ⟨k, hk, rfl, hb⟩ := hrel
    have HB := Lib.hid hb
    clear hb
    by_cases hlt : k < u.l.length
    · have hq := List.getElem?_eq_getElem hlt
      generalize u.l[k] = q at hq
      obtain ⟨b, cap, e2, hbl, rd⟩ := (NA.out.more HB.out).rt.at.reads hq
      obtain ⟨rfl, rfl⟩ : la = some ⟨b, 0, none⟩ ∧ lc = cap := by cases e2; exact ⟨rfl, rfl⟩
      have hrd := rd wr (Below.refl _ _)
      have r0 : wr.cell? ⟨b, k * 7, none⟩ = some (.int .i64 q.pid) := hrd 0 _ rfl
      have r1 : wr.cell? ⟨b, k * 7 + 1, none⟩ = some (.int .i64 q.par) := hrd 1 _ rfl
      have r2 : wr.cell? ⟨b, k * 7 + 2, none⟩ = some (.int .i64 q.st) := hrd 2 _ rfl
      have r3 : wr.cell? ⟨b, k * 7 + 3, none⟩ = some (.bool q.live) := hrd 3 _ rfl
      have r4 : wr.cell? ⟨b, k * 7 + 4, none⟩ = some (.int .u32 q.ig) := hrd 4 _ rfl
      have r5 : wr.cell? ⟨b, k * 7 + 5, none⟩ = some (.int .u32 q.ca) := hrd 5 _ rfl
      have r6 : wr.cell? ⟨b, k * 7 + 6, none⟩ = some (.int .u32 q.pe) := hrd 6 _ rfl
      have HQ := Lib.hid hq
      have hbx := below_alloc wr (.cells #[.int .i64 q.pid, .int .i64 q.par, .int .i64 q.st, .bool q.live, .int .u32 q.ig, .int .u32 q.ca, .int .u32 q.pe] 73)
      have hab := HB.out.trans (hbx.mono HB.out.size)
      have hxb := (hab.block _ (Array.getElem?_eq_some_iff.1 HX.out).1).trans HX.out
      have HQB := Lib.hid (heap_alloc_new wr (.cells #[.int .i64 q.pid, .int .i64 q.par, .int .i64 q.st, .bool q.live, .int .u32 q.ig, .int .u32 q.ca, .int .u32 q.pe] 73))
      have HAB := Lib.hid hab; have HXB := Lib.hid hxb
      clear hbx hab hxb hrd rd hbl e2 hq
      go_wp2_with fail
      clear r0 r1 r2 r3 r4 r5 r6
      generalize wr.alloc (.cells #[.int .i64 q.pid, .int .i64 q.par, .int .i64 q.st, .bool q.live, .int .u32 q.ig, .int .u32 q.ca, .int .u32 q.pe] 73) = wB at HQB HAB HXB ⊢
      generalize wr.heap.size = gq at HQB ⊢
      have NB := Lib.hid (NA.out.more HAB.out)
      have hmem : q ∈ u.l := List.mem_of_getElem? HQ.out
      have hi64 := NA.out.i64 HS.out (by omega) hmem
      have HLV := Lib.hid (fun wq (hb : Below wB.heap.size wB wq) => (NB.out.more hb).now.live q.pid hi64.1)
      rw [HS.out.live, live_mem HOU.out hmem] at HLV
      have HPE := Lib.hid (fun wq (hb : Below wB.heap.size wB wq) => (NB.out.more hb).now.pending q.pid hi64.1)
      rw [HS.out.pending] at HPE
      have HRPE := Lib.hid (fun wq (hb : Below wB.heap.size wB wq) => rpending_any (t := u) (ev := (.slice ea en ec)) (NB.out.more hb).rt.at hl64 q.pid)
      have HCN := Lib.hid (fun wq (hb : Below wB.heap.size wB wq) => (NB.out.more hb).now.children q.pid hi64.1)
      rw [show suchL t (child t q.pid) = children u q.pid from HS.out.children q.pid] at HCN
      have HRCN := Lib.hid (fun wq (hb : Below wB.heap.size wB wq) => rchildren_any (t := u) (ev := (.slice ea en ec)) (NB.out.more hb).rt.at hl64 q.pid)
      rw [show pidsL (fun p => child u q.pid p.pid) u.l = children u q.pid from rfl] at HRCN
      have HCH := Lib.hid (fun wq (hb : Below wB.heap.size wB wq) => (NB.out.more hb).now.child q.par q.pid hi64.2 hi64.1)
      rw [HS.out.child] at HCH
      have HRCH := Lib.hid (fun wq (hb : Below wB.heap.size wB wq) => rchild_any (t := u) (ev := (.slice ea en ec)) (NB.out.more hb).rt.at hl64 q.par q.pid)
      have HHW := Lib.hid (fun (s : Int) wq (hb : Below wB.heap.size wB wq) => (NB.out.more hb).now.how q.pid s hi64.1)
      have HRHW := Lib.hid (fun (s : Int) wq (hb : Below wB.heap.size wB wq) => rhow_any (t := u) (ev := (.slice ea en ec)) (NB.out.more hb).rt.at hl64 HS.out.sets q.pid s)
      have HLC := Lib.hid (show (children u q.pid).length ≤ 100000 by
        have : (children u q.pid).length ≤ u.l.length := by unfold children; rw [List.length_map]; exact List.length_filter_le _ _
        omega)
      unfold tv at HRPE HRCN HRCH HRHW
      generalize pending u q.pid = pe at HPE HRPE
      generalize child u q.par q.pid = ch at HCH HRCH
      generalize children u q.pid = cn at HCN HRCN HLC
      clear hmem hi64
      refine RN.begins (fun wq => Below wB.heap.size wB wq) [] (by kernel_rfl) ?_
      have hS : (fun wq => Below wB.heap.size wB wq) wB.drew := ⟨rfl, rfl, rfl, Nat.le_refl _, fun _ _ => rfl⟩
      refine RN.take (i := 0) (v := ?_) rfl (by decide) (by kernel_rfl) (by kernel_rfl) (by kernel_rfl) (by kernel_rfl) (by kernel_rfl) (by first | exact fun _ _ _ h => h | exact fun _ _ _ h => (by cases h.1) | exact fun _ _ _ h => door_put (by decide) h) (.inl ⟨by rfl, ?_⟩) hS ?_
      rotate_left 1
      · (intro wq hq; skip; go_simp; try with_reducible rfl)
      refine RN.take (i := 1) (v := ?_) rfl (by decide) (by kernel_rfl) (by kernel_rfl) (by kernel_rfl) (by kernel_rfl) (by kernel_rfl) (by first | exact fun _ _ _ h => h | exact fun _ _ _ h => (by cases h.1) | exact fun _ _ _ h => door_put (by decide) h) (.inl ⟨by rfl, ?_⟩) hS ?_
      rotate_left 1
      · (intro wq hq; skip; go_simp; try with_reducible rfl)
      refine RN.take (i := 2) (v := ?_) rfl (by decide) (by kernel_rfl) (by kernel_rfl) (by kernel_rfl) (by kernel_rfl) (by kernel_rfl) (by first | exact fun _ _ _ h => h | exact fun _ _ _ h => (by cases h.1) | exact fun _ _ _ h => door_put (by decide) h) (.inl ⟨by rfl, ?_⟩) hS ?_
      rotate_left 1
      · (intro wq hq; have s := cellsQ HQB.out hq; have s3 := s.1; have s4 := s.2.1; have s5 := s.2.2; go_simp; try with_reducible rfl)
      refine RN.take (i := 4) (v := ?_) rfl (by decide) (by kernel_rfl) (by kernel_rfl) (by kernel_rfl) (by kernel_rfl) (by kernel_rfl) (by first | exact fun _ _ _ h => h | exact fun _ _ _ h => (by cases h.1) | exact fun _ _ _ h => door_put (by decide) h) (.inl ⟨by rfl, ?_⟩) hS ?_
      rotate_left 1
      · (intro wq hq; skip; go_simp; try with_reducible rfl)
      refine RN.take (i := 5) (v := ?_) rfl (by decide) (by kernel_rfl) (by kernel_rfl) (by kernel_rfl) (by kernel_rfl) (by kernel_rfl) (by first | exact fun _ _ _ h => h | exact fun _ _ _ h => (by cases h.1) | exact fun _ _ _ h => door_put (by decide) h) (.inl ⟨by rfl, ?_⟩) hS ?_
      rotate_left 1
      · (intro wq hq; have s := cellsQ HQB.out hq; have s3 := s.1; have s4 := s.2.1; have s5 := s.2.2; go_simp; try with_reducible rfl)
      refine RN.all (rs := [3]) (by kernel_rfl) (by simp) ?_
      refine RN.All.cons rfl (fun K hK => ?_) RN.All.nil
      go_simp
      refine (HLV.out _ hS).mono ?_
      rintro e w1 ⟨rfl, rfl⟩
      refine hK _ _ (fun _ => hS) ?_
      clear hK K
      refine RN.take (i := 6) (v := ?_) rfl (by decide) (by kernel_rfl) (by kernel_rfl) (by kernel_rfl) (by kernel_rfl) (by kernel_rfl) (by first | exact fun _ _ _ h => h | exact fun _ _ _ h => (by cases h.1) | exact fun _ _ _ h => door_put (by decide) h) (.inl ⟨by kernel_rfl, ?_⟩) hS ?_
      rotate_left 1
      · (intro wq hq; skip; go_simp; try with_reducible rfl)
      refine RN.take (i := 7) (v := ?_) rfl (by decide) (by kernel_rfl) (by kernel_rfl) (by kernel_rfl) (by kernel_rfl) (by kernel_rfl) (by first | exact fun _ _ _ h => h | exact fun _ _ _ h => (by cases h.1) | exact fun _ _ _ h => door_put (by decide) h) (.inl ⟨by kernel_rfl, ?_⟩) hS ?_
      rotate_left 1
      · (intro wq hq; skip; go_simp; try with_reducible rfl)
      refine RN.take (i := 8) (v := ?_) rfl (by decide) (by kernel_rfl) (by kernel_rfl) (by kernel_rfl) (by kernel_rfl) (by kernel_rfl) (by first | exact fun _ _ _ h => h | exact fun _ _ _ h => (by cases h.1) | exact fun _ _ _ h => door_put (by decide) h) (.inl ⟨by kernel_rfl, ?_⟩) hS ?_
      rotate_left 1
      · (intro wq hq; skip; go_simp; try with_reducible rfl)
      refine RN.take (i := 9) (v := ?_) rfl (by decide) (by kernel_rfl) (by kernel_rfl) (by kernel_rfl) (by kernel_rfl) (by kernel_rfl) (by first | exact fun _ _ _ h => h | exact fun _ _ _ h => (by cases h.1) | exact fun _ _ _ h => door_put (by decide) h) (.inl ⟨by kernel_rfl, ?_⟩) hS ?_
      rotate_left 1
      · (intro wq hq; skip; go_simp; try with_reducible rfl)
      refine RN.take (i := 10) (v := ?_) rfl (by decide) (by kernel_rfl) (by kernel_rfl) (by kernel_rfl) (by kernel_rfl) (by kernel_rfl) (by first | exact fun _ _ _ h => h | exact fun _ _ _ h => (by cases h.1) | exact fun _ _ _ h => door_put (by decide) h) (.inl ⟨by kernel_rfl, ?_⟩) hS ?_
      rotate_left 1
      · (intro wq hq; have s := cellsQ HQB.out hq; have s3 := s.1; have s4 := s.2.1; have s5 := s.2.2; go_simp; try with_reducible rfl)
      refine RN.take (i := 12) (v := ?_) rfl (by decide) (by kernel_rfl) (by kernel_rfl) (by kernel_rfl) (by kernel_rfl) (by kernel_rfl) (by first | exact fun _ _ _ h => h | exact fun _ _ _ h => (by cases h.1) | exact fun _ _ _ h => door_put (by decide) h) (.inl ⟨by kernel_rfl, ?_⟩) hS ?_
      rotate_left 1
      · (intro wq hq; have s := cells3 HXB.out hq; have s0 := s.1; have s1 := s.2.1; have s2 := s.2.2; go_simp; try with_reducible rfl)
      refine RN.take (i := 13) (v := ?_) rfl (by decide) (by kernel_rfl) (by kernel_rfl) (by kernel_rfl) (by kernel_rfl) (by kernel_rfl) (by first | exact fun _ _ _ h => h | exact fun _ _ _ h => (by cases h.1) | exact fun _ _ _ h => door_put (by decide) h) (.inl ⟨by kernel_rfl, ?_⟩) hS ?_
      rotate_left 1
      · (intro wq hq; skip; go_simp; try with_reducible rfl)
      refine RN.take (i := 14) (v := ?_) rfl (by decide) (by kernel_rfl) (by kernel_rfl) (by kernel_rfl) (by kernel_rfl) (by kernel_rfl) (by first | exact fun _ _ _ h => h | exact fun _ _ _ h => (by cases h.1) | exact fun _ _ _ h => door_put (by decide) h) (.inl ⟨by kernel_rfl, ?_⟩) hS ?_
      rotate_left 1
      · (intro wq hq; have s := cellsQ HQB.out hq; have s3 := s.1; have s4 := s.2.1; have s5 := s.2.2; go_simp; try with_reducible rfl)
      refine RN.all (rs := [11]) (by kernel_rfl) (by simp) ?_
      refine RN.All.cons rfl (fun K hK => ?_) RN.All.nil
      go_simp
      refine (HPE.out _ hS).mono ?_
      rintro e w2 ⟨rfl, rfl⟩
      refine hK _ _ (fun _ => hS) ?_
      clear hK K
      refine RN.all (rs := [15]) (by kernel_rfl) (by simp) ?_
      refine RN.All.cons rfl (fun K hK => ?_) RN.All.nil
      go_simp
      refine (HRPE.out _ hS).mono ?_
      rintro e w3 ⟨rfl, hbn⟩
      have hS1 := Below.trans hS (hbn.mono (Below.size hS))
      refine hK _ _ (fun _ => hS1) ?_
      clear hK K hS
      clear hbn
      have hS : (fun wq => Below wB.heap.size wB wq) w3 := hS1
      clear hS1
      refine RN.take (i := 16) (v := ?_) rfl (by decide) (by kernel_rfl) (by kernel_rfl) (by kernel_rfl) (by kernel_rfl) (by kernel_rfl) (by first | exact fun _ _ _ h => h | exact fun _ _ _ h => (by cases h.1) | exact fun _ _ _ h => door_put (by decide) h) (.inl ⟨by kernel_rfl, ?_⟩) hS ?_
      rotate_left 1
      · (intro wq hq; skip; go_simp; try with_reducible rfl)
      refine RN.take (i := 17) (v := ?_) rfl (by decide) (by kernel_rfl) (by kernel_rfl) (by kernel_rfl) (by kernel_rfl) (by kernel_rfl) (by first | exact fun _ _ _ h => h | exact fun _ _ _ h => (by cases h.1) | exact fun _ _ _ h => door_put (by decide) h) (.inl ⟨by kernel_rfl, ?_⟩) hS ?_
      rotate_left 1
      · (intro wq hq; skip; go_simp; try with_reducible rfl)
      refine RN.take (i := 18) (v := ?_) rfl (by decide) (by kernel_rfl) (by kernel_rfl) (by kernel_rfl) (by kernel_rfl) (by kernel_rfl) (by first | exact fun _ _ _ h => h | exact fun _ _ _ h => (by cases h.1) | exact fun _ _ _ h => door_put (by decide) h) (.inl ⟨by kernel_rfl, ?_⟩) hS ?_
      rotate_left 1
      · (intro wq hq; skip; go_simp; try with_reducible rfl)
      refine RN.take (i := 19) (v := ?_) rfl (by decide) (by kernel_rfl) (by kernel_rfl) (by kernel_rfl) (by kernel_rfl) (by kernel_rfl) (by first | exact fun _ _ _ h => h | exact fun _ _ _ h => (by cases h.1) | exact fun _ _ _ h => door_put (by decide) h) (.inl ⟨by kernel_rfl, ?_⟩) hS ?_
      rotate_left 1
      · (intro wq hq; skip; go_simp; try with_reducible rfl)
      refine RN.take (i := 20) (v := ?_) rfl (by decide) (by kernel_rfl) (by kernel_rfl) (by kernel_rfl) (by kernel_rfl) (by kernel_rfl) (by first | exact fun _ _ _ h => h | exact fun _ _ _ h => (by cases h.1) | exact fun _ _ _ h => door_put (by decide) h) (.inl ⟨by kernel_rfl, ?_⟩) hS ?_
      rotate_left 1
      · (intro wq hq; skip; go_simp; try with_reducible rfl)
      refine RN.take (i := 21) (v := ?_) rfl (by decide) (by kernel_rfl) (by kernel_rfl) (by kernel_rfl) (by kernel_rfl) (by kernel_rfl) (by first | exact fun _ _ _ h => h | exact fun _ _ _ h => (by cases h.1) | exact fun _ _ _ h => door_put (by decide) h) (.inl ⟨by kernel_rfl, ?_⟩) hS ?_
      rotate_left 1
      · (intro wq hq; have s := cellsQ HQB.out hq; have s3 := s.1; have s4 := s.2.1; have s5 := s.2.2; go_simp; try with_reducible rfl)
      refine RN.take (i := 23) (v := ?_) rfl (by decide) (by kernel_rfl) (by kernel_rfl) (by kernel_rfl) (by kernel_rfl) (by kernel_rfl) (by first | exact fun _ _ _ h => h | exact fun _ _ _ h => (by cases h.1) | exact fun _ _ _ h => door_put (by decide) h) (.inl ⟨by kernel_rfl, ?_⟩) hS ?_
      rotate_left 1
      · (intro wq hq; have s := cells3 HXB.out hq; have s0 := s.1; have s1 := s.2.1; have s2 := s.2.2; go_simp; try with_reducible rfl)
      refine RN.take (i := 24) (v := ?_) rfl (by decide) (by kernel_rfl) (by kernel_rfl) (by kernel_rfl) (by kernel_rfl) (by kernel_rfl) (by first | exact fun _ _ _ h => h | exact fun _ _ _ h => (by cases h.1) | exact fun _ _ _ h => door_put (by decide) h) (.inl ⟨by kernel_rfl, ?_⟩) hS ?_
      rotate_left 1
      · (intro wq hq; skip; go_simp; try with_reducible rfl)
      refine RN.take (i := 25) (v := ?_) rfl (by decide) (by kernel_rfl) (by kernel_rfl) (by kernel_rfl) (by kernel_rfl) (by kernel_rfl) (by first | exact fun _ _ _ h => h | exact fun _ _ _ h => (by cases h.1) | exact fun _ _ _ h => door_put (by decide) h) (.inl ⟨by kernel_rfl, ?_⟩) hS ?_
      rotate_left 1
      · (intro wq hq; have s := cellsQ HQB.out hq; have s3 := s.1; have s4 := s.2.1; have s5 := s.2.2; go_simp; try with_reducible rfl)
      refine RN.all (rs := [22]) (by kernel_rfl) (by simp) ?_
      refine RN.All.cons rfl (fun K hK => ?_) RN.All.nil
      go_simp
      refine (HCN.out _ hS).mono ?_
      rintro e w4 ⟨v4, rfl, ho4, hbn⟩
      have hS1 := Below.trans hS (hbn.mono (Below.size hS))
      refine hK _ _ (fun _ => hS1) ?_
      clear hK K hS
      clear hbn
      have hS : (fun wq => Below wB.heap.size wB wq) w4 := hS1
      clear hS1
      refine RN.all (rs := [26]) (by kernel_rfl) (by simp) ?_
      refine RN.All.cons rfl (fun K hK => ?_) RN.All.nil
      go_simp
      refine (HRCN.out _ hS).mono ?_
      rintro e w5 ⟨v5, rfl, ho5, hbn⟩
      have hS1 := Below.trans hS (hbn.mono (Below.size hS))
      refine hK _ _ (fun _ => hS1) ?_
      clear hK K hS
      have ho6 := own_stays ho4 hbn
      clear ho4
      clear hbn
      have hS : (fun wq => Below wB.heap.size wB wq) w5 := hS1
      clear hS1
      refine RN.all (rs := [27]) (by kernel_rfl) (by simp) ?_
      refine RN.All.cons rfl (fun K hK => ?_) RN.All.nil
      go_simp
      refine (same_ints ho6 ho5 HLC.out).mono ?_
      rintro e w6 ⟨rfl, hbn⟩
      have hS1 := Below.trans hS (hbn.mono (Below.size hS))
      refine hK _ _ (fun _ => hS1) ?_
      clear hK K hS
      clear ho5 ho6
      clear hbn
      have hS : (fun wq => Below wB.heap.size wB wq) w6 := hS1
      clear hS1
      refine RN.take (i := 28) (v := ?_) rfl (by decide) (by kernel_rfl) (by kernel_rfl) (by kernel_rfl) (by kernel_rfl) (by kernel_rfl) (by first | exact fun _ _ _ h => h | exact fun _ _ _ h => (by cases h.1) | exact fun _ _ _ h => door_put (by decide) h) (.inl ⟨by kernel_rfl, ?_⟩) hS ?_
      rotate_left 1
      · (intro wq hq; skip; go_simp; try with_reducible rfl)
      refine RN.take (i := 29) (v := ?_) rfl (by decide) (by kernel_rfl) (by kernel_rfl) (by kernel_rfl) (by kernel_rfl) (by kernel_rfl) (by first | exact fun _ _ _ h => h | exact fun _ _ _ h => (by cases h.1) | exact fun _ _ _ h => door_put (by decide) h) (.inl ⟨by kernel_rfl, ?_⟩) hS ?_
      rotate_left 1
      · (intro wq hq; skip; go_simp; try with_reducible rfl)
      refine RN.take (i := 30) (v := ?_) rfl (by decide) (by kernel_rfl) (by kernel_rfl) (by kernel_rfl) (by kernel_rfl) (by kernel_rfl) (by first | exact fun _ _ _ h => h | exact fun _ _ _ h => (by cases h.1) | exact fun _ _ _ h => door_put (by decide) h) (.inl ⟨by kernel_rfl, ?_⟩) hS ?_
      rotate_left 1
      · (intro wq hq; skip; go_simp; try with_reducible rfl)
      refine RN.take (i := 31) (v := ?_) rfl (by decide) (by kernel_rfl) (by kernel_rfl) (by kernel_rfl) (by kernel_rfl) (by kernel_rfl) (by first | exact fun _ _ _ h => h | exact fun _ _ _ h => (by cases h.1) | exact fun _ _ _ h => door_put (by decide) h) (.inl ⟨by kernel_rfl, ?_⟩) hS ?_
      rotate_left 1
      · (intro wq hq; skip; go_simp; try with_reducible rfl)
      refine RN.take (i := 32) (v := ?_) rfl (by decide) (by kernel_rfl) (by kernel_rfl) (by kernel_rfl) (by kernel_rfl) (by kernel_rfl) (by first | exact fun _ _ _ h => h | exact fun _ _ _ h => (by cases h.1) | exact fun _ _ _ h => door_put (by decide) h) (.inl ⟨by kernel_rfl, ?_⟩) hS ?_
      rotate_left 1
      · (intro wq hq; skip; go_simp; try with_reducible rfl)
      refine RN.take (i := 33) (v := ?_) rfl (by decide) (by kernel_rfl) (by kernel_rfl) (by kernel_rfl) (by kernel_rfl) (by kernel_rfl) (by first | exact fun _ _ _ h => h | exact fun _ _ _ h => (by cases h.1) | exact fun _ _ _ h => door_put (by decide) h) (.inl ⟨by kernel_rfl, ?_⟩) hS ?_
      rotate_left 1
      · (intro wq hq; have s := cellsQ HQB.out hq; have s3 := s.1; have s4 := s.2.1; have s5 := s.2.2; go_simp; try with_reducible rfl)
      refine RN.take (i := 34) (v := ?_) rfl (by decide) (by kernel_rfl) (by kernel_rfl) (by kernel_rfl) (by kernel_rfl) (by kernel_rfl) (by first | exact fun _ _ _ h => h | exact fun _ _ _ h => (by cases h.1) | exact fun _ _ _ h => door_put (by decide) h) (.inl ⟨by kernel_rfl, ?_⟩) hS ?_
      rotate_left 1
      · (intro wq hq; skip; go_simp; try with_reducible rfl)
      refine RN.take (i := 35) (v := ?_) rfl (by decide) (by kernel_rfl) (by kernel_rfl) (by kernel_rfl) (by kernel_rfl) (by kernel_rfl) (by first | exact fun _ _ _ h => h | exact fun _ _ _ h => (by cases h.1) | exact fun _ _ _ h => door_put (by decide) h) (.inl ⟨by kernel_rfl, ?_⟩) hS ?_
      rotate_left 1
      · (intro wq hq; have s := cellsQ HQB.out hq; have s3 := s.1; have s4 := s.2.1; have s5 := s.2.2; go_simp; try with_reducible rfl)
      refine RN.take (i := 37) (v := ?_) rfl (by decide) (by kernel_rfl) (by kernel_rfl) (by kernel_rfl) (by kernel_rfl) (by kernel_rfl) (by first | exact fun _ _ _ h => h | exact fun _ _ _ h => (by cases h.1) | exact fun _ _ _ h => door_put (by decide) h) (.inl ⟨by kernel_rfl, ?_⟩) hS ?_
      rotate_left 1
      · (intro wq hq; have s := cells3 HXB.out hq; have s0 := s.1; have s1 := s.2.1; have s2 := s.2.2; go_simp; try with_reducible rfl)
      refine RN.take (i := 38) (v := ?_) rfl (by decide) (by kernel_rfl) (by kernel_rfl) (by kernel_rfl) (by kernel_rfl) (by kernel_rfl) (by first | exact fun _ _ _ h => h | exact fun _ _ _ h => (by cases h.1) | exact fun _ _ _ h => door_put (by decide) h) (.inl ⟨by kernel_rfl, ?_⟩) hS ?_
      rotate_left 1
      · (intro wq hq; skip; go_simp; try with_reducible rfl)
      refine RN.take (i := 39) (v := ?_) rfl (by decide) (by kernel_rfl) (by kernel_rfl) (by kernel_rfl) (by kernel_rfl) (by kernel_rfl) (by first | exact fun _ _ _ h => h | exact fun _ _ _ h => (by cases h.1) | exact fun _ _ _ h => door_put (by decide) h) (.inl ⟨by kernel_rfl, ?_⟩) hS ?_
      rotate_left 1
      · (intro wq hq; have s := cellsQ HQB.out hq; have s3 := s.1; have s4 := s.2.1; have s5 := s.2.2; go_simp; try with_reducible rfl)
      refine RN.take (i := 40) (v := ?_) rfl (by decide) (by kernel_rfl) (by kernel_rfl) (by kernel_rfl) (by kernel_rfl) (by kernel_rfl) (by first | exact fun _ _ _ h => h | exact fun _ _ _ h => (by cases h.1) | exact fun _ _ _ h => door_put (by decide) h) (.inl ⟨by kernel_rfl, ?_⟩) hS ?_
      rotate_left 1
      · (intro wq hq; skip; go_simp; try with_reducible rfl)
      refine RN.take (i := 41) (v := ?_) rfl (by decide) (by kernel_rfl) (by kernel_rfl) (by kernel_rfl) (by kernel_rfl) (by kernel_rfl) (by first | exact fun _ _ _ h => h | exact fun _ _ _ h => (by cases h.1) | exact fun _ _ _ h => door_put (by decide) h) (.inl ⟨by kernel_rfl, ?_⟩) hS ?_
      rotate_left 1
      · (intro wq hq; have s := cellsQ HQB.out hq; have s3 := s.1; have s4 := s.2.1; have s5 := s.2.2; go_simp; try with_reducible rfl)
      refine RN.all (rs := [36]) (by kernel_rfl) (by simp) ?_
      refine RN.All.cons rfl (fun K hK => ?_) RN.All.nil
      go_simp
      refine (HCH.out _ hS).mono ?_
      rintro e w7 ⟨rfl, rfl⟩
      refine hK _ _ (fun _ => hS) ?_
      clear hK K
      refine RN.all (rs := [42]) (by kernel_rfl) (by simp) ?_
      refine RN.All.cons rfl (fun K hK => ?_) RN.All.nil
      go_simp
      refine (HRCH.out _ hS).mono ?_
      rintro e w8 ⟨rfl, hbn⟩
      have hS1 := Below.trans hS (hbn.mono (Below.size hS))
      refine hK _ _ (fun _ => hS1) ?_
      clear hK K hS
      clear hbn
      have hS : (fun wq => Below wB.heap.size wB wq) w8 := hS1
      clear hS1
      refine RN.take (i := 43) (v := ?_) rfl (by decide) (by kernel_rfl) (by kernel_rfl) (by kernel_rfl) (by kernel_rfl) (by kernel_rfl) (by first | exact fun _ _ _ h => h | exact fun _ _ _ h => (by cases h.1) | exact fun _ _ _ h => door_put (by decide) h) (.inl ⟨by kernel_rfl, ?_⟩) hS ?_
      rotate_left 1
      · (intro wq hq; skip; go_simp; try with_reducible rfl)
      refine RN.take (i := 44) (v := ?_) rfl (by decide) (by kernel_rfl) (by kernel_rfl) (by kernel_rfl) (by kernel_rfl) (by kernel_rfl) (by first | exact fun _ _ _ h => h | exact fun _ _ _ h => (by cases h.1) | exact fun _ _ _ h => door_put (by decide) h) (.inl ⟨by kernel_rfl, ?_⟩) hS ?_
      rotate_left 1
      · (intro wq hq; skip; go_simp; try with_reducible rfl)
      refine RN.done (by kernel_rfl) ?_ _
      have HB8 := Lib.hid hS
      clear hS HLV HPE HRPE HCN HRCN HCH HRCH HLC
      go_wp2_with fail
      go_loopw [7] (fun s wq => ∃ j : Nat, j ≤ 33 ∧ s = .int .i64 j ∧ Below wB.heap.size wB wq) (fun s _ => 33 - (intOf s).toNat)
      case atStart => exact ⟨0, Nat.zero_le _, rfl, HB8.out⟩
      case round =>
        obtain ⟨j, hj, rfl, hbj⟩ := hrel
        have HBJ := Lib.hid hbj
        clear hbj
        by_cases hltj : j < 33
        · go_wp2_with fail
          have h4 := fun wq hb => HHW.out (j : Int) wq hb
          rw [HS.out.how] at h4
          have H4 := Lib.hid h4
          have H9 := Lib.hid (fun wq hb => HRHW.out (j : Int) wq hb)
          clear h4 HHW HRHW
          generalize how u q.pid (j : Int) = hw at H4 H9
          refine RN.begins (fun wq => Below wB.heap.size wB wq) [] (by kernel_rfl) ?_
          have hS : (fun wq => Below wB.heap.size wB wq) wr.drew := ⟨HBJ.out.os, HBJ.out.tape, HBJ.out.output, HBJ.out.size, HBJ.out.block⟩
          clear HBJ
          refine RN.take (i := 0) (v := ?_) rfl (by decide) (by kernel_rfl) (by kernel_rfl) (by kernel_rfl) (by kernel_rfl) (by kernel_rfl) (by first | exact fun _ _ _ h => h | exact fun _ _ _ h => (by cases h.1) | exact fun _ _ _ h => door_put (by decide) h) (.inl ⟨by rfl, ?_⟩) hS ?_
          rotate_left 1
          · (intro wq hq; skip; go_simp; try with_reducible rfl)
          refine RN.take (i := 1) (v := ?_) rfl (by decide) (by kernel_rfl) (by kernel_rfl) (by kernel_rfl) (by kernel_rfl) (by kernel_rfl) (by first | exact fun _ _ _ h => h | exact fun _ _ _ h => (by cases h.1) | exact fun _ _ _ h => door_put (by decide) h) (.inl ⟨by rfl, ?_⟩) hS ?_
          rotate_left 1
          · (intro wq hq; skip; go_simp; try with_reducible rfl)
          refine RN.take (i := 2) (v := ?_) rfl (by decide) (by kernel_rfl) (by kernel_rfl) (by kernel_rfl) (by kernel_rfl) (by kernel_rfl) (by first | exact fun _ _ _ h => h | exact fun _ _ _ h => (by cases h.1) | exact fun _ _ _ h => door_put (by decide) h) (.inl ⟨by rfl, ?_⟩) hS ?_
          rotate_left 1
          · (intro wq hq; have s := cellsQ HQB.out hq; have s3 := s.1; have s4 := s.2.1; have s5 := s.2.2; go_simp; try with_reducible rfl)
          refine RN.take (i := 3) (v := ?_) rfl (by decide) (by kernel_rfl) (by kernel_rfl) (by kernel_rfl) (by kernel_rfl) (by kernel_rfl) (by first | exact fun _ _ _ h => h | exact fun _ _ _ h => (by cases h.1) | exact fun _ _ _ h => door_put (by decide) h) (.inl ⟨by rfl, ?_⟩) hS ?_
          rotate_left 1
          · (intro wq hq; skip; go_simp; try with_reducible rfl)
          refine RN.take (i := 5) (v := ?_) rfl (by decide) (by kernel_rfl) (by kernel_rfl) (by kernel_rfl) (by kernel_rfl) (by kernel_rfl) (by first | exact fun _ _ _ h => h | exact fun _ _ _ h => (by cases h.1) | exact fun _ _ _ h => door_put (by decide) h) (.inl ⟨by rfl, ?_⟩) hS ?_
          rotate_left 1
          · (intro wq hq; have s := cells3 HXB.out hq; have s0 := s.1; have s1 := s.2.1; have s2 := s.2.2; go_simp; try with_reducible rfl)
          refine RN.take (i := 6) (v := ?_) rfl (by decide) (by kernel_rfl) (by kernel_rfl) (by kernel_rfl) (by kernel_rfl) (by kernel_rfl) (by first | exact fun _ _ _ h => h | exact fun _ _ _ h => (by cases h.1) | exact fun _ _ _ h => door_put (by decide) h) (.inl ⟨by rfl, ?_⟩) hS ?_
          rotate_left 1
          · (intro wq hq; skip; go_simp; try with_reducible rfl)
          refine RN.take (i := 7) (v := ?_) rfl (by decide) (by kernel_rfl) (by kernel_rfl) (by kernel_rfl) (by kernel_rfl) (by kernel_rfl) (by first | exact fun _ _ _ h => h | exact fun _ _ _ h => (by cases h.1) | exact fun _ _ _ h => door_put (by decide) h) (.inl ⟨by rfl, ?_⟩) hS ?_
          rotate_left 1
          · (intro wq hq; have s := cellsQ HQB.out hq; have s3 := s.1; have s4 := s.2.1; have s5 := s.2.2; go_simp; try with_reducible rfl)
          refine RN.take (i := 8) (v := ?_) rfl (by decide) (by kernel_rfl) (by kernel_rfl) (by kernel_rfl) (by kernel_rfl) (by kernel_rfl) (by first | exact fun _ _ _ h => h | exact fun _ _ _ h => (by cases h.1) | exact fun _ _ _ h => door_put (by decide) h) (.inl ⟨by rfl, ?_⟩) hS ?_
          rotate_left 1
          · (intro wq hq; skip; go_simp; try with_reducible rfl)
          refine RN.all (rs := [4]) (by kernel_rfl) (by simp) ?_
          refine RN.All.cons rfl (fun K hK => ?_) RN.All.nil
          go_simp
          refine (H4.out _ hS).mono ?_
          rintro e wh ⟨rfl, rfl⟩
          refine hK _ _ (fun _ => hS) ?_
          clear hK K
          refine RN.all (rs := [9]) (by kernel_rfl) (by simp) ?_
          refine RN.All.cons rfl (fun K hK => ?_) RN.All.nil
          go_simp
          refine (H9.out _ hS).mono ?_
          rintro e wi ⟨rfl, hbn⟩
          have hS1 := Below.trans hS (hbn.mono (Below.size hS))
          refine hK _ _ (fun _ => hS1) ?_
          clear hK K hS
          clear hbn
          have hS : (fun wq => Below wB.heap.size wB wq) wi := hS1
          clear hS1
          refine RN.take (i := 10) (v := ?_) rfl (by decide) (by kernel_rfl) (by kernel_rfl) (by kernel_rfl) (by kernel_rfl) (by kernel_rfl) (by first | exact fun _ _ _ h => h | exact fun _ _ _ h => (by cases h.1) | exact fun _ _ _ h => door_put (by decide) h) (.inl ⟨by rfl, ?_⟩) hS ?_
          rotate_left 1
          · (intro wq hq; skip; go_simp; try with_reducible rfl)
          refine RN.done (by kernel_rfl) ?_ _
          have HBI := Lib.hid hS
          clear hS H4 H9
          go_wp2_with fail
          go_roundw
          case rel => exact ⟨j + 1, by omega, by go_num, HBI.out⟩
          case measure => simp [intOf]; omega
        · obtain rfl : j = 33 := by omega
          go_wp2_with fail
          exact ⟨⟨k + 1, by omega, by go_num, HAB.out.trans (HBJ.out.mono HAB.out.size)⟩, by simp [intOf]; omega⟩
    · obtain rfl : k = u.l.length := by omega
      have HFIN := Lib.hid (HB0.out.trans (HB.out.mono HB0.out.size))
      go_wp2_with fail
      go_ret
      exact ⟨rfl, HFIN.out⟩
end Kn
end Go.Proofs.Ytlebglnlkkoakaa
