/- An end in memory: abandon, Exit; Reap, Send. -/
import Derived.Test.YtlebglnlkkoakaaKnJ
namespace Go.Proofs.Ytlebglnlkkoakaa
open Go.RowKit Go.Maps
namespace Kn
/-- An append to a row of the call's own, of what lies in memory. -/
theorem wp_append_at {P : Program} {w : World} {o : Oper} {a : Act} {K : Act → World → Prop} {Q : Exit → Act → World → Prop} (s x : Operand) (t : TypeId)
    (ho : o.op = .call { callee := .builtin .append, args := #[s, x], argTypes := #[t, t] })
    (base : Nat) (e : TypeId) (i : TypeInfo) (z : Value) (size bytes : Nat) (ht : P.underlying t = some (.slice e)) (hi : P.info? e = some i) (hz : i.zero = some z)
    (hsize : i.size = size) (hby : i.bytes = bytes) (hzs : z.cells.size = size) (hsz : 0 < size)
    (v : Value) (n : Nat) (xs : List Value) (hs : a.eval s = v) (hown : w.ownsRow base e size v n xs)
    (ad : Addr) (m c : Nat) (news : List Value) (hx : a.eval x = .slice (some ad) m c) (hl : news.length = m * size) (hnews : ∀ j u, news[j]? = some u → w.cell? (ad.add j) = some u) (h1 : ∀ u ∈ news, u.oneCell' = true)
    (h63 : n + m ≤ maxLen) (hbytes : (n + m) * bytes ≤ 140737488355328) (hbase : base ≤ w.heap.size)
    (h : ∀ v' w', w'.ownsRow base e size v' (n + m) (xs ++ news) → w.grownBy w' v.ownBlock → (v'.ownBlock = v.ownBlock ∨ v'.ownBlock = some w.heap.size) → K (a.put o.dst v') w') : o.wp P a w K Q := by
  obtain ⟨v', w', hr, h2, h3, h4, h5⟩ := run_append_own_at (P := P) w base t o.type e i z size bytes ht hi hz hsize hby hzs hsz v n xs hown ad m c news hl hnews h1 h63 hbytes hbase
  unfold Oper.wp execOp
  simp only [ho, resolve, invoke, builtin, Sem.run_bind, Sem.run_pure, Result.andThen_ok, List.map_toArray, List.map_cons, List.map_nil, hs, hx, hr]
  exact h v' w' h2 h3 h5
theorem put6 {w : World} {g : Nat} {T : TypeId} {a0 a1 a2 a3 a4 a5 : Value} (h : w.heap[g]? = some (.cells #[a0, a1, a2, a3, a4, a5] T (0, 0))) (b0 b1 b2 b3 b4 b5 : Value) :
    ((((((w.setCell ⟨g, 0, none⟩ b0).setCell ⟨g, 1, none⟩ b1).setCell ⟨g, 2, none⟩ b2).setCell ⟨g, 3, none⟩ b3).setCell ⟨g, 4, none⟩ b4).setCell ⟨g, 5, none⟩ b5).heap[g]? = some (.cells #[b0, b1, b2, b3, b4, b5] T (0, 0)) := by
  have e : (w.setCell ⟨g, 0, none⟩ b0).heap[g]? = some (.cells #[b0, a1, a2, a3, a4, a5] T (0, 0)) := heap_setCell_same _ _ 0 _ _ b0 h
  generalize w.setCell ⟨g, 0, none⟩ b0 = w at e ⊢
  have h := e
  clear e
  have e : (w.setCell ⟨g, 1, none⟩ b1).heap[g]? = some (.cells #[b0, b1, a2, a3, a4, a5] T (0, 0)) := heap_setCell_same _ _ 1 _ _ b1 h
  generalize w.setCell ⟨g, 1, none⟩ b1 = w at e ⊢
  have h := e
  clear e
  have e : (w.setCell ⟨g, 2, none⟩ b2).heap[g]? = some (.cells #[b0, b1, b2, a3, a4, a5] T (0, 0)) := heap_setCell_same _ _ 2 _ _ b2 h
  generalize w.setCell ⟨g, 2, none⟩ b2 = w at e ⊢
  have h := e
  clear e
  have e : (w.setCell ⟨g, 3, none⟩ b3).heap[g]? = some (.cells #[b0, b1, b2, b3, a4, a5] T (0, 0)) := heap_setCell_same _ _ 3 _ _ b3 h
  generalize w.setCell ⟨g, 3, none⟩ b3 = w at e ⊢
  have h := e
  clear e
  have e : (w.setCell ⟨g, 4, none⟩ b4).heap[g]? = some (.cells #[b0, b1, b2, b3, b4, a5] T (0, 0)) := heap_setCell_same _ _ 4 _ _ b4 h
  generalize w.setCell ⟨g, 4, none⟩ b4 = w at e ⊢
  have h := e
  clear e
  have e : (w.setCell ⟨g, 5, none⟩ b5).heap[g]? = some (.cells #[b0, b1, b2, b3, b4, b5] T (0, 0)) := heap_setCell_same _ _ 5 _ _ b5 h
  exact e
theorem own_other {w : World} {base : Nat} {e : TypeId} {size : Nat} {v : Value} {n : Nat} {xs : List Value} (h : w.ownsRow base e size v n xs) {a : Addr} (ha : ∀ g, v.ownBlock = some g → g ≠ a.block) (u : Value) : (w.setCell a u).ownsRow base e size v n xs := by
  obtain ⟨h1, h2⟩ := h
  refine ⟨h1, ?_⟩
  rcases h2 with h2 | ⟨g, cap, cur, rfl, hb, hg, hr⟩
  · exact .inl h2
  · exact .inr ⟨g, cap, cur, rfl, hb, (Below.heap_setCell _ _ _ _ (ha g rfl)).trans hg, hr⟩
theorem Went.chg {w w1 w2 : World} {B : Nat} {h h1 : H} {t t1 t2 : T} (G : Went w w1 h t h1 t1) (e : h1.tb = h.tb) (c : Chg w1 B h1 t1 t2 w2) : Chg w B h t t2 w2 := by
  obtain ⟨h2, e2, T2, G2⟩ := c
  exact ⟨h2, e2.trans e, T2, G.trans G2⟩
set_option maxHeartbeats 1600000 in
theorem abandon_any {w : World} {B : Nat} {h : H} {t : T} (T : Tb w B h t) (O : Ok t) (h1 : t.last < 1000000) (pid : Int) (hpid : I64 pid) :
    Calls Try.prog 55 #[.pointer (some ⟨h.tb, 0, none⟩), .int .i64 pid] w fun e w' => e = .returned (.tuple #[]) ∧ Chg w B h t ((suchL t (child t pid)).foldl leave t) w' := by
  have HK := Lib.hid (children_any T O pid hpid)
  have HT := Lib.hid T; have HO := Lib.hid O
  have hpids : ∀ x ∈ suchL t (child t pid), I64 x := fun x hx => by
    unfold suchL at hx
    obtain ⟨p, hp, rfl⟩ := List.mem_map.1 hx
    have := O.pos p (List.mem_filter.1 hp).1
    unfold I64; omega
  have hlen := Nat.le_trans (suchL_len t (child t pid)) O.len
  obtain ⟨L, hL⟩ : ∃ L, L = suchL t (child t pid) := ⟨_, rfl⟩
  rw [← hL] at HK hpids hlen
  have HL := Lib.hid hL; have HP := Lib.hid hpids
  clear T O hL hpids
  go_enter Try.func55, Try.ntmps55
  go_wp2_with fail
  refine HK.out.mono ?_
  rintro e w1 ⟨v, rfl, hown, hb⟩
  obtain ⟨a, cap, rfl, hc⟩ := slice_of_owns hown
  have HW := Lib.hid hown; have HB := Lib.hid hb; have HC := Lib.hid hc
  clear hown hb hc
  go_wp2_with fail
  have hT1 := HT.out.stay HB.out
  have HT1 := Lib.hid hT1
  clear hT1
  go_loopw [11] (fun i wr => ∃ k : Nat, k ≤ L.length ∧ i = .int .i64 k ∧ Chg w1 B h t ((L.take k).foldl leave t) wr) (fun i _ => L.length - (intOf i).toNat)
  case atStart => exact ⟨0, Nat.zero_le _, rfl, Chg.refl HT1.out⟩
  case round =>
    obtain ⟨k, hk, rfl, hch⟩ := hrel
    by_cases hlt : k < L.length
    · obtain ⟨h', etb, T', G'⟩ := hch
      obtain ⟨b, rfl, hcell⟩ := HC.out k hlt
      have hx : L.getD k 0 = L[k] := by simp [List.getD, hlt]
      rw [hx] at hcell
      have HS := Lib.hid (List.take_succ_eq_append_getElem hlt)
      have hcI := HP.out L[k] (List.getElem_mem hlt)
      generalize L[k] = c at hcell HS hcI
      have hbl := HW.out.lt b rfl
      have hbr : wr.heap[b]? = w1.heap[b]? := G'.fr.block b hbl.2 fun e => by have := (HT.out.lt b e).2; omega
      have hcell2 : wr.cell? ⟨b, k, none⟩ = some (.int .i64 c) := (World.cell?_of_block hbr).trans hcell
      have hO' : Ok ((L.take k).foldl leave t) := leaves_ok _ HO.out
      have hs : (L.take (k + 1)).foldl leave t = leave ((L.take k).foldl leave t) c := by rw [HS.out, List.foldl_append]; rfl
      generalize (L.take k).foldl leave t = t' at T' G' hO' hs
      have HA := Lib.hid (alive_any T' c hcI)
      rw [etb] at HA
      cases hl : live t' c
      · rw [lad_no hl] at HA
        have c0 := T'.c0
        rw [etb] at c0
        have hs2 : (L.take (k + 1)).foldl leave t = drop t' c := by rw [hs]; unfold leave; rw [hl]; rfl
        have HM := Lib.hid T'.map
        have HT' := Lib.hid T'; have HG' := Lib.hid G'; have HO' := Lib.hid hO'; have HS2 := Lib.hid hs2; have HI := Lib.hid hcI; have HE := Lib.hid etb
        have hkey : keyOf Try.prog 3 (.int .i64 c) = some (.int .i64 c) := keyOf_int_mk Try.underlying3 hcI.wf
        clear hcell hbr hx T' G' hO' hs hs2 hl HS hcI etb hbl
        go_wp2_with (first
          | (go_at_call 46; refine HA.out.mono ?_; rintro e w' ⟨rfl, rfl⟩; rw [ptr])
          | (at_delete; refine wpList_delete_own _ rfl _ _ 65 3 rfl 79 keyed Try.underlying65 _ h'.mb _ h'.D rfl HM.out _ _ rfl hkey ?_; intro w2 hown2 hturn2))
        have HC2 := Lib.hid (HT'.out.dropped HO'.out c HI.out (fr_turned hturn2) hown2)
        clear hown2 hturn2
        go_wp2_with fail
        go_roundw
        case rel =>
          refine ⟨k + 1, by omega, by go_num, ?_⟩
          rw [HS2.out]
          exact HG'.out.chg HE.out HC2.out
        case measure => simp [intOf]; omega
      · rw [lad_yes hl] at HA
        obtain ⟨p, hf, hpl⟩ := live_iff hl
        have hr := T'.found hf
        have f0 : wr.frozen? ⟨h'.ad c, 0, none⟩ = false := frozen_of_row _ _ _ _ _ hr
        have q0 : wr.cell? ⟨h'.ad c, 0, none⟩ = some (.int .i64 p.par) := Lib.cell_of_heap hr 0
        have hs2 : (L.take (k + 1)).foldl leave t = put t' c (fun p => { p with par := 0 }) := by rw [hs]; unfold leave; rw [hl]; rfl
        have HT' := Lib.hid T'; have HG' := Lib.hid G'; have HO' := Lib.hid hO'; have HS2 := Lib.hid hs2; have HE := Lib.hid etb; have HR := Lib.hid hr; have HF := Lib.hid hf
        clear hcell hbr hx T' G' hO' hs hs2 hl HS hcI etb hbl hr hf hpl
        go_wp2_with (go_at_call 46; refine HA.out.mono ?_; rintro e w' ⟨rfl, rfl⟩; rw [ptr])
        go_roundw
        case rel =>
          refine ⟨k + 1, by omega, by go_num, ?_⟩
          rw [HS2.out]
          have := HT'.out.wrote HO'.out HF.out (f := fun p => { p with par := 0 }) (fun _ => rfl) (Fr.set _ _ 0 _) (heap_setCell_same _ _ 0 _ _ _ HR.out)
          exact HG'.out.chg HE.out ⟨h', rfl, this.1, this.2⟩
        case measure => simp [intOf]; omega
    · obtain rfl : k = L.length := by omega
      rw [List.take_length] at hch
      have HCH := Lib.hid hch
      clear hch
      go_wp2_with fail
      go_end0
      obtain ⟨h2, e2, T2, G2⟩ := HCH.out
      refine ⟨rfl, h2, e2, by rw [← HL.out]; exact T2, ?_⟩
      rw [← HL.out]
      exact ⟨(Fr.ofBelow HB.out _).and G2.fr, fun k hk => (G2.grew k hk).imp id fun e => Nat.le_trans HB.out.size e, G2.ad, G2.last⟩
/-- A table with one more end. -/
def endT (t : T) (pid st : Int) : T := { t with ends := t.ends ++ [(pid, st)] }
theorem leaves_end (L : List Int) {t : T} (O : Ok t) (pid st : Int) : L.foldl leave (endT t pid st) = endT (L.foldl leave t) pid st := by
  rw [leaves_t L O, leaves_t L (t := endT t pid st) ⟨O.rise, O.pos, O.len⟩]; rfl
theorem exit_t2 {t : T} (O : Ok t) (R : Par t) {pid st : Int} {p : P} (hf : find t pid = some p) (hp : p.live = true) :
    exit t pid st = (if live t p.par then put ((suchL t (child t pid)).foldl leave (endT t pid (st % 256))) pid (deadP (st % 256)) else drop ((suchL t (child t pid)).foldl leave (endT t pid (st % 256))) pid, true) := by
  rw [exit_t O R hf hp, leaves_end _ O, leaves_t _ O]; rfl
theorem exit_no {t : T} {pid : Int} (st : Int) (hl : live t pid = false) : exit t pid st = (t, false) := by
  unfold exit
  unfold live at hl
  cases hf : find t pid with
  | none => rfl
  | some p => rw [hf] at hl; simp at hl; simp [hl]
theorem Tb.ended {w w' : World} {B : Nat} {h : H} {t : T} (T : Tb w B h t) {v : Value} (pid st : Int) (F : Fr w w' fun k => k = h.tb ∨ h.ev.ownBlock = some k)
    (hc : w'.heap[h.tb]? = some (.cells #[.map (some h.mb), .int .i64 t.last, v] 67 (0, 0))) (ho : w'.ownsRow B 87 2 v (t.ends.length + 1) (ecells t.ends ++ [.int .i64 pid, .int .i64 st]))
    (hl : ∀ k, v.ownBlock = some k → h.ev.ownBlock = some k ∨ w.heap.size ≤ k) : Tb w' B { h with ev := v } (endT t pid st) ∧ Went w w' h t { h with ev := v } (endT t pid st) := by
  have ot : ∀ k, Mine h t k → k ≠ h.tb → h.ev.ownBlock ≠ some k → w'.heap[k]? = w.heap[k]? := fun k hk h1 h2 => F.block k (T.lt k hk).2 fun e => e.elim h1 h2
  have N := T.tb_ne
  refine ⟨⟨hc, ?_, T.keys, T.has, T.size, fun q hq => ?_, T.apart, ?_, T.tb0, T.mb0, T.ad0⟩, ⟨⟨F.os, F.tape, F.output, F.size, fun k hk hn => F.block k hk fun e => hn (e.elim .inl fun e => .inr (.inr (.inl e)))⟩, ?_, fun _ _ => rfl, Int.le_refl _⟩⟩
  · obtain ⟨es, clock, hh, r⟩ := T.map
    exact ⟨es, clock, (ot _ (.inr (.inl rfl)) N.1 N.2.2).trans hh, r⟩
  · have A := T.ad_ne hq
    exact (ot _ (.inr (.inr (.inr ⟨q, hq, rfl⟩))) A.1 A.2.2).trans (T.proc q hq)
  · have : ecells (endT t pid st).ends = ecells t.ends ++ [.int .i64 pid, .int .i64 st] := by unfold endT ecells; simp
    rw [this]
    simpa [endT] using ho
  · rintro k (e | e | e | e)
    · exact .inl (.inl e)
    · exact .inl (.inr (.inl e))
    · exact (hl k e).imp (fun e => .inr (.inr (.inl e))) id
    · exact .inl (.inr (.inr (.inr e)))
set_option maxRecDepth 8000 in
set_option maxHeartbeats 1600000 in
theorem exit_any {w : World} {B : Nat} {h : H} {t : T} (T : Tb w B h t) (O : Ok t) (R : Par t) (h1 : t.last < 1000000) (hB : B ≤ w.heap.size) (hends : t.ends.length ≤ 100000) (pid st : Int) (hpid : I64 pid) (hst : I64 st) :
    Calls Try.prog 14 #[.pointer (some ⟨h.tb, 0, none⟩), .int .i64 pid, .int .i64 st] w fun e w' => e = .returned (.bool (exit t pid st).2) ∧ Chg w B h t (exit t pid st).1 w' := by
  obtain ⟨i0, hi, hz0, hz1, hz2⟩ := info_parts infoEnd
  have HA := Lib.hid (alive_any T pid hpid)
  have HT := Lib.hid T
  cases hl : live t pid
  · rw [lad_no hl] at HA
    rw [exit_no st hl]
    clear T
    go_enter Try.func14, Try.ntmps14
    go_wp2_with (go_at_call 46; refine HA.out.mono ?_; rintro e w' ⟨rfl, rfl⟩; rw [ptr])
    go_ret
    exact ⟨rfl, Chg.refl HT.out⟩
  rw [lad_yes hl] at HA
  obtain ⟨p, hf, hp⟩ := live_iff hl
  have hex := exit_t2 (st := st) O R hf hp
  rw [show (exit t pid st).2 = true by rw [hex]]
  have hex1 := congrArg Prod.fst hex
  simp only at hex1
  generalize (exit t pid st).1 = TX at hex1
  have HEX := Lib.hid hex1
  clear hex hex1
  have c2 := T.c2
  have f2 : w.frozen? ⟨h.tb, 2, none⟩ = false := frozen_of_row _ _ _ _ _ T.cells
  have HE := Lib.hid T.ends
  clear T
  go_enter Try.func14, Try.ntmps14
  go_wp2_with (first
    | (go_at_call 46; refine HA.out.mono ?_; rintro e w' ⟨rfl, rfl⟩; rw [ptr])
    | (go_at_call 54; refine (rem_any st _).mono ?_; rintro e w' ⟨rfl, rfl⟩))
  have hb0 := below_alloc w' (.cells #[.int .i64 pid, .int .i64 (st % 256)] 87)
  have hbx := heap_alloc_new w' (.cells #[.int .i64 pid, .int .i64 (st % 256)] 87)
  have T0 := HT.out.stay hb0
  have HT0 := Lib.hid T0; have HB0 := Lib.hid hb0; have HBX := Lib.hid hbx
  have hgs := Nat.lt_of_lt_of_le (Nat.lt_succ_self w'.heap.size) (Nat.le_of_eq (World.size_alloc w' (.cells #[.int .i64 pid, .int .i64 (st % 256)] 87)).symm)
  clear T0 hb0 hbx
  generalize w'.alloc (.cells #[.int .i64 pid, .int .i64 (st % 256)] 87) = W0 at HT0 HB0 HBX hgs ⊢
  refine RN.begins (fun wq => wq.cell? ⟨h.tb, 2, none⟩ = some h.ev ∧ wq.heap[w'.heap.size]? = some (.cells #[.int .i64 pid, .int .i64 (st % 256)] 87 (0, 0))) [10] (by kernel_rfl) ?_
  have hS : (fun wq : World => wq.cell? ⟨h.tb, 2, none⟩ = some h.ev ∧ wq.heap[w'.heap.size]? = some (.cells #[.int .i64 pid, .int .i64 (st % 256)] 87 (0, 0))) W0.drew := ⟨HT0.out.c2, HBX.out⟩
  refine RN.take (i := 0) (v := ?_) rfl (by decide) (by kernel_rfl) (by kernel_rfl) (by kernel_rfl) (by kernel_rfl) (by kernel_rfl) (by first | exact fun _ _ _ h => h | exact fun _ _ _ h => (by cases h.1) | exact fun _ _ _ h => door_put (by decide) h) (.inl ⟨by rfl, ?_⟩) hS ?_
  rotate_left 1
  · (intro wq hq; have s0 := hq.1; go_simp; try with_reducible rfl)
  refine RN.take (i := 1) (v := ?_) rfl (by decide) (by kernel_rfl) (by kernel_rfl) (by kernel_rfl) (by kernel_rfl) (by kernel_rfl) (by first | exact fun _ _ _ h => h | exact fun _ _ _ h => (by cases h.1) | exact fun _ _ _ h => door_put (by decide) h) (.inl ⟨by rfl, ?_⟩) hS ?_
  rotate_left 1
  · (intro wq hq; have s0 := hq.1; go_simp; try with_reducible rfl)
  refine RN.take (i := 2) (v := ?_) rfl (by decide) (by kernel_rfl) (by kernel_rfl) (by kernel_rfl) (by kernel_rfl) (by kernel_rfl) (by first | exact fun _ _ _ h => h | exact fun _ _ _ h => (by cases h.1) | exact fun _ _ _ h => door_put (by decide) h) (.inl ⟨by rfl, ?_⟩) hS ?_
  rotate_left 1
  · (intro wq hq; have s0 := hq.1; go_simp; try with_reducible rfl)
  refine RN.take (i := 3) (v := ?_) rfl (by decide) (by kernel_rfl) (by kernel_rfl) (by kernel_rfl) (by kernel_rfl) (by kernel_rfl) (by first | exact fun _ _ _ h => h | exact fun _ _ _ h => (by cases h.1) | exact fun _ _ _ h => door_put (by decide) h) (.inl ⟨by rfl, ?_⟩) hS ?_
  rotate_left 1
  · (intro wq hq; have s0 := hq.1; go_simp; try with_reducible rfl)
  refine RN.take (i := 4) (v := ?_) rfl (by decide) (by kernel_rfl) (by kernel_rfl) (by kernel_rfl) (by kernel_rfl) (by kernel_rfl) (by first | exact fun _ _ _ h => h | exact fun _ _ _ h => (by cases h.1) | exact fun _ _ _ h => door_put (by decide) h) (.inl ⟨by rfl, ?_⟩) hS ?_
  rotate_left 1
  · (intro wq hq; have s0 := hq.1; go_simp; try with_reducible rfl)
  refine RN.take (i := 5) (v := ?_) rfl (by decide) (by kernel_rfl) (by kernel_rfl) (by kernel_rfl) (by kernel_rfl) (by kernel_rfl) (by first | exact fun _ _ _ h => h | exact fun _ _ _ h => (by cases h.1) | exact fun _ _ _ h => door_put (by decide) h) (.inl ⟨by rfl, ?_⟩) hS ?_
  rotate_left 1
  · (intro wq hq; have s1 : wq.cell? ⟨w'.heap.size, 0, none⟩ = some (.int .i64 pid) := Lib.cell_of_heap hq.2 0; have s2 : wq.cell? ⟨w'.heap.size, 1, none⟩ = some (.int .i64 (st % 256)) := Lib.cell_of_heap hq.2 1; go_simp; try with_reducible rfl)
  refine RN.all (rs := [6]) (by kernel_rfl) (by simp) ?_
  refine RN.All.cons rfl (fun K hK => ?_) RN.All.nil
  go_simp
  have hb1 := below_alloc W0 (.cells #[.int .i64 pid, .int .i64 (st % 256)] 87)
  have hn1 : (W0.alloc (.cells #[.int .i64 pid, .int .i64 (st % 256)] 87)).drew.heap[W0.heap.size]? = _ := heap_alloc_new W0 (.cells #[.int .i64 pid, .int .i64 (st % 256)] 87)
  have hb1 : Below W0.heap.size W0 (W0.alloc (.cells #[.int .i64 pid, .int .i64 (st % 256)] 87)).drew := ⟨hb1.os, hb1.tape, hb1.output, hb1.size, hb1.block⟩
  have T1 := HT0.out.stay hb1
  have hx1 := (hb1.block _ hgs).trans HBX.out
  have hz1' : W0.heap.size < (W0.alloc (.cells #[.int .i64 pid, .int .i64 (st % 256)] 87)).drew.heap.size := (Array.getElem?_eq_some_iff.1 hn1).1
  clear hS
  generalize (W0.alloc (.cells #[.int .i64 pid, .int .i64 (st % 256)] 87)).drew = W1 at hb1 hn1 T1 hx1 hz1' ⊢
  refine hK _ _ (fun _ => ⟨T1.c2, hx1⟩) ?_
  clear hK K
  refine RN.all (rs := [7]) (by kernel_rfl) (by simp) ?_
  refine RN.All.cons rfl (fun K hK => ?_) RN.All.nil
  have hnews : ∀ j u, [Value.int .i64 pid, .int .i64 (st % 256)][j]? = some u → W1.cell? ((⟨W0.heap.size, 0, none⟩ : Addr).add j) = some u := fun j u hj => by
    match j, hj with
    | 0, hj => simp at hj; subst hj; exact Lib.cell_of_heap hn1 0
    | 1, hj => simp at hj; subst hj; exact Lib.cell_of_heap hn1 1
  have hone : ∀ u ∈ [Value.int .i64 pid, .int .i64 (st % 256)], u.oneCell' = true := fun u hu => by simp at hu; rcases hu with rfl | rfl <;> rfl
  have hmx : t.ends.length + 1 ≤ maxLen := by unfold maxLen; omega
  have hBW : B ≤ W1.heap.size := by have := HB0.out.size; omega
  refine wp_append_at _ _ 29 rfl B 87 i0 (.agg #[.int .i64 0, .int .i64 0]) 2 16 Try.underlying29 hi hz0 hz1 hz2 rfl (by decide) h.ev t.ends.length (ecells t.ends) rfl T1.ends ⟨W0.heap.size, 0, none⟩ 1 1 [.int .i64 pid, .int .i64 (st % 256)] rfl rfl hnews hone hmx (by omega) hBW ?_
  intro v' W2 hown2 hgrow2 hloc2
  obtain ⟨a', n', c', rfl⟩ : ∃ a' n' c', v' = .slice a' n' c' := by
    rcases hown2.2 with ⟨e, _⟩ | ⟨g, cap, cur, e, _⟩
    · exact ⟨_, _, _, e⟩
    · exact ⟨_, _, _, e⟩
  go_simp
  have N := T1.tb_ne
  have hlt1 := (T1.lt _ (.inl rfl)).2
  have hd2 := (hgrow2.block h.tb hlt1 (Ne.symm N.2.1)).trans T1.cells
  have hx2 := (hgrow2.block w'.heap.size (by omega) (fun e => by have := (HT.out.lt _ (.inr (.inr (.inl e.symm)))).2; omega)).trans hx1
  refine hK _ _ (fun _ => ⟨Lib.cell_of_heap hd2 2, hx2⟩) ?_
  clear hK K
  have f2' : W2.frozen? ⟨h.tb, 2, none⟩ = false := frozen_of_row _ _ _ _ _ hd2
  have c2' : W2.cell? ⟨h.tb, 2, none⟩ = some h.ev := Lib.cell_of_heap hd2 2
  have hS2 : W2.cell? ⟨h.tb, 2, none⟩ = some h.ev ∧ W2.heap[w'.heap.size]? = some (.cells #[.int .i64 pid, .int .i64 (st % 256)] 87 (0, 0)) := ⟨c2', hx2⟩
  have hF : Fr w' (W2.setCell ⟨h.tb, 2, none⟩ (.slice a' n' c')) fun k => k = h.tb ∨ h.ev.ownBlock = some k :=
    (((Fr.ofBelow HB0.out _).and (S := fun k => k = h.tb ∨ h.ev.ownBlock = some k) ((Fr.ofBelow hb1 _))).and ⟨hgrow2.os, hgrow2.tape, hgrow2.output, hgrow2.size, fun k hk hn => hgrow2.block k hk fun e => hn (.inr e.symm)⟩).and ⟨rfl, rfl, rfl, by simp, fun k _ hn => Below.heap_setCell _ _ _ _ fun e => hn (.inl e)⟩
  have hT3 := HT.out.ended pid (st % 256) hF (heap_setCell_same _ _ 2 _ _ (.slice a' n' c') hd2) (own_other hown2 (fun g hg e => by
      rcases hloc2 with e2 | e2
      · rw [e2] at hg; exact N.2.1 (hg.trans (congrArg some e))
      · rw [e2] at hg; have := Option.some.inj hg; have e : g = h.tb := e; omega) (.slice a' n' c')) (fun k hk => by
      rcases hloc2 with e2 | e2
      · exact .inl (e2.symm.trans hk)
      · right; rw [e2] at hk; have := Option.some.inj hk; have := hb1.size; have := HB0.out.size; omega)
  have hnm : ¬ Mine { h with ev := .slice a' n' c' } (endT t pid (st % 256)) w'.heap.size := by
    rintro (e | e | e | ⟨q, hq, e⟩)
    · have := (HT.out.lt _ (.inl rfl)).2; simp only at e; omega
    · have := (HT.out.lt _ (.inr (.inl rfl))).2; simp only at e; omega
    · simp only at e
      rcases hloc2 with e2 | e2
      · have := (HT.out.lt _ (.inr (.inr (.inl (e2.symm.trans e))))).2; omega
      · have := Option.some.inj (e2.symm.trans e); omega
    · have := (HT.out.lt _ (.inr (.inr (.inr ⟨q, hq, rfl⟩)))).2; simp only at e; omega
  have hx3 := (Below.heap_setCell W2 ⟨h.tb, 2, none⟩ (.slice a' n' c') w'.heap.size (fun e => by have := (HT.out.lt _ (.inl rfl)).2; have e : w'.heap.size = h.tb := e; omega)).trans hx2
  have HNM := Lib.hid hnm; have HX3 := Lib.hid hx3
  have HT3 := Lib.hid hT3.1; have HG3 := Lib.hid hT3.2
  clear hnm hx3 hT3 hF hown2 hgrow2 hloc2 hx2 hd2 N T1 hb1 hx1 hn1 hnews hone
  have hS := hS2
  refine RN.take (i := 8) (v := ?_) rfl (by decide) (by kernel_rfl) (by kernel_rfl) (by kernel_rfl) (by kernel_rfl) (by kernel_rfl) (by first | exact fun _ _ _ h => h | exact fun _ _ _ h => (by cases h.1) | exact fun _ _ _ h => door_put (by decide) h) (.inl ⟨by rfl, ?_⟩) hS ?_
  rotate_left 1
  · (intro wq hq; skip; go_simp; try with_reducible rfl)
  refine RN.take (i := 9) (v := ?_) rfl (by decide) (by kernel_rfl) (by kernel_rfl) (by kernel_rfl) (by kernel_rfl) (by kernel_rfl) (by first | exact fun _ _ _ h => h | exact fun _ _ _ h => (by cases h.1) | exact fun _ _ _ h => door_put (by decide) h) (.inl ⟨by rfl, ?_⟩) hS ?_
  rotate_left 1
  · (intro wq hq; skip; go_simp; try with_reducible rfl)
  refine RN.all (rs := [10]) (by kernel_rfl) (by simp) ?_
  refine RN.All.cons rfl (fun K hK => ?_) RN.All.nil
  go_simp
  refine hK _ _ (fun e => by cases e) ?_
  clear hK K hS hS2
  refine RN.done (by kernel_rfl) ?_ _
  generalize W2.setCell ⟨h.tb, 2, none⟩ (.slice a' n' c') = W3 at HT3 HG3 HX3 ⊢
  have O1 : Ok (endT t pid (st % 256)) := ⟨O.rise, O.pos, O.len⟩
  obtain ⟨epid, hmem⟩ := find_pid hf
  have hR := R p hmem
  have hPos := O.pos p hmem
  have HAB := Lib.hid (abandon_any HT3.out O1 h1 pid hpid)
  have hnk : ¬ p.pid ∈ suchL t (child t pid) := fun e => by have := (mem_kids O hl hmem).1 e; omega
  have HO1 := Lib.hid O1
  clear c2' f2' f2 c2 O1
  go_wp2_with fail
  refine HAB.out.mono ?_
  rintro e W4 ⟨rfl, h4, e4, T4, G4⟩
  simp only at e4
  have hf4 : find ((suchL (endT t pid (st % 256)) (child (endT t pid (st % 256)) pid)).foldl leave (endT t pid (st % 256))) pid = some p := by
    rw [find_leaves HO1.out]
    show (find t pid).bind _ = _
    rw [hf, Option.bind_some]
    unfold lef
    exact if_neg hnk
  have hl4 : ∀ x, live ((suchL (endT t pid (st % 256)) (child (endT t pid (st % 256)) pid)).foldl leave (endT t pid (st % 256))) x = live t x := fun x => live_leaves HO1.out _ x
  have hO4 : Ok ((suchL (endT t pid (st % 256)) (child (endT t pid (st % 256)) pid)).foldl leave (endT t pid (st % 256))) := leaves_ok _ HO1.out
  have had : h4.ad pid = h.ad pid := G4.ad pid (by show pid ≤ t.last; omega)
  have hx4 := (G4.fr.block w'.heap.size (Array.getElem?_eq_some_iff.1 HX3.out).1 HNM.out).trans HX3.out
  obtain ⟨t4, ht4⟩ : ∃ t4, t4 = (suchL (endT t pid (st % 256)) (child (endT t pid (st % 256)) pid)).foldl leave (endT t pid (st % 256)) := ⟨_, rfl⟩
  rw [← ht4] at T4 G4 hf4 hl4 hO4
  have hex4 : TX = if live t p.par then put t4 pid (deadP (st % 256)) else drop t4 pid := by rw [ht4]; exact HEX.out
  have HEX4 := Lib.hid hex4
  clear ht4 hex4 HEX
  have hr4 := T4.found hf4
  rw [had] at hr4
  have HLV := Lib.hid (live_any T4 p.par (by unfold I64; omega))
  rw [hl4, e4] at HLV
  have q40 : W4.cell? ⟨h.ad pid, 0, none⟩ = some (.int .i64 p.par) := Lib.cell_of_heap hr4 0
  have HG4 := Lib.hid (HG3.out.trans G4)
  have HT4 := Lib.hid T4; have HO4 := Lib.hid hO4; have HF4 := Lib.hid hf4; have HR4 := Lib.hid hr4; have HX4 := Lib.hid hx4; have HAD := Lib.hid had; have HE4 := Lib.hid e4
  clear T4 G4 hf4 hl4 hO4 had hx4 hr4 hnk hmem hf O R hp hl HAB HT3 HG3 HX3 HNM HO1 HB0 HBX HT0 e4
  cases hlp : live t p.par
  · rw [hlp] at HLV
    have c0 := HT4.out.c0
    rw [HE4.out] at c0
    have HM := Lib.hid HT4.out.map
    have hkey : keyOf Try.prog 3 (.int .i64 pid) = some (.int .i64 pid) := keyOf_int_mk Try.underlying3 hpid.wf
    have HI := Lib.hid hpid
    clear hpid
    go_wp2_with (first
      | (go_at_call 22; refine HLV.out.mono ?_; rintro e w5 ⟨rfl, rfl⟩)
      | (at_delete; refine wpList_delete_own _ rfl _ _ 65 3 rfl 79 keyed Try.underlying65 _ h4.mb _ h4.D rfl HM.out _ _ rfl hkey ?_; intro w6 hown6 hturn6))
    have hch := HT4.out.dropped HO4.out pid HI.out (fr_turned hturn6) hown6
    go_ret
    refine ⟨rfl, ?_⟩
    rw [HEX4.out, hlp]
    exact HG4.out.chg HE4.out hch
  · rw [hlp] at HLV
    have q1 : W4.cell? ⟨w'.heap.size, 1, none⟩ = some (.int .i64 (st % 256)) := Lib.cell_of_heap HX4.out 1
    have f0 : W4.frozen? ⟨h.ad pid, 0, none⟩ = false := frozen_of_row _ _ _ _ _ HR4.out
    have f1 : W4.frozen? ⟨h.ad pid, 1, none⟩ = false := frozen_of_row _ _ _ _ _ HR4.out
    have f2 : W4.frozen? ⟨h.ad pid, 2, none⟩ = false := frozen_of_row _ _ _ _ _ HR4.out
    have f3 : W4.frozen? ⟨h.ad pid, 3, none⟩ = false := frozen_of_row _ _ _ _ _ HR4.out
    have f4 : W4.frozen? ⟨h.ad pid, 4, none⟩ = false := frozen_of_row _ _ _ _ _ HR4.out
    have f5 : W4.frozen? ⟨h.ad pid, 5, none⟩ = false := frozen_of_row _ _ _ _ _ HR4.out
    have q41 : W4.cell? ⟨h.ad pid, 1, none⟩ = some (.bool p.live) := Lib.cell_of_heap HR4.out 1
    have q42 : W4.cell? ⟨h.ad pid, 2, none⟩ = some (.int .i64 p.st) := Lib.cell_of_heap HR4.out 2
    have q43 : W4.cell? ⟨h.ad pid, 3, none⟩ = some (.int .u32 p.ig) := Lib.cell_of_heap HR4.out 3
    have q44 : W4.cell? ⟨h.ad pid, 4, none⟩ = some (.int .u32 p.ca) := Lib.cell_of_heap HR4.out 4
    have q45 : W4.cell? ⟨h.ad pid, 5, none⟩ = some (.int .u32 p.pe) := Lib.cell_of_heap HR4.out 5
    go_wp2_with (go_at_call 22; refine HLV.out.mono ?_; rintro e w5 ⟨rfl, rfl⟩)
    go_region
    all_goals
      go_wp2_with fail
      go_ret
      refine ⟨rfl, ?_⟩
      rw [HEX4.out, hlp]
      refine HG4.out.chg HE4.out (Chg.drew ?_)
      have hw := HT4.out.wrote HO4.out HF4.out (f := deadP (st % 256)) (fun _ => rfl)
        ((((((Fr.set _ _ 0 _).and (Fr.set _ _ 1 _)).and (Fr.set _ _ 2 _)).and (Fr.set _ _ 3 _)).and (Fr.set _ _ 4 _)).and (Fr.set _ _ 5 _))
        (put6 (by rw [HAD.out]; exact HR4.out) (.int .i64 p.par) (.bool false) (.int .i64 (st % 256)) (.int .u32 0) (.int .u32 0) (.int .u32 0))
      rw [HAD.out] at hw
      exact ⟨h4, rfl, hw.1, hw.2⟩
end Kn
end Go.Proofs.Ytlebglnlkkoakaa
