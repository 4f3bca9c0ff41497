/- part, Pieces, One: for all words. -/
import Derived.Test.YtoneabcbeikkhaaGreatDoorExI
namespace Go.Proofs.YtoneabcbeikkhaaGreatDoor
open Go.RowKit Cls
namespace Ex
open Vr (St val Sc Kp Tab Fit RowAt MapAt)
open Fld (Pc bs tx joinS cutP joinP weight Pcs pcells)
open Pt (PL Lies)
set_option maxHeartbeats 2000000 in
theorem part_any {W0 w : World} {B q m : Nat} {z s : St} {mv av : Value} {f : PL} {a : Option Addr} {c : Nat} (h : PW W0 B q z av f a c) (E : Env W0 w B q z m s mv av) (hm : m + f.size ≤ 900000) (hs : f.size ≤ 1000) (hf : okT f) (k : Int) (qq : Bool) (t o : ByteArray) (ht : t.size ≤ 100000) (ho : k = 2 → okO o) :
    Calls Tryz.prog 27 #[.pointer (some ⟨q, 0, none⟩), Pt.pv k qq t o a f.len c] w (Ans w B q mv av (partG k qq t o f s)) := by
  have HB0 := Lib.hid (two_bel w k qq t o a f.len c)
  have HE := Lib.hid (E.more HB0.out)
  have HR0 := Lib.hid (two_fault w k qq t o a f.len c)
  unfold partG
  cases hk : k == 2
  · simp only [cond_false]
    unfold Pt.pv
    clear h E ho
    go_enter Tryz.func27, Tryz.ntmps27
    go_wp2_with fail
    refine (piece_any t qq _).mono ?_
    rintro e w1 ⟨v1, rfl, ho1, hb1⟩
    have HR1 := Lib.hid (bel_block hb1 HR0.out)
    have q0w1 : w1.cell? ⟨w.heap.size + 1, 0, none⟩ = some (.int .i64 0) := Lib.cell_of_heap HR1.out 0
    have q1w1 : w1.cell? ⟨w.heap.size + 1, 1, none⟩ = some (.string ⟨#[]⟩) := Lib.cell_of_heap HR1.out 1
    have f0w1 : w1.frozen? ⟨w.heap.size + 1, 0, none⟩ = false := frozen_of_row _ _ _ _ _ HR1.out
    have f1w1 : w1.frozen? ⟨w.heap.size + 1, 1, none⟩ = false := frozen_of_row _ _ _ _ _ HR1.out
    have HW1 := Lib.hid (((Went.refl HE.out.sc).more hb1).start HB0.out)
    have HO1 := Lib.hid (Joins.ownsRow_le ho1 HB0.out.size)
    clear ho1 hb1
    go_wp2_with fail
    exact bodyPost_ret (results_tmp_row rfl _ _ (w.heap.size + 1) _ _ _ _ rfl (put2 HR1.out _ _) Tryz.underlying36 rfl (by kernel_rfl)) rfl ⟨mv, v1, rfl, own_set (own_set HO1.out HR1.out (by decide) 0 _) (heap_setCell_same _ _ 0 _ _ _ HR1.out) (by decide) 1 _, HW1.out.fault HR1.out (Nat.le_succ _) _ _⟩
  · simp only [cond_true]
    have HPA := Lib.hid (param_any h HE.out hm hs hf k qq t o ht (ho (by simpa using hk)))
    unfold Pt.pv at HPA ⊢
    clear h E ho
    go_enter Tryz.func27, Tryz.ntmps27
    go_wp2_with fail
    refine HPA.out.mono ?_
    rintro e w1 ⟨mv1, v1, rfl, ho1, hw1⟩
    have HO1 := Lib.hid (Joins.ownsRow_le ho1 HB0.out.size)
    clear ho1
    have hr1 := hw1.block HE.out.sc (by decide) (by decide) HR0.out
    have q01 : w1.cell? ⟨w.heap.size + 1, 0, none⟩ = some (.int .i64 0) := Lib.cell_of_heap hr1 0
    have q11 : w1.cell? ⟨w.heap.size + 1, 1, none⟩ = some (.string ⟨#[]⟩) := Lib.cell_of_heap hr1 1
    have f01 : w1.frozen? ⟨w.heap.size + 1, 0, none⟩ = false := frozen_of_row _ _ _ _ _ hr1
    have f11 : w1.frozen? ⟨w.heap.size + 1, 1, none⟩ = false := frozen_of_row _ _ _ _ _ hr1
    have HR1 := Lib.hid hr1
    have HW1 := Lib.hid (Went.start HB0.out hw1)
    clear hr1 hw1
    go_wp2_with fail
    exact bodyPost_ret (results_tmp_row rfl _ _ (w.heap.size + 1) _ _ _ _ rfl (put2 HR1.out _ _) Tryz.underlying36 rfl (by kernel_rfl)) rfl ⟨mv1, v1, rfl, own_set (own_set HO1.out HR1.out (by decide) 0 _) (heap_setCell_same _ _ 0 _ _ _ HR1.out) (by decide) 1 _, HW1.out.fault HR1.out (Nat.le_succ _) _ _⟩
theorem part_zero (k : Int) (q : Bool) (t o : ByteArray) (f : PL) (s : St) : (partG k q t o f s).k = 0 → (partG k q t o f s).t = tx [] := by
  unfold partG
  cases k == 2
  · intro _; rfl
  · unfold paramG ownG afterP
    simp only [cond_true]
    cases (bs o).isEmpty || (usable s t o && !hasC o 43)
    · cases hasC o 43 && !usable s t o
      · simp only [cond_false]
        cases hg : (ex f s []).k == 0
        · intro h; simp only [Bool.not_false, cond_true] at h; rw [h] at hg; cases hg
        · cases hasC o 61
          · cases hasC o 63
            · intro _; rfl
            · intro h; simp at h
          · intro _; rfl
      · intro _; rfl
    · intro _; rfl
/-- All operators are some. -/
def okOL : PL → Prop
  | .nil => True
  | .cons k _ _ o f r => (k = 2 → okO o) ∧ okOL f ∧ okOL r
theorem okOL.drop : ∀ {n : Nat} {l : PL}, okOL l → okOL (l.drop n)
  | 0, _, h => h
  | n + 1, .nil, _ => trivial
  | n + 1, .cons _ _ _ _ _ r, h => okOL.drop (n := n) h.2.2
theorem okT_cons {k : Int} {q : Bool} {t o : ByteArray} {f r : PL} (h : okT (.cons k q t o f r)) : t.size ≤ 100000 ∧ okT f ∧ okT r :=
  ⟨h t (by simp [texts]), fun x hx => h x (by simp [texts, hx]), fun x hx => h x (by simp [texts, hx])⟩
theorem okT.drop : ∀ {n : Nat} {l : PL}, okT l → okT (l.drop n)
  | 0, _, h => h
  | n + 1, .nil, h => h
  | n + 1, .cons _ _ _ _ _ r, h => okT.drop (n := n) (okT_cons h).2.2
/-- A row of the call's own has grown. -/
theorem Went.grown {w w1 w2 : World} {B q : Nat} {s' : St} {mv mv' av : Value} (h : Went w w1 B q s' mv mv' av) {base size n : Nat} {T : TypeId} {v : Value} {xs : List Value} (hr : w1.ownsRow base T size v n xs) (hT : T ≠ 9) (hT2 : T ≠ 58) (hb : w.heap.size ≤ base) (hg : w1.grownBy w2 v.ownBlock) : Went w w2 B q s' mv mv' av := by
  have key : ∀ k, k < w1.heap.size → v.ownBlock ≠ some k → w2.heap[k]? = w1.heap[k]? := fun k hk hne => hg.block k hk fun e => hne e.symm
  have hrow : ∀ g, v.ownBlock = some g → ∃ cur, w1.heap[g]? = some (.cells cur T (0, 0)) := fun g e => by
    rcases hr.2 with ⟨rfl, _⟩ | ⟨g', cap, cur, rfl, _, hgg, _⟩
    · cases e
    · cases e; exact ⟨cur, hgg⟩
  have hq : v.ownBlock ≠ some q := fun e => by
    obtain ⟨cur, hc⟩ := hrow q e
    rw [h.sc.cells] at hc; injection hc with hc; injection hc with _ h2; exact hT2 h2.symm
  refine ⟨⟨(key q h.sc.lt hq).trans h.sc.cells, h.sc.base, h.sc.vars.stay fun k e => key k (h.sc.vars.own k e).2 fun e2 => ?_, h.sc.args.stay fun k e => key k (h.sc.args.own k e).2 fun e2 => ?_⟩, ⟨hg.os.trans h.kp.os, hg.tape.trans h.kp.tape, hg.output.trans h.kp.output, Nat.le_trans h.kp.size hg.size, fun k hk h1 h2 h3 => (key k (Nat.lt_of_lt_of_le hk h.kp.size) fun e => ?_).trans (h.kp.block k hk h1 h2 h3)⟩, h.fresh⟩
  · obtain ⟨cur, hc⟩ := hrow k e2; exact h.sc.vars.neScope hc e
  · obtain ⟨cur, hc⟩ := hrow k e2; exact h.sc.args.neType hT hc e
  · have := (hr.lt k e).1; omega
/-- What a word's parts are, wherever they may be read. -/
def Got5 (W0 : World) (a : Option Addr) (l : PL) (R : World → Prop) : Prop := ∀ wr, R wr → Below W0.heap.size W0 wr → ∀ (i : Nat) (k : Int) (q : Bool) (t o : ByteArray) (f r : PL), l.drop i = .cons k q t o f r →
  ∃ b1 p1, a = some ⟨b1, p1, none⟩ ∧ wr.cell? ⟨b1, p1 + i * 5, none⟩ = some (.int .i64 k) ∧ wr.cell? ⟨b1, p1 + i * 5 + 1, none⟩ = some (.bool q) ∧ wr.cell? ⟨b1, p1 + i * 5 + 2, none⟩ = some (.string t) ∧ wr.cell? ⟨b1, p1 + i * 5 + 3, none⟩ = some (.string o) ∧ ∃ a1 ca1, wr.cell? ⟨b1, p1 + i * 5 + 4, none⟩ = some (.slice a1 f.len ca1) ∧ Lies W0 a1 ca1 f
def PWR (W0 : World) (B q : Nat) (z : St) (av : Value) (f : PL) (a : Option Addr) (c : Nat) (R : World → Prop) : Prop := ∀ (w : World) (m : Nat) (s : St) (mv : Value), R w → Env W0 w B q z m s mv av → m + f.size ≤ 900000 → Calls Tryz.prog 10 #[.pointer (some ⟨q, 0, none⟩), .slice a f.len c] w (Ans w B q mv av (ex f s []))
theorem grown_block {w1 w2 : World} {base size n : Nat} {T : TypeId} {v : Value} {xs : List Value} (hr : w1.ownsRow base T size v n xs) (hg : w1.grownBy w2 v.ownBlock) {k : Nat} {cs : Array Value} {T2 : TypeId} (hk : w1.heap[k]? = some (.cells cs T2 (0, 0))) (hT : T2 ≠ T) : w2.heap[k]? = some (.cells cs T2 (0, 0)) :=
  (hg.block k (Array.getElem?_eq_some_iff.1 hk).1 fun e => Fld.ownsRow_ne hr hk hT e.symm).trans hk
set_option maxRecDepth 4000 in
set_option maxHeartbeats 4000000 in
theorem pieces_step (W0 : World) (B q : Nat) (z : St) (av : Value) (l : PL) (a : Option Addr) (c : Nat) (hle : l.len ≤ 140737488351232) (hs : l.size ≤ 1000) (hT : okT l) (hO : okOL l)
    (ih : ∀ (f : PL) (a : Option Addr) (c : Nat), f.size < l.size → Lies W0 a c f → okT f → okOL f → PW W0 B q z av f a c)
    (R : World → Prop) (hRs : ∀ {w w' : World} {s s' : St} {mv mv' : Value}, Sc w B q s mv av → Went w w' B q s' mv mv' av → R w → R w') (hget : Got5 W0 a l R) : PWR W0 B q z av l a c R := by
  intro w m s mv hR E hm
  have HE := Lib.hid E; have HGET := Lib.hid hget; have HRW := Lib.hid hR; have HT := Lib.hid hT; have HO := Lib.hid hO; have IH := Lib.hid ih
  have HB0 := Lib.hid (Fld.below_alloc w FB)
  have HR0 := Lib.hid (heap_alloc_new w FB)
  unfold FB at HR0
  clear hget hT hO ih E hR
  go_enter Tryz.func10, Tryz.ntmps10
  go_wp2_with fail
  go_loopw [6, 7, 14] (fun v b x wr => ∃ (i mi : Nat) (si : St) (acc : List Pc) (mvi : Value), i ≤ l.len ∧ x = .int .i64 i ∧ b = .int .i64 ((joinS acc).length : Nat) ∧ ex l s [] = ex (l.drop i) si acc ∧ wr.ownsRow w.heap.size 69 3 v acc.length (pcells acc) ∧ (joinS acc).length ≤ 65536 ∧ W acc (2 * l.size - 2 * (l.drop i).size) ∧ Went w wr B q si mv mvi av ∧ OKs z mi si ∧ mi + (l.drop i).size ≤ m + l.size ∧ wr.heap[w.heap.size]? = some (.cells #[.int .i64 0, .string ⟨#[]⟩] 36 (0, 0))) (fun _ _ x _ => l.len - (intOf x).toNat)
  case atStart => exact ⟨0, m, s, [], mv, Nat.zero_le _, rfl, rfl, rfl, World.ownsRow_nil _ _ _ _, by simp [joinS], W.nil.up (Nat.zero_le _), (Went.refl HE.out.sc).more HB0.out, HE.out.ok, Nat.le_refl _, HR0.out⟩
  case round =>
    obtain ⟨i, mi, si, acc, mvi, hi, rfl, rfl, hex, hown, hj, hwt, hwent, hok, hmi, hrow⟩ := hrel
    have HEX := Lib.hid hex; have HOWN := Lib.hid hown; have HWT := Lib.hid hwt; have HWENT := Lib.hid hwent; have HOK := Lib.hid hok
    have hds := PL.drop_size i l
    have HEr := Lib.hid (HE.out.went hwent hok (by omega))
    have HROW := Lib.hid hrow
    clear hex hown hwt hwent hok hrow
    by_cases hlt : i < l.len
    · obtain ⟨k, qq, t, o, f, r, hd⟩ := PL.drop_at hlt
      obtain ⟨b1, p1, rfl, r0, r1, r2, r3, a1, ca1, r4, hl1⟩ := HGET.out wr (hRs HE.out.sc HWENT.out HRW.out) HEr.out.b0 i k qq t o f r hd
      have hTd := HT.out.drop (n := i)
      have hOd := HO.out.drop (n := i)
      rw [hd] at hTd hOd hds
      have hex2 := HEX.out
      rw [hd] at hex2
      have hdn := PL.drop_succ hd
      have hsz : f.size + r.size + 1 ≤ l.size := by simp only [PL.size] at hds; omega
      have hdi : (l.drop i).size = f.size + r.size + 1 := by rw [hd]; simp only [PL.size]
      have hpm : mi + f.size ≤ 900000 := by rw [hdi] at hmi; omega
      have HPart := Lib.hid (part_any (IH.out f a1 ca1 (by omega) hl1 (okT_cons hTd).2.1 hOd.2.1) (HEr.out.more (Fld.below_alloc wr (.cells #[.int .i64 k, .bool qq, .string t, .string o, .slice a1 f.len ca1] 52))) hpm (by omega) (okT_cons hTd).2.1 k qq t o (okT_cons hTd).1 hOd.1)
      have hpok := part_ok k qq t o f si HOK.out (okT_cons hTd).1 (ex_ok f si [] mi HOK.out (okT_cons hTd).2.1)
      have hpj := part_join (HOK.out.small HE.out.sm) k qq t o f (okT_cons hTd).1
      have hpw := W.part k qq t o f si (W.ex f si [] 0 W.nil)
      have HEX2 := Lib.hid hex2; have HDN := Lib.hid hdn; have HPOK := Lib.hid hpok; have HPW := Lib.hid hpw; have HDI := Lib.hid hdi
      clear hex2 hdn hTd hOd hds hl1 hpok hpw hdi
      unfold Pt.pv at HPart
      obtain ⟨g, hg⟩ : ∃ g, g = partG k qq t o f si := ⟨_, rfl⟩
      rw [← hg] at HPart hpj
      have HG := Lib.hid hg
      clear hg
      go_wp2_with fail
      refine HPart.out.mono ?_
      rintro e w2 ⟨mv2, v2, rfl, ho2, hw2⟩
      have hBP := Fld.below_alloc wr (.cells #[.int .i64 k, .bool qq, .string t, .string o, .slice a1 f.len ca1] 52)
      have HSC1 := (HEr.out.more hBP).sc
      have HR2 := Lib.hid (hw2.block HSC1 (by decide) (by decide) (bel_block hBP HROW.out))
      have HA2 := Lib.hid (hw2.row HSC1 (by decide) (by decide) (HOWN.out.alloc (.cells #[.int .i64 k, .bool qq, .string t, .string o, .slice a1 f.len ca1] 52)))
      have HW2 := Lib.hid ((HWENT.out.more hBP).trans hw2)
      obtain ⟨a2, c2, hv2, hp2⟩ := Fld.pcs_own ho2 rfl rfl
      have hn2 : a2 = none → c2 = 0 := by
        obtain ⟨a3, c3, e3, e4⟩ := Fld.own_len ho2
        rw [hv2] at e3
        injection e3 with e5 e6 e7
        subst e5; subst e7; exact e4
      subst hv2
      have HP2 := Lib.hid hp2; have HN2 := Lib.hid hn2
      clear ho2 hw2 hp2 hn2 hBP HSC1 HPart
      have hz := part_zero k qq t o f si
      rw [← HG.out] at hz
      obtain ⟨L, S, k1, t1⟩ := g
      have HBa := Lib.hid (Fld.below_alloc w2 (.cells #[.int .i64 k1, .string t1] 36))
      have HRa := Lib.hid (bel_block HBa.out HR2.out)
      have HWa := Lib.hid (HW2.out.more HBa.out)
      simp only at hz hpj
      have q02 : (w2.alloc (.cells #[.int .i64 k1, .string t1] 36)).cell? ⟨w.heap.size, 0, none⟩ = some (.int .i64 0) := Lib.cell_of_heap HRa.out 0
      have q12 : (w2.alloc (.cells #[.int .i64 k1, .string t1] 36)).cell? ⟨w.heap.size, 1, none⟩ = some (.string ⟨#[]⟩) := Lib.cell_of_heap HRa.out 1
      have f02 : (w2.alloc (.cells #[.int .i64 k1, .string t1] 36)).frozen? ⟨w.heap.size, 0, none⟩ = false := frozen_of_row _ _ _ _ _ HRa.out
      have f12 : (w2.alloc (.cells #[.int .i64 k1, .string t1] 36)).frozen? ⟨w.heap.size, 1, none⟩ = false := frozen_of_row _ _ _ _ _ HRa.out
      by_cases hk : k1 = 0
      · subst hk
        obtain rfl : t1 = ⟨#[]⟩ := hz rfl
        have hbytes := Fld.bytes_wide a2 c2 L _ (HP2.out.below HBa.out) (by
          have h1 := HPW.out; rw [← HG.out] at h1; unfold W at h1; simp only at h1; omega)
        have HBY := Lib.hid hbytes
        clear hbytes hz
        go_wp2_with fail
        refine HBY.out.mono ?_
        rintro e w3 ⟨rfl, hb3⟩
        have HB3 := Lib.hid (HBa.out.trans (hb3.mono HBa.out.size))
        have HR3 := Lib.hid (bel_block hb3 HRa.out)
        have q03 : w3.cell? ⟨w.heap.size, 0, none⟩ = some (.int .i64 0) := Lib.cell_of_heap HR3.out 0
        have q13 : w3.cell? ⟨w.heap.size, 1, none⟩ = some (.string ⟨#[]⟩) := Lib.cell_of_heap HR3.out 1
        have f03 : w3.frozen? ⟨w.heap.size, 0, none⟩ = false := frozen_of_row _ _ _ _ _ HR3.out
        have f13 : w3.frozen? ⟨w.heap.size, 1, none⟩ = false := frozen_of_row _ _ _ _ _ HR3.out
        have HW3 := Lib.hid (HW2.out.more HB3.out)
        have HA3 := Lib.hid (Fld.ownsRow_below HA2.out HB3.out)
        have HP3 := Lib.hid (HP2.out.below HB3.out)
        clear hb3
        have hgL : (partG k qq t o f si).L = L := by rw [← HG.out]
        have hgS : (partG k qq t o f si).S = S := by rw [← HG.out]
        have hgk : (partG k qq t o f si).k = 0 := by rw [← HG.out]
        have hex3 : ex l s [] = bif decide (65536 < (joinS (acc ++ L)).length) then ⟨[], S, 2, tx []⟩ else ex r S (acc ++ L) := by
          rw [HEX2.out, ex_cons, hgk, hgL, hgS]; rfl
        rw [join_app, List.length_append] at hex3
        by_cases hbig : 65536 < (joinS acc).length + (joinS L).length
        · rw [decide_eq_true hbig] at hex3
          have HEX3 := Lib.hid hex3
          clear hex3
          go_wp2_with fail
          rw [HEX3.out]
          exact bodyPost_ret (results_tmp_row rfl _ _ w.heap.size _ _ _ _ rfl (put2 HR3.out _ _) Tryz.underlying36 rfl (by kernel_rfl)) rfl ⟨mv2, _, rfl, World.ownsRow_nil _ _ _ _, HW3.out.fault HR3.out (Nat.le_refl _) _ _⟩
        · rw [decide_eq_false hbig] at hex3
          have HEX3 := Lib.hid hex3
          clear hex3
          have hwa := HWT.out
          have hal := Fld.len_le acc
          have hLl := Fld.len_le L
          have hLw := HPW.out
          rw [← HG.out] at hLw
          unfold W at hwa hLw
          simp only at hLw
          have hna : acc.length + L.length ≤ 1000000 := by omega
          clear hwa hal hLl hLw
          go_wp2_with (at_builtin; refine Fld.wpList_append_pcs rfl _ _ rfl w.heap.size _ _ _ rfl HA3.out a2 c2 L rfl HP3.out HN2.out ?c1 ?c2 ?c3 ?_)
          case c1 => unfold maxLen; omega
          case c2 => omega
          case c3 => exact HW3.out.kp.size
          intro v4 w4 hown4 hg4
          have HR4 := Lib.hid (grown_block HA3.out hg4 HR3.out (by decide))
          have HW4 := Lib.hid (HW3.out.grown HA3.out (by decide) (by decide) (Nat.le_refl _) hg4)
          have HO4 := Lib.hid hown4
          clear hown4 hg4
          go_wp2_with fail
          go_roundw
          case rel =>
            refine ⟨i + 1, mi + f.size + 1, S, acc ++ L, mv2, by omega, by go_num, ?_, ?_, ?_, ?_, ?_, HW4.out, ?_, ?_, HR4.out⟩
            · rw [join_app, List.length_append]; go_num
            · rw [HEX3.out, HDN.out]; rfl
            · rw [List.length_append, Fld.pcells_app]; exact HO4.out
            · rw [join_app, List.length_append]; omega
            · have h1 := HWT.out.app (by have h := HPW.out; rw [← HG.out] at h; exact h : W L _)
              exact h1.up (by rw [HDN.out, HDI.out]; omega)
            · have h := HPOK.out; rw [← HG.out] at h; exact h
            · rw [HDN.out]; rw [HDI.out] at hmi; omega
          case measure => simp [intOf]; omega
      · have HK := Lib.hid hk
        have hexf : ex l s [] = ⟨[], S, k1, t1⟩ := by
          have h0 : ((partG k qq t o f si).k == 0) = false := by rw [← HG.out]; simpa using hk
          rw [HEX2.out, ex_cons, h0, ← HG.out]; rfl
        have HEXF := Lib.hid hexf
        clear hexf hz
        go_wp2_with fail
        go_region
        go_wp2_with fail
        rw [HEXF.out]
        exact bodyPost_ret (results_tmp_row rfl _ _ w.heap.size _ _ _ _ rfl (put2d HRa.out _ _) Tryz.underlying36 rfl (by kernel_rfl)) rfl ⟨mv2, _, rfl, World.ownsRow_nil _ _ _ _, (HWa.out.fault HRa.out (Nat.le_refl _) _ _).drew⟩
    · obtain rfl : i = l.len := by omega
      have hfin : ex l s [] = ⟨acc, si, 0, tx []⟩ := by
        have := HEX.out
        rw [PL.drop_end (Nat.le_refl _)] at this
        exact this
      have HFIN := Lib.hid hfin
      have q0 : wr.cell? ⟨w.heap.size, 0, none⟩ = some (.int .i64 0) := Lib.cell_of_heap HROW.out 0
      have q1 : wr.cell? ⟨w.heap.size, 1, none⟩ = some (.string ⟨#[]⟩) := Lib.cell_of_heap HROW.out 1
      have f0 : wr.frozen? ⟨w.heap.size, 0, none⟩ = false := frozen_of_row _ _ _ _ _ HROW.out
      have f1 : wr.frozen? ⟨w.heap.size, 1, none⟩ = false := frozen_of_row _ _ _ _ _ HROW.out
      clear hfin
      go_wp2_with fail
      rw [HFIN.out]
      exact bodyPost_ret (results_tmp_row rfl _ _ w.heap.size _ _ _ _ rfl (put2 HROW.out _ _) Tryz.underlying36 rfl (by kernel_rfl)) rfl ⟨mvi, _, rfl, own_set (own_set HOWN.out HROW.out (by decide) 0 _) (heap_setCell_same _ _ 0 _ _ _ HROW.out) (by decide) 1 _, HWENT.out.fault HROW.out (Nat.le_refl _) _ _⟩
theorem pieces_all (W0 : World) (B q : Nat) (z : St) (av : Value) (n : Nat) : ∀ (l : PL) (a : Option Addr) (c : Nat), l.size < n → Lies W0 a c l → l.size ≤ 1000 → okT l → okOL l → PW W0 B q z av l a c := by
  induction n with
  | zero => intro _ _ _ h; omega
  | succ n ih =>
    intro l a c hn hL hs hT hO
    intro w m s mv E hm
    refine pieces_step W0 B q z av l a c hL.le hs hT hO (fun f a c hf hLf hTf hOf => ih f a c (by omega) hLf (by omega) hTf hOf) (fun _ => True) (fun _ _ _ => trivial) ?_ w m s mv trivial E hm
    intro wr _ hb i k q t o f r hd
    obtain ⟨b1, p1, e, hb1, c10, c11, c12, c13, _, _, a1, ca1, c14, hl1⟩ := hL.get hd
    exact ⟨b1, p1, e, (hb.cell (p := ⟨b1, _, none⟩) hb1).trans c10, (hb.cell (p := ⟨b1, _, none⟩) hb1).trans c11, (hb.cell (p := ⟨b1, _, none⟩) hb1).trans c12, (hb.cell (p := ⟨b1, _, none⟩) hb1).trans c13, a1, ca1, (hb.cell (p := ⟨b1, _, none⟩) hb1).trans c14, hl1⟩
theorem pieces_any {W0 : World} {l : PL} {a : Option Addr} {c : Nat} (hL : Lies W0 a c l) (hs : l.size ≤ 1000) (hT : okT l) (hO : okOL l) (B q : Nat) (z : St) (av : Value) : PW W0 B q z av l a c := pieces_all W0 B q z av (l.size + 1) l a c (by omega) hL hs hT hO
/-- A word whose parts have no words of their own, in a row of its own. -/
theorem pieces_flat {W0 : World} {l : PL} {b : Nat} {cs : Array Value} {c : Nat} (hle : l.len ≤ 140737488351232) (hs : l.size ≤ 1000) (hT : okT l) (hO : okOL l) (B q : Nat) (z : St) (av : Value)
    (hcs : ∀ (i : Nat) (k : Int) (q : Bool) (t o : ByteArray) (f r : PL), l.drop i = .cons k q t o f r → f = .nil ∧ cs[i * 5]? = some (.int .i64 k) ∧ cs[i * 5 + 1]? = some (.bool q) ∧ cs[i * 5 + 2]? = some (.string t) ∧ cs[i * 5 + 3]? = some (.string o) ∧ cs[i * 5 + 4]? = some (.slice none 0 0)) :
    PWR W0 B q z av l (some ⟨b, 0, none⟩) c (fun w => w.heap[b]? = some (.cells cs 52 (0, 0))) := by
  refine pieces_step W0 B q z av l _ c hle hs hT hO (fun f a c hf hLf hTf hOf => pieces_all W0 B q z av (f.size + 1) f a c (by omega) hLf (by omega) hTf hOf) _ (fun hsc hw hr => hw.block hsc (by decide) (by decide) hr) ?_
  intro wr hr _ i k q t o f r hd
  obtain ⟨rfl, h0, h1, h2, h3, h4⟩ := hcs i k q t o f r hd
  refine ⟨b, 0, rfl, ?_, ?_, ?_, ?_, none, 0, ?_, ⟨Nat.le_refl _, Nat.zero_le _, .inl rfl⟩⟩
  · rw [cell_of_row _ _ _ _ _ _ hr, Nat.zero_add]; exact h0
  · rw [cell_of_row _ _ _ _ _ _ hr, Nat.zero_add]; exact h1
  · rw [cell_of_row _ _ _ _ _ _ hr, Nat.zero_add]; exact h2
  · rw [cell_of_row _ _ _ _ _ _ hr, Nat.zero_add]; exact h3
  · rw [cell_of_row _ _ _ _ _ _ hr, Nat.zero_add]; exact h4
end Ex
end Go.Proofs.YtoneabcbeikkhaaGreatDoor
