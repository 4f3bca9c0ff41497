/- Another process: add, New, Fork. -/
import Derived.Test.YtlebglnlkkoakaaKnE
import Derived.Test.YtlebglnlkkoakaaRegN
namespace Go.Proofs.Ytlebglnlkkoakaa
open Go.RowKit Go.Maps
namespace Kn
/-- A table with another live process. -/
def addT (t : T) (par : Int) (x : Nat) : T := ⟨t.l ++ [⟨t.last + 1, par, 0, true, x, 0, 0⟩], t.last + 1, t.ends⟩
theorem find_snoc {t : T} (O : Ok t) {q : P} {last : Int} {e : List (Int × Int)} (hq : q.pid = t.last + 1) (x : Int) : find ⟨t.l ++ [q], last, e⟩ x = if x = t.last + 1 then some q else find t x := by
  by_cases hx : x = t.last + 1
  · rw [if_pos hx, hx, ← hq]
    exact find_new fun p hp => by rw [hq]; have := (O.pos p hp).2; omega
  · rw [if_neg hx]
    unfold find
    simp only
    rw [List.find?_append]
    cases t.l.find? fun p => p.pid == x with
    | some p => rfl
    | none =>
      simp only [Option.none_or]
      rw [List.find?_cons_of_neg (by simp [hq]; omega)]
      rfl
theorem litInj {a b : Int} (h : a ≠ b) : (Lit.int .i64 a) ≠ .int .i64 b := fun e => h (by cases e; rfl)
theorem keyLit {x : Int} (h : I64 x) : WideAt.IsKeyLit (.int .i64 x) := keyed.key (keyOf_int_mk Try.underlying3 h.wf)
theorem tight {w : World} {b n : Nat} {D : DataW Nat} (h : w.ownsMap Try.prog 3 pe b n D) : w.ownsMap Try.prog 3 pe b (Maps.size D) D := by
  obtain ⟨es, clock, hb, F, _, rfl⟩ := h
  exact ⟨es, clock, hb, F, by simp [Maps.size, length_sorted], rfl⟩
theorem Tb.added {w w2 : World} {B nb : Nat} {h : H} {t : T} (T : Tb w B h t) (O : Ok t) (par : Int) (x : Nat) (h0 : 0 ≤ t.last) (h1 : t.last < 1000000) (hB : B ≤ w.heap.size)
    (F : Fr w w2 fun k => k = h.tb ∨ k = h.mb) (hc : w2.heap[h.tb]? = some (.cells #[.map (some h.mb), .int .i64 (t.last + 1), h.ev] 67 (0, 0))) {n : Nat}
    (hm : w2.ownsMap Try.prog 3 pe h.mb n (h.D.put (.int .i64 (t.last + 1)) (enc (some nb)))) (hnb : w.heap.size ≤ nb) (hp : w2.heap[nb]? = some (.cells (pcells ⟨t.last + 1, par, 0, true, x, 0, 0⟩) 82 (0, 0))) :
    Chg w B h t (addT t par x) w2 := by
  have hn : find t (t.last + 1) = none := List.find?_eq_none.2 fun p hp e => by
    have := (O.pos p hp).2; rw [beq_iff_eq] at e; omega
  have hsz : Maps.size (h.D.put (.int .i64 (t.last + 1)) (enc (some nb))) = (addT t par x).l.length := by
    rw [Maps.size_put (T.map.tidy keyed), T.has, hn, T.size]; simp [addT]
  have old : ∀ p ∈ t.l, p.pid ≠ t.last + 1 := fun p hp => by have := (O.pos p hp).2; omega
  have lo : ∀ k, Mine h t k → k < w.heap.size := fun k hk => (T.lt k hk).2
  have st : ∀ k, Mine h t k → k ≠ h.tb → k ≠ h.mb → w2.heap[k]? = w.heap[k]? := fun k hk e1 e2 => F.block k (lo k hk) fun e => e.elim e1 e2
  have mem : ∀ q ∈ (addT t par x).l, q ∈ t.l ∨ q = ⟨t.last + 1, par, 0, true, x, 0, 0⟩ := fun q hq => by
    rcases List.mem_append.1 hq with hq | hq
    · exact .inl hq
    · exact .inr (List.mem_singleton.1 hq)
  have ad1 : ∀ p ∈ t.l, (if p.pid = t.last + 1 then nb else h.ad p.pid) = h.ad p.pid := fun p hp => if_neg (old p hp)
  refine ⟨{ h with D := h.D.put (.int .i64 (t.last + 1)) (enc (some nb)), ad := fun y => if y = t.last + 1 then nb else h.ad y }, rfl, ⟨hc, ?_, ?_, ?_, hsz, ?_, ?_, ?_, T.tb0, T.mb0, ?_⟩, ⟨⟨F.os, F.tape, F.output, F.size, fun k hk hne => F.block k hk fun e => hne (e.elim .inl fun e => .inr (.inl e))⟩, ?_, fun x hx => if_neg (by omega), by show t.last ≤ t.last + 1; omega⟩⟩
  · have := tight hm
    rwa [hsz] at this
  · intro y
    rw [show find (addT t par x) y = _ from find_snoc O (q := ⟨t.last + 1, par, 0, true, x, 0, 0⟩) rfl y]
    by_cases hy : y = t.last + 1
    · subst hy
      simp only [if_true]
      exact Maps.atKey_put_same T.map.isMap (keyLit (by unfold I64; omega)) _ _
    · simp only [if_neg hy]
      rw [Maps.atKey_put_other (litInj hy)]
      exact T.keys y
  · intro y
    rw [show find (addT t par x) y = _ from find_snoc O (q := ⟨t.last + 1, par, 0, true, x, 0, 0⟩) rfl y]
    by_cases hy : y = t.last + 1
    · subst hy
      simp only [if_true]
      exact Maps.has_put_same T.map.isMap (keyLit (by unfold I64; omega)) _
    · simp only [if_neg hy]
      rw [Maps.has_put_other (litInj hy)]
      exact T.has y
  · intro q hq
    rcases mem q hq with hq | rfl
    · simp only [ad1 q hq]
      have N := T.ad_ne hq
      rw [st _ (.inr (.inr (.inr ⟨q, hq, rfl⟩))) N.1 N.2.1]; exact T.proc q hq
    · simp only [if_true]; exact hp
  · intro q hq r hr e
    simp only at e
    rcases mem q hq with hq | rfl <;> rcases mem r hr with hr | rfl
    · rw [ad1 q hq, ad1 r hr] at e; exact T.apart q hq r hr e
    · rw [ad1 q hq, if_pos rfl] at e
      have := lo _ (.inr (.inr (.inr ⟨q, hq, e.symm⟩))); omega
    · rw [ad1 r hr, if_pos rfl] at e
      have := lo _ (.inr (.inr (.inr ⟨r, hr, e⟩))); omega
    · rfl
  · obtain ⟨e1, e2⟩ := T.ends
    refine ⟨e1, ?_⟩
    rcases e2 with e2 | ⟨g, cap, cur, hv, hg, hh, r⟩
    · exact .inl e2
    · have hgo : h.ev.ownBlock = some g := by rw [hv]; rfl
      have N := T.tb_ne
      rw [hgo] at N
      exact .inr ⟨g, cap, cur, hv, hg, (st g (.inr (.inr (.inl hgo))) (fun e => N.2.1 (by rw [e])) (fun e => N.2.2 (by rw [e]))).trans hh, r⟩
  · intro q hq
    rcases mem q hq with hq | rfl
    · simp only [ad1 q hq]; exact T.ad0 q hq
    · simp only [if_true]; omega
  · rintro k (e | e | e | ⟨q, hq, e⟩)
    · exact .inl (.inl e)
    · exact .inl (.inr (.inl e))
    · exact .inl (.inr (.inr (.inl e)))
    · simp only at e
      rcases mem q hq with hq | rfl
      · rw [ad1 q hq] at e; exact .inl (.inr (.inr (.inr ⟨q, hq, e⟩)))
      · rw [if_pos rfl] at e; right; omega
set_option maxRecDepth 8000 in
set_option maxHeartbeats 800000 in
theorem add_any {w : World} {B : Nat} {h : H} {t : T} (T : Tb w B h t) (O : Ok t) (par : Int) (x : Nat) (h0 : 0 ≤ t.last) (h1 : t.last < 1000000) (hx : x < 4294967296) (hl : t.l.length ≤ 100) (hB : B ≤ w.heap.size) :
    Calls Try.prog 36 #[.pointer (some ⟨h.tb, 0, none⟩), .int .i64 par, .int .u32 x] w fun e w' => e = .returned (.int .i64 (t.last + 1)) ∧ Chg w B h t (addT t par x) w' := by
  have c0 := T.c0
  have c1 := T.c1
  have f1 : w.frozen? ⟨h.tb, 1, none⟩ = false := frozen_of_row _ _ _ _ _ T.cells
  have HT := Lib.hid T
  clear T
  go_enter Try.func36, Try.ntmps36
  go_wp2_with fail
  refine RN.begins (fun w' => w'.cell? ⟨h.tb, 0, none⟩ = some (.map (some h.mb)) ∧ w'.cell? ⟨h.tb, 1, none⟩ = some (.int .i64 (t.last + 1))) [] (by kernel_rfl) ?_
  have hS : (fun w' : World => w'.cell? ⟨h.tb, 0, none⟩ = some (.map (some h.mb)) ∧ w'.cell? ⟨h.tb, 1, none⟩ = some (.int .i64 (t.last + 1))) (w.setCell ⟨h.tb, 1, none⟩ (.int .i64 (t.last + 1))).drew := by
    have e := heap_setCell_same w h.tb 1 _ _ (.int .i64 (t.last + 1)) HT.out.cells
    exact ⟨Lib.cell_of_heap (w := (w.setCell ⟨h.tb, 1, none⟩ (.int .i64 (t.last + 1))).drew) e 0, Lib.cell_of_heap (w := (w.setCell ⟨h.tb, 1, none⟩ (.int .i64 (t.last + 1))).drew) e 1⟩
  refine RN.take (i := 0) (v := ?_) rfl (by decide) (by kernel_rfl) (by kernel_rfl) (by kernel_rfl) (by kernel_rfl) (by kernel_rfl) (by first | exact fun _ _ _ h => h | exact fun _ _ _ h => (by cases h.1) | exact fun _ _ _ h => door_put (by decide) h) (.inl ⟨by rfl, ?_⟩) hS ?_
  rotate_left 1
  · (intro wq hq; have s0 := hq.1; have s1 := hq.2; go_simp; try with_reducible rfl)
  refine RN.take (i := 1) (v := ?_) rfl (by decide) (by kernel_rfl) (by kernel_rfl) (by kernel_rfl) (by kernel_rfl) (by kernel_rfl) (by first | exact fun _ _ _ h => h | exact fun _ _ _ h => (by cases h.1) | exact fun _ _ _ h => door_put (by decide) h) (.inl ⟨by rfl, ?_⟩) hS ?_
  rotate_left 1
  · (intro wq hq; have s0 := hq.1; have s1 := hq.2; go_simp; try with_reducible rfl)
  refine RN.take (i := 2) (v := ?_) rfl (by decide) (by kernel_rfl) (by kernel_rfl) (by kernel_rfl) (by kernel_rfl) (by kernel_rfl) (by first | exact fun _ _ _ h => h | exact fun _ _ _ h => (by cases h.1) | exact fun _ _ _ h => door_put (by decide) h) (.inl ⟨by rfl, ?_⟩) hS ?_
  rotate_left 1
  · (intro wq hq; have s0 := hq.1; have s1 := hq.2; go_simp; try with_reducible rfl)
  refine RN.take (i := 3) (v := ?_) rfl (by decide) (by kernel_rfl) (by kernel_rfl) (by kernel_rfl) (by kernel_rfl) (by kernel_rfl) (by first | exact fun _ _ _ h => h | exact fun _ _ _ h => (by cases h.1) | exact fun _ _ _ h => door_put (by decide) h) (.inl ⟨by rfl, ?_⟩) hS ?_
  rotate_left 1
  · (intro wq hq; have s0 := hq.1; have s1 := hq.2; go_simp; try with_reducible rfl)
  refine RN.take (i := 4) (v := ?_) rfl (by decide) (by kernel_rfl) (by kernel_rfl) (by kernel_rfl) (by kernel_rfl) (by kernel_rfl) (by first | exact fun _ _ _ h => h | exact fun _ _ _ h => (by cases h.1) | exact fun _ _ _ h => door_put (by decide) h) (.inl ⟨by rfl, ?_⟩) hS ?_
  rotate_left 1
  · (intro wq hq; have s0 := hq.1; have s1 := hq.2; go_simp; try with_reducible rfl)
  refine RN.take (i := 5) (v := ?_) rfl (by decide) (by kernel_rfl) (by kernel_rfl) (by kernel_rfl) (by kernel_rfl) (by kernel_rfl) (by first | exact fun _ _ _ h => h | exact fun _ _ _ h => (by cases h.1) | exact fun _ _ _ h => door_put (by decide) h) (.inl ⟨by rfl, ?_⟩) hS ?_
  rotate_left 1
  · (intro wq hq; have s0 := hq.1; have s1 := hq.2; go_simp; try with_reducible rfl)
  refine RN.take (i := 6) (v := ?_) rfl (by decide) (by kernel_rfl) (by kernel_rfl) (by kernel_rfl) (by kernel_rfl) (by kernel_rfl) (by first | exact fun _ _ _ h => h | exact fun _ _ _ h => (by cases h.1) | exact fun _ _ _ h => door_put (by decide) h) (.inl ⟨by rfl, ?_⟩) hS ?_
  rotate_left 1
  · (intro wq hq; have s0 := hq.1; have s1 := hq.2; go_simp; try with_reducible rfl)
  refine RN.take (i := 7) (v := ?_) rfl (by decide) (by kernel_rfl) (by kernel_rfl) (by kernel_rfl) (by kernel_rfl) (by kernel_rfl) (by first | exact fun _ _ _ h => h | exact fun _ _ _ h => (by cases h.1) | exact fun _ _ _ h => door_put (by decide) h) (.inl ⟨by rfl, ?_⟩) hS ?_
  rotate_left 1
  · (intro wq hq; have s0 := hq.1; have s1 := hq.2; go_simp; try with_reducible rfl)
  refine RN.take (i := 8) (v := ?_) rfl (by decide) (by kernel_rfl) (by kernel_rfl) (by kernel_rfl) (by kernel_rfl) (by kernel_rfl) (by first | exact fun _ _ _ h => h | exact fun _ _ _ h => (by cases h.1) | exact fun _ _ _ h => door_put (by decide) h) (.inl ⟨by rfl, ?_⟩) hS ?_
  rotate_left 1
  · (intro wq hq; have s0 := hq.1; have s1 := hq.2; go_simp; try with_reducible rfl)
  refine RN.take (i := 9) (v := ?_) rfl (by decide) (by kernel_rfl) (by kernel_rfl) (by kernel_rfl) (by kernel_rfl) (by kernel_rfl) (by first | exact fun _ _ _ h => h | exact fun _ _ _ h => (by cases h.1) | exact fun _ _ _ h => door_put (by decide) h) (.inl ⟨by rfl, ?_⟩) hS ?_
  rotate_left 1
  · (intro wq hq; have s0 := hq.1; have s1 := hq.2; go_simp; try with_reducible rfl)
  refine RN.take (i := 10) (v := ?_) rfl (by decide) (by kernel_rfl) (by kernel_rfl) (by kernel_rfl) (by kernel_rfl) (by kernel_rfl) (by first | exact fun _ _ _ h => h | exact fun _ _ _ h => (by cases h.1) | exact fun _ _ _ h => door_put (by decide) h) (.inl ⟨by rfl, ?_⟩) hS ?_
  rotate_left 1
  · (intro wq hq; have s0 := hq.1; have s1 := hq.2; go_simp; try with_reducible rfl)
  refine RN.all (rs := [11]) (by kernel_rfl) (by simp) ?_
  refine RN.All.cons rfl (fun K hK => ?_) RN.All.nil
  go_simp
  have hd := heap_setCell_same w h.tb 1 _ _ (.int .i64 (t.last + 1)) HT.out.cells
  have hF0 : Fr w (w.setCell ⟨h.tb, 1, none⟩ (.int .i64 (t.last + 1))) (· = h.tb) := Fr.set _ _ _ _
  have hm0 : (w.setCell ⟨h.tb, 1, none⟩ (.int .i64 (t.last + 1))).ownsMap Try.prog 3 pe h.mb t.l.length h.D := HT.out.map.setCell HT.out.tb_ne.1 _
  have hs0 : (w.setCell ⟨h.tb, 1, none⟩ (.int .i64 (t.last + 1))).heap.size = w.heap.size := by simp
  have hlt := (HT.out.lt _ (.inl rfl)).2
  clear hS
  generalize w.setCell ⟨h.tb, 1, none⟩ (.int .i64 (t.last + 1)) = W0 at hd hF0 hm0 hs0
  rw [← hs0] at hlt
  have hd1 : (W0.alloc (.cells #[.int .i64 par, .bool true, .int .i64 0, .int .u32 x, .int .u32 0, .int .u32 0] 82)).heap[h.tb]? = _ := (Below.heap_alloc _ _ _ hlt).trans hd
  have hn1 := heap_alloc_new W0 (.cells #[.int .i64 par, .bool true, .int .i64 0, .int .u32 x, .int .u32 0, .int .u32 0] 82)
  have hF1 : Fr w (W0.alloc (.cells #[.int .i64 par, .bool true, .int .i64 0, .int .u32 x, .int .u32 0, .int .u32 0] 82)).drew (· = h.tb) := hF0.and ((Fr.ofBelow ((Below.refl _ _).alloc (Nat.le_refl _) _) _).and ⟨rfl, rfl, rfl, Nat.le_refl _, fun _ _ _ => rfl⟩)
  have hm1 := (hm0.alloc (.cells #[.int .i64 par, .bool true, .int .i64 0, .int .u32 x, .int .u32 0, .int .u32 0] 82)).drew
  have hs1 : (W0.alloc (.cells #[.int .i64 par, .bool true, .int .i64 0, .int .u32 x, .int .u32 0, .int .u32 0] 82)).drew.heap.size = W0.heap.size + 1 := by simp [World.drew, World.size_alloc]
  have hd2 : (W0.alloc (.cells #[.int .i64 par, .bool true, .int .i64 0, .int .u32 x, .int .u32 0, .int .u32 0] 82)).drew.heap[h.tb]? = _ := hd1
  have hn2 : (W0.alloc (.cells #[.int .i64 par, .bool true, .int .i64 0, .int .u32 x, .int .u32 0, .int .u32 0] 82)).drew.heap[W0.heap.size]? = _ := hn1
  clear hd1 hn1
  generalize (W0.alloc (.cells #[.int .i64 par, .bool true, .int .i64 0, .int .u32 x, .int .u32 0, .int .u32 0] 82)).drew = W1 at hd2 hn2 hF1 hm1 hs1 ⊢
  refine hK _ _ (fun _ => ⟨Lib.cell_of_heap hd2 0, Lib.cell_of_heap hd2 1⟩) ?_
  clear hK K
  refine RN.all (rs := [12]) (by kernel_rfl) (by simp) ?_
  refine RN.All.cons rfl (fun K hK => ?_) RN.All.nil
  have hk : keyOf Try.prog 3 (.int .i64 (t.last + 1)) = some (.int .i64 (t.last + 1)) := keyOf_int_mk Try.underlying3 (I64.wf (by unfold I64; omega))
  have hv : pe (.pointer (some ⟨w.heap.size, 0, none⟩)) = some (enc (some w.heap.size), []) := pe_ptr (some w.heap.size)
  have hmax : t.l.length < maxLen := by unfold maxLen; omega
  have hupd := hm1.update keyed Try.underlying65 hmax hk hv
  clear hk hv hmax
  obtain ⟨w2, hrun, hown2, hgrow2⟩ := hupd
  rw [hs0] at hn2 hs1
  have HD := Lib.hid hd2; have HN := Lib.hid hn2; have HF := Lib.hid hF1
  clear hd2 hn2 hF1 hd hF0 hm0 hm1
  have hltw : h.tb < W1.heap.size := by rw [hs1]; omega
  have hd3 := (hgrow2.block h.tb hltw (fun e => HT.out.tb_ne.1 (Option.some.inj e).symm)).trans HD.out
  have hn3 := (hgrow2.block w.heap.size (by rw [hs1]; omega) (fun e => by have := (HT.out.lt _ (.inr (.inl rfl))).2; have := Option.some.inj e; omega)).trans HN.out
  have hF2 : Fr w w2 fun k => k = h.tb ∨ k = h.mb :=
    (⟨HF.out.os, HF.out.tape, HF.out.output, HF.out.size, fun k hk hn => HF.out.block k hk fun e => hn (.inl e)⟩ : Fr w W1 _).and ⟨hgrow2.os, hgrow2.tape, hgrow2.output, hgrow2.size, fun k hk hn => hgrow2.block k hk fun e => hn (.inr (Option.some.inj e))⟩
  have HC := Lib.hid (HT.out.added O par x h0 h1 hB hF2 hd3 hown2 (Nat.le_refl _) hn3)
  have q1 : w2.cell? ⟨h.tb, 1, none⟩ = some (.int .i64 (t.last + 1)) := Lib.cell_of_heap hd3 1
  have q0 : w2.cell? ⟨h.tb, 0, none⟩ = some (.map (some h.mb)) := Lib.cell_of_heap hd3 0
  clear hd3 hn3 hF2 hown2 hgrow2 HD HN HF
  go_simp
  refine hK _ _ (fun _ => ⟨q0, q1⟩) ?_
  clear hK K
  refine RN.done (by kernel_rfl) ?_ _
  go_wp2_with fail
  go_ret
  exact ⟨rfl, HC.out⟩
end Kn
end Go.Proofs.Ytlebglnlkkoakaa
