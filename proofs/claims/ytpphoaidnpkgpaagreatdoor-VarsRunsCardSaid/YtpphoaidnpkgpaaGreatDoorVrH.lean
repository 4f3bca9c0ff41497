/- Shift. -/
import Derived.Test.YtpphoaidnpkgpaaGreatDoorVrE
import Derived.Lib.SliceRun
namespace Go.Proofs.YtpphoaidnpkgpaaGreatDoor
open Go.RowKit Go.Maps Cls
namespace Vr

theorem setCells_row (g : Nat) (T : TypeId) : ∀ (vs : List Value) (o : Nat) (w : World) (cur : Array Value), w.heap[g]? = some (.cells cur T (0, 0)) →
    ∃ cur', (w.setCells g o vs).heap[g]? = some (.cells cur' T (0, 0)) ∧ cur'.size = cur.size ∧ (∀ i, o + vs.length ≤ i → cur'[i]? = cur[i]?) ∧ (∀ k, k ≠ g → (w.setCells g o vs).heap[k]? = w.heap[k]?) ∧
      (w.setCells g o vs).os = w.os ∧ (w.setCells g o vs).tape = w.tape ∧ (w.setCells g o vs).output = w.output ∧ (w.setCells g o vs).heap.size = w.heap.size
  | [], o, w, cur, h => ⟨cur, h, rfl, fun _ _ => rfl, fun _ _ => rfl, rfl, rfl, rfl, rfl⟩
  | v :: r, o, w, cur, h => by
    have h1 := heap_setCell_same w g o _ _ v h
    obtain ⟨cur', a1, a2, a3, a4, a5, a6, a7, a8⟩ := setCells_row g T r (o + 1) (w.setCell ⟨g, o, none⟩ v) _ h1
    refine ⟨cur', a1, ?_, fun i hi => ?_, fun k hk => ?_, a5, a6, a7, ?_⟩
    · rw [a2]; simp
    · rw [a3 i (by simp at hi; omega)]
      rw [Array.getElem?_setIfInBounds_ne (by simp at hi; omega)]
    · exact (a4 k hk).trans (heap_setCell_other _ _ _ _ hk)
    · exact a8.trans (by simp)
theorem RowAt.drop {w : World} {B : Nat} {g off cap n : Nat} {cur : Array Value} {xs : List ByteArray} (hB : B ≤ g) (h1 : xs.length ≤ cap) (h2 : cap ≤ maxLen) (h3 : off + cap ≤ cur.size) (hh : w.heap[g]? = some (.cells cur 9 (0, 0))) (hn : n ≤ xs.length)
    (h4 : ∀ j x, xs[j]? = some x → n ≤ j → cur[off + j]? = some (.string x)) : RowAt w B (.slice (some ⟨g, off + n, none⟩) (xs.length - n) (cap - n)) (xs.drop n) := by
  refine .inr ⟨g, off + n, cap - n, cur, by rw [List.length_drop], hB, by rw [List.length_drop]; omega, by omega, by omega, hh, fun j x hj => ?_⟩
  rw [List.getElem?_drop] at hj
  rw [Nat.add_assoc]; exact h4 _ x hj (by omega)

theorem shift_shut {w w1 : World} {B q : Nat} {s : St} {mv av v : Value} {xs : List ByteArray} (hsc : Sc w B q s mv av) (hq : w1.heap[q]? = w.heap[q]?) (hm : ∀ j, mv = .map (some j) → w1.heap[j]? = w.heap[j]?) (hk : Kp w w1 q mv av) (hr : RowAt w1 B v xs) :
    Sc (w1.setCell ⟨q, 1, none⟩ v) B q { s with args := xs } mv v ∧ Kp w (w1.setCell ⟨q, 1, none⟩ v) q mv av := by
  have hrow := hq.trans hsc.cells
  have hmm := hsc.vars.stay hm
  refine ⟨⟨heap_setCell_same w1 q 1 _ _ v hrow, hsc.base, ?_, ?_⟩, hk.then (Kp.set _ _ _ _ mv av) (.inl rfl) (.inl rfl)⟩
  · exact hmm.stay fun j e => heap_setCell_other _ _ _ _ fun e2 => hmm.neScope hrow (by rw [e, show j = q from e2])
  · exact hr.stay fun j e => heap_setCell_other _ _ _ _ fun e2 => hr.neScope hrow (by rw [e, show j = q from e2])
set_option maxRecDepth 4000 in
set_option maxHeartbeats 1000000 in
theorem shift_any (s : St) (B q : Nat) (n : Int) (w : World) (mv av : Value) (hsc : Sc w B q s mv av) (hl : s.args.length ≤ 1000000) :
    Calls Tryz.prog 10 #[.pointer (some ⟨q, 0, none⟩), .int .i64 n] w fun e w' => e = .returned (.bool (decide (0 ≤ n ∧ n ≤ s.args.length))) ∧
      ∃ av', Sc w' B q (if 0 ≤ n ∧ n ≤ s.args.length then { s with args := s.args.drop n.toNat } else s) mv av' ∧ Kp w w' q mv av ∧ av'.ownBlock = av.ownBlock := by
  have hc := Lib.hid hsc
  have hrow := hsc.cells
  have hlt := hsc.lt
  have f1 : w.frozen? ⟨q, 1, none⟩ = false := frozen_of_row _ _ _ _ _ hsc.cells
  have hcl0 : ∀ (w : World) (ty : TypeId) (a : Option Addr) (c : Nat), (Builtin.clear_ #[23] ty #[.slice a 0 c]).run Tryz.prog w = .ok (.tuple #[]) w := by
    intro w ty a c
    cases a <;> simp [Builtin.clear_, run_underlying Tryz.underlying23, Result.andThen]
  by_cases hno : 0 ≤ n ∧ n ≤ s.args.length
  rotate_left 1
  · rw [decide_eq_false hno, if_neg hno]
    obtain ⟨a0, n0, k0, hav, hlen⟩ := hsc.args.len
    subst hav
    have c1 : w.cell? ⟨q, 1, none⟩ = some (.slice a0 s.args.length k0) := by rw [← hlen]; exact cell_of_row _ _ _ _ _ _ hrow
    clear hsc
    rw [← hlen] at c1
    rw [← hlen] at hno
    go_enter Tryz.func10, Tryz.ntmps10
    rcases Int.lt_or_le n 0 with hneg | hpos
    · go_wp2_with fail
      go_ret
      exact ⟨rfl, _, hc.out, Kp.refl _ _ _ _, rfl⟩
    · have hgt : (n0 : Int) < n := by omega
      go_wp2_with fail
      go_ret
      exact ⟨rfl, _, hc.out, Kp.refl _ _ _ _, rfl⟩
  · rw [decide_eq_true hno, if_pos hno]
    obtain ⟨m, rfl⟩ := Int.eq_ofNat_of_zero_le hno.1
    have hm : m ≤ s.args.length := by omega
    rcases hsc.args with ⟨rfl, hnil⟩ | ⟨g, off, cap, cur, rfl, hb, h1, h2, h3, hh, h4⟩
    · have hn0 : m = 0 := by rw [hnil] at hm; simpa using hm
      subst hn0
      have c1 : w.cell? ⟨q, 1, none⟩ = some (.slice none 0 0) := cell_of_row _ _ _ _ _ _ hrow
      clear hsc hno
      go_enter Tryz.func10, Tryz.ntmps10
      go_wp2_with fail
      go_ret
      have hx := shift_shut hc.out rfl (fun _ _ => rfl) (Kp.refl _ _ _ _) (xs := s.args.drop 0) (v := .slice none 0 0) (.inl ⟨rfl, by rw [hnil]; rfl⟩)
      exact ⟨rfl, _, hx.1, hx.2, rfl⟩
    · have c1 := cell_of_row _ _ 1 _ _ _ hrow
      have hgq : g ≠ q := fun e => hsc.args.neScope hrow (by rw [e]; rfl)
      clear hsc
      simp at c1
      have hlo : (0 : Int) ≤ (m : Int) := by omega
      have hl2 : ¬ (m : Int) < 0 := by omega
      have hhi : ¬ (s.args.length : Int) < (m : Int) := by omega
      have hmc : m ≤ cap := by omega
      cases m with
      | zero =>
        go_enter Tryz.func10, Tryz.ntmps10
        go_wp2_with fail
        go_ret
        have hx := shift_shut hc.out rfl (fun _ _ => rfl) (Kp.refl _ _ _ _) hc.out.args
        exact ⟨rfl, _, hx.1, hx.2, rfl⟩
      | succ m =>
        obtain ⟨cur', a1, a2, a3, a4, a5, a6, a7, a8⟩ := setCells_row g 9 (List.replicate (m + 1) (.string (tx []))) off w cur hh
        have hcl : ∀ ty c, (Builtin.clear_ #[23] ty #[.slice (some ⟨g, off, none⟩) (m + 1) c]).run Tryz.prog w = .ok (.tuple #[]) (w.setCells g off (List.replicate (m + 1) (.string (tx [])))) := fun ty c =>
          Lib.run_clear_slice w _ _ ty _ Tryz.underlying23 zeroS rfl rfl g off _ _ (by omega) (fun j hj => by rw [cell_of_row _ _ _ _ _ _ hh]; rw [Array.getElem?_eq_getElem (by omega)]; rfl) (fun j hj => frozen_of_row _ _ _ _ _ hh)
        have d1 : (w.setCells g off (List.replicate (m + 1) (.string (tx [])))).cell? ⟨q, 1, none⟩ = some (.slice (some ⟨g, off, none⟩) s.args.length cap) := by
          rw [World.cell?_of_block (a4 q (Ne.symm hgq))]; exact c1
        have e1 : (w.setCells g off (List.replicate (m + 1) (.string (tx [])))).frozen? ⟨q, 1, none⟩ = false := by
          rw [World.frozen?_of_block (a4 q (Ne.symm hgq))]; exact f1
        have hmg : ∀ j, mv = .map (some j) → j ≠ g := fun j e e2 => hc.out.vars.neScope hh (by rw [e, e2])
        rcases Nat.eq_or_lt_of_le hmc with he | hlc
        · subst he
          have hr : RowAt (w.setCells g off (List.replicate (m + 1) (.string (tx [])))) B (.slice (some ⟨g, off, none⟩) 0 0) (s.args.drop (m + 1)) := by
            refine .inr ⟨g, off, 0, cur', by rw [List.length_drop, show s.args.length - (m + 1) = 0 by omega], hb, by rw [List.length_drop]; omega, by omega, by omega, a1, fun j x hj => ?_⟩
            rw [List.drop_eq_nil_of_le (by omega)] at hj; cases hj
          have hk1 : Kp w (w.setCells g off (List.replicate (m + 1) (.string (tx [])))) q mv (.slice (some ⟨g, off, none⟩) s.args.length (m + 1)) := ⟨a5, a6, a7, by rw [a8]; exact Nat.le_refl _, fun k _ _ _ h => a4 k fun e => h (by rw [e]; rfl)⟩
          have hx := Lib.hid (shift_shut hc.out (a4 q (Ne.symm hgq)) (fun j e => a4 j (hmg j e)) hk1 hr)
          clear hr hk1 hmg a1 a2 a3 a4 a5 a6 a7 a8
          generalize w.setCells g off (List.replicate (m + 1) (.string (tx []))) = w1 at *
          go_enter Tryz.func10, Tryz.ntmps10
          go_wp2_with fail
          all_goals first
            | (exfalso; omega)
            | (go_ret
               exact ⟨rfl, _, hx.out.1, hx.out.2, rfl⟩)
        · have hlc2 : ¬ cap - (m + 1) = 0 := by omega
          have hr := RowAt.drop (n := m + 1) hb h1 h2 (by rw [a2]; exact h3) a1 hm (fun j x hj hn => by rw [a3 _ (by simp; omega)]; exact h4 j x hj)
          have hk1 : Kp w (w.setCells g off (List.replicate (m + 1) (.string (tx [])))) q mv (.slice (some ⟨g, off, none⟩) s.args.length cap) := ⟨a5, a6, a7, by rw [a8]; exact Nat.le_refl _, fun k _ _ _ h => a4 k fun e => h (by rw [e]; rfl)⟩
          have hx := Lib.hid (shift_shut hc.out (a4 q (Ne.symm hgq)) (fun j e => a4 j (hmg j e)) hk1 hr)
          clear hr hk1 hmg a1 a2 a3 a4 a5 a6 a7 a8
          generalize w.setCells g off (List.replicate (m + 1) (.string (tx []))) = w1 at *
          go_enter Tryz.func10, Tryz.ntmps10
          go_wp2_with fail
          all_goals first
            | (exfalso; omega)
            | (go_ret
               exact ⟨rfl, _, hx.out.1, hx.out.2, rfl⟩)
end Vr
end Go.Proofs.YtpphoaidnpkgpaaGreatDoor
