/- Patterns: a set is read. -/
import Derived.Test.YtfjfgaefbldgbaaPnG
namespace Go.Proofs.Ytfjfgaefbldgbaa
open Go.RowKit
namespace Pn
def kindSet (l : List Sg) (i : Nat) : Nat := if firstAt l i = i + 2 then 4 else 3
theorem mem_in {l : List Sg} {F k e : Nat} (hF : F ≤ k) (he : isAt l e 93 = true) (hno : ∀ j, F < j → j < e → isAt l j 93 = false) (hk : k < e) :
    (k + 2 < e → isAt l (k + 1) 45 = true → memAt l k = 3) ∧ (k + 2 < e → isAt l (k + 1) 45 = false → memAt l k = 1) ∧ (¬ k + 2 < e → memAt l k = 1) := by
  have hel := isAt_lt he
  refine ⟨fun h1 h2 => ?_, fun h1 h2 => ?_, fun h1 => ?_⟩
  · rw [memAt, decide_eq_true (show k + 2 < l.length by omega), h2, hno (k + 2) (by omega) h1]; rfl
  · rw [memAt, h2]; simp
  · rcases memAt_two l k with h | ⟨_, h2, h3⟩
    · exact h
    · exfalso
      by_cases h4 : k + 1 = e
      · subst h4; rw [isAt_ne he (by decide)] at h2; cases h2
      · obtain rfl : e = k + 2 := by omega
        rw [he] at h3; cases h3
theorem three_blocks (w : World) (x y z : Obj) : (((w.alloc x).alloc y).alloc z).heap[w.heap.size]? = some x ∧ (((w.alloc x).alloc y).alloc z).heap[w.heap.size + 1]? = some y ∧ (((w.alloc x).alloc y).alloc z).heap[w.heap.size + 1 + 1]? = some z := by
  refine ⟨?_, ?_, ?_⟩
  · show (((w.heap.push x).push y).push z)[w.heap.size]? = some x
    rw [Array.getElem?_push, if_neg (by simp; omega), Array.getElem?_push, if_neg (by simp), Array.getElem?_push, if_pos rfl]
  · show (((w.heap.push x).push y).push z)[w.heap.size + 1]? = some y
    rw [Array.getElem?_push, if_neg (by simp), Array.getElem?_push, if_pos (by simp)]
  · show (((w.heap.push x).push y).push z)[w.heap.size + 1 + 1]? = some z
    rw [Array.getElem?_push, if_pos (by simp)]
theorem BOwn.below {w w' : World} {b n : Nat} {A : Nat → Bool} (h : BOwn w b n A) (hb : Below w.heap.size w w') : BOwn w' b n A :=
  ⟨h.1.below hb, fun j => (World.frozen?_of_block (w := w) (hb.block _ h.1.1)).trans (h.2 j)⟩
theorem wrapEq (x : Int) : IntKind.i64.wrap x = wrap64 x := by rw [IntKind.wrap_i64, wrap64]
theorem keep3 (w : World) (g b : Nat) (h : b ≠ g) (x y z : Value) : (((w.setCell ⟨g, 0, none⟩ x).setCell ⟨g, 1, none⟩ y).setCell ⟨g, 2, none⟩ z).heap[b]? = w.heap[b]? :=
  (Below.heap_setCell _ _ _ _ h).trans ((Below.heap_setCell _ _ _ _ h).trans (Below.heap_setCell _ _ _ _ h))
theorem BAt.same {w w' : World} {b o n : Nat} {A : Nat → Bool} (h : BAt w b o n A) (hb : w'.heap[b]? = w.heap[b]?) (_ : 0 < 1) : BAt w' b o n A := by
  refine ⟨?_, fun i hi => ?_⟩
  · have h1 := h.1
    rcases Nat.lt_or_ge b w'.heap.size with h2 | h2
    · exact h2
    · rw [Array.getElem?_eq_none h2, Array.getElem?_eq_getElem h1] at hb; cases hb
  · rw [World.cell?_of_block (w := w) (hb)]
    exact h.2 i hi
theorem wrapW (x : Int) (h1 : 0 ≤ x) (h2 : x ≤ 4611686018427387904) : IntKind.i64.wrap x = x := (wrapEq _).trans (IntWalk.wrap64_in _ ⟨by omega, by omega⟩)
theorem has_more {s d f T g : Bool} (h : (s || g) = T) (hg : g = (d || f)) : ((s || d) || f) = T := by subst hg; rw [← h, Bool.or_assoc]
set_option maxHeartbeats 4000000 in
theorem readSet_any (l : List Sg) (a : Option Addr) (cap i e : Nat) (w : World) (h : Sgs w a l) (hl : l.length ≤ 1000) (hi : i ≤ 1000) (he : setEnd l i = some e) (hby : ∀ j, j < l.length → (at' l j).1 < 256) :
    Calls Try.prog 25 #[.slice a l.length cap, .int .i64 i, .int .i64 (firstAt l i)] w fun r w' => ∃ sb, r = .returned (.tuple #[.agg #[.int .i64 (kindSet l i : Nat), .int .u8 0, .pointer (some ⟨sb, 0, none⟩)], .int .i64 ((e : Int) + 1)]) ∧ w.heap.size ≤ sb ∧
      BAt w' sb 0 256 (fun c => hasF l e c (l.length + 1) (firstAt l i)) ∧ Below w.heap.size w w' := by
  obtain ⟨row, hrs, hr0, hz⟩ := zeroSet
  obtain ⟨h91, hFe, h93, hno⟩ := setEnd_is he
  have hel := isAt_lt h93
  have H := Lib.hid h; have HN := Lib.hid hno; have H93 := Lib.hid h93; have HBY := Lib.hid hby
  have hF := firstAt_two l i
  have HKS := Lib.hid (show kindSet l i = if firstAt l i = i + 2 then 4 else 3 from rfl)
  clear h hno he h91 h93 hby
  revert HN hFe hF HKS
  generalize hF0 : firstAt l i = F
  generalize hKS0 : kindSet l i = K0
  have HF0 := Lib.hid hF0; have HKS0 := Lib.hid hKS0
  intro hFe HN hF HKS
  have hFi : i < F := by omega
  have hFj : F ≤ i + 2 := by omega
  clear hF hF0 hKS0
  cases hq : ((F : Int) == (i : Int) + 2)
  · have HQ := Lib.hid hq
    obtain ⟨q0, q1, q2⟩ := three_blocks w (.cells #[.int .i64 0, .int .u8 0, .pointer none] 36) (.cells row 59) (.cells #[.int .i64 3, .int .u8 0, .pointer (some ⟨w.heap.size + 1, 0, none⟩)] 36)
    have hb0 := (((Below.refl _ w).alloc (Nat.le_refl _) (.cells #[.int .i64 0, .int .u8 0, .pointer none] 36)).alloc (by simp) (.cells row 59)).alloc (by simp; omega) (.cells #[.int .i64 3, .int .u8 0, .pointer (some ⟨w.heap.size + 1, 0, none⟩)] 36)
    have Q0 := Lib.hid q0; have Q1 := Lib.hid q1; have Q2 := Lib.hid q2; have HB0 := Lib.hid hb0
    clear q0 q1 q2 hb0
    have HKE := Lib.hid (show K0 = 3 by
      have h1 := HKS.out
      have h2 := HQ.out
      by_cases h3 : F = i + 2
      · first | (rw [if_pos h3] at h1; exact h1) | (exfalso; subst h3; simp at h2)
      · first | (rw [if_neg h3] at h1; exact h1) | (exfalso; simp at h2; omega))
    go_enter Try.func25, Try.ntmps25
    go_wp2_with fail
    generalize hW0 : (((w.alloc (.cells #[.int .i64 0, .int .u8 0, .pointer none] 36)).alloc (.cells row 59)).alloc (.cells #[.int .i64 3, .int .u8 0, .pointer (some ⟨w.heap.size + 1, 0, none⟩)] 36)) = W0 at Q0 Q1 Q2 HB0 ⊢
    clear hW0 hq
    have hs0 : w.heap.size + 2 < W0.heap.size := (Array.getElem?_eq_some_iff.1 Q2.out).1
    go_loopw [9] (fun x wr => ∃ k : Nat, F + 1 ≤ k ∧ k ≤ e ∧ x = .int .i64 k ∧ Below W0.heap.size W0 wr) (fun x _ => e - (intOf x).toNat)
    case atStart => exact ⟨F + 1, Nat.le_refl _, by omega, rfl, Below.refl _ _⟩
    case round =>
      obtain ⟨k, hk1, hk2, rfl, hbw⟩ := hrel
      have HW := Lib.hid hbw
      have hws := hbw.size
      clear hbw
      obtain ⟨b, o, ha, hb, c0, c1⟩ := (H.out.below (HB0.out.trans (HW.out.mono HB0.out.size))).get (i := k) (by omega)
      subst ha
      by_cases hke : k < e
      · have HE := Lib.hid (show ((at' l k).1 == 93 && !(at' l k).2) = false from HN.out k (by omega) hke)
        revert c0 c1 HE
        generalize (at' l k).1 = x
        generalize (at' l k).2 = q
        intro c0 c1 HE
        go_wp2_with fail
        refine (is_any x q 93 _).mono ?_
        rintro r w1 ⟨rfl, hb1⟩
        rw [HE.out]
        have HB1 := Lib.hid (HW.out.trans (hb1.mono hws)); clear hb1
        go_wp2_with fail
        go_roundw
        case rel => exact ⟨k + 1, by omega, by omega, by go_num, HB1.out⟩
        case measure => simp [intOf]; omega
      · obtain rfl : k = e := by omega
        have HE := Lib.hid (show ((at' l k).1 == 93 && !(at' l k).2) = true from H93.out)
        revert c0 c1 HE
        generalize (at' l k).1 = x
        generalize (at' l k).2 = q
        intro c0 c1 HE
        go_wp2_with fail
        refine (is_any x q 93 _).mono ?_
        rintro r w1 ⟨rfl, hb1⟩
        rw [HE.out]
        have HB1 := Lib.hid (HW.out.trans (hb1.mono hws)); clear hb1
        go_wp2_with fail
        have q0 := (HB1.out.block _ (show w.heap.size < W0.heap.size by omega)).trans Q0.out
        have q1 := (HB1.out.block _ (show w.heap.size + 1 < W0.heap.size by omega)).trans Q1.out
        have q2 := (HB1.out.block _ hs0).trans Q2.out
        have P0 := Lib.hid q0; have P2 := Lib.hid q2; have P1 := Lib.hid q1
        have HB2 := Lib.hid (HB0.out.trans (HB1.out.mono HB0.out.size))
        have PB := Lib.hid (show BOwn w1 (w.heap.size + 1) 256 (fun _ => false) from ⟨⟨(Array.getElem?_eq_some_iff.1 q1).1, fun c hc => by rw [Nat.zero_add]; exact (Lib.cell_of_heap q1 c).trans (hr0 c hc)⟩, fun j => frozen_of_row _ _ _ _ _ q1⟩)
        clear q0 q1 q2 c0 c1 hb hws
        go_loopw [1] (fun v wr => ∃ (j : Nat) (S : Nat → Bool), F ≤ j ∧ j ≤ k ∧ v = .int .i64 j ∧ wr.heap[w.heap.size + 1 + 1]? = some (.cells #[.int .i64 3, .int .u8 0, .pointer (some ⟨w.heap.size + 1, 0, none⟩)] 36 (0, 0)) ∧
          wr.heap[w.heap.size]? = some (.cells #[.int .i64 0, .int .u8 0, .pointer none] 36 (0, 0)) ∧ BOwn wr (w.heap.size + 1) 256 S ∧ (∀ c, (S c || hasF l k c (l.length + 1) j) = hasF l k c (l.length + 1) F) ∧ Below w.heap.size w wr) (fun v _ => k - (intOf v).toNat)
        case atStart => exact ⟨F, fun _ => false, Nat.le_refl _, by omega, rfl, P2.out, P0.out, PB.out, fun c => by simp, HB2.out⟩
        case round =>
          obtain ⟨j, S, hj1, hj2, rfl, r2, r0, hbo, hsf, hbw⟩ := hrel
          have R0 := Lib.hid r0; have R2 := Lib.hid r2; have HBO := Lib.hid hbo; have HSF := Lib.hid hsf; have HWB := Lib.hid hbw
          have hws := hbw.size
          have m2 := Lib.cell_of_heap r2 2
          have hlt2 := (Array.getElem?_eq_some_iff.1 r2).1
          have hlt0 := (Array.getElem?_eq_some_iff.1 r0).1
          have HSG := Lib.hid (H.out.below hbw)
          clear r0 r2 hbo hsf hbw
          by_cases hjk : j < k
          · have HMI := Lib.hid (mem_in hj1 H93.out HN.out hjk)
            obtain ⟨b', o', ha', hb, a0, a1⟩ := HSG.out.get (i := j) (by omega)
            cases ha'
            have HXB := Lib.hid (HBY.out j (by omega))
            have hjl : j < l.length := by omega
            by_cases hj3 : j + 2 < k
            · obtain ⟨b', o', ha', _, z0, z1⟩ := HSG.out.get (i := j + 1) (by omega)
              cases ha'
              obtain ⟨b', o', ha', _, y0, y1⟩ := HSG.out.get (i := j + 2) (by omega)
              cases ha'
              have HYB := Lib.hid (HBY.out (j + 2) (by omega))
              have hjl2 : j + 2 < l.length := by omega
              have hwr : IntKind.i64.wrap ((j : Int) + 2) = (j : Int) + 2 := wrapW _ (by omega) (by omega)
              have htn : ((j : Int) + 2).toNat = j + 2 := by omega
              have hg1 : (0 : Int) ≤ (j : Int) + 2 := by omega
              have hg2 : (j : Int) + 2 < (l.length : Int) := by omega
              clear a1 y1
              cases hz1 : isAt l (j + 1) 45
              · have HM := Lib.hid (HMI.out.2.1 hj3 hz1)
                have HZ := Lib.hid (show ((at' l (j + 1)).1 == 45 && !(at' l (j + 1)).2) = false from hz1)
                clear hz1 y0
                go_wp2_with fail
                refine (is_any (at' l (j + 1)).1 (at' l (j + 1)).2 45 _).mono ?_
                rintro r w3 ⟨rfl, hb3⟩
                rw [HZ.out]
                replace R0 := Lib.hid ((hb3.block _ hlt0).trans R0.out)
                replace R2 := Lib.hid ((hb3.block _ hlt2).trans R2.out)
                replace HBO := Lib.hid (HBO.out.below hb3)
                replace HWB := Lib.hid (HWB.out.trans (hb3.mono hws))
                replace m2 := Lib.cell_of_heap R2.out 2
                replace a0 := (hb3.cell (p := ⟨b, o + j * 2, none⟩) hb).trans a0
                clear hb3
                go_wp2_with fail
                have HST := Lib.hid (fun c => show hasF l k c (l.length + 1) j = (decide ((at' l j).1 ≤ c ∧ c ≤ (at' l j).1) || hasF l k c (l.length + 1) (j + 1)) by
                  have h := hasF_step (c := c) hjk (Nat.le_of_lt hel)
                  rwa [HM.out, show j + 1 - 1 = j by omega] at h)
                refine RN.begins (fun w' => w'.cell? ⟨w.heap.size + 1 + 1, 2, none⟩ = some (.pointer (some ⟨w.heap.size + 1, 0, none⟩)) ∧ w'.cell? ⟨b, o + j * 2, none⟩ = some (.int .u8 ((at' l j).1 : Int))) [12] (by kernel_rfl) ?_
                have hS : w3.drew.cell? ⟨w.heap.size + 1 + 1, 2, none⟩ = some (.pointer (some ⟨w.heap.size + 1, 0, none⟩)) ∧ w3.drew.cell? ⟨b, o + j * 2, none⟩ = some (.int .u8 ((at' l j).1 : Int)) := ⟨m2, a0⟩
                refine RN.take (i := 0) (v := ?_) rfl (by decide) (by kernel_rfl) (by kernel_rfl) (by kernel_rfl) (by kernel_rfl) (by kernel_rfl) (by first | exact fun _ _ _ h => h | exact fun _ _ _ h => (by cases h.1) | exact fun _ _ _ h => door_put (by decide) h) (.inl ⟨by rfl, ?_⟩) hS ?_
                rotate_left 1
                · (intro wq hq; obtain ⟨s0, s1⟩ := hq; go_simp; try with_reducible rfl)
                refine RN.take (i := 1) (v := ?_) rfl (by decide) (by kernel_rfl) (by kernel_rfl) (by kernel_rfl) (by kernel_rfl) (by kernel_rfl) (by first | exact fun _ _ _ h => h | exact fun _ _ _ h => (by cases h.1) | exact fun _ _ _ h => door_put (by decide) h) (.inl ⟨by rfl, ?_⟩) hS ?_
                rotate_left 1
                · (intro wq hq; obtain ⟨s0, s1⟩ := hq; go_simp; try with_reducible rfl)
                refine RN.take (i := 2) (v := ?_) rfl (by decide) (by kernel_rfl) (by kernel_rfl) (by kernel_rfl) (by kernel_rfl) (by kernel_rfl) (by first | exact fun _ _ _ h => h | exact fun _ _ _ h => (by cases h.1) | exact fun _ _ _ h => door_put (by decide) h) (.inl ⟨by rfl, ?_⟩) hS ?_
                rotate_left 1
                · (intro wq hq; obtain ⟨s0, s1⟩ := hq; go_simp; try with_reducible rfl)
                refine RN.take (i := 3) (v := ?_) rfl (by decide) (by kernel_rfl) (by kernel_rfl) (by kernel_rfl) (by kernel_rfl) (by kernel_rfl) (by first | exact fun _ _ _ h => h | exact fun _ _ _ h => (by cases h.1) | exact fun _ _ _ h => door_put (by decide) h) (.inl ⟨by rfl, ?_⟩) hS ?_
                rotate_left 1
                · (intro wq hq; obtain ⟨s0, s1⟩ := hq; go_simp; try with_reducible rfl)
                refine RN.take (i := 4) (v := ?_) rfl (by decide) (by kernel_rfl) (by kernel_rfl) (by kernel_rfl) (by kernel_rfl) (by kernel_rfl) (by first | exact fun _ _ _ h => h | exact fun _ _ _ h => (by cases h.1) | exact fun _ _ _ h => door_put (by decide) h) (.inl ⟨by rfl, ?_⟩) hS ?_
                rotate_left 1
                · (intro wq hq; obtain ⟨s0, s1⟩ := hq; go_simp; try with_reducible rfl)
                refine RN.take (i := 5) (v := ?_) rfl (by decide) (by kernel_rfl) (by kernel_rfl) (by kernel_rfl) (by kernel_rfl) (by kernel_rfl) (by first | exact fun _ _ _ h => h | exact fun _ _ _ h => (by cases h.1) | exact fun _ _ _ h => door_put (by decide) h) (.inl ⟨by rfl, ?_⟩) hS ?_
                rotate_left 1
                · (intro wq hq; obtain ⟨s0, s1⟩ := hq; go_simp; try with_reducible rfl)
                refine RN.take (i := 6) (v := ?_) rfl (by decide) (by kernel_rfl) (by kernel_rfl) (by kernel_rfl) (by kernel_rfl) (by kernel_rfl) (by first | exact fun _ _ _ h => h | exact fun _ _ _ h => (by cases h.1) | exact fun _ _ _ h => door_put (by decide) h) (.inl ⟨by rfl, ?_⟩) hS ?_
                rotate_left 1
                · (intro wq hq; obtain ⟨s0, s1⟩ := hq; go_simp; try with_reducible rfl)
                refine RN.take (i := 7) (v := ?_) rfl (by decide) (by kernel_rfl) (by kernel_rfl) (by kernel_rfl) (by kernel_rfl) (by kernel_rfl) (by first | exact fun _ _ _ h => h | exact fun _ _ _ h => (by cases h.1) | exact fun _ _ _ h => door_put (by decide) h) (.inl ⟨by rfl, ?_⟩) hS ?_
                rotate_left 1
                · (intro wq hq; obtain ⟨s0, s1⟩ := hq; go_simp; try with_reducible rfl)
                refine RN.take (i := 8) (v := ?_) rfl (by decide) (by kernel_rfl) (by kernel_rfl) (by kernel_rfl) (by kernel_rfl) (by kernel_rfl) (by first | exact fun _ _ _ h => h | exact fun _ _ _ h => (by cases h.1) | exact fun _ _ _ h => door_put (by decide) h) (.inl ⟨by rfl, ?_⟩) hS ?_
                rotate_left 1
                · (intro wq hq; obtain ⟨s0, s1⟩ := hq; go_simp; try with_reducible rfl)
                refine RN.take (i := 9) (v := ?_) rfl (by decide) (by kernel_rfl) (by kernel_rfl) (by kernel_rfl) (by kernel_rfl) (by kernel_rfl) (by first | exact fun _ _ _ h => h | exact fun _ _ _ h => (by cases h.1) | exact fun _ _ _ h => door_put (by decide) h) (.inl ⟨by rfl, ?_⟩) hS ?_
                rotate_left 1
                · (intro wq hq; obtain ⟨s0, s1⟩ := hq; go_simp; try with_reducible rfl)
                refine RN.take (i := 10) (v := ?_) rfl (by decide) (by kernel_rfl) (by kernel_rfl) (by kernel_rfl) (by kernel_rfl) (by kernel_rfl) (by first | exact fun _ _ _ h => h | exact fun _ _ _ h => (by cases h.1) | exact fun _ _ _ h => door_put (by decide) h) (.inl ⟨by rfl, ?_⟩) hS ?_
                rotate_left 1
                · (intro wq hq; obtain ⟨s0, s1⟩ := hq; go_simp; try with_reducible rfl)
                refine RN.take (i := 11) (v := ?_) rfl (by decide) (by kernel_rfl) (by kernel_rfl) (by kernel_rfl) (by kernel_rfl) (by kernel_rfl) (by first | exact fun _ _ _ h => h | exact fun _ _ _ h => (by cases h.1) | exact fun _ _ _ h => door_put (by decide) h) (.inl ⟨by rfl, ?_⟩) hS ?_
                rotate_left 1
                · (intro wq hq; obtain ⟨s0, s1⟩ := hq; go_simp; try with_reducible rfl)
                refine RN.all (rs := [12]) (by kernel_rfl) (by simp) ?_
                refine RN.All.cons rfl (fun K hK => ?_) RN.All.nil
                go_simp
                refine (add_any (w.heap.size + 1) (at' l j).1 (at' l j).1 S w3.drew HBO.out HXB.out HXB.out).mono ?_
                rintro r w4 ⟨rfl, hbo, hoth, hb4⟩
                refine hK _ _ (fun h => absurd h (by decide)) ?_
                clear hK K
                refine RN.done (by kernel_rfl) ?_ _
                have HBO4 := Lib.hid hbo
                have HB4 := Lib.hid ((drewn HWB.out).trans (hb4.mono (Nat.le_succ _)))
                have HR0 := Lib.hid ((hoth w.heap.size (by omega)).trans R0.out)
                have HR2 := Lib.hid ((hoth (w.heap.size + 1 + 1) (by omega)).trans R2.out)
                clear hbo hoth hb4 hS m2 a0
                go_wp2_with fail
                go_roundw
                case rel => exact ⟨j + 1, _, by omega, by omega, by go_num, HR2.out, HR0.out, HBO4.out, fun c => has_more (HSF.out c) (HST.out c), HB4.out⟩
                case measure => simp [intOf]; omega
              · have HM := Lib.hid (HMI.out.1 hj3 hz1)
                have HZ := Lib.hid (show ((at' l (j + 1)).1 == 45 && !(at' l (j + 1)).2) = true from hz1)
                clear hz1
                go_wp2_with fail
                refine (is_any (at' l (j + 1)).1 (at' l (j + 1)).2 45 _).mono ?_
                rintro r w3 ⟨rfl, hb3⟩
                rw [HZ.out]
                replace R0 := Lib.hid ((hb3.block _ hlt0).trans R0.out)
                replace R2 := Lib.hid ((hb3.block _ hlt2).trans R2.out)
                replace HBO := Lib.hid (HBO.out.below hb3)
                replace HWB := Lib.hid (HWB.out.trans (hb3.mono hws))
                replace m2 := Lib.cell_of_heap R2.out 2
                replace a0 := (hb3.cell (p := ⟨b, o + j * 2, none⟩) hb).trans a0
                replace y0 := (hb3.cell (p := ⟨b, o + (j + 2) * 2, none⟩) hb).trans y0
                clear hb3
                go_wp2_with fail
                have HST := Lib.hid (fun c => show hasF l k c (l.length + 1) j = (decide ((at' l j).1 ≤ c ∧ c ≤ (at' l (j + 2)).1) || hasF l k c (l.length + 1) (j + 3)) by
                  have h := hasF_step (c := c) hjk (Nat.le_of_lt hel)
                  rwa [HM.out, show j + 3 - 1 = j + 2 by omega] at h)
                refine RN.begins (fun w' => w'.cell? ⟨w.heap.size + 1 + 1, 2, none⟩ = some (.pointer (some ⟨w.heap.size + 1, 0, none⟩)) ∧ w'.cell? ⟨b, o + j * 2, none⟩ = some (.int .u8 ((at' l j).1 : Int)) ∧ w'.cell? ⟨b, o + (j + 2) * 2, none⟩ = some (.int .u8 ((at' l (j + 2)).1 : Int))) [13] (by kernel_rfl) ?_
                have hS : w3.drew.cell? ⟨w.heap.size + 1 + 1, 2, none⟩ = some (.pointer (some ⟨w.heap.size + 1, 0, none⟩)) ∧ w3.drew.cell? ⟨b, o + j * 2, none⟩ = some (.int .u8 ((at' l j).1 : Int)) ∧ w3.drew.cell? ⟨b, o + (j + 2) * 2, none⟩ = some (.int .u8 ((at' l (j + 2)).1 : Int)) := ⟨m2, a0, y0⟩
                refine RN.take (i := 0) (v := ?_) rfl (by decide) (by kernel_rfl) (by kernel_rfl) (by kernel_rfl) (by kernel_rfl) (by kernel_rfl) (by first | exact fun _ _ _ h => h | exact fun _ _ _ h => (by cases h.1) | exact fun _ _ _ h => door_put (by decide) h) (.inl ⟨by rfl, ?_⟩) hS ?_
                rotate_left 1
                · (intro wq hq; obtain ⟨s0, s1, s2⟩ := hq; go_simp; try with_reducible rfl)
                refine RN.take (i := 1) (v := ?_) rfl (by decide) (by kernel_rfl) (by kernel_rfl) (by kernel_rfl) (by kernel_rfl) (by kernel_rfl) (by first | exact fun _ _ _ h => h | exact fun _ _ _ h => (by cases h.1) | exact fun _ _ _ h => door_put (by decide) h) (.inl ⟨by rfl, ?_⟩) hS ?_
                rotate_left 1
                · (intro wq hq; obtain ⟨s0, s1, s2⟩ := hq; go_simp; try with_reducible rfl)
                refine RN.take (i := 2) (v := ?_) rfl (by decide) (by kernel_rfl) (by kernel_rfl) (by kernel_rfl) (by kernel_rfl) (by kernel_rfl) (by first | exact fun _ _ _ h => h | exact fun _ _ _ h => (by cases h.1) | exact fun _ _ _ h => door_put (by decide) h) (.inl ⟨by rfl, ?_⟩) hS ?_
                rotate_left 1
                · (intro wq hq; obtain ⟨s0, s1, s2⟩ := hq; go_simp; try with_reducible rfl)
                refine RN.take (i := 3) (v := ?_) rfl (by decide) (by kernel_rfl) (by kernel_rfl) (by kernel_rfl) (by kernel_rfl) (by kernel_rfl) (by first | exact fun _ _ _ h => h | exact fun _ _ _ h => (by cases h.1) | exact fun _ _ _ h => door_put (by decide) h) (.inl ⟨by rfl, ?_⟩) hS ?_
                rotate_left 1
                · (intro wq hq; obtain ⟨s0, s1, s2⟩ := hq; go_simp; try with_reducible rfl)
                refine RN.take (i := 4) (v := ?_) rfl (by decide) (by kernel_rfl) (by kernel_rfl) (by kernel_rfl) (by kernel_rfl) (by kernel_rfl) (by first | exact fun _ _ _ h => h | exact fun _ _ _ h => (by cases h.1) | exact fun _ _ _ h => door_put (by decide) h) (.inl ⟨by rfl, ?_⟩) hS ?_
                rotate_left 1
                · (intro wq hq; obtain ⟨s0, s1, s2⟩ := hq; go_simp; try with_reducible rfl)
                refine RN.take (i := 5) (v := ?_) rfl (by decide) (by kernel_rfl) (by kernel_rfl) (by kernel_rfl) (by kernel_rfl) (by kernel_rfl) (by first | exact fun _ _ _ h => h | exact fun _ _ _ h => (by cases h.1) | exact fun _ _ _ h => door_put (by decide) h) (.inl ⟨by rfl, ?_⟩) hS ?_
                rotate_left 1
                · (intro wq hq; obtain ⟨s0, s1, s2⟩ := hq; go_simp; try with_reducible rfl)
                refine RN.take (i := 6) (v := ?_) rfl (by decide) (by kernel_rfl) (by kernel_rfl) (by kernel_rfl) (by kernel_rfl) (by kernel_rfl) (by first | exact fun _ _ _ h => h | exact fun _ _ _ h => (by cases h.1) | exact fun _ _ _ h => door_put (by decide) h) (.inl ⟨by rfl, ?_⟩) hS ?_
                rotate_left 1
                · (intro wq hq; obtain ⟨s0, s1, s2⟩ := hq; go_simp; try with_reducible rfl)
                refine RN.take (i := 7) (v := ?_) rfl (by decide) (by kernel_rfl) (by kernel_rfl) (by kernel_rfl) (by kernel_rfl) (by kernel_rfl) (by first | exact fun _ _ _ h => h | exact fun _ _ _ h => (by cases h.1) | exact fun _ _ _ h => door_put (by decide) h) (.inl ⟨by rfl, ?_⟩) hS ?_
                rotate_left 1
                · (intro wq hq; obtain ⟨s0, s1, s2⟩ := hq; go_simp; try with_reducible rfl)
                refine RN.take (i := 8) (v := ?_) rfl (by decide) (by kernel_rfl) (by kernel_rfl) (by kernel_rfl) (by kernel_rfl) (by kernel_rfl) (by first | exact fun _ _ _ h => h | exact fun _ _ _ h => (by cases h.1) | exact fun _ _ _ h => door_put (by decide) h) (.inl ⟨by rfl, ?_⟩) hS ?_
                rotate_left 1
                · (intro wq hq; obtain ⟨s0, s1, s2⟩ := hq; go_simp; try with_reducible rfl)
                refine RN.take (i := 9) (v := ?_) rfl (by decide) (by kernel_rfl) (by kernel_rfl) (by kernel_rfl) (by kernel_rfl) (by kernel_rfl) (by first | exact fun _ _ _ h => h | exact fun _ _ _ h => (by cases h.1) | exact fun _ _ _ h => door_put (by decide) h) (.inl ⟨by rfl, ?_⟩) hS ?_
                rotate_left 1
                · (intro wq hq; obtain ⟨s0, s1, s2⟩ := hq; go_simp; try with_reducible rfl)
                refine RN.take (i := 10) (v := ?_) rfl (by decide) (by kernel_rfl) (by kernel_rfl) (by kernel_rfl) (by kernel_rfl) (by kernel_rfl) (by first | exact fun _ _ _ h => h | exact fun _ _ _ h => (by cases h.1) | exact fun _ _ _ h => door_put (by decide) h) (.inl ⟨by rfl, ?_⟩) hS ?_
                rotate_left 1
                · (intro wq hq; obtain ⟨s0, s1, s2⟩ := hq; go_simp; try with_reducible rfl)
                refine RN.take (i := 11) (v := ?_) rfl (by decide) (by kernel_rfl) (by kernel_rfl) (by kernel_rfl) (by kernel_rfl) (by kernel_rfl) (by first | exact fun _ _ _ h => h | exact fun _ _ _ h => (by cases h.1) | exact fun _ _ _ h => door_put (by decide) h) (.inl ⟨by rfl, ?_⟩) hS ?_
                rotate_left 1
                · (intro wq hq; obtain ⟨s0, s1, s2⟩ := hq; go_simp; try with_reducible rfl)
                refine RN.take (i := 12) (v := ?_) rfl (by decide) (by kernel_rfl) (by kernel_rfl) (by kernel_rfl) (by kernel_rfl) (by kernel_rfl) (by first | exact fun _ _ _ h => h | exact fun _ _ _ h => (by cases h.1) | exact fun _ _ _ h => door_put (by decide) h) (.inl ⟨by rfl, ?_⟩) hS ?_
                rotate_left 1
                · (intro wq hq; obtain ⟨s0, s1, s2⟩ := hq; go_simp; try with_reducible rfl)
                refine RN.all (rs := [13]) (by kernel_rfl) (by simp) ?_
                refine RN.All.cons rfl (fun K hK => ?_) RN.All.nil
                go_simp
                refine (add_any (w.heap.size + 1) (at' l j).1 (at' l (j + 2)).1 S w3.drew HBO.out HXB.out HYB.out).mono ?_
                rintro r w4 ⟨rfl, hbo, hoth, hb4⟩
                refine hK _ _ (fun h => absurd h (by decide)) ?_
                clear hK K
                refine RN.done (by kernel_rfl) ?_ _
                have HBO4 := Lib.hid hbo
                have HB4 := Lib.hid ((drewn HWB.out).trans (hb4.mono (Nat.le_succ _)))
                have HR0 := Lib.hid ((hoth w.heap.size (by omega)).trans R0.out)
                have HR2 := Lib.hid ((hoth (w.heap.size + 1 + 1) (by omega)).trans R2.out)
                clear hbo hoth hb4 hS m2 a0
                go_wp2_with fail
                go_roundw
                case rel => exact ⟨j + 3, _, by omega, by omega, by go_num, HR2.out, HR0.out, HBO4.out, fun c => has_more (HSF.out c) (HST.out c), HB4.out⟩
                case measure => simp [intOf]; omega
            · have HM := Lib.hid (HMI.out.2.2 hj3)
              clear a1
              go_wp2_with fail
              have HST := Lib.hid (fun c => show hasF l k c (l.length + 1) j = (decide ((at' l j).1 ≤ c ∧ c ≤ (at' l j).1) || hasF l k c (l.length + 1) (j + 1)) by
                have h := hasF_step (c := c) hjk (Nat.le_of_lt hel)
                rwa [HM.out, show j + 1 - 1 = j by omega] at h)
              refine RN.begins (fun w' => w'.cell? ⟨w.heap.size + 1 + 1, 2, none⟩ = some (.pointer (some ⟨w.heap.size + 1, 0, none⟩)) ∧ w'.cell? ⟨b, o + j * 2, none⟩ = some (.int .u8 ((at' l j).1 : Int))) [12] (by kernel_rfl) ?_
              have hS : wr.drew.cell? ⟨w.heap.size + 1 + 1, 2, none⟩ = some (.pointer (some ⟨w.heap.size + 1, 0, none⟩)) ∧ wr.drew.cell? ⟨b, o + j * 2, none⟩ = some (.int .u8 ((at' l j).1 : Int)) := ⟨m2, a0⟩
              refine RN.take (i := 0) (v := ?_) rfl (by decide) (by kernel_rfl) (by kernel_rfl) (by kernel_rfl) (by kernel_rfl) (by kernel_rfl) (by first | exact fun _ _ _ h => h | exact fun _ _ _ h => (by cases h.1) | exact fun _ _ _ h => door_put (by decide) h) (.inl ⟨by rfl, ?_⟩) hS ?_
              rotate_left 1
              · (intro wq hq; obtain ⟨s0, s1⟩ := hq; go_simp; try with_reducible rfl)
              refine RN.take (i := 1) (v := ?_) rfl (by decide) (by kernel_rfl) (by kernel_rfl) (by kernel_rfl) (by kernel_rfl) (by kernel_rfl) (by first | exact fun _ _ _ h => h | exact fun _ _ _ h => (by cases h.1) | exact fun _ _ _ h => door_put (by decide) h) (.inl ⟨by rfl, ?_⟩) hS ?_
              rotate_left 1
              · (intro wq hq; obtain ⟨s0, s1⟩ := hq; go_simp; try with_reducible rfl)
              refine RN.take (i := 2) (v := ?_) rfl (by decide) (by kernel_rfl) (by kernel_rfl) (by kernel_rfl) (by kernel_rfl) (by kernel_rfl) (by first | exact fun _ _ _ h => h | exact fun _ _ _ h => (by cases h.1) | exact fun _ _ _ h => door_put (by decide) h) (.inl ⟨by rfl, ?_⟩) hS ?_
              rotate_left 1
              · (intro wq hq; obtain ⟨s0, s1⟩ := hq; go_simp; try with_reducible rfl)
              refine RN.take (i := 3) (v := ?_) rfl (by decide) (by kernel_rfl) (by kernel_rfl) (by kernel_rfl) (by kernel_rfl) (by kernel_rfl) (by first | exact fun _ _ _ h => h | exact fun _ _ _ h => (by cases h.1) | exact fun _ _ _ h => door_put (by decide) h) (.inl ⟨by rfl, ?_⟩) hS ?_
              rotate_left 1
              · (intro wq hq; obtain ⟨s0, s1⟩ := hq; go_simp; try with_reducible rfl)
              refine RN.take (i := 4) (v := ?_) rfl (by decide) (by kernel_rfl) (by kernel_rfl) (by kernel_rfl) (by kernel_rfl) (by kernel_rfl) (by first | exact fun _ _ _ h => h | exact fun _ _ _ h => (by cases h.1) | exact fun _ _ _ h => door_put (by decide) h) (.inl ⟨by rfl, ?_⟩) hS ?_
              rotate_left 1
              · (intro wq hq; obtain ⟨s0, s1⟩ := hq; go_simp; try with_reducible rfl)
              refine RN.take (i := 5) (v := ?_) rfl (by decide) (by kernel_rfl) (by kernel_rfl) (by kernel_rfl) (by kernel_rfl) (by kernel_rfl) (by first | exact fun _ _ _ h => h | exact fun _ _ _ h => (by cases h.1) | exact fun _ _ _ h => door_put (by decide) h) (.inl ⟨by rfl, ?_⟩) hS ?_
              rotate_left 1
              · (intro wq hq; obtain ⟨s0, s1⟩ := hq; go_simp; try with_reducible rfl)
              refine RN.take (i := 6) (v := ?_) rfl (by decide) (by kernel_rfl) (by kernel_rfl) (by kernel_rfl) (by kernel_rfl) (by kernel_rfl) (by first | exact fun _ _ _ h => h | exact fun _ _ _ h => (by cases h.1) | exact fun _ _ _ h => door_put (by decide) h) (.inl ⟨by rfl, ?_⟩) hS ?_
              rotate_left 1
              · (intro wq hq; obtain ⟨s0, s1⟩ := hq; go_simp; try with_reducible rfl)
              refine RN.take (i := 7) (v := ?_) rfl (by decide) (by kernel_rfl) (by kernel_rfl) (by kernel_rfl) (by kernel_rfl) (by kernel_rfl) (by first | exact fun _ _ _ h => h | exact fun _ _ _ h => (by cases h.1) | exact fun _ _ _ h => door_put (by decide) h) (.inl ⟨by rfl, ?_⟩) hS ?_
              rotate_left 1
              · (intro wq hq; obtain ⟨s0, s1⟩ := hq; go_simp; try with_reducible rfl)
              refine RN.take (i := 8) (v := ?_) rfl (by decide) (by kernel_rfl) (by kernel_rfl) (by kernel_rfl) (by kernel_rfl) (by kernel_rfl) (by first | exact fun _ _ _ h => h | exact fun _ _ _ h => (by cases h.1) | exact fun _ _ _ h => door_put (by decide) h) (.inl ⟨by rfl, ?_⟩) hS ?_
              rotate_left 1
              · (intro wq hq; obtain ⟨s0, s1⟩ := hq; go_simp; try with_reducible rfl)
              refine RN.take (i := 9) (v := ?_) rfl (by decide) (by kernel_rfl) (by kernel_rfl) (by kernel_rfl) (by kernel_rfl) (by kernel_rfl) (by first | exact fun _ _ _ h => h | exact fun _ _ _ h => (by cases h.1) | exact fun _ _ _ h => door_put (by decide) h) (.inl ⟨by rfl, ?_⟩) hS ?_
              rotate_left 1
              · (intro wq hq; obtain ⟨s0, s1⟩ := hq; go_simp; try with_reducible rfl)
              refine RN.take (i := 10) (v := ?_) rfl (by decide) (by kernel_rfl) (by kernel_rfl) (by kernel_rfl) (by kernel_rfl) (by kernel_rfl) (by first | exact fun _ _ _ h => h | exact fun _ _ _ h => (by cases h.1) | exact fun _ _ _ h => door_put (by decide) h) (.inl ⟨by rfl, ?_⟩) hS ?_
              rotate_left 1
              · (intro wq hq; obtain ⟨s0, s1⟩ := hq; go_simp; try with_reducible rfl)
              refine RN.take (i := 11) (v := ?_) rfl (by decide) (by kernel_rfl) (by kernel_rfl) (by kernel_rfl) (by kernel_rfl) (by kernel_rfl) (by first | exact fun _ _ _ h => h | exact fun _ _ _ h => (by cases h.1) | exact fun _ _ _ h => door_put (by decide) h) (.inl ⟨by rfl, ?_⟩) hS ?_
              rotate_left 1
              · (intro wq hq; obtain ⟨s0, s1⟩ := hq; go_simp; try with_reducible rfl)
              refine RN.all (rs := [12]) (by kernel_rfl) (by simp) ?_
              refine RN.All.cons rfl (fun K hK => ?_) RN.All.nil
              go_simp
              refine (add_any (w.heap.size + 1) (at' l j).1 (at' l j).1 S wr.drew HBO.out HXB.out HXB.out).mono ?_
              rintro r w4 ⟨rfl, hbo, hoth, hb4⟩
              refine hK _ _ (fun h => absurd h (by decide)) ?_
              clear hK K
              refine RN.done (by kernel_rfl) ?_ _
              have HBO4 := Lib.hid hbo
              have HB4 := Lib.hid ((drewn HWB.out).trans (hb4.mono (Nat.le_succ _)))
              have HR0 := Lib.hid ((hoth w.heap.size (by omega)).trans R0.out)
              have HR2 := Lib.hid ((hoth (w.heap.size + 1 + 1) (by omega)).trans R2.out)
              clear hbo hoth hb4 hS m2 a0
              go_wp2_with fail
              go_roundw
              case rel => exact ⟨j + 1, _, by omega, by omega, by go_num, HR2.out, HR0.out, HBO4.out, fun c => has_more (HSF.out c) (HST.out c), HB4.out⟩
              case measure => simp [intOf]; omega
          · obtain rfl : j = k := by omega
            have m0 := Lib.cell_of_heap R2.out 0
            have m1 := Lib.cell_of_heap R2.out 1
            have n0 := Lib.cell_of_heap R0.out 0
            have n1 := Lib.cell_of_heap R0.out 1
            have n2 := Lib.cell_of_heap R0.out 2
            have f0 : wr.frozen? ⟨w.heap.size, 0, none⟩ = false := frozen_of_row _ _ _ _ _ R0.out
            have f1 : wr.frozen? ⟨w.heap.size, 1, none⟩ = false := frozen_of_row _ _ _ _ _ R0.out
            have f2 : wr.frozen? ⟨w.heap.size, 2, none⟩ = false := frozen_of_row _ _ _ _ _ R0.out
            go_wp2_with fail
            have hf := put3 R0.out (.int .i64 3) (.int .u8 0) (.pointer (some ⟨w.heap.size + 1, 0, none⟩))
            have hk := keep3 wr w.heap.size (w.heap.size + 1) (by omega) (.int .i64 3) (.int .u8 0) (.pointer (some ⟨w.heap.size + 1, 0, none⟩))
            have hbf := ((HWB.out.setCell (p := ⟨w.heap.size, 0, none⟩) (Nat.le_refl _) (.int .i64 3)).setCell (p := ⟨w.heap.size, 1, none⟩) (Nat.le_refl _) (.int .u8 0)).setCell (p := ⟨w.heap.size, 2, none⟩) (Nat.le_refl _) (.pointer (some ⟨w.heap.size + 1, 0, none⟩))
            have hS2 : S = fun c => hasF l j c (l.length + 1) F := by
              funext c
              have := HSF.out c
              rwa [hasF_end (Nat.le_refl _), Bool.or_false] at this
            clear m0 m1 m2 n0 n1 n2 f0 f1 f2
            generalize ((wr.setCell ⟨w.heap.size, 0, none⟩ (.int .i64 3)).setCell ⟨w.heap.size, 1, none⟩ (.int .u8 0)).setCell ⟨w.heap.size, 2, none⟩ (.pointer (some ⟨w.heap.size + 1, 0, none⟩)) = U at hf hk hbf ⊢
            have x0 := Lib.cell_of_heap hf 0
            have x1 := Lib.cell_of_heap hf 1
            have x2 := Lib.cell_of_heap hf 2
            refine bodyPost_ret (v := .tuple #[.agg #[.int .i64 3, .int .u8 0, .pointer (some ⟨w.heap.size + 1, 0, none⟩)], .int .i64 ((j : Int) + 1)]) (by simp [results, Try.results25, go_sem, x0, x1, x2]) rfl ⟨w.heap.size + 1, ?_, Nat.le_succ _, ?_, hbf⟩
            · rw [HKE.out]; rfl
            · have hb5 := HBO.out.1
              rw [hS2] at hb5
              exact hb5.same hk (by omega)
  · have HQ := Lib.hid hq
    obtain ⟨q0, q1, q2⟩ := three_blocks w (.cells #[.int .i64 0, .int .u8 0, .pointer none] 36) (.cells row 59) (.cells #[.int .i64 4, .int .u8 0, .pointer (some ⟨w.heap.size + 1, 0, none⟩)] 36)
    have hb0 := (((Below.refl _ w).alloc (Nat.le_refl _) (.cells #[.int .i64 0, .int .u8 0, .pointer none] 36)).alloc (by simp) (.cells row 59)).alloc (by simp; omega) (.cells #[.int .i64 4, .int .u8 0, .pointer (some ⟨w.heap.size + 1, 0, none⟩)] 36)
    have Q0 := Lib.hid q0; have Q1 := Lib.hid q1; have Q2 := Lib.hid q2; have HB0 := Lib.hid hb0
    clear q0 q1 q2 hb0
    have HKE := Lib.hid (show K0 = 4 by
      have h1 := HKS.out
      have h2 := HQ.out
      by_cases h3 : F = i + 2
      · first | (rw [if_pos h3] at h1; exact h1) | (exfalso; subst h3; simp at h2)
      · first | (rw [if_neg h3] at h1; exact h1) | (exfalso; simp at h2; omega))
    go_enter Try.func25, Try.ntmps25
    go_wp2_with fail
    generalize hW0 : (((w.alloc (.cells #[.int .i64 0, .int .u8 0, .pointer none] 36)).alloc (.cells row 59)).alloc (.cells #[.int .i64 4, .int .u8 0, .pointer (some ⟨w.heap.size + 1, 0, none⟩)] 36)) = W0 at Q0 Q1 Q2 HB0 ⊢
    clear hW0 hq
    have hs0 : w.heap.size + 2 < W0.heap.size := (Array.getElem?_eq_some_iff.1 Q2.out).1
    go_loopw [9] (fun x wr => ∃ k : Nat, F + 1 ≤ k ∧ k ≤ e ∧ x = .int .i64 k ∧ Below W0.heap.size W0 wr) (fun x _ => e - (intOf x).toNat)
    case atStart => exact ⟨F + 1, Nat.le_refl _, by omega, rfl, Below.refl _ _⟩
    case round =>
      obtain ⟨k, hk1, hk2, rfl, hbw⟩ := hrel
      have HW := Lib.hid hbw
      have hws := hbw.size
      clear hbw
      obtain ⟨b, o, ha, hb, c0, c1⟩ := (H.out.below (HB0.out.trans (HW.out.mono HB0.out.size))).get (i := k) (by omega)
      subst ha
      by_cases hke : k < e
      · have HE := Lib.hid (show ((at' l k).1 == 93 && !(at' l k).2) = false from HN.out k (by omega) hke)
        revert c0 c1 HE
        generalize (at' l k).1 = x
        generalize (at' l k).2 = q
        intro c0 c1 HE
        go_wp2_with fail
        refine (is_any x q 93 _).mono ?_
        rintro r w1 ⟨rfl, hb1⟩
        rw [HE.out]
        have HB1 := Lib.hid (HW.out.trans (hb1.mono hws)); clear hb1
        go_wp2_with fail
        go_roundw
        case rel => exact ⟨k + 1, by omega, by omega, by go_num, HB1.out⟩
        case measure => simp [intOf]; omega
      · obtain rfl : k = e := by omega
        have HE := Lib.hid (show ((at' l k).1 == 93 && !(at' l k).2) = true from H93.out)
        revert c0 c1 HE
        generalize (at' l k).1 = x
        generalize (at' l k).2 = q
        intro c0 c1 HE
        go_wp2_with fail
        refine (is_any x q 93 _).mono ?_
        rintro r w1 ⟨rfl, hb1⟩
        rw [HE.out]
        have HB1 := Lib.hid (HW.out.trans (hb1.mono hws)); clear hb1
        go_wp2_with fail
        have q0 := (HB1.out.block _ (show w.heap.size < W0.heap.size by omega)).trans Q0.out
        have q1 := (HB1.out.block _ (show w.heap.size + 1 < W0.heap.size by omega)).trans Q1.out
        have q2 := (HB1.out.block _ hs0).trans Q2.out
        have P0 := Lib.hid q0; have P2 := Lib.hid q2; have P1 := Lib.hid q1
        have HB2 := Lib.hid (HB0.out.trans (HB1.out.mono HB0.out.size))
        have PB := Lib.hid (show BOwn w1 (w.heap.size + 1) 256 (fun _ => false) from ⟨⟨(Array.getElem?_eq_some_iff.1 q1).1, fun c hc => by rw [Nat.zero_add]; exact (Lib.cell_of_heap q1 c).trans (hr0 c hc)⟩, fun j => frozen_of_row _ _ _ _ _ q1⟩)
        clear q0 q1 q2 c0 c1 hb hws
        go_loopw [1] (fun v wr => ∃ (j : Nat) (S : Nat → Bool), F ≤ j ∧ j ≤ k ∧ v = .int .i64 j ∧ wr.heap[w.heap.size + 1 + 1]? = some (.cells #[.int .i64 4, .int .u8 0, .pointer (some ⟨w.heap.size + 1, 0, none⟩)] 36 (0, 0)) ∧
          wr.heap[w.heap.size]? = some (.cells #[.int .i64 0, .int .u8 0, .pointer none] 36 (0, 0)) ∧ BOwn wr (w.heap.size + 1) 256 S ∧ (∀ c, (S c || hasF l k c (l.length + 1) j) = hasF l k c (l.length + 1) F) ∧ Below w.heap.size w wr) (fun v _ => k - (intOf v).toNat)
        case atStart => exact ⟨F, fun _ => false, Nat.le_refl _, by omega, rfl, P2.out, P0.out, PB.out, fun c => by simp, HB2.out⟩
        case round =>
          obtain ⟨j, S, hj1, hj2, rfl, r2, r0, hbo, hsf, hbw⟩ := hrel
          have R0 := Lib.hid r0; have R2 := Lib.hid r2; have HBO := Lib.hid hbo; have HSF := Lib.hid hsf; have HWB := Lib.hid hbw
          have hws := hbw.size
          have m2 := Lib.cell_of_heap r2 2
          have hlt2 := (Array.getElem?_eq_some_iff.1 r2).1
          have hlt0 := (Array.getElem?_eq_some_iff.1 r0).1
          have HSG := Lib.hid (H.out.below hbw)
          clear r0 r2 hbo hsf hbw
          by_cases hjk : j < k
          · have HMI := Lib.hid (mem_in hj1 H93.out HN.out hjk)
            obtain ⟨b', o', ha', hb, a0, a1⟩ := HSG.out.get (i := j) (by omega)
            cases ha'
            have HXB := Lib.hid (HBY.out j (by omega))
            have hjl : j < l.length := by omega
            by_cases hj3 : j + 2 < k
            · obtain ⟨b', o', ha', _, z0, z1⟩ := HSG.out.get (i := j + 1) (by omega)
              cases ha'
              obtain ⟨b', o', ha', _, y0, y1⟩ := HSG.out.get (i := j + 2) (by omega)
              cases ha'
              have HYB := Lib.hid (HBY.out (j + 2) (by omega))
              have hjl2 : j + 2 < l.length := by omega
              have hwr : IntKind.i64.wrap ((j : Int) + 2) = (j : Int) + 2 := wrapW _ (by omega) (by omega)
              have htn : ((j : Int) + 2).toNat = j + 2 := by omega
              have hg1 : (0 : Int) ≤ (j : Int) + 2 := by omega
              have hg2 : (j : Int) + 2 < (l.length : Int) := by omega
              clear a1 y1
              cases hz1 : isAt l (j + 1) 45
              · have HM := Lib.hid (HMI.out.2.1 hj3 hz1)
                have HZ := Lib.hid (show ((at' l (j + 1)).1 == 45 && !(at' l (j + 1)).2) = false from hz1)
                clear hz1 y0
                go_wp2_with fail
                refine (is_any (at' l (j + 1)).1 (at' l (j + 1)).2 45 _).mono ?_
                rintro r w3 ⟨rfl, hb3⟩
                rw [HZ.out]
                replace R0 := Lib.hid ((hb3.block _ hlt0).trans R0.out)
                replace R2 := Lib.hid ((hb3.block _ hlt2).trans R2.out)
                replace HBO := Lib.hid (HBO.out.below hb3)
                replace HWB := Lib.hid (HWB.out.trans (hb3.mono hws))
                replace m2 := Lib.cell_of_heap R2.out 2
                replace a0 := (hb3.cell (p := ⟨b, o + j * 2, none⟩) hb).trans a0
                clear hb3
                go_wp2_with fail
                have HST := Lib.hid (fun c => show hasF l k c (l.length + 1) j = (decide ((at' l j).1 ≤ c ∧ c ≤ (at' l j).1) || hasF l k c (l.length + 1) (j + 1)) by
                  have h := hasF_step (c := c) hjk (Nat.le_of_lt hel)
                  rwa [HM.out, show j + 1 - 1 = j by omega] at h)
                refine RN.begins (fun w' => w'.cell? ⟨w.heap.size + 1 + 1, 2, none⟩ = some (.pointer (some ⟨w.heap.size + 1, 0, none⟩)) ∧ w'.cell? ⟨b, o + j * 2, none⟩ = some (.int .u8 ((at' l j).1 : Int))) [12] (by kernel_rfl) ?_
                have hS : w3.drew.cell? ⟨w.heap.size + 1 + 1, 2, none⟩ = some (.pointer (some ⟨w.heap.size + 1, 0, none⟩)) ∧ w3.drew.cell? ⟨b, o + j * 2, none⟩ = some (.int .u8 ((at' l j).1 : Int)) := ⟨m2, a0⟩
                refine RN.take (i := 0) (v := ?_) rfl (by decide) (by kernel_rfl) (by kernel_rfl) (by kernel_rfl) (by kernel_rfl) (by kernel_rfl) (by first | exact fun _ _ _ h => h | exact fun _ _ _ h => (by cases h.1) | exact fun _ _ _ h => door_put (by decide) h) (.inl ⟨by rfl, ?_⟩) hS ?_
                rotate_left 1
                · (intro wq hq; obtain ⟨s0, s1⟩ := hq; go_simp; try with_reducible rfl)
                refine RN.take (i := 1) (v := ?_) rfl (by decide) (by kernel_rfl) (by kernel_rfl) (by kernel_rfl) (by kernel_rfl) (by kernel_rfl) (by first | exact fun _ _ _ h => h | exact fun _ _ _ h => (by cases h.1) | exact fun _ _ _ h => door_put (by decide) h) (.inl ⟨by rfl, ?_⟩) hS ?_
                rotate_left 1
                · (intro wq hq; obtain ⟨s0, s1⟩ := hq; go_simp; try with_reducible rfl)
                refine RN.take (i := 2) (v := ?_) rfl (by decide) (by kernel_rfl) (by kernel_rfl) (by kernel_rfl) (by kernel_rfl) (by kernel_rfl) (by first | exact fun _ _ _ h => h | exact fun _ _ _ h => (by cases h.1) | exact fun _ _ _ h => door_put (by decide) h) (.inl ⟨by rfl, ?_⟩) hS ?_
                rotate_left 1
                · (intro wq hq; obtain ⟨s0, s1⟩ := hq; go_simp; try with_reducible rfl)
                refine RN.take (i := 3) (v := ?_) rfl (by decide) (by kernel_rfl) (by kernel_rfl) (by kernel_rfl) (by kernel_rfl) (by kernel_rfl) (by first | exact fun _ _ _ h => h | exact fun _ _ _ h => (by cases h.1) | exact fun _ _ _ h => door_put (by decide) h) (.inl ⟨by rfl, ?_⟩) hS ?_
                rotate_left 1
                · (intro wq hq; obtain ⟨s0, s1⟩ := hq; go_simp; try with_reducible rfl)
                refine RN.take (i := 4) (v := ?_) rfl (by decide) (by kernel_rfl) (by kernel_rfl) (by kernel_rfl) (by kernel_rfl) (by kernel_rfl) (by first | exact fun _ _ _ h => h | exact fun _ _ _ h => (by cases h.1) | exact fun _ _ _ h => door_put (by decide) h) (.inl ⟨by rfl, ?_⟩) hS ?_
                rotate_left 1
                · (intro wq hq; obtain ⟨s0, s1⟩ := hq; go_simp; try with_reducible rfl)
                refine RN.take (i := 5) (v := ?_) rfl (by decide) (by kernel_rfl) (by kernel_rfl) (by kernel_rfl) (by kernel_rfl) (by kernel_rfl) (by first | exact fun _ _ _ h => h | exact fun _ _ _ h => (by cases h.1) | exact fun _ _ _ h => door_put (by decide) h) (.inl ⟨by rfl, ?_⟩) hS ?_
                rotate_left 1
                · (intro wq hq; obtain ⟨s0, s1⟩ := hq; go_simp; try with_reducible rfl)
                refine RN.take (i := 6) (v := ?_) rfl (by decide) (by kernel_rfl) (by kernel_rfl) (by kernel_rfl) (by kernel_rfl) (by kernel_rfl) (by first | exact fun _ _ _ h => h | exact fun _ _ _ h => (by cases h.1) | exact fun _ _ _ h => door_put (by decide) h) (.inl ⟨by rfl, ?_⟩) hS ?_
                rotate_left 1
                · (intro wq hq; obtain ⟨s0, s1⟩ := hq; go_simp; try with_reducible rfl)
                refine RN.take (i := 7) (v := ?_) rfl (by decide) (by kernel_rfl) (by kernel_rfl) (by kernel_rfl) (by kernel_rfl) (by kernel_rfl) (by first | exact fun _ _ _ h => h | exact fun _ _ _ h => (by cases h.1) | exact fun _ _ _ h => door_put (by decide) h) (.inl ⟨by rfl, ?_⟩) hS ?_
                rotate_left 1
                · (intro wq hq; obtain ⟨s0, s1⟩ := hq; go_simp; try with_reducible rfl)
                refine RN.take (i := 8) (v := ?_) rfl (by decide) (by kernel_rfl) (by kernel_rfl) (by kernel_rfl) (by kernel_rfl) (by kernel_rfl) (by first | exact fun _ _ _ h => h | exact fun _ _ _ h => (by cases h.1) | exact fun _ _ _ h => door_put (by decide) h) (.inl ⟨by rfl, ?_⟩) hS ?_
                rotate_left 1
                · (intro wq hq; obtain ⟨s0, s1⟩ := hq; go_simp; try with_reducible rfl)
                refine RN.take (i := 9) (v := ?_) rfl (by decide) (by kernel_rfl) (by kernel_rfl) (by kernel_rfl) (by kernel_rfl) (by kernel_rfl) (by first | exact fun _ _ _ h => h | exact fun _ _ _ h => (by cases h.1) | exact fun _ _ _ h => door_put (by decide) h) (.inl ⟨by rfl, ?_⟩) hS ?_
                rotate_left 1
                · (intro wq hq; obtain ⟨s0, s1⟩ := hq; go_simp; try with_reducible rfl)
                refine RN.take (i := 10) (v := ?_) rfl (by decide) (by kernel_rfl) (by kernel_rfl) (by kernel_rfl) (by kernel_rfl) (by kernel_rfl) (by first | exact fun _ _ _ h => h | exact fun _ _ _ h => (by cases h.1) | exact fun _ _ _ h => door_put (by decide) h) (.inl ⟨by rfl, ?_⟩) hS ?_
                rotate_left 1
                · (intro wq hq; obtain ⟨s0, s1⟩ := hq; go_simp; try with_reducible rfl)
                refine RN.take (i := 11) (v := ?_) rfl (by decide) (by kernel_rfl) (by kernel_rfl) (by kernel_rfl) (by kernel_rfl) (by kernel_rfl) (by first | exact fun _ _ _ h => h | exact fun _ _ _ h => (by cases h.1) | exact fun _ _ _ h => door_put (by decide) h) (.inl ⟨by rfl, ?_⟩) hS ?_
                rotate_left 1
                · (intro wq hq; obtain ⟨s0, s1⟩ := hq; go_simp; try with_reducible rfl)
                refine RN.all (rs := [12]) (by kernel_rfl) (by simp) ?_
                refine RN.All.cons rfl (fun K hK => ?_) RN.All.nil
                go_simp
                refine (add_any (w.heap.size + 1) (at' l j).1 (at' l j).1 S w3.drew HBO.out HXB.out HXB.out).mono ?_
                rintro r w4 ⟨rfl, hbo, hoth, hb4⟩
                refine hK _ _ (fun h => absurd h (by decide)) ?_
                clear hK K
                refine RN.done (by kernel_rfl) ?_ _
                have HBO4 := Lib.hid hbo
                have HB4 := Lib.hid ((drewn HWB.out).trans (hb4.mono (Nat.le_succ _)))
                have HR0 := Lib.hid ((hoth w.heap.size (by omega)).trans R0.out)
                have HR2 := Lib.hid ((hoth (w.heap.size + 1 + 1) (by omega)).trans R2.out)
                clear hbo hoth hb4 hS m2 a0
                go_wp2_with fail
                go_roundw
                case rel => exact ⟨j + 1, _, by omega, by omega, by go_num, HR2.out, HR0.out, HBO4.out, fun c => has_more (HSF.out c) (HST.out c), HB4.out⟩
                case measure => simp [intOf]; omega
              · have HM := Lib.hid (HMI.out.1 hj3 hz1)
                have HZ := Lib.hid (show ((at' l (j + 1)).1 == 45 && !(at' l (j + 1)).2) = true from hz1)
                clear hz1
                go_wp2_with fail
                refine (is_any (at' l (j + 1)).1 (at' l (j + 1)).2 45 _).mono ?_
                rintro r w3 ⟨rfl, hb3⟩
                rw [HZ.out]
                replace R0 := Lib.hid ((hb3.block _ hlt0).trans R0.out)
                replace R2 := Lib.hid ((hb3.block _ hlt2).trans R2.out)
                replace HBO := Lib.hid (HBO.out.below hb3)
                replace HWB := Lib.hid (HWB.out.trans (hb3.mono hws))
                replace m2 := Lib.cell_of_heap R2.out 2
                replace a0 := (hb3.cell (p := ⟨b, o + j * 2, none⟩) hb).trans a0
                replace y0 := (hb3.cell (p := ⟨b, o + (j + 2) * 2, none⟩) hb).trans y0
                clear hb3
                go_wp2_with fail
                have HST := Lib.hid (fun c => show hasF l k c (l.length + 1) j = (decide ((at' l j).1 ≤ c ∧ c ≤ (at' l (j + 2)).1) || hasF l k c (l.length + 1) (j + 3)) by
                  have h := hasF_step (c := c) hjk (Nat.le_of_lt hel)
                  rwa [HM.out, show j + 3 - 1 = j + 2 by omega] at h)
                refine RN.begins (fun w' => w'.cell? ⟨w.heap.size + 1 + 1, 2, none⟩ = some (.pointer (some ⟨w.heap.size + 1, 0, none⟩)) ∧ w'.cell? ⟨b, o + j * 2, none⟩ = some (.int .u8 ((at' l j).1 : Int)) ∧ w'.cell? ⟨b, o + (j + 2) * 2, none⟩ = some (.int .u8 ((at' l (j + 2)).1 : Int))) [13] (by kernel_rfl) ?_
                have hS : w3.drew.cell? ⟨w.heap.size + 1 + 1, 2, none⟩ = some (.pointer (some ⟨w.heap.size + 1, 0, none⟩)) ∧ w3.drew.cell? ⟨b, o + j * 2, none⟩ = some (.int .u8 ((at' l j).1 : Int)) ∧ w3.drew.cell? ⟨b, o + (j + 2) * 2, none⟩ = some (.int .u8 ((at' l (j + 2)).1 : Int)) := ⟨m2, a0, y0⟩
                refine RN.take (i := 0) (v := ?_) rfl (by decide) (by kernel_rfl) (by kernel_rfl) (by kernel_rfl) (by kernel_rfl) (by kernel_rfl) (by first | exact fun _ _ _ h => h | exact fun _ _ _ h => (by cases h.1) | exact fun _ _ _ h => door_put (by decide) h) (.inl ⟨by rfl, ?_⟩) hS ?_
                rotate_left 1
                · (intro wq hq; obtain ⟨s0, s1, s2⟩ := hq; go_simp; try with_reducible rfl)
                refine RN.take (i := 1) (v := ?_) rfl (by decide) (by kernel_rfl) (by kernel_rfl) (by kernel_rfl) (by kernel_rfl) (by kernel_rfl) (by first | exact fun _ _ _ h => h | exact fun _ _ _ h => (by cases h.1) | exact fun _ _ _ h => door_put (by decide) h) (.inl ⟨by rfl, ?_⟩) hS ?_
                rotate_left 1
                · (intro wq hq; obtain ⟨s0, s1, s2⟩ := hq; go_simp; try with_reducible rfl)
                refine RN.take (i := 2) (v := ?_) rfl (by decide) (by kernel_rfl) (by kernel_rfl) (by kernel_rfl) (by kernel_rfl) (by kernel_rfl) (by first | exact fun _ _ _ h => h | exact fun _ _ _ h => (by cases h.1) | exact fun _ _ _ h => door_put (by decide) h) (.inl ⟨by rfl, ?_⟩) hS ?_
                rotate_left 1
                · (intro wq hq; obtain ⟨s0, s1, s2⟩ := hq; go_simp; try with_reducible rfl)
                refine RN.take (i := 3) (v := ?_) rfl (by decide) (by kernel_rfl) (by kernel_rfl) (by kernel_rfl) (by kernel_rfl) (by kernel_rfl) (by first | exact fun _ _ _ h => h | exact fun _ _ _ h => (by cases h.1) | exact fun _ _ _ h => door_put (by decide) h) (.inl ⟨by rfl, ?_⟩) hS ?_
                rotate_left 1
                · (intro wq hq; obtain ⟨s0, s1, s2⟩ := hq; go_simp; try with_reducible rfl)
                refine RN.take (i := 4) (v := ?_) rfl (by decide) (by kernel_rfl) (by kernel_rfl) (by kernel_rfl) (by kernel_rfl) (by kernel_rfl) (by first | exact fun _ _ _ h => h | exact fun _ _ _ h => (by cases h.1) | exact fun _ _ _ h => door_put (by decide) h) (.inl ⟨by rfl, ?_⟩) hS ?_
                rotate_left 1
                · (intro wq hq; obtain ⟨s0, s1, s2⟩ := hq; go_simp; try with_reducible rfl)
                refine RN.take (i := 5) (v := ?_) rfl (by decide) (by kernel_rfl) (by kernel_rfl) (by kernel_rfl) (by kernel_rfl) (by kernel_rfl) (by first | exact fun _ _ _ h => h | exact fun _ _ _ h => (by cases h.1) | exact fun _ _ _ h => door_put (by decide) h) (.inl ⟨by rfl, ?_⟩) hS ?_
                rotate_left 1
                · (intro wq hq; obtain ⟨s0, s1, s2⟩ := hq; go_simp; try with_reducible rfl)
                refine RN.take (i := 6) (v := ?_) rfl (by decide) (by kernel_rfl) (by kernel_rfl) (by kernel_rfl) (by kernel_rfl) (by kernel_rfl) (by first | exact fun _ _ _ h => h | exact fun _ _ _ h => (by cases h.1) | exact fun _ _ _ h => door_put (by decide) h) (.inl ⟨by rfl, ?_⟩) hS ?_
                rotate_left 1
                · (intro wq hq; obtain ⟨s0, s1, s2⟩ := hq; go_simp; try with_reducible rfl)
                refine RN.take (i := 7) (v := ?_) rfl (by decide) (by kernel_rfl) (by kernel_rfl) (by kernel_rfl) (by kernel_rfl) (by kernel_rfl) (by first | exact fun _ _ _ h => h | exact fun _ _ _ h => (by cases h.1) | exact fun _ _ _ h => door_put (by decide) h) (.inl ⟨by rfl, ?_⟩) hS ?_
                rotate_left 1
                · (intro wq hq; obtain ⟨s0, s1, s2⟩ := hq; go_simp; try with_reducible rfl)
                refine RN.take (i := 8) (v := ?_) rfl (by decide) (by kernel_rfl) (by kernel_rfl) (by kernel_rfl) (by kernel_rfl) (by kernel_rfl) (by first | exact fun _ _ _ h => h | exact fun _ _ _ h => (by cases h.1) | exact fun _ _ _ h => door_put (by decide) h) (.inl ⟨by rfl, ?_⟩) hS ?_
                rotate_left 1
                · (intro wq hq; obtain ⟨s0, s1, s2⟩ := hq; go_simp; try with_reducible rfl)
                refine RN.take (i := 9) (v := ?_) rfl (by decide) (by kernel_rfl) (by kernel_rfl) (by kernel_rfl) (by kernel_rfl) (by kernel_rfl) (by first | exact fun _ _ _ h => h | exact fun _ _ _ h => (by cases h.1) | exact fun _ _ _ h => door_put (by decide) h) (.inl ⟨by rfl, ?_⟩) hS ?_
                rotate_left 1
                · (intro wq hq; obtain ⟨s0, s1, s2⟩ := hq; go_simp; try with_reducible rfl)
                refine RN.take (i := 10) (v := ?_) rfl (by decide) (by kernel_rfl) (by kernel_rfl) (by kernel_rfl) (by kernel_rfl) (by kernel_rfl) (by first | exact fun _ _ _ h => h | exact fun _ _ _ h => (by cases h.1) | exact fun _ _ _ h => door_put (by decide) h) (.inl ⟨by rfl, ?_⟩) hS ?_
                rotate_left 1
                · (intro wq hq; obtain ⟨s0, s1, s2⟩ := hq; go_simp; try with_reducible rfl)
                refine RN.take (i := 11) (v := ?_) rfl (by decide) (by kernel_rfl) (by kernel_rfl) (by kernel_rfl) (by kernel_rfl) (by kernel_rfl) (by first | exact fun _ _ _ h => h | exact fun _ _ _ h => (by cases h.1) | exact fun _ _ _ h => door_put (by decide) h) (.inl ⟨by rfl, ?_⟩) hS ?_
                rotate_left 1
                · (intro wq hq; obtain ⟨s0, s1, s2⟩ := hq; go_simp; try with_reducible rfl)
                refine RN.take (i := 12) (v := ?_) rfl (by decide) (by kernel_rfl) (by kernel_rfl) (by kernel_rfl) (by kernel_rfl) (by kernel_rfl) (by first | exact fun _ _ _ h => h | exact fun _ _ _ h => (by cases h.1) | exact fun _ _ _ h => door_put (by decide) h) (.inl ⟨by rfl, ?_⟩) hS ?_
                rotate_left 1
                · (intro wq hq; obtain ⟨s0, s1, s2⟩ := hq; go_simp; try with_reducible rfl)
                refine RN.all (rs := [13]) (by kernel_rfl) (by simp) ?_
                refine RN.All.cons rfl (fun K hK => ?_) RN.All.nil
                go_simp
                refine (add_any (w.heap.size + 1) (at' l j).1 (at' l (j + 2)).1 S w3.drew HBO.out HXB.out HYB.out).mono ?_
                rintro r w4 ⟨rfl, hbo, hoth, hb4⟩
                refine hK _ _ (fun h => absurd h (by decide)) ?_
                clear hK K
                refine RN.done (by kernel_rfl) ?_ _
                have HBO4 := Lib.hid hbo
                have HB4 := Lib.hid ((drewn HWB.out).trans (hb4.mono (Nat.le_succ _)))
                have HR0 := Lib.hid ((hoth w.heap.size (by omega)).trans R0.out)
                have HR2 := Lib.hid ((hoth (w.heap.size + 1 + 1) (by omega)).trans R2.out)
                clear hbo hoth hb4 hS m2 a0
                go_wp2_with fail
                go_roundw
                case rel => exact ⟨j + 3, _, by omega, by omega, by go_num, HR2.out, HR0.out, HBO4.out, fun c => has_more (HSF.out c) (HST.out c), HB4.out⟩
                case measure => simp [intOf]; omega
            · have HM := Lib.hid (HMI.out.2.2 hj3)
              clear a1
              go_wp2_with fail
              have HST := Lib.hid (fun c => show hasF l k c (l.length + 1) j = (decide ((at' l j).1 ≤ c ∧ c ≤ (at' l j).1) || hasF l k c (l.length + 1) (j + 1)) by
                have h := hasF_step (c := c) hjk (Nat.le_of_lt hel)
                rwa [HM.out, show j + 1 - 1 = j by omega] at h)
              refine RN.begins (fun w' => w'.cell? ⟨w.heap.size + 1 + 1, 2, none⟩ = some (.pointer (some ⟨w.heap.size + 1, 0, none⟩)) ∧ w'.cell? ⟨b, o + j * 2, none⟩ = some (.int .u8 ((at' l j).1 : Int))) [12] (by kernel_rfl) ?_
              have hS : wr.drew.cell? ⟨w.heap.size + 1 + 1, 2, none⟩ = some (.pointer (some ⟨w.heap.size + 1, 0, none⟩)) ∧ wr.drew.cell? ⟨b, o + j * 2, none⟩ = some (.int .u8 ((at' l j).1 : Int)) := ⟨m2, a0⟩
              refine RN.take (i := 0) (v := ?_) rfl (by decide) (by kernel_rfl) (by kernel_rfl) (by kernel_rfl) (by kernel_rfl) (by kernel_rfl) (by first | exact fun _ _ _ h => h | exact fun _ _ _ h => (by cases h.1) | exact fun _ _ _ h => door_put (by decide) h) (.inl ⟨by rfl, ?_⟩) hS ?_
              rotate_left 1
              · (intro wq hq; obtain ⟨s0, s1⟩ := hq; go_simp; try with_reducible rfl)
              refine RN.take (i := 1) (v := ?_) rfl (by decide) (by kernel_rfl) (by kernel_rfl) (by kernel_rfl) (by kernel_rfl) (by kernel_rfl) (by first | exact fun _ _ _ h => h | exact fun _ _ _ h => (by cases h.1) | exact fun _ _ _ h => door_put (by decide) h) (.inl ⟨by rfl, ?_⟩) hS ?_
              rotate_left 1
              · (intro wq hq; obtain ⟨s0, s1⟩ := hq; go_simp; try with_reducible rfl)
              refine RN.take (i := 2) (v := ?_) rfl (by decide) (by kernel_rfl) (by kernel_rfl) (by kernel_rfl) (by kernel_rfl) (by kernel_rfl) (by first | exact fun _ _ _ h => h | exact fun _ _ _ h => (by cases h.1) | exact fun _ _ _ h => door_put (by decide) h) (.inl ⟨by rfl, ?_⟩) hS ?_
              rotate_left 1
              · (intro wq hq; obtain ⟨s0, s1⟩ := hq; go_simp; try with_reducible rfl)
              refine RN.take (i := 3) (v := ?_) rfl (by decide) (by kernel_rfl) (by kernel_rfl) (by kernel_rfl) (by kernel_rfl) (by kernel_rfl) (by first | exact fun _ _ _ h => h | exact fun _ _ _ h => (by cases h.1) | exact fun _ _ _ h => door_put (by decide) h) (.inl ⟨by rfl, ?_⟩) hS ?_
              rotate_left 1
              · (intro wq hq; obtain ⟨s0, s1⟩ := hq; go_simp; try with_reducible rfl)
              refine RN.take (i := 4) (v := ?_) rfl (by decide) (by kernel_rfl) (by kernel_rfl) (by kernel_rfl) (by kernel_rfl) (by kernel_rfl) (by first | exact fun _ _ _ h => h | exact fun _ _ _ h => (by cases h.1) | exact fun _ _ _ h => door_put (by decide) h) (.inl ⟨by rfl, ?_⟩) hS ?_
              rotate_left 1
              · (intro wq hq; obtain ⟨s0, s1⟩ := hq; go_simp; try with_reducible rfl)
              refine RN.take (i := 5) (v := ?_) rfl (by decide) (by kernel_rfl) (by kernel_rfl) (by kernel_rfl) (by kernel_rfl) (by kernel_rfl) (by first | exact fun _ _ _ h => h | exact fun _ _ _ h => (by cases h.1) | exact fun _ _ _ h => door_put (by decide) h) (.inl ⟨by rfl, ?_⟩) hS ?_
              rotate_left 1
              · (intro wq hq; obtain ⟨s0, s1⟩ := hq; go_simp; try with_reducible rfl)
              refine RN.take (i := 6) (v := ?_) rfl (by decide) (by kernel_rfl) (by kernel_rfl) (by kernel_rfl) (by kernel_rfl) (by kernel_rfl) (by first | exact fun _ _ _ h => h | exact fun _ _ _ h => (by cases h.1) | exact fun _ _ _ h => door_put (by decide) h) (.inl ⟨by rfl, ?_⟩) hS ?_
              rotate_left 1
              · (intro wq hq; obtain ⟨s0, s1⟩ := hq; go_simp; try with_reducible rfl)
              refine RN.take (i := 7) (v := ?_) rfl (by decide) (by kernel_rfl) (by kernel_rfl) (by kernel_rfl) (by kernel_rfl) (by kernel_rfl) (by first | exact fun _ _ _ h => h | exact fun _ _ _ h => (by cases h.1) | exact fun _ _ _ h => door_put (by decide) h) (.inl ⟨by rfl, ?_⟩) hS ?_
              rotate_left 1
              · (intro wq hq; obtain ⟨s0, s1⟩ := hq; go_simp; try with_reducible rfl)
              refine RN.take (i := 8) (v := ?_) rfl (by decide) (by kernel_rfl) (by kernel_rfl) (by kernel_rfl) (by kernel_rfl) (by kernel_rfl) (by first | exact fun _ _ _ h => h | exact fun _ _ _ h => (by cases h.1) | exact fun _ _ _ h => door_put (by decide) h) (.inl ⟨by rfl, ?_⟩) hS ?_
              rotate_left 1
              · (intro wq hq; obtain ⟨s0, s1⟩ := hq; go_simp; try with_reducible rfl)
              refine RN.take (i := 9) (v := ?_) rfl (by decide) (by kernel_rfl) (by kernel_rfl) (by kernel_rfl) (by kernel_rfl) (by kernel_rfl) (by first | exact fun _ _ _ h => h | exact fun _ _ _ h => (by cases h.1) | exact fun _ _ _ h => door_put (by decide) h) (.inl ⟨by rfl, ?_⟩) hS ?_
              rotate_left 1
              · (intro wq hq; obtain ⟨s0, s1⟩ := hq; go_simp; try with_reducible rfl)
              refine RN.take (i := 10) (v := ?_) rfl (by decide) (by kernel_rfl) (by kernel_rfl) (by kernel_rfl) (by kernel_rfl) (by kernel_rfl) (by first | exact fun _ _ _ h => h | exact fun _ _ _ h => (by cases h.1) | exact fun _ _ _ h => door_put (by decide) h) (.inl ⟨by rfl, ?_⟩) hS ?_
              rotate_left 1
              · (intro wq hq; obtain ⟨s0, s1⟩ := hq; go_simp; try with_reducible rfl)
              refine RN.take (i := 11) (v := ?_) rfl (by decide) (by kernel_rfl) (by kernel_rfl) (by kernel_rfl) (by kernel_rfl) (by kernel_rfl) (by first | exact fun _ _ _ h => h | exact fun _ _ _ h => (by cases h.1) | exact fun _ _ _ h => door_put (by decide) h) (.inl ⟨by rfl, ?_⟩) hS ?_
              rotate_left 1
              · (intro wq hq; obtain ⟨s0, s1⟩ := hq; go_simp; try with_reducible rfl)
              refine RN.all (rs := [12]) (by kernel_rfl) (by simp) ?_
              refine RN.All.cons rfl (fun K hK => ?_) RN.All.nil
              go_simp
              refine (add_any (w.heap.size + 1) (at' l j).1 (at' l j).1 S wr.drew HBO.out HXB.out HXB.out).mono ?_
              rintro r w4 ⟨rfl, hbo, hoth, hb4⟩
              refine hK _ _ (fun h => absurd h (by decide)) ?_
              clear hK K
              refine RN.done (by kernel_rfl) ?_ _
              have HBO4 := Lib.hid hbo
              have HB4 := Lib.hid ((drewn HWB.out).trans (hb4.mono (Nat.le_succ _)))
              have HR0 := Lib.hid ((hoth w.heap.size (by omega)).trans R0.out)
              have HR2 := Lib.hid ((hoth (w.heap.size + 1 + 1) (by omega)).trans R2.out)
              clear hbo hoth hb4 hS m2 a0
              go_wp2_with fail
              go_roundw
              case rel => exact ⟨j + 1, _, by omega, by omega, by go_num, HR2.out, HR0.out, HBO4.out, fun c => has_more (HSF.out c) (HST.out c), HB4.out⟩
              case measure => simp [intOf]; omega
          · obtain rfl : j = k := by omega
            have m0 := Lib.cell_of_heap R2.out 0
            have m1 := Lib.cell_of_heap R2.out 1
            have n0 := Lib.cell_of_heap R0.out 0
            have n1 := Lib.cell_of_heap R0.out 1
            have n2 := Lib.cell_of_heap R0.out 2
            have f0 : wr.frozen? ⟨w.heap.size, 0, none⟩ = false := frozen_of_row _ _ _ _ _ R0.out
            have f1 : wr.frozen? ⟨w.heap.size, 1, none⟩ = false := frozen_of_row _ _ _ _ _ R0.out
            have f2 : wr.frozen? ⟨w.heap.size, 2, none⟩ = false := frozen_of_row _ _ _ _ _ R0.out
            go_wp2_with fail
            have hf := put3 R0.out (.int .i64 4) (.int .u8 0) (.pointer (some ⟨w.heap.size + 1, 0, none⟩))
            have hk := keep3 wr w.heap.size (w.heap.size + 1) (by omega) (.int .i64 4) (.int .u8 0) (.pointer (some ⟨w.heap.size + 1, 0, none⟩))
            have hbf := ((HWB.out.setCell (p := ⟨w.heap.size, 0, none⟩) (Nat.le_refl _) (.int .i64 4)).setCell (p := ⟨w.heap.size, 1, none⟩) (Nat.le_refl _) (.int .u8 0)).setCell (p := ⟨w.heap.size, 2, none⟩) (Nat.le_refl _) (.pointer (some ⟨w.heap.size + 1, 0, none⟩))
            have hS2 : S = fun c => hasF l j c (l.length + 1) F := by
              funext c
              have := HSF.out c
              rwa [hasF_end (Nat.le_refl _), Bool.or_false] at this
            clear m0 m1 m2 n0 n1 n2 f0 f1 f2
            generalize ((wr.setCell ⟨w.heap.size, 0, none⟩ (.int .i64 4)).setCell ⟨w.heap.size, 1, none⟩ (.int .u8 0)).setCell ⟨w.heap.size, 2, none⟩ (.pointer (some ⟨w.heap.size + 1, 0, none⟩)) = U at hf hk hbf ⊢
            have x0 := Lib.cell_of_heap hf 0
            have x1 := Lib.cell_of_heap hf 1
            have x2 := Lib.cell_of_heap hf 2
            refine bodyPost_ret (v := .tuple #[.agg #[.int .i64 4, .int .u8 0, .pointer (some ⟨w.heap.size + 1, 0, none⟩)], .int .i64 ((j : Int) + 1)]) (by simp [results, Try.results25, go_sem, x0, x1, x2]) rfl ⟨w.heap.size + 1, ?_, Nat.le_succ _, ?_, hbf⟩
            · rw [HKE.out]; rfl
            · have hb5 := HBO.out.1
              rw [hS2] at hb5
              exact hb5.same hk (by omega)
end Pn
end Go.Proofs.Ytfjfgaefbldgbaa
