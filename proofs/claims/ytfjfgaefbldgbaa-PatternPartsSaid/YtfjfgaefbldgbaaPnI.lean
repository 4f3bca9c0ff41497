/- Patterns: what a pattern means, read. -/
import Derived.Test.YtfjfgaefbldgbaaPnH
import Derived.OwnWalk
import Derived.Deep.DeepAppendRoom
namespace Go.Proofs.Ytfjfgaefbldgbaa
open Go.RowKit
namespace Pn
/-- Where the meanings of a pattern begin. -/
def nxt (l : List Sg) (i : Nat) : Nat := match setEnd l i with | some e => e + 1 | none => i + 1
def starts (l : List Sg) : Nat → Nat → List Nat
  | 0, _ => []
  | f + 1, i => if i < l.length then i :: starts l f (nxt l i) else []
def mn (l : List Sg) (i : Nat) : Mn := match setEnd l i with | some e => .byte (hasB l i e) | none => one (at' l i)
theorem nxt_gt (l : List Sg) (i : Nat) : i < nxt l i := by
  unfold nxt
  cases h : setEnd l i with
  | none => exact Nat.lt_succ_self i
  | some e => have := (setEnd_is h).2.1; have := (firstAt_gt l i).1; show i < e + 1; omega
theorem units_starts (l : List Sg) : ∀ (f i : Nat), units l f i = (starts l f i).map (mn l)
  | 0, _ => rfl
  | f + 1, i => by
    rw [units, starts]
    split
    · rw [List.map_cons, ← units_starts l f, mn, nxt]
      cases setEnd l i <;> rfl
    · rfl
def S0 (l : List Sg) (i : Nat) : List Nat := starts l (l.length + 1) i
theorem U_starts (l : List Sg) (i : Nat) : U l i = (S0 l i).map (mn l) := units_starts l _ i
theorem starts_more {l : List Sg} : ∀ {f g i : Nat}, l.length < i + f → f ≤ g → starts l g i = starts l f i
  | 0, g, i, h, _ => by
    cases g with
    | zero => rfl
    | succ g => rw [starts, starts, if_neg (show ¬ i < l.length by omega)]
  | f + 1, 0, i, h, hg => by omega
  | f + 1, g + 1, i, h, hg => by
    have := nxt_gt l i
    rw [starts, starts]
    split
    · rw [starts_more (f := f) (g := g) (by omega) (by omega)]
    · rfl
theorem S0_step {l : List Sg} {i : Nat} (h : i < l.length) : S0 l i = i :: S0 l (nxt l i) := by
  have := nxt_gt l i
  rw [S0, starts, if_pos h, starts_more (f := l.length) (g := l.length) (by omega) (Nat.le_refl _), S0, starts_more (f := l.length) (g := l.length + 1) (by omega) (by omega)]
theorem S0_end {l : List Sg} {i : Nat} (h : l.length ≤ i) : S0 l i = [] := by rw [S0, starts, if_neg (by omega)]
theorem starts_lt {l : List Sg} : ∀ {f i j : Nat}, j ∈ starts l f i → j < l.length
  | 0, _, _, h => by cases h
  | f + 1, i, j, h => by
    rw [starts] at h
    split at h
    · rcases List.mem_cons.1 h with rfl | h
      · assumption
      · exact starts_lt h
    · cases h
theorem S0_len {l : List Sg} : ∀ (n i : Nat), l.length - i = n → (S0 l i).length ≤ n := by
  intro n
  induction n using Nat.strongRecOn with
  | _ n ih =>
    intro i hn
    by_cases h : i < l.length
    · have h1 := nxt_gt l i
      rw [S0_step h, List.length_cons]
      have := ih (l.length - nxt l i) (by omega) (nxt l i) rfl
      omega
    · rw [S0_end (by omega)]; simp
def kindAt (l : List Sg) (i : Nat) : Nat := match setEnd l i with | some _ => kindSet l i | none => kindOne (at' l i)
def byteAt (l : List Sg) (i : Nat) : Nat := match setEnd l i with | some _ => 0 | none => byteOne (at' l i)
/-- A pointer to a set, where there is one. -/
def SetP (w : World) (N : Nat → Prop) (l : List Sg) (i : Nat) (p : Option Addr) : Prop :=
  ∀ e, setEnd l i = some e → ∃ sb, p = some ⟨sb, 0, none⟩ ∧ N sb ∧ BAt w sb 0 256 (fun c => hasF l e c (l.length + 1) (firstAt l i))
/-- The cells of meanings. -/
def CM (w : World) (N : Nat → Prop) (l : List Sg) : List Nat → List Value → Prop
  | [], xs => xs = []
  | i :: r, xs => ∃ p ys, xs = .int .i64 (kindAt l i : Nat) :: .int .u8 (byteAt l i : Nat) :: .pointer p :: ys ∧ SetP w N l i p ∧ CM w N l r ys
theorem CM.app {w : World} {N : Nat → Prop} {l : List Sg} : ∀ {us vs : List Nat} {xs ys : List Value}, CM w N l us xs → CM w N l vs ys → CM w N l (us ++ vs) (xs ++ ys)
  | [], _, _, _, h, k => by cases h; exact k
  | _ :: _, _, _, ys, ⟨p, zs, hx, hs, h⟩, k => ⟨p, zs ++ ys, by subst hx; rfl, hs, CM.app h k⟩
theorem CM.len {w : World} {N : Nat → Prop} {l : List Sg} : ∀ {us : List Nat} {xs : List Value}, CM w N l us xs → xs.length = us.length * 3
  | [], _, h => by cases h; rfl
  | _ :: _, _, ⟨p, zs, hx, _, h⟩ => by subst hx; have := CM.len h; simp only [List.length_cons, this]; omega
theorem CM.keep {w w' : World} {N : Nat → Prop} {l : List Sg} (hb : ∀ b, N b → b < w.heap.size → w'.heap[b]? = w.heap[b]?) : ∀ {us : List Nat} {xs : List Value}, CM w N l us xs → CM w' N l us xs
  | [], _, h => h
  | _ :: _, _, ⟨p, zs, hx, hs, h⟩ => ⟨p, zs, hx, fun e he => by
      obtain ⟨sb, h1, h2, h3⟩ := hs e he
      exact ⟨sb, h1, h2, h3.same (hb sb h2 h3.1) (by omega)⟩, CM.keep hb h⟩
theorem own_keep {w w' : World} {base : Nat} {e : TypeId} {size : Nat} {v : Value} {n : Nat} {xs : List Value} (h : w.ownsRow base e size v n xs) (hk : ∀ g, v.ownBlock = some g → g < w.heap.size → w'.heap[g]? = w.heap[g]?) : w'.ownsRow base e size v n xs := by
  obtain ⟨h1, h2⟩ := h
  refine ⟨h1, ?_⟩
  rcases h2 with h2 | ⟨g, cap, cur, rfl, hb, hg, hr⟩
  · exact .inl h2
  · exact .inr ⟨g, cap, cur, rfl, hb, (hk g rfl (Array.getElem?_eq_some_iff.1 hg).1).trans hg, hr⟩
/-- A row's block is of the row's type. -/
theorem own_below {w w' : World} {base : Nat} {e : TypeId} {size : Nat} {v : Value} {n : Nat} {xs : List Value} (h : w.ownsRow base e size v n xs) (hb : Below w.heap.size w w') : w'.ownsRow base e size v n xs := own_keep h fun g _ hlt => hb.block g hlt
theorem CM.below {w w' : World} {N : Nat → Prop} {l : List Sg} (hb : Below w.heap.size w w') {us : List Nat} {xs : List Value} (h : CM w N l us xs) : CM w' N l us xs := h.keep fun b _ hlt => hb.block b hlt
theorem CM.mono {w : World} {N M : Nat → Prop} {l : List Sg} (hb : ∀ b, N b → M b) : ∀ {us : List Nat} {xs : List Value}, CM w N l us xs → CM w M l us xs
  | [], _, h => h
  | _ :: _, _, ⟨p, zs, hx, hs, h⟩ => ⟨p, zs, hx, fun e he => by
      obtain ⟨sb, h1, h2, h3⟩ := hs e he
      exact ⟨sb, h1, hb _ h2, h3⟩, CM.mono hb h⟩
theorem kindAt_set {l : List Sg} {i e : Nat} (h : setEnd l i = some e) : kindAt l i = kindSet l i ∧ byteAt l i = 0 ∧ nxt l i = e + 1 := by simp [kindAt, byteAt, nxt, h]
theorem kindAt_one {l : List Sg} {i : Nat} (h : setEnd l i = none) : kindAt l i = kindOne (at' l i) ∧ byteAt l i = byteOne (at' l i) ∧ nxt l i = i + 1 := by simp [kindAt, byteAt, nxt, h]
/-- Does a set begin here? -/
theorem begins_iff (l : List Sg) (i : Nat) : (setEnd l i).isSome = (isAt l i 91 && decide ((firstAt l i : Int) < lastI l l.length)) := by
  cases h1 : isAt l i 91
  · simp [setEnd, h1]
  · by_cases h2 : (firstAt l i : Int) < lastI l l.length
    · obtain ⟨j, hj1, hj2, hj3⟩ := lastI_some.1 h2
      rw [decide_eq_true h2]
      cases hs : setEnd l i with
      | some e => rfl
      | none =>
        rw [setEnd, if_pos h1] at hs
        have := closeAt_no hs j (by omega)
        rw [hj3] at this; cases this
    · rw [decide_eq_false h2]
      cases hs : setEnd l i with
      | none => rfl
      | some e =>
        obtain ⟨_, h3, h4, _⟩ := setEnd_is hs
        exact absurd (lastI_some.2 ⟨e, h3, isAt_lt h4, h4⟩) h2
theorem sg_byte (ps : List Pc) (j : Nat) : (at' (sg ps) j).1 < 256 := by
  have h : ∀ x ∈ sg ps, x.1 < 256 := by
    intro x hx
    simp only [sg, List.mem_flatMap] at hx
    obtain ⟨p, _, hx⟩ := hx
    unfold one1 at hx
    split at hx
    · cases hx
    · simp only [tb, List.mem_map] at hx
      obtain ⟨c, _, rfl⟩ := hx
      exact c.toNat_lt
  by_cases hj : j < (sg ps).length
  · rw [at', List.getD, List.getElem?_eq_getElem hj]
    exact h _ (List.getElem_mem hj)
  · rw [at', List.getD, List.getElem?_eq_none (by omega)]
    show 0 < 256
    omega
theorem infoMean : (Try.prog.info? 36).map (fun i => (i.zero, i.size, i.bytes)) = some (some (.agg #[.int .i64 0, .int .u8 0, .pointer none]), 3, 24) := by kernel_rfl
set_option maxHeartbeats 1600000 in
theorem read_any (a : Option Addr) (cap : Nat) (ps : List Pc) (w : World) (h : Pcs w a ps) (hw : weight ps ≤ 1000) :
    Calls Try.prog 13 #[.slice a ps.length cap] w fun e w' => (∃ g c xs, e = .returned (.slice (some ⟨g, 0, none⟩) (S0 (sg ps) 0).length c) ∧ w'.ownsRow w.heap.size 36 3 (.slice (some ⟨g, 0, none⟩) (S0 (sg ps) 0).length c) (S0 (sg ps) 0).length xs ∧ CM w' (fun _ => True) (sg ps) (S0 (sg ps) 0) xs) ∧ Below w.heap.size w w' := by
  obtain ⟨i0, hi, hz0, hz1, hz2⟩ := info_parts infoMean
  have H := Lib.hid h; clear h
  have HI := Lib.hid hi; have HZ0 := Lib.hid hz0; have HZ1 := Lib.hid hz1; have HZ2 := Lib.hid hz2
  clear hi hz0 hz1 hz2
  have hl : (sg ps).length ≤ 1000 := Nat.le_trans (sg_len ps) hw
  go_enter Try.func13, Try.ntmps13
  go_wp2_with fail
  refine (signs_any a cap ps w H.out hw).mono ?_
  rintro e w1 ⟨⟨v, rfl, hown⟩, hb1⟩
  obtain ⟨a1, c1, rfl, hs⟩ := sgs_own hown
  have HS := Lib.hid hs; have HB := Lib.hid hb1
  clear hown hs hb1
  generalize hl0 : sg ps = l at *
  have HL0 := Lib.hid hl0; clear hl0
  go_wp2_with fail
  refine (last_any l a1 c1 _ HS.out hl).mono ?_
  rintro e w2 ⟨rfl, hb2⟩
  have HB2 := Lib.hid (HB.out.trans (hb2.mono HB.out.size)); have HS2 := Lib.hid (HS.out.below hb2)
  clear hb2
  go_wp2_with (refine wpList_make_own _ rfl _ _ 31 rfl w.heap.size 36 i0 _ 3 Try.underlying31 HI.out HZ0.out HZ1.out .i64 .i64 _ l.length rfl rfl (by omega) ?d1 ?d2 ?d3 ?_)
  case d1 => rw [HZ2.out]; omega
  case d2 => unfold maxLen; omega
  case d3 => exact HB2.out.size
  intro w3 hown3 hgrow3
  have hb3 := (Below.refl _ w2).grown hgrow3 (Nat.le_refl _) (fun k hk => by cases hk)
  have hs3 : w2.heap.size < w3.heap.size := (hown3.lt _ rfl).2
  have HO3 := Lib.hid hown3; have HB3 := Lib.hid hb3
  have hle2 := HB2.out.size
  have HBY := Lib.hid (fun j (hj : j < l.length) => show (at' l j).1 < 256 by rw [← HL0.out]; exact sg_byte ps j)
  clear hown3 hgrow3 hb3
  go_wp2_with fail
  go_loopw [5, 6] (fun v x wr => ∃ (i : Nat) (D : List Nat) (xs : List Value), i ≤ l.length ∧ x = .int .i64 i ∧ v = .slice (some ⟨w2.heap.size, 0, none⟩) D.length l.length ∧ wr.ownsRow w.heap.size 36 3 (.slice (some ⟨w2.heap.size, 0, none⟩) D.length l.length) D.length xs ∧ CM wr (· ≠ w2.heap.size) l D xs ∧ D ++ S0 l i = S0 l 0 ∧ D.length ≤ i ∧ Below w2.heap.size w2 wr ∧ w2.heap.size < wr.heap.size) (fun _ x _ => l.length - (intOf x).toNat)
  case atStart => exact ⟨0, [], [], Nat.zero_le _, rfl, rfl, HO3.out, rfl, rfl, Nat.le_refl _, HB3.out, hs3⟩
  case round =>
    obtain ⟨i, D, xs, hi, rfl, rfl, hown, hcm, hap, hdl, hbw, hgl⟩ := hrel
    have HO := Lib.hid hown; have HC := Lib.hid hcm; have HAP := Lib.hid hap; have HW := Lib.hid hbw
    have HSG := Lib.hid (HS2.out.below hbw)
    have hws := hbw.size
    clear hown hcm hap hbw
    by_cases hlt : i < l.length
    · have HST := Lib.hid (S0_step hlt)
      have hBI := begins_iff l i
      cases hse : setEnd l i with
      | none =>
        have HSE := Lib.hid hse
        have HK := Lib.hid (kindAt_one hse)
        rw [hse] at hBI
        clear hse
        cases hq : isAt l i 91
        · have HQ := Lib.hid hq
          clear hq hBI
          go_wp2_with fail
          refine (firstM_any l a1 c1 i _ HSG.out hl (by omega)).mono ?_
          rintro e w4 ⟨rfl, hb4⟩
          have HB4 := Lib.hid (HW.out.trans (hb4.mono hws)); have HO4 := Lib.hid (own_below HO.out hb4); have HC4 := Lib.hid (HC.out.below hb4); have HS4 := Lib.hid (HSG.out.below hb4)
          have hgl4 : w2.heap.size < w4.heap.size := Nat.lt_of_lt_of_le hgl hb4.size
          have hws4 := HB4.out.size
          clear hb4
          obtain ⟨b, o, rfl, hb, e0, e1⟩ := HS4.out.get hlt
          go_wp2_with fail
          refine (is_any (at' l i).1 (at' l i).2 91 _).mono ?_
          rintro e w5 ⟨rfl, hb5⟩
          rw [show ((at' l i).1 == 91 && !(at' l i).2) = false from HQ.out]
          have HB5 := Lib.hid (HB4.out.trans (hb5.mono hws4)); have HO5 := Lib.hid (own_below HO4.out hb5); have HC5 := Lib.hid (HC4.out.below hb5); have HS5 := Lib.hid (HS4.out.below hb5)
          have hgl5 : w2.heap.size < w5.heap.size := Nat.lt_of_lt_of_le hgl4 hb5.size
          have hws5 := HB5.out.size
          have d0 := (hb5.cell (p := ⟨b, o + i * 2, none⟩) hb).trans e0
          have d1 := (hb5.cell (p := ⟨b, o + i * 2 + 1, none⟩) hb).trans e1
          clear hb5 e0 e1
          go_wp2_with fail
          refine (single_any (at' l i).1 (at' l i).2 _).mono ?_
          rintro e w6 ⟨rfl, hb6⟩
          have HB6 := Lib.hid (HB5.out.trans (hb6.mono hws5)); have HO6 := Lib.hid (own_below HO5.out hb6); have HC6 := Lib.hid (HC5.out.below hb6)
          have hgl6 : w2.heap.size < w6.heap.size := Nat.lt_of_lt_of_le hgl5 hb6.size
          have hws6 := HB6.out.size
          clear hb6 d0 d1
          go_wp2_with (at_builtin; refine wpList_append_own_spare _ rfl (.tmp 46) (.tmp 52) 31 rfl w.heap.size 36 i0 3 Try.underlying31 HI.out HZ1.out w2.heap.size D.length l.length xs rfl (HO6.out.alloc _) ⟨_, 0, none⟩ 1 1 [.int .i64 (kindOne (at' l i) : Nat), .int .u8 (byteOne (at' l i) : Nat), .pointer none] rfl rfl ?c1 ?c2 ?c3 ?_)
          case c1 =>
            intro j u hu
            rw [Go.WideShapes.add_plain, World.cell?_alloc_at _ _ _ _ (by simp)]
            simpa using hu
          case c2 =>
            intro u hu
            simp only [List.mem_cons, List.not_mem_nil, or_false] at hu
            rcases hu with rfl | rfl | rfl <;> rfl
          case c3 => omega
          intro w7 hown7 hgrow7
          have HC7 := Lib.hid (((HC6.out.below ((Below.refl _ w6).alloc (Nat.le_refl _) _)).keep (fun b hN hlt => hgrow7.block b hlt (by intro e; injection e with e; exact hN e))).app (show CM w7 (· ≠ w2.heap.size) l [i] [.int .i64 (kindOne (at' l i) : Nat), .int .u8 (byteOne (at' l i) : Nat), .pointer none] from ⟨none, [], by rw [HK.out.1, HK.out.2.1], fun e he => by (rw [HSE.out] at he; cases he), rfl⟩))
          have HB7 := Lib.hid ((HB6.out.alloc hws6 _).grown hgrow7 (by simp only [World.size_alloc]; omega) (fun k hk => by injection hk with hk; omega))
          have HO7 := Lib.hid hown7
          have hgl7 : w2.heap.size < w7.heap.size := (hown7.lt _ rfl).2
          clear hown7 hgrow7
          go_wp2_with fail
          go_roundw
          case rel => exact ⟨i + 1, D ++ [i], _, by omega, by go_num, by rw [List.length_append]; rfl, by rw [List.length_append]; exact HO7.out, HC7.out, by rw [List.append_assoc, List.singleton_append, ← HK.out.2.2, ← HST.out]; exact HAP.out, by rw [List.length_append]; simp; omega, HB7.out, hgl7⟩
          case measure => simp [intOf]; omega
        · have HQ := Lib.hid hq
          have hnl : ¬ ((firstAt l i : Int) < lastI l l.length) := by
            intro h
            rw [hq, decide_eq_true h] at hBI
            cases hBI
          clear hq hBI
          go_wp2_with fail
          refine (firstM_any l a1 c1 i _ HSG.out hl (by omega)).mono ?_
          rintro e w4 ⟨rfl, hb4⟩
          have HB4 := Lib.hid (HW.out.trans (hb4.mono hws)); have HO4 := Lib.hid (own_below HO.out hb4); have HC4 := Lib.hid (HC.out.below hb4); have HS4 := Lib.hid (HSG.out.below hb4)
          have hgl4 : w2.heap.size < w4.heap.size := Nat.lt_of_lt_of_le hgl hb4.size
          have hws4 := HB4.out.size
          clear hb4
          obtain ⟨b, o, rfl, hb, e0, e1⟩ := HS4.out.get hlt
          go_wp2_with fail
          refine (is_any (at' l i).1 (at' l i).2 91 _).mono ?_
          rintro e w5 ⟨rfl, hb5⟩
          rw [show ((at' l i).1 == 91 && !(at' l i).2) = true from HQ.out]
          have HB5 := Lib.hid (HB4.out.trans (hb5.mono hws4)); have HO5 := Lib.hid (own_below HO4.out hb5); have HC5 := Lib.hid (HC4.out.below hb5); have HS5 := Lib.hid (HS4.out.below hb5)
          have hgl5 : w2.heap.size < w5.heap.size := Nat.lt_of_lt_of_le hgl4 hb5.size
          have hws5 := HB5.out.size
          have d0 := (hb5.cell (p := ⟨b, o + i * 2, none⟩) hb).trans e0
          have d1 := (hb5.cell (p := ⟨b, o + i * 2 + 1, none⟩) hb).trans e1
          clear hb5 e0 e1
          go_wp2_with fail
          refine (single_any (at' l i).1 (at' l i).2 _).mono ?_
          rintro e w6 ⟨rfl, hb6⟩
          have HB6 := Lib.hid (HB5.out.trans (hb6.mono hws5)); have HO6 := Lib.hid (own_below HO5.out hb6); have HC6 := Lib.hid (HC5.out.below hb6)
          have hgl6 : w2.heap.size < w6.heap.size := Nat.lt_of_lt_of_le hgl5 hb6.size
          have hws6 := HB6.out.size
          clear hb6 d0 d1
          go_wp2_with (at_builtin; refine wpList_append_own_spare _ rfl (.tmp 46) (.tmp 52) 31 rfl w.heap.size 36 i0 3 Try.underlying31 HI.out HZ1.out w2.heap.size D.length l.length xs rfl (HO6.out.alloc _) ⟨_, 0, none⟩ 1 1 [.int .i64 (kindOne (at' l i) : Nat), .int .u8 (byteOne (at' l i) : Nat), .pointer none] rfl rfl ?c1 ?c2 ?c3 ?_)
          case c1 =>
            intro j u hu
            rw [Go.WideShapes.add_plain, World.cell?_alloc_at _ _ _ _ (by simp)]
            simpa using hu
          case c2 =>
            intro u hu
            simp only [List.mem_cons, List.not_mem_nil, or_false] at hu
            rcases hu with rfl | rfl | rfl <;> rfl
          case c3 => omega
          intro w7 hown7 hgrow7
          have HC7 := Lib.hid (((HC6.out.below ((Below.refl _ w6).alloc (Nat.le_refl _) _)).keep (fun b hN hlt => hgrow7.block b hlt (by intro e; injection e with e; exact hN e))).app (show CM w7 (· ≠ w2.heap.size) l [i] [.int .i64 (kindOne (at' l i) : Nat), .int .u8 (byteOne (at' l i) : Nat), .pointer none] from ⟨none, [], by rw [HK.out.1, HK.out.2.1], fun e he => by (rw [HSE.out] at he; cases he), rfl⟩))
          have HB7 := Lib.hid ((HB6.out.alloc hws6 _).grown hgrow7 (by simp only [World.size_alloc]; omega) (fun k hk => by injection hk with hk; omega))
          have HO7 := Lib.hid hown7
          have hgl7 : w2.heap.size < w7.heap.size := (hown7.lt _ rfl).2
          clear hown7 hgrow7
          go_wp2_with fail
          go_roundw
          case rel => exact ⟨i + 1, D ++ [i], _, by omega, by go_num, by rw [List.length_append]; rfl, by rw [List.length_append]; exact HO7.out, HC7.out, by rw [List.append_assoc, List.singleton_append, ← HK.out.2.2, ← HST.out]; exact HAP.out, by rw [List.length_append]; simp; omega, HB7.out, hgl7⟩
          case measure => simp [intOf]; omega
      | some n =>
        have HSE := Lib.hid hse
        have HK := Lib.hid (kindAt_set hse)
        have hnl := isAt_lt (setEnd_is hse).2.2.1
        have hnF := (setEnd_is hse).2.1
        have hFi := (firstAt_gt l i).1
        have HQ := Lib.hid (setEnd_is hse).1
        rw [hse, (setEnd_is hse).1] at hBI
        have hfl : (firstAt l i : Int) < lastI l l.length := by simpa using hBI
        clear hse hBI
        go_wp2_with fail
        refine (firstM_any l a1 c1 i _ HSG.out hl (by omega)).mono ?_
        rintro e w4 ⟨rfl, hb4⟩
        have HB4 := Lib.hid (HW.out.trans (hb4.mono hws)); have HO4 := Lib.hid (own_below HO.out hb4); have HC4 := Lib.hid (HC.out.below hb4); have HS4 := Lib.hid (HSG.out.below hb4)
        have hgl4 : w2.heap.size < w4.heap.size := Nat.lt_of_lt_of_le hgl hb4.size
        have hws4 := HB4.out.size
        clear hb4
        obtain ⟨b, o, rfl, hb, e0, e1⟩ := HS4.out.get hlt
        go_wp2_with fail
        refine (is_any (at' l i).1 (at' l i).2 91 _).mono ?_
        rintro e w5 ⟨rfl, hb5⟩
        rw [show ((at' l i).1 == 91 && !(at' l i).2) = true from HQ.out]
        have HB5 := Lib.hid (HB4.out.trans (hb5.mono hws4)); have HO5 := Lib.hid (own_below HO4.out hb5); have HC5 := Lib.hid (HC4.out.below hb5); have HS5 := Lib.hid (HS4.out.below hb5)
        have hgl5 : w2.heap.size < w5.heap.size := Nat.lt_of_lt_of_le hgl4 hb5.size
        have hws5 := HB5.out.size
        have d0 := (hb5.cell (p := ⟨b, o + i * 2, none⟩) hb).trans e0
        have d1 := (hb5.cell (p := ⟨b, o + i * 2 + 1, none⟩) hb).trans e1
        clear hb5 e0 e1
        go_wp2_with fail
        refine (readSet_any l _ c1 i n _ HS5.out hl (by omega) HSE.out HBY.out).mono ?_
        rintro e w6 ⟨sb, rfl, hsb, hset, hb6⟩
        have HB6 := Lib.hid (HB5.out.trans (hb6.mono hws5)); have HO6 := Lib.hid (own_below HO5.out hb6); have HC6 := Lib.hid (HC5.out.below hb6)
        have hgl6 : w2.heap.size < w6.heap.size := Nat.lt_of_lt_of_le hgl5 hb6.size
        have hws6 := HB6.out.size
        have hsbg : sb ≠ w2.heap.size := by omega
        have HSET := Lib.hid hset
        clear hb6 d0 d1 hset hsb
        go_wp2_with (at_builtin; refine wpList_append_own_spare _ rfl (.tmp 41) (.tmp 43) 31 rfl w.heap.size 36 i0 3 Try.underlying31 HI.out HZ1.out w2.heap.size D.length l.length xs rfl ((HO6.out.alloc _).alloc _) ⟨_, 0, none⟩ 1 1 [.int .i64 (kindSet l i : Nat), .int .u8 0, .pointer (some ⟨sb, 0, none⟩)] rfl rfl ?c1 ?c2 ?c3 ?_)
        case c1 =>
          intro j u hu
          rw [Go.WideShapes.add_plain, World.cell?_alloc_at _ _ _ _ (by simp)]
          simpa using hu
        case c2 =>
          intro u hu
          simp only [List.mem_cons, List.not_mem_nil, or_false] at hu
          rcases hu with rfl | rfl | rfl <;> rfl
        case c3 => omega
        intro w7 hown7 hgrow7
        have hbk : ∀ b, b ≠ w2.heap.size → b < w6.heap.size → w7.heap[b]? = w6.heap[b]? := fun b hN hlt => (hgrow7.block b (by simp only [World.size_alloc]; omega) (by intro e; injection e with e; exact hN e)).trans ((((Below.refl _ w6).alloc (Nat.le_refl _) _).alloc (by simp) _).block b hlt)
        have HC7 := Lib.hid ((HC6.out.keep hbk).app (show CM w7 (· ≠ w2.heap.size) l [i] [.int .i64 (kindSet l i : Nat), .int .u8 0, .pointer (some ⟨sb, 0, none⟩)] from ⟨some ⟨sb, 0, none⟩, [], by rw [HK.out.1, HK.out.2.1]; rfl, fun e he => by
          rw [HSE.out] at he
          cases he
          exact ⟨sb, rfl, hsbg, HSET.out.same (hbk sb hsbg HSET.out.1) (by omega)⟩, rfl⟩))
        have HB7 := Lib.hid (((HB6.out.alloc hws6 _).alloc (by simp only [World.size_alloc]; omega) _).grown hgrow7 (by simp only [World.size_alloc]; omega) (fun k hk => by injection hk with hk; omega))
        have HO7 := Lib.hid hown7
        have hgl7 : w2.heap.size < w7.heap.size := (hown7.lt _ rfl).2
        clear hown7 hgrow7 hbk
        go_wp2_with fail
        go_roundw
        case rel => exact ⟨n + 1, D ++ [i], _, by omega, by go_num, by rw [List.length_append]; rfl, by rw [List.length_append]; exact HO7.out, HC7.out, by rw [List.append_assoc, List.singleton_append, ← HK.out.2.2, ← HST.out]; exact HAP.out, by rw [List.length_append]; simp; omega, HB7.out, hgl7⟩
        case measure => simp [intOf]; omega
    · obtain rfl : i = l.length := by omega
      go_wp2_with fail
      go_ret
      have h1 := HAP.out
      rw [S0_end (Nat.le_refl _), List.append_nil] at h1
      have h2 := HO.out
      have h3 := HC.out
      rw [h1] at h2 h3
      refine ⟨⟨w2.heap.size, l.length, xs, ?_, ?_, ?_⟩, HB2.out.trans (HW.out.mono hle2)⟩
      · show Ending.returned (.slice (some ⟨w2.heap.size, 0, none⟩) D.length l.length) = _
        rw [HL0.out, h1]
      · rw [HL0.out]; exact h2
      · rw [HL0.out]; exact h3.mono fun _ _ => trivial
end Pn
end Go.Proofs.Ytfjfgaefbldgbaa
