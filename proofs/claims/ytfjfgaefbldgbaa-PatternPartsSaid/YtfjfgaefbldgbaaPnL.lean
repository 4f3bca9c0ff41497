/- Patterns: Match. -/
import Derived.Test.YtfjfgaefbldgbaaPnK
import Derived.Test.YtfjfgaefbldgbaaQuiet
namespace Go.Proofs.Ytfjfgaefbldgbaa
open Go.RowKit Go.Sort
namespace Pn
theorem rise_len : ∀ {t : List Nat} {lo n : Nat}, t.Pairwise (· < ·) → (∀ x ∈ t, lo ≤ x ∧ x ≤ n) → t.length ≤ n + 1 - lo
  | [], _, _, _, _ => Nat.zero_le _
  | x :: r, lo, n, hp, h => by
    rw [List.pairwise_cons] at hp
    have h0 := h x (by simp)
    have := rise_len (t := r) (lo := x + 1) (n := n) hp.2 fun y hy => ⟨hp.1 y hy, (h y (by simp [hy])).2⟩
    rw [List.length_cons]
    omega
theorem Nice.len {M : List Mn} {t : List Nat} (h : Nice M t) : t.length ≤ M.length + 1 := rise_len (lo := 0) h.rise fun x hx => ⟨Nat.zero_le _, h.le x hx⟩
theorem spread_len (M : List Mn) : ∀ (f : Nat) (t : List Nat) (p : Nat), (spreadF M f t p).length ≤ max (t.length + 1) 2
  | 0, t, p => by simp [spreadF]; omega
  | f + 1, t, p => by
    rw [spreadF]
    split
    · have := spread_len M f [p] (p + 1)
      simp only [List.length_cons, List.length_nil] at this
      omega
    · simp; omega
theorem eats_at (l : List Sg) (us : List Nat) (x c : Nat) (h : x < us.length) : eats (us.map (mn l)) x c = eatB l (us.getD x 0) c := by
  rw [eats, eatB, List.getElem?_map, List.getD, List.getElem?_eq_getElem h]
  simp only [Option.map_some, Option.getD_some]
  cases mn l us[x] <;> rfl
theorem ints_at {t : List Nat} {k : Nat} (h : k < t.length) : (ints t)[k]? = some (.int .i64 ((t.getD k 0 : Nat) : Int)) := by
  rw [ints, List.getElem?_map, List.getD, List.getElem?_eq_getElem h]
  rfl
/-- How things stand: all meanings, the row now, the row then. -/
structure Sit (w1 w : World) (g c : Nat) (us : List Nat) (nv tv : Value) (nl tl : List Nat) : Prop where
  A : w.heap[w1.heap.size]? = some (.cells #[.slice (some ⟨g, 0, none⟩) us.length c] 31 (0, 0))
  T : w.heap[w1.heap.size + 1]? = some (.cells #[tv] 33 (0, 0))
  b : Below w1.heap.size w1 w
  on : OwnI w w1.heap.size nv nl
  ot : OwnI w w1.heap.size tv tl
  nA : nv.ownBlock ≠ some w1.heap.size
  nT : nv.ownBlock ≠ some (w1.heap.size + 1)
  tA : tv.ownBlock ≠ some w1.heap.size
  tT : tv.ownBlock ≠ some (w1.heap.size + 1)
  ne : ∀ b, nv.ownBlock = some b → tv.ownBlock ≠ some b
namespace Sit
variable {w1 w w' : World} {g c : Nat} {us nl tl : List Nat} {nv tv : Value}
theorem below (h : Sit w1 w g c us nv tv nl tl) (hb : Below w.heap.size w w') : Sit w1 w' g c us nv tv nl tl :=
  ⟨(hb.block _ (Array.getElem?_eq_some_iff.1 h.A).1).trans h.A, (hb.block _ (Array.getElem?_eq_some_iff.1 h.T).1).trans h.T, h.b.trans (hb.mono h.b.size), own_below h.on hb, own_below h.ot hb, h.nA, h.nT, h.tA, h.tT, h.ne⟩
theorem drew (h : Sit w1 w g c us nv tv nl tl) : Sit w1 w.drew g c us nv tv nl tl := ⟨h.A, h.T, drewn h.b, World.ownsRow.drew h.on, World.ownsRow.drew h.ot, h.nA, h.nT, h.tA, h.tT, h.ne⟩
theorem spread (h : Sit w1 w g c us nv tv nl tl) {v' : Value} {t' : List Nat} (hT : w'.heap[w1.heap.size + 1]? = some (.cells #[v'] 33 (0, 0))) (ho : OwnI w' w1.heap.size v' t')
    (hv : v'.ownBlock = tv.ownBlock ∨ ∃ g', v'.ownBlock = some g' ∧ w.heap.size ≤ g') (hf : ∀ b, b < w.heap.size → b ≠ w1.heap.size + 1 → tv.ownBlock ≠ some b → w'.heap[b]? = w.heap[b]?) (hb : Below w1.heap.size w1 w') : Sit w1 w' g c us nv v' nl t' := by
  have hAl := (Array.getElem?_eq_some_iff.1 h.A).1
  have hTl := (Array.getElem?_eq_some_iff.1 h.T).1
  have hno : ∀ b, b < w.heap.size → tv.ownBlock ≠ some b → v'.ownBlock ≠ some b := fun b hlt hne => by
    rcases hv with e | ⟨g', e, h2⟩
    · rw [e]; exact hne
    · rw [e]; intro e2; injection e2 with e2; omega
  exact ⟨(hf _ hAl (by omega) h.tA).trans h.A, hT, hb, own_keep h.on (fun b hb2 hlt => hf b hlt (by intro e; subst e; exact h.nT hb2) (h.ne b hb2)), ho, h.nA, h.nT, hno _ hAl h.tA, hno _ hTl h.tT, fun b hb2 => hno b (h.on.lt b hb2).2 (h.ne b hb2)⟩
theorem swap (h : Sit w1 w g c us nv tv nl tl) {nv0 : Value} (h0 : OwnI w w1.heap.size nv0 []) (he : nv0.ownBlock = nv.ownBlock ∨ nv0.ownBlock = none) : Sit w1 (w.setCell ⟨w1.heap.size + 1, 0, none⟩ nv0) g c us tv nv0 tl [] := by
  have hno : ∀ b, nv.ownBlock ≠ some b → nv0.ownBlock ≠ some b := fun b hne => by
    rcases he with e | e
    · rw [e]; exact hne
    · rw [e]; intro e2; cases e2
  refine ⟨(Below.heap_setCell _ _ _ _ (by simp)).trans h.A, heap_setCell_same _ _ 0 _ _ nv0 h.T, h.b.setCell (p := ⟨w1.heap.size + 1, 0, none⟩) (Nat.le_succ _) _, own_other h.ot (a := ⟨w1.heap.size + 1, 0, none⟩) (fun b hb (e : b = w1.heap.size + 1) => h.tT (by rw [hb, e])) _, own_other h0 (a := ⟨w1.heap.size + 1, 0, none⟩) (fun b hb (e : b = w1.heap.size + 1) => hno _ h.nT (by rw [hb, e])) _, h.tA, h.tT, hno _ h.nA, hno _ h.nT, fun b hb => hno b fun hn => h.ne b hn hb⟩
end Sit
set_option maxHeartbeats 4000000 in
theorem match_any (a : Option Addr) (cap : Nat) (ps : List Pc) (s : ByteArray) (w : World) (h : Pcs w a ps) (hw : weight ps ≤ 1000) (hss : s.size ≤ 1000) :
    Calls Try.prog 7 #[.slice a ps.length cap, .string s] w fun e w' => e = .returned (.bool (mt (U (sg ps) 0) (tx s))) ∧ Below w.heap.size w w' := by
  have H := Lib.hid h; clear h
  have hl : (sg ps).length ≤ 1000 := Nat.le_trans (sg_len ps) hw
  have hul : (S0 (sg ps) 0).length ≤ 1000 := Nat.le_trans (S0_len _ 0 rfl) (by omega)
  go_enter Try.func7, Try.ntmps7
  go_wp2_with fail
  refine (read_any a cap ps w H.out hw).mono ?_
  rintro e w1 ⟨⟨g, c, xs, rfl, hown, hcm⟩, hb1⟩
  have HM := Lib.hid (mat_own hown hcm); have HB := Lib.hid hb1
  have hgl := (hown.lt _ rfl).2
  clear hown hcm hb1
  generalize hl0 : sg ps = l at *
  have HL0 := Lib.hid hl0; clear hl0
  have HU := Lib.hid (U_starts l 0)
  generalize hus : S0 l 0 = us at *
  have HUS := Lib.hid hus; clear hus
  obtain ⟨q0, q1⟩ := two_blocks w1 (.cells #[.slice (some ⟨g, 0, none⟩) us.length c] 31) (.cells #[.slice none 0 0] 33)
  have hb0 := ((Below.refl _ w1).alloc (Nat.le_refl _) (.cells #[.slice (some ⟨g, 0, none⟩) us.length c] 31)).alloc (by simp) (.cells #[.slice none 0 0] 33)
  have Q0 := Lib.hid q0; have Q1 := Lib.hid q1; have HB0 := Lib.hid hb0
  clear q0 q1 hb0
  go_wp2_with fail
  refine (spread_any l g c w1.heap.size (w1.heap.size + 1) 0 us [] (.slice none 0 0) w1 _ Q0.out Q1.out HM.out HB0.out (Nat.le_succ _) (by omega) (World.ownsRow_nil _ _ _ _) (by intro e; cases e) (by intro e; cases e) (Nat.zero_le _) hul (by simp)).mono ?_
  rintro r w2 ⟨rfl, v2, t2, o2, hv2, f2, z2, hb2⟩
  have hS0 : Sit w1 ((w1.alloc (.cells #[.slice (some ⟨g, 0, none⟩) us.length c] 31)).alloc (.cells #[.slice none 0 0] 33)) g c us (.slice none 0 0) (.slice none 0 0) [] [] :=
    ⟨Q0.out, Q1.out, HB0.out, World.ownsRow_nil _ _ _ _, World.ownsRow_nil _ _ _ _, (by intro e; cases e), (by intro e; cases e), (by intro e; cases e), (by intro e; cases e), fun b hb => by cases hb⟩
  have hST := start_may (M := us.map (mn l)) (s := tx s)
  have HS := Lib.hid (hS0.spread t2 o2 hv2 f2 hb2)
  have HN := Lib.hid (show Nice (us.map (mn l)) (SP (us.map (mn l)) [] 0) ∧ (may (us.map (mn l)) (SP (us.map (mn l)) [] 0) (tx s) ↔ mt (us.map (mn l)) (tx s) = true) from hST)
  clear t2 o2 hv2 f2 z2 hb2 hS0 hST
  generalize SP (us.map (mn l)) [] 0 = tl0 at HS HN
  have HML := Lib.hid (show (us.map (mn l)).length = us.length by simp)
  go_wp2_with fail
  go_loopw [6, 19] (fun y x wr => ∃ (i : Nat) (tl nl : List Nat) (nv tv : Value), i ≤ s.size ∧ x = .int .i64 i ∧ nv = y ∧ Sit w1 wr g c us nv tv nl tl ∧ Nice (us.map (mn l)) tl ∧ (may (us.map (mn l)) tl ((tx s).drop i) ↔ mt (us.map (mn l)) (tx s) = true)) (fun _ x _ => s.size - (intOf x).toNat)
  case atStart => exact ⟨0, tl0, [], _, v2, Nat.zero_le _, rfl, rfl, HS.out, HN.out.1, HN.out.2⟩
  case round =>
    obtain ⟨i, tl, nl, nv, tv, hi, rfl, rfl, hsit, hnice, hmay⟩ := hrel
    have HSI := Lib.hid hsit; have HNI := Lib.hid hnice; have HMA := Lib.hid hmay
    have t0 := Lib.cell_of_heap hsit.T 0
    have a0 := Lib.cell_of_heap hsit.A 0
    have hTl := (Array.getElem?_eq_some_iff.1 hsit.T).1
    have hAl := (Array.getElem?_eq_some_iff.1 hsit.A).1
    have tf : wr.frozen? ⟨w1.heap.size + 1, 0, none⟩ = false := frozen_of_row _ _ _ _ _ hsit.T
    have htl : tl.length ≤ us.length + 1 := by have := hnice.len; rwa [HML.out] at this
    clear hsit hnice hmay
    by_cases hlt : i < s.size
    · have HTX := Lib.hid (tx_drop s hlt)
      have hc : s[i].toNat < 256 := s[i].toNat_lt
      obtain ⟨nv0, hn0, ho0, he0⟩ : ∃ nv0, ((nv = .slice none 0 0 ∧ nv0 = .slice none 0 0) ∨ ∃ gn cn, nv = .slice (some ⟨gn, 0, none⟩) nl.length cn ∧ nv0 = .slice (some ⟨gn, 0, none⟩) 0 cn) ∧ OwnI wr w1.heap.size nv0 [] ∧ (nv0.ownBlock = nv.ownBlock ∨ nv0.ownBlock = none) := by
        rcases own_empty HSI.out.on with ⟨h1, _⟩ | ⟨gn, cn, h1, h2⟩
        · exact ⟨_, .inl ⟨h1, rfl⟩, World.ownsRow_nil _ _ _ _, .inr rfl⟩
        · exact ⟨_, .inr ⟨gn, cn, h1, rfl⟩, h2, .inl (by rw [h1]; rfl)⟩
      have HSW := Lib.hid (HSI.out.swap ho0 he0).drew
      have HSM := Lib.hid (step_may (M := us.map (mn l)) (c := s[i].toNat) (s := (tx s).drop (i + 1)) HNI.out)
      clear ho0 he0
      rcases hn0 with ⟨rfl, rfl⟩ | ⟨gn, cn, rfl, rfl⟩
      all_goals
        go_wp2_with fail
        refine RN.begins (fun w' => w'.cell? ⟨w1.heap.size + 1, 0, none⟩ = some tv) [4] (by kernel_rfl) ?_
        have hS : wr.drew.cell? ⟨w1.heap.size + 1, 0, none⟩ = some tv := t0
        refine RN.take (i := 0) (v := ?_) rfl (by decide) (by kernel_rfl) (by kernel_rfl) (by kernel_rfl) (by kernel_rfl) (by kernel_rfl) (by first | exact fun _ _ _ h => h | exact fun _ _ _ h => (by cases h.1) | exact fun _ _ _ h => door_put (by decide) h) (.inl ⟨by rfl, ?_⟩) hS ?_
        rotate_left 1
        · (intro wq hq; have s0 := hq; go_simp; try with_reducible rfl)
        refine RN.take (i := 1) (v := ?_) rfl (by decide) (by kernel_rfl) (by kernel_rfl) (by kernel_rfl) (by kernel_rfl) (by kernel_rfl) (by first | exact fun _ _ _ h => h | exact fun _ _ _ h => (by cases h.1) | exact fun _ _ _ h => door_put (by decide) h) (.inl ⟨by rfl, ?_⟩) hS ?_
        rotate_left 1
        · (intro wq hq; have s0 := hq; go_simp; try with_reducible rfl)
        refine RN.take (i := 2) (v := ?_) rfl (by decide) (by kernel_rfl) (by kernel_rfl) (by kernel_rfl) (by kernel_rfl) (by kernel_rfl) (by first | exact fun _ _ _ h => h | exact fun _ _ _ h => (by cases h.1) | exact fun _ _ _ h => door_put (by decide) h) (.inl ⟨by rfl, ?_⟩) hS ?_
        rotate_left 1
        · (intro wq hq; have s0 := hq; go_simp; try with_reducible rfl)
        refine RN.take (i := 3) (v := ?_) rfl (by decide) (by kernel_rfl) (by kernel_rfl) (by kernel_rfl) (by kernel_rfl) (by kernel_rfl) (by first | exact fun _ _ _ h => h | exact fun _ _ _ h => (by cases h.1) | exact fun _ _ _ h => door_put (by decide) h) (.inl ⟨by rfl, ?_⟩) hS ?_
        rotate_left 1
        · (intro wq hq; have s0 := hq; go_simp; try with_reducible rfl)
        refine RN.all (rs := [4]) (by kernel_rfl) (by simp) ?_
        refine RN.All.cons rfl (fun K hK => ?_) RN.All.nil
        go_simp
        refine hK _ _ (fun h => absurd h (by decide)) ?_
        clear hK K hS
        refine RN.done (by kernel_rfl) ?_ _
        clear t0 a0 tf hTl hAl
        generalize (wr.setCell ⟨w1.heap.size + 1, 0, none⟩ _).drew = W2 at HSW ⊢
        obtain ⟨ao, ct, rfl, hat⟩ : ∃ ao ct, tv = .slice ao tl.length ct ∧ ∀ k, k < tl.length → ∃ gt, ao = some ⟨gt, 0, none⟩ := by
          rcases own_empty HSW.out.on with ⟨h1, h2⟩ | ⟨gt, ct, h1, _⟩
          · exact ⟨none, 0, by rw [h1, h2]; rfl, fun k hk => by rw [h2] at hk; cases hk⟩
          · exact ⟨_, ct, h1, fun _ _ => ⟨gt, rfl⟩⟩
        have HAT := Lib.hid hat
        clear hat
        go_wp2_with fail
        go_loopw [27] (fun x wr => ∃ (k : Nat) (t2 : List Nat) (v2 : Value), k ≤ tl.length ∧ x = .int .i64 k ∧ Sit w1 wr g c us (.slice ao tl.length ct) v2 tl t2 ∧ stepP (us.map (mn l)) s[i].toNat tl [] = stepP (us.map (mn l)) s[i].toNat (tl.drop k) t2 ∧ t2.length ≤ k + 1) (fun x _ => tl.length - (intOf x).toNat)
        case atStart => exact ⟨0, [], _, Nat.zero_le _, rfl, HSW.out, rfl, Nat.zero_le _⟩
        case round =>
          obtain ⟨k, t2, v2, hk, rfl, hsit, hstep, htl2⟩ := hrel
          have HSI2 := Lib.hid hsit; have HSP := Lib.hid hstep
          have a0 := Lib.cell_of_heap hsit.A 0
          have hAl := (Array.getElem?_eq_some_iff.1 hsit.A).1
          have HMR := Lib.hid (HM.out.keep hsit.b)
          have hgl2 := HMR.out.1
          clear hsit hstep
          by_cases hkl : k < tl.length
          · obtain ⟨gt, rfl⟩ := HAT.out k hkl
            have e0 := HSI2.out.on.cells (g := gt) rfl k _ (ints_at hkl)
            rw [Go.WideShapes.add_plain, Nat.zero_add] at e0
            have hgtl := World.block_lt_of_cell? _ _ e0
            have hx0 : tl.getD k 0 ∈ tl := by rw [List.getD, List.getElem?_eq_getElem hkl]; exact List.getElem_mem hkl
            have hxl := HNI.out.le _ hx0
            rw [HML.out] at hxl
            have HDR := Lib.hid (show tl.drop k = tl.getD k 0 :: tl.drop (k + 1) by rw [List.drop_eq_getElem_cons hkl, List.getD, List.getElem?_eq_getElem hkl]; rfl)
            clear hx0
            revert e0 hxl HDR
            generalize tl.getD k 0 = z
            intro e0 hxl HDR
            have HSS := Lib.hid (show stepP (us.map (mn l)) s[i].toNat tl [] = stepP (us.map (mn l)) s[i].toNat (tl.drop (k + 1)) (if starAt (us.map (mn l)) z then SP (us.map (mn l)) t2 z else if eats (us.map (mn l)) z s[i].toNat then SP (us.map (mn l)) t2 (z + 1) else t2) by rw [HSP.out, HDR.out]; rfl)
            by_cases hzl : z = us.length
            · have h1 : starAt (us.map (mn l)) z = false := by rw [starAt_kind, decide_eq_false (by omega)]; rfl
              have h2 : eats (us.map (mn l)) z s[i].toNat = false := by rw [eats, List.getElem?_eq_none (by simp; omega)]
              have HS1 := Lib.hid h1; have HS2 := Lib.hid h2
              clear h1 h2
              subst hzl
              go_wp2_with fail
              go_roundw
              case rel => exact ⟨k + 1, t2, v2, by omega, by go_num, HSI2.out, by rw [HSS.out, HS1.out, HS2.out]; rfl, by omega⟩
              case measure => simp [intOf]; omega
            · have hzlt : z < us.length := by omega
              have hzne : ((z : Int) == (us.length : Int)) = false := by rw [beq_eq_false_iff_ne]; omega
              obtain ⟨pp, m0, m1, m2, hset⟩ := HMR.out.2 z hzlt
              have HK := Lib.hid (starAt_kind l us z)
              have HEA := Lib.hid (eats_at l us z s[i].toNat hzlt)
              have HSET := Lib.hid hset
              clear hset
              revert m0 m1 m2 HK HEA HSET
              generalize us.getD z 0 = u
              intro m0 m1 m2 HK HEA HSET
              by_cases hk2 : kindAt l u = 2
              · have HST := Lib.hid (show starAt (us.map (mn l)) z = true by rw [HK.out, hk2, decide_eq_true hzlt]; rfl)
                rw [hk2] at m0
                go_wp2_with fail
                refine (spread_any l g c w1.heap.size (w1.heap.size + 1) z us t2 v2 w1 _ HSI2.out.A HSI2.out.T HM.out HSI2.out.b (Nat.le_succ _) (by omega) HSI2.out.ot HSI2.out.tA HSI2.out.tT (by omega) hul (by omega)).mono ?_
                rintro r w5 ⟨rfl, v5, t5, o5, hv5, f5, z5, b5⟩
                have HSI5 := Lib.hid (HSI2.out.spread t5 o5 hv5 f5 b5)
                clear t5 o5 hv5 f5 z5 b5
                go_wp2_with fail
                go_roundw
                case rel => exact ⟨k + 1, _, v5, by omega, by go_num, HSI5.out, by rw [HSS.out, HST.out]; rfl, Nat.le_trans (spread_len _ _ _ _) (by omega)⟩
                case measure => simp [intOf]; omega
              · have HST := Lib.hid (show starAt (us.map (mn l)) z = false by rw [HK.out, beq_eq_false_iff_ne.2 hk2, Bool.and_false])
                have hkne : (((kindAt l u : Nat) : Int) == 2) = false := by rw [beq_eq_false_iff_ne]; omega
                clear hk2
                go_wp2_with fail
                refine RN.begins (fun w' => w'.cell? ⟨w1.heap.size, 0, none⟩ = some (.slice (some ⟨g, 0, none⟩) us.length c) ∧ w'.cell? ⟨g, z * 3, none⟩ = some (.int .i64 (kindAt l u : Nat)) ∧ w'.cell? ⟨g, z * 3 + 1, none⟩ = some (.int .u8 (byteAt l u : Nat)) ∧ w'.cell? ⟨g, z * 3 + 2, none⟩ = some (.pointer pp)) [7, 8] (by kernel_rfl) ?_
                have hS : wr.drew.cell? ⟨w1.heap.size, 0, none⟩ = some (.slice (some ⟨g, 0, none⟩) us.length c) ∧ wr.drew.cell? ⟨g, z * 3, none⟩ = some (.int .i64 (kindAt l u : Nat)) ∧ wr.drew.cell? ⟨g, z * 3 + 1, none⟩ = some (.int .u8 (byteAt l u : Nat)) ∧ wr.drew.cell? ⟨g, z * 3 + 2, none⟩ = some (.pointer pp) := ⟨a0, m0, m1, m2⟩
                refine RN.take (i := 0) (v := ?_) rfl (by decide) (by kernel_rfl) (by kernel_rfl) (by kernel_rfl) (by kernel_rfl) (by kernel_rfl) (by first | exact fun _ _ _ h => h | exact fun _ _ _ h => (by cases h.1) | exact fun _ _ _ h => door_put (by decide) h) (.inl ⟨by rfl, ?_⟩) hS ?_
                rotate_left 1
                · (intro wq hq; obtain ⟨s0, s1, s2, s3⟩ := hq; go_simp; try with_reducible rfl)
                refine RN.take (i := 1) (v := ?_) rfl (by decide) (by kernel_rfl) (by kernel_rfl) (by kernel_rfl) (by kernel_rfl) (by kernel_rfl) (by first | exact fun _ _ _ h => h | exact fun _ _ _ h => (by cases h.1) | exact fun _ _ _ h => door_put (by decide) h) (.inl ⟨by rfl, ?_⟩) hS ?_
                rotate_left 1
                · (intro wq hq; obtain ⟨s0, s1, s2, s3⟩ := hq; go_simp; try with_reducible rfl)
                refine RN.take (i := 2) (v := ?_) rfl (by decide) (by kernel_rfl) (by kernel_rfl) (by kernel_rfl) (by kernel_rfl) (by kernel_rfl) (by first | exact fun _ _ _ h => h | exact fun _ _ _ h => (by cases h.1) | exact fun _ _ _ h => door_put (by decide) h) (.inl ⟨by rfl, ?_⟩) hS ?_
                rotate_left 1
                · (intro wq hq; obtain ⟨s0, s1, s2, s3⟩ := hq; go_simp; try with_reducible rfl)
                refine RN.take (i := 3) (v := ?_) rfl (by decide) (by kernel_rfl) (by kernel_rfl) (by kernel_rfl) (by kernel_rfl) (by kernel_rfl) (by first | exact fun _ _ _ h => h | exact fun _ _ _ h => (by cases h.1) | exact fun _ _ _ h => door_put (by decide) h) (.inl ⟨by rfl, ?_⟩) hS ?_
                rotate_left 1
                · (intro wq hq; obtain ⟨s0, s1, s2, s3⟩ := hq; go_simp; try with_reducible rfl)
                refine RN.take (i := 4) (v := ?_) rfl (by decide) (by kernel_rfl) (by kernel_rfl) (by kernel_rfl) (by kernel_rfl) (by kernel_rfl) (by first | exact fun _ _ _ h => h | exact fun _ _ _ h => (by cases h.1) | exact fun _ _ _ h => door_put (by decide) h) (.inl ⟨by rfl, ?_⟩) hS ?_
                rotate_left 1
                · (intro wq hq; obtain ⟨s0, s1, s2, s3⟩ := hq; go_simp; try with_reducible rfl)
                refine RN.take (i := 5) (v := ?_) rfl (by decide) (by kernel_rfl) (by kernel_rfl) (by kernel_rfl) (by kernel_rfl) (by kernel_rfl) (by first | exact fun _ _ _ h => h | exact fun _ _ _ h => (by cases h.1) | exact fun _ _ _ h => door_put (by decide) h) (.inl ⟨by rfl, ?_⟩) hS ?_
                rotate_left 1
                · (intro wq hq; obtain ⟨s0, s1, s2, s3⟩ := hq; go_simp; try with_reducible rfl)
                refine RN.take (i := 6) (v := ?_) rfl (by decide) (by kernel_rfl) (by kernel_rfl) (by kernel_rfl) (by kernel_rfl) (by kernel_rfl) (by first | exact fun _ _ _ h => h | exact fun _ _ _ h => (by cases h.1) | exact fun _ _ _ h => door_put (by decide) h) (.inl ⟨by rfl, ?_⟩) hS ?_
                rotate_left 1
                · (intro wq hq; obtain ⟨s0, s1, s2, s3⟩ := hq; go_simp; try with_reducible rfl)
                refine RN.all (rs := [7]) (by kernel_rfl) (by simp) ?_
                refine RN.All.cons rfl (fun K hK => ?_) RN.All.nil
                go_simp
                refine (means_any l u s[i].toNat pp _ wr.drew HSET.out hc).mono ?_
                rintro r w4 ⟨rfl, hb4⟩
                refine hK _ _ (fun h => absurd h (by decide)) ?_
                clear hK K
                refine RN.all (rs := [8]) (by kernel_rfl) (by simp) ?_
                refine RN.All.cons rfl (fun K hK => ?_) RN.All.nil
                go_simp
                refine hK _ _ (fun h => absurd h (by decide)) ?_
                clear hK K hS
                refine RN.done (by kernel_rfl) ?_ _
                have HSI4 := Lib.hid (HSI2.out.drew.below hb4)
                clear hb4 a0 m0 m1 m2 e0
                cases hea : eatB l u s[i].toNat
                · have HE2 := Lib.hid hea
                  clear hea
                  go_wp2_with fail
                  go_roundw
                  case rel => exact ⟨k + 1, t2, v2, by omega, by go_num, HSI4.out, by rw [HSS.out, HST.out, HEA.out, HE2.out]; rfl, by omega⟩
                  case measure => simp [intOf]; omega
                · have HE2 := Lib.hid hea
                  clear hea
                  go_wp2_with fail
                  refine (spread_any l g c w1.heap.size (w1.heap.size + 1) (z + 1) us t2 v2 w1 _ HSI4.out.A HSI4.out.T HM.out HSI4.out.b (Nat.le_succ _) (by omega) HSI4.out.ot HSI4.out.tA HSI4.out.tT (by omega) hul (by omega)).mono ?_
                  rintro r w5 ⟨rfl, v5, t5, o5, hv5, f5, z5, b5⟩
                  have HSI5 := Lib.hid (HSI4.out.spread t5 o5 hv5 f5 b5)
                  clear t5 o5 hv5 f5 z5 b5
                  go_wp2_with fail
                  go_roundw
                  case rel => exact ⟨k + 1, _, v5, by omega, by go_num, HSI5.out, by rw [HSS.out, HST.out, HEA.out, HE2.out]; rfl, Nat.le_trans (spread_len _ _ _ _) (by omega)⟩
                  case measure => simp [intOf]; omega
          · obtain rfl : k = tl.length := by omega
            have HSP2 := Lib.hid (show stepP (us.map (mn l)) s[i].toNat tl [] = t2 by rw [HSP.out, List.drop_length]; rfl)
            clear a0
            go_wp2_with fail
            go_roundw
            case rel => exact ⟨i + 1, t2, tl, _, v2, by omega, by go_num, rfl, HSI2.out, by rw [← HSP2.out]; exact HSM.out.1, by rw [← HSP2.out]; exact HSM.out.2.trans (by rw [← HTX.out]; exact HMA.out)⟩
            case measure => simp [intOf]; omega
    · obtain rfl : i = s.size := by omega
      have hend := end_may HNI.out
      have hmay := HMA.out
      rw [List.drop_eq_nil_of_le (by simp [tx]), hend, HML.out] at hmay
      have HE := Lib.hid hmay
      clear hend hmay
      have HBL := Lib.hid (fun dq osq => HB.out.trans ((HSI.out.b.trans ((below_regrown wr dq osq).mono HSI.out.b.size)).mono HB.out.size))
      have k1 := cell_regrown (show wr.cell? ⟨w1.heap.size, 0, none⟩ = some (.slice (some ⟨g, 0, none⟩) us.length c) from a0)
      rcases own_empty HSI.out.ot with ⟨rfl, rfl⟩ | ⟨gt, capt, rfl, _⟩
      · have k0 := cell_regrown (show wr.cell? ⟨w1.heap.size + 1, 0, none⟩ = some (.slice none 0 0) from t0)
        go_wp2_with fail
        refine Qu.region (by kernel_rfl) (by kernel_rfl) ?_
        repeat (first
          | (first | refine Qu.carry0 rfl (fun K hK => ?_) | refine Qu.carryG rfl rfl rfl (fun K hK => ?_)
             go_simp
             first
             | (refine hK _ ?_; clear hK K)
             | (apply Exists.intro; refine ⟨fun _ => ?_, hK _ ?_⟩; fail; clear hK K))
          | (refine Qu.passG rfl rfl rfl (fun K hK => ?_); go_simp; refine hK _ ?_; clear hK K))
        refine Qu.fin ?_
        rintro ⟨dq, osq⟩
        go_wp2_with fail
        go_ret
        refine ⟨?_, HBL.out _ _⟩
        show Ending.returned (.bool false) = _
        rw [HL0.out, HU.out]
        congr 2
        exact (Bool.eq_false_iff.2 fun h => by have := HE.out.2 h; simp at this).symm
      · have k0 := cell_regrown (show wr.cell? ⟨w1.heap.size + 1, 0, none⟩ = some (.slice (some ⟨gt, 0, none⟩) tl.length capt) from t0)
        by_cases hpos : 0 < tl.length
        · have e0 := HSI.out.ot.cells (g := gt) rfl (tl.length - 1) _ (ints_at (show tl.length - 1 < tl.length by omega))
          rw [Go.WideShapes.add_plain, Nat.zero_add] at e0
          have HEE := Lib.hid (show (tl.getD (tl.length - 1) 0 = us.length) ↔ mt (us.map (mn l)) (tx s) = true from ⟨fun h => HE.out.1 ⟨hpos, h⟩, fun h => (HE.out.2 h).2⟩)
          revert e0 HEE
          generalize tl.getD (tl.length - 1) 0 = z
          intro e0 HEE
          have k2 := cell_regrown e0
          have hwr : IntKind.i64.wrap ((tl.length : Int) - 1) = ((tl.length - 1 : Nat) : Int) := (wrapW _ (by omega) (by omega)).trans (by omega)
          have hg0 : ((tl.length : Int) > 0) = True := eq_true (by omega)
          have hg1 : (0 < tl.length) = True := eq_true (by omega)
          have hg2 : tl.length - 1 < tl.length := by omega
          go_wp2_with fail
          refine Qu.region (by kernel_rfl) (by kernel_rfl) ?_
          repeat (first
            | (first | refine Qu.carry0 rfl (fun K hK => ?_) | refine Qu.carryG rfl rfl rfl (fun K hK => ?_)
               go_simp
               first
               | (refine hK _ ?_; clear hK K)
               | (apply Exists.intro; refine ⟨fun _ => ?_, hK _ ?_⟩; fail; clear hK K))
            | (refine Qu.passG rfl rfl rfl (fun K hK => ?_); go_simp; refine hK _ ?_; clear hK K))
          refine Qu.fin ?_
          rintro ⟨dq, osq⟩
          go_wp2_with fail
          go_ret
          refine ⟨?_, HBL.out _ _⟩
          show Ending.returned (.bool ((z : Int) == (us.length : Int))) = _
          rw [HL0.out, HU.out, int_beq]
          congr 2
          exact Bool.eq_iff_iff.2 (beq_iff_eq.trans HEE.out)
        · have hg0 : ((tl.length : Int) > 0) = False := eq_false (by omega)
          have hg1 : (0 < tl.length) = False := eq_false (by omega)
          go_wp2_with fail
          refine Qu.region (by kernel_rfl) (by kernel_rfl) ?_
          repeat (first
            | (first | refine Qu.carry0 rfl (fun K hK => ?_) | refine Qu.carryG rfl rfl rfl (fun K hK => ?_)
               go_simp
               first
               | (refine hK _ ?_; clear hK K)
               | (apply Exists.intro; refine ⟨fun _ => ?_, hK _ ?_⟩; fail; clear hK K))
            | (refine Qu.passG rfl rfl rfl (fun K hK => ?_); go_simp; refine hK _ ?_; clear hK K))
          refine Qu.fin ?_
          rintro ⟨dq, osq⟩
          go_wp2_with fail
          go_ret
          refine ⟨?_, HBL.out _ _⟩
          show Ending.returned (.bool false) = _
          rw [HL0.out, HU.out]
          congr 2
          exact (Bool.eq_false_iff.2 fun h => hpos (HE.out.2 h).1).symm
end Pn
end Go.Proofs.Ytfjfgaefbldgbaa
