/- The reference's Continue. -/
import Derived.Test.YtbcldfaphnnmlaaFrG
namespace Go.Proofs.Ytbcldfaphnnmlaa
open Go.RowKit Go.Sort
namespace Fra
open Cls Pt Tr
/-- A row of one item. -/
theorem one_item {W : World} {j : Nat} {T : TypeId} {f : Nat × Nat} {y : IV} (h : W.heap[j]? = some (.cells (icells y).toArray T f)) : LAt W (.slice (some ⟨j, 0, none⟩) 1 1) [y] := by
  refine ⟨_, 1, rfl, Nat.le_refl _, fun k p hk => ?_⟩
  cases k with
  | zero =>
    cases hk
    refine ⟨j, 0, rfl, (Array.getElem?_eq_some_iff.1 h).1, fun i u hu => ?_⟩
    rw [show 0 + 0 * 14 + i = i by omega]
    exact icell h i hu
  | succ k => simp at hk
/-- What Continue answers. -/
def Goes (w : World) (v : Value) (l : List IV) (r : Option Nat) (e : Ending) (w' : World) : Prop := (match r with
  | none => e = .returned (.tuple #[v, .bool false])
  | some i => ∃ v' x, l[i]? = some x ∧ e = .returned (.tuple #[v', .bool true]) ∧ w'.ownsRow w.heap.size 41 14 v' (l.take i ++ [goes x]).length (lcells (l.take i ++ [goes x]))) ∧ Below w.heap.size w w'
set_option maxHeartbeats 1600000 in
theorem rcontinue_any {w : World} {v : Value} {l : List IV} (n : Int) (hL : LAt w v l) (hn : l.length ≤ 100000) (h0 : -9223372036854775808 ≤ n) :
    Calls Try.prog 13 #[v, .int .i64 n] w (Goes w v l (brk l n)) := by
  obtain ⟨i0, hi, hz0, hz1, hz2⟩ := info_parts infoR
  have H := Lib.hid (rloops_any hL hn)
  have HLA := Lib.hid hL
  obtain ⟨a, cap, rfl, hle, hc⟩ := hL
  have HC := Lib.hid hc
  clear hc
  by_cases h1 : n < 1
  · rw [brk_low h1]
    unfold Goes
    go_enter Try.func13, Try.ntmps13
    go_wp2_with (go_at_call 28; refine H.out.mono ?_; rintro e w1 ⟨u, rfl, ho, hb⟩; obtain ⟨a1, c1, rfl⟩ := own_slice ho)
    go_ret2
    exact ⟨rfl, hb⟩
  by_cases h2 : ((lps l l.length).length : Int) < n
  · rw [brk_high h1 h2]
    unfold Goes
    go_enter Try.func13, Try.ntmps13
    go_wp2_with (go_at_call 28; refine H.out.mono ?_; rintro e w1 ⟨u, rfl, ho, hb⟩; obtain ⟨a1, c1, rfl⟩ := own_slice ho)
    go_ret2
    exact ⟨rfl, hb⟩
  obtain ⟨i, m, rfl, hm, hb, hil⟩ := brk_some h1 h2
  rw [hb]
  obtain ⟨p, hp⟩ : ∃ p, l[i]? = some p := ⟨_, List.getElem?_eq_getElem hil⟩
  unfold Goes
  have HM := Lib.hid hm; have HP := Lib.hid hp
  obtain ⟨b, o, rfl, hbl, hcell⟩ := HC.out i p hp
  have HCELL := Lib.hid hcell
  have hll := lps_len l l.length
  have HLL := Lib.hid hll
  clear hm hb hll hcell hp
  go_enter Try.func13, Try.ntmps13
  go_wp2_with fail
  refine H.out.mono ?_
  rintro e w1 ⟨u, rfl, ho, hb⟩
  obtain ⟨g, c1, rfl, hcell, hml⟩ := own_at ho (show (nI (lps l l.length))[m]? = some (.int .i64 (i : Int)) by unfold nI; rw [List.getElem?_map, HM.out]; rfl)
  have hmb : m ≤ 100000 := by have := HLL.out; omega
  have hwm : wrap64 (m : Int) = (m : Int) := by unfold wrap64; omega
  have s0 : w1.cell? ⟨b, o + i * 14, none⟩ = some (.int .i64 p.k) := cell_below hb (HCELL.out 0 _ rfl); have s1 : w1.cell? ⟨b, o + i * 14 + 1, none⟩ = some (.int .i64 p.nk) := cell_below hb (HCELL.out 1 _ rfl); have s2 : w1.cell? ⟨b, o + i * 14 + 2, none⟩ = some (.string p.nm) := cell_below hb (HCELL.out 2 _ rfl); have s3 : w1.cell? ⟨b, o + i * 14 + 3, none⟩ = some (.bool p.g) := cell_below hb (HCELL.out 3 _ rfl); have s4 : w1.cell? ⟨b, o + i * 14 + 4, none⟩ = some (.slice p.a1 p.az.length p.c1) := cell_below hb (HCELL.out 4 _ rfl); have s5 : w1.cell? ⟨b, o + i * 14 + 5, none⟩ = some (.slice p.a2 p.nw.length p.c2) := cell_below hb (HCELL.out 5 _ rfl); have s6 : w1.cell? ⟨b, o + i * 14 + 6, none⟩ = some (.slice p.a3 p.ks.len p.c3) := cell_below hb (HCELL.out 6 _ rfl); have s7 : w1.cell? ⟨b, o + i * 14 + 7, none⟩ = some (.slice p.a4 p.bs.length p.c4) := cell_below hb (HCELL.out 7 _ rfl); have s8 : w1.cell? ⟨b, o + i * 14 + 8, none⟩ = some (.slice p.a5 p.cz.len p.c5) := cell_below hb (HCELL.out 8 _ rfl); have s9 : w1.cell? ⟨b, o + i * 14 + 9, none⟩ = some (.int .i64 p.pl) := cell_below hb (HCELL.out 9 _ rfl); have s10 : w1.cell? ⟨b, o + i * 14 + 10, none⟩ = some (.int .i64 p.st) := cell_below hb (HCELL.out 10 _ rfl); have s11 : w1.cell? ⟨b, o + i * 14 + 11, none⟩ = some (.bool p.fr) := cell_below hb (HCELL.out 11 _ rfl); have s12 : w1.cell? ⟨b, o + i * 14 + 12, none⟩ = some (.slice p.wa p.ws.length p.wc) := cell_below hb (HCELL.out 12 _ rfl); have s13 : w1.cell? ⟨b, o + i * 14 + 13, none⟩ = some (.slice p.pa p.ps.length p.pc) := cell_below hb (HCELL.out 13 _ rfl)
  have HO := Lib.hid ho; have HB := Lib.hid hb
  have hs1 := hb.size
  clear ho hb
  have hwm1 : IntKind.i64.wrap (m : Int) = (m : Int) := by rw [IntKind.wrap_i64]; omega
  cases h8 : (p.k == 8)
  · have h8' : (p.k != 8) = true := by rw [bne, h8]; rfl
    have hgo : goes p = again p := by unfold goes; rw [h8]; rfl
    go_wp2_with fail
    have hxr : (w1.alloc (.cells #[.int .i64 7, .int .i64 p.nk, .string p.nm, .bool p.g, .slice p.a1 p.az.length p.c1, .slice p.a2 p.nw.length p.c2, .slice p.a3 p.ks.len p.c3, .slice p.a4 p.bs.length p.c4, .slice p.a5 p.cz.len p.c5, .int .i64 0, .int .i64 0, .bool p.fr, .slice none 0 0, .slice none 0 0] 41)).heap[w1.heap.size]? = some (.cells (icells (again p)).toArray 41 (0, 0)) := heap_alloc_new w1 (.cells #[.int .i64 7, .int .i64 p.nk, .string p.nm, .bool p.g, .slice p.a1 p.az.length p.c1, .slice p.a2 p.nw.length p.c2, .slice p.a3 p.ks.len p.c3, .slice p.a4 p.bs.length p.c4, .slice p.a5 p.cz.len p.c5, .int .i64 0, .int .i64 0, .bool p.fr, .slice none 0 0, .slice none 0 0] 41)
    have hb0 : Below w1.heap.size w1 (w1.alloc (.cells #[.int .i64 7, .int .i64 p.nk, .string p.nm, .bool p.g, .slice p.a1 p.az.length p.c1, .slice p.a2 p.nw.length p.c2, .slice p.a3 p.ks.len p.c3, .slice p.a4 p.bs.length p.c4, .slice p.a5 p.cz.len p.c5, .int .i64 0, .int .i64 0, .bool p.fr, .slice none 0 0, .slice none 0 0] 41)) := bel1 _ _
    have hsz0 : (w1.alloc (.cells #[.int .i64 7, .int .i64 p.nk, .string p.nm, .bool p.g, .slice p.a1 p.az.length p.c1, .slice p.a2 p.nw.length p.c2, .slice p.a3 p.ks.len p.c3, .slice p.a4 p.bs.length p.c4, .slice p.a5 p.cz.len p.c5, .int .i64 0, .int .i64 0, .bool p.fr, .slice none 0 0, .slice none 0 0] 41)).heap.size = w1.heap.size + 1 := World.size_alloc _ _
    have hq : ∀ W, Below w1.heap.size w1 W → W.cell? ⟨g, m, none⟩ = some (.int .i64 (i : Int)) := fun W h => cell_below h hcell
    have hla := HLA.out.stay (thru HB.out hb0)
    generalize w1.alloc (.cells #[.int .i64 7, .int .i64 p.nk, .string p.nm, .bool p.g, .slice p.a1 p.az.length p.c1, .slice p.a2 p.nw.length p.c2, .slice p.a3 p.ks.len p.c3, .slice p.a4 p.bs.length p.c4, .slice p.a5 p.cz.len p.c5, .int .i64 0, .int .i64 0, .bool p.fr, .slice none 0 0, .slice none 0 0] 41) = W0 at hxr hb0 hsz0 hla ⊢
    have HQ := Lib.hid hq; have HXR := Lib.hid hxr; have HLA0 := Lib.hid hla
    clear s0 s1 s2 s3 s4 s5 s6 s7 s8 s9 s10 s11 s12 s13 hcell hq hxr hla
    refine RN.begins (fun w' => Below W0.heap.size W0 w') [] (by kernel_rfl) ?_
    have hS : Below W0.heap.size W0 W0.drew := ⟨rfl, rfl, rfl, Nat.le_refl _, fun _ _ => rfl⟩
    have hws : w.heap.size ≤ W0.heap.size := by omega
    have hv0 : W0.heap.size ≤ W0.drew.heap.size := Nat.le_refl _
    generalize W0.drew = V at hS hv0 ⊢
    refine RN.tk (i := 1) (v := ?_) rfl hS ?_ ?_
    rotate_left 1
    · (intro wq hq; skip; go_simp; try with_reducible rfl)
    refine RN.tk (i := 2) (v := ?_) rfl hS ?_ ?_
    rotate_left 1
    · (intro wq hq; skip; go_simp; try with_reducible rfl)
    refine RN.tk (i := 3) (v := ?_) rfl hS ?_ ?_
    rotate_left 1
    · (intro wq hq; skip; go_simp; try with_reducible rfl)
    refine RN.tk (i := 4) (v := ?_) rfl hS ?_ ?_
    rotate_left 1
    · (intro wq hq; go_simp; try with_reducible rfl)
    refine RN.tk (i := 5) (v := ?_) rfl hS ?_ ?_
    rotate_left 1
    · (intro wq hq; go_simp; try with_reducible rfl)
    refine RN.tk (i := 6) (v := ?_) rfl hS ?_ ?_
    rotate_left 1
    · (intro wq hq; have s0 := HQ.out wq (thru hb0 hq); go_simp; try with_reducible rfl)
    refine RN.tk (i := 7) (v := ?_) rfl hS ?_ ?_
    rotate_left 1
    · (intro wq hq; go_simp; rw [if_pos (show i ≤ cap by omega)])
    refine RN.tk (i := 9) (v := ?_) rfl hS ?_ ?_
    rotate_left 1
    · (intro wq hq; have s0 : wq.cell? ⟨w1.heap.size, 0, none⟩ = some (.int .i64 7) := cell_below hq (icell HXR.out 0 rfl); have s1 : wq.cell? ⟨w1.heap.size, 1, none⟩ = some (.int .i64 p.nk) := cell_below hq (icell HXR.out 1 rfl); have s2 : wq.cell? ⟨w1.heap.size, 2, none⟩ = some (.string p.nm) := cell_below hq (icell HXR.out 2 rfl); have s3 : wq.cell? ⟨w1.heap.size, 3, none⟩ = some (.bool p.g) := cell_below hq (icell HXR.out 3 rfl); have s4 : wq.cell? ⟨w1.heap.size, 4, none⟩ = some (.slice p.a1 p.az.length p.c1) := cell_below hq (icell HXR.out 4 rfl); have s5 : wq.cell? ⟨w1.heap.size, 5, none⟩ = some (.slice p.a2 p.nw.length p.c2) := cell_below hq (icell HXR.out 5 rfl); have s6 : wq.cell? ⟨w1.heap.size, 6, none⟩ = some (.slice p.a3 p.ks.len p.c3) := cell_below hq (icell HXR.out 6 rfl); have s7 : wq.cell? ⟨w1.heap.size, 7, none⟩ = some (.slice p.a4 p.bs.length p.c4) := cell_below hq (icell HXR.out 7 rfl); have s8 : wq.cell? ⟨w1.heap.size, 8, none⟩ = some (.slice p.a5 p.cz.len p.c5) := cell_below hq (icell HXR.out 8 rfl); have s9 : wq.cell? ⟨w1.heap.size, 9, none⟩ = some (.int .i64 0) := cell_below hq (icell HXR.out 9 rfl); have s10 : wq.cell? ⟨w1.heap.size, 10, none⟩ = some (.int .i64 0) := cell_below hq (icell HXR.out 10 rfl); have s11 : wq.cell? ⟨w1.heap.size, 11, none⟩ = some (.bool p.fr) := cell_below hq (icell HXR.out 11 rfl); have s12 : wq.cell? ⟨w1.heap.size, 12, none⟩ = some (.slice none 0 0) := cell_below hq (icell HXR.out 12 rfl); have s13 : wq.cell? ⟨w1.heap.size, 13, none⟩ = some (.slice none 0 0) := cell_below hq (icell HXR.out 13 rfl); go_simp; try with_reducible rfl)
    have hom : ∀ W : World, w.heap.size ≤ W.heap.size → (W.alloc (.cells #[] 41)).ownsRow w.heap.size 41 14 (.slice (some ⟨W.heap.size, 0, none⟩) 0 0) 0 [] := fun W h => World.ownsRow_made (base := w.heap.size) (e := 41) (size := 14) W #[] 0 h (Nat.zero_le _) (by simp)
    refine RN.all (rs := [0, 10]) (by kernel_rfl) (by simp) ?_
    refine RN.All.cons rfl (fun K hK => ?_) ?_
    · skip
      go_simp
      have hb1 : Below W0.heap.size W0 (V.alloc (.cells #[] 41)) := hS.trans ((bel1 V (.cells #[] 41)).mono hS.size)
      have ho := hom V (by omega)
      have hsv : (V.alloc (.cells #[] 41)).heap.size = V.heap.size + 1 := World.size_alloc _ _
      refine hK _ _ (fun _ => hb1) ?_
      clear hK K
      obtain ⟨q, hqv⟩ : ∃ q, q = V.heap.size := ⟨_, rfl⟩
      rw [← hqv] at ho ⊢
      generalize (V.alloc (.cells #[] 41)) = V1 at hb1 ho hsv ⊢
      have hvq : q < V1.heap.size := by omega
      have hqw : W0.heap.size ≤ q := by omega
      clear hS hsv hqv hv0; have hS := hb1; clear hb1; have hv0 := hS.size
      clear V; obtain ⟨V, hVV⟩ : ∃ V, V = V1 := ⟨_, rfl⟩; subst hVV
      refine RN.all (rs := [8, 10]) (by kernel_rfl) (by simp) ?_
      refine RN.All.cons rfl (fun K hK => ?_) ?_
      · skip
        refine op_items (by rfl) (.tmp 35) (.tmp 42) 27 (by rfl) w.heap.size 41 i0 _ Try.underlying27 hi hz0 hz1 hz2 rfl _ [] (by rfl) ho _ (l.take i) (by rfl) ((HLA0.out.stay hS).take i cap (by omega) (by omega)) (by rw [List.length_take, List.length_nil]; omega) (by omega) ?_
        intro v' V1 hown1 hgrow hat
        rw [List.nil_append] at hown1
        have hlo : ∀ x, Value.ownBlock (.slice (some ⟨q, 0, none⟩) 0 0) = some x → W0.heap.size ≤ x := fun x e => by have e4 : q = x := Option.some.inj e; omega
        have hlo2 : ∀ x, v'.ownBlock = some x → W0.heap.size ≤ x := fun x e => hat.elim (fun e2 => hlo x (e2.symm.trans e)) fun e2 => by have e3 := Option.some.inj (e2.symm.trans e); omega
        have hb1 : Below W0.heap.size W0 V1 := hS.grown hgrow hS.size hlo
        have hv1 : V.heap.size ≤ V1.heap.size := hgrow.size
        refine hK _ _ (fun _ => hb1) ?_
        clear hK K
        clear hS hgrow hat ho; have hS := hb1; clear hb1
        have hown := hown1; clear hown1 hv0 hv1 hvq; have hv0 := hS.size
        clear V; obtain ⟨V, hVV⟩ : ∃ V, V = V1 := ⟨_, rfl⟩; subst hVV
        refine RN.all (rs := [10]) (by kernel_rfl) (by simp) ?_
        refine RN.All.cons rfl (fun K hK => ?_) RN.All.nil
        go_simp
        have hb1 : Below W0.heap.size W0 (V.alloc (.cells #[.int .i64 7, .int .i64 p.nk, .string p.nm, .bool p.g, .slice p.a1 p.az.length p.c1, .slice p.a2 p.nw.length p.c2, .slice p.a3 p.ks.len p.c3, .slice p.a4 p.bs.length p.c4, .slice p.a5 p.cz.len p.c5, .int .i64 0, .int .i64 0, .bool p.fr, .slice none 0 0, .slice none 0 0] 41)) := hS.trans ((bel1 V (.cells #[.int .i64 7, .int .i64 p.nk, .string p.nm, .bool p.g, .slice p.a1 p.az.length p.c1, .slice p.a2 p.nw.length p.c2, .slice p.a3 p.ks.len p.c3, .slice p.a4 p.bs.length p.c4, .slice p.a5 p.cz.len p.c5, .int .i64 0, .int .i64 0, .bool p.fr, .slice none 0 0, .slice none 0 0] 41)).mono hS.size)
        have hit1 : (V.alloc (.cells #[.int .i64 7, .int .i64 p.nk, .string p.nm, .bool p.g, .slice p.a1 p.az.length p.c1, .slice p.a2 p.nw.length p.c2, .slice p.a3 p.ks.len p.c3, .slice p.a4 p.bs.length p.c4, .slice p.a5 p.cz.len p.c5, .int .i64 0, .int .i64 0, .bool p.fr, .slice none 0 0, .slice none 0 0] 41)).heap[V.heap.size]? = some (.cells (icells (again p)).toArray 41 (0, 0)) := heap_alloc_new V (.cells #[.int .i64 7, .int .i64 p.nk, .string p.nm, .bool p.g, .slice p.a1 p.az.length p.c1, .slice p.a2 p.nw.length p.c2, .slice p.a3 p.ks.len p.c3, .slice p.a4 p.bs.length p.c4, .slice p.a5 p.cz.len p.c5, .int .i64 0, .int .i64 0, .bool p.fr, .slice none 0 0, .slice none 0 0] 41)
        have hsv : (V.alloc (.cells #[.int .i64 7, .int .i64 p.nk, .string p.nm, .bool p.g, .slice p.a1 p.az.length p.c1, .slice p.a2 p.nw.length p.c2, .slice p.a3 p.ks.len p.c3, .slice p.a4 p.bs.length p.c4, .slice p.a5 p.cz.len p.c5, .int .i64 0, .int .i64 0, .bool p.fr, .slice none 0 0, .slice none 0 0] 41)).heap.size = V.heap.size + 1 := World.size_alloc _ _
        have hown1 := hown.alloc (.cells #[.int .i64 7, .int .i64 p.nk, .string p.nm, .bool p.g, .slice p.a1 p.az.length p.c1, .slice p.a2 p.nw.length p.c2, .slice p.a3 p.ks.len p.c3, .slice p.a4 p.bs.length p.c4, .slice p.a5 p.cz.len p.c5, .int .i64 0, .int .i64 0, .bool p.fr, .slice none 0 0, .slice none 0 0] 41)
        have hown2 : (V.alloc (.cells #[.int .i64 7, .int .i64 p.nk, .string p.nm, .bool p.g, .slice p.a1 p.az.length p.c1, .slice p.a2 p.nw.length p.c2, .slice p.a3 p.ks.len p.c3, .slice p.a4 p.bs.length p.c4, .slice p.a5 p.cz.len p.c5, .int .i64 0, .int .i64 0, .bool p.fr, .slice none 0 0, .slice none 0 0] 41)).ownsRow w.heap.size 41 14 v' (l.take i).length (lcells (l.take i)) := hown1
        refine hK _ _ (fun _ => hb1) ?_
        clear hK K
        obtain ⟨j, hjv⟩ : ∃ j, j = V.heap.size := ⟨_, rfl⟩
        rw [← hjv] at hit1 ⊢
        clear hown1 hown
        generalize (V.alloc (.cells #[.int .i64 7, .int .i64 p.nk, .string p.nm, .bool p.g, .slice p.a1 p.az.length p.c1, .slice p.a2 p.nw.length p.c2, .slice p.a3 p.ks.len p.c3, .slice p.a4 p.bs.length p.c4, .slice p.a5 p.cz.len p.c5, .int .i64 0, .int .i64 0, .bool p.fr, .slice none 0 0, .slice none 0 0] 41)) = V1 at hb1 hit1 hsv hown2 ⊢
        have hjl1 : j < V1.heap.size := by omega
        clear hS hv0; have hS := hb1; have hit := hit1; have hjl := hjl1; clear hb1 hit1 hjl1; have hv0 := hS.size
        have hown := hown2; clear hown2
        clear hsv hjv; clear V; obtain ⟨V, hVV⟩ : ∃ V, V = V1 := ⟨_, rfl⟩; subst hVV
        refine RN.all (rs := [11]) (by kernel_rfl) (by simp) ?_
        refine RN.All.cons rfl (fun K hK => ?_) RN.All.nil
        refine op_items (by rfl) (.tmp 43) (.tmp 45) 27 (by rfl) w.heap.size 41 i0 _ Try.underlying27 hi hz0 hz1 hz2 rfl _ (l.take i) (by rfl) hown _ [(again p)] (by rfl) (one_item hit) (by rw [List.length_take, List.length_singleton]; omega) (by omega) ?_
        intro vz Vz hownz hgrowz hatz
        have hbz : Below W0.heap.size W0 Vz := hS.grown hgrowz hS.size hlo2
        refine hK _ _ (fun _ => hbz) ?_
        clear hK K
        refine RN.all (rs := [12]) (by kernel_rfl) (by simp) ?_
        refine RN.All.cons rfl (fun K hK => ?_) RN.All.nil
        go_simp
        refine hK _ _ (fun _ => hbz) ?_
        clear hK K
        refine RN.all (rs := [13]) (by kernel_rfl) (by simp) ?_
        refine RN.All.cons rfl (fun K hK => ?_) RN.All.nil
        go_simp
        refine hK _ _ (fun _ => hbz) ?_
        clear hK K
        refine RN.done (by kernel_rfl) ?_ _
        go_wp2_with fail
        go_ret2
        exact ⟨⟨_, p, HP.out, rfl, by rw [hgo]; exact hownz⟩, thru (thru HB.out hb0) hbz⟩
      refine RN.All.cons rfl (fun K hK => ?_) RN.All.nil
      go_simp
      have hb1 : Below W0.heap.size W0 (V.alloc (.cells #[.int .i64 7, .int .i64 p.nk, .string p.nm, .bool p.g, .slice p.a1 p.az.length p.c1, .slice p.a2 p.nw.length p.c2, .slice p.a3 p.ks.len p.c3, .slice p.a4 p.bs.length p.c4, .slice p.a5 p.cz.len p.c5, .int .i64 0, .int .i64 0, .bool p.fr, .slice none 0 0, .slice none 0 0] 41)) := hS.trans ((bel1 V (.cells #[.int .i64 7, .int .i64 p.nk, .string p.nm, .bool p.g, .slice p.a1 p.az.length p.c1, .slice p.a2 p.nw.length p.c2, .slice p.a3 p.ks.len p.c3, .slice p.a4 p.bs.length p.c4, .slice p.a5 p.cz.len p.c5, .int .i64 0, .int .i64 0, .bool p.fr, .slice none 0 0, .slice none 0 0] 41)).mono hS.size)
      have hit1 : (V.alloc (.cells #[.int .i64 7, .int .i64 p.nk, .string p.nm, .bool p.g, .slice p.a1 p.az.length p.c1, .slice p.a2 p.nw.length p.c2, .slice p.a3 p.ks.len p.c3, .slice p.a4 p.bs.length p.c4, .slice p.a5 p.cz.len p.c5, .int .i64 0, .int .i64 0, .bool p.fr, .slice none 0 0, .slice none 0 0] 41)).heap[V.heap.size]? = some (.cells (icells (again p)).toArray 41 (0, 0)) := heap_alloc_new V (.cells #[.int .i64 7, .int .i64 p.nk, .string p.nm, .bool p.g, .slice p.a1 p.az.length p.c1, .slice p.a2 p.nw.length p.c2, .slice p.a3 p.ks.len p.c3, .slice p.a4 p.bs.length p.c4, .slice p.a5 p.cz.len p.c5, .int .i64 0, .int .i64 0, .bool p.fr, .slice none 0 0, .slice none 0 0] 41)
      have hsv : (V.alloc (.cells #[.int .i64 7, .int .i64 p.nk, .string p.nm, .bool p.g, .slice p.a1 p.az.length p.c1, .slice p.a2 p.nw.length p.c2, .slice p.a3 p.ks.len p.c3, .slice p.a4 p.bs.length p.c4, .slice p.a5 p.cz.len p.c5, .int .i64 0, .int .i64 0, .bool p.fr, .slice none 0 0, .slice none 0 0] 41)).heap.size = V.heap.size + 1 := World.size_alloc _ _
      have ho1 := ho.alloc (.cells #[.int .i64 7, .int .i64 p.nk, .string p.nm, .bool p.g, .slice p.a1 p.az.length p.c1, .slice p.a2 p.nw.length p.c2, .slice p.a3 p.ks.len p.c3, .slice p.a4 p.bs.length p.c4, .slice p.a5 p.cz.len p.c5, .int .i64 0, .int .i64 0, .bool p.fr, .slice none 0 0, .slice none 0 0] 41)
      have ho2 : (V.alloc (.cells #[.int .i64 7, .int .i64 p.nk, .string p.nm, .bool p.g, .slice p.a1 p.az.length p.c1, .slice p.a2 p.nw.length p.c2, .slice p.a3 p.ks.len p.c3, .slice p.a4 p.bs.length p.c4, .slice p.a5 p.cz.len p.c5, .int .i64 0, .int .i64 0, .bool p.fr, .slice none 0 0, .slice none 0 0] 41)).ownsRow w.heap.size 41 14 (.slice (some ⟨q, 0, none⟩) 0 0) 0 [] := ho1
      refine hK _ _ (fun _ => hb1) ?_
      clear hK K
      obtain ⟨j, hjv⟩ : ∃ j, j = V.heap.size := ⟨_, rfl⟩
      rw [← hjv] at hit1 ⊢
      clear ho1 ho
      generalize (V.alloc (.cells #[.int .i64 7, .int .i64 p.nk, .string p.nm, .bool p.g, .slice p.a1 p.az.length p.c1, .slice p.a2 p.nw.length p.c2, .slice p.a3 p.ks.len p.c3, .slice p.a4 p.bs.length p.c4, .slice p.a5 p.cz.len p.c5, .int .i64 0, .int .i64 0, .bool p.fr, .slice none 0 0, .slice none 0 0] 41)) = V1 at hb1 hit1 hsv ho2 ⊢
      have hjl1 : j < V1.heap.size := by omega
      have hjq : j ≠ q := by omega
      clear hS hv0; have hS := hb1; have hit := hit1; have hjl := hjl1; clear hb1 hit1 hjl1; have hv0 := hS.size
      have ho := ho2; clear ho2; have hvq1 : q < V1.heap.size := (by omega); clear hvq; have hvq := hvq1; clear hvq1
      clear hsv hjv; clear V; obtain ⟨V, hVV⟩ : ∃ V, V = V1 := ⟨_, rfl⟩; subst hVV
      refine RN.all (rs := [8]) (by kernel_rfl) (by simp) ?_
      refine RN.All.cons rfl (fun K hK => ?_) RN.All.nil
      refine op_items (by rfl) (.tmp 35) (.tmp 42) 27 (by rfl) w.heap.size 41 i0 _ Try.underlying27 hi hz0 hz1 hz2 rfl _ [] (by rfl) ho _ (l.take i) (by rfl) ((HLA0.out.stay hS).take i cap (by omega) (by omega)) (by rw [List.length_take, List.length_nil]; omega) (by omega) ?_
      intro v' V1 hown1 hgrow hat
      rw [List.nil_append] at hown1
      have hlo : ∀ x, Value.ownBlock (.slice (some ⟨q, 0, none⟩) 0 0) = some x → W0.heap.size ≤ x := fun x e => by have e4 : q = x := Option.some.inj e; omega
      have hlo2 : ∀ x, v'.ownBlock = some x → W0.heap.size ≤ x := fun x e => hat.elim (fun e2 => hlo x (e2.symm.trans e)) fun e2 => by have e3 := Option.some.inj (e2.symm.trans e); omega
      have hb1 : Below W0.heap.size W0 V1 := hS.grown hgrow hS.size hlo
      have hv1 : V.heap.size ≤ V1.heap.size := hgrow.size
      have hit1 := (hgrow.block j hjl (fun e => hjq (by have e4 : j = q := Option.some.inj e; exact e4))).trans hit
      refine hK _ _ (fun _ => hb1) ?_
      clear hK K
      clear hS hit hgrow hat ho; have hS := hb1; have hit := hit1; clear hb1 hit1; have hjl1 : j < V1.heap.size := (by omega); clear hjl; have hjl := hjl1; clear hjl1
      have hown := hown1; clear hown1 hv0 hv1 hvq; have hv0 := hS.size
      clear V; obtain ⟨V, hVV⟩ : ∃ V, V = V1 := ⟨_, rfl⟩; subst hVV
      refine RN.all (rs := [11]) (by kernel_rfl) (by simp) ?_
      refine RN.All.cons rfl (fun K hK => ?_) RN.All.nil
      refine op_items (by rfl) (.tmp 43) (.tmp 45) 27 (by rfl) w.heap.size 41 i0 _ Try.underlying27 hi hz0 hz1 hz2 rfl _ (l.take i) (by rfl) hown _ [(again p)] (by rfl) (one_item hit) (by rw [List.length_take, List.length_singleton]; omega) (by omega) ?_
      intro vz Vz hownz hgrowz hatz
      have hbz : Below W0.heap.size W0 Vz := hS.grown hgrowz hS.size hlo2
      refine hK _ _ (fun _ => hbz) ?_
      clear hK K
      refine RN.all (rs := [12]) (by kernel_rfl) (by simp) ?_
      refine RN.All.cons rfl (fun K hK => ?_) RN.All.nil
      go_simp
      refine hK _ _ (fun _ => hbz) ?_
      clear hK K
      refine RN.all (rs := [13]) (by kernel_rfl) (by simp) ?_
      refine RN.All.cons rfl (fun K hK => ?_) RN.All.nil
      go_simp
      refine hK _ _ (fun _ => hbz) ?_
      clear hK K
      refine RN.done (by kernel_rfl) ?_ _
      go_wp2_with fail
      go_ret2
      exact ⟨⟨_, p, HP.out, rfl, by rw [hgo]; exact hownz⟩, thru (thru HB.out hb0) hbz⟩
    refine RN.All.cons rfl (fun K hK => ?_) RN.All.nil
    go_simp
    have hb1 : Below W0.heap.size W0 (V.alloc (.cells #[.int .i64 7, .int .i64 p.nk, .string p.nm, .bool p.g, .slice p.a1 p.az.length p.c1, .slice p.a2 p.nw.length p.c2, .slice p.a3 p.ks.len p.c3, .slice p.a4 p.bs.length p.c4, .slice p.a5 p.cz.len p.c5, .int .i64 0, .int .i64 0, .bool p.fr, .slice none 0 0, .slice none 0 0] 41)) := hS.trans ((bel1 V (.cells #[.int .i64 7, .int .i64 p.nk, .string p.nm, .bool p.g, .slice p.a1 p.az.length p.c1, .slice p.a2 p.nw.length p.c2, .slice p.a3 p.ks.len p.c3, .slice p.a4 p.bs.length p.c4, .slice p.a5 p.cz.len p.c5, .int .i64 0, .int .i64 0, .bool p.fr, .slice none 0 0, .slice none 0 0] 41)).mono hS.size)
    have hit1 : (V.alloc (.cells #[.int .i64 7, .int .i64 p.nk, .string p.nm, .bool p.g, .slice p.a1 p.az.length p.c1, .slice p.a2 p.nw.length p.c2, .slice p.a3 p.ks.len p.c3, .slice p.a4 p.bs.length p.c4, .slice p.a5 p.cz.len p.c5, .int .i64 0, .int .i64 0, .bool p.fr, .slice none 0 0, .slice none 0 0] 41)).heap[V.heap.size]? = some (.cells (icells (again p)).toArray 41 (0, 0)) := heap_alloc_new V (.cells #[.int .i64 7, .int .i64 p.nk, .string p.nm, .bool p.g, .slice p.a1 p.az.length p.c1, .slice p.a2 p.nw.length p.c2, .slice p.a3 p.ks.len p.c3, .slice p.a4 p.bs.length p.c4, .slice p.a5 p.cz.len p.c5, .int .i64 0, .int .i64 0, .bool p.fr, .slice none 0 0, .slice none 0 0] 41)
    have hsv : (V.alloc (.cells #[.int .i64 7, .int .i64 p.nk, .string p.nm, .bool p.g, .slice p.a1 p.az.length p.c1, .slice p.a2 p.nw.length p.c2, .slice p.a3 p.ks.len p.c3, .slice p.a4 p.bs.length p.c4, .slice p.a5 p.cz.len p.c5, .int .i64 0, .int .i64 0, .bool p.fr, .slice none 0 0, .slice none 0 0] 41)).heap.size = V.heap.size + 1 := World.size_alloc _ _
    refine hK _ _ (fun _ => hb1) ?_
    clear hK K
    obtain ⟨j, hjv⟩ : ∃ j, j = V.heap.size := ⟨_, rfl⟩
    rw [← hjv] at hit1 ⊢
    generalize (V.alloc (.cells #[.int .i64 7, .int .i64 p.nk, .string p.nm, .bool p.g, .slice p.a1 p.az.length p.c1, .slice p.a2 p.nw.length p.c2, .slice p.a3 p.ks.len p.c3, .slice p.a4 p.bs.length p.c4, .slice p.a5 p.cz.len p.c5, .int .i64 0, .int .i64 0, .bool p.fr, .slice none 0 0, .slice none 0 0] 41)) = V1 at hb1 hit1 hsv ⊢
    have hjl1 : j < V1.heap.size := by omega
    clear hS hv0; have hS := hb1; have hit := hit1; have hjl := hjl1; clear hb1 hit1 hjl1; have hv0 := hS.size
    clear hsv hjv; clear V; obtain ⟨V, hVV⟩ : ∃ V, V = V1 := ⟨_, rfl⟩; subst hVV
    refine RN.all (rs := [0]) (by kernel_rfl) (by simp) ?_
    refine RN.All.cons rfl (fun K hK => ?_) RN.All.nil
    go_simp
    have hb1 : Below W0.heap.size W0 (V.alloc (.cells #[] 41)) := hS.trans ((bel1 V (.cells #[] 41)).mono hS.size)
    have ho := hom V (by omega)
    have hsv : (V.alloc (.cells #[] 41)).heap.size = V.heap.size + 1 := World.size_alloc _ _
    have hit1 : (V.alloc (.cells #[] 41)).heap[j]? = some (.cells (icells (again p)).toArray 41 (0, 0)) := ((bel1 V (.cells #[] 41)).block j hjl).trans hit
    refine hK _ _ (fun _ => hb1) ?_
    clear hK K
    obtain ⟨q, hqv⟩ : ∃ q, q = V.heap.size := ⟨_, rfl⟩
    rw [← hqv] at ho ⊢
    generalize (V.alloc (.cells #[] 41)) = V1 at hb1 ho hsv hit1 ⊢
    have hvq : q < V1.heap.size := by omega
    have hqw : W0.heap.size ≤ q := by omega
    have hjq : j ≠ q := by omega
    have hjl1 : j < V1.heap.size := by omega
    clear hS hit hjl hsv hqv hv0; have hS := hb1; have hit := hit1; have hjl := hjl1; clear hb1 hit1 hjl1; have hv0 := hS.size
    clear V; obtain ⟨V, hVV⟩ : ∃ V, V = V1 := ⟨_, rfl⟩; subst hVV
    refine RN.all (rs := [8]) (by kernel_rfl) (by simp) ?_
    refine RN.All.cons rfl (fun K hK => ?_) RN.All.nil
    refine op_items (by rfl) (.tmp 35) (.tmp 42) 27 (by rfl) w.heap.size 41 i0 _ Try.underlying27 hi hz0 hz1 hz2 rfl _ [] (by rfl) ho _ (l.take i) (by rfl) ((HLA0.out.stay hS).take i cap (by omega) (by omega)) (by rw [List.length_take, List.length_nil]; omega) (by omega) ?_
    intro v' V1 hown1 hgrow hat
    rw [List.nil_append] at hown1
    have hlo : ∀ x, Value.ownBlock (.slice (some ⟨q, 0, none⟩) 0 0) = some x → W0.heap.size ≤ x := fun x e => by have e4 : q = x := Option.some.inj e; omega
    have hlo2 : ∀ x, v'.ownBlock = some x → W0.heap.size ≤ x := fun x e => hat.elim (fun e2 => hlo x (e2.symm.trans e)) fun e2 => by have e3 := Option.some.inj (e2.symm.trans e); omega
    have hb1 : Below W0.heap.size W0 V1 := hS.grown hgrow hS.size hlo
    have hv1 : V.heap.size ≤ V1.heap.size := hgrow.size
    have hit1 := (hgrow.block j hjl (fun e => hjq (by have e4 : j = q := Option.some.inj e; exact e4))).trans hit
    refine hK _ _ (fun _ => hb1) ?_
    clear hK K
    clear hS hit hgrow hat ho; have hS := hb1; have hit := hit1; clear hb1 hit1; have hjl1 : j < V1.heap.size := (by omega); clear hjl; have hjl := hjl1; clear hjl1
    have hown := hown1; clear hown1 hv0 hv1 hvq; have hv0 := hS.size
    clear V; obtain ⟨V, hVV⟩ : ∃ V, V = V1 := ⟨_, rfl⟩; subst hVV
    refine RN.all (rs := [11]) (by kernel_rfl) (by simp) ?_
    refine RN.All.cons rfl (fun K hK => ?_) RN.All.nil
    refine op_items (by rfl) (.tmp 43) (.tmp 45) 27 (by rfl) w.heap.size 41 i0 _ Try.underlying27 hi hz0 hz1 hz2 rfl _ (l.take i) (by rfl) hown _ [(again p)] (by rfl) (one_item hit) (by rw [List.length_take, List.length_singleton]; omega) (by omega) ?_
    intro vz Vz hownz hgrowz hatz
    have hbz : Below W0.heap.size W0 Vz := hS.grown hgrowz hS.size hlo2
    refine hK _ _ (fun _ => hbz) ?_
    clear hK K
    refine RN.all (rs := [12]) (by kernel_rfl) (by simp) ?_
    refine RN.All.cons rfl (fun K hK => ?_) RN.All.nil
    go_simp
    refine hK _ _ (fun _ => hbz) ?_
    clear hK K
    refine RN.all (rs := [13]) (by kernel_rfl) (by simp) ?_
    refine RN.All.cons rfl (fun K hK => ?_) RN.All.nil
    go_simp
    refine hK _ _ (fun _ => hbz) ?_
    clear hK K
    refine RN.done (by kernel_rfl) ?_ _
    go_wp2_with fail
    go_ret2
    exact ⟨⟨_, p, HP.out, rfl, by rw [hgo]; exact hownz⟩, thru (thru HB.out hb0) hbz⟩
  · have h8' : (p.k != 8) = false := by rw [bne, h8]; rfl
    have hgo : goes p = p := by unfold goes; rw [h8]; rfl
    go_wp2_with fail
    have hxr : (w1.alloc (.cells #[.int .i64 p.k, .int .i64 p.nk, .string p.nm, .bool p.g, .slice p.a1 p.az.length p.c1, .slice p.a2 p.nw.length p.c2, .slice p.a3 p.ks.len p.c3, .slice p.a4 p.bs.length p.c4, .slice p.a5 p.cz.len p.c5, .int .i64 p.pl, .int .i64 p.st, .bool p.fr, .slice p.wa p.ws.length p.wc, .slice p.pa p.ps.length p.pc] 41)).heap[w1.heap.size]? = some (.cells (icells p).toArray 41 (0, 0)) := heap_alloc_new w1 (.cells #[.int .i64 p.k, .int .i64 p.nk, .string p.nm, .bool p.g, .slice p.a1 p.az.length p.c1, .slice p.a2 p.nw.length p.c2, .slice p.a3 p.ks.len p.c3, .slice p.a4 p.bs.length p.c4, .slice p.a5 p.cz.len p.c5, .int .i64 p.pl, .int .i64 p.st, .bool p.fr, .slice p.wa p.ws.length p.wc, .slice p.pa p.ps.length p.pc] 41)
    have hb0 : Below w1.heap.size w1 (w1.alloc (.cells #[.int .i64 p.k, .int .i64 p.nk, .string p.nm, .bool p.g, .slice p.a1 p.az.length p.c1, .slice p.a2 p.nw.length p.c2, .slice p.a3 p.ks.len p.c3, .slice p.a4 p.bs.length p.c4, .slice p.a5 p.cz.len p.c5, .int .i64 p.pl, .int .i64 p.st, .bool p.fr, .slice p.wa p.ws.length p.wc, .slice p.pa p.ps.length p.pc] 41)) := bel1 _ _
    have hsz0 : (w1.alloc (.cells #[.int .i64 p.k, .int .i64 p.nk, .string p.nm, .bool p.g, .slice p.a1 p.az.length p.c1, .slice p.a2 p.nw.length p.c2, .slice p.a3 p.ks.len p.c3, .slice p.a4 p.bs.length p.c4, .slice p.a5 p.cz.len p.c5, .int .i64 p.pl, .int .i64 p.st, .bool p.fr, .slice p.wa p.ws.length p.wc, .slice p.pa p.ps.length p.pc] 41)).heap.size = w1.heap.size + 1 := World.size_alloc _ _
    have hq : ∀ W, Below w1.heap.size w1 W → W.cell? ⟨g, m, none⟩ = some (.int .i64 (i : Int)) := fun W h => cell_below h hcell
    have hla := HLA.out.stay (thru HB.out hb0)
    generalize w1.alloc (.cells #[.int .i64 p.k, .int .i64 p.nk, .string p.nm, .bool p.g, .slice p.a1 p.az.length p.c1, .slice p.a2 p.nw.length p.c2, .slice p.a3 p.ks.len p.c3, .slice p.a4 p.bs.length p.c4, .slice p.a5 p.cz.len p.c5, .int .i64 p.pl, .int .i64 p.st, .bool p.fr, .slice p.wa p.ws.length p.wc, .slice p.pa p.ps.length p.pc] 41) = W0 at hxr hb0 hsz0 hla ⊢
    have HQ := Lib.hid hq; have HXR := Lib.hid hxr; have HLA0 := Lib.hid hla
    clear s0 s1 s2 s3 s4 s5 s6 s7 s8 s9 s10 s11 s12 s13 hcell hq hxr hla
    refine RN.begins (fun w' => Below W0.heap.size W0 w') [] (by kernel_rfl) ?_
    have hS : Below W0.heap.size W0 W0.drew := ⟨rfl, rfl, rfl, Nat.le_refl _, fun _ _ => rfl⟩
    have hws : w.heap.size ≤ W0.heap.size := by omega
    have hv0 : W0.heap.size ≤ W0.drew.heap.size := Nat.le_refl _
    generalize W0.drew = V at hS hv0 ⊢
    refine RN.tk (i := 1) (v := ?_) rfl hS ?_ ?_
    rotate_left 1
    · (intro wq hq; skip; go_simp; try with_reducible rfl)
    refine RN.tk (i := 2) (v := ?_) rfl hS ?_ ?_
    rotate_left 1
    · (intro wq hq; skip; go_simp; try with_reducible rfl)
    refine RN.tk (i := 3) (v := ?_) rfl hS ?_ ?_
    rotate_left 1
    · (intro wq hq; skip; go_simp; try with_reducible rfl)
    refine RN.tk (i := 4) (v := ?_) rfl hS ?_ ?_
    rotate_left 1
    · (intro wq hq; go_simp; try with_reducible rfl)
    refine RN.tk (i := 5) (v := ?_) rfl hS ?_ ?_
    rotate_left 1
    · (intro wq hq; go_simp; try with_reducible rfl)
    refine RN.tk (i := 6) (v := ?_) rfl hS ?_ ?_
    rotate_left 1
    · (intro wq hq; have s0 := HQ.out wq (thru hb0 hq); go_simp; try with_reducible rfl)
    refine RN.tk (i := 7) (v := ?_) rfl hS ?_ ?_
    rotate_left 1
    · (intro wq hq; go_simp; rw [if_pos (show i ≤ cap by omega)])
    refine RN.tk (i := 9) (v := ?_) rfl hS ?_ ?_
    rotate_left 1
    · (intro wq hq; have s0 : wq.cell? ⟨w1.heap.size, 0, none⟩ = some (.int .i64 p.k) := cell_below hq (icell HXR.out 0 rfl); have s1 : wq.cell? ⟨w1.heap.size, 1, none⟩ = some (.int .i64 p.nk) := cell_below hq (icell HXR.out 1 rfl); have s2 : wq.cell? ⟨w1.heap.size, 2, none⟩ = some (.string p.nm) := cell_below hq (icell HXR.out 2 rfl); have s3 : wq.cell? ⟨w1.heap.size, 3, none⟩ = some (.bool p.g) := cell_below hq (icell HXR.out 3 rfl); have s4 : wq.cell? ⟨w1.heap.size, 4, none⟩ = some (.slice p.a1 p.az.length p.c1) := cell_below hq (icell HXR.out 4 rfl); have s5 : wq.cell? ⟨w1.heap.size, 5, none⟩ = some (.slice p.a2 p.nw.length p.c2) := cell_below hq (icell HXR.out 5 rfl); have s6 : wq.cell? ⟨w1.heap.size, 6, none⟩ = some (.slice p.a3 p.ks.len p.c3) := cell_below hq (icell HXR.out 6 rfl); have s7 : wq.cell? ⟨w1.heap.size, 7, none⟩ = some (.slice p.a4 p.bs.length p.c4) := cell_below hq (icell HXR.out 7 rfl); have s8 : wq.cell? ⟨w1.heap.size, 8, none⟩ = some (.slice p.a5 p.cz.len p.c5) := cell_below hq (icell HXR.out 8 rfl); have s9 : wq.cell? ⟨w1.heap.size, 9, none⟩ = some (.int .i64 p.pl) := cell_below hq (icell HXR.out 9 rfl); have s10 : wq.cell? ⟨w1.heap.size, 10, none⟩ = some (.int .i64 p.st) := cell_below hq (icell HXR.out 10 rfl); have s11 : wq.cell? ⟨w1.heap.size, 11, none⟩ = some (.bool p.fr) := cell_below hq (icell HXR.out 11 rfl); have s12 : wq.cell? ⟨w1.heap.size, 12, none⟩ = some (.slice p.wa p.ws.length p.wc) := cell_below hq (icell HXR.out 12 rfl); have s13 : wq.cell? ⟨w1.heap.size, 13, none⟩ = some (.slice p.pa p.ps.length p.pc) := cell_below hq (icell HXR.out 13 rfl); go_simp; try with_reducible rfl)
    have hom : ∀ W : World, w.heap.size ≤ W.heap.size → (W.alloc (.cells #[] 41)).ownsRow w.heap.size 41 14 (.slice (some ⟨W.heap.size, 0, none⟩) 0 0) 0 [] := fun W h => World.ownsRow_made (base := w.heap.size) (e := 41) (size := 14) W #[] 0 h (Nat.zero_le _) (by simp)
    refine RN.all (rs := [0, 10]) (by kernel_rfl) (by simp) ?_
    refine RN.All.cons rfl (fun K hK => ?_) ?_
    · skip
      go_simp
      have hb1 : Below W0.heap.size W0 (V.alloc (.cells #[] 41)) := hS.trans ((bel1 V (.cells #[] 41)).mono hS.size)
      have ho := hom V (by omega)
      have hsv : (V.alloc (.cells #[] 41)).heap.size = V.heap.size + 1 := World.size_alloc _ _
      refine hK _ _ (fun _ => hb1) ?_
      clear hK K
      obtain ⟨q, hqv⟩ : ∃ q, q = V.heap.size := ⟨_, rfl⟩
      rw [← hqv] at ho ⊢
      generalize (V.alloc (.cells #[] 41)) = V1 at hb1 ho hsv ⊢
      have hvq : q < V1.heap.size := by omega
      have hqw : W0.heap.size ≤ q := by omega
      clear hS hsv hqv hv0; have hS := hb1; clear hb1; have hv0 := hS.size
      clear V; obtain ⟨V, hVV⟩ : ∃ V, V = V1 := ⟨_, rfl⟩; subst hVV
      refine RN.all (rs := [8, 10]) (by kernel_rfl) (by simp) ?_
      refine RN.All.cons rfl (fun K hK => ?_) ?_
      · skip
        refine op_items (by rfl) (.tmp 35) (.tmp 42) 27 (by rfl) w.heap.size 41 i0 _ Try.underlying27 hi hz0 hz1 hz2 rfl _ [] (by rfl) ho _ (l.take i) (by rfl) ((HLA0.out.stay hS).take i cap (by omega) (by omega)) (by rw [List.length_take, List.length_nil]; omega) (by omega) ?_
        intro v' V1 hown1 hgrow hat
        rw [List.nil_append] at hown1
        have hlo : ∀ x, Value.ownBlock (.slice (some ⟨q, 0, none⟩) 0 0) = some x → W0.heap.size ≤ x := fun x e => by have e4 : q = x := Option.some.inj e; omega
        have hlo2 : ∀ x, v'.ownBlock = some x → W0.heap.size ≤ x := fun x e => hat.elim (fun e2 => hlo x (e2.symm.trans e)) fun e2 => by have e3 := Option.some.inj (e2.symm.trans e); omega
        have hb1 : Below W0.heap.size W0 V1 := hS.grown hgrow hS.size hlo
        have hv1 : V.heap.size ≤ V1.heap.size := hgrow.size
        refine hK _ _ (fun _ => hb1) ?_
        clear hK K
        clear hS hgrow hat ho; have hS := hb1; clear hb1
        have hown := hown1; clear hown1 hv0 hv1 hvq; have hv0 := hS.size
        clear V; obtain ⟨V, hVV⟩ : ∃ V, V = V1 := ⟨_, rfl⟩; subst hVV
        refine RN.all (rs := [10]) (by kernel_rfl) (by simp) ?_
        refine RN.All.cons rfl (fun K hK => ?_) RN.All.nil
        go_simp
        have hb1 : Below W0.heap.size W0 (V.alloc (.cells #[.int .i64 p.k, .int .i64 p.nk, .string p.nm, .bool p.g, .slice p.a1 p.az.length p.c1, .slice p.a2 p.nw.length p.c2, .slice p.a3 p.ks.len p.c3, .slice p.a4 p.bs.length p.c4, .slice p.a5 p.cz.len p.c5, .int .i64 p.pl, .int .i64 p.st, .bool p.fr, .slice p.wa p.ws.length p.wc, .slice p.pa p.ps.length p.pc] 41)) := hS.trans ((bel1 V (.cells #[.int .i64 p.k, .int .i64 p.nk, .string p.nm, .bool p.g, .slice p.a1 p.az.length p.c1, .slice p.a2 p.nw.length p.c2, .slice p.a3 p.ks.len p.c3, .slice p.a4 p.bs.length p.c4, .slice p.a5 p.cz.len p.c5, .int .i64 p.pl, .int .i64 p.st, .bool p.fr, .slice p.wa p.ws.length p.wc, .slice p.pa p.ps.length p.pc] 41)).mono hS.size)
        have hit1 : (V.alloc (.cells #[.int .i64 p.k, .int .i64 p.nk, .string p.nm, .bool p.g, .slice p.a1 p.az.length p.c1, .slice p.a2 p.nw.length p.c2, .slice p.a3 p.ks.len p.c3, .slice p.a4 p.bs.length p.c4, .slice p.a5 p.cz.len p.c5, .int .i64 p.pl, .int .i64 p.st, .bool p.fr, .slice p.wa p.ws.length p.wc, .slice p.pa p.ps.length p.pc] 41)).heap[V.heap.size]? = some (.cells (icells p).toArray 41 (0, 0)) := heap_alloc_new V (.cells #[.int .i64 p.k, .int .i64 p.nk, .string p.nm, .bool p.g, .slice p.a1 p.az.length p.c1, .slice p.a2 p.nw.length p.c2, .slice p.a3 p.ks.len p.c3, .slice p.a4 p.bs.length p.c4, .slice p.a5 p.cz.len p.c5, .int .i64 p.pl, .int .i64 p.st, .bool p.fr, .slice p.wa p.ws.length p.wc, .slice p.pa p.ps.length p.pc] 41)
        have hsv : (V.alloc (.cells #[.int .i64 p.k, .int .i64 p.nk, .string p.nm, .bool p.g, .slice p.a1 p.az.length p.c1, .slice p.a2 p.nw.length p.c2, .slice p.a3 p.ks.len p.c3, .slice p.a4 p.bs.length p.c4, .slice p.a5 p.cz.len p.c5, .int .i64 p.pl, .int .i64 p.st, .bool p.fr, .slice p.wa p.ws.length p.wc, .slice p.pa p.ps.length p.pc] 41)).heap.size = V.heap.size + 1 := World.size_alloc _ _
        have hown1 := hown.alloc (.cells #[.int .i64 p.k, .int .i64 p.nk, .string p.nm, .bool p.g, .slice p.a1 p.az.length p.c1, .slice p.a2 p.nw.length p.c2, .slice p.a3 p.ks.len p.c3, .slice p.a4 p.bs.length p.c4, .slice p.a5 p.cz.len p.c5, .int .i64 p.pl, .int .i64 p.st, .bool p.fr, .slice p.wa p.ws.length p.wc, .slice p.pa p.ps.length p.pc] 41)
        have hown2 : (V.alloc (.cells #[.int .i64 p.k, .int .i64 p.nk, .string p.nm, .bool p.g, .slice p.a1 p.az.length p.c1, .slice p.a2 p.nw.length p.c2, .slice p.a3 p.ks.len p.c3, .slice p.a4 p.bs.length p.c4, .slice p.a5 p.cz.len p.c5, .int .i64 p.pl, .int .i64 p.st, .bool p.fr, .slice p.wa p.ws.length p.wc, .slice p.pa p.ps.length p.pc] 41)).ownsRow w.heap.size 41 14 v' (l.take i).length (lcells (l.take i)) := hown1
        refine hK _ _ (fun _ => hb1) ?_
        clear hK K
        obtain ⟨j, hjv⟩ : ∃ j, j = V.heap.size := ⟨_, rfl⟩
        rw [← hjv] at hit1 ⊢
        clear hown1 hown
        generalize (V.alloc (.cells #[.int .i64 p.k, .int .i64 p.nk, .string p.nm, .bool p.g, .slice p.a1 p.az.length p.c1, .slice p.a2 p.nw.length p.c2, .slice p.a3 p.ks.len p.c3, .slice p.a4 p.bs.length p.c4, .slice p.a5 p.cz.len p.c5, .int .i64 p.pl, .int .i64 p.st, .bool p.fr, .slice p.wa p.ws.length p.wc, .slice p.pa p.ps.length p.pc] 41)) = V1 at hb1 hit1 hsv hown2 ⊢
        have hjl1 : j < V1.heap.size := by omega
        clear hS hv0; have hS := hb1; have hit := hit1; have hjl := hjl1; clear hb1 hit1 hjl1; have hv0 := hS.size
        have hown := hown2; clear hown2
        clear hsv hjv; clear V; obtain ⟨V, hVV⟩ : ∃ V, V = V1 := ⟨_, rfl⟩; subst hVV
        refine RN.all (rs := [11]) (by kernel_rfl) (by simp) ?_
        refine RN.All.cons rfl (fun K hK => ?_) RN.All.nil
        refine op_items (by rfl) (.tmp 43) (.tmp 45) 27 (by rfl) w.heap.size 41 i0 _ Try.underlying27 hi hz0 hz1 hz2 rfl _ (l.take i) (by rfl) hown _ [p] (by rfl) (one_item hit) (by rw [List.length_take, List.length_singleton]; omega) (by omega) ?_
        intro vz Vz hownz hgrowz hatz
        have hbz : Below W0.heap.size W0 Vz := hS.grown hgrowz hS.size hlo2
        refine hK _ _ (fun _ => hbz) ?_
        clear hK K
        refine RN.all (rs := [12]) (by kernel_rfl) (by simp) ?_
        refine RN.All.cons rfl (fun K hK => ?_) RN.All.nil
        go_simp
        refine hK _ _ (fun _ => hbz) ?_
        clear hK K
        refine RN.all (rs := [13]) (by kernel_rfl) (by simp) ?_
        refine RN.All.cons rfl (fun K hK => ?_) RN.All.nil
        go_simp
        refine hK _ _ (fun _ => hbz) ?_
        clear hK K
        refine RN.done (by kernel_rfl) ?_ _
        go_wp2_with fail
        go_ret2
        exact ⟨⟨_, p, HP.out, rfl, by rw [hgo]; exact hownz⟩, thru (thru HB.out hb0) hbz⟩
      refine RN.All.cons rfl (fun K hK => ?_) RN.All.nil
      go_simp
      have hb1 : Below W0.heap.size W0 (V.alloc (.cells #[.int .i64 p.k, .int .i64 p.nk, .string p.nm, .bool p.g, .slice p.a1 p.az.length p.c1, .slice p.a2 p.nw.length p.c2, .slice p.a3 p.ks.len p.c3, .slice p.a4 p.bs.length p.c4, .slice p.a5 p.cz.len p.c5, .int .i64 p.pl, .int .i64 p.st, .bool p.fr, .slice p.wa p.ws.length p.wc, .slice p.pa p.ps.length p.pc] 41)) := hS.trans ((bel1 V (.cells #[.int .i64 p.k, .int .i64 p.nk, .string p.nm, .bool p.g, .slice p.a1 p.az.length p.c1, .slice p.a2 p.nw.length p.c2, .slice p.a3 p.ks.len p.c3, .slice p.a4 p.bs.length p.c4, .slice p.a5 p.cz.len p.c5, .int .i64 p.pl, .int .i64 p.st, .bool p.fr, .slice p.wa p.ws.length p.wc, .slice p.pa p.ps.length p.pc] 41)).mono hS.size)
      have hit1 : (V.alloc (.cells #[.int .i64 p.k, .int .i64 p.nk, .string p.nm, .bool p.g, .slice p.a1 p.az.length p.c1, .slice p.a2 p.nw.length p.c2, .slice p.a3 p.ks.len p.c3, .slice p.a4 p.bs.length p.c4, .slice p.a5 p.cz.len p.c5, .int .i64 p.pl, .int .i64 p.st, .bool p.fr, .slice p.wa p.ws.length p.wc, .slice p.pa p.ps.length p.pc] 41)).heap[V.heap.size]? = some (.cells (icells p).toArray 41 (0, 0)) := heap_alloc_new V (.cells #[.int .i64 p.k, .int .i64 p.nk, .string p.nm, .bool p.g, .slice p.a1 p.az.length p.c1, .slice p.a2 p.nw.length p.c2, .slice p.a3 p.ks.len p.c3, .slice p.a4 p.bs.length p.c4, .slice p.a5 p.cz.len p.c5, .int .i64 p.pl, .int .i64 p.st, .bool p.fr, .slice p.wa p.ws.length p.wc, .slice p.pa p.ps.length p.pc] 41)
      have hsv : (V.alloc (.cells #[.int .i64 p.k, .int .i64 p.nk, .string p.nm, .bool p.g, .slice p.a1 p.az.length p.c1, .slice p.a2 p.nw.length p.c2, .slice p.a3 p.ks.len p.c3, .slice p.a4 p.bs.length p.c4, .slice p.a5 p.cz.len p.c5, .int .i64 p.pl, .int .i64 p.st, .bool p.fr, .slice p.wa p.ws.length p.wc, .slice p.pa p.ps.length p.pc] 41)).heap.size = V.heap.size + 1 := World.size_alloc _ _
      have ho1 := ho.alloc (.cells #[.int .i64 p.k, .int .i64 p.nk, .string p.nm, .bool p.g, .slice p.a1 p.az.length p.c1, .slice p.a2 p.nw.length p.c2, .slice p.a3 p.ks.len p.c3, .slice p.a4 p.bs.length p.c4, .slice p.a5 p.cz.len p.c5, .int .i64 p.pl, .int .i64 p.st, .bool p.fr, .slice p.wa p.ws.length p.wc, .slice p.pa p.ps.length p.pc] 41)
      have ho2 : (V.alloc (.cells #[.int .i64 p.k, .int .i64 p.nk, .string p.nm, .bool p.g, .slice p.a1 p.az.length p.c1, .slice p.a2 p.nw.length p.c2, .slice p.a3 p.ks.len p.c3, .slice p.a4 p.bs.length p.c4, .slice p.a5 p.cz.len p.c5, .int .i64 p.pl, .int .i64 p.st, .bool p.fr, .slice p.wa p.ws.length p.wc, .slice p.pa p.ps.length p.pc] 41)).ownsRow w.heap.size 41 14 (.slice (some ⟨q, 0, none⟩) 0 0) 0 [] := ho1
      refine hK _ _ (fun _ => hb1) ?_
      clear hK K
      obtain ⟨j, hjv⟩ : ∃ j, j = V.heap.size := ⟨_, rfl⟩
      rw [← hjv] at hit1 ⊢
      clear ho1 ho
      generalize (V.alloc (.cells #[.int .i64 p.k, .int .i64 p.nk, .string p.nm, .bool p.g, .slice p.a1 p.az.length p.c1, .slice p.a2 p.nw.length p.c2, .slice p.a3 p.ks.len p.c3, .slice p.a4 p.bs.length p.c4, .slice p.a5 p.cz.len p.c5, .int .i64 p.pl, .int .i64 p.st, .bool p.fr, .slice p.wa p.ws.length p.wc, .slice p.pa p.ps.length p.pc] 41)) = V1 at hb1 hit1 hsv ho2 ⊢
      have hjl1 : j < V1.heap.size := by omega
      have hjq : j ≠ q := by omega
      clear hS hv0; have hS := hb1; have hit := hit1; have hjl := hjl1; clear hb1 hit1 hjl1; have hv0 := hS.size
      have ho := ho2; clear ho2; have hvq1 : q < V1.heap.size := (by omega); clear hvq; have hvq := hvq1; clear hvq1
      clear hsv hjv; clear V; obtain ⟨V, hVV⟩ : ∃ V, V = V1 := ⟨_, rfl⟩; subst hVV
      refine RN.all (rs := [8]) (by kernel_rfl) (by simp) ?_
      refine RN.All.cons rfl (fun K hK => ?_) RN.All.nil
      refine op_items (by rfl) (.tmp 35) (.tmp 42) 27 (by rfl) w.heap.size 41 i0 _ Try.underlying27 hi hz0 hz1 hz2 rfl _ [] (by rfl) ho _ (l.take i) (by rfl) ((HLA0.out.stay hS).take i cap (by omega) (by omega)) (by rw [List.length_take, List.length_nil]; omega) (by omega) ?_
      intro v' V1 hown1 hgrow hat
      rw [List.nil_append] at hown1
      have hlo : ∀ x, Value.ownBlock (.slice (some ⟨q, 0, none⟩) 0 0) = some x → W0.heap.size ≤ x := fun x e => by have e4 : q = x := Option.some.inj e; omega
      have hlo2 : ∀ x, v'.ownBlock = some x → W0.heap.size ≤ x := fun x e => hat.elim (fun e2 => hlo x (e2.symm.trans e)) fun e2 => by have e3 := Option.some.inj (e2.symm.trans e); omega
      have hb1 : Below W0.heap.size W0 V1 := hS.grown hgrow hS.size hlo
      have hv1 : V.heap.size ≤ V1.heap.size := hgrow.size
      have hit1 := (hgrow.block j hjl (fun e => hjq (by have e4 : j = q := Option.some.inj e; exact e4))).trans hit
      refine hK _ _ (fun _ => hb1) ?_
      clear hK K
      clear hS hit hgrow hat ho; have hS := hb1; have hit := hit1; clear hb1 hit1; have hjl1 : j < V1.heap.size := (by omega); clear hjl; have hjl := hjl1; clear hjl1
      have hown := hown1; clear hown1 hv0 hv1 hvq; have hv0 := hS.size
      clear V; obtain ⟨V, hVV⟩ : ∃ V, V = V1 := ⟨_, rfl⟩; subst hVV
      refine RN.all (rs := [11]) (by kernel_rfl) (by simp) ?_
      refine RN.All.cons rfl (fun K hK => ?_) RN.All.nil
      refine op_items (by rfl) (.tmp 43) (.tmp 45) 27 (by rfl) w.heap.size 41 i0 _ Try.underlying27 hi hz0 hz1 hz2 rfl _ (l.take i) (by rfl) hown _ [p] (by rfl) (one_item hit) (by rw [List.length_take, List.length_singleton]; omega) (by omega) ?_
      intro vz Vz hownz hgrowz hatz
      have hbz : Below W0.heap.size W0 Vz := hS.grown hgrowz hS.size hlo2
      refine hK _ _ (fun _ => hbz) ?_
      clear hK K
      refine RN.all (rs := [12]) (by kernel_rfl) (by simp) ?_
      refine RN.All.cons rfl (fun K hK => ?_) RN.All.nil
      go_simp
      refine hK _ _ (fun _ => hbz) ?_
      clear hK K
      refine RN.all (rs := [13]) (by kernel_rfl) (by simp) ?_
      refine RN.All.cons rfl (fun K hK => ?_) RN.All.nil
      go_simp
      refine hK _ _ (fun _ => hbz) ?_
      clear hK K
      refine RN.done (by kernel_rfl) ?_ _
      go_wp2_with fail
      go_ret2
      exact ⟨⟨_, p, HP.out, rfl, by rw [hgo]; exact hownz⟩, thru (thru HB.out hb0) hbz⟩
    refine RN.All.cons rfl (fun K hK => ?_) RN.All.nil
    go_simp
    have hb1 : Below W0.heap.size W0 (V.alloc (.cells #[.int .i64 p.k, .int .i64 p.nk, .string p.nm, .bool p.g, .slice p.a1 p.az.length p.c1, .slice p.a2 p.nw.length p.c2, .slice p.a3 p.ks.len p.c3, .slice p.a4 p.bs.length p.c4, .slice p.a5 p.cz.len p.c5, .int .i64 p.pl, .int .i64 p.st, .bool p.fr, .slice p.wa p.ws.length p.wc, .slice p.pa p.ps.length p.pc] 41)) := hS.trans ((bel1 V (.cells #[.int .i64 p.k, .int .i64 p.nk, .string p.nm, .bool p.g, .slice p.a1 p.az.length p.c1, .slice p.a2 p.nw.length p.c2, .slice p.a3 p.ks.len p.c3, .slice p.a4 p.bs.length p.c4, .slice p.a5 p.cz.len p.c5, .int .i64 p.pl, .int .i64 p.st, .bool p.fr, .slice p.wa p.ws.length p.wc, .slice p.pa p.ps.length p.pc] 41)).mono hS.size)
    have hit1 : (V.alloc (.cells #[.int .i64 p.k, .int .i64 p.nk, .string p.nm, .bool p.g, .slice p.a1 p.az.length p.c1, .slice p.a2 p.nw.length p.c2, .slice p.a3 p.ks.len p.c3, .slice p.a4 p.bs.length p.c4, .slice p.a5 p.cz.len p.c5, .int .i64 p.pl, .int .i64 p.st, .bool p.fr, .slice p.wa p.ws.length p.wc, .slice p.pa p.ps.length p.pc] 41)).heap[V.heap.size]? = some (.cells (icells p).toArray 41 (0, 0)) := heap_alloc_new V (.cells #[.int .i64 p.k, .int .i64 p.nk, .string p.nm, .bool p.g, .slice p.a1 p.az.length p.c1, .slice p.a2 p.nw.length p.c2, .slice p.a3 p.ks.len p.c3, .slice p.a4 p.bs.length p.c4, .slice p.a5 p.cz.len p.c5, .int .i64 p.pl, .int .i64 p.st, .bool p.fr, .slice p.wa p.ws.length p.wc, .slice p.pa p.ps.length p.pc] 41)
    have hsv : (V.alloc (.cells #[.int .i64 p.k, .int .i64 p.nk, .string p.nm, .bool p.g, .slice p.a1 p.az.length p.c1, .slice p.a2 p.nw.length p.c2, .slice p.a3 p.ks.len p.c3, .slice p.a4 p.bs.length p.c4, .slice p.a5 p.cz.len p.c5, .int .i64 p.pl, .int .i64 p.st, .bool p.fr, .slice p.wa p.ws.length p.wc, .slice p.pa p.ps.length p.pc] 41)).heap.size = V.heap.size + 1 := World.size_alloc _ _
    refine hK _ _ (fun _ => hb1) ?_
    clear hK K
    obtain ⟨j, hjv⟩ : ∃ j, j = V.heap.size := ⟨_, rfl⟩
    rw [← hjv] at hit1 ⊢
    generalize (V.alloc (.cells #[.int .i64 p.k, .int .i64 p.nk, .string p.nm, .bool p.g, .slice p.a1 p.az.length p.c1, .slice p.a2 p.nw.length p.c2, .slice p.a3 p.ks.len p.c3, .slice p.a4 p.bs.length p.c4, .slice p.a5 p.cz.len p.c5, .int .i64 p.pl, .int .i64 p.st, .bool p.fr, .slice p.wa p.ws.length p.wc, .slice p.pa p.ps.length p.pc] 41)) = V1 at hb1 hit1 hsv ⊢
    have hjl1 : j < V1.heap.size := by omega
    clear hS hv0; have hS := hb1; have hit := hit1; have hjl := hjl1; clear hb1 hit1 hjl1; have hv0 := hS.size
    clear hsv hjv; clear V; obtain ⟨V, hVV⟩ : ∃ V, V = V1 := ⟨_, rfl⟩; subst hVV
    refine RN.all (rs := [0]) (by kernel_rfl) (by simp) ?_
    refine RN.All.cons rfl (fun K hK => ?_) RN.All.nil
    go_simp
    have hb1 : Below W0.heap.size W0 (V.alloc (.cells #[] 41)) := hS.trans ((bel1 V (.cells #[] 41)).mono hS.size)
    have ho := hom V (by omega)
    have hsv : (V.alloc (.cells #[] 41)).heap.size = V.heap.size + 1 := World.size_alloc _ _
    have hit1 : (V.alloc (.cells #[] 41)).heap[j]? = some (.cells (icells p).toArray 41 (0, 0)) := ((bel1 V (.cells #[] 41)).block j hjl).trans hit
    refine hK _ _ (fun _ => hb1) ?_
    clear hK K
    obtain ⟨q, hqv⟩ : ∃ q, q = V.heap.size := ⟨_, rfl⟩
    rw [← hqv] at ho ⊢
    generalize (V.alloc (.cells #[] 41)) = V1 at hb1 ho hsv hit1 ⊢
    have hvq : q < V1.heap.size := by omega
    have hqw : W0.heap.size ≤ q := by omega
    have hjq : j ≠ q := by omega
    have hjl1 : j < V1.heap.size := by omega
    clear hS hit hjl hsv hqv hv0; have hS := hb1; have hit := hit1; have hjl := hjl1; clear hb1 hit1 hjl1; have hv0 := hS.size
    clear V; obtain ⟨V, hVV⟩ : ∃ V, V = V1 := ⟨_, rfl⟩; subst hVV
    refine RN.all (rs := [8]) (by kernel_rfl) (by simp) ?_
    refine RN.All.cons rfl (fun K hK => ?_) RN.All.nil
    refine op_items (by rfl) (.tmp 35) (.tmp 42) 27 (by rfl) w.heap.size 41 i0 _ Try.underlying27 hi hz0 hz1 hz2 rfl _ [] (by rfl) ho _ (l.take i) (by rfl) ((HLA0.out.stay hS).take i cap (by omega) (by omega)) (by rw [List.length_take, List.length_nil]; omega) (by omega) ?_
    intro v' V1 hown1 hgrow hat
    rw [List.nil_append] at hown1
    have hlo : ∀ x, Value.ownBlock (.slice (some ⟨q, 0, none⟩) 0 0) = some x → W0.heap.size ≤ x := fun x e => by have e4 : q = x := Option.some.inj e; omega
    have hlo2 : ∀ x, v'.ownBlock = some x → W0.heap.size ≤ x := fun x e => hat.elim (fun e2 => hlo x (e2.symm.trans e)) fun e2 => by have e3 := Option.some.inj (e2.symm.trans e); omega
    have hb1 : Below W0.heap.size W0 V1 := hS.grown hgrow hS.size hlo
    have hv1 : V.heap.size ≤ V1.heap.size := hgrow.size
    have hit1 := (hgrow.block j hjl (fun e => hjq (by have e4 : j = q := Option.some.inj e; exact e4))).trans hit
    refine hK _ _ (fun _ => hb1) ?_
    clear hK K
    clear hS hit hgrow hat ho; have hS := hb1; have hit := hit1; clear hb1 hit1; have hjl1 : j < V1.heap.size := (by omega); clear hjl; have hjl := hjl1; clear hjl1
    have hown := hown1; clear hown1 hv0 hv1 hvq; have hv0 := hS.size
    clear V; obtain ⟨V, hVV⟩ : ∃ V, V = V1 := ⟨_, rfl⟩; subst hVV
    refine RN.all (rs := [11]) (by kernel_rfl) (by simp) ?_
    refine RN.All.cons rfl (fun K hK => ?_) RN.All.nil
    refine op_items (by rfl) (.tmp 43) (.tmp 45) 27 (by rfl) w.heap.size 41 i0 _ Try.underlying27 hi hz0 hz1 hz2 rfl _ (l.take i) (by rfl) hown _ [p] (by rfl) (one_item hit) (by rw [List.length_take, List.length_singleton]; omega) (by omega) ?_
    intro vz Vz hownz hgrowz hatz
    have hbz : Below W0.heap.size W0 Vz := hS.grown hgrowz hS.size hlo2
    refine hK _ _ (fun _ => hbz) ?_
    clear hK K
    refine RN.all (rs := [12]) (by kernel_rfl) (by simp) ?_
    refine RN.All.cons rfl (fun K hK => ?_) RN.All.nil
    go_simp
    refine hK _ _ (fun _ => hbz) ?_
    clear hK K
    refine RN.all (rs := [13]) (by kernel_rfl) (by simp) ?_
    refine RN.All.cons rfl (fun K hK => ?_) RN.All.nil
    go_simp
    refine hK _ _ (fun _ => hbz) ?_
    clear hK K
    refine RN.done (by kernel_rfl) ?_ _
    go_wp2_with fail
    go_ret2
    exact ⟨⟨_, p, HP.out, rfl, by rw [hgo]; exact hownz⟩, thru (thru HB.out hb0) hbz⟩
end Fra
end Go.Proofs.Ytbcldfaphnnmlaa
