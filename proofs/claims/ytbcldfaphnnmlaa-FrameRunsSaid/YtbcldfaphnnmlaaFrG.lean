/- The reference's Return, Continue. -/
import Derived.Test.YtbcldfaphnnmlaaFrD
import Derived.Test.YtbcldfaphnnmlaaRegN
import Derived.Lib.BufferMore
namespace Go.Proofs.Ytbcldfaphnnmlaa
open Go.RowKit Go.Sort
namespace Fra
open Cls Pt Tr
theorem ret_lt (l : List IV) : ∀ n i x, ret l n = some (i, x) → i < n ∧ l[i]? = some x ∧ x.k = 9
  | 0, _, _, h => by simp [ret] at h
  | n + 1, i, x, h => by
    rw [ret] at h
    split at h
    · cases h
    · rename_i y hy
      split at h
      · split at h
        · rename_i h9
          injection h with h
          injection h with h1 h2
          subst h1; subst h2
          exact ⟨Nat.lt_succ_self _, hy, by simpa using h9⟩
        · cases h
      · have := ret_lt l n i x h
        exact ⟨by omega, this.2⟩
/-- What Return answers. -/
def Returned (w : World) (v : Value) (l : List IV) (r : Option (Nat × IV)) (e : Ending) (w' : World) : Prop := (match r with
  | none => e = .returned (.tuple #[v, .agg (icells zero).toArray, .bool false])
  | some (i, x) => ∃ v', e = .returned (.tuple #[v', .agg (icells x).toArray, .bool true]) ∧ w'.ownsRow w.heap.size 41 14 v' (l.take i).length (lcells (l.take i))) ∧ Below w.heap.size w w'
/-- As append_items, where a program decides what comes next. -/
theorem op_items {P : Program} {w : World} {ops : Array Oper} {o : Oper} {a : Act} {K : Act → World → Prop} {Q : Exit → Act → World → Prop} {E : Prop} (hgd : o.guard = none) (s x : Operand) (t : TypeId)
    (ho : o.op = .call { callee := .builtin .append, args := #[s, x], argTypes := #[t, t] })
    (base : Nat) (e : TypeId) (i : TypeInfo) (z : Value) (ht : P.underlying t = some (.slice e)) (hi : P.info? e = some i) (hz : i.zero = some z)
    (hsize : i.size = 14) (hby : i.bytes = 232) (hzs : z.cells.size = 14)
    (v : Value) (l : List IV) (hs : a.eval s = v) (hown : w.ownsRow base e 14 v l.length (lcells l))
    (sv : Value) (m : List IV) (hx : a.eval x = sv) (hm : LAt w sv m) (hlen : l.length + m.length ≤ 100000000) (hbase : base ≤ w.heap.size)
    (h : ∀ v' w', w'.ownsRow base e 14 v' (l ++ m).length (lcells (l ++ m)) → w.grownBy w' v.ownBlock → (v'.ownBlock = v.ownBlock ∨ v'.ownBlock = some w.heap.size) → K (a.put o.dst v') w') :
    if Region.wanted o (yielded ops a.tmps) = true then Oper.wp P o a w K Q else E := by
  have hw : Region.wanted o (yielded ops a.tmps) = true := by simp [Region.wanted, hgd]
  rw [if_pos hw]
  obtain ⟨ad, cap, rfl, _, hc⟩ := hm
  cases ad with
  | none =>
    have hm0 : m = [] := by
      cases m with
      | nil => rfl
      | cons y r => obtain ⟨b, o, e, _⟩ := hc 0 y rfl; cases e
    subst hm0
    have hrun : (Builtin.append_ #[t, t] o.type #[v, .slice none 0 cap]).run P w = .ok v w := by
      rcases hown.2 with ⟨rfl, _⟩ | ⟨g, cap, cur, rfl, _, _, hnc, _⟩
      · simp [Builtin.append_, run_underlying ht, sizeOf, typeInfo, hi, Builtin.lenOf, Builtin.firstCells]
      · simp [Builtin.append_, run_underlying ht, sizeOf, typeInfo, hi, Builtin.lenOf, Builtin.firstCells, hnc, storeCells]
    have := h v w (by rw [List.append_nil]; exact hown) ⟨rfl, rfl, rfl, Nat.le_refl _, fun _ _ _ => rfl⟩ (.inl rfl)
    have hx' : a.eval x = .slice none 0 cap := hx
    unfold Oper.wp
    simp [execOp, ho, resolve, invoke, builtin, hs, hx', hrun, Result.andThen]
    exact this
  | some ad =>
    have hn : ∀ j u, (lcells m)[j]? = some u → w.cell? (ad.add j) = some u := by
      cases m with
      | nil => intro j u hj; simp [lcells] at hj
      | cons y r =>
        obtain ⟨b, o, e, hb, _⟩ := hc 0 y rfl
        cases e
        refine lcells_cell (fun j p hp i u hu => ?_)
        obtain ⟨b', o', e', _, h2⟩ := hc j p hp
        cases e'
        exact h2 i u hu
    obtain ⟨v', w', hr, h2, h3, _, h5⟩ := run_append_own_at (P := P) w base t o.type e i z 14 232 ht hi hz hsize hby hzs (by decide) v l.length (lcells l) hown ad m.length cap (lcells m) (lcells_len m) hn (lcells_one m) (by unfold maxLen; omega) (by omega) hbase
    unfold Oper.wp execOp
    simp only [ho, resolve, invoke, builtin, Sem.run_bind, Sem.run_pure, Result.andThen_ok, List.map_toArray, List.map_cons, List.map_nil, hs, hx, hr]
    exact h v' w' (by rw [List.length_append, lcells_app]; exact h2) h3 h5
/-- A row that is written cell by cell. -/
def storeL (W : World) (b : Nat) : Nat → List Value → World
  | _, [] => W
  | k, v :: r => storeL (W.setCell ⟨b, k, none⟩ v) b (k + 1) r
def putL (cs : Array Value) : Nat → List Value → Array Value
  | _, [] => cs
  | k, v :: r => putL (cs.setIfInBounds k v) (k + 1) r
theorem putL_get : ∀ (vs : List Value) (cs : Array Value) (k j : Nat), k + vs.length ≤ cs.size → (putL cs k vs)[j]? = if k ≤ j ∧ j < k + vs.length then vs[j - k]? else cs[j]?
  | [], cs, k, j, _ => by
    rw [putL, if_neg (fun h => by simp at h; omega)]
  | v :: r, cs, k, j, h => by
    rw [List.length_cons] at h
    rw [putL, putL_get r _ (k + 1) j (by simp; omega)]
    by_cases hj : k = j
    · subst hj
      rw [if_neg (by omega), if_pos (by simp), Array.getElem?_setIfInBounds_self_of_lt (by omega)]
      simp
    · rw [Array.getElem?_setIfInBounds_ne hj]
      by_cases h1 : k + 1 ≤ j ∧ j < k + 1 + r.length
      · rw [if_pos h1, if_pos (by rw [List.length_cons]; omega), show j - k = (j - (k + 1)) + 1 by omega, List.getElem?_cons_succ]
      · rw [if_neg h1, if_neg (by rw [List.length_cons]; omega)]
theorem storeL_heap {b : Nat} {T : TypeId} : ∀ (vs : List Value) (W : World) (cs : Array Value) (k : Nat), W.heap[b]? = some (.cells cs T (0, 0)) → (storeL W b k vs).heap[b]? = some (.cells (putL cs k vs) T (0, 0))
  | [], _, _, _, h => h
  | v :: r, W, cs, k, h => storeL_heap r _ _ (k + 1) (Lib.heap_setCell_same h v)
theorem storeL_other {b c : Nat} (hc : c ≠ b) : ∀ (vs : List Value) (W : World) (k : Nat), (storeL W b k vs).heap[c]? = W.heap[c]?
  | [], _, _ => rfl
  | v :: r, W, k => (storeL_other hc r _ (k + 1)).trans (Below.heap_setCell W ⟨b, k, none⟩ v c hc)
theorem storeL_below {b B : Nat} {w : World} (hb : B ≤ b) : ∀ (vs : List Value) (W : World) (k : Nat), Below B w W → Below B w (storeL W b k vs)
  | [], _, _, h => h
  | v :: r, W, k, h => storeL_below hb r _ (k + 1) (h.setCell (p := ⟨b, k, none⟩) hb v)
theorem putL_all (cs : Array Value) (vs : List Value) (h : cs.size = vs.length) : putL cs 0 vs = vs.toArray := by
  apply Array.ext_getElem?
  intro j
  rw [putL_get vs cs 0 j (by omega)]
  by_cases hj : j < vs.length
  · rw [if_pos (by omega)]; simp
  · rw [if_neg (by omega), Array.getElem?_eq_none (by omega), Array.getElem?_eq_none (by simp; omega)]
theorem store_item {W : World} {b : Nat} {T : TypeId} {z x : IV} (h : W.heap[b]? = some (.cells (icells z).toArray T (0, 0))) : (storeL W b 0 (icells x)).heap[b]? = some (.cells (icells x).toArray T (0, 0)) := by
  rw [storeL_heap _ _ _ 0 h, putL_all _ _ (by rw [List.size_toArray, icells_len, icells_len])]
theorem own_store {W : World} {B b n k : Nat} {e : TypeId} {v : Value} {xs vs : List Value} (h : W.ownsRow B e k v n xs) (hb : v.ownBlock ≠ some b) (i : Nat) : (storeL W b i vs).ownsRow B e k v n xs := by
  obtain ⟨h1, h2⟩ := h
  refine ⟨h1, h2.imp id ?_⟩
  rintro ⟨g, cap, cur, hv, hg, hh, r⟩
  have hne : g ≠ b := fun e => hb (by rw [hv, e]; rfl)
  exact ⟨g, cap, cur, hv, hg, (storeL_other hne _ _ _).trans hh, r⟩
/-- The row of an item that is a result. -/
theorem icell {W : World} {b : Nat} {x : IV} {T : TypeId} {f : Nat × Nat} (h : W.heap[b]? = some (.cells (icells x).toArray T f)) (j : Nat) {u : Value} (hu : (icells x)[j]? = some u) : W.cell? ⟨b, j, none⟩ = some u := by
  rw [Lib.cell_of_heap h j]; simpa using hu
set_option maxHeartbeats 1600000 in
theorem rreturn_any {w : World} {v : Value} {l : List IV} (hL : LAt w v l) (hn : l.length ≤ 100000) :
    Calls Try.prog 15 #[v] w (Returned w v l (ret l l.length)) := by
  obtain ⟨i0, hi, hz0, hz1, hz2⟩ := info_parts infoR
  have HLA := Lib.hid hL
  obtain ⟨a, cap, rfl, hle, hc⟩ := hL
  have HC := Lib.hid hc
  clear hc
  generalize hr : ret l l.length = R
  have HR := Lib.hid hr
  clear hr
  go_enter Try.func15, Try.ntmps15
  go_wp2_with fail
  go_loop [5] (fun i => ∃ n : Nat, n ≤ l.length ∧ i = .int .i64 ((n : Int) - 1) ∧ ret l n = R) (fun i => (intOf i + 1).toNat)
  case atStart => exact ⟨l.length, Nat.le_refl _, rfl, HR.out⟩
  case round =>
    obtain ⟨n, hk, rfl, hA⟩ := hrel
    have HA := Lib.hid hA
    clear hA
    cases n with
    | zero =>
      have hR := HA.out
      have hrow : (w.alloc (.cells (icells zero).toArray 41)).heap[w.heap.size]? = some (.cells (icells zero).toArray 41 (0, 0)) := heap_alloc_new _ _
      have y0 := icell hrow 0 rfl; have y1 := icell hrow 1 rfl; have y2 := icell hrow 2 rfl; have y3 := icell hrow 3 rfl; have y4 := icell hrow 4 rfl; have y5 := icell hrow 5 rfl; have y6 := icell hrow 6 rfl; have y7 := icell hrow 7 rfl; have y8 := icell hrow 8 rfl; have y9 := icell hrow 9 rfl; have y10 := icell hrow 10 rfl; have y11 := icell hrow 11 rfl; have y12 := icell hrow 12 rfl; have y13 := icell hrow 13 rfl
      unfold icells zero at y0 y1 y2 y3 y4 y5 y6 y7 y8 y9 y10 y11 y12 y13
      simp only [List.length_nil, NL.len] at y0 y1 y2 y3 y4 y5 y6 y7 y8 y9 y10 y11 y12 y13
      clear hrow
      subst hR
      go_wp2_with fail
      refine bodyPost_ret (v := .tuple #[.slice a l.length cap, .agg (icells zero).toArray, .bool false]) (by simp [results, Try.results15, go_sem, y0, y1, y2, y3, y4, y5, y6, y7, y8, y9, y10, y11, y12, y13, icells, zero, NL.len]) rfl ?_
      exact ⟨rfl, bel1 _ _⟩
    | succ n =>
      have hlt : n < l.length := by omega
      obtain ⟨p, hp⟩ : ∃ p, l[n]? = some p := ⟨_, List.getElem?_eq_getElem hlt⟩
      obtain ⟨b, o, rfl, hbl, hcell⟩ := HC.out n p hp
      have r0 : (w.alloc (.cells (icells zero).toArray 41)).cell? ⟨b, o + n * 14, none⟩ = some (.int .i64 p.k) := cell_below (bel1 _ _) (hcell 0 _ rfl)
      have hst : ret l (n + 1) = if wallB p.k then (if p.k == 9 then some (n, p) else none) else ret l n := by rw [ret, hp]
      have HST := Lib.hid hst
      have HCELL := Lib.hid hcell
      have hcast : ((n + 1 : Nat) : Int) - 1 = (n : Int) := by omega
      rw [hcast]
      unfold icells zero at r0
      simp only [List.length_nil, NL.len] at r0
      clear hcell hst hp hcast
      cases hw : wallB p.k
      · have h9 : (p.k == 9) = false := by
          unfold wallB at hw
          simp only [Bool.or_eq_false_iff] at hw
          exact hw.1.1
        rw [hw] at HST
        have HW := Lib.hid hw
        clear hw
        go_wp2_with (go_at_call 31; refine (rwall_any _ _).mono ?_; rintro e w2 ⟨rfl, rfl⟩; rw [HW.out])
        go_round
        case rel => exact ⟨n, by omega, rfl, by rw [← HA.out, HST.out]; simp⟩
        case measure => simp [intOf]
      · rw [hw] at HST
        have HW := Lib.hid hw
        clear hw
        cases h9 : (p.k == 9)
        · rw [h9] at HST
          have h9' : (p.k != 9) = true := by rw [bne, h9]; rfl
          have hR : R = none := by rw [← HA.out, HST.out]; rfl
          subst hR
          go_wp2_with (go_at_call 31; refine (rwall_any _ _).mono ?_; rintro e w2 ⟨rfl, rfl⟩; rw [HW.out])
          have hrow : (w.alloc (.cells (icells zero).toArray 41)).heap[w.heap.size]? = some (.cells (icells zero).toArray 41 (0, 0)) := heap_alloc_new _ _
          have y0 := icell hrow 0 rfl; have y1 := icell hrow 1 rfl; have y2 := icell hrow 2 rfl; have y3 := icell hrow 3 rfl; have y4 := icell hrow 4 rfl; have y5 := icell hrow 5 rfl; have y6 := icell hrow 6 rfl; have y7 := icell hrow 7 rfl; have y8 := icell hrow 8 rfl; have y9 := icell hrow 9 rfl; have y10 := icell hrow 10 rfl; have y11 := icell hrow 11 rfl; have y12 := icell hrow 12 rfl; have y13 := icell hrow 13 rfl
          unfold icells zero at y0 y1 y2 y3 y4 y5 y6 y7 y8 y9 y10 y11 y12 y13
          simp only [List.length_nil, NL.len] at y0 y1 y2 y3 y4 y5 y6 y7 y8 y9 y10 y11 y12 y13
          refine bodyPost_ret (v := .tuple #[.slice (some ⟨b, o, none⟩) l.length cap, .agg (icells zero).toArray, .bool false]) (by simp [results, Try.results15, go_sem, y0, y1, y2, y3, y4, y5, y6, y7, y8, y9, y10, y11, y12, y13, icells, zero, NL.len]) rfl ?_
          exact ⟨rfl, bel1 _ _⟩
        · rw [h9] at HST
          have h9' : (p.k != 9) = false := by rw [bne, h9]; rfl
          have hR : R = some (n, p) := by rw [← HA.out, HST.out]; rfl
          subst hR
          go_wp2_with (go_at_call 31; refine (rwall_any _ _).mono ?_; rintro e w2 ⟨rfl, rfl⟩; rw [HW.out])
          have hrow0 : (w.alloc (.cells (icells zero).toArray 41)).heap[w.heap.size]? = some (.cells (icells zero).toArray 41 (0, 0)) := heap_alloc_new _ _
          have hb0 := bel1 w (.cells (icells zero).toArray 41)
          have hsz0 : (w.alloc (.cells (icells zero).toArray 41)).heap.size = w.heap.size + 1 := World.size_alloc _ _
          have hcl : ∀ j u, (icells p)[j]? = some u → (w.alloc (.cells (icells zero).toArray 41)).cell? ⟨b, o + n * 14 + j, none⟩ = some u := fun j u hu => cell_below (bel1 _ _) (HCELL.out j u hu)
          have hla := HLA.out.stay hb0
          clear r0
          unfold icells zero at hrow0 hb0 hsz0 hcl hla
          simp only [List.length_nil, NL.len] at hrow0 hb0 hsz0 hcl hla
          generalize w.alloc (.cells #[.int .i64 0, .int .i64 0, .string ⟨#[]⟩, .bool false, .slice none 0 0, .slice none 0 0, .slice none 0 0, .slice none 0 0, .slice none 0 0, .int .i64 0, .int .i64 0, .bool false, .slice none 0 0, .slice none 0 0] 41) = W0 at hrow0 hb0 hsz0 hcl hla ⊢
          refine RN.begins (fun w' => Below W0.heap.size W0 w') [10, 11] (by kernel_rfl) ?_
          have hS : Below W0.heap.size W0 W0.drew := ⟨rfl, rfl, rfl, Nat.le_refl _, fun _ _ => rfl⟩
          refine RN.tk (i := 1) (v := ?_) rfl hS ?_ ?_
          rotate_left 1
          · (intro wq hq; skip; go_simp; try with_reducible rfl)
          refine RN.tk (i := 2) (v := ?_) rfl hS ?_ ?_
          rotate_left 1
          · (intro wq hq; skip; go_simp; try with_reducible rfl)
          refine RN.tk (i := 3) (v := ?_) rfl hS ?_ ?_
          rotate_left 1
          · (intro wq hq; go_simp; rw [if_pos (show n ≤ cap by omega)])
          refine RN.tk (i := 5) (v := ?_) rfl hS ?_ ?_
          rotate_left 1
          · (intro wq hq; skip; go_simp; try with_reducible rfl)
          refine RN.tk (i := 6) (v := ?_) rfl hS ?_ ?_
          rotate_left 1
          · (intro wq hq; skip; go_simp; try with_reducible rfl)
          refine RN.tk (i := 7) (v := ?_) rfl hS ?_ ?_
          rotate_left 1
          · (intro wq hq; skip; go_simp; try with_reducible rfl)
          refine RN.tk (i := 8) (v := ?_) rfl hS ?_ ?_
          rotate_left 1
          · (intro wq hq; have s0 : wq.cell? ⟨b, o + n * 14, none⟩ = some (.int .i64 p.k) := cell_below hq (hcl 0 _ rfl); have s1 : wq.cell? ⟨b, o + n * 14 + 1, none⟩ = some (.int .i64 p.nk) := cell_below hq (hcl 1 _ rfl); have s2 : wq.cell? ⟨b, o + n * 14 + 2, none⟩ = some (.string p.nm) := cell_below hq (hcl 2 _ rfl); have s3 : wq.cell? ⟨b, o + n * 14 + 3, none⟩ = some (.bool p.g) := cell_below hq (hcl 3 _ rfl); have s4 : wq.cell? ⟨b, o + n * 14 + 4, none⟩ = some (.slice p.a1 p.az.length p.c1) := cell_below hq (hcl 4 _ rfl); have s5 : wq.cell? ⟨b, o + n * 14 + 5, none⟩ = some (.slice p.a2 p.nw.length p.c2) := cell_below hq (hcl 5 _ rfl); have s6 : wq.cell? ⟨b, o + n * 14 + 6, none⟩ = some (.slice p.a3 p.ks.len p.c3) := cell_below hq (hcl 6 _ rfl); have s7 : wq.cell? ⟨b, o + n * 14 + 7, none⟩ = some (.slice p.a4 p.bs.length p.c4) := cell_below hq (hcl 7 _ rfl); have s8 : wq.cell? ⟨b, o + n * 14 + 8, none⟩ = some (.slice p.a5 p.cz.len p.c5) := cell_below hq (hcl 8 _ rfl); have s9 : wq.cell? ⟨b, o + n * 14 + 9, none⟩ = some (.int .i64 p.pl) := cell_below hq (hcl 9 _ rfl); have s10 : wq.cell? ⟨b, o + n * 14 + 10, none⟩ = some (.int .i64 p.st) := cell_below hq (hcl 10 _ rfl); have s11 : wq.cell? ⟨b, o + n * 14 + 11, none⟩ = some (.bool p.fr) := cell_below hq (hcl 11 _ rfl); have s12 : wq.cell? ⟨b, o + n * 14 + 12, none⟩ = some (.slice p.wa p.ws.length p.wc) := cell_below hq (hcl 12 _ rfl); have s13 : wq.cell? ⟨b, o + n * 14 + 13, none⟩ = some (.slice p.pa p.ps.length p.pc) := cell_below hq (hcl 13 _ rfl); go_simp; try with_reducible rfl)
          refine RN.all (rs := [0]) (by kernel_rfl) (by simp) ?_
          refine RN.All.cons rfl (fun K hK => ?_) RN.All.nil
          go_simp
          have hb1 : Below W0.heap.size W0 (W0.alloc (.cells #[] 41)).drew := ⟨rfl, rfl, rfl, (bel1 W0 _).size, (bel1 W0 _).block⟩
          refine hK _ _ (fun _ => hb1) ?_
          clear hK K hS
          have hS := hb1
          have ho0 := World.ownsRow_made (base := w.heap.size) (e := 41) (size := 14) W0 #[] 0 (by omega) (Nat.zero_le _) (by simp)
          have ho1 : (W0.alloc (.cells #[] 41)).drew.ownsRow w.heap.size 41 14 (.slice (some ⟨W0.heap.size, 0, none⟩) 0 0) 0 [] := ho0
          have hsz1 : (W0.alloc (.cells #[] 41)).drew.heap.size = w.heap.size + 2 := by show (W0.alloc _).heap.size = _; rw [World.size_alloc]; omega
          rw [hsz0] at ho1
          generalize (W0.alloc (.cells #[] 41)).drew = W1 at hS hb1 ho1 hsz1 ⊢
          have hm := (hla.stay hS).take n cap (by omega) (by omega)
          have hml : (l.take n).length ≤ 100000 := by rw [List.length_take]; omega
          refine RN.all (rs := [4]) (by kernel_rfl) (by simp) ?_
          refine RN.All.cons rfl (fun K hK => ?_) RN.All.nil
          refine op_items (by rfl) (.tmp 35) (.tmp 38) 27 (by rfl) w.heap.size 41 i0 _ Try.underlying27 hi hz0 hz1 hz2 rfl _ [] (by rfl) ho1 _ (l.take n) (by rfl) hm (by simp only [List.length_nil]; omega) (by omega) ?_
          intro v' W2 hown2 hgrow2 hat2
          have hlo : ∀ g, Value.ownBlock (.slice (some ⟨w.heap.size + 1, 0, none⟩) 0 0) = some g → W0.heap.size ≤ g := fun g e => by have e4 : w.heap.size + 1 = g := Option.some.inj e; omega
          have hb2 : Below W0.heap.size W0 W2 := hS.grown hgrow2 hS.size hlo
          have hne2 : v'.ownBlock ≠ some w.heap.size := fun e => hat2.elim (fun e2 => by
            have e3 := Option.some.inj (e2.symm.trans e)
            have e4 : w.heap.size + 1 = w.heap.size := e3
            omega) fun e2 => by
            have e3 := Option.some.inj (e2.symm.trans e)
            omega
          rw [List.nil_append] at hown2
          refine hK _ _ (fun _ => hb2) ?_
          clear hK K hS hgrow2 hat2 hlo hb1 ho1 hsz1 hm
          have hS := hb2
          refine RN.all (rs := [9]) (by kernel_rfl) (by simp) ?_
          refine RN.All.cons rfl (fun K hK => ?_) RN.All.nil
          go_simp
          refine hK _ _ (fun _ => hb2) ?_
          clear hK K hS
          have hrow2 := (hb2.block w.heap.size (by omega)).trans hrow0
          refine RN.all (rs := [10]) (by kernel_rfl) (by simp) ?_
          refine RN.All.cons rfl (fun K hK => ?_) RN.All.nil
          have r0 : W2.cell? ⟨w.heap.size, 0, none⟩ = some (.int .i64 0) := Lib.cell_of_heap hrow2 0; have f0 := Lib.frozen_of_heap hrow2 0; have r1 : W2.cell? ⟨w.heap.size, 1, none⟩ = some (.int .i64 0) := Lib.cell_of_heap hrow2 1; have f1 := Lib.frozen_of_heap hrow2 1; have r2 : W2.cell? ⟨w.heap.size, 2, none⟩ = some (.string ⟨#[]⟩) := Lib.cell_of_heap hrow2 2; have f2 := Lib.frozen_of_heap hrow2 2; have r3 : W2.cell? ⟨w.heap.size, 3, none⟩ = some (.bool false) := Lib.cell_of_heap hrow2 3; have f3 := Lib.frozen_of_heap hrow2 3; have r4 : W2.cell? ⟨w.heap.size, 4, none⟩ = some (.slice none 0 0) := Lib.cell_of_heap hrow2 4; have f4 := Lib.frozen_of_heap hrow2 4; have r5 : W2.cell? ⟨w.heap.size, 5, none⟩ = some (.slice none 0 0) := Lib.cell_of_heap hrow2 5; have f5 := Lib.frozen_of_heap hrow2 5; have r6 : W2.cell? ⟨w.heap.size, 6, none⟩ = some (.slice none 0 0) := Lib.cell_of_heap hrow2 6; have f6 := Lib.frozen_of_heap hrow2 6; have r7 : W2.cell? ⟨w.heap.size, 7, none⟩ = some (.slice none 0 0) := Lib.cell_of_heap hrow2 7; have f7 := Lib.frozen_of_heap hrow2 7; have r8 : W2.cell? ⟨w.heap.size, 8, none⟩ = some (.slice none 0 0) := Lib.cell_of_heap hrow2 8; have f8 := Lib.frozen_of_heap hrow2 8; have r9 : W2.cell? ⟨w.heap.size, 9, none⟩ = some (.int .i64 0) := Lib.cell_of_heap hrow2 9; have f9 := Lib.frozen_of_heap hrow2 9; have r10 : W2.cell? ⟨w.heap.size, 10, none⟩ = some (.int .i64 0) := Lib.cell_of_heap hrow2 10; have f10 := Lib.frozen_of_heap hrow2 10; have r11 : W2.cell? ⟨w.heap.size, 11, none⟩ = some (.bool false) := Lib.cell_of_heap hrow2 11; have f11 := Lib.frozen_of_heap hrow2 11; have r12 : W2.cell? ⟨w.heap.size, 12, none⟩ = some (.slice none 0 0) := Lib.cell_of_heap hrow2 12; have f12 := Lib.frozen_of_heap hrow2 12; have r13 : W2.cell? ⟨w.heap.size, 13, none⟩ = some (.slice none 0 0) := Lib.cell_of_heap hrow2 13; have f13 := Lib.frozen_of_heap hrow2 13
          go_simp
          have hrow3 := store_item (z := zero) (x := p) hrow2
          have hb3 := storeL_below (Nat.le_refl w.heap.size) (icells p) W2 0 (thru hb0 hb2)
          have hown3 := own_store (vs := icells p) hown2 hne2 0
          show K _ (storeL W2 w.heap.size 0 (icells p))
          generalize storeL W2 w.heap.size 0 (icells p) = W3 at hrow3 hb3 hown3 ⊢
          refine hK _ _ (fun h => absurd h (by decide)) ?_
          clear hK K r0 f0 r1 f1 r2 f2 r3 f3 r4 f4 r5 f5 r6 f6 r7 f7 r8 f8 r9 f9 r10 f10 r11 f11 r12 f12 r13 f13 hrow2 hb2 hown2 hne2 hrow0 hb0 hsz0 hcl hla
          refine RN.all (rs := [11]) (by kernel_rfl) (by simp) ?_
          refine RN.All.cons rfl (fun K hK => ?_) RN.All.nil
          go_simp
          refine hK _ _ (fun h => absurd h (by decide)) ?_
          clear hK K
          refine RN.done (by kernel_rfl) ?_ _
          have y0 : W3.cell? ⟨w.heap.size, 0, none⟩ = some (.int .i64 p.k) := icell hrow3 0 rfl; have y1 : W3.cell? ⟨w.heap.size, 1, none⟩ = some (.int .i64 p.nk) := icell hrow3 1 rfl; have y2 : W3.cell? ⟨w.heap.size, 2, none⟩ = some (.string p.nm) := icell hrow3 2 rfl; have y3 : W3.cell? ⟨w.heap.size, 3, none⟩ = some (.bool p.g) := icell hrow3 3 rfl; have y4 : W3.cell? ⟨w.heap.size, 4, none⟩ = some (.slice p.a1 p.az.length p.c1) := icell hrow3 4 rfl; have y5 : W3.cell? ⟨w.heap.size, 5, none⟩ = some (.slice p.a2 p.nw.length p.c2) := icell hrow3 5 rfl; have y6 : W3.cell? ⟨w.heap.size, 6, none⟩ = some (.slice p.a3 p.ks.len p.c3) := icell hrow3 6 rfl; have y7 : W3.cell? ⟨w.heap.size, 7, none⟩ = some (.slice p.a4 p.bs.length p.c4) := icell hrow3 7 rfl; have y8 : W3.cell? ⟨w.heap.size, 8, none⟩ = some (.slice p.a5 p.cz.len p.c5) := icell hrow3 8 rfl; have y9 : W3.cell? ⟨w.heap.size, 9, none⟩ = some (.int .i64 p.pl) := icell hrow3 9 rfl; have y10 : W3.cell? ⟨w.heap.size, 10, none⟩ = some (.int .i64 p.st) := icell hrow3 10 rfl; have y11 : W3.cell? ⟨w.heap.size, 11, none⟩ = some (.bool p.fr) := icell hrow3 11 rfl; have y12 : W3.cell? ⟨w.heap.size, 12, none⟩ = some (.slice p.wa p.ws.length p.wc) := icell hrow3 12 rfl; have y13 : W3.cell? ⟨w.heap.size, 13, none⟩ = some (.slice p.pa p.ps.length p.pc) := icell hrow3 13 rfl
          go_wp2_with fail
          refine bodyPost_ret (v := .tuple #[v', .agg (icells p).toArray, .bool true]) (by simp [results, Try.results15, go_sem, y0, y1, y2, y3, y4, y5, y6, y7, y8, y9, y10, y11, y12, y13, icells]) rfl ?_
          exact ⟨⟨_, rfl, hown3⟩, hb3⟩
end Fra
end Go.Proofs.Ytbcldfaphnnmlaa
