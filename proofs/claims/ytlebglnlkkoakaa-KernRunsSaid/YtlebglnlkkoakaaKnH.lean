/- The pids of such processes: such, Children, Procs. -/
import Derived.Test.YtlebglnlkkoakaaKnG
import Derived.Test.YtlebglnlkkoakaaShelf
import Derived.Sort.Grow
import Derived.Maps.AppendAt
namespace Go.Proofs.Ytlebglnlkkoakaa
open Go.RowKit Go.Maps
namespace Kn
section
open Go.Sort
theorem sorted_holds {w : World} {g : Nat} {cur : Array Value} {e : TypeId} {l : List Int} (hb : w.heap[g]? = some (.cells cur e (0, 0))) (ht : cur.toList.take l.length = l.map (Value.int .i64)) : Holds (Value.int .i64) w g 0 l.toArray := by
  intro j hj
  have hj' : j < l.length := by simpa using hj
  refine ⟨?_, frozen_of_row _ _ _ _ _ hb⟩
  have h1 : (cur.toList.take l.length)[j]? = (l.map (Value.int .i64))[j]? := by rw [ht]
  rw [List.getElem?_take_of_lt hj'] at h1
  simp only [World.cell?, hb, Nat.zero_add]
  simp only [Option.isSome_none, Bool.false_eq_true, if_false]
  rw [← Array.getElem?_toList, h1]
  simp [hj']
theorem sorted_row {w : World} {base g cap n : Nat} {e : TypeId} {os : Array Obj} {cur : Array Value} {l r : List Int} (hl : r.length = l.length) (hbase : base ≤ g) (hb : w.heap[g]? = some (.cells cur e (0, 0)))
    (h1 : l.length ≤ cap) (h2 : cap ≤ maxLen) (h3 : cur.size = cap * 1) :
    (grow (putRow (Value.int .i64) (Sort.ahead w n) g 0 r.toArray) os).ownsRow base e 1 (.slice (some ⟨g, 0, none⟩) l.length cap) r.length (r.map (Value.int .i64)) ∧
    ∀ k, k < w.heap.size → k ≠ g → (grow (putRow (Value.int .i64) (Sort.ahead w n) g 0 r.toArray) os).heap[k]? = w.heap[k]? := by
  have hg : g < w.heap.size := (Array.getElem?_eq_some_iff.1 hb).1
  have hrow : (grow (putRow (Value.int .i64) (Sort.ahead w n) g 0 r.toArray) os).heap[g]? = some (.cells (putCells (Value.int .i64) 0 r.toArray cur) e (0, 0)) := by
    rw [heap_grow_old _ _ (by simpa using hg)]
    simp [putRow, mapBlock, Sort.ahead, Array.getElem?_modify, hb, onCells]
  refine ⟨⟨by simp, .inr ⟨g, cap, _, by rw [hl], hbase, hrow, by omega, h2, by simp [putCells, h3], ?_⟩⟩, fun k hk hne => ?_⟩
  · rw [Nat.mul_one]
    apply List.ext_getElem?
    intro j
    by_cases hj : j < r.length
    · rw [List.getElem?_take_of_lt hj, Array.getElem?_toList]
      simp [putCells, hj, show j < cur.size by omega]
    · rw [List.getElem?_take_eq_none (by omega), List.getElem?_eq_none (by simp; omega)]
  · rw [heap_grow_old _ _ (by simpa using hk)]
    simp [putRow, mapBlock, Sort.ahead, Array.getElem?_modify, Ne.symm hne]
end
/-- What has been collected of a map's keys: those that are no longer to come, and such. -/
def Coll (D : DataW Nat) (left : Lit → Bool) (g : Int → Bool) (l : List Int) : Prop := l.Nodup ∧ ∀ x, x ∈ l ↔ (Maps.has D (.int .i64 x) = true ∧ left (.int .i64 x) = false ∧ g x = true)
theorem Coll.start (D : DataW Nat) (g : Int → Bool) : Coll D (Maps.has D) g [] := ⟨List.nodup_nil, fun x => ⟨fun h => (by cases h), fun h => by rw [h.1] at h; cases h.2.1⟩⟩
theorem strike_self (left : Lit → Bool) (x : Int) (hwf : WideAt.IsKeyLit (.int .i64 x)) : (left (.int .i64 x) && !(Lit.int .i64 x).sameKey (.int .i64 x)) = false := by rw [WideAt.sameKey_self hwf]; simp
theorem strike_other (left : Lit → Bool) {x z : Int} (h : z ≠ x) : (left (.int .i64 z) && !(Lit.int .i64 z).sameKey (.int .i64 x)) = left (.int .i64 z) := by rw [Maps.sameKey_ne (litInj h)]; simp
theorem Coll.hit {D : DataW Nat} {left : Lit → Bool} {g : Int → Bool} {l : List Int} (h : Coll D left g l) {x : Int} (hw : WideAt.IsKeyLit (.int .i64 x)) (hl : left (.int .i64 x) = true) (hh : Maps.has D (.int .i64 x) = true) (hg : g x = true) :
    Coll D (fun z => left z && !z.sameKey (.int .i64 x)) g (l ++ [x]) := by
  have hx : x ∉ l := fun e => by have := ((h.2 x).1 e).2.1; rw [hl] at this; cases this
  refine ⟨List.nodup_append.2 ⟨h.1, List.pairwise_singleton _ _, fun a ha b hb e => hx (by rw [List.mem_singleton.1 hb] at e; rwa [← e])⟩, fun z => ?_⟩
  simp only [List.mem_append, List.mem_singleton]
  by_cases hz : z = x
  · subst hz; simp only [strike_self left z hw, or_true, true_iff]; exact ⟨hh, trivial, hg⟩
  · simp only [strike_other left hz, hz, or_false]; exact h.2 z
theorem Coll.miss {D : DataW Nat} {left : Lit → Bool} {g : Int → Bool} {l : List Int} (h : Coll D left g l) {x : Int} (hl : left (.int .i64 x) = true) (hg : g x = false) :
    Coll D (fun z => left z && !z.sameKey (.int .i64 x)) g l := by
  refine ⟨h.1, fun z => ?_⟩
  by_cases hz : z = x
  · subst hz
    rw [h.2 z]
    constructor
    · rintro ⟨_, _, h3⟩; rw [hg] at h3; cases h3
    · rintro ⟨_, _, h3⟩; rw [hg] at h3; cases h3
  · simp only [strike_other left hz]; exact h.2 z
/-- The pids of such processes, rising. -/
def suchL (t : T) (g : Int → Bool) : List Int := (t.l.filter fun p => g p.pid).map (·.pid)
theorem rise_suchL {t : T} (O : Ok t) (g : Int → Bool) : (suchL t g).Pairwise (· < ·) := List.pairwise_map.2 (List.Pairwise.sublist List.filter_sublist O.rise)
theorem find_isSome {t : T} {x : Int} : (find t x).isSome = true ↔ ∃ p ∈ t.l, p.pid = x := by
  unfold find
  rw [List.find?_isSome]
  simp
theorem Coll.done {w : World} {B : Nat} {h : H} {t : T} (T : Tb w B h t) (O : Ok t) {left : Lit → Bool} {g : Int → Bool} {l : List Int} (c : Coll h.D left g l) (h0 : ∀ kl, left kl = false) : l.mergeSort (fun x y => decide (x ≤ y)) = suchL t g := by
  have hp : l.Perm (suchL t g) := by
    refine (List.perm_ext_iff_of_nodup c.1 ?_).2 fun x => ?_
    · exact (rise_suchL O g).imp fun h e => by omega
    · rw [c.2 x, T.has x, find_isSome]
      simp only [h0, true_and, suchL, List.mem_map, List.mem_filter]
      constructor
      · rintro ⟨⟨p, hp, rfl⟩, hg⟩; exact ⟨p, ⟨hp, hg⟩, rfl⟩
      · rintro ⟨p, ⟨hp, hg⟩, rfl⟩; exact ⟨⟨p, hp, rfl⟩, hg⟩
  refine List.Perm.eq_of_pairwise (le := fun a b => decide (a ≤ b) = true) (fun a b _ _ h1 h2 => ?_) (List.pairwise_mergeSort (fun a b c h1 h2 => ?_) (fun a b => ?_) l) ((rise_suchL O g).imp fun h => decide_eq_true (by omega)) ((List.mergeSort_perm l _).trans hp)
  · have := of_decide_eq_true h1; have := of_decide_eq_true h2; omega
  · have := of_decide_eq_true h1; have := of_decide_eq_true h2; exact decide_eq_true (by omega)
  · by_cases h : a ≤ b
    · simp [h]
    · simp; omega
theorem suchL_len (t : T) (g : Int → Bool) : (suchL t g).length ≤ t.l.length := by unfold suchL; rw [List.length_map]; exact List.length_filter_le _ _
theorem range_below {w w' : World} {B r : Nat} (hb : Below B w w') {w2 : World} (hg : w'.grownBy w2 (some r)) (hr : B ≤ r) (hB : B ≤ w'.heap.size) : Below B w w2 :=
  ⟨hg.os.trans hb.os, hg.tape.trans hb.tape, hg.output.trans hb.output, Nat.le_trans hb.size hg.size, fun k hk => (hg.block k (by omega) (fun e => by have := Option.some.inj e; omega)).trans (hb.block k hk)⟩
set_option maxHeartbeats 1600000 in
theorem such_any {w : World} {B : Nat} {h : H} {t : T} (T : Tb w B h t) (O : Ok t) (f : Nat) (cs : Array Value) (g : Int → Bool) (hcf : ∀ (args : Array Value) (w : World), (callFunc f args).run Try.prog w = .ok (.enter f args) w)
    (hf : ∀ w', Below w.heap.size w w' → ∀ x, I64 x → Calls Try.prog f (#[.int .i64 x] ++ cs) w' fun e w'' => e = .returned (.bool (g x)) ∧ w'' = w') :
    Calls Try.prog 60 #[.pointer (some ⟨h.tb, 0, none⟩), .func (Fn.func f) #[] cs] w fun e w' => ∃ v, e = .returned v ∧ w'.ownsRow w.heap.size 3 1 v (suchL t g).length ((suchL t g).map (Value.int .i64)) ∧ Below w.heap.size w w' := by
  obtain ⟨i0, hi, hz0, hz1, hz2⟩ := info_parts Sig.infoInt
  have c0 := T.c0
  have HM := Lib.hid T.map; have HT := Lib.hid T; have HO := Lib.hid O; have HF := Lib.hid hf
  have hlen := O.len
  have hsz := T.size
  clear T O hf
  go_enter Try.func60, Try.ntmps60
  go_wp2_with (at_range; refine wpList_range_own _ rfl _ 65 rfl 3 79 keyed Try.underlying65 _ h.mb _ h.D rfl HM.out ?_; intro w0 hrg0 hg0 hs0)
  have HRG := Lib.hid hrg0
  have HB0 := Lib.hid (show Below w.heap.size w w0 from ⟨hg0.os, hg0.tape, hg0.output, hg0.size, fun k hk => hg0.block k hk (by simp)⟩)
  clear hs0 hg0 hrg0
  go_frame
  go_loopw [5, 6] (fun v pv wr => ∃ left cnt l, wr.ranges Try.prog 3 pe h.mb w.heap.size t.l.length h.D left cnt ∧ Coll h.D left g l ∧ l.length + cnt ≤ t.l.length ∧ wr.ownsRow w.heap.size 3 1 v l.length (l.map (Value.int .i64)) ∧ v.ownBlock ≠ some w.heap.size ∧ Below w.heap.size w wr ∧ w.heap.size < wr.heap.size) (fun _ _ wr => wr.rangeLeft h.mb w.heap.size)
  case atStart =>
    exact ⟨_, _, [], HRG.out, Coll.start _ _, by rw [hsz]; simp, World.ownsRow_nil _ _ _ _, (fun e => by cases e), HB0.out, HRG.out.lt⟩
  case round =>
    obtain ⟨left, cnt, l, hrg, hco, hln, hown, hne, hb, hws⟩ := hrel
    have HCO := Lib.hid hco; have HOW := Lib.hid hown; have HNE := Lib.hid hne; have HB := Lib.hid hb
    clear hco hown hne hb
    go_wp2_with (at_next; refine wpList_next_ranges _ rfl _ rfl 3 keyed pe (Value.int .i64) ptr (fun key kl hk => by obtain ⟨x, rfl, _⟩ := Maps.keyOf_int_inv Try.underlying3 hk; exact ⟨x, rfl⟩) (fun v y hv => by obtain ⟨o, rfl, _⟩ := pe_inv hv; exact ⟨o, rfl⟩) h.mb w.heap.size _ _ _ _ rfl hrg ?_ ?_)
    · intro _ hl0
      have HL0 := Lib.hid hl0
      clear hl0 hrg
      rcases HOW.out.2 with ⟨rfl, h0⟩ | ⟨gb, cap, cur, rfl, hbase, hbk, h1, h2, h3, h4⟩
      · obtain rfl : l = [] := List.length_eq_zero_iff.1 h0
        clear hws hln
        go_wp2_with (go_at_call 67; refine (Try.slices_Sort_int_none none 0 _).mono ?_; rintro e w' ⟨rfl, rfl⟩)
        go_ret
        have hS : suchL t g = [] := by rw [← HCO.out.done HT.out HO.out HL0.out]; simp
        rw [hS]
        exact ⟨_, rfl, World.ownsRow_nil _ _ _ _, HB.out⟩
      · have HH := Lib.hid (sorted_holds hbk (by simpa using h4))
        have hgl := (Array.getElem?_eq_some_iff.1 hbk).1
        have hdone := HCO.out.done HT.out HO.out HL0.out
        have HBK := Lib.hid hbk; have HD := Lib.hid hdone
        clear hbk hdone h4
        go_wp2_with fail
        refine (Try.slices_Sort_int gb 0 cap l _ HH.out hgl (by omega)).mono ?_
        rintro e w' ⟨rfl, n, os, rfl⟩
        have hs := sorted_row (n := n) (os := os) (l := l) (r := l.mergeSort fun x y => decide (x ≤ y)) (by simp) hbase HBK.out h1 h2 h3
        have HS := Lib.hid hs
        have hbl : Below w.heap.size w (Sort.grow (Sort.putRow (Value.int .i64) (Sort.ahead wr n) gb 0 (l.mergeSort fun x y => decide (x ≤ y)).toArray) os) :=
          ⟨HB.out.os, HB.out.tape, HB.out.output, by have := HB.out.size; simp; omega, fun k hk => (hs.2 k (by omega) (by omega)).trans (HB.out.block k hk)⟩
        have HBL := Lib.hid hbl
        clear hs hbl
        go_wp2_with fail
        go_ret
        exact ⟨_, rfl, by rw [← HD.out]; exact HS.out.1, HBL.out⟩
    · intro x c kl yd yp w2 cnt2 hkey hlk hv hat hrg2 hlt hg2 hs2 hen
      obtain ⟨x', ex, rfl, hwx⟩ := Maps.keyOf_int_inv Try.underlying3 hkey
      obtain rfl : x = x' := by cases ex; rfl
      have hI : I64 x := bounds_i64 hwx
      have hhas : Maps.has h.D (.int .i64 x) = true := Maps.has_true_of_atKey hat
      have HB2 := Lib.hid (range_below HB.out hg2 (Nat.le_refl _) (by omega))
      have HI := Lib.hid hI; have HHAS := Lib.hid hhas; have HLK := Lib.hid hlk
      clear hs2 hv hat hwx ex hkey hhas hlk hI
      go_wp2_with fail
      refine (HF.out _ HB2.out x HI.out).mono ?_
      rintro e w3 ⟨rfl, rfl⟩
      have hown2 := HOW.out.kept hg2 (.inr HNE.out)
      have hsz2 : w.heap.size < w3.heap.size := Nat.lt_of_lt_of_le hws hg2.size
      have hm : w3.rangeLeft h.mb w.heap.size < wr.rangeLeft h.mb w.heap.size := by rw [hrg2.left_eq, hrg.left_eq]; exact hlt
      have HM2 := Lib.hid hm
      cases hgx : g x
      · have HC := Lib.hid (HCO.out.miss HLK.out hgx)
        have HO2 := Lib.hid hown2; have HR2 := Lib.hid hrg2
        clear hown2 hrg2 hrg hg2 hgx hm
        go_wp2_with fail
        go_roundw
        case rel => exact ⟨_, cnt2, l, HR2.out, HC.out, by omega, HO2.out, HNE.out, HB2.out, hsz2⟩
        case measure => exact HM2.out
      · have HC := Lib.hid (HCO.out.hit (keyLit HI.out) HLK.out HHAS.out hgx)
        have HO2 := Lib.hid hown2; have HR2 := Lib.hid hrg2
        clear hown2 hrg2 hrg hg2 hgx hm
        go_wp2_with (at_builtin; refine wpList_append_own_at _ rfl _ _ 60 rfl w.heap.size 3 i0 (.int .i64 0) 1 8 Try.underlying60 hi hz0 hz1 hz2 rfl (by decide) _ _ _ rfl (HO2.out.alloc _) ⟨_, 0, none⟩ 1 1 [.int .i64 x] rfl rfl ?c1 ?c2 ?c3 ?c4 ?c5 ?_)
        case c1 =>
          intro j u hj
          match j, hj with
          | 0, hj => simp at hj; subst hj; simp [Addr.add]
        case c2 => intro u hu; simp at hu; subst hu; rfl
        case c3 => unfold maxLen; omega
        case c4 => omega
        case c5 => simp; omega
        intro v' w5 hown5 hgrow5 hnil5 hloc5
        have hown5 : w5.ownsRow w.heap.size 3 1 v' (l ++ [x]).length ((l ++ [x]).map (Value.int .i64)) := by simpa using hown5
        have hlo : ∀ k, u5.ownBlock = some k → w.heap.size ≤ k := fun k hk => (HO2.out.lt k hk).1
        have hmb := HM.out.lt
        have hr5 := (HR2.out.alloc (.cells #[.int .i64 x] 3)).kept hgrow5 (fun e => by have := hlo _ e.symm; omega) (Ne.symm HNE.out)
        have hb5 := (HB2.out.alloc (Nat.le_of_lt hsz2) (.cells #[.int .i64 x] 3)).grown hgrow5 (by rw [World.size_alloc]; omega) hlo
        have hne5 : v'.ownBlock ≠ some w.heap.size := fun e => hloc5.elim (fun e2 => HNE.out (e2.symm.trans e)) fun e2 => by
          have := Option.some.inj (e2.symm.trans e); omega
        have hs5 : w.heap.size < w5.heap.size := by have h5 := hgrow5.size; rw [World.size_alloc] at h5; omega
        have hm5 : w5.rangeLeft h.mb w.heap.size < wr.rangeLeft h.mb w.heap.size := by rw [hr5.left_eq, ← HR2.out.left_eq]; exact HM2.out
        have H1 := Lib.hid hown5; have H2 := Lib.hid hr5; have H3 := Lib.hid hb5; have H4 := Lib.hid hne5; have H5 := Lib.hid hs5; have H6 := Lib.hid hm5
        clear hown5 hlo hr5 hb5 hne5 hs5 hm5 hgrow5 hnil5 hloc5
        go_wp2_with fail
        go_roundw
        case rel => exact ⟨_, cnt2, l ++ [x], H2.out, HC.out, by simp; omega, H1.out, H4.out, H3.out, H5.out⟩
        case measure => exact H6.out
set_option maxHeartbeats 800000 in
theorem cfun61 (args : Array Value) (w : World) : (callFunc 61 args).run Try.prog w = .ok (.enter 61 args) w := by kernel_rfl
theorem cfun66 (args : Array Value) (w : World) : (callFunc 66 args).run Try.prog w = .ok (.enter 66 args) w := by kernel_rfl
set_option maxHeartbeats 800000 in
theorem children_one {w : World} {B : Nat} {h : H} {t : T} (T : Tb w B h t) (par x : Int) (b1 b2 : Nat) (c1 : w.cell? ⟨b1, 0, none⟩ = some (.pointer (some ⟨h.tb, 0, none⟩))) (c2 : w.cell? ⟨b2, 0, none⟩ = some (.int .i64 par)) (hp : I64 par) (hx : I64 x) :
    Calls Try.prog 61 (#[.int .i64 x] ++ #[.pointer (some ⟨b1, 0, none⟩), .pointer (some ⟨b2, 0, none⟩)]) w fun e w' => e = .returned (.bool (child t par x)) ∧ w' = w := by
  have HC := Lib.hid (child_any T par x hp hx)
  clear T
  show Calls Try.prog 61 #[.int .i64 x, .pointer (some ⟨b1, 0, none⟩), .pointer (some ⟨b2, 0, none⟩)] w _
  go_enter Try.func61, Try.ntmps61
  go_wp2_with (go_at_call 26; refine HC.out.mono ?_; rintro e w' ⟨rfl, rfl⟩)
  go_ret
  exact ⟨rfl, rfl⟩
set_option maxHeartbeats 800000 in
theorem procs_one {w : World} {B : Nat} {h : H} {t : T} (T : Tb w B h t) (x : Int) (b1 : Nat) (c1 : w.cell? ⟨b1, 0, none⟩ = some (.pointer (some ⟨h.tb, 0, none⟩))) (hx : I64 x) :
    Calls Try.prog 66 (#[.int .i64 x] ++ #[.pointer (some ⟨b1, 0, none⟩)]) w fun e w' => e = .returned (.bool (live t x)) ∧ w' = w := by
  have HC := Lib.hid (live_any T x hx)
  clear T
  show Calls Try.prog 66 #[.int .i64 x, .pointer (some ⟨b1, 0, none⟩)] w _
  go_enter Try.func66, Try.ntmps66
  go_wp2_with (go_at_call 22; refine HC.out.mono ?_; rintro e w' ⟨rfl, rfl⟩)
  go_ret
  exact ⟨rfl, rfl⟩
theorem own_low {w : World} {base base' : Nat} {e : TypeId} {size : Nat} {v : Value} {n : Nat} {xs : List Value} (h : w.ownsRow base e size v n xs) (hb : base' ≤ base) : w.ownsRow base' e size v n xs := by
  obtain ⟨h1, h2⟩ := h
  refine ⟨h1, ?_⟩
  rcases h2 with h2 | ⟨g, cap, cur, hv, hg, r⟩
  · exact .inl h2
  · exact .inr ⟨g, cap, cur, hv, Nat.le_trans hb hg, r⟩
theorem below_alloc (w : World) (o : Obj) : Below w.heap.size w (w.alloc o) := (Below.refl _ _).alloc (Nat.le_refl _) _
set_option maxHeartbeats 800000 in
theorem children_any {w : World} {B : Nat} {h : H} {t : T} (T : Tb w B h t) (O : Ok t) (par : Int) (hp : I64 par) :
    Calls Try.prog 32 #[.pointer (some ⟨h.tb, 0, none⟩), .int .i64 par] w fun e w' => ∃ v, e = .returned v ∧ w'.ownsRow w.heap.size 3 1 v (suchL t (child t par)).length ((suchL t (child t par)).map (Value.int .i64)) ∧ Below w.heap.size w w' := by
  have hb1 := below_alloc w (.cells #[.pointer (some ⟨h.tb, 0, none⟩)] 26)
  have hb2 := below_alloc (w.alloc (.cells #[.pointer (some ⟨h.tb, 0, none⟩)] 26)) (.cells #[.int .i64 par] 3)
  have hn1 := heap_alloc_new w (.cells #[.pointer (some ⟨h.tb, 0, none⟩)] 26)
  have hn2 := heap_alloc_new (w.alloc (.cells #[.pointer (some ⟨h.tb, 0, none⟩)] 26)) (.cells #[.int .i64 par] 3)
  have hs1 : (w.alloc (.cells #[.pointer (some ⟨h.tb, 0, none⟩)] 26)).heap.size = w.heap.size + 1 := by simp [World.size_alloc]
  have hs2 : ((w.alloc (.cells #[.pointer (some ⟨h.tb, 0, none⟩)] 26)).alloc (.cells #[.int .i64 par] 3)).heap.size = w.heap.size + 2 := by simp [World.size_alloc]
  have hb := hb1.trans (hb2.mono hb1.size)
  have HS := Lib.hid (such_any (T.stay hb) O 61 #[.pointer (some ⟨w.heap.size, 0, none⟩), .pointer (some ⟨w.heap.size + 1, 0, none⟩)] (child t par) cfun61 (fun w' hw x hx =>
    children_one ((T.stay hb).stay hw) par x w.heap.size (w.heap.size + 1)
      (Lib.cell_of_heap ((hw.block w.heap.size (by rw [hs2]; omega)).trans ((hb2.block w.heap.size (by rw [hs1]; omega)).trans hn1)) 0)
      (Lib.cell_of_heap ((hw.block (w.heap.size + 1) (by rw [hs2]; omega)).trans (by rw [hs1] at hn2; exact hn2)) 0) hp hx))
  have HB := Lib.hid hb
  clear T hb1 hb2 hn1 hn2 hs1 hs2 hb
  go_enter Try.func32, Try.ntmps32
  go_wp2_with fail
  refine HS.out.mono ?_
  rintro e w1 ⟨v, rfl, hown, hb1⟩
  have HO := Lib.hid (own_low hown HB.out.size)
  have HB1 := Lib.hid (HB.out.trans (hb1.mono HB.out.size))
  clear hown hb1
  go_wp2_with fail
  go_ret
  exact ⟨v, rfl, HO.out, HB1.out⟩
set_option maxHeartbeats 800000 in
theorem procs_any {w : World} {B : Nat} {h : H} {t : T} (T : Tb w B h t) (O : Ok t) :
    Calls Try.prog 42 #[.pointer (some ⟨h.tb, 0, none⟩)] w fun e w' => ∃ v, e = .returned v ∧ w'.ownsRow w.heap.size 3 1 v (suchL t (live t)).length ((suchL t (live t)).map (Value.int .i64)) ∧ Below w.heap.size w w' := by
  have hb := below_alloc w (.cells #[.pointer (some ⟨h.tb, 0, none⟩)] 26)
  have hn1 := heap_alloc_new w (.cells #[.pointer (some ⟨h.tb, 0, none⟩)] 26)
  have hs1 : (w.alloc (.cells #[.pointer (some ⟨h.tb, 0, none⟩)] 26)).heap.size = w.heap.size + 1 := by simp [World.size_alloc]
  have HS := Lib.hid (such_any (T.stay hb) O 66 #[.pointer (some ⟨w.heap.size, 0, none⟩)] (live t) cfun66 (fun w' hw x hx =>
    procs_one ((T.stay hb).stay hw) x w.heap.size (Lib.cell_of_heap ((hw.block w.heap.size (by rw [hs1]; omega)).trans hn1) 0) hx))
  have HB := Lib.hid hb
  clear T hn1 hs1 hb
  go_enter Try.func42, Try.ntmps42
  go_wp2_with fail
  refine HS.out.mono ?_
  rintro e w1 ⟨v, rfl, hown, hb1⟩
  have HO := Lib.hid (own_low hown HB.out.size)
  have HB1 := Lib.hid (HB.out.trans (hb1.mono HB.out.size))
  clear hown hb1
  go_wp2_with fail
  go_ret
  exact ⟨v, rfl, HO.out, HB1.out⟩
end Kn
end Go.Proofs.Ytlebglnlkkoakaa
