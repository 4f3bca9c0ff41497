/- The program's stack in memory; loop, wall, saves; below, upper. -/
import Derived.Test.YtbcldfaphnnmlaaFrG
import Derived.Test.YtbcldfaphnnmlaaFrK
namespace Go.Proofs.Ytbcldfaphnnmlaa
open Go.RowKit Go.Sort
namespace Fra
open Cls Pt Tr
def savesB (k : Int) : Bool := k == 12 || k == 13
theorem wall_saves (k : Int) : wallB k = (k == 9 || savesB k) := by unfold wallB savesB; rw [Bool.or_assoc]
/-- The place of the uppermost one among the first n that is such. -/
def upF (P : Int → Bool) (l : List IV) : Nat → Option Nat
  | 0 => none
  | n + 1 => match l[n]? with
    | none => none
    | some x => if P x.k then some n else upF P l n
def upV : Option Nat → Int
  | none => -1
  | some n => n
theorem upF_lt {P : Int → Bool} {l : List IV} : ∀ n i, upF P l n = some i → i < n ∧ ∃ x, l[i]? = some x ∧ P x.k = true
  | 0, _, h => by simp [upF] at h
  | n + 1, i, h => by
    rw [upF] at h
    split at h
    · cases h
    · rename_i x hx
      split at h
      · rename_i hp
        injection h with h
        subst h
        exact ⟨Nat.lt_succ_self _, x, hx, hp⟩
      · have := upF_lt n i h
        exact ⟨by omega, this.2⟩
theorem lps_up (l : List IV) : ∀ n i r, lps l n = i :: r → upF loopB l n = some i ∧ lps l i = r
  | 0, _, _, h => by simp [lps] at h
  | n + 1, i, r, h => by
    rw [lps] at h
    split at h
    · cases h
    · rename_i x hx
      split at h
      · cases h
      · split at h
        · rename_i hl
          injection h with h1 h2
          subst h1
          exact ⟨by rw [upF, hx]; simp [hl], h2⟩
        · rename_i hl
          have := lps_up l n i r h
          exact ⟨by rw [upF, hx]; simp [hl, this.1], this.2⟩
theorem upV_le {P : Int → Bool} {l : List IV} {n : Nat} : (upV (upF P l n) + 1).toNat ≤ n := by
  cases h : upF P l n with
  | none => simp [upV]
  | some i => have := (upF_lt n i h).1; simp [upV]; omega
/-- How many loops stand among these. -/
def cntL (l : List IV) : Nat := (l.filter fun y => loopB y.k).length
theorem cntL_snoc (l : List IV) (x : IV) : cntL (l ++ [x]) = cntL l + if loopB x.k then 1 else 0 := by
  unfold cntL
  rw [List.filter_append, List.length_append]
  cases h : loopB x.k <;> simp [List.filter, h]
theorem cntL_le (l : List IV) : cntL l ≤ l.length := List.length_filter_le _ _
theorem lps_count (l : List IV) : ∀ n, n ≤ l.length → (lps l n).length = cntL ((l.take n).drop (upV (upF wallB l n) + 1).toNat)
  | 0, _ => by simp [lps, cntL]
  | n + 1, h => by
    obtain ⟨x, hx⟩ : ∃ x, l[n]? = some x := ⟨_, List.getElem?_eq_getElem (by omega)⟩
    have ih := lps_count l n (by omega)
    have ht : l.take (n + 1) = l.take n ++ [x] := by rw [List.take_add_one, hx]; rfl
    cases hw : wallB x.k
    · have h1 : upF wallB l (n + 1) = upF wallB l n := by rw [upF, hx]; simp [hw]
      rw [h1, ht, List.drop_append_of_le_length (by rw [List.length_take, Nat.min_eq_left (by omega)]; exact upV_le), cntL_snoc, ← ih, lps, hx]
      simp only [hw]
      cases loopB x.k <;> simp
    · have h1 : upF wallB l (n + 1) = some n := by rw [upF, hx]; simp [hw]
      have h2 : lps l (n + 1) = [] := by rw [lps, hx]; simp [hw]
      rw [h1, h2, ht, List.drop_of_length_le (by rw [List.length_append, List.length_take, Nat.min_eq_left (by omega)]; simp [upV])]
      rfl
theorem ret_up (l : List IV) : ∀ n, ret l n = match upF wallB l n with
    | none => none
    | some i => match l[i]? with
      | none => none
      | some x => if x.k == 9 then some (i, x) else none
  | 0 => rfl
  | n + 1 => by
    cases hx : l[n]? with
    | none => simp [ret, upF, hx]
    | some x =>
      cases hw : wallB x.k
      · rw [show ret l (n + 1) = ret l n by rw [ret, hx]; simp [hw], show upF wallB l (n + 1) = upF wallB l n by rw [upF, hx]; simp [hw], ret_up l n]
      · rw [show upF wallB l (n + 1) = some n by rw [upF, hx]; simp [hw], ret, hx]
        simp [hw, hx]
theorem svd_up (l : List IV) : ∀ n, svd l n = match upF savesB l n with
    | none => none
    | some i => match l[i]? with
      | none => none
      | some x => some x.st
  | 0 => rfl
  | n + 1 => by
    cases hx : l[n]? with
    | none => simp [svd, upF, hx]
    | some x =>
      cases hw : savesB x.k
      · rw [show svd l (n + 1) = svd l n by rw [svd, hx]; unfold savesB at hw; simp [hw], show upF savesB l (n + 1) = upF savesB l n by rw [upF, hx]; simp [hw], svd_up l n]
      · rw [show upF savesB l (n + 1) = some n by rw [upF, hx]; simp [hw], svd, hx]
        unfold savesB at hw
        simp [hw, hx]
/-- A stack where it lies. -/
structure Stk (w : World) (B b : Nat) (v : Value) (l : List IV) : Prop where
  blk : w.heap[b]? = some (.cells #[v] 26 (0, 0))
  own : w.ownsRow B 43 14 v l.length (lcells l)
theorem Stk.lt {w : World} {B b : Nat} {v : Value} {l : List IV} (h : Stk w B b v l) : b < w.heap.size := (Array.getElem?_eq_some_iff.1 h.blk).1
theorem Stk.stay {w w' : World} {B b : Nat} {v : Value} {l : List IV} (h : Stk w B b v l) (hb : Below w.heap.size w w') : Stk w' B b v l :=
  ⟨(hb.block b h.lt).trans h.blk, own_on h.own hb⟩
theorem Stk.cell {w : World} {B b : Nat} {v : Value} {l : List IV} (h : Stk w B b v l) : w.cell? ⟨b, 0, none⟩ = some v := Lib.cell_of_heap h.blk 0
/-- What a method of an item tells. -/
def Tells (f : FuncId) (P : Int → Bool) : Prop := ∀ (y : IV) (W : World), Calls Try.prog f #[.agg (icells y).toArray] W fun e w' => e = .returned (.bool (P y.k)) ∧ Below W.heap.size W w'
set_option maxHeartbeats 400000 in
theorem saves_any : Tells 38 savesB := by
  intro y W
  have hb := bel1 W (.cells (icells y).toArray 43)
  have HB := Lib.hid hb
  clear hb
  unfold icells at HB ⊢
  go_enter Try.func38, Try.ntmps38
  go_wp2_with fail
  all_goals (go_ret; exact ⟨ret_bool (by first | rfl | (simp only [savesB, *]; done) | (simp only [savesB, *]; rfl)), bel1 _ _⟩)
set_option maxHeartbeats 400000 in
theorem loop_any : Tells 37 loopB := by
  intro y W
  have hb := bel1 W (.cells (icells y).toArray 43)
  have HB := Lib.hid hb
  clear hb
  unfold icells at HB ⊢
  go_enter Try.func37, Try.ntmps37
  go_wp2_with fail
  all_goals (go_ret; exact ⟨ret_bool (by first | rfl | (simp only [loopB, *]; done) | (simp only [loopB, *]; rfl)), bel1 _ _⟩)
set_option maxHeartbeats 800000 in
theorem wall_any : Tells 30 wallB := by
  intro y W
  have hb := bel1 W (.cells (icells y).toArray 43)
  have HS := Lib.hid (saves_any y)
  have HB := Lib.hid hb
  clear hb
  rw [wall_saves]
  cases h9 : (y.k == 9)
  all_goals
    have H9 := Lib.hid h9
    unfold icells at HB HS ⊢
    go_enter Try.func30, Try.ntmps30
    go_wp2_with (go_at_call 38; refine (HS.out _).mono ?_; rintro e w2 ⟨rfl, hb2⟩; have HB2 := Lib.hid (thru HB.out hb2))
    go_ret
    first | exact ⟨rfl, HB.out⟩ | exact ⟨rfl, HB2.out⟩
set_option maxHeartbeats 1600000 in
theorem below_wall {w : World} {B b : Nat} {v : Value} {l : List IV} (hl : l.length ≤ 100000) (h : Stk w B b v l) (n : Nat) (hn : n ≤ l.length) :
    Calls Try.prog 42 #[.pointer (some ⟨b, 0, none⟩), .int .i64 (n : Int), .func (.func 30) #[] #[]] w fun e w' => e = .returned (.int .i64 (upV (upF wallB l n))) ∧ Below w.heap.size w w' := by
  have HT := Lib.hid wall_any; have HS := Lib.hid h
  obtain ⟨a, cap, rfl, hle, hcell⟩ := LAt.own h.own
  have HC := Lib.hid hcell
  clear h hcell
  go_enter Try.func42, Try.ntmps42
  go_wp2_with fail
  go_loopw [7] (fun i wr => ∃ k : Nat, k ≤ n ∧ i = .int .i64 ((k : Int) - 1) ∧ upF wallB l k = upF wallB l n ∧ Below w.heap.size w wr) (fun i _ => (intOf i + 1).toNat)
  case atStart => exact ⟨n, Nat.le_refl _, rfl, rfl, Below.refl _ _⟩
  case round =>
    obtain ⟨k, hk, rfl, hA, hb⟩ := hrel
    have HA := Lib.hid hA; have HB := Lib.hid hb
    clear hA hb
    have hc := (HS.out.stay HB.out).cell
    cases k with
    | zero =>
      go_wp2_with fail
      go_ret
      exact ⟨by rw [← HA.out]; rfl, HB.out⟩
    | succ k =>
      have hlt : k < l.length := by omega
      obtain ⟨y, hy⟩ : ∃ y, l[k]? = some y := ⟨_, List.getElem?_eq_getElem hlt⟩
      obtain ⟨g, o, rfl, hbl, hcell⟩ := HC.out k y hy
      have s0 : wr.cell? ⟨g, o + k * 14, none⟩ = some (.int .i64 y.k) := cell_below HB.out (hcell 0 _ rfl)
      have s1 : wr.cell? ⟨g, o + k * 14 + 1, none⟩ = some (.int .i64 y.nk) := cell_below HB.out (hcell 1 _ rfl)
      have s2 : wr.cell? ⟨g, o + k * 14 + 2, none⟩ = some (.string y.nm) := cell_below HB.out (hcell 2 _ rfl)
      have s3 : wr.cell? ⟨g, o + k * 14 + 3, none⟩ = some (.bool y.g) := cell_below HB.out (hcell 3 _ rfl)
      have s4 : wr.cell? ⟨g, o + k * 14 + 4, none⟩ = some (.slice y.a1 y.az.length y.c1) := cell_below HB.out (hcell 4 _ rfl)
      have s5 : wr.cell? ⟨g, o + k * 14 + 5, none⟩ = some (.slice y.a2 y.nw.length y.c2) := cell_below HB.out (hcell 5 _ rfl)
      have s6 : wr.cell? ⟨g, o + k * 14 + 6, none⟩ = some (.slice y.a3 y.ks.len y.c3) := cell_below HB.out (hcell 6 _ rfl)
      have s7 : wr.cell? ⟨g, o + k * 14 + 7, none⟩ = some (.slice y.a4 y.bs.length y.c4) := cell_below HB.out (hcell 7 _ rfl)
      have s8 : wr.cell? ⟨g, o + k * 14 + 8, none⟩ = some (.slice y.a5 y.cz.len y.c5) := cell_below HB.out (hcell 8 _ rfl)
      have s9 : wr.cell? ⟨g, o + k * 14 + 9, none⟩ = some (.int .i64 y.pl) := cell_below HB.out (hcell 9 _ rfl)
      have s10 : wr.cell? ⟨g, o + k * 14 + 10, none⟩ = some (.int .i64 y.st) := cell_below HB.out (hcell 10 _ rfl)
      have s11 : wr.cell? ⟨g, o + k * 14 + 11, none⟩ = some (.bool y.fr) := cell_below HB.out (hcell 11 _ rfl)
      have s12 : wr.cell? ⟨g, o + k * 14 + 12, none⟩ = some (.slice y.wa y.ws.length y.wc) := cell_below HB.out (hcell 12 _ rfl)
      have s13 : wr.cell? ⟨g, o + k * 14 + 13, none⟩ = some (.slice y.pa y.ps.length y.pc) := cell_below HB.out (hcell 13 _ rfl)
      have hst : upF wallB l (k + 1) = if wallB y.k then some k else upF wallB l k := by rw [upF, hy]
      have HST := Lib.hid hst
      have hcast : ((k + 1 : Nat) : Int) - 1 = (k : Int) := by omega
      rw [hcast]
      have hT := HT.out y wr
      unfold icells at hT
      have HY := Lib.hid hT
      clear hT hcell hst hy hcast
      cases hp : wallB y.k
      · rw [hp] at HY HST
        go_wp2_with (go_at_call 30; refine HY.out.mono ?_; rintro e w2 ⟨rfl, hb2⟩; have HB2 := Lib.hid (HB.out.trans (hb2.mono HB.out.size)); clear hb2)
        go_roundw
        case rel => exact ⟨k, by omega, rfl, by rw [← HA.out, HST.out]; simp, HB2.out⟩
        case measure => simp [intOf]
      · rw [hp] at HY HST
        go_wp2_with (go_at_call 30; refine HY.out.mono ?_; rintro e w2 ⟨rfl, hb2⟩; have HB2 := Lib.hid (HB.out.trans (hb2.mono HB.out.size)); clear hb2)
        go_ret
        exact ⟨by rw [← HA.out, HST.out]; rfl, HB2.out⟩
set_option maxHeartbeats 400000 in
theorem upper_wall {w : World} {B b : Nat} {v : Value} {l : List IV} (hl : l.length ≤ 100000) (h : Stk w B b v l) :
    Calls Try.prog 29 #[.pointer (some ⟨b, 0, none⟩), .func (.func 30) #[] #[]] w fun e w' => e = .returned (.int .i64 (upV (upF wallB l l.length))) ∧ Below w.heap.size w w' := by
  have H := Lib.hid (below_wall hl h l.length (Nat.le_refl _))
  have hc := h.cell
  obtain ⟨a, cap, rfl, hle, hcell⟩ := LAt.own h.own
  clear h hcell
  go_enter Try.func29, Try.ntmps29
  go_wp2_with (go_at_call 42; refine H.out.mono ?_; rintro e w2 ⟨rfl, hb2⟩)
  go_ret
  exact ⟨rfl, hb2⟩
set_option maxHeartbeats 1600000 in
theorem below_saves {w : World} {B b : Nat} {v : Value} {l : List IV} (hl : l.length ≤ 100000) (h : Stk w B b v l) (n : Nat) (hn : n ≤ l.length) :
    Calls Try.prog 42 #[.pointer (some ⟨b, 0, none⟩), .int .i64 (n : Int), .func (.func 38) #[] #[]] w fun e w' => e = .returned (.int .i64 (upV (upF savesB l n))) ∧ Below w.heap.size w w' := by
  have HT := Lib.hid saves_any; have HS := Lib.hid h
  obtain ⟨a, cap, rfl, hle, hcell⟩ := LAt.own h.own
  have HC := Lib.hid hcell
  clear h hcell
  go_enter Try.func42, Try.ntmps42
  go_wp2_with fail
  go_loopw [7] (fun i wr => ∃ k : Nat, k ≤ n ∧ i = .int .i64 ((k : Int) - 1) ∧ upF savesB l k = upF savesB l n ∧ Below w.heap.size w wr) (fun i _ => (intOf i + 1).toNat)
  case atStart => exact ⟨n, Nat.le_refl _, rfl, rfl, Below.refl _ _⟩
  case round =>
    obtain ⟨k, hk, rfl, hA, hb⟩ := hrel
    have HA := Lib.hid hA; have HB := Lib.hid hb
    clear hA hb
    have hc := (HS.out.stay HB.out).cell
    cases k with
    | zero =>
      go_wp2_with fail
      go_ret
      exact ⟨by rw [← HA.out]; rfl, HB.out⟩
    | succ k =>
      have hlt : k < l.length := by omega
      obtain ⟨y, hy⟩ : ∃ y, l[k]? = some y := ⟨_, List.getElem?_eq_getElem hlt⟩
      obtain ⟨g, o, rfl, hbl, hcell⟩ := HC.out k y hy
      have s0 : wr.cell? ⟨g, o + k * 14, none⟩ = some (.int .i64 y.k) := cell_below HB.out (hcell 0 _ rfl)
      have s1 : wr.cell? ⟨g, o + k * 14 + 1, none⟩ = some (.int .i64 y.nk) := cell_below HB.out (hcell 1 _ rfl)
      have s2 : wr.cell? ⟨g, o + k * 14 + 2, none⟩ = some (.string y.nm) := cell_below HB.out (hcell 2 _ rfl)
      have s3 : wr.cell? ⟨g, o + k * 14 + 3, none⟩ = some (.bool y.g) := cell_below HB.out (hcell 3 _ rfl)
      have s4 : wr.cell? ⟨g, o + k * 14 + 4, none⟩ = some (.slice y.a1 y.az.length y.c1) := cell_below HB.out (hcell 4 _ rfl)
      have s5 : wr.cell? ⟨g, o + k * 14 + 5, none⟩ = some (.slice y.a2 y.nw.length y.c2) := cell_below HB.out (hcell 5 _ rfl)
      have s6 : wr.cell? ⟨g, o + k * 14 + 6, none⟩ = some (.slice y.a3 y.ks.len y.c3) := cell_below HB.out (hcell 6 _ rfl)
      have s7 : wr.cell? ⟨g, o + k * 14 + 7, none⟩ = some (.slice y.a4 y.bs.length y.c4) := cell_below HB.out (hcell 7 _ rfl)
      have s8 : wr.cell? ⟨g, o + k * 14 + 8, none⟩ = some (.slice y.a5 y.cz.len y.c5) := cell_below HB.out (hcell 8 _ rfl)
      have s9 : wr.cell? ⟨g, o + k * 14 + 9, none⟩ = some (.int .i64 y.pl) := cell_below HB.out (hcell 9 _ rfl)
      have s10 : wr.cell? ⟨g, o + k * 14 + 10, none⟩ = some (.int .i64 y.st) := cell_below HB.out (hcell 10 _ rfl)
      have s11 : wr.cell? ⟨g, o + k * 14 + 11, none⟩ = some (.bool y.fr) := cell_below HB.out (hcell 11 _ rfl)
      have s12 : wr.cell? ⟨g, o + k * 14 + 12, none⟩ = some (.slice y.wa y.ws.length y.wc) := cell_below HB.out (hcell 12 _ rfl)
      have s13 : wr.cell? ⟨g, o + k * 14 + 13, none⟩ = some (.slice y.pa y.ps.length y.pc) := cell_below HB.out (hcell 13 _ rfl)
      have hst : upF savesB l (k + 1) = if savesB y.k then some k else upF savesB l k := by rw [upF, hy]
      have HST := Lib.hid hst
      have hcast : ((k + 1 : Nat) : Int) - 1 = (k : Int) := by omega
      rw [hcast]
      have hT := HT.out y wr
      unfold icells at hT
      have HY := Lib.hid hT
      clear hT hcell hst hy hcast
      cases hp : savesB y.k
      · rw [hp] at HY HST
        go_wp2_with (go_at_call 38; refine HY.out.mono ?_; rintro e w2 ⟨rfl, hb2⟩; have HB2 := Lib.hid (HB.out.trans (hb2.mono HB.out.size)); clear hb2)
        go_roundw
        case rel => exact ⟨k, by omega, rfl, by rw [← HA.out, HST.out]; simp, HB2.out⟩
        case measure => simp [intOf]
      · rw [hp] at HY HST
        go_wp2_with (go_at_call 38; refine HY.out.mono ?_; rintro e w2 ⟨rfl, hb2⟩; have HB2 := Lib.hid (HB.out.trans (hb2.mono HB.out.size)); clear hb2)
        go_ret
        exact ⟨by rw [← HA.out, HST.out]; rfl, HB2.out⟩
set_option maxHeartbeats 400000 in
theorem upper_saves {w : World} {B b : Nat} {v : Value} {l : List IV} (hl : l.length ≤ 100000) (h : Stk w B b v l) :
    Calls Try.prog 29 #[.pointer (some ⟨b, 0, none⟩), .func (.func 38) #[] #[]] w fun e w' => e = .returned (.int .i64 (upV (upF savesB l l.length))) ∧ Below w.heap.size w w' := by
  have H := Lib.hid (below_saves hl h l.length (Nat.le_refl _))
  have hc := h.cell
  obtain ⟨a, cap, rfl, hle, hcell⟩ := LAt.own h.own
  clear h hcell
  go_enter Try.func29, Try.ntmps29
  go_wp2_with (go_at_call 42; refine H.out.mono ?_; rintro e w2 ⟨rfl, hb2⟩)
  go_ret
  exact ⟨rfl, hb2⟩
set_option maxHeartbeats 1600000 in
theorem below_loop {w : World} {B b : Nat} {v : Value} {l : List IV} (hl : l.length ≤ 100000) (h : Stk w B b v l) (n : Nat) (hn : n ≤ l.length) :
    Calls Try.prog 42 #[.pointer (some ⟨b, 0, none⟩), .int .i64 (n : Int), .func (.func 37) #[] #[]] w fun e w' => e = .returned (.int .i64 (upV (upF loopB l n))) ∧ Below w.heap.size w w' := by
  have HT := Lib.hid loop_any; have HS := Lib.hid h
  obtain ⟨a, cap, rfl, hle, hcell⟩ := LAt.own h.own
  have HC := Lib.hid hcell
  clear h hcell
  go_enter Try.func42, Try.ntmps42
  go_wp2_with fail
  go_loopw [7] (fun i wr => ∃ k : Nat, k ≤ n ∧ i = .int .i64 ((k : Int) - 1) ∧ upF loopB l k = upF loopB l n ∧ Below w.heap.size w wr) (fun i _ => (intOf i + 1).toNat)
  case atStart => exact ⟨n, Nat.le_refl _, rfl, rfl, Below.refl _ _⟩
  case round =>
    obtain ⟨k, hk, rfl, hA, hb⟩ := hrel
    have HA := Lib.hid hA; have HB := Lib.hid hb
    clear hA hb
    have hc := (HS.out.stay HB.out).cell
    cases k with
    | zero =>
      go_wp2_with fail
      go_ret
      exact ⟨by rw [← HA.out]; rfl, HB.out⟩
    | succ k =>
      have hlt : k < l.length := by omega
      obtain ⟨y, hy⟩ : ∃ y, l[k]? = some y := ⟨_, List.getElem?_eq_getElem hlt⟩
      obtain ⟨g, o, rfl, hbl, hcell⟩ := HC.out k y hy
      have s0 : wr.cell? ⟨g, o + k * 14, none⟩ = some (.int .i64 y.k) := cell_below HB.out (hcell 0 _ rfl)
      have s1 : wr.cell? ⟨g, o + k * 14 + 1, none⟩ = some (.int .i64 y.nk) := cell_below HB.out (hcell 1 _ rfl)
      have s2 : wr.cell? ⟨g, o + k * 14 + 2, none⟩ = some (.string y.nm) := cell_below HB.out (hcell 2 _ rfl)
      have s3 : wr.cell? ⟨g, o + k * 14 + 3, none⟩ = some (.bool y.g) := cell_below HB.out (hcell 3 _ rfl)
      have s4 : wr.cell? ⟨g, o + k * 14 + 4, none⟩ = some (.slice y.a1 y.az.length y.c1) := cell_below HB.out (hcell 4 _ rfl)
      have s5 : wr.cell? ⟨g, o + k * 14 + 5, none⟩ = some (.slice y.a2 y.nw.length y.c2) := cell_below HB.out (hcell 5 _ rfl)
      have s6 : wr.cell? ⟨g, o + k * 14 + 6, none⟩ = some (.slice y.a3 y.ks.len y.c3) := cell_below HB.out (hcell 6 _ rfl)
      have s7 : wr.cell? ⟨g, o + k * 14 + 7, none⟩ = some (.slice y.a4 y.bs.length y.c4) := cell_below HB.out (hcell 7 _ rfl)
      have s8 : wr.cell? ⟨g, o + k * 14 + 8, none⟩ = some (.slice y.a5 y.cz.len y.c5) := cell_below HB.out (hcell 8 _ rfl)
      have s9 : wr.cell? ⟨g, o + k * 14 + 9, none⟩ = some (.int .i64 y.pl) := cell_below HB.out (hcell 9 _ rfl)
      have s10 : wr.cell? ⟨g, o + k * 14 + 10, none⟩ = some (.int .i64 y.st) := cell_below HB.out (hcell 10 _ rfl)
      have s11 : wr.cell? ⟨g, o + k * 14 + 11, none⟩ = some (.bool y.fr) := cell_below HB.out (hcell 11 _ rfl)
      have s12 : wr.cell? ⟨g, o + k * 14 + 12, none⟩ = some (.slice y.wa y.ws.length y.wc) := cell_below HB.out (hcell 12 _ rfl)
      have s13 : wr.cell? ⟨g, o + k * 14 + 13, none⟩ = some (.slice y.pa y.ps.length y.pc) := cell_below HB.out (hcell 13 _ rfl)
      have hst : upF loopB l (k + 1) = if loopB y.k then some k else upF loopB l k := by rw [upF, hy]
      have HST := Lib.hid hst
      have hcast : ((k + 1 : Nat) : Int) - 1 = (k : Int) := by omega
      rw [hcast]
      have hT := HT.out y wr
      unfold icells at hT
      have HY := Lib.hid hT
      clear hT hcell hst hy hcast
      cases hp : loopB y.k
      · rw [hp] at HY HST
        go_wp2_with (go_at_call 37; refine HY.out.mono ?_; rintro e w2 ⟨rfl, hb2⟩; have HB2 := Lib.hid (HB.out.trans (hb2.mono HB.out.size)); clear hb2)
        go_roundw
        case rel => exact ⟨k, by omega, rfl, by rw [← HA.out, HST.out]; simp, HB2.out⟩
        case measure => simp [intOf]
      · rw [hp] at HY HST
        go_wp2_with (go_at_call 37; refine HY.out.mono ?_; rintro e w2 ⟨rfl, hb2⟩; have HB2 := Lib.hid (HB.out.trans (hb2.mono HB.out.size)); clear hb2)
        go_ret
        exact ⟨by rw [← HA.out, HST.out]; rfl, HB2.out⟩
set_option maxHeartbeats 400000 in
theorem upper_loop {w : World} {B b : Nat} {v : Value} {l : List IV} (hl : l.length ≤ 100000) (h : Stk w B b v l) :
    Calls Try.prog 29 #[.pointer (some ⟨b, 0, none⟩), .func (.func 37) #[] #[]] w fun e w' => e = .returned (.int .i64 (upV (upF loopB l l.length))) ∧ Below w.heap.size w w' := by
  have H := Lib.hid (below_loop hl h l.length (Nat.le_refl _))
  have hc := h.cell
  obtain ⟨a, cap, rfl, hle, hcell⟩ := LAt.own h.own
  clear h hcell
  go_enter Try.func29, Try.ntmps29
  go_wp2_with (go_at_call 42; refine H.out.mono ?_; rintro e w2 ⟨rfl, hb2⟩)
  go_ret
  exact ⟨rfl, hb2⟩
end Fra
end Go.Proofs.Ytbcldfaphnnmlaa
