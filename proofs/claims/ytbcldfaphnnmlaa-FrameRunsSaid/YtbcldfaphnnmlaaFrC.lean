/- Rows of items that are appended; the reference's Loops, Break, Continue. -/
import Derived.Test.YtbcldfaphnnmlaaFrB
import Derived.Test.YtbcldfaphnnmlaaTrS
namespace Go.Proofs.Ytbcldfaphnnmlaa
open Go.RowKit Go.Sort
namespace Fra
open Cls Pt Tr
theorem own_slice {w : World} {B k n : Nat} {e : TypeId} {v : Value} {xs : List Value} (h : w.ownsRow B e k v n xs) : ∃ a c, v = .slice a n c := by
  rcases h.2 with ⟨rfl, h0⟩ | ⟨g, cap, cur, rfl, _⟩
  · exact ⟨none, 0, by rw [h0]⟩
  · exact ⟨_, _, rfl⟩
theorem addr_add (b o j : Nat) : (⟨b, o, none⟩ : Addr).add j = ⟨b, o + j, none⟩ := by
  unfold Addr.add
  split
  · rename_i h; subst h; rfl
  · rfl
theorem infoR : (Try.prog.info? 41).map (fun i => (i.zero, i.size, i.bytes)) = some (some (.agg (icells zero).toArray), 14, 232) := by kernel_rfl
theorem icells_one (y : IV) : ∀ u ∈ icells y, u.oneCell' = true := by
  intro u hu
  simp only [icells, List.mem_cons, List.not_mem_nil, or_false] at hu
  rcases hu with rfl | rfl | rfl | rfl | rfl | rfl | rfl | rfl | rfl | rfl | rfl | rfl | rfl | rfl <;> rfl
theorem lcells_one (l : List IV) : ∀ u ∈ lcells l, u.oneCell' = true := by
  intro u hu
  unfold lcells at hu
  obtain ⟨y, _, h⟩ := List.mem_flatMap.1 hu
  exact icells_one y u h
theorem lcells_cell {w : World} {b o : Nat} {l : List IV} (h : ∀ j p, l[j]? = some p → ∀ i u, (icells p)[i]? = some u → w.cell? ⟨b, o + j * 14 + i, none⟩ = some u) : ∀ j u, (lcells l)[j]? = some u → w.cell? ((⟨b, o, none⟩ : Addr).add j) = some u := by
  intro j u hu
  have hlt := (List.getElem?_eq_some_iff.1 hu).1
  rw [lcells_len] at hlt
  have hd : j / 14 < l.length := (Nat.div_lt_iff_lt_mul (by decide)).2 hlt
  have hm : j % 14 < 14 := Nat.mod_lt _ (by decide)
  have e : j / 14 * 14 + j % 14 = j := by omega
  have hp := List.getElem?_eq_getElem hd
  have h2 := lcells_at hp (j % 14) hm
  rw [e, hu] at h2
  have := h _ _ hp _ _ h2.symm
  rw [Nat.add_assoc, e] at this
  rw [addr_add]; exact this
theorem append_items {P : Program} {w : World} {ops : Array Oper} {rest : List Oper} {o : Oper} {a : Act} {Q : Exit → Act → World → Prop} (hgd : o.guard = none) (s x : Operand) (t : TypeId)
    (ho : o.op = .call { callee := .builtin .append, args := #[s, x], argTypes := #[t, t] })
    (base : Nat) (e : TypeId) (i : TypeInfo) (z : Value) (ht : P.underlying t = some (.slice e)) (hi : P.info? e = some i) (hz : i.zero = some z)
    (hsize : i.size = 14) (hby : i.bytes = 232) (hzs : z.cells.size = 14)
    (v : Value) (l : List IV) (hs : a.eval s = v) (hown : w.ownsRow base e 14 v l.length (lcells l))
    (sv : Value) (m : List IV) (hx : a.eval x = sv) (hm : LAt w sv m) (hlen : l.length + m.length ≤ 100000000) (hbase : base ≤ w.heap.size)
    (h : ∀ v' w', w'.ownsRow base e 14 v' (l ++ m).length (lcells (l ++ m)) → w.grownBy w' v.ownBlock → (v'.ownBlock = v.ownBlock ∨ v'.ownBlock = some w.heap.size) → wpList P ops Q rest (a.put o.dst v') w') :
    wpList P ops Q (o :: rest) a w := by
  obtain ⟨ad, cap, rfl, _, hc⟩ := hm
  cases ad with
  | none =>
    have hm0 : m = [] := by
      cases m with
      | nil => rfl
      | cons y r => obtain ⟨b, o, e, _⟩ := hc 0 y rfl; cases e
    subst hm0
    refine append_nothing hgd s x t ho base e i 14 ht hi v l.length (lcells l) cap hs hown hx ?_
    exact h v w (by rw [List.append_nil]; exact hown) ⟨rfl, rfl, rfl, Nat.le_refl _, fun _ _ _ => rfl⟩ (.inl rfl)
  | some ad =>
    refine wpList_append_own_at w hgd s x t ho base e i z 14 232 ht hi hz hsize hby hzs (by decide) v l.length (lcells l) hs hown ad m.length cap (lcells m) hx (lcells_len m) ?_ (lcells_one m) (by unfold maxLen; omega) (by omega) hbase ?_
    · cases m with
      | nil => intro j u hj; simp [lcells] at hj
      | cons y r =>
        obtain ⟨b, o, e, hb, _⟩ := hc 0 y rfl
        cases e
        refine lcells_cell (fun j p hp i u hu => ?_)
        obtain ⟨b', o', e', _, h2⟩ := hc j p hp
        cases e'
        exact h2 i u hu
    · intro v' w' h1 h2 _ h3
      exact h v' w' (by rw [List.length_append, lcells_app]; exact h1) h2 h3
set_option maxHeartbeats 400000 in
theorem rLoops_any {w : World} {v : Value} {l : List IV} (hL : LAt w v l) (hn : l.length ≤ 100000) :
    Calls Try.prog 34 #[v] w fun e w' => e = .returned (.int .i64 (lps l l.length).length) ∧ Below w.heap.size w w' := by
  have H := Lib.hid (rloops_any hL hn)
  go_enter Try.func34, Try.ntmps34
  go_wp2_with (go_at_call 28; refine H.out.mono ?_; rintro e w1 ⟨u, rfl, ho, hb⟩; obtain ⟨a1, c1, rfl⟩ := own_slice ho)
  go_ret
  exact ⟨rfl, hb⟩
theorem own_at {w : World} {B n : Nat} {e : TypeId} {v : Value} {xs : List Value} (h : w.ownsRow B e 1 v n xs) {j : Nat} {u : Value} (hu : xs[j]? = some u) : ∃ g c, v = .slice (some ⟨g, 0, none⟩) n c ∧ w.cell? ⟨g, j, none⟩ = some u ∧ j < n := by
  have hlt := (List.getElem?_eq_some_iff.1 hu).1
  have hl := h.1
  rcases h.2 with ⟨rfl, h0⟩ | ⟨g, cap, cur, rfl, r⟩
  · omega
  · have := h.cells (g := g) rfl j u hu
    exact ⟨g, cap, rfl, by rw [addr_add, Nat.zero_add] at this; exact this, by omega⟩
theorem brk_low {l : List IV} {n : Int} (h : n < 1) : brk l n = none := by unfold brk; rw [if_pos h]
theorem brk_high {l : List IV} {n : Int} (h : ¬ n < 1) (h2 : ((lps l l.length).length : Int) < n) : brk l n = none := by
  unfold brk; rw [if_neg h, List.getElem?_eq_none_iff]; omega
theorem brk_some {l : List IV} {n : Int} (h : ¬ n < 1) (h2 : ¬ ((lps l l.length).length : Int) < n) : ∃ i m : Nat, n = (m : Int) + 1 ∧ (lps l l.length)[m]? = some i ∧ brk l n = some i ∧ i < l.length := by
  have hlt : n.toNat - 1 < (lps l l.length).length := by omega
  refine ⟨(lps l l.length)[n.toNat - 1], n.toNat - 1, by omega, List.getElem?_eq_getElem hlt, ?_, (lps_lt l _ _ (List.getElem_mem hlt)).2⟩
  unfold brk; rw [if_neg h, List.getElem?_eq_getElem hlt]
/-- What Break answers. -/
def Broke (w : World) (v : Value) (l : List IV) (r : Option Nat) (e : Ending) (w' : World) : Prop := (match r with
  | none => e = .returned (.tuple #[v, .bool false])
  | some i => ∃ v', e = .returned (.tuple #[v', .bool true]) ∧ w'.ownsRow w.heap.size 41 14 v' (l.take i).length (lcells (l.take i))) ∧ Below w.heap.size w w'
set_option maxHeartbeats 800000 in
theorem rbreak_any {w : World} {v : Value} {l : List IV} (n : Int) (hL : LAt w v l) (hn : l.length ≤ 100000) (h0 : -9223372036854775808 ≤ n) :
    Calls Try.prog 11 #[v, .int .i64 n] w (Broke w v l (brk l n)) := by
  obtain ⟨i0, hi, hz0, hz1, hz2⟩ := info_parts infoR
  have H := Lib.hid (rloops_any hL hn)
  have HLA := Lib.hid hL
  obtain ⟨a, cap, rfl, hle, hc⟩ := hL
  clear hc
  by_cases h1 : n < 1
  · rw [brk_low h1]
    unfold Broke
    go_enter Try.func11, Try.ntmps11
    go_wp2_with (go_at_call 28; refine H.out.mono ?_; rintro e w1 ⟨u, rfl, ho, hb⟩; obtain ⟨a1, c1, rfl⟩ := own_slice ho)
    go_ret2
    exact ⟨rfl, hb⟩
  by_cases h2 : ((lps l l.length).length : Int) < n
  · rw [brk_high h1 h2]
    unfold Broke
    go_enter Try.func11, Try.ntmps11
    go_wp2_with (go_at_call 28; refine H.out.mono ?_; rintro e w1 ⟨u, rfl, ho, hb⟩; obtain ⟨a1, c1, rfl⟩ := own_slice ho)
    go_ret2
    exact ⟨rfl, hb⟩
  obtain ⟨i, m, rfl, hm, hb, hil⟩ := brk_some h1 h2
  rw [hb]
  unfold Broke
  have HM := Lib.hid hm
  clear hm hb
  go_enter Try.func11, Try.ntmps11
  have hll := lps_len l l.length
  have HLL := Lib.hid hll
  clear hll
  go_wp2_with fail
  refine H.out.mono ?_
  rintro e w1 ⟨u, rfl, ho, hb⟩
  obtain ⟨g, c1, rfl, hcell, hml⟩ := own_at ho (show (nI (lps l l.length))[m]? = some (.int .i64 (i : Int)) by unfold nI; rw [List.getElem?_map, HM.out]; rfl)
  have hmb : m ≤ 100000 := by have := HLL.out; omega
  have hwm : wrap64 (m : Int) = (m : Int) := by unfold wrap64; omega
  have q := cell_below (bel1 w1 (.cells #[] 41)) hcell
  have HO := Lib.hid ho; have HB := Lib.hid hb
  have hs1 := hb.size
  have HT := Lib.hid (((HLA.out).stay (thru hb (bel1 w1 (.cells #[] 41)))).take i cap (Nat.le_of_lt hil) (by omega))
  have ho0 := World.ownsRow_made (base := w.heap.size) (e := 41) (size := 14) w1 #[] 0 hs1 (Nat.zero_le _) (by simp)
  have HO0 := Lib.hid ho0
  have hlt : (l.take i).length ≤ 100000 := by rw [List.length_take]; omega
  have hsz5 : w.heap.size ≤ (w1.alloc (.cells #[] 41)).heap.size := by rw [World.size_alloc]; omega
  have HSZ := Lib.hid hsz5
  clear ho hb hcell ho0 hsz5
  go_wp2_with (at_builtin; refine append_items rfl _ _ 27 rfl w.heap.size 41 i0 _ Try.underlying27 hi hz0 hz1 hz2 rfl _ [] rfl HO0.out _ (l.take i) rfl HT.out (by simp only [List.length_nil]; omega) HSZ.out ?_; intro v' w5 hown5 hgrow5 _)
  have hb5 := (HB.out.alloc hs1 (.cells #[] 41)).grown hgrow5 HSZ.out (fun g e => (HO0.out.lt g e).1)
  rw [List.nil_append] at hown5
  go_ret2
  exact ⟨⟨_, rfl, hown5⟩, hb5⟩
end Fra
end Go.Proofs.Ytbcldfaphnnmlaa
