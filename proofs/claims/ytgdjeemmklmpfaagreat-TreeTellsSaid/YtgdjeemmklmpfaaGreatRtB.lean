/- The reference: small functions on nodes and words. -/
/- The reference: which fields a node has. -/
import Derived.Test.YtgdjeemmklmpfaaGreatTrI
import Derived.Test.YtgdjeemmklmpfaaGreatRfE
import Derived.Test.YtgdjeemmklmpfaaGreatSpD
namespace Go.Proofs.YtgdjeemmklmpfaaGreat
open Go.RowKit Go.Sort
namespace Tr
open Cls Pt

set_option maxHeartbeats 400000 in
theorem rcompound_any (k : Int) (nm : ByteArray) (g : Bool) (az : List (ByteArray × PL)) (ws : List PL) (ks : NL) (bs : List Bool) (cz : NL) (x1 : Option Addr) (d1 : Nat) (x2 : Option Addr) (d2 : Nat) (x3 : Option Addr) (d3 : Nat) (x4 : Option Addr) (d4 : Nat) (x5 : Option Addr) (d5 : Nat) (w : World) : Calls Tryz.prog 39 #[.agg (nodeV k nm g x1 az.length d1 x2 ws.length d2 x3 ks.len d3 x4 bs.length d4 x5 cz.len d5)] w fun e w' => e = .returned (.bool (countsB k)) ∧ Below w.heap.size w w' := by
  unfold nodeV
  by_cases h1 : 6 ≤ k <;> by_cases h2 : k ≤ 13
  all_goals try (exfalso; omega)
  all_goals
    go_enter Tryz.func39, Tryz.ntmps39
    go_wp2_with fail
    all_goals
      go_ret
      exact ⟨ret_bool (by simp [*, countsB, commandB, unitB, itemB, bodyB]), by first | exact bel1 _ _ | exact thru (bel1 _ _) (by assumption)⟩

set_option maxHeartbeats 400000 in
theorem rplain_any (k : Int) (nm : ByteArray) (g : Bool) (az : List (ByteArray × PL)) (ws : List PL) (ks : NL) (bs : List Bool) (cz : NL) (x1 : Option Addr) (d1 : Nat) (x2 : Option Addr) (d2 : Nat) (x3 : Option Addr) (d3 : Nat) (x4 : Option Addr) (d4 : Nat) (x5 : Option Addr) (d5 : Nat) (w : World) : Calls Tryz.prog 69 #[.agg (nodeV k nm g x1 az.length d1 x2 ws.length d2 x3 ks.len d3 x4 bs.length d4 x5 cz.len d5)] w fun e w' => e = .returned (.bool (commandB k)) ∧ Below w.heap.size w w' := by
  have hC := fun w => rcompound_any k nm g az ws ks bs cz x1 d1 x2 d2 x3 d3 x4 d4 x5 d5 w
  unfold nodeV at hC ⊢
  cases hB : countsB k <;> cases h1 : (k == 1)
  all_goals
    rw [hB] at hC
    have HC := Lib.hid hC
    clear hC
    go_enter Tryz.func69, Tryz.ntmps69
    go_wp2_with (go_at_call 39; refine (HC.out _).mono ?_; rintro e w1 ⟨rfl, hb⟩; have c0 := cell_below hb (show (w.alloc (.cells #[.int .i64 k, .string nm, .bool g, .slice x1 az.length d1, .slice x2 ws.length d2, .slice x3 ks.len d3, .slice x4 bs.length d4, .slice x5 cz.len d5] 28)).cell? ⟨w.heap.size, 0, none⟩ = some (.int .i64 k) from Lib.cell_of_heap (heap_new' _ _) 0))
    all_goals
      go_ret
      exact ⟨ret_bool (by simp_all [commandB, unitB, itemB]), by first | exact bel1 _ _ | exact thru (bel1 _ _) (by assumption)⟩

set_option maxHeartbeats 400000 in
theorem runit_any (k : Int) (nm : ByteArray) (g : Bool) (az : List (ByteArray × PL)) (ws : List PL) (ks : NL) (bs : List Bool) (cz : NL) (x1 : Option Addr) (d1 : Nat) (x2 : Option Addr) (d2 : Nat) (x3 : Option Addr) (d3 : Nat) (x4 : Option Addr) (d4 : Nat) (x5 : Option Addr) (d5 : Nat) (w : World) : Calls Tryz.prog 68 #[.agg (nodeV k nm g x1 az.length d1 x2 ws.length d2 x3 ks.len d3 x4 bs.length d4 x5 cz.len d5)] w fun e w' => e = .returned (.bool (unitB k)) ∧ Below w.heap.size w w' := by
  have hC := fun w => rplain_any k nm g az ws ks bs cz x1 d1 x2 d2 x3 d3 x4 d4 x5 d5 w
  unfold nodeV at hC ⊢
  cases hB : commandB k <;> cases h4 : (k == 4)
  all_goals
    rw [hB] at hC
    have HC := Lib.hid hC
    clear hC
    go_enter Tryz.func68, Tryz.ntmps68
    go_wp2_with (go_at_call 69; refine (HC.out _).mono ?_; rintro e w1 ⟨rfl, hb⟩; have c0 := cell_below hb (show (w.alloc (.cells #[.int .i64 k, .string nm, .bool g, .slice x1 az.length d1, .slice x2 ws.length d2, .slice x3 ks.len d3, .slice x4 bs.length d4, .slice x5 cz.len d5] 28)).cell? ⟨w.heap.size, 0, none⟩ = some (.int .i64 k) from Lib.cell_of_heap (heap_new' _ _) 0))
    all_goals
      go_ret
      exact ⟨ret_bool (by simp_all [commandB, unitB, itemB]), by first | exact bel1 _ _ | exact thru (bel1 _ _) (by assumption)⟩

set_option maxHeartbeats 400000 in
theorem ritem_any (k : Int) (nm : ByteArray) (g : Bool) (az : List (ByteArray × PL)) (ws : List PL) (ks : NL) (bs : List Bool) (cz : NL) (x1 : Option Addr) (d1 : Nat) (x2 : Option Addr) (d2 : Nat) (x3 : Option Addr) (d3 : Nat) (x4 : Option Addr) (d4 : Nat) (x5 : Option Addr) (d5 : Nat) (w : World) : Calls Tryz.prog 67 #[.agg (nodeV k nm g x1 az.length d1 x2 ws.length d2 x3 ks.len d3 x4 bs.length d4 x5 cz.len d5)] w fun e w' => e = .returned (.bool (itemB k)) ∧ Below w.heap.size w w' := by
  have hC := fun w => runit_any k nm g az ws ks bs cz x1 d1 x2 d2 x3 d3 x4 d4 x5 d5 w
  unfold nodeV at hC ⊢
  cases hB : unitB k <;> cases h2 : (k == 2) <;> cases h3 : (k == 3)
  all_goals
    rw [hB] at hC
    have HC := Lib.hid hC
    clear hC
    go_enter Tryz.func67, Tryz.ntmps67
    go_wp2_with (go_at_call 68; refine (HC.out _).mono ?_; rintro e w1 ⟨rfl, hb⟩; have c0 := cell_below hb (show (w.alloc (.cells #[.int .i64 k, .string nm, .bool g, .slice x1 az.length d1, .slice x2 ws.length d2, .slice x3 ks.len d3, .slice x4 bs.length d4, .slice x5 cz.len d5] 28)).cell? ⟨w.heap.size, 0, none⟩ = some (.int .i64 k) from Lib.cell_of_heap (heap_new' _ _) 0))
    all_goals
      go_ret
      exact ⟨ret_bool (by simp_all [commandB, unitB, itemB]), by first | exact bel1 _ _ | exact thru (bel1 _ _) (by assumption)⟩

set_option maxHeartbeats 400000 in
theorem rbody_any (k : Int) (nm : ByteArray) (g : Bool) (az : List (ByteArray × PL)) (ws : List PL) (ks : NL) (bs : List Bool) (cz : NL) (x1 : Option Addr) (d1 : Nat) (x2 : Option Addr) (d2 : Nat) (x3 : Option Addr) (d3 : Nat) (x4 : Option Addr) (d4 : Nat) (x5 : Option Addr) (d5 : Nat) (w : World) : Calls Tryz.prog 98 #[.agg (nodeV k nm g x1 az.length d1 x2 ws.length d2 x3 ks.len d3 x4 bs.length d4 x5 cz.len d5)] w fun e w' => e = .returned (.bool (bodyB k ks.len)) ∧ Below w.heap.size w w' := by
  unfold nodeV
  cases h1 : (k == 5) <;> by_cases h2 : 0 < ks.len
  all_goals try (exfalso; omega)
  all_goals
    go_enter Tryz.func98, Tryz.ntmps98
    go_wp2_with fail
    all_goals
      go_ret
      exact ⟨ret_bool (by simp [*, countsB, commandB, unitB, itemB, bodyB]), by first | exact bel1 _ _ | exact thru (bel1 _ _) (by assumption)⟩

set_option maxHeartbeats 800000 in
set_option maxRecDepth 100000 in
theorem rwords_any (l : List PL) (a : Option Addr) (cap : Nat) (w : World) (hl : Sl 1 (PW w) a cap l) :
    Calls Tryz.prog 72 #[.slice a l.length cap] w fun e w' => e = .returned (.bool (l.all rightW)) ∧ Below w.heap.size w w' := by
  have hle := hl.le
  have HL := Lib.hid hl
  clear hl
  go_enter Tryz.func72, Tryz.ntmps72
  go_wp2
  go_loopw [7] (fun x wr => ∃ n : Nat, n ≤ l.length ∧ x = .int .i64 n ∧ l.all rightW = (l.drop n).all rightW ∧ Below w.heap.size w wr) (fun x wr => l.length - (intOf x).toNat)
  case atStart => exact ⟨0, Nat.zero_le _, rfl, rfl, Below.refl _ _⟩
  case round =>
    obtain ⟨n, hn, rfl, hr, hbw⟩ := hrel
    have HR := Lib.hid hr; have HW := Lib.hid hbw
    clear hr hbw
    by_cases hlt : n < l.length
    · obtain ⟨b1, o1, rfl, a1, c1, e1, hl1⟩ := (sl_below (P := PW) (fun h => h.below HW.out) HL.out).get (List.getElem?_eq_getElem hlt)
      rw [Nat.mul_one] at e1
      have hC := Rf.rright_any l[n] a1 c1 wr hl1
      have hstep : l.all rightW = (rightW l[n] && (l.drop (n + 1)).all rightW) := by rw [HR.out, List.drop_eq_getElem_cons hlt]; rfl
      generalize l[n] = x at *
      have HT := Lib.hid hstep
      clear hl1 hstep
      cases hx : rightW x
      all_goals
        rw [hx] at hC HT
        have HC := Lib.hid hC
        clear hC hx
      · go_wp2_with (go_at_call 101; refine (HC.out).mono ?_; rintro e w' ⟨rfl, hb⟩)
        go_ret
        exact ⟨ret_bool (by rw [HT.out]; rfl), thru HW.out (by assumption)⟩
      · go_wp2_with (go_at_call 101; refine (HC.out).mono ?_; rintro e w' ⟨rfl, hb⟩)
        go_roundw
        case rel => exact ⟨n + 1, by omega, by go_num, by rw [HT.out]; rfl, thru HW.out (by assumption)⟩
        case measure => simp [intOf]; omega
    · obtain rfl : n = l.length := by omega
      go_wp2
      go_ret
      exact ⟨ret_bool (by rw [HR.out, List.drop_eq_nil_of_le (Nat.le_refl _)]; rfl), HW.out⟩

set_option maxHeartbeats 800000 in
/-- Is a word just a reserved one? -/
def resW (l : PL) : Bool := Sp.plainB l && reservedL (Sp.plainT l).data.toList
theorem rresw_any (l : PL) (a : Option Addr) (cap : Nat) (w : World) (hl : Lies w a cap l) : Calls Tryz.prog 97 #[.slice a l.len cap] w fun e w' => e = .returned (.bool (resW l)) ∧ Below w.heap.size w w' := by
  have HL := Lib.hid hl; clear hl
  have hle := HL.out.le
  cases l with
  | nil =>
    go_enter Tryz.func97, Tryz.ntmps97
    go_wp2_with fail
    go_ret
    exact ⟨rfl, Below.refl _ _⟩
  | cons k q t o f r =>
    cases r with
    | cons k2 q2 t2 o2 f2 r2 =>
      have hlen : (PL.cons k q t o f (PL.cons k2 q2 t2 o2 f2 r2)).len = r2.len + 2 := rfl
      have hne : (((r2.len + 2 : Nat) : Int) == 1) = false := by simp; omega
      rw [hlen]
      clear hlen hle
      go_enter Tryz.func97, Tryz.ntmps97
      go_wp2_with fail
      go_ret
      exact ⟨rfl, Below.refl _ _⟩
    | nil =>
      obtain ⟨b1, p1, rfl, hb1, c10, c11, c12, c13, ht, ho, a1, ca1, c14, hl1⟩ := HL.out.get (i := 0) rfl
      rw [Nat.zero_mul, Nat.add_zero] at c10 c11 c12 c13 c14
      have hlen : (PL.cons k q t o f PL.nil).len = 1 := rfl
      rw [hlen]
      clear hlen hle hl1 c13 c14
      have hR := fun w => rreserved_any t w
      cases hk : (k == 1) <;> cases q <;> cases hv : reservedL t.data.toList
      all_goals
        rw [hv] at hR
        have HR := Lib.hid hR
        have HV := Lib.hid hv
        clear hR hv
        go_enter Tryz.func97, Tryz.ntmps97
        go_wp2_with (go_at_call 74; refine (HR.out _).mono ?_; rintro e w1 ⟨rfl, hb⟩)
        go_ret
        exact ⟨ret_bool (by simp [resW, Sp.plainB, Sp.plainT, hk, HV.out]), by first | exact Below.refl _ _ | assumption⟩

end Tr
end Go.Proofs.YtgdjeemmklmpfaaGreat

namespace Go.Proofs.YtgdjeemmklmpfaaGreat
open Go.RowKit Go.Sort
namespace Tr
open Cls Pt

def sigs : List UInt8 := [110, 103, 97, 119, 107, 98, 99]
def noneL (has : List Bool) (but : List UInt8) : Bool := (List.range 7).all fun i => !(has.getD i false) || but.any (· == sigs.getD i 0)
theorem cmp8 (a b : UInt8) : ((a.toNat : Int) == (b.toNat : Int)) = (a == b) := by
  rw [Bool.eq_iff_iff, beq_iff_eq, beq_iff_eq]
  constructor
  · intro e
    exact UInt8.toNat_inj.1 (by omega)
  · rintro rfl; rfl
theorem sig_at {i : Nat} (h : i < (⟨#[110, 103, 97, 119, 107, 98, 99]⟩ : ByteArray).size) : (⟨#[110, 103, 97, 119, 107, 98, 99]⟩ : ByteArray)[i] = sigs.getD i 0 := by
  have h7 : i < 7 := h
  match i, h7 with
  | 0, _ => rfl | 1, _ => rfl | 2, _ => rfl | 3, _ => rfl | 4, _ => rfl | 5, _ => rfl | 6, _ => rfl | n + 7, h => omega
def hasN (nm : ByteArray) (g : Bool) (az : List (ByteArray × PL)) (ws : List PL) (ks : NL) (bs : List Bool) (cz : NL) : List Bool := [!nm.toList.isEmpty, g, !az.isEmpty, !ws.isEmpty, decide (0 < ks.len), !bs.isEmpty, decide (0 < cz.len)]
/-- Has a row of signs this one among its first k? -/
theorem any_snoc (l : List UInt8) (c : UInt8) (k : Nat) (h : k < l.length) : (l.take (k + 1)).any (· == c) = ((l.take k).any (· == c) || l[k] == c) := by
  rw [List.take_succ_eq_append_getElem h, List.any_append]; simp
theorem none_step (has : List Bool) (but : List UInt8) (i : Nat) (h : i < 7) (hs : ((List.range i).all fun i => !(has.getD i false) || but.any (· == sigs.getD i 0)) = true) (h2 : (!(has.getD i false) || but.any (· == sigs.getD i 0)) = true) : ((List.range (i + 1)).all fun i => !(has.getD i false) || but.any (· == sigs.getD i 0)) = true := by
  rw [List.range_succ, List.all_append, hs]; simpa using h2
theorem none_miss (has : List Bool) (but : List UInt8) (i : Nat) (h : i < 7) (h2 : (!(has.getD i false) || but.any (· == sigs.getD i 0)) = false) : noneL has but = false := by
  unfold noneL
  rw [List.all_eq_false]
  exact ⟨i, by simpa using h, by rw [h2]; simp⟩

set_option maxHeartbeats 1600000 in
set_option maxRecDepth 100000 in
theorem none_loop (has : List Bool) (but : ByteArray) (hbut : but.size ≤ 100) (b : Nat) (w0 w : World) (hw : Below w0.heap.size w0 w) (hc : ∀ j, j < 7 → w.cell? ⟨b, j, none⟩ = some (.bool (has.getD j false))) : True := trivial
set_option maxHeartbeats 1600000 in
set_option maxRecDepth 100000 in
theorem none_any (k : Int) (nm : ByteArray) (g : Bool) (az : List (ByteArray × PL)) (ws : List PL) (ks : NL) (bs : List Bool) (cz : NL) (x1 : Option Addr) (d1 : Nat) (x2 : Option Addr) (d2 : Nat) (x3 : Option Addr) (d3 : Nat) (x4 : Option Addr) (d4 : Nat) (x5 : Option Addr) (d5 : Nat) (but : ByteArray) (hbut : but.size ≤ 100) (w : World) (h : Holds w nm az ws ks bs cz x1 d1 x2 d2 x3 d3 x4 d4 x5 d5) : Calls Tryz.prog 66 #[.agg (nodeV k nm g x1 az.length d1 x2 ws.length d2 x3 ks.len d3 x4 bs.length d4 x5 cz.len d5), .string but] w fun e w' => e = .returned (.bool (noneL (hasN nm g az ws ks bs cz) but.data.toList)) ∧ Below w.heap.size w w' := by
  have l1 := h.haz.le; have l2 := h.hws.le; have l3 := h.hks.le; have l4 := h.hbs.le; have l5 := h.hcs.le
  clear h
  have pos : ∀ n : Nat, ∃ B : Bool, decide (0 < n) = B ∧ ((0 < n) = (B = true)) := fun n => ⟨_, rfl, by simp⟩
  have e1 : ∀ {T : Type} (l : List T), (!l.isEmpty) = decide (0 < l.length) := fun l => by cases l <;> simp
  unfold hasN
  rw [e1 az, e1 ws, e1 bs]
  obtain ⟨B1, h1, q1⟩ := pos az.length
  obtain ⟨B2, h2, q2⟩ := pos ws.length
  obtain ⟨B3, h3, q3⟩ := pos ks.len
  obtain ⟨B4, h4, q4⟩ := pos bs.length
  obtain ⟨B5, h5, q5⟩ := pos cz.len
  rw [h1, h2, h3, h4, h5]
  clear h1 h2 h3 h4 h5
  unfold nodeV
  generalize az.length = n1 at *
  generalize ws.length = n2 at *
  generalize ks.len = n3 at *
  generalize bs.length = n4 at *
  generalize cz.len = n5 at *
  generalize hE : nm.toList.isEmpty = E
  generalize hHas : [!E, g, B1, B2, B3, B4, B5] = has
  have HHAS := Lib.hid hHas
  clear hHas
  go_enter Tryz.func66, Tryz.ntmps66
  go_wp2_with fail
  all_goals
    have hcl : ∀ j, j < 7 → ((w.alloc (.cells #[.int .i64 k, .string nm, .bool g, .slice x1 n1 d1, .slice x2 n2 d2, .slice x3 n3 d3, .slice x4 n4 d4, .slice x5 n5 d5] 28)).alloc (.cells #[.bool !E, .bool g, .bool B1, .bool B2, .bool B3, .bool B4, .bool B5] 4)).cell? ⟨w.heap.size + 1, j, none⟩ = some (.bool ([!E, g, B1, B2, B3, B4, B5].getD j false)) := by
      intro j hj
      have hr := heap_new' (w.alloc (.cells #[.int .i64 k, .string nm, .bool g, .slice x1 n1 d1, .slice x2 n2 d2, .slice x3 n3 d3, .slice x4 n4 d4, .slice x5 n5 d5] 28)) (.cells #[.bool !E, .bool g, .bool B1, .bool B2, .bool B3, .bool B4, .bool B5] 4)
      rw [World.size_alloc] at hr
      have hc := Lib.cell_of_heap hr j
      rw [hc]
      match j, hj with
      | 0, _ => rfl | 1, _ => rfl | 2, _ => rfl | 3, _ => rfl | 4, _ => rfl | 5, _ => rfl | 6, _ => rfl | n + 7, h => omega
    have hb2 := bel2 w (.cells #[.int .i64 k, .string nm, .bool g, .slice x1 n1 d1, .slice x2 n2 d2, .slice x3 n3 d3, .slice x4 n4 d4, .slice x5 n5 d5] 28) (.cells #[.bool !E, .bool g, .bool B1, .bool B2, .bool B3, .bool B4, .bool B5] 4)
    generalize ((w.alloc (.cells #[.int .i64 k, .string nm, .bool g, .slice x1 n1 d1, .slice x2 n2 d2, .slice x3 n3 d3, .slice x4 n4 d4, .slice x5 n5 d5] 28)).alloc (.cells #[.bool !E, .bool g, .bool B1, .bool B2, .bool B3, .bool B4, .bool B5] 4)) = W2 at hcl hb2 ⊢
    rw [HHAS.out] at hcl
    have HCL := Lib.hid hcl; have HB2 := Lib.hid hb2
    clear hcl hb2
    try clear hE
    have hbl : but.data.toList.length = but.size := lenB but
    have HBL := Lib.hid hbl
    clear hbl
    go_loopw [38] (fun x wr => ∃ i : Nat, i ≤ 7 ∧ x = .int .i64 i ∧ ((List.range i).all fun i => !(has.getD i false) || but.data.toList.any (· == sigs.getD i 0)) = true ∧ Below W2.heap.size W2 wr) (fun x wr => 7 - (intOf x).toNat)
    case atStart => exact ⟨0, by omega, rfl, rfl, Below.refl _ _⟩
    case round =>
      obtain ⟨i, hi, rfl, hr, hbw⟩ := hrel
      have HR := Lib.hid hr; have HW := Lib.hid hbw
      clear hr hbw
      by_cases hlt : i < 7
      · have cb := cell_below HW.out (HCL.out i hlt)
        have hltI : ((i : Int) < 7) = True := by simp; omega
        generalize hgb : has.getD i false = b at cb
        have HGB := Lib.hid hgb
        clear hgb
        go_wp2_with fail
        go_loopw [8, 9] (fun y x wq => ∃ m : Nat, m ≤ but.size ∧ x = .int .i64 m ∧ y = .bool ((but.data.toList.take m).any (· == sigs.getD i 0)) ∧ Below wr.heap.size wr wq) (fun y x wq => but.size - (intOf x).toNat)
        case atStart => exact ⟨0, by omega, rfl, rfl, Below.refl _ _⟩
        case round =>
          obtain ⟨m, hm, rfl, rfl, hbq⟩ := hrel
          have HQ := Lib.hid hbq
          clear hbq
          by_cases hl2 : m < but.size
          · have hsn := any_snoc but.data.toList (sigs.getD i 0) m (by rw [HBL.out]; exact hl2)
            generalize (but.data.toList.take m).any (· == sigs.getD i 0) = Y at hsn ⊢
            have HSN := Lib.hid hsn
            clear hsn
            cases Y
            · go_wp2_with fail
              refine Qu.region (by kernel_rfl) (by kernel_rfl) ?_
              repeat (first
                | (first | refine Qu.carry0 rfl (fun K hK => ?_) | refine Qu.carryG rfl rfl rfl (fun K hK => ?_)
                   go_simp
                   first
                   | (refine hK _ ?_; clear hK K)
                   | (apply Exists.intro; refine ⟨fun _ => ?_, hK _ ?_⟩; fail; clear hK K))
                | (refine Qu.passG rfl rfl rfl (fun K hK => ?_); go_simp; refine hK _ ?_; clear hK K))
              refine Qu.fin ?_
              rintro ⟨dq, osq⟩
              go_wp2_with fail
              go_roundw
              case rel =>
                refine ⟨m + 1, by omega, by go_num, ?_, ?_⟩
                · exact congrArg Value.bool (by rw [HSN.out, cmp8, sig_at, getB hl2]; simp [List.getD_eq_getElem?_getD, hl2])
                · exact thru HQ.out (below_regrown wr dq osq)
              case measure => simp [intOf]; omega
            · go_wp2_with fail
              refine Qu.region (by kernel_rfl) (by kernel_rfl) ?_
              repeat (first
                | (first | refine Qu.carry0 rfl (fun K hK => ?_) | refine Qu.carryG rfl rfl rfl (fun K hK => ?_)
                   go_simp
                   first
                   | (refine hK _ ?_; clear hK K)
                   | (apply Exists.intro; refine ⟨fun _ => ?_, hK _ ?_⟩; fail; clear hK K))
                | (refine Qu.passG rfl rfl rfl (fun K hK => ?_); go_simp; refine hK _ ?_; clear hK K))
              refine Qu.fin ?_
              rintro ⟨dq, osq⟩
              go_wp2_with fail
              go_roundw
              case rel =>
                refine ⟨m + 1, by omega, by go_num, ?_, ?_⟩
                · exact congrArg Value.bool (by rw [HSN.out]; rfl)
                · exact thru HQ.out (below_regrown wr dq osq)
              case measure => simp [intOf]; omega
          · obtain rfl : m = but.size := by omega
            have hY : (but.data.toList.take but.size).any (· == sigs.getD i 0) = but.data.toList.any (· == sigs.getD i 0) := by rw [← HBL.out, List.take_length]
            rw [hY]
            generalize hX : but.data.toList.any (· == sigs.getD i 0) = X
            have HX := Lib.hid hX
            clear hY hX
            cases b <;> cases X
            · go_wp2_with fail
              exact ⟨⟨i + 1, by omega, by go_num, none_step has _ i hlt HR.out (by rw [HGB.out]; rfl), thru HW.out HQ.out⟩, by simp [intOf]; omega⟩
            · go_wp2_with fail
              exact ⟨⟨i + 1, by omega, by go_num, none_step has _ i hlt HR.out (by rw [HGB.out]; rfl), thru HW.out HQ.out⟩, by simp [intOf]; omega⟩
            · go_wp2_with fail
              go_ret
              exact ⟨ret_bool (none_miss has _ i hlt (by rw [HGB.out, HX.out]; rfl)).symm, thru HB2.out (thru HW.out HQ.out)⟩
            · go_wp2_with fail
              exact ⟨⟨i + 1, by omega, by go_num, none_step has _ i hlt HR.out (by rw [HGB.out, HX.out]; rfl), thru HW.out HQ.out⟩, by simp [intOf]; omega⟩
      · obtain rfl : i = 7 := by omega
        go_wp2_with fail
        go_ret
        exact ⟨ret_bool HR.out.symm, thru HB2.out HW.out⟩
end Tr
end Go.Proofs.YtgdjeemmklmpfaaGreat
