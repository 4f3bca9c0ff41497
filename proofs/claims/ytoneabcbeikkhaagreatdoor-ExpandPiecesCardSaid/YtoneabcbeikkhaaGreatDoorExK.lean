/- The reference's among, values, empty. -/
import Derived.Test.YtoneabcbeikkhaaGreatDoorExJ
namespace Go.Proofs.YtoneabcbeikkhaaGreatDoor
open Go.RowKit Cls
namespace Ex
open Vr (St val Prs)
open Fld (Pc bs tx joinS cutP joinP weight Pcs pcells)
open Pt (PL Lies)
theorem one_pieceH {w : World} {H : Nat} (h : w.heap.size = H) (t : ByteArray) (q c : Bool) : Pcs (w.alloc (.cells #[.string t, .bool q, .bool c] 69)) (some ⟨H, 0, none⟩) [(t, q, c)] := by subst h; exact Fld.one_piece w t q c
set_option maxHeartbeats 400000 in
theorem ramong_any (n : Nat) (s : ByteArray) (w : World) (hs : s.size ≤ 9223372036854775807) :
    Calls Tryz.prog 51 #[.int .u8 n, .string s] w fun e w' => e = .returned (.bool (hasC s n)) ∧ w = w' := by
  show Calls _ _ _ _ fun e w' => e = .returned (.bool (amongB n s.data.toList)) ∧ w = w'
  go_enter Tryz.func51, Tryz.ntmps51
  go_wp2
  go_loop [5] (fun i => ∃ k : Nat, k ≤ s.size ∧ i = .int .i64 k ∧ amongB n (s.data.toList.take k) = false) (fun i => s.size - (intOf i).toNat)
  case atStart => exact ⟨0, Nat.zero_le _, rfl, rfl⟩
  case round =>
    obtain ⟨k, hk, rfl, hr⟩ := hrel
    have HR := Lib.hid hr; clear hr
    by_cases hlt : k < s.size
    · have hlt' : k < s.data.toList.length := by simpa using hlt
      by_cases hn : s[k].toNat = n
      · have hb : ((s[k].toNat : Int) == (n : Int)) = true := by simp [hn]
        have HN := Lib.hid hn; clear hn
        go_wp2
        go_ret
        exact ⟨ret_bool (among_hit hlt' (by rw [← getB hlt]; exact HN.out)).symm, rfl⟩
      · have hb : ((s[k].toNat : Int) == (n : Int)) = false := by simp; omega
        have HN := Lib.hid hn; clear hn
        go_wp2
        go_round
        case rel => exact ⟨k + 1, by omega, by go_num, among_snoc HR.out hlt' (by rw [← getB hlt]; exact HN.out)⟩
        case measure => simp [intOf]; omega
    · go_wp2
      go_ret
      exact ⟨ret_bool (by rw [← HR.out, List.take_of_length_le (by simp; omega)]), rfl⟩
def SBj (vv av : Value) (s : St) : Obj := .cells #[vv, av, .int .i64 s.st, .int .i64 s.la] 25
/-- A scope by value. -/
abbrev sv (vv av : Value) (s : St) : Value := .agg #[vv, av, .int .i64 s.st, .int .i64 s.la]
/-- Pieces' value. -/
def Pv (w : World) (v : Value) (L : List Pc) : Prop := ∃ a c, v = .slice a L.length c ∧ Pcs w a L ∧ (a = none → c = 0)
theorem Pv.ofOwn {w : World} {base : Nat} {T : TypeId} {v : Value} {n : Nat} {xs : List Value} {l : List Pc} (h : w.ownsRow base T 3 v n xs) (hn : n = l.length) (hx : xs = pcells l) : Pv w v l := by
  subst hn; subst hx
  obtain ⟨a, c, e, hp⟩ := Fld.pcs_own h rfl rfl
  refine ⟨a, c, e, hp, ?_⟩
  obtain ⟨a3, c3, e3, e4⟩ := Fld.own_len h
  rw [e] at e3
  injection e3 with e5 e6 e7
  subst e5; subst e7; exact e4
theorem Pv.stay {w w' : World} {v : Value} {L : List Pc} (h : Pv w v L) (hb : Below w.heap.size w w') : Pv w' v L := by
  obtain ⟨a, c, e, hp, hn⟩ := h
  exact ⟨a, c, e, hp.below hb, hn⟩
/-- What the reference asks of a scope. -/
structure REnv (w : World) (s : St) (vv av : Value) : Prop where
  p : Prs w vv s.vs
  a : Vr.Txt w av s.args
  f : Vr.Fit s
  j : (Vr.joinB s.args).length ≤ 4194304
theorem REnv.stay {w w' : World} {s : St} {vv av : Value} (h : REnv w s vv av) (hb : Below w.heap.size w w') : REnv w' s vv av := ⟨h.p.stay hb, h.a.stay hb, h.f, h.j⟩
theorem REnv.shape {w : World} {s : St} {vv av : Value} (h : REnv w s vv av) : (∃ a n c, vv = .slice a n c) ∧ ∃ a n c, av = .slice a n c := ⟨h.p.shape, h.a.shape⟩
set_option maxHeartbeats 1000000 in
theorem rempty_any (L : List Pc) (v : Value) (q : Bool) (w : World) (h : Pv w v L) :
    Calls Tryz.prog 52 #[v, .bool q] w fun e w' => ∃ v', e = .returned v' ∧ Pv w' v' (emptyP L q) ∧ Below w.heap.size w w' := by
  have H := Lib.hid h
  obtain ⟨a, c, rfl, _, _⟩ := h
  by_cases hL : L = [] ∧ q = true
  · obtain ⟨rfl, rfl⟩ := hL
    simp only [List.length_nil]
    go_enter Tryz.func52, Tryz.ntmps52
    go_wp2_with fail
    go_ret
    exact ⟨_, rfl, Pv.ofOwn (l := [(tx [], true, false)]) (one_own w (tx []) true false) rfl rfl, Fld.below_alloc w _⟩
  · have hE : emptyP L q = L := by
      unfold emptyP
      cases L with
      | nil => cases q with
        | false => rfl
        | true => exact absurd ⟨rfl, rfl⟩ hL
      | cons => rfl
    rw [hE]
    have HE := Lib.hid hE
    clear hE
    by_cases h0 : L.length = 0
    · cases q with
      | true => exact absurd ⟨List.length_eq_zero_iff.1 h0, rfl⟩ hL
      | false =>
        clear hL
        go_enter Tryz.func52, Tryz.ntmps52
        go_wp2_with fail
        all_goals
          go_ret
          exact ⟨_, rfl, H.out, Below.refl _ _⟩
    · clear hL
      go_enter Tryz.func52, Tryz.ntmps52
      go_wp2_with fail
      all_goals
        go_ret
        exact ⟨_, rfl, H.out, Below.refl _ _⟩
abbrev W2r (w : World) (vv av : Value) (s : St) (k : Int) (qq : Bool) (t o : ByteArray) (a : Option Addr) (n c : Nat) : World := (w.alloc (SBj vv av s)).alloc (PBj k qq t o a n c)
theorem twor_bel (w : World) (vv av : Value) (s : St) (k : Int) (qq : Bool) (t o : ByteArray) (a : Option Addr) (n c : Nat) : Below w.heap.size w (W2r w vv av s k qq t o a n c) := (Fld.below_alloc w _).trans ((Fld.below_alloc _ _).mono (Fld.below_alloc w _).size)
theorem twor_scope (w : World) (vv av : Value) (s : St) (k : Int) (qq : Bool) (t o : ByteArray) (a : Option Addr) (n c : Nat) : (W2r w vv av s k qq t o a n c).heap[w.heap.size]? = some (.cells #[vv, av, .int .i64 s.st, .int .i64 s.la] 25 (0, 0)) :=
  (Below.heap_alloc _ _ _ (by simp [World.size_alloc])).trans (heap_alloc_new w _)
theorem twor_part (w : World) (vv av : Value) (s : St) (k : Int) (qq : Bool) (t o : ByteArray) (a : Option Addr) (n c : Nat) : (W2r w vv av s k qq t o a n c).heap[w.heap.size + 1]? = some (.cells #[.int .i64 k, .bool qq, .string t, .string o, .slice a n c] 52 (0, 0)) := Vr.new2 w _ _
set_option maxHeartbeats 2000000 in
theorem rvalues_any (s : St) (vv av : Value) (k : Int) (qq : Bool) (t o : ByteArray) (a : Option Addr) (n c : Nat) (w : World) (h : REnv w s vv av) (hn : t.size ≤ 9223372036854775807) :
    Calls Tryz.prog 53 #[sv vv av s, Pt.pv k qq t o a n c] w fun e w' => ∃ v', e = .returned v' ∧ Pv w' v' (valuesP s qq t) ∧ Below w.heap.size w w' := by
  obtain ⟨⟨a1, n1, c1, rfl⟩, ⟨a2, n2, c2, rfl⟩⟩ := h.shape
  have HB0 := Lib.hid (twor_bel w (.slice a1 n1 c1) (.slice a2 n2 c2) s k qq t o a n c)
  have HE := Lib.hid (h.stay HB0.out)
  have HS0 := Lib.hid (twor_scope w (.slice a1 n1 c1) (.slice a2 n2 c2) s k qq t o a n c)
  have HP0 := Lib.hid (twor_part w (.slice a1 n1 c1) (.slice a2 n2 c2) s k qq t o a n c)
  have HV := Lib.hid (Vr.rget_any s t _ _ _ HE.out.p HE.out.a HE.out.f HE.out.j hn)
  clear h
  unfold Pt.pv
  cases hv : val s t with
  | none =>
    rw [hv] at HV
    have hvl : valuesP s qq t = [] := by unfold valuesP; rw [hv]
    rw [hvl]
    have HX := Lib.hid hv
    clear hv hvl
    go_enter Tryz.func53, Tryz.ntmps53
    go_wp2_with fail
    refine HV.out.mono ?_
    rintro e w1 ⟨rfl, hb1⟩
    have HB1 := Lib.hid (HB0.out.trans (hb1.mono HB0.out.size))
    clear hb1
    go_wp2_with fail
    go_ret
    exact ⟨_, rfl, ⟨_, _, rfl, .inl rfl, fun h => by cases h⟩, HB1.out.trans ((Fld.below_alloc w1 _).mono HB1.out.size)⟩
  | some v =>
    rw [hv] at HV
    have HX := Lib.hid hv
    clear hv
    cases hap : apart t qq
    · have hvl : valuesP s qq t = [(v, qq, false)] := by unfold valuesP; rw [HX.out]; simp only [hap, cond_false]
      rw [hvl]
      clear hvl
      have h64 : bs t ≠ [64] := fun e => by simp [apart, e] at hap
      have e1 : (t.toList == [64]) = false := by rw [Vr.tests]; exact beq_eq_false_iff_ne.2 h64
      have e1' : (t.toList != [64]) = true := by rw [bne, e1]; rfl
      cases qq with
      | false =>
        have h42 : bs t ≠ [42] := fun e => by simp [apart, e] at hap
        have e2 : (t.toList == [42]) = false := by rw [Vr.tests]; exact beq_eq_false_iff_ne.2 h42
        have e2' : (t.toList != [42]) = true := by rw [bne, e2]; rfl
        clear hap h64 h42
        go_enter Tryz.func53, Tryz.ntmps53
        go_wp2_with fail
        refine HV.out.mono ?_
        rintro e w1 ⟨rfl, hb1⟩
        have HP1 := Lib.hid (bel_block hb1 HP0.out)
        have HS1 := Lib.hid (bel_block hb1 HS0.out)
        have HB1 := Lib.hid (HB0.out.trans (hb1.mono HB0.out.size))
        have HBa := Lib.hid (Fld.below_alloc w1 (.cells #[] 69))
        have HBx := Lib.hid (HB1.out.trans (HBa.out.mono HB1.out.size))
        have HPa := Lib.hid (bel_block HBa.out HP1.out)
        have HSa := Lib.hid (bel_block HBa.out HS1.out)
        have p1 : (w1.alloc (.cells #[] 69)).cell? ⟨w.heap.size + 1, 1, none⟩ = some (.bool false) := Lib.cell_of_heap HPa.out 1
        have p2 : (w1.alloc (.cells #[] 69)).cell? ⟨w.heap.size + 1, 2, none⟩ = some (.string t) := Lib.cell_of_heap HPa.out 2
        have p4 : (w1.alloc (.cells #[] 69)).cell? ⟨w.heap.size, 1, none⟩ = some (.slice a2 n2 c2) := Lib.cell_of_heap HSa.out 1
        have HO := Lib.hid (World.ownsRow_made (e := 69) (size := 3) w1 #[] 0 (Nat.le_refl w1.heap.size) (Nat.zero_le _) rfl)
        have HEa := Lib.hid (HE.out.a.stay (hb1.trans (HBa.out.mono hb1.size)))
        clear hb1
        go_wp2_with (at_builtin; refine Fld.wpList_append_pcs rfl _ _ rfl w1.heap.size _ 0 [] rfl (HO.out.alloc _) (some ⟨w1.heap.size + 1, 0, none⟩) 1 [(v, false, false)] rfl (one_pieceH (by simp [World.size_alloc]) v false false) (fun h => by cases h) ?ca1 ?da1 ?ea1 ?_)
        case ca1 => exact (by decide : 0 + 1 ≤ maxLen)
        case da1 => exact (by decide : (0 + 1) * 24 ≤ 140737488355328)
        case ea1 => simp [World.size_alloc]; omega
        intro v2 w2 hown2 hg2
        have HB2 := Lib.hid (Fld.grown_below (HBx.out.alloc HBx.out.size (.cells #[.string v, .bool false, .bool false] 69)) (HO.out.alloc _) HB1.out.size hg2)
        have HO2 := Lib.hid hown2
        clear hown2 hg2
        go_wp2_with fail
        go_ret
        exact ⟨_, rfl, Pv.ofOwn (l := [(v, false, false)]) HO2.out rfl rfl, HB2.out⟩
      | true =>
        clear hap h64
        by_cases h42 : bs t = [42]
        · have e2 : (t.toList == [42]) = true := by rw [Vr.tests]; exact beq_iff_eq.2 h42
          have e2' : (t.toList != [42]) = false := by rw [bne, e2]; rfl
          clear h42
          go_enter Tryz.func53, Tryz.ntmps53
          go_wp2_with fail
          refine HV.out.mono ?_
          rintro e w1 ⟨rfl, hb1⟩
          have HP1 := Lib.hid (bel_block hb1 HP0.out)
          have HS1 := Lib.hid (bel_block hb1 HS0.out)
          have HB1 := Lib.hid (HB0.out.trans (hb1.mono HB0.out.size))
          have HBa := Lib.hid (Fld.below_alloc w1 (.cells #[] 69))
          have HBx := Lib.hid (HB1.out.trans (HBa.out.mono HB1.out.size))
          have HPa := Lib.hid (bel_block HBa.out HP1.out)
          have HSa := Lib.hid (bel_block HBa.out HS1.out)
          have p1 : (w1.alloc (.cells #[] 69)).cell? ⟨w.heap.size + 1, 1, none⟩ = some (.bool true) := Lib.cell_of_heap HPa.out 1
          have p2 : (w1.alloc (.cells #[] 69)).cell? ⟨w.heap.size + 1, 2, none⟩ = some (.string t) := Lib.cell_of_heap HPa.out 2
          have p4 : (w1.alloc (.cells #[] 69)).cell? ⟨w.heap.size, 1, none⟩ = some (.slice a2 n2 c2) := Lib.cell_of_heap HSa.out 1
          have HO := Lib.hid (World.ownsRow_made (e := 69) (size := 3) w1 #[] 0 (Nat.le_refl w1.heap.size) (Nat.zero_le _) rfl)
          have HEa := Lib.hid (HE.out.a.stay (hb1.trans (HBa.out.mono hb1.size)))
          clear hb1
          go_wp2_with (at_builtin; refine Fld.wpList_append_pcs rfl _ _ rfl w1.heap.size _ 0 [] rfl (HO.out.alloc _) (some ⟨w1.heap.size + 1, 0, none⟩) 1 [(v, true, false)] rfl (one_pieceH (by simp [World.size_alloc]) v true false) (fun h => by cases h) ?cb1 ?db1 ?eb1 ?_)
          case cb1 => exact (by decide : 0 + 1 ≤ maxLen)
          case db1 => exact (by decide : (0 + 1) * 24 ≤ 140737488355328)
          case eb1 => simp [World.size_alloc]; omega
          intro v2 w2 hown2 hg2
          have HB2 := Lib.hid (Fld.grown_below (HBx.out.alloc HBx.out.size (.cells #[.string v, .bool true, .bool false] 69)) (HO.out.alloc _) HB1.out.size hg2)
          have HO2 := Lib.hid hown2
          clear hown2 hg2
          go_wp2_with fail
          go_ret
          exact ⟨_, rfl, Pv.ofOwn (l := [(v, true, false)]) HO2.out rfl rfl, HB2.out⟩
        · have e2 : (t.toList == [42]) = false := by rw [Vr.tests]; exact beq_eq_false_iff_ne.2 h42
          have e2' : (t.toList != [42]) = true := by rw [bne, e2]; rfl
          clear h42
          go_enter Tryz.func53, Tryz.ntmps53
          go_wp2_with fail
          refine HV.out.mono ?_
          rintro e w1 ⟨rfl, hb1⟩
          have HP1 := Lib.hid (bel_block hb1 HP0.out)
          have HS1 := Lib.hid (bel_block hb1 HS0.out)
          have HB1 := Lib.hid (HB0.out.trans (hb1.mono HB0.out.size))
          have HBa := Lib.hid (Fld.below_alloc w1 (.cells #[] 69))
          have HBx := Lib.hid (HB1.out.trans (HBa.out.mono HB1.out.size))
          have HPa := Lib.hid (bel_block HBa.out HP1.out)
          have HSa := Lib.hid (bel_block HBa.out HS1.out)
          have p1 : (w1.alloc (.cells #[] 69)).cell? ⟨w.heap.size + 1, 1, none⟩ = some (.bool true) := Lib.cell_of_heap HPa.out 1
          have p2 : (w1.alloc (.cells #[] 69)).cell? ⟨w.heap.size + 1, 2, none⟩ = some (.string t) := Lib.cell_of_heap HPa.out 2
          have p4 : (w1.alloc (.cells #[] 69)).cell? ⟨w.heap.size, 1, none⟩ = some (.slice a2 n2 c2) := Lib.cell_of_heap HSa.out 1
          have HO := Lib.hid (World.ownsRow_made (e := 69) (size := 3) w1 #[] 0 (Nat.le_refl w1.heap.size) (Nat.zero_le _) rfl)
          have HEa := Lib.hid (HE.out.a.stay (hb1.trans (HBa.out.mono hb1.size)))
          clear hb1
          go_wp2_with (at_builtin; refine Fld.wpList_append_pcs rfl _ _ rfl w1.heap.size _ 0 [] rfl (HO.out.alloc _) (some ⟨w1.heap.size + 1, 0, none⟩) 1 [(v, true, false)] rfl (one_pieceH (by simp [World.size_alloc]) v true false) (fun h => by cases h) ?cc1 ?dc1 ?ec1 ?_)
          case cc1 => exact (by decide : 0 + 1 ≤ maxLen)
          case dc1 => exact (by decide : (0 + 1) * 24 ≤ 140737488355328)
          case ec1 => simp [World.size_alloc]; omega
          intro v2 w2 hown2 hg2
          have HB2 := Lib.hid (Fld.grown_below (HBx.out.alloc HBx.out.size (.cells #[.string v, .bool true, .bool false] 69)) (HO.out.alloc _) HB1.out.size hg2)
          have HO2 := Lib.hid hown2
          clear hown2 hg2
          go_wp2_with fail
          go_ret
          exact ⟨_, rfl, Pv.ofOwn (l := [(v, true, false)]) HO2.out rfl rfl, HB2.out⟩
    · have hvl : valuesP s qq t = argsP qq s.args := by unfold valuesP; rw [HX.out]; simp only [hap, cond_true]
      rw [hvl]
      clear hvl
      have hor : bs t = [64] ∨ (bs t ≠ [64] ∧ bs t = [42] ∧ qq = false) := by
        by_cases h64 : bs t = [64]
        · exact .inl h64
        · refine .inr ⟨h64, ?_⟩
          simp only [apart, beq_eq_false_iff_ne.2 h64, Bool.false_or, Bool.and_eq_true, beq_iff_eq, Bool.not_eq_true'] at hap
          exact hap
      clear hap
      rcases hor with h64 | ⟨h64, h42, rfl⟩
      · have e1 : (t.toList == [64]) = true := by rw [Vr.tests]; exact beq_iff_eq.2 h64
        have e1' : (t.toList != [64]) = false := by rw [bne, e1]; rfl
        clear h64
        go_enter Tryz.func53, Tryz.ntmps53
        go_wp2_with fail
        refine HV.out.mono ?_
        rintro e w1 ⟨rfl, hb1⟩
        have HP1 := Lib.hid (bel_block hb1 HP0.out)
        have HS1 := Lib.hid (bel_block hb1 HS0.out)
        have HB1 := Lib.hid (HB0.out.trans (hb1.mono HB0.out.size))
        have HBa := Lib.hid (Fld.below_alloc w1 (.cells #[] 69))
        have HBx := Lib.hid (HB1.out.trans (HBa.out.mono HB1.out.size))
        have HPa := Lib.hid (bel_block HBa.out HP1.out)
        have HSa := Lib.hid (bel_block HBa.out HS1.out)
        have p1 : (w1.alloc (.cells #[] 69)).cell? ⟨w.heap.size + 1, 1, none⟩ = some (.bool qq) := Lib.cell_of_heap HPa.out 1
        have p2 : (w1.alloc (.cells #[] 69)).cell? ⟨w.heap.size + 1, 2, none⟩ = some (.string t) := Lib.cell_of_heap HPa.out 2
        have p4 : (w1.alloc (.cells #[] 69)).cell? ⟨w.heap.size, 1, none⟩ = some (.slice a2 n2 c2) := Lib.cell_of_heap HSa.out 1
        have HO := Lib.hid (World.ownsRow_made (e := 69) (size := 3) w1 #[] 0 (Nat.le_refl w1.heap.size) (Nat.zero_le _) rfl)
        have HE1 := Lib.hid (HE.out.a.stay hb1)
        clear hb1
        obtain ⟨a3, c3, e3, hcell⟩ := HE1.out.cell
        injection e3 with e4 e5 e6
        subst e4; subst e5; subst e6
        have HC := Lib.hid hcell
        have hnargs := HE.out.f.nargs
        clear hcell
        go_wp2_with fail
        go_loopw [7, 43] (fun v x wr => ∃ k : Nat, k ≤ s.args.length ∧ x = .int .i64 k ∧ wr.ownsRow w1.heap.size 69 3 v (argsP qq (s.args.take k)).length (pcells (argsP qq (s.args.take k))) ∧ Below w1.heap.size w1 wr) (fun _ x _ => s.args.length - (intOf x).toNat)
        case atStart => exact ⟨0, Nat.zero_le _, rfl, HO.out, HBa.out⟩
        case round =>
          obtain ⟨k', hk, rfl, hown, hbw⟩ := hrel
          have HB := Lib.hid hbw; have HOW := Lib.hid hown
          have hws := hbw.size
          have HPr := Lib.hid (bel_block hbw HP1.out)
          have p1r : wr.cell? ⟨w.heap.size + 1, 1, none⟩ = some (.bool qq) := Lib.cell_of_heap HPr.out 1
          clear hbw hown
          by_cases hlt : k' < s.args.length
          · have hx : s.args[k']? = some (s.args[k']'hlt) := List.getElem?_eq_getElem hlt
            obtain ⟨b, off, rfl, hb, hc⟩ := HC.out k' _ hx
            have hq := (HB.out.cell (p := ⟨b, off + k', none⟩) hb).trans hc
            clear hc hx
            have hs := argsP_snoc qq (s.args.take k') (s.args[k']'hlt)
            rw [← List.take_succ_eq_append_getElem hlt] at hs
            have hle : (argsP qq (s.args.take k')).length ≤ 2 * k' := Nat.le_trans (argsP_len _ _) (by rw [List.length_take]; omega)
            have HS := Lib.hid hs; have HLE := Lib.hid hle
            clear hs hle
            generalize s.args[k']'hlt = y at hq HS
            by_cases h0 : k' = 0
            · subst h0
              simp only [Nat.add_zero] at hq
              go_wp2_with (at_builtin; refine Fld.wpList_append_pcs rfl _ _ rfl w1.heap.size _ _ _ rfl (HOW.out.alloc _) (some ⟨wr.heap.size, 0, none⟩) 1 [(y, qq, false)] rfl (Fld.one_piece wr y qq false) (fun h => by cases h) ?la1 ?la2 ?la3 ?_)
              case la1 => exact (by decide : 0 + 1 ≤ maxLen)
              case la2 => exact (by decide : (0 + 1) * 24 ≤ 140737488355328)
              case la3 => simp [World.size_alloc]; omega
              intro v2 w2 hown2 hg2
              have HO2 := Lib.hid hown2
              have HB2 := Lib.hid (Fld.grown_below (HB.out.alloc hws (.cells #[.string y, .bool qq, .bool false] 69)) (HOW.out.alloc _) (Nat.le_refl _) hg2)
              clear hown2 hg2
              go_wp2_with fail
              go_roundw
              case rel => exact ⟨1, by omega, by go_num, by rw [show List.take 1 s.args = List.take (0 + 1) s.args from rfl, HS.out]; exact HO2.out, HB2.out⟩
              case measure => simp [intOf]; omega
            · have hpos : 0 < k' := by omega
              have he : (s.args.take k').isEmpty = false := by
                cases hh : s.args.take k' with
                | nil => exfalso; have := congrArg List.length hh; rw [List.length_take, List.length_nil] at this; omega
                | cons x r => rfl
              have HEE := Lib.hid he
              clear he
              go_wp2_with (at_builtin; refine Fld.wpList_append_pcs rfl _ _ rfl w1.heap.size _ _ _ rfl (HOW.out.alloc _) (some ⟨wr.heap.size, 0, none⟩) 1 [cutP] rfl (Fld.one_piece wr (tx []) false true) (fun h => by cases h) ?la4 ?la5 ?la6 ?_)
              case la4 => have := HLE.out; simp only [List.length_cons, List.length_nil, maxLen]; omega
              case la5 => have := HLE.out; simp only [List.length_cons, List.length_nil]; omega
              case la6 => simp [World.size_alloc]; omega
              intro v2 w2 hown2 hg2
              have HO2 := Lib.hid hown2
              have HB2 := Lib.hid (Fld.grown_below (HB.out.alloc hws (.cells #[.string (tx []), .bool false, .bool true] 69)) (HOW.out.alloc _) (Nat.le_refl _) hg2)
              have hw2 := HB2.out.size
              have HP2 := Lib.hid (bel_block HB2.out HP1.out)
              have p12 : w2.cell? ⟨w.heap.size + 1, 1, none⟩ = some (.bool qq) := Lib.cell_of_heap HP2.out 1
              clear hown2 hg2
              go_wp2_with (at_builtin; refine Fld.wpList_append_pcs rfl _ _ rfl w1.heap.size _ _ _ rfl (HO2.out.alloc _) (some ⟨w2.heap.size, 0, none⟩) 1 [(y, qq, false)] rfl (Fld.one_piece w2 y qq false) (fun h => by cases h) ?la7 ?la8 ?la9 ?_)
              case la7 => have := HLE.out; simp only [List.length_cons, List.length_nil, maxLen]; omega
              case la8 => have := HLE.out; simp only [List.length_cons, List.length_nil]; omega
              case la9 => simp [World.size_alloc]; omega
              intro v3 w3 hown3 hg3
              have HO3 := Lib.hid hown3
              have HB3 := Lib.hid (Fld.grown_below (HB2.out.alloc hw2 (.cells #[.string y, .bool qq, .bool false] 69)) (HO2.out.alloc _) (Nat.le_refl _) hg3)
              clear hown3 hg3
              go_wp2_with fail
              go_roundw
              case rel => exact ⟨k' + 1, by omega, by go_num, by
                rw [HS.out, HEE.out, cond_false, List.length_append, Fld.pcells_app]
                exact HO3.out, HB3.out⟩
              case measure => simp [intOf]; omega
          · obtain rfl : k' = s.args.length := by omega
            go_wp2_with fail
            go_ret
            have := HOW.out
            rw [List.take_length] at this
            exact ⟨_, rfl, Pv.ofOwn this rfl rfl, HB1.out.trans (HB.out.mono HB1.out.size)⟩
      · have e1 : (t.toList == [64]) = false := by rw [Vr.tests]; exact beq_eq_false_iff_ne.2 h64
        have e1' : (t.toList != [64]) = true := by rw [bne, e1]; rfl
        have e2 : (t.toList == [42]) = true := by rw [Vr.tests]; exact beq_iff_eq.2 h42
        have e2' : (t.toList != [42]) = false := by rw [bne, e2]; rfl
        clear h64 h42
        go_enter Tryz.func53, Tryz.ntmps53
        go_wp2_with fail
        refine HV.out.mono ?_
        rintro e w1 ⟨rfl, hb1⟩
        have HP1 := Lib.hid (bel_block hb1 HP0.out)
        have HS1 := Lib.hid (bel_block hb1 HS0.out)
        have HB1 := Lib.hid (HB0.out.trans (hb1.mono HB0.out.size))
        have HBa := Lib.hid (Fld.below_alloc w1 (.cells #[] 69))
        have HBx := Lib.hid (HB1.out.trans (HBa.out.mono HB1.out.size))
        have HPa := Lib.hid (bel_block HBa.out HP1.out)
        have HSa := Lib.hid (bel_block HBa.out HS1.out)
        have p1 : (w1.alloc (.cells #[] 69)).cell? ⟨w.heap.size + 1, 1, none⟩ = some (.bool false) := Lib.cell_of_heap HPa.out 1
        have p2 : (w1.alloc (.cells #[] 69)).cell? ⟨w.heap.size + 1, 2, none⟩ = some (.string t) := Lib.cell_of_heap HPa.out 2
        have p4 : (w1.alloc (.cells #[] 69)).cell? ⟨w.heap.size, 1, none⟩ = some (.slice a2 n2 c2) := Lib.cell_of_heap HSa.out 1
        have HO := Lib.hid (World.ownsRow_made (e := 69) (size := 3) w1 #[] 0 (Nat.le_refl w1.heap.size) (Nat.zero_le _) rfl)
        have HE1 := Lib.hid (HE.out.a.stay hb1)
        clear hb1
        obtain ⟨a3, c3, e3, hcell⟩ := HE1.out.cell
        injection e3 with e4 e5 e6
        subst e4; subst e5; subst e6
        have HC := Lib.hid hcell
        have hnargs := HE.out.f.nargs
        clear hcell
        go_wp2_with fail
        go_loopw [7, 43] (fun v x wr => ∃ k : Nat, k ≤ s.args.length ∧ x = .int .i64 k ∧ wr.ownsRow w1.heap.size 69 3 v (argsP false (s.args.take k)).length (pcells (argsP false (s.args.take k))) ∧ Below w1.heap.size w1 wr) (fun _ x _ => s.args.length - (intOf x).toNat)
        case atStart => exact ⟨0, Nat.zero_le _, rfl, HO.out, HBa.out⟩
        case round =>
          obtain ⟨k', hk, rfl, hown, hbw⟩ := hrel
          have HB := Lib.hid hbw; have HOW := Lib.hid hown
          have hws := hbw.size
          have HPr := Lib.hid (bel_block hbw HP1.out)
          have p1r : wr.cell? ⟨w.heap.size + 1, 1, none⟩ = some (.bool false) := Lib.cell_of_heap HPr.out 1
          clear hbw hown
          by_cases hlt : k' < s.args.length
          · have hx : s.args[k']? = some (s.args[k']'hlt) := List.getElem?_eq_getElem hlt
            obtain ⟨b, off, rfl, hb, hc⟩ := HC.out k' _ hx
            have hq := (HB.out.cell (p := ⟨b, off + k', none⟩) hb).trans hc
            clear hc hx
            have hs := argsP_snoc false (s.args.take k') (s.args[k']'hlt)
            rw [← List.take_succ_eq_append_getElem hlt] at hs
            have hle : (argsP false (s.args.take k')).length ≤ 2 * k' := Nat.le_trans (argsP_len _ _) (by rw [List.length_take]; omega)
            have HS := Lib.hid hs; have HLE := Lib.hid hle
            clear hs hle
            generalize s.args[k']'hlt = y at hq HS
            by_cases h0 : k' = 0
            · subst h0
              simp only [Nat.add_zero] at hq
              go_wp2_with (at_builtin; refine Fld.wpList_append_pcs rfl _ _ rfl w1.heap.size _ _ _ rfl (HOW.out.alloc _) (some ⟨wr.heap.size, 0, none⟩) 1 [(y, false, false)] rfl (Fld.one_piece wr y false false) (fun h => by cases h) ?lb1 ?lb2 ?lb3 ?_)
              case lb1 => exact (by decide : 0 + 1 ≤ maxLen)
              case lb2 => exact (by decide : (0 + 1) * 24 ≤ 140737488355328)
              case lb3 => simp [World.size_alloc]; omega
              intro v2 w2 hown2 hg2
              have HO2 := Lib.hid hown2
              have HB2 := Lib.hid (Fld.grown_below (HB.out.alloc hws (.cells #[.string y, .bool false, .bool false] 69)) (HOW.out.alloc _) (Nat.le_refl _) hg2)
              clear hown2 hg2
              go_wp2_with fail
              go_roundw
              case rel => exact ⟨1, by omega, by go_num, by rw [show List.take 1 s.args = List.take (0 + 1) s.args from rfl, HS.out]; exact HO2.out, HB2.out⟩
              case measure => simp [intOf]; omega
            · have hpos : 0 < k' := by omega
              have he : (s.args.take k').isEmpty = false := by
                cases hh : s.args.take k' with
                | nil => exfalso; have := congrArg List.length hh; rw [List.length_take, List.length_nil] at this; omega
                | cons x r => rfl
              have HEE := Lib.hid he
              clear he
              go_wp2_with (at_builtin; refine Fld.wpList_append_pcs rfl _ _ rfl w1.heap.size _ _ _ rfl (HOW.out.alloc _) (some ⟨wr.heap.size, 0, none⟩) 1 [cutP] rfl (Fld.one_piece wr (tx []) false true) (fun h => by cases h) ?lb4 ?lb5 ?lb6 ?_)
              case lb4 => have := HLE.out; simp only [List.length_cons, List.length_nil, maxLen]; omega
              case lb5 => have := HLE.out; simp only [List.length_cons, List.length_nil]; omega
              case lb6 => simp [World.size_alloc]; omega
              intro v2 w2 hown2 hg2
              have HO2 := Lib.hid hown2
              have HB2 := Lib.hid (Fld.grown_below (HB.out.alloc hws (.cells #[.string (tx []), .bool false, .bool true] 69)) (HOW.out.alloc _) (Nat.le_refl _) hg2)
              have hw2 := HB2.out.size
              have HP2 := Lib.hid (bel_block HB2.out HP1.out)
              have p12 : w2.cell? ⟨w.heap.size + 1, 1, none⟩ = some (.bool false) := Lib.cell_of_heap HP2.out 1
              clear hown2 hg2
              go_wp2_with (at_builtin; refine Fld.wpList_append_pcs rfl _ _ rfl w1.heap.size _ _ _ rfl (HO2.out.alloc _) (some ⟨w2.heap.size, 0, none⟩) 1 [(y, false, false)] rfl (Fld.one_piece w2 y false false) (fun h => by cases h) ?lb7 ?lb8 ?lb9 ?_)
              case lb7 => have := HLE.out; simp only [List.length_cons, List.length_nil, maxLen]; omega
              case lb8 => have := HLE.out; simp only [List.length_cons, List.length_nil]; omega
              case lb9 => simp [World.size_alloc]; omega
              intro v3 w3 hown3 hg3
              have HO3 := Lib.hid hown3
              have HB3 := Lib.hid (Fld.grown_below (HB2.out.alloc hw2 (.cells #[.string y, .bool false, .bool false] 69)) (HO2.out.alloc _) (Nat.le_refl _) hg3)
              clear hown3 hg3
              go_wp2_with fail
              go_roundw
              case rel => exact ⟨k' + 1, by omega, by go_num, by
                rw [HS.out, HEE.out, cond_false, List.length_append, Fld.pcells_app]
                exact HO3.out, HB3.out⟩
              case measure => simp [intOf]; omega
          · obtain rfl : k' = s.args.length := by omega
            go_wp2_with fail
            go_ret
            have := HOW.out
            rw [List.take_length] at this
            exact ⟨_, rfl, Pv.ofOwn this rfl rfl, HB1.out.trans (HB.out.mono HB1.out.size)⟩
end Ex
end Go.Proofs.YtoneabcbeikkhaaGreatDoor
