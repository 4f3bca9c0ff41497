/- Nodes with memory of their own. -/
import Derived.Test.YtmpongcambbihaaTrOe
import Derived.Test.YtmpongcambbihaaTrW
namespace Go.Proofs.Ytmpongcambbihaa
open Go.RowKit Go.Sort
namespace Ow
open Cls Pt Tr

structure NodeD where
  k : Int
  nm : ByteArray
  g : Bool
  az : List (ByteArray × PL)
  ws : List PL
  ks : NL
  bs : List Bool
  cz : NL
def nodeAt : NL → Nat → Option NodeD
  | .node k nm g az ws ks bs cz _, 0 => some ⟨k, nm, g, az, ws, ks, bs, cz⟩
  | .node _ _ _ _ _ _ _ _ r, j + 1 => nodeAt r j
  | .cse _ _ r, j + 1 => nodeAt r j
  | _, _ => none
def caseAt : NL → Nat → Option (List PL × NL)
  | .cse ps b _, 0 => some (ps, b)
  | .node _ _ _ _ _ _ _ _ r, j + 1 => caseAt r j
  | .cse _ _ r, j + 1 => caseAt r j
  | _, _ => none
theorem nodeAt_drop : ∀ {j : Nat} {l r ks cz : NL} {k : Int} {nm : ByteArray} {g : Bool} {az : List (ByteArray × PL)} {ws : List PL} {bs : List Bool}, l.drop j = .node k nm g az ws ks bs cz r → nodeAt l j = some ⟨k, nm, g, az, ws, ks, bs, cz⟩
  | 0, _, _, _, _, _, _, _, _, _, _, h => by simp only [NL.drop] at h; subst h; rfl
  | j + 1, .nil, _, _, _, _, _, _, _, _, _, h => by simp [NL.drop] at h
  | j + 1, .node _ _ _ _ _ _ _ _ r, _, _, _, _, _, _, _, _, _, h => by simp only [NL.drop] at h; exact nodeAt_drop (j := j) (l := r) h
  | j + 1, .cse _ _ r, _, _, _, _, _, _, _, _, _, h => by simp only [NL.drop] at h; exact nodeAt_drop (j := j) (l := r) h
theorem caseAt_drop : ∀ {j : Nat} {l r b : NL} {ps : List PL}, l.drop j = .cse ps b r → caseAt l j = some (ps, b)
  | 0, _, _, _, _, h => by simp only [NL.drop] at h; subst h; rfl
  | j + 1, .nil, _, _, _, h => by simp [NL.drop] at h
  | j + 1, .node _ _ _ _ _ _ _ _ r, _, _, _, h => by simp only [NL.drop] at h; exact caseAt_drop (j := j) (l := r) h
  | j + 1, .cse _ _ r, _, _, _, h => by simp only [NL.drop] at h; exact caseAt_drop (j := j) (l := r) h
/-- A case, given what a node is. -/
def ECof (E : Elem NodeD) : Elem (List PL × NL) := fun w b o lo hi x => ∃ m a1 c1 a2 c2, w.cell? ⟨b, o, none⟩ = some (.slice a1 x.1.length c1) ∧ w.cell? ⟨b, o + 1, none⟩ = some (.slice a2 x.2.len c2) ∧
  OwnR 1 EW (fun i => x.1[i]?) w lo m a1 c1 x.1.length ∧ OwnR 8 E (nodeAt x.2) w m hi a2 c2 x.2.len
theorem stable_EC {E : Elem NodeD} (hE : Stable 8 E) : Stable 2 (ECof E) := by
  refine ⟨?_, ?_, ?_⟩
  · rintro w w' b o lo hi x ⟨m, a1, c1, a2, c2, h0, h1, h2, h3⟩ hc hb
    have l1 := h2.2.2.1
    have l2 := h3.2.2.1
    exact ⟨m, a1, c1, a2, c2, (hc 0 (by decide)).trans h0, (hc 1 (by decide)).trans h1, h2.keep stable_EW fun c p q => hb c p (by omega), h3.keep hE fun c p q => hb c (by omega) q⟩
  · rintro w b o lo hi x ⟨m, a1, c1, a2, c2, h0, h1, h2, h3⟩
    exact Nat.le_trans h2.2.2.1 h3.2.2.1
  · rintro w b o lo lo' hi x ⟨m, a1, c1, a2, c2, h0, h1, h2, h3⟩ hl
    exact ⟨m, a1, c1, a2, c2, h0, h1, h2.low hl, h3⟩
/-- A node with memory of its own; so deep at the most. -/
def EN : Nat → Elem NodeD
  | 0 => fun _ _ _ _ _ _ => False
  | n + 1 => fun w b o lo hi d => (w.cell? ⟨b, o, none⟩ = some (.int .i64 d.k) ∧ w.cell? ⟨b, o + 1, none⟩ = some (.string d.nm) ∧ w.cell? ⟨b, o + 2, none⟩ = some (.bool d.g) ∧ d.nm.size ≤ R) ∧
    ∃ m1 m2 m3 m4 a1 c1 a2 c2 a3 c3 a4 c4 a5 c5, (w.cell? ⟨b, o + 3, none⟩ = some (.slice a1 d.az.length c1) ∧ w.cell? ⟨b, o + 4, none⟩ = some (.slice a2 d.ws.length c2) ∧ w.cell? ⟨b, o + 5, none⟩ = some (.slice a3 d.ks.len c3) ∧ w.cell? ⟨b, o + 6, none⟩ = some (.slice a4 d.bs.length c4) ∧ w.cell? ⟨b, o + 7, none⟩ = some (.slice a5 d.cz.len c5)) ∧
      OwnR 2 EA (fun i => d.az[i]?) w lo m1 a1 c1 d.az.length ∧ OwnR 1 EW (fun i => d.ws[i]?) w m1 m2 a2 c2 d.ws.length ∧ OwnR 8 (EN n) (nodeAt d.ks) w m2 m3 a3 c3 d.ks.len ∧ OwnR 1 EB (fun i => d.bs[i]?) w m3 m4 a4 c4 d.bs.length ∧ OwnR 2 (ECof (EN n)) (caseAt d.cz) w m4 hi a5 c5 d.cz.len
theorem stable_EN : ∀ n, Stable 8 (EN n)
  | 0 => ⟨fun h => h.elim, fun h => h.elim, fun h => h.elim⟩
  | n + 1 => by
    have ih := stable_EN n
    refine ⟨?_, ?_, ?_⟩
    · rintro w w' b o lo hi d ⟨⟨h0, h1, h2, h3⟩, m1, m2, m3, m4, a1, c1, a2, c2, a3, c3, a4, c4, a5, c5, ⟨g1, g2, g3, g4, g5⟩, o1, o2, o3, o4, o5⟩ hc hb
      have l1 := o1.2.2.1; have l2 := o2.2.2.1; have l3 := o3.2.2.1; have l4 := o4.2.2.1; have l5 := o5.2.2.1
      exact ⟨⟨(hc 0 (by decide)).trans h0, (hc 1 (by decide)).trans h1, (hc 2 (by decide)).trans h2, h3⟩, m1, m2, m3, m4, a1, c1, a2, c2, a3, c3, a4, c4, a5, c5, ⟨(hc 3 (by decide)).trans g1, (hc 4 (by decide)).trans g2, (hc 5 (by decide)).trans g3, (hc 6 (by decide)).trans g4, (hc 7 (by decide)).trans g5⟩,
        o1.keep stable_EA fun c p q => hb c (by omega) (by omega), o2.keep stable_EW fun c p q => hb c (by omega) (by omega), o3.keep ih fun c p q => hb c (by omega) (by omega), o4.keep stable_EB fun c p q => hb c (by omega) (by omega), o5.keep (stable_EC ih) fun c p q => hb c (by omega) (by omega)⟩
    · rintro w b o lo hi d ⟨_, m1, m2, m3, m4, a1, c1, a2, c2, a3, c3, a4, c4, a5, c5, _, o1, o2, o3, o4, o5⟩
      have l1 := o1.2.2.1; have l2 := o2.2.2.1; have l3 := o3.2.2.1; have l4 := o4.2.2.1; have l5 := o5.2.2.1
      omega
    · rintro w b o lo lo' hi d ⟨h, m1, m2, m3, m4, a1, c1, a2, c2, a3, c3, a4, c4, a5, c5, g, o1, o2⟩ hl
      exact ⟨h, m1, m2, m3, m4, a1, c1, a2, c2, a3, c3, a4, c4, a5, c5, g, o1.low hl, o2⟩
theorem azB_mem {x : ByteArray × PL} : ∀ {az : List (ByteArray × PL)}, x ∈ az → Bd.bytes x.2 ≤ azB az
  | [], h => by simp at h
  | y :: r, h => by
    simp only [azB]
    rcases List.mem_cons.1 h with rfl | h
    · omega
    · have := azB_mem h
      omega
theorem wsB_len : ∀ ws : List PL, ws.length ≤ wsB ws
  | [] => Nat.le_refl _
  | _ :: r => by have := wsB_len r; simp only [wsB, List.length_cons]; omega
theorem azB_len : ∀ az : List (ByteArray × PL), az.length ≤ azB az
  | [] => Nat.le_refl _
  | _ :: r => by have := azB_len r; simp only [azB, List.length_cons]; omega

theorem info_nodes : (Try.prog.info? 28).map (fun i => (i.zero, i.size, i.bytes)) = some (some (.agg #[.int .i64 0, .string ⟨#[]⟩, .bool false, .slice none 0 0, .slice none 0 0, .slice none 0 0, .slice none 0 0, .slice none 0 0]), 8, 152) := by kernel_rfl
theorem make_nodes (n : Nat) (hn : n ≤ 1000000) : ∃ row : Array Value, row.size = n * 8 ∧ ∀ w : World, (Instr.makeSlice 24 (.int .i64 (n : Int)) (.int .i64 (n : Int))).run Try.prog w = .ok (.slice (some ⟨w.heap.size, 0, none⟩) n n) (w.alloc (.cells row 28)) := by
  obtain ⟨i, hi, hzz⟩ := Option.map_eq_some_iff.1 info_nodes
  simp only [Prod.mk.injEq] at hzz
  obtain ⟨hz, hs, hb⟩ := hzz
  refine ⟨madeCells (Value.agg #[.int .i64 0, .string ⟨#[]⟩, .bool false, .slice none 0 0, .slice none 0 0, .slice none 0 0, .slice none 0 0, .slice none 0 0]).cells (n * 8), size_madeCells _ _, fun w => ?_⟩
  have hr := run_make (P := Try.prog) w 24 28 i _ Try.underlying24 hi hz .i64 .i64 n n (by omega) (Int.le_refl _) (by rw [hb]; omega) (by omega)
  simp only [Int.toNat_natCast, hs] at hr
  exact hr

theorem info_cases : (Try.prog.info? 44).map (fun i => (i.zero, i.size, i.bytes)) = some (some (.agg #[.slice none 0 0, .slice none 0 0]), 2, 48) := by kernel_rfl
theorem make_cases (n : Nat) (hn : n ≤ 1000000) : ∃ row : Array Value, row.size = n * 2 ∧ ∀ w : World, (Instr.makeSlice 26 (.int .i64 (n : Int)) (.int .i64 (n : Int))).run Try.prog w = .ok (.slice (some ⟨w.heap.size, 0, none⟩) n n) (w.alloc (.cells row 44)) := by
  obtain ⟨i, hi, hzz⟩ := Option.map_eq_some_iff.1 info_cases
  simp only [Prod.mk.injEq] at hzz
  obtain ⟨hz, hs, hb⟩ := hzz
  refine ⟨madeCells (Value.agg #[.slice none 0 0, .slice none 0 0]).cells (n * 2), size_madeCells _ _, fun w => ?_⟩
  have hr := run_make (P := Try.prog) w 26 44 i _ Try.underlying26 hi hz .i64 .i64 n n (by omega) (Int.le_refl _) (by rw [hb]; omega) (by omega)
  simp only [Int.toNat_natCast, hs] at hr
  exact hr

/-- Clone answers as it should where kids and cases are smaller than n. -/
def CloneN (n : Nat) : Prop := ∀ (k : Int) (nm : ByteArray) (g : Bool) (az : List (ByteArray × PL)) (ws : List PL) (ks : NL) (bs : List Bool) (cz : NL) (x1 : Option Addr) (d1 : Nat) (x2 : Option Addr) (d2 : Nat) (x3 : Option Addr) (d3 : Nat) (x4 : Option Addr) (d4 : Nat) (x5 : Option Addr) (d5 : Nat) (w : World), ks.size + cz.size < n → totX nm az ws ks bs cz ≤ 1000000 → Holds w nm az ws ks bs cz x1 d1 x2 d2 x3 d3 x4 d4 x5 d5 →
  Calls Try.prog 6 #[.agg #[.int .i64 k, .string nm, .bool g, .slice x1 az.length d1, .slice x2 ws.length d2, .slice x3 ks.len d3, .slice x4 bs.length d4, .slice x5 cz.len d5]] w fun e w' => ∃ y1 i1 y2 i2 y3 i3 y4 i4 y5 i5, e = .returned (.agg #[.int .i64 k, .string nm, .bool g, .slice y1 az.length i1, .slice y2 ws.length i2, .slice y3 ks.len i3, .slice y4 bs.length i4, .slice y5 cz.len i5]) ∧ Below w.heap.size w w' ∧ Gives (EN (n + 1)) w w' [.int .i64 k, .string nm, .bool g, .slice y1 az.length i1, .slice y2 ws.length i2, .slice y3 ks.len i3, .slice y4 bs.length i4, .slice y5 cz.len i5] ⟨k, nm, g, az, ws, ks, bs, cz⟩

set_option maxHeartbeats 1600000 in
set_option maxRecDepth 100000 in
theorem copied_nodes (n : Nat) (hC : CloneN n) (l : NL) (a : Option Addr) (cap : Nat) (w : World) (hl : NLies w a cap l) (hln : l.len ≤ 1000000) (hok : NL.okN l true = true) (hsz : l.size ≤ n) (htt : totN l ≤ 1000000) :
    Calls Try.prog 16 #[.slice a l.len cap, .func (.func 6) #[] #[]] w (fun e w' => ∃ a' cap', e = .returned (.slice a' l.len cap') ∧ Below w.heap.size w w' ∧ OwnR 8 (EN (n + 1)) (nodeAt l) w' w.heap.size w'.heap.size a' cap' l.len) := by
  have hle := hl.le
  cases a with
  | none =>
    have hnz : l.len = 0 := by rw [nil_of_none hl]; rfl
    have hnil := fun w => Lib.run_eql_slice_nil (P := Try.prog) w 24 28 none 0 cap 0 0 Try.underlying24
    have HZ := Lib.hid hnz
    rw [hnz]
    clear hl hnz hle hln hok hsz htt hC
    go_enter Try.func16, Try.ntmps16
    go_wp2_with fail
    go_ret
    exact ⟨none, 0, rfl, Below.refl _ _, Nat.le_refl _, Nat.zero_le _, Nat.le_refl _, .inl rfl⟩
  | some ad =>
    have hnil := fun w => Lib.run_eql_slice_nil (P := Try.prog) w 24 28 (some ad) l.len cap 0 0 Try.underlying24
    simp only [Option.isNone_some] at hnil
    obtain ⟨row, hrow, hmk⟩ := make_nodes l.len hln
    have HL := Lib.hid hl; have HR := Lib.hid hrow; have HLN := Lib.hid hln
    have HOK := Lib.hid hok; have HSZ := Lib.hid hsz; have HTT := Lib.hid htt; have HC := Lib.hid hC
    clear hok hsz htt hC
    clear hl hrow
    go_enter Try.func16, Try.ntmps16
    go_wp2_with fail
    go_loopw [15] (fun x wr => ∃ (j : Nat) (ms : Nat → Nat), j ≤ l.len ∧ x = .int .i64 j ∧ Below w.heap.size w wr ∧ Done 8 (EN (n + 1)) (nodeAt l) wr w.heap.size j ms ∧ ms j ≤ wr.heap.size ∧ ∃ row' : Array Value, row'.size = l.len * 8 ∧ wr.heap[w.heap.size]? = some (.cells row' 28 (0, 0))) (fun x wr => l.len - (intOf x).toNat)
    case atStart => exact ⟨0, fun _ => w.heap.size + 1, Nat.zero_le _, rfl, bel1 _ _, Done.zero _ _, by simp, row, HR.out, heap_new' _ _⟩
    case round =>
      obtain ⟨j, ms, hj, rfl, hb, hdn, hms, row', hrow', hrb⟩ := hrel
      have HW := Lib.hid hb; have HD := Lib.hid hdn; have HMS := Lib.hid hms; have HRS := Lib.hid hrow'; have HRB := Lib.hid hrb
      clear hb hdn hms hrow' hrb hmk
      by_cases hlt : j < l.len
      · obtain ⟨k1, nm1, g1, az1, ws1, ks1, bs1, cz1, r1, hd1⟩ := NL.drop_node hlt HOK.out
        obtain ⟨b1, o1, hae, hb1, x11, d11, x12, d12, x13, d13, x14, d14, x15, d15, hc1, hh1⟩ := (HL.out.below HW.out).getN HOK.out hd1
        cases hae
        have c10 : wr.cell? ⟨b1, o1 + j * 8, none⟩ = some (.int .i64 k1) := hc1 0 _ rfl
        have c11 : wr.cell? ⟨b1, o1 + j * 8 + 1, none⟩ = some (.string nm1) := hc1 1 _ rfl
        have c12 : wr.cell? ⟨b1, o1 + j * 8 + 2, none⟩ = some (.bool g1) := hc1 2 _ rfl
        have c13 : wr.cell? ⟨b1, o1 + j * 8 + 3, none⟩ = some (.slice x11 az1.length d11) := hc1 3 _ rfl
        have c14 : wr.cell? ⟨b1, o1 + j * 8 + 4, none⟩ = some (.slice x12 ws1.length d12) := hc1 4 _ rfl
        have c15 : wr.cell? ⟨b1, o1 + j * 8 + 5, none⟩ = some (.slice x13 ks1.len d13) := hc1 5 _ rfl
        have c16 : wr.cell? ⟨b1, o1 + j * 8 + 6, none⟩ = some (.slice x14 bs1.length d14) := hc1 6 _ rfl
        have c17 : wr.cell? ⟨b1, o1 + j * 8 + 7, none⟩ = some (.slice x15 cz1.len d15) := hc1 7 _ rfl
        have hsz1 : ks1.size + cz1.size < n := by
          have := NL.drop_size j l
          rw [hd1] at this
          simp only [NL.size] at this
          have := HSZ.out
          omega
        have htt1 : totX nm1 az1 ws1 ks1 bs1 cz1 ≤ 1000000 := by
          have := tot_drop j l
          rw [hd1] at this
          simp only [totN] at this
          have := HTT.out
          unfold totX
          omega
        have HGET := Lib.hid (nodeAt_drop hd1); have HH := Lib.hid hh1; have HS1 := Lib.hid hsz1; have HT1 := Lib.hid htt1
        clear hh1 hc1 hd1 hsz1 htt1
        go_wp2_with fail
        refine (HC.out k1 nm1 g1 az1 ws1 ks1 bs1 cz1 x11 d11 x12 d12 x13 d13 x14 d14 x15 d15 (wr.alloc (.cells #[.int .i64 k1, .string nm1, .bool g1, .slice x11 az1.length d11, .slice x12 ws1.length d12, .slice x13 ks1.len d13, .slice x14 bs1.length d14, .slice x15 cz1.len d15] 28)) HS1.out HT1.out (HH.out.below (bel1 wr (.cells #[.int .i64 k1, .string nm1, .bool g1, .slice x11 az1.length d11, .slice x12 ws1.length d12, .slice x13 ks1.len d13, .slice x14 bs1.length d14, .slice x15 cz1.len d15] 28)))).mono ?_
        rintro e w2 ⟨y1, i1, y2, i2, y3, i3, y4, i4, y5, i5, rfl, hb2, hgv⟩
        have hBl : w.heap.size < wr.heap.size := (Array.getElem?_eq_some_iff.1 HRB.out).1
        have hRw : w2.heap[w.heap.size]? = some (.cells row' 28 (0, 0)) := (hb2.block _ (Nat.lt_of_lt_of_le hBl (bel1 wr (.cells #[.int .i64 k1, .string nm1, .bool g1, .slice x11 az1.length d11, .slice x12 ws1.length d12, .slice x13 ks1.len d13, .slice x14 bs1.length d14, .slice x15 cz1.len d15] 28)).size)).trans (((bel1 wr (.cells #[.int .i64 k1, .string nm1, .bool g1, .slice x11 az1.length d11, .slice x12 ws1.length d12, .slice x13 ks1.len d13, .slice x14 bs1.length d14, .slice x15 cz1.len d15] 28)).block _ hBl).trans HRB.out)
        have rowk : ∀ i, i < 8 → ∃ x, w2.cell? ⟨w.heap.size, j * 8 + i, none⟩ = some x := fun i hi => ⟨row'[j * 8 + i]'(by rw [HRS.out]; omega), (Lib.cell_of_heap hRw _).trans (by simp)⟩
        have rf : ∀ i, w2.frozen? ⟨w.heap.size, i, none⟩ = false := fun i => frozen_of_row _ _ _ _ _ hRw
        obtain ⟨z0, e0⟩ := rowk 0 (by omega)
        obtain ⟨z1, e1⟩ := rowk 1 (by omega)
        obtain ⟨z2, e2⟩ := rowk 2 (by omega)
        obtain ⟨z3, e3⟩ := rowk 3 (by omega)
        obtain ⟨z4, e4⟩ := rowk 4 (by omega)
        obtain ⟨z5, e5⟩ := rowk 5 (by omega)
        obtain ⟨z6, e6⟩ := rowk 6 (by omega)
        obtain ⟨z7, e7⟩ := rowk 7 (by omega)
        have f0 := rf (j * 8)
        have f1 := rf (j * 8 + 1)
        have f2 := rf (j * 8 + 2)
        have f3 := rf (j * 8 + 3)
        have f4 := rf (j * 8 + 4)
        have f5 := rf (j * 8 + 5)
        have f6 := rf (j * 8 + 6)
        have f7 := rf (j * 8 + 7)
        rw [Nat.add_zero] at e0
        have hrd := round (stable_EN (n + 1)) HD.out HMS.out HW.out HRB.out HRS.out hlt (bel1 wr (.cells #[.int .i64 k1, .string nm1, .bool g1, .slice x11 az1.length d11, .slice x12 ws1.length d12, .slice x13 ks1.len d13, .slice x14 bs1.length d14, .slice x15 cz1.len d15] 28)) hb2 (vs := [.int .i64 k1, .string nm1, .bool g1, .slice y1 az1.length i1, .slice y2 ws1.length i2, .slice y3 ks1.len i3, .slice y4 bs1.length i4, .slice y5 cz1.len i5]) rfl HGET.out hgv
        have HRD := Lib.hid hrd
        clear hb2 hgv hRw rowk rf hrd
        go_wp2_with fail
        obtain ⟨W, hW, hWb, hWr, ms', hm', hWd⟩ := HRD.out
        have hW' : ((((((((w2.setCell ⟨w.heap.size, j * 8, none⟩ (.int .i64 k1)).setCell ⟨w.heap.size, j * 8 + 1, none⟩ (.string nm1)).setCell ⟨w.heap.size, j * 8 + 2, none⟩ (.bool g1)).setCell ⟨w.heap.size, j * 8 + 3, none⟩ (.slice y1 az1.length i1)).setCell ⟨w.heap.size, j * 8 + 4, none⟩ (.slice y2 ws1.length i2)).setCell ⟨w.heap.size, j * 8 + 5, none⟩ (.slice y3 ks1.len i3)).setCell ⟨w.heap.size, j * 8 + 6, none⟩ (.slice y4 bs1.length i4)).setCell ⟨w.heap.size, j * 8 + 7, none⟩ (.slice y5 cz1.len i5)) = W := by rw [← hW]; rfl
        go_roundw
        case rel => exact ⟨j + 1, ms', by omega, by go_num, by rw [hW']; exact hWb, by rw [hW']; exact hWd, by rw [hW']; exact hm', by rw [hW']; exact hWr⟩
        case measure => simp [intOf]; omega
      · obtain rfl : j = l.len := by omega
        go_wp2_with fail
        go_ret
        have hs := HW.out.size
        have hBl := (Array.getElem?_eq_some_iff.1 HRB.out).1
        exact ⟨some ⟨w.heap.size, 0, none⟩, l.len, rfl, HW.out, Nat.le_refl _, by unfold R; omega, hs, .inr ⟨w.heap.size, ms, rfl, Nat.le_refl _, hBl, HMS.out, ⟨row', _, HRB.out⟩, HD.out⟩⟩
end Ow
end Go.Proofs.Ytmpongcambbihaa
