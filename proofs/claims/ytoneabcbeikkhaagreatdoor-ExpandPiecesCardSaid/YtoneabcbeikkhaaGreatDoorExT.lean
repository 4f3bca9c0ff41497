/- ExpandQuotes: the law's walk. -/
import Derived.Test.YtoneabcbeikkhaaGreatDoorExS
import Derived.Test.YtoneabcbeikkhaaGreatDoorRfE
import Derived.Test.YtoneabcbeikkhaaGreatDoorPtK
import Derived.Test.YtoneabcbeikkhaaGreatDoorFdKa
namespace Go.Proofs.YtoneabcbeikkhaaGreatDoor
open Go.RowKit Cls
namespace Ex
open Vr (St val Sc Kp Tab Prs Vs)
open Fld (Pc bs tx joinS cutP joinP Pcs pcells splitS)
open Pt (PL Lies)
open Uq (right_parts)
theorem bytes_size : ∀ l : PL, l.size ≤ Bd.bytes l
  | .nil => Nat.le_refl _
  | .cons k q t o f r => by
    have h1 := bytes_size f; have h2 := bytes_size r
    simp only [PL.size, Bd.bytes]; omega
theorem bytes_texts : ∀ (l : PL) (t : ByteArray), t ∈ texts l → t.size ≤ Bd.bytes l
  | .cons k q t o f r, x, h => by
    simp only [texts, List.mem_cons, List.mem_append] at h
    simp only [Bd.bytes]
    rcases h with rfl | h | h
    · omega
    · have := bytes_texts f x h; omega
    · have := bytes_texts r x h; omega
theorem okT_of {l : PL} (h : Bd.bytes l ≤ 100000) : okT l := fun t ht => Nat.le_trans (bytes_texts l t ht) h
theorem okO_of {t o : List UInt8} (x : ByteArray) (hx : x.data.toList = o) (h : Pt.nameOK t o = true) : okO x := by
  subst hx
  unfold Pt.nameOK at h
  have hb : bs x = x.data.toList := rfl
  unfold okO
  rw [hb]
  by_cases h1 : Pt.isSet x.data.toList = true
  · unfold Pt.isSet at h1
    simp only [Bool.or_eq_true, beq_iff_eq] at h1
    rcases h1 with h1 | h1 <;> simp [h1]
  · rw [if_neg h1] at h
    by_cases h2 : Pt.isOp x.data.toList = true
    · unfold Pt.isOp at h2
      simp only [Bool.or_eq_true, beq_iff_eq] at h2
      rcases h2 with (((((h2 | h2) | h2) | h2) | h2) | h2) | h2 <;> simp [h2]
    · rw [if_neg h2] at h; cases h
theorem okOL_of : ∀ (l : PL) (p : Option (Int × Bool)) (at' d : Nat), Pt.rightL p l at' d = true → okOL l
  | .nil, _, _, _, _ => trivial
  | .cons k q t o f r, p, at', d, h => by
    obtain ⟨_, _, hr, h4⟩ := right_parts h
    rcases h4 with ⟨rfl, _, rfl, _⟩ | ⟨rfl, hn, _, hf⟩
    · exact ⟨fun h => by simp at h, trivial, okOL_of r _ _ _ hr⟩
    · exact ⟨fun _ => okO_of o rfl hn, okOL_of f _ _ _ hf, okOL_of r _ _ _ hr⟩
theorem rightW_value {l : PL} (h : Pt.rightW l = true) : Pt.rightL none l 0 1 = true ∧ l ≠ .nil := by
  cases l with
  | nil => cases h
  | cons k q t o f r =>
    simp only [Pt.rightW, Bool.and_eq_true] at h
    exact ⟨h.2, by simp⟩
abbrev litP (k : Int) (qq : Bool) (x : ByteArray) : PL := .cons k qq x ⟨#[]⟩ .nil .nil
/-- Fields of a word of one part with none within. -/
theorem fields_lit {W0 w : World} {B q m : Nat} {z s : St} {mv av : Value} {pb lb c : Nat} (E : Env W0 w B q z m s mv av) (hm : m + 1 ≤ 900000) (k : Int) (qq : Bool) (x : ByteArray) (hx : x.size ≤ 100000)
    (hp : w.heap[pb]? = some (.cells #[.int .i64 k, .bool qq, .string x, .string ⟨#[]⟩, .slice none 0 0] 52 (0, 0))) (hl : w.heap[lb]? = some (.cells #[.slice (some ⟨pb, 0, none⟩) 1 c] 27 (0, 0))) :
    Calls Tryz.prog 17 #[.pointer (some ⟨q, 0, none⟩), .slice (some ⟨lb, 0, none⟩) 1 1] w (AnsF w B q mv av (ex (litP k qq x) s [])) :=
  fields_flat (l := litP k qq x) (cs := #[.int .i64 k, .bool qq, .string x, .string ⟨#[]⟩, .slice none 0 0]) E (by simp [PL.len]) (by simpa [PL.size] using hm) (by simp [PL.size])
    (by intro t ht; simp only [litP, texts, List.append_nil, List.mem_singleton] at ht; subst ht; exact hx)
    (by refine ⟨fun _ => .inl rfl, trivial, trivial⟩)
    (by
      intro i k q t o f r hd
      match i, hd with
      | 0, hd => cases hd; exact ⟨rfl, rfl, rfl, rfl, rfl, rfl⟩
      | i + 1, hd => exfalso; simp only [litP, PL.drop] at hd; cases i <;> simp [PL.drop] at hd)
    hp hl
/-- The law's input. -/
structure QIn (W : World) (s : St) (vv av : Value) (l : PL) (a : Option Addr) (c : Nat) : Prop where
  p : Prs W vv s.vs
  x : Vr.Txt W av s.args
  n0 : s.vs.length ≤ 140737488355328
  n1 : s.args.length ≤ 140737488355328
  z0 : ∀ p ∈ s.vs, p.1.size ≤ 140737488355328 ∧ p.2.size ≤ 140737488355328
  z1 : ∀ a ∈ s.args, a.size ≤ 140737488355328
  i0 : -9223372036854775808 ≤ s.st
  i1 : s.st ≤ 9223372036854775807
  i2 : -9223372036854775808 ≤ s.la
  i3 : s.la ≤ 9223372036854775807
  l : Lies W a c l
  tab : Tab W
set_option maxHeartbeats 8000000 in
set_option maxRecDepth 10000 in
theorem quotes_any (W : World) (s : St) (vv av : Value) (l : PL) (a : Option Addr) (c : Nat) (t : ByteArray) (I : QIn W s vv av l a c) :
    Calls Tryz.prog 4 #[.agg #[vv, av, .int .i64 s.st, .int .i64 s.la], .slice a l.len c, .string t] W fun e w' => e = .returned (.bool true) ∧ Below W.heap.size W w' := by
  have HI := Lib.hid I
  obtain ⟨a1, c1, rfl, hcell1⟩ := I.p.cell
  obtain ⟨a2, c2, rfl, hcell2⟩ := I.x.cell
  have hle := I.l.le
  clear I hcell1 hcell2
  have HS0 := Lib.hid (heap_alloc_new W (.cells #[.slice a1 s.vs.length c1, .slice a2 s.args.length c2, .int .i64 s.st, .int .i64 s.la] 25))
  have HB0 := Lib.hid (Fld.below_alloc W (.cells #[.slice a1 s.vs.length c1, .slice a2 s.args.length c2, .int .i64 s.st, .int .i64 s.la] 25))
  go_enter Tryz.func4, Tryz.ntmps4
  go_wp2_with fail
  refine (alive_any _ (HI.out.tab.stay HB0.out)).mono ?_
  rintro e w1 ⟨rfl, hb1⟩
  have HB1 := Lib.hid (HB0.out.trans (hb1.mono HB0.out.size))
  have HS1 := Lib.hid (bel_block hb1 HS0.out)
  clear hb1
  have q0 : w1.cell? ⟨W.heap.size, 0, none⟩ = some (.slice a1 s.vs.length c1) := Lib.cell_of_heap HS1.out 0
  have q1 : w1.cell? ⟨W.heap.size, 1, none⟩ = some (.slice a2 s.args.length c2) := Lib.cell_of_heap HS1.out 1
  have q2 : w1.cell? ⟨W.heap.size, 2, none⟩ = some (.int .i64 s.st) := Lib.cell_of_heap HS1.out 2
  have q3 : w1.cell? ⟨W.heap.size, 3, none⟩ = some (.int .i64 s.la) := Lib.cell_of_heap HS1.out 3
  go_wp2_with fail
  refine (fine_any s _ _ _ (HI.out.p.stay HB1.out) (HI.out.x.stay HB1.out) HI.out.n0 HI.out.n1 HI.out.z0 HI.out.z1).mono ?_
  rintro e w2 ⟨rfl, hb2⟩
  have HB2 := Lib.hid (HB1.out.trans (hb2.mono HB1.out.size))
  have HS2 := Lib.hid (bel_block hb2 HS1.out)
  clear hb2 q0 q1 q2 q3
  cases hfin : finB s
  · go_wp2_with fail
    go_ret
    exact ⟨rfl, HB2.out⟩
  · have HFI := Lib.hid hfin
    clear hfin
    go_wp2_with fail
    refine (Pt.weight_any (l.size + 1) l a c 0 w2 (Nat.lt_succ_self _) (Nat.zero_le _) (HI.out.l.below HB2.out)).mono ?_
    rintro e w3 ⟨rfl, hb3⟩
    have HB3 := Lib.hid (HB2.out.trans (hb3.mono HB2.out.size))
    have HS3 := Lib.hid (bel_block hb3 HS2.out)
    clear hb3
    generalize hwt : Pt.weight l 0 = wt
    have HWT := Lib.hid hwt
    clear hwt
    by_cases hw : 1000 < wt
    · have hwI : ((wt : Int) > 1000) = True := eq_true (by omega)
      have hwJ : (1000 < (wt : Int)) = True := eq_true (by omega)
      go_wp2_with fail
      go_ret
      exact ⟨rfl, HB3.out⟩
    have hwI : ((wt : Int) > 1000) = False := eq_false (by omega)
    have hwJ : (1000 < (wt : Int)) = False := eq_false (by omega)
    have hby : Bd.bytes l ≤ 1000 := by
      have h1 := HWT.out
      have := Pt.weight_bytes (l := l) (d := 0) (by omega)
      omega
    have HBY := Lib.hid hby
    clear hby
    go_wp2_with fail
    refine (Rf.rright_any l a c w3 (HI.out.l.below HB3.out)).mono ?_
    rintro e w4 ⟨rfl, hb4⟩
    have HB4 := Lib.hid (HB3.out.trans (hb4.mono HB3.out.size))
    have HS4 := Lib.hid (bel_block hb4 HS3.out)
    clear hb4
    cases hright : Pt.rightW l
    · go_wp2_with fail
      go_ret
      exact ⟨rfl, HB4.out⟩
    have HRW := Lib.hid hright
    clear hright
    have HLS := Lib.hid (show l.size ≤ 1000 from Nat.le_trans (bytes_size l) HBY.out)
    have HTT := Lib.hid (show okT l from okT_of (Nat.le_trans HBY.out (by decide)))
    have HOO := Lib.hid (show okOL l from okOL_of l _ _ _ (rightW_value HRW.out).1)
    by_cases ht5 : 5000 < t.size
    · have hwI : ((t.size : Int) > 5000) = True := eq_true (by omega)
      have hwJ : (5000 < (t.size : Int)) = True := eq_true (by omega)
      go_wp2_with fail
      go_ret
      exact ⟨rfl, HB4.out⟩
    have htI : ((t.size : Int) > 5000) = False := eq_false (by omega)
    have htJ : (5000 < (t.size : Int)) = False := eq_false (by omega)
    have q0 : w4.cell? ⟨W.heap.size, 0, none⟩ = some (.slice a1 s.vs.length c1) := Lib.cell_of_heap HS4.out 0
    have q1 : w4.cell? ⟨W.heap.size, 1, none⟩ = some (.slice a2 s.args.length c2) := Lib.cell_of_heap HS4.out 1
    have q2 : w4.cell? ⟨W.heap.size, 2, none⟩ = some (.int .i64 s.st) := Lib.cell_of_heap HS4.out 2
    have q3 : w4.cell? ⟨W.heap.size, 3, none⟩ = some (.int .i64 s.la) := Lib.cell_of_heap HS4.out 3
    by_cases hl5 : 1000 < s.args.length
    · have hlI : ((s.args.length : Int) > 1000) = True := eq_true (by omega)
      have hlJ : (1000 < (s.args.length : Int)) = True := eq_true (by omega)
      go_wp2_with fail
      go_ret
      exact ⟨rfl, HB4.out⟩
    have hlI : ((s.args.length : Int) > 1000) = False := eq_false (by omega)
    have hlJ : (1000 < (s.args.length : Int)) = False := eq_false (by omega)
    obtain ⟨hok, hsm, hsum⟩ := fine_ok HFI.out HI.out.i0 HI.out.i1 HI.out.i2 HI.out.i3
    have HOK := Lib.hid hok; have HSM := Lib.hid hsm; have HSUM := Lib.hid hsum
    clear hok hsm hsum
    go_wp2_with fail
    refine (of_any s _ _ w4 (HI.out.p.stay HB4.out) (HI.out.x.stay HB4.out) HOK.out.srt (by have := HOK.out.nvs; omega) (by omega) HOK.out.vs).mono ?_
    rintro e w5 ⟨q, mv, av', rfl, hsc5, hb5⟩
    have HB5 := Lib.hid (HB4.out.trans (hb5.mono HB4.out.size))
    have HS5 := Lib.hid (bel_block hb5 HS4.out)
    have HSC5 := Lib.hid hsc5
    have HSZ5 := Lib.hid hb5.size
    clear hsc5 hb5 q0 q1 q2 q3
    go_wp2_with fail
    refine (of_text t w5).mono ?_
    rintro e w6 ⟨rfl, rfl⟩
    have HB6 := Lib.hid (Fld.below_alloc w5 (.cells #[.int .i64 1, .bool true, .string t, .string ⟨#[]⟩, .slice none 0 0] 52))
    have HP6 := Lib.hid (heap_alloc_new w5 (.cells #[.int .i64 1, .bool true, .string t, .string ⟨#[]⟩, .slice none 0 0] 52))
    have HZ6 : (w5.alloc (.cells #[.int .i64 1, .bool true, .string t, .string ⟨#[]⟩, .slice none 0 0] 52)).heap.size = w5.heap.size + 1 := World.size_alloc _ _
    generalize (w5.alloc (.cells #[.int .i64 1, .bool true, .string t, .string ⟨#[]⟩, .slice none 0 0] 52)) = w6 at HB6 HP6 HZ6 ⊢
    have HB7 := Lib.hid (Fld.below_alloc w6 (.cells #[.slice (some ⟨w5.heap.size, 0, none⟩) 1 1] 27))
    have HL7 := Lib.hid (heap_alloc_new w6 (.cells #[.slice (some ⟨w5.heap.size, 0, none⟩) 1 1] 27))
    have HP7 := Lib.hid (bel_block HB7.out HP6.out)
    have hb7 : Below w5.heap.size w5 (w6.alloc (.cells #[.slice (some ⟨w5.heap.size, 0, none⟩) 1 1] 27)) := HB6.out.trans (HB7.out.mono HB6.out.size)
    have HB57 := Lib.hid hb7
    have HE7 := Lib.hid (Env.mk' (W0 := W) (B := w4.heap.size) (m := 100000) (HB5.out.trans (hb7.mono HB5.out.size)) HB4.out.size (Nat.le_trans HSZ5.out hb7.size) (HSC5.out.stay hb7) HI.out.tab HOK.out HSM.out (by decide))
    have hl7 := HL7.out
    rw [HZ6] at hl7
    have HF7 := Lib.hid (fields_lit HE7.out (by decide) 1 true t (by omega) HP7.out hl7)
    clear hb7 hl7
    go_wp2_with fail
    refine HF7.out.mono ?_
    rintro e w8 ⟨mv8, hw8, hcase⟩
    have hext := ex_text t s (by omega)
    change ex (litP 1 true t) s [] = _ at hext
    rw [hext] at hw8 hcase
    simp only at hw8 hcase
    have HB8 := Lib.hid (hw8.frame HE7.out.sc HE7.out.hw HE7.out.b0 HB4.out.size)
    have HS8 := Lib.hid (hw8.block HE7.out.sc (by decide) (by decide) (bel_block HB57.out HS5.out))
    have HSC8 := Lib.hid hw8.sc
    have HSZ8 := Lib.hid (Nat.le_trans HE7.out.hw hw8.kp.size)
    clear hw8 HF7 hext
    rcases hcase with ⟨h, _⟩ | ⟨_, h, _⟩ | ⟨_, _, v8, rfl, ho8⟩
    · exact absurd trivial h
    · rw [split_text] at h; exact absurd h (by simp)
    rw [split_text] at ho8
    obtain ⟨g8, c8, hv8⟩ := Joins.ownsRow_form ho8 (by simp)
    subst hv8
    have HB9 := Lib.hid (Fld.below_alloc w8 FB)
    have HSC9 := Lib.hid (HSC8.out.stay HB9.out)
    have HS9 := Lib.hid (bel_block HB9.out HS8.out)
    have d0 : w8.cell? ⟨g8, 0, none⟩ = some (.string t) := (ho8.cellAt 0 (by simp)).trans rfl
    have e0 : (w8.alloc (.cells #[.int .i64 0, .string ⟨#[]⟩] 36)).cell? ⟨g8, 0, none⟩ = some (.string t) := (HB9.out.cell (p := ⟨g8, 0, none⟩) (World.block_lt_of_cell? _ _ d0)).trans d0
    clear ho8
    have et : (t.toList != t.toList) = false := by simp
    have HBA := Lib.hid (Fld.below_alloc (w8.alloc (.cells #[.int .i64 0, .string ⟨#[]⟩] 36)) (.cells #[.int .i64 2, .bool true, .string ⟨#[64]⟩, .string ⟨#[]⟩, .slice none 0 0] 52))
    have HPA := Lib.hid (heap_alloc_new (w8.alloc (.cells #[.int .i64 0, .string ⟨#[]⟩] 36)) (.cells #[.int .i64 2, .bool true, .string ⟨#[64]⟩, .string ⟨#[]⟩, .slice none 0 0] 52))
    have hpa := HPA.out
    rw [show (w8.alloc (.cells #[.int .i64 0, .string ⟨#[]⟩] 36)).heap.size = w8.heap.size + 1 from World.size_alloc _ _] at hpa
    have HPA := Lib.hid hpa
    have HSCA := Lib.hid (HSC9.out.stay HBA.out)
    have HSA := Lib.hid (bel_block HBA.out HS9.out)
    have hzA : ((w8.alloc (.cells #[.int .i64 0, .string ⟨#[]⟩] 36)).alloc (.cells #[.int .i64 2, .bool true, .string ⟨#[64]⟩, .string ⟨#[]⟩, .slice none 0 0] 52)).heap.size = w8.heap.size + 2 := by simp [World.size_alloc]
    have hbA : Below W.heap.size W ((w8.alloc (.cells #[.int .i64 0, .string ⟨#[]⟩] 36)).alloc (.cells #[.int .i64 2, .bool true, .string ⟨#[64]⟩, .string ⟨#[]⟩, .slice none 0 0] 52)) := HB8.out.trans ((HB9.out.trans (HBA.out.mono HB9.out.size)).mono HB8.out.size)
    have HBWA := Lib.hid hbA
    have q1 : ((w8.alloc (.cells #[.int .i64 0, .string ⟨#[]⟩] 36)).alloc (.cells #[.int .i64 2, .bool true, .string ⟨#[64]⟩, .string ⟨#[]⟩, .slice none 0 0] 52)).cell? ⟨W.heap.size, 1, none⟩ = some (.slice a2 s.args.length c2) := Lib.cell_of_heap HSA.out 1
    clear hbA hpa
    go_wp2_with fail
    generalize ((w8.alloc (.cells #[.int .i64 0, .string ⟨#[]⟩] 36)).alloc (.cells #[.int .i64 2, .bool true, .string ⟨#[64]⟩, .string ⟨#[]⟩, .slice none 0 0] 52)) = wG at HPA HSCA HSA hzA HBWA ⊢
    go_loopw [11, 74] (fun tt x wr => ∃ k n : Nat, k ≤ s.args.length ∧ x = .int .i64 k ∧ tt = .int .i64 n ∧ n + sumA (s.args.drop k) = sumA s.args ∧ wr = wG) (fun _ x _ => s.args.length - (intOf x).toNat)
    case atStart => exact ⟨0, 0, Nat.zero_le _, rfl, rfl, by simp, rfl⟩
    obtain ⟨k, n, hk, rfl, rfl, hn, rfl⟩ := hrel
    have hsu := HSUM.out
    by_cases hlt : k < s.args.length
    · have hx : s.args[k]? = some (s.args[k]'hlt) := List.getElem?_eq_getElem hlt
      obtain ⟨b, off, hae, hb, hc⟩ : ∃ b off, a2 = some ⟨b, off, none⟩ ∧ b < W.heap.size ∧ W.cell? ⟨b, off + k, none⟩ = some (.string (s.args[k]'hlt)) := by
        rcases HI.out.x with ⟨h, _⟩ | ⟨b, off, cap, he, _, hb, h⟩
        · rw [h] at hlt; exact absurd hlt (Nat.not_lt_zero _)
        · cases he; exact ⟨b, off, rfl, hb, h k _ hx⟩
      subst hae
      have hdr : s.args.drop k = s.args[k]'hlt :: s.args.drop (k + 1) := List.drop_eq_getElem_cons hlt
      rw [hdr] at hn
      have hqa := (HBWA.out.cell (p := ⟨b, off + k, none⟩) hb).trans hc
      clear hc hx hdr
      generalize s.args[k]'hlt = y at hqa hn
      have hn' : (n + (y.size + 1)) + sumA (s.args.drop (k + 1)) = sumA s.args := by
        simp only [sumA, List.map_cons, List.sum_cons] at hn ⊢; omega
      have HN := Lib.hid hn'
      have hnb : n + (y.size + 1) ≤ 100000 := by omega
      clear hn hn'
      go_wp2_with fail
      go_roundw
      case rel => exact ⟨k + 1, n + (y.size + 1), by omega, by go_num, by go_num, HN.out, by first | rfl | trivial⟩
      case measure => simp [intOf]; omega
    obtain rfl : k = s.args.length := by omega
    rw [List.drop_length] at hn
    have hn2 : n = sumA s.args := by simpa [sumA] using hn
    clear hn
    have HBL := Lib.hid (Fld.below_alloc wr (.cells #[.slice (some ⟨w8.heap.size + 1, 0, none⟩) 1 1] 27))
    have hlA := heap_alloc_new wr (.cells #[.slice (some ⟨w8.heap.size + 1, 0, none⟩) 1 1] 27)
    rw [hzA] at hlA
    have HEA := Lib.hid (Env.mk' (W0 := W) (B := w4.heap.size) (m := 100000) (HBWA.out.trans (HBL.out.mono HBWA.out.size)) HB4.out.size (by have := HSZ8.out; have := HBL.out.size; omega) (HSCA.out.stay HBL.out) HI.out.tab HOK.out HSM.out (by decide))
    have HFA := Lib.hid (fields_lit HEA.out (by decide) 2 true ⟨#[64]⟩ (by decide) (bel_block HBL.out HPA.out) hlA)
    have HSL := Lib.hid (bel_block HBL.out HSA.out)
    have HNN := Lib.hid hn2
    clear hlA hn2
    go_wp2_with fail
    refine HFA.out.mono ?_
    rintro e wB ⟨mvB, hwB, hcase⟩
    have HBB := Lib.hid (hwB.frame HEA.out.sc HEA.out.hw HEA.out.b0 HB4.out.size)
    have HSB := Lib.hid (hwB.block HEA.out.sc (by decide) (by decide) HSL.out)
    have hexa := ex_args s
    change ex (litP 2 true ⟨#[64]⟩) s [] = _ at hexa
    have hwS : (ex (litP 2 true ⟨#[64]⟩) s []).S = s := by rw [hexa]; cases decide (65536 < (joinS (Fld.qP s.args)).length) <;> rfl
    rw [hwS] at hwB
    have HSCB := Lib.hid hwB.sc
    have HSZB := Lib.hid (Nat.le_trans HEA.out.hw hwB.kp.size)
    have HEXA := Lib.hid hexa
    clear hwB HFA hexa hwS
    by_cases h60 : n ≤ 60000
    · have hj : ¬ 65536 < (joinS (Fld.qP s.args)).length := by
        have := join_sum true s.args
        have hn2 := HNN.out
        rw [args_qP] at this
        omega
      have hexb : ex (litP 2 true ⟨#[64]⟩) s [] = ⟨Fld.qP s.args, s, 0, tx []⟩ := by rw [HEXA.out, decide_eq_false hj]; rfl
      rw [hexb] at hcase
      simp only [Fld.split_quotes] at hcase
      have hnI : ((n : Int) ≤ 60000) = True := eq_true (by omega)
      clear hj hexb
      rcases hcase with ⟨h, _⟩ | ⟨_, h, _⟩ | ⟨_, _, vB, rfl, hoB⟩
      · exact absurd trivial h
      · exact absurd h (by omega)
      obtain ⟨aB, cB, hvB, hnB⟩ := Fld.own_len hoB
      subst hvB
      have HTB := Lib.hid (Fld.Txt.ofOwn hoB rfl rfl)
      clear hoB
      have HBF := Lib.hid (Fld.below_alloc wB (.cells #[.int .i64 0, .string ⟨#[]⟩] 36))
      have HSF := Lib.hid (bel_block HBF.out HSB.out)
      have q1 : (wB.alloc (.cells #[.int .i64 0, .string ⟨#[]⟩] 36)).cell? ⟨W.heap.size, 1, none⟩ = some (.slice a2 s.args.length c2) := Lib.cell_of_heap HSF.out 1
      have hbwF : Below W.heap.size W (wB.alloc (.cells #[.int .i64 0, .string ⟨#[]⟩] 36)) := HBB.out.trans (HBF.out.mono HBB.out.size)
      have HTX := Lib.hid (show Fld.Txt (wB.alloc (.cells #[.int .i64 0, .string ⟨#[]⟩] 36)) (.slice a2 s.args.length c2) s.args from HI.out.x.stay hbwF)
      have HBWF := Lib.hid hbwF
      clear hbwF
      go_wp2_with fail
      refine (Fld.same_any s.args s.args _ _ _ (HTB.out.stay HBF.out) HTX.out (by omega)).mono ?_
      rintro e wX ⟨rfl, hbX⟩
      have HBX := Lib.hid (HBWF.out.trans (hbX.mono HBWF.out.size))
      have HSCX := Lib.hid ((HSCB.out.stay HBF.out).stay hbX)
      have HSZX := Lib.hid (Nat.le_trans HSZB.out (Nat.le_trans HBF.out.size hbX.size))
      have hsd : decide (s.args = s.args) = true := decide_eq_true rfl
      rw [hsd]
      clear hbX hsd q1
      go_wp2_with fail
      refine (quoted_any (l.size + 1) l a c wX (Nat.lt_succ_self _) (HI.out.l.below HBX.out)).mono ?_
      rintro e wQ ⟨rfl, hbQ⟩
      have HBQ := Lib.hid (HBX.out.trans (hbQ.mono HBX.out.size))
      have HSCQ := Lib.hid (HSCX.out.stay hbQ)
      have HSZQ := Lib.hid (Nat.le_trans HSZX.out hbQ.size)
      clear hbQ
      cases hq : quotedL l
      · go_wp2_with fail
        go_ret
        exact ⟨rfl, HBQ.out⟩
      have HQ := Lib.hid hq
      clear hq
      have HBR := Lib.hid (Fld.below_alloc wQ (.cells #[.slice a l.len c] 27))
      have HLR := Lib.hid (heap_alloc_new wQ (.cells #[.slice a l.len c] 27))
      have HER := Lib.hid (Env.mk' (W0 := W) (B := w4.heap.size) (m := 100000) (HBQ.out.trans (HBR.out.mono HBQ.out.size)) HB4.out.size (Nat.le_trans HSZQ.out HBR.out.size) (HSCQ.out.stay HBR.out) HI.out.tab HOK.out HSM.out (by decide))
      have HFR := Lib.hid (fields_one (pieces_any HI.out.l HLS.out HTT.out HOO.out w4.heap.size q s av' _ 100000 s mvB (HER.out.more (Fld.below_alloc _ FB)) (by have := HLS.out; omega)) HER.out HLS.out HTT.out _ _ (by decide) (by decide) HLR.out)
      go_wp2_with fail
      refine HFR.out.mono ?_
      rintro e wE ⟨mvE, hwE, hcase⟩
      have HBE := Lib.hid (hwE.frame HER.out.sc HER.out.hw HER.out.b0 HB4.out.size)
      have hone := fun h0 => ex_q l s [] HQ.out AllQ.nil h0
      have hnil : l ≠ .nil := (rightW_value HRW.out).2
      have hspl : (ex l s []).k = 0 → (splitS (ex l s []).L).length = 1 := fun h0 => split_one (hone h0).1 ((hone h0).2 (.inl hnil))
      clear hwE HFR hone hnil
      generalize ex l s [] = g at hcase hspl
      obtain ⟨gL, gS, gk, gt⟩ := g
      simp only at hcase hspl
      rcases hcase with ⟨hk, rfl⟩ | ⟨hk, h, _⟩ | ⟨hk, _, vE, rfl, hoE⟩
      · go_wp2_with fail
        go_ret
        exact ⟨rfl, HBE.out.trans ((Fld.below_alloc _ _).mono HBE.out.size)⟩
      · rw [hspl hk] at h; exact absurd h (by decide)
      · rw [hspl hk] at hoE
        obtain ⟨gE, cE, hvE⟩ := Joins.ownsRow_form hoE (by decide)
        subst hvE
        clear hoE
        go_wp2_with fail
        go_ret
        exact ⟨rfl, HBE.out.trans ((Fld.below_alloc _ _).mono HBE.out.size)⟩
    · have hnI : ((n : Int) ≤ 60000) = False := eq_false (by omega)
      obtain ⟨vB, kB, tB, rfl⟩ : ∃ vB kB tB, e = .returned (.tuple #[vB, .agg #[.int .i64 kB, .string tB]]) := by
        rcases hcase with ⟨_, h⟩ | ⟨_, _, h⟩ | ⟨_, _, v, h, _⟩
        · exact ⟨_, _, _, h⟩
        · exact ⟨_, _, _, h⟩
        · exact ⟨_, _, _, h⟩
      clear hcase
      have HBF := Lib.hid (Fld.below_alloc wB (.cells #[.int .i64 kB, .string tB] 36))
      have HBX := Lib.hid (HBB.out.trans (HBF.out.mono HBB.out.size))
      have HSCX := Lib.hid (HSCB.out.stay HBF.out)
      have HSZX := Lib.hid (Nat.le_trans HSZB.out HBF.out.size)
      go_wp2_with fail
      refine (quoted_any (l.size + 1) l a c _ (Nat.lt_succ_self _) (HI.out.l.below HBX.out)).mono ?_
      rintro e wQ ⟨rfl, hbQ⟩
      have HBQ := Lib.hid (HBX.out.trans (hbQ.mono HBX.out.size))
      have HSCQ := Lib.hid (HSCX.out.stay hbQ)
      have HSZQ := Lib.hid (Nat.le_trans HSZX.out hbQ.size)
      clear hbQ
      cases hq : quotedL l
      · go_wp2_with fail
        go_ret
        exact ⟨rfl, HBQ.out⟩
      have HQ := Lib.hid hq
      clear hq
      have HBR := Lib.hid (Fld.below_alloc wQ (.cells #[.slice a l.len c] 27))
      have HLR := Lib.hid (heap_alloc_new wQ (.cells #[.slice a l.len c] 27))
      have HER := Lib.hid (Env.mk' (W0 := W) (B := w4.heap.size) (m := 100000) (HBQ.out.trans (HBR.out.mono HBQ.out.size)) HB4.out.size (Nat.le_trans HSZQ.out HBR.out.size) (HSCQ.out.stay HBR.out) HI.out.tab HOK.out HSM.out (by decide))
      have HFR := Lib.hid (fields_one (pieces_any HI.out.l HLS.out HTT.out HOO.out w4.heap.size q s av' _ 100000 s mvB (HER.out.more (Fld.below_alloc _ FB)) (by have := HLS.out; omega)) HER.out HLS.out HTT.out _ _ (by decide) (by decide) HLR.out)
      go_wp2_with fail
      refine HFR.out.mono ?_
      rintro e wE ⟨mvE, hwE, hcase⟩
      have HBE := Lib.hid (hwE.frame HER.out.sc HER.out.hw HER.out.b0 HB4.out.size)
      have hone := fun h0 => ex_q l s [] HQ.out AllQ.nil h0
      have hnil : l ≠ .nil := (rightW_value HRW.out).2
      have hspl : (ex l s []).k = 0 → (splitS (ex l s []).L).length = 1 := fun h0 => split_one (hone h0).1 ((hone h0).2 (.inl hnil))
      clear hwE HFR hone hnil
      generalize ex l s [] = g at hcase hspl
      obtain ⟨gL, gS, gk, gt⟩ := g
      simp only at hcase hspl
      rcases hcase with ⟨hk, rfl⟩ | ⟨hk, h, _⟩ | ⟨hk, _, vE, rfl, hoE⟩
      · go_wp2_with fail
        go_ret
        exact ⟨rfl, HBE.out.trans ((Fld.below_alloc _ _).mono HBE.out.size)⟩
      · rw [hspl hk] at h; exact absurd h (by decide)
      · rw [hspl hk] at hoE
        obtain ⟨gE, cE, hvE⟩ := Joins.ownsRow_form hoE (by decide)
        subst hvE
        clear hoE
        go_wp2_with fail
        go_ret
        exact ⟨rfl, HBE.out.trans ((Fld.below_alloc _ _).mono HBE.out.size)⟩
end Ex
end Go.Proofs.YtoneabcbeikkhaaGreatDoor
