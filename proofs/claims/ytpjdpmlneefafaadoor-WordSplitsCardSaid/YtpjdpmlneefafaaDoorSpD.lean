/- The reference's Split: for all parts. -/
import Derived.Test.YtpjdpmlneefafaaDoorSpC
namespace Go.Proofs.YtpjdpmlneefafaaDoor
open Go.RowKit Go.Sort
namespace Sp
open Cls Pt

def splitI (l : PL) : Int := match splitP l with | none => -1 | some n => (n : Int)
theorem ret_int {a b : Int} (h : a = b) : Ending.returned (.int .i64 a) = .returned (.int .i64 b) := by rw [h]

/-- No byte of the first k is the sign. -/
def noEq (l : List UInt8) (k : Nat) : Prop := ∀ j, j < k → l[j]? ≠ some 61
theorem noEq_succ {l : List UInt8} {k : Nat} (h : noEq l k) (hk : l[k]? ≠ some 61) : noEq l (k + 1) := by
  intro j hj
  by_cases e : j = k
  · subst e; exact hk
  · exact h j (by omega)
theorem index_here {l : List UInt8} {k : Nat} (h : noEq l k) (hk : l[k]? = some 61) : Lib.indexByte l 61 = k := by
  have hge := Lib.indexByte_ge l 61
  by_cases h1 : Lib.indexByte l 61 = -1
  · exact absurd hk (Lib.indexByte_none h1 k)
  · obtain ⟨o, ho⟩ : ∃ o : Nat, Lib.indexByte l 61 = o := ⟨(Lib.indexByte l 61).toNat, by omega⟩
    obtain ⟨h2, h3⟩ := Lib.indexByte_some ho
    by_cases hlt : o < k
    · exact absurd h2 (h o hlt)
    · by_cases hgt : k < o
      · exact absurd hk (h3 k hgt)
      · rw [ho]; omega
theorem index_no {l : List UInt8} (h : noEq l l.length) : Lib.indexByte l 61 = -1 := by
  have hge := Lib.indexByte_ge l 61
  by_cases h1 : Lib.indexByte l 61 = -1
  · exact h1
  · obtain ⟨o, ho⟩ : ∃ o : Nat, Lib.indexByte l 61 = o := ⟨(Lib.indexByte l 61).toNat, by omega⟩
    obtain ⟨h2, _⟩ := Lib.indexByte_some ho
    exact absurd h2 (h o (List.getElem?_eq_some_iff.1 h2).1)

set_option maxHeartbeats 800000 in
set_option maxRecDepth 100000 in
theorem rsplit_any (l : PL) (a : Option Addr) (cap : Nat) (w : World) (hl : Lies w a cap l) :
    Calls Tryd.prog 12 #[.slice a l.len cap] w fun e w' => e = .returned (.int .i64 (splitI l)) ∧ w = w' := by
  have HL := Lib.hid hl; clear hl
  have hle := HL.out.le
  cases l with
  | nil =>
    go_enter Tryd.func12, Tryd.ntmps12
    go_wp2
    go_ret
    exact ⟨rfl, rfl⟩
  | cons k q t o f r =>
    obtain ⟨b1, p1, rfl, hb1, c10, c11, c12, c13, ht, ho, a1, ca1, c14, hl1⟩ := HL.out.get (i := 0) rfl
    rw [Nat.zero_mul, Nat.add_zero] at c10 c11 c12 c13 c14
    have hlen : (PL.cons k q t o f r).len = r.len + 1 := rfl
    have hne : (((r.len + 1 : Nat) : Int) == 0) = false := by simp; omega
    have hne2 : ((r.len : Int) + 1 == 0) = false := by simp; omega
    rw [hlen]
    unfold R at ht
    cases hk : (k == 1) <;> cases q
    all_goals
      have hk2 : (k != 1) = !(k == 1) := rfl
      rw [hk] at hk2
    case true.false =>
      have HK := Lib.hid hk
      clear hk hlen hle hl1
      go_enter Tryd.func12, Tryd.ntmps12
      go_wp2
      go_loop [3] (fun i => ∃ j : Nat, j ≤ t.size ∧ i = .int .i64 j ∧ noEq t.data.toList j) (fun i => t.size - (intOf i).toNat)
      case atStart => exact ⟨0, Nat.zero_le _, rfl, fun j hj => by omega⟩
      case round =>
        obtain ⟨j, hj, rfl, hno⟩ := hrel
        have HNO := Lib.hid hno; clear hno
        by_cases hlt : j < t.size
        · have HG := Lib.hid (getB hlt)
          have hgt : t.data.toList[j]? = some (t.data.toList.getD j 0) := by simp [List.getD, hlt]
          have HGT := Lib.hid hgt; clear hgt
          cases hc : ((t[j].toNat : Int) == 61)
          · have HC := Lib.hid (show t[j] ≠ 61 by intro h; rw [h] at hc; simp at hc)
            go_wp2
            go_round
            case rel => exact ⟨j + 1, by omega, by go_num, noEq_succ HNO.out (by rw [HGT.out, ← HG.out]; intro h; exact HC.out (Option.some.inj h))⟩
            case measure => simp [intOf]; omega
          · have HC := Lib.hid (show t[j] = 61 by have := beq_iff_eq.1 hc; apply UInt8.toNat_inj.1; simp; omega)
            have hnm := fun w => rname_any (t.extract 0 j) w (by simp [ByteArray.size_extract]; omega)
            have hX : Lib.indexByte t.data.toList 61 = j := index_here HNO.out (by rw [HGT.out, ← HG.out, HC.out])
            rw [Lib.extract_data, List.drop_zero, Nat.sub_zero] at hnm
            cases hb : nameL (t.data.toList.take j)
            all_goals
              rw [hb] at hnm
              have HN := Lib.hid hnm; have HX := Lib.hid hX; have HB := Lib.hid hb
              clear hnm hX hb
              go_wp2_with (go_at_call 21; refine (HN.out _).mono ?_; rintro e w' ⟨rfl, rfl⟩)
              go_ret
              refine ⟨ret_int ?_, rfl⟩
              simp only [splitI, splitP, HK.out, eqT, HX.out, Int.toNat_natCast, HB.out]
              rw [if_pos (by decide), if_pos (by omega)]
              try rfl
        · obtain rfl : j = t.size := by omega
          go_wp2
          go_ret
          refine ⟨ret_int ?_, rfl⟩
          have hX := index_no (by rw [lenB]; exact HNO.out)
          simp only [splitI, splitP, HK.out, eqT, hX]
          rfl
    all_goals
      have HK := Lib.hid hk
      clear hk hlen hle hl1
      go_enter Tryd.func12, Tryd.ntmps12
      go_wp2
      go_ret
      exact ⟨ret_int (by simp [splitI, splitP, HK.out]), rfl⟩
end Sp
end Go.Proofs.YtpjdpmlneefafaaDoor
