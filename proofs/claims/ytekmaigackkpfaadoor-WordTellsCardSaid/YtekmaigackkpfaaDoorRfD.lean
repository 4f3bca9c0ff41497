/- What the reference writes of parts: the program's text. -/
import Derived.Test.YtekmaigackkpfaaDoorRfA
import Derived.Test.YtekmaigackkpfaaDoorRfC
import Derived.Test.YtekmaigackkpfaaDoorPtK
import Derived.Test.YtekmaigackkpfaaDoorWrC
namespace Go.Proofs.YtekmaigackkpfaaDoor
open Go.RowKit Go.Sort
namespace Rf
open Cls Pt Bd

def escs : List UInt8 := [34, 36, 92, 96, 125]
theorem escs0 : ∀ n : Fin 256, amongB n escs = escB n := by decide +kernel
theorem escs_any (n : Nat) (h : n < 256) : amongB n escs = escB n := escs0 ⟨n, h⟩
theorem size_list (s : ByteArray) : s.size = s.data.toList.length := (lenB s).symm
theorem app_list (a b : ByteArray) : (a ++ b).data.toList = a.data.toList ++ b.data.toList := by simp
theorem of_list {s : ByteArray} {l : List UInt8} (h : s.data.toList = l) : s = ⟨l.toArray⟩ := by
  subst h
  rfl

set_option maxHeartbeats 4000000 in
set_option maxRecDepth 100000 in
theorem written_step (l : PL) (a : Option Addr) (cap at' : Nat) (w : World) (ha : at' ≤ 2) (hl : Lies w a cap l) (hsz : Bd.bytes l ≤ 100000)
    (hS : ∀ (f : PL) (a : Option Addr) (cap : Nat) (q : Bool) (w : World), f.size < l.size → Bd.bytes f ≤ Bd.bytes l → Lies w a cap f → Calls Tryd.prog 28 #[.slice a f.len cap, .int .i64 (wth q)] w fun e w' => e = .returned (.string ⟨(textL f (wth q)).toArray⟩) ∧ Below w.heap.size w w') :
    Calls Tryd.prog 28 #[.slice a l.len cap, .int .i64 at'] w fun e w' => e = .returned (.string ⟨(textL l at').toArray⟩) ∧ Below w.heap.size w w' := by
  have HL := Lib.hid hl; have HS := Lib.hid hS; have HSZ := Lib.hid hsz
  have HTL := Lib.hid (text_len l at')
  clear hl hS hsz
  have hle := HL.out.le
  go_enter Tryd.func28, Tryd.ntmps28
  go_wp2
  go_loopw [5, 13] (fun s i wr => ∃ (n : Nat) (S : ByteArray), n ≤ l.len ∧ s = .string S ∧ i = .int .i64 n ∧ textL l at' = S.data.toList ++ textL (l.drop n) at' ∧ Below w.heap.size w wr) (fun _ i wr => l.len - (intOf i).toNat)
  case atStart => exact ⟨0, ⟨#[]⟩, Nat.zero_le _, rfl, rfl, rfl, Below.refl _ _⟩
  case round =>
    obtain ⟨n, S, hn, rfl, rfl, htx, hb⟩ := hrel
    have HT := Lib.hid htx; have HB := Lib.hid hb
    have hSs : S.size ≤ 500000 := by
      have h1 := HTL.out
      have h2 := HSZ.out
      rw [htx, List.length_append, lenB] at h1
      omega
    clear htx hb
    by_cases hlt : n < l.len
    · obtain ⟨k, q, t, o, f, r, hdr⟩ := PL.drop_at hlt
      obtain ⟨b1, p1, rfl, hb1, c10, c11, c12, c13, ht, ho, a1, ca1, c14, hl1⟩ := (HL.out.below HB.out).get hdr
      have hszf : f.size < l.size := by
        have := PL.drop_size n l
        rw [hdr] at this
        simp only [PL.size] at this
        omega
      have hby := bytes_drop hdr
      have hble := bytes_drop_le n l
      have hz := HSZ.out
      have hts : t.size ≤ 100000 := by omega
      have hos : o.size ≤ 100000 := by omega
      have HFB := Lib.hid (show Bd.bytes f ≤ Bd.bytes l by omega)
      have hfl := text_len f (wth q)
      have hfs : (textL f (wth q)).length ≤ 500000 := by omega
      have HN := Lib.hid (show textL l at' = (S.data.toList ++ partT k q t o f at') ++ textL (l.drop (n + 1)) at' by
        rw [HT.out, PL.drop_succ hdr, hdr, textL_cons, List.append_assoc])
      have HLF := Lib.hid hl1
      clear ht ho hby hble hz hfl hdr hl1
      cases hk2 : (k == 2)
      · cases h2 : ((at' : Int) == 2)
        · have HNE := Lib.hid (show (at' == 2) = false by rw [← natI2]; exact h2)
          cases q
          · have HE := Lib.hid (show partT k false t o f at' = t.data.toList by simp [partT, hk2, HNE.out])
            have n1 : ¬ 9223372036854775807 < S.size + t.size := by omega
            go_wp2
            go_roundw
            case rel => exact ⟨n + 1, S ++ t, by omega, rfl, by go_num, by rw [app_list, HN.out, HE.out], thru HB.out (bel1 _ _)⟩
            case measure => simp [intOf]; omega
          · have HE := Lib.hid (show partT k true t o f at' = quoteL t.data.toList by simp [partT, hk2, HNE.out])
            have HQ := Lib.hid (fun w1 => rquote_any t w1 hts)
            have hql := quote_len t.data.toList
            rw [lenB] at hql
            have hqz : ByteArray.size ⟨(quoteL t.data.toList).toArray⟩ = (quoteL t.data.toList).length := by simp [ByteArray.size]
            have n1 : ¬ 9223372036854775807 < S.size + (quoteL t.data.toList).length := by omega
            have n2 : ¬ 9223372036854775807 < S.size + ByteArray.size ⟨(quoteL t.data.toList).toArray⟩ := by omega
            clear hql
            generalize hQ : quoteL t.data.toList = QL at HQ HE n1 n2 hqz
            clear hQ
            go_wp2_with (go_at_call 18; refine (HQ.out _).mono ?_; rintro e w2 ⟨rfl, hb2⟩)
            go_roundw
            case rel => exact ⟨n + 1, S ++ ⟨QL.toArray⟩, by omega, rfl, by go_num, by rw [app_list, HN.out, HE.out], thru HB.out (thru (bel1 _ _) hb2)⟩
            case measure => simp [intOf]; omega
        · have HNE := Lib.hid (show (at' == 2) = true by rw [← natI2]; exact h2)
          have HE := Lib.hid (show partT k q t o f at' = escL t.data.toList by simp [partT, hk2, HNE.out])
          have HTL2 := Lib.hid (lenB t)
          go_wp2
          go_loopw [5, 10] (fun s i w2 => ∃ (j : Nat) (S2 : ByteArray), j ≤ t.size ∧ s = .string S2 ∧ i = .int .i64 j ∧ S2.data.toList = S.data.toList ++ escL (t.data.toList.take j) ∧ w2 = wr.alloc (.cells #[.int .i64 k, .bool q, .string t, .string o, .slice a1 f.len ca1] 33)) (fun _ i w2 => t.size - (intOf i).toNat)
          case atStart => exact ⟨0, S, Nat.zero_le _, rfl, rfl, by simp [escL], rfl⟩
          case round =>
            obtain ⟨j, S2, hj, rfl, rfl, hs2, rfl⟩ := hrel
            have hl2 : S2.size ≤ 700000 := by
              have h1 := escL_take_len t.data.toList j
              rw [size_list S2, hs2, List.length_append, lenB]
              rw [lenB] at h1
              omega
            have H2 := Lib.hid hs2
            clear hs2
            by_cases hjt : j < t.size
            · have hjt' : j < t.data.toList.length := by simpa using hjt
              have HG := Lib.hid (getB hjt)
              have hbt := byte_lt t[j]
              have hA := fun w1 => among3_any t[j].toNat ⟨#[34, 36, 92, 96, 125]⟩ w1 (by decide)
              rw [show (ByteArray.data ⟨#[34, 36, 92, 96, 125]⟩).toList = escs from rfl, escs_any _ hbt] at hA
              have hxt : (t.extract j (j + 1)).data.toList = [t[j]] := by
                have h1 : (t.extract j (j + 1)).data.toList = (t.data.toList.drop j).take 1 := by simp [ByteArray.data_extract]
                have h2 : t.data.toList[j] = t[j] := by have := HG.out; simp only [List.getD, List.getElem?_eq_getElem hjt', Option.getD_some] at this; exact this.symm
                rw [h1, List.drop_eq_getElem_cons hjt', List.take_succ_cons, List.take_zero, h2]
              have hxs : (t.extract j (j + 1)).size = 1 := by rw [size_list, hxt]; rfl
              have HXT := Lib.hid hxt
              clear hxt
              cases he : escB t[j].toNat
              all_goals
                rw [he] at hA
                have HA := Lib.hid hA
                have HE2 := Lib.hid he
                clear hA he
              · have n1 : ¬ 9223372036854775807 < S2.size + 1 := by omega
                go_wp2_with (go_at_call 45; refine (HA.out _).mono ?_; rintro e w' ⟨rfl, rfl⟩)
                go_roundw
                case rel => exact ⟨j + 1, S2 ++ t.extract j (j + 1), by omega, rfl, by go_num, by rw [app_list, H2.out, HXT.out, escL_snoc hjt', ← HG.out, HE2.out]; simp, trivial⟩
                case measure => simp [intOf]; omega
              · have n1 : ¬ 9223372036854775807 < S2.size + 1 := by omega
                have n2 : ¬ 9223372036854775807 < S2.size + 1 + 1 := by omega
                go_wp2_with (go_at_call 45; refine (HA.out _).mono ?_; rintro e w' ⟨rfl, rfl⟩)
                go_roundw
                case rel => exact ⟨j + 1, S2 ++ ⟨#[92]⟩ ++ t.extract j (j + 1), by omega, rfl, by go_num, by rw [app_list, app_list, H2.out, HXT.out, escL_snoc hjt', ← HG.out, HE2.out]; simp, trivial⟩
                case measure => simp [intOf]; omega
            · obtain rfl : j = t.size := by omega
              go_wp2
              go_roundw
              case rel => exact ⟨n + 1, S2, by omega, rfl, by go_num, by rw [HN.out, HE.out, H2.out, List.take_of_length_le (by rw [HTL2.out]; exact Nat.le_refl _)], thru HB.out (bel1 _ _)⟩
              case measure => simp [intOf]; omega
      · have hk : k = 2 := by simpa using hk2
        subst hk
        have HFL := Lib.hid (fun dd os => Calls.regrown_of (HS.out f a1 ca1 q (grow (redrawn (wr.alloc (.cells #[.int .i64 2, .bool q, .string t, .string o, .slice a1 f.len ca1] 33)) dd) os) hszf HFB.out (HLF.out.below (thru (bel1 wr _) (below_regrown _ dd os)))))
        have HBX := Lib.hid (show Box (wr.alloc (.cells #[.int .i64 2, .bool q, .string t, .string o, .slice a1 f.len ca1] 33)) wr.heap.size 2 q t o a1 f.len ca1 from heap_alloc_new wr _)
        have HBL := Lib.hid (fun dq osq => thru HB.out (thru (bel1 wr (.cells #[.int .i64 2, .bool q, .string t, .string o, .slice a1 f.len ca1] 33)) (below_regrown _ dq osq)))
        have HPT := Lib.hid (show partT 2 q t o f at' = paramT q t o f at' from rfl)
        have n1 : ¬ 9223372036854775807 < 2 + t.size := by omega
        have n2 : ¬ 9223372036854775807 < 2 + t.size + o.size := by omega
        have HTF := Lib.hid (rfl : textL f (wth q) = textL f (wth q))
        clear HLF hk2
        generalize hF : textL f (wth q) = FL at HFL hfs HTF
        have HFF := Lib.hid hF
        clear hF HTF
        have n3 : ¬ 9223372036854775807 < 2 + t.size + o.size + FL.length := by omega
        have n4 : ¬ 9223372036854775807 < 2 + t.size + o.size + FL.length + 1 := by omega
        have n5 : ¬ 9223372036854775807 < S.size + (2 + t.size + o.size + FL.length + 1) := by omega
        have n6 : ¬ 9223372036854775807 < 1 + (2 + t.size + o.size + FL.length + 1) := by omega
        have n7 : ¬ 9223372036854775807 < 1 + (2 + t.size + o.size + FL.length + 1) + 1 := by omega
        have n8 : ¬ 9223372036854775807 < S.size + (1 + (2 + t.size + o.size + FL.length + 1) + 1) := by omega
        cases h2 : ((at' : Int) == 2) <;> cases q
        · have HNE := Lib.hid (show (at' == 2) = false by rw [← natI2]; exact h2)
          go_wp2
          generalize wr.alloc (.cells #[.int .i64 2, .bool false, .string t, .string o, .slice a1 f.len ca1] 33) = wA at HFL HBX HBL ⊢
          have r2 := cell_regrown (show wA.cell? ⟨wr.heap.size, 2, none⟩ = some (.string t) from HBX.out.cell 2)
          have r3 := cell_regrown (show wA.cell? ⟨wr.heap.size, 3, none⟩ = some (.string o) from HBX.out.cell 3)
          have r4 := cell_regrown (show wA.cell? ⟨wr.heap.size, 4, none⟩ = some (.slice a1 f.len ca1) from HBX.out.cell 4)
          have r1 := cell_regrown (show wA.cell? ⟨wr.heap.size, 1, none⟩ = some (.bool false) from HBX.out.cell 1)
          refine Qu.region (by kernel_rfl) (by kernel_rfl) ?_
          repeat (first
            | (first | refine Qu.carry0 rfl (fun K hK => ?_) | refine Qu.carryG rfl rfl rfl (fun K hK => ?_)
               go_simp
               first
               | (refine hK _ ?_; clear hK K)
               | (apply Exists.intro; refine ⟨fun _ => ?_, hK _ ?_⟩; exact HFL.out _ _; clear hK K))
            | (refine Qu.passG rfl rfl rfl (fun K hK => ?_); go_simp; refine hK _ ?_; clear hK K))
          refine Qu.fin ?_
          rintro ⟨dq, osq⟩
          have s1 := r1 dq osq
          go_wp2
          go_roundw
          case rel => exact ⟨n + 1, S ++ (⟨#[36, 123]⟩ ++ t ++ o ++ ⟨FL.toArray⟩ ++ ⟨#[125]⟩), by omega, rfl, by go_num, by rw [HN.out, HPT.out]; simp [paramT, HNE.out, HFF.out], HBL.out dq osq⟩
          case measure => simp [intOf]; omega
        · have HNE := Lib.hid (show (at' == 2) = false by rw [← natI2]; exact h2)
          go_wp2
          generalize wr.alloc (.cells #[.int .i64 2, .bool true, .string t, .string o, .slice a1 f.len ca1] 33) = wA at HFL HBX HBL ⊢
          have r2 := cell_regrown (show wA.cell? ⟨wr.heap.size, 2, none⟩ = some (.string t) from HBX.out.cell 2)
          have r3 := cell_regrown (show wA.cell? ⟨wr.heap.size, 3, none⟩ = some (.string o) from HBX.out.cell 3)
          have r4 := cell_regrown (show wA.cell? ⟨wr.heap.size, 4, none⟩ = some (.slice a1 f.len ca1) from HBX.out.cell 4)
          have r1 := cell_regrown (show wA.cell? ⟨wr.heap.size, 1, none⟩ = some (.bool true) from HBX.out.cell 1)
          refine Qu.region (by kernel_rfl) (by kernel_rfl) ?_
          repeat (first
            | (first | refine Qu.carry0 rfl (fun K hK => ?_) | refine Qu.carryG rfl rfl rfl (fun K hK => ?_)
               go_simp
               first
               | (refine hK _ ?_; clear hK K)
               | (apply Exists.intro; refine ⟨fun _ => ?_, hK _ ?_⟩; exact HFL.out _ _; clear hK K))
            | (refine Qu.passG rfl rfl rfl (fun K hK => ?_); go_simp; refine hK _ ?_; clear hK K))
          refine Qu.fin ?_
          rintro ⟨dq, osq⟩
          have s1 := r1 dq osq
          go_wp2
          go_roundw
          case rel => exact ⟨n + 1, S ++ (⟨#[34]⟩ ++ (⟨#[36, 123]⟩ ++ t ++ o ++ ⟨FL.toArray⟩ ++ ⟨#[125]⟩) ++ ⟨#[34]⟩), by omega, rfl, by go_num, by rw [HN.out, HPT.out]; simp [paramT, HNE.out, HFF.out], HBL.out dq osq⟩
          case measure => simp [intOf]; omega
        · have HNE := Lib.hid (show (at' == 2) = true by rw [← natI2]; exact h2)
          go_wp2
          generalize wr.alloc (.cells #[.int .i64 2, .bool false, .string t, .string o, .slice a1 f.len ca1] 33) = wA at HFL HBX HBL ⊢
          have r2 := cell_regrown (show wA.cell? ⟨wr.heap.size, 2, none⟩ = some (.string t) from HBX.out.cell 2)
          have r3 := cell_regrown (show wA.cell? ⟨wr.heap.size, 3, none⟩ = some (.string o) from HBX.out.cell 3)
          have r4 := cell_regrown (show wA.cell? ⟨wr.heap.size, 4, none⟩ = some (.slice a1 f.len ca1) from HBX.out.cell 4)
          have r1 := cell_regrown (show wA.cell? ⟨wr.heap.size, 1, none⟩ = some (.bool false) from HBX.out.cell 1)
          refine Qu.region (by kernel_rfl) (by kernel_rfl) ?_
          repeat (first
            | (first | refine Qu.carry0 rfl (fun K hK => ?_) | refine Qu.carryG rfl rfl rfl (fun K hK => ?_)
               go_simp
               first
               | (refine hK _ ?_; clear hK K)
               | (apply Exists.intro; refine ⟨fun _ => ?_, hK _ ?_⟩; exact HFL.out _ _; clear hK K))
            | (refine Qu.passG rfl rfl rfl (fun K hK => ?_); go_simp; refine hK _ ?_; clear hK K))
          refine Qu.fin ?_
          rintro ⟨dq, osq⟩
          have s1 := r1 dq osq
          go_wp2
          go_roundw
          case rel => exact ⟨n + 1, S ++ (⟨#[36, 123]⟩ ++ t ++ o ++ ⟨FL.toArray⟩ ++ ⟨#[125]⟩), by omega, rfl, by go_num, by rw [HN.out, HPT.out]; simp [paramT, HNE.out, HFF.out], HBL.out dq osq⟩
          case measure => simp [intOf]; omega
        · have HNE := Lib.hid (show (at' == 2) = true by rw [← natI2]; exact h2)
          go_wp2
          generalize wr.alloc (.cells #[.int .i64 2, .bool true, .string t, .string o, .slice a1 f.len ca1] 33) = wA at HFL HBX HBL ⊢
          have r2 := cell_regrown (show wA.cell? ⟨wr.heap.size, 2, none⟩ = some (.string t) from HBX.out.cell 2)
          have r3 := cell_regrown (show wA.cell? ⟨wr.heap.size, 3, none⟩ = some (.string o) from HBX.out.cell 3)
          have r4 := cell_regrown (show wA.cell? ⟨wr.heap.size, 4, none⟩ = some (.slice a1 f.len ca1) from HBX.out.cell 4)
          have r1 := cell_regrown (show wA.cell? ⟨wr.heap.size, 1, none⟩ = some (.bool true) from HBX.out.cell 1)
          refine Qu.region (by kernel_rfl) (by kernel_rfl) ?_
          repeat (first
            | (first | refine Qu.carry0 rfl (fun K hK => ?_) | refine Qu.carryG rfl rfl rfl (fun K hK => ?_)
               go_simp
               first
               | (refine hK _ ?_; clear hK K)
               | (apply Exists.intro; refine ⟨fun _ => ?_, hK _ ?_⟩; exact HFL.out _ _; clear hK K))
            | (refine Qu.passG rfl rfl rfl (fun K hK => ?_); go_simp; refine hK _ ?_; clear hK K))
          refine Qu.fin ?_
          rintro ⟨dq, osq⟩
          have s1 := r1 dq osq
          go_wp2
          go_roundw
          case rel => exact ⟨n + 1, S ++ (⟨#[36, 123]⟩ ++ t ++ o ++ ⟨FL.toArray⟩ ++ ⟨#[125]⟩), by omega, rfl, by go_num, by rw [HN.out, HPT.out]; simp [paramT, HNE.out, HFF.out], HBL.out dq osq⟩
          case measure => simp [intOf]; omega
    · obtain rfl : n = l.len := by omega
      go_wp2
      go_ret
      exact ⟨by rw [of_list (show S.data.toList = textL l at' by rw [HT.out, PL.drop_end (Nat.le_refl _)]; simp [textL])]; rfl, HB.out⟩
end Rf
end Go.Proofs.YtekmaigackkpfaaDoor
