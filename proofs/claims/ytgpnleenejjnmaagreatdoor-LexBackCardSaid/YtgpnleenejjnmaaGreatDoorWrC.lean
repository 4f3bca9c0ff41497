/- What the program writes of all parts; Text; Quote. -/
import Derived.Test.YtgpnleenejjnmaaGreatDoorWrB
namespace Go.Proofs.YtgpnleenejjnmaaGreatDoor
open Go.RowKit Go.Sort
namespace Bd
open Cls Pt

theorem bytes_drop : ∀ {n : Nat} {l r f : PL} {k : Int} {q : Bool} {t o : ByteArray}, l.drop n = .cons k q t o f r → bytes (l.drop n) = 1 + t.size + o.size + bytes f + bytes (l.drop (n + 1)) := fun {n l r f k q t o} h => by
  rw [PL.drop_succ h, h]; rfl
theorem bytes_drop_le : ∀ (n : Nat) (l : PL), bytes (l.drop n) ≤ bytes l
  | 0, _ => Nat.le_refl _
  | n + 1, .nil => Nat.le_refl _
  | n + 1, .cons _ _ _ _ _ r => by have := bytes_drop_le n r; simp only [PL.drop, bytes]; omega

set_option maxHeartbeats 1000000 in
set_option maxRecDepth 100000 in
theorem parts_step (w0 : World) (m : Int) (l : PL) (a : Option Addr) (cap at' : Nat) (acc : List UInt8) (w : World) (ha : at' ≤ 2) (hl : Lies w0 a cap l) (hm : w0.cell? ⟨0, 0, none⟩ = some (.int .i64 m)) (h : Is w0.heap.size acc w) (h0 : Below w0.heap.size w0 w)
    (hsz : bytes l ≤ 100000) (hlen : acc.length + 5 * bytes l ≤ 70368744177664)
    (hS : ∀ (f : PL) (a : Option Addr) (cap : Nat) (q : Bool) (acc : List UInt8) (w : World), f.size < l.size → bytes f ≤ bytes l → Lies w0 a cap f → Is w0.heap.size acc w → Below w0.heap.size w0 w → acc.length + 5 * bytes f ≤ 70368744177664 →
      Calls Tryz.prog 12 #[.pointer (some ⟨w0.heap.size, 0, none⟩), .slice a f.len cap, .int .i64 (wth q)] w fun e w' => e = .returned (.tuple #[]) ∧ Is w0.heap.size (acc ++ textL f (wth q)) w' ∧ Kept w0.heap.size w w') :
    Calls Tryz.prog 12 #[.pointer (some ⟨w0.heap.size, 0, none⟩), .slice a l.len cap, .int .i64 at'] w fun e w' => e = .returned (.tuple #[]) ∧ Is w0.heap.size (acc ++ textL l at') w' ∧ Kept w0.heap.size w w' := by
  have HL := Lib.hid hl; have HS := Lib.hid hS; have HI0 := Lib.hid h; have HB0 := Lib.hid h0; have HLN := Lib.hid hlen; have HSZ := Lib.hid hsz
  have hm0 : 0 < w0.heap.size := World.block_lt_of_cell? _ _ hm
  have HM := Lib.hid hm
  clear hl hS h h0 hlen hsz hm
  have hle := HL.out.le
  go_enter Tryz.func12, Tryz.ntmps12
  go_wp2
  go_loopw [10] (fun i wr => ∃ (n : Nat) (acc' : List UInt8), n ≤ l.len ∧ i = .int .i64 n ∧ Is w0.heap.size acc' wr ∧ acc ++ textL l at' = acc' ++ textL (l.drop n) at' ∧ Kept w0.heap.size w wr ∧ acc'.length + 5 * bytes (l.drop n) ≤ 70368744177664) (fun i wr => l.len - (intOf i).toNat)
  case atStart => exact ⟨0, acc, Nat.zero_le _, rfl, HI0.out, rfl, Kept.refl _ _, HLN.out⟩
  case round =>
    obtain ⟨n, acc', hn, rfl, hi, htx, hkp, hln⟩ := hrel
    have HI := Lib.hid hi; have HT := Lib.hid htx; have HK := Lib.hid hkp; have HN := Lib.hid hln; clear hi htx hkp hln
    by_cases hlt : n < l.len
    · obtain ⟨k, q, t, o, f, r, hdr⟩ := PL.drop_at hlt
      have HBW := Lib.hid (HB0.out.trans HK.out.1)
      obtain ⟨b1, p1, rfl, hb1, c10, c11, c12, c13, ht, ho, a1, ca1, c14, hl1⟩ := (HL.out.below HBW.out).get hdr
      obtain ⟨b2, p2, hb2, _, _, _, _, _, _, _, a2, ca2, d14, hl2⟩ := HL.out.get hdr
      obtain ⟨rfl, rfl⟩ : b1 = b2 ∧ p1 = p2 := by simpa using hb2
      have hd14 := d14
      rw [← HBW.out.cell (p := ⟨b1, p1 + n * 5 + 4, none⟩) (World.block_lt_of_cell? _ _ d14), c14] at d14
      obtain ⟨rfl, rfl⟩ : a1 = a2 ∧ ca1 = ca2 := by simpa using d14
      have hszf : f.size < l.size := by
        have := PL.drop_size n l
        rw [hdr] at this
        simp only [PL.size] at this
        omega
      have hby := bytes_drop hdr
      have hble := bytes_drop_le n l
      have hsz := HSZ.out
      have hln := HN.out
      have hpl := part_len k q t o f at'
      have HTX := Lib.hid (show acc ++ textL l at' = (acc' ++ partT k q t o f at') ++ textL (l.drop (n + 1)) at' by
        rw [HT.out, PL.drop_succ hdr, hdr, textL_cons, List.append_assoc])
      have HLX := Lib.hid (show (acc' ++ partT k q t o f at').length + 5 * bytes (l.drop (n + 1)) ≤ 70368744177664 by
        rw [List.length_append]; omega)
      have HLF := Lib.hid hl2
      have hmw := HBW.out.cell (p := ⟨0, 0, none⟩) hm0
      clear hb2 d14 hd14 hl1 hl2 hdr
      rw [HM.out] at hmw
      have HMW := Lib.hid hmw
      clear hmw
      have HF1 := Lib.hid (show 1 + t.size + o.size + bytes f ≤ 100000 ∧ acc'.length + 5 * (1 + t.size + o.size + bytes f) ≤ 70368744177664 ∧ bytes f ≤ bytes l from ⟨by omega, by omega, by omega⟩)
      clear hby hble hsz hln hpl
      cases hk2 : (k == 2)
      · cases h2 : ((at' : Int) == 2)
        · have HNE2 := Lib.hid (show (at' == 2) = false by rw [← natI2]; exact h2)
          cases q
          · have HE := Lib.hid (show partT k false t o f at' = t.data.toList by simp [partT, hk2, HNE2.out])
            rw [HE.out] at HTX HLX
            have HBX := Lib.hid (show Box (wr.alloc (.cells #[.int .i64 k, .bool false, .string t, .string o, .slice a1 f.len ca1] 37)) wr.heap.size k false t o a1 f.len ca1 from heap_alloc_new wr _)
            have HIA := Lib.hid (HI.out.below (bel1 wr (.cells #[.int .i64 k, .bool false, .string t, .string o, .slice a1 f.len ca1] 37)))
            have HKA := Lib.hid (HK.out.trans (Kept.of_below (bel1 wr (.cells #[.int .i64 k, .bool false, .string t, .string o, .slice a1 f.len ca1] 37)) (Nat.le_of_lt HI.out.lt)))
            go_wp2
            generalize wr.alloc (.cells #[.int .i64 k, .bool false, .string t, .string o, .slice a1 f.len ca1] 37) = w1 at HIA HBX HKA ⊢
            have r2 := cell_regrown (show w1.cell? ⟨wr.heap.size, 2, none⟩ = some (.string t) from HBX.out.cell 2)
            refine Qu.region_tail 5 (by kernel_rfl) (by kernel_rfl) ?_
            simp only [List.take_succ_cons, List.take_zero, List.drop_succ_cons, List.drop_zero]
            repeat (first
              | (first | refine Qu.carry0 rfl (fun K hK => ?_) | refine Qu.carryG rfl rfl rfl (fun K hK => ?_)
                 go_simp
                 first
                 | (refine hK _ ?_; clear hK K)
                 | (apply Exists.intro; refine ⟨fun _ => ?_, hK _ ?_⟩; fail; clear hK K))
              | (refine Qu.passG rfl rfl rfl (fun K hK => ?_); go_simp; refine hK _ ?_; clear hK K))
            refine Qu.fin ?_
            rintro ⟨dq, osq⟩
            have HY := Lib.hid (writeString_any _ acc' t _ (HIA.out.below (below_regrown _ dq osq)) (by have := HF1.out; omega))
            have HKB := Lib.hid (HKA.out.trans (Kept.of_below (below_regrown w1 dq osq) (Nat.le_of_lt HIA.out.lt)))
            clear r2
            generalize hwv : grow (redrawn w1 dq) osq = wv at HY HKB ⊢
            clear hwv
            go_wp2_with (go_at_call 20; refine (HY.out).mono ?_; rintro e w2 ⟨rfl, h3, h4⟩)
            have H3 := Lib.hid h3; have H4 := Lib.hid h4; clear h3 h4
            go_roundw
            case rel => exact ⟨n + 1, _, by omega, by go_num, H3.out, HTX.out, HKB.out.trans H4.out, HLX.out⟩
            case measure => simp [intOf]; omega
          · have HE := Lib.hid (show partT k true t o f at' = quoteL t.data.toList by simp [partT, hk2, HNE2.out])
            rw [HE.out] at HTX HLX
            have HIA := Lib.hid (HI.out.below (bel1 wr (.cells #[.int .i64 k, .bool true, .string t, .string o, .slice a1 f.len ca1] 37)))
            have HKA := Lib.hid (HK.out.trans (Kept.of_below (bel1 wr (.cells #[.int .i64 k, .bool true, .string t, .string o, .slice a1 f.len ca1] 37)) (Nat.le_of_lt HI.out.lt)))
            have HY := Lib.hid (quote_any w0.heap.size acc' t m (wr.alloc (.cells #[.int .i64 k, .bool true, .string t, .string o, .slice a1 f.len ca1] 37)) HIA.out (by rw [(bel1 wr (.cells #[.int .i64 k, .bool true, .string t, .string o, .slice a1 f.len ca1] 37)).cell (p := ⟨0, 0, none⟩) (Nat.lt_trans hm0 HI.out.lt)]; exact HMW.out) hm0 (by have := HF1.out; omega) (by have := HF1.out; omega))
            go_wp2_with (go_at_call 19; refine (HY.out).mono ?_; rintro e w2 ⟨rfl, h3, h4⟩)
            have H3 := Lib.hid h3; have H4 := Lib.hid h4; clear h3 h4
            go_roundw
            case rel => exact ⟨n + 1, _, by omega, by go_num, H3.out, HTX.out, HKA.out.trans H4.out, HLX.out⟩
            case measure => simp [intOf]; omega
        · have HNE2 := Lib.hid (show (at' == 2) = true by rw [← natI2]; exact h2)
          have HE := Lib.hid (show partT k q t o f at' = escL t.data.toList by simp [partT, hk2, HNE2.out])
          rw [HE.out] at HTX HLX
          have HIA := Lib.hid (HI.out.below (bel1 wr (.cells #[.int .i64 k, .bool q, .string t, .string o, .slice a1 f.len ca1] 37)))
          have HKA := Lib.hid (HK.out.trans (Kept.of_below (bel1 wr (.cells #[.int .i64 k, .bool q, .string t, .string o, .slice a1 f.len ca1] 37)) (Nat.le_of_lt HI.out.lt)))
          have HY := Lib.hid (escape_any w0.heap.size acc' t (wr.alloc (.cells #[.int .i64 k, .bool q, .string t, .string o, .slice a1 f.len ca1] 37)) HIA.out (by have := HF1.out; omega))
          go_wp2_with (go_at_call 18; refine (HY.out).mono ?_; rintro e w2 ⟨rfl, h3, h4⟩)
          have H3 := Lib.hid h3; have H4 := Lib.hid h4; clear h3 h4
          go_roundw
          case rel => exact ⟨n + 1, _, by omega, by go_num, H3.out, HTX.out, HKA.out.trans H4.out, HLX.out⟩
          case measure => simp [intOf]; omega
      · have HE := Lib.hid (show partT k q t o f at' = paramT q t o f at' by simp [partT, hk2])
        rw [HE.out] at HTX HLX
        have HIA := Lib.hid (HI.out.below (bel1 wr (.cells #[.int .i64 k, .bool q, .string t, .string o, .slice a1 f.len ca1] 37)))
        have HKA := Lib.hid (HK.out.trans (Kept.of_below (bel1 wr (.cells #[.int .i64 k, .bool q, .string t, .string o, .slice a1 f.len ca1] 37)) (Nat.le_of_lt HI.out.lt)))
        have HY := Lib.hid (param_walk w0 k q t o a1 ca1 at' f acc' (wr.alloc (.cells #[.int .i64 k, .bool q, .string t, .string o, .slice a1 f.len ca1] 37)) ha HIA.out (HB0.out.trans HKA.out.1) HF1.out.1 HF1.out.2.1 (fun acc w hi hb hln => HS.out f a1 ca1 q acc w hszf HF1.out.2.2 HLF.out hi hb hln))
        go_wp2_with (go_at_call 17; refine (HY.out).mono ?_; rintro e w2 ⟨rfl, h3, h4⟩)
        have H3 := Lib.hid h3; have H4 := Lib.hid h4; clear h3 h4
        go_roundw
        case rel => exact ⟨n + 1, _, by omega, by go_num, H3.out, HTX.out, HKA.out.trans H4.out, HLX.out⟩
        case measure => simp [intOf]; omega
    · obtain rfl : n = l.len := by omega
      go_wp2
      go_end0
      exact ⟨rfl, by have := HI.out; have h5 := HT.out; rw [PL.drop_end (Nat.le_refl _)] at h5; rw [h5]; simpa [textL] using this, HK.out⟩

theorem parts_any (w0 : World) (m : Int) (hm : w0.cell? ⟨0, 0, none⟩ = some (.int .i64 m)) (n : Nat) : ∀ (l : PL) (a : Option Addr) (cap at' : Nat) (acc : List UInt8) (w : World), l.size < n → at' ≤ 2 → Lies w0 a cap l → Is w0.heap.size acc w → Below w0.heap.size w0 w →
    bytes l ≤ 100000 → acc.length + 5 * bytes l ≤ 70368744177664 →
    Calls Tryz.prog 12 #[.pointer (some ⟨w0.heap.size, 0, none⟩), .slice a l.len cap, .int .i64 at'] w fun e w' => e = .returned (.tuple #[]) ∧ Is w0.heap.size (acc ++ textL l at') w' ∧ Kept w0.heap.size w w' := by
  induction n with
  | zero => intro _ _ _ _ _ _ h; omega
  | succ n ih =>
    intro l a cap at' acc w hn ha hl hi hb hsz hlen
    exact parts_step w0 m l a cap at' acc w ha hl hm hi hb hsz hlen (fun f a cap q acc w hf hbf hl hi hb hlen => ih f a cap (wth q) acc w (by omega) (by cases q <;> simp [wth]) hl hi hb (by omega) hlen)
end Bd
end Go.Proofs.YtgpnleenejjnmaaGreatDoor
