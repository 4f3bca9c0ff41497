/- KernMany's walk. -/
import Derived.Test.YtlebglnlkkoakaaKnNa
namespace Go.Proofs.Ytlebglnlkkoakaa
open Go.RowKit Go.Maps
namespace Kn
theorem new0 : newT 0 = gone 0 := by
  unfold newT gone one
  rw [show looseN 0 = 0 by kernel_rfl]; rfl
theorem new0' : newT 0 = many 0 := by
  unfold newT many one
  rw [show looseN 0 = 0 by kernel_rfl]; rfl
theorem row_shape {w : World} {base : Nat} {e : TypeId} {size : Nat} {v : Value} {n : Nat} {xs : List Value} (h : w.ownsRow base e size v n xs) : ∃ a cap, v = .slice a n cap := by
  rcases h.2 with ⟨rfl, rfl⟩ | ⟨g, cap, cur, rfl, _⟩
  · exact ⟨_, _, rfl⟩
  · exact ⟨_, _, rfl⟩
set_option maxRecDepth 8000 in
set_option maxHeartbeats 1600000 in
theorem many_reap (n : Nat) (hn : n < 256) (w : World) : Calls Try.prog 4 #[.int .u8 n, .bool true] w fun e w' => e = .returned (.bool true) ∧ Below w.heap.size w w' := by
  have i1 : I64 1 := by unfold I64; omega
  go_enter Try.func4, Try.ntmps4
  go_wp2_with fail
  refine (alive_law w).mono ?_
  rintro e w1 ⟨rfl, hb1⟩
  have HB1 := Lib.hid hb1
  clear hb1
  go_wp2_with fail
  refine (now_new 0 (by decide) w w1 HB1.out).mono ?_
  rintro e w2 ⟨tb, rfl, N2⟩
  rw [new0] at N2
  have HN2 := Lib.hid N2
  clear N2 HB1
  go_wp2_with fail
  go_loopw [19] (fun i wr => ∃ k : Nat, k ≤ n ∧ i = .int .i64 k ∧ Now w w1.heap.size tb (3 * k) (gone k) wr) (fun i _ => n - (intOf i).toNat)
  case atStart => exact ⟨0, Nat.zero_le _, rfl, HN2.out⟩
  case round =>
    obtain ⟨k, hk, rfl, N3⟩ := hrel
    by_cases hlt : k < n
    · have HF := Lib.hid (N3.fork (by omega) 1 i1)
      rw [gone_fork] at HF
      clear N3
      go_wp2_with fail
      refine HF.out.mono ?_
      rintro e w4 ⟨rfl, N4⟩
      have HF := Lib.hid (N4.exit (by omega) ((k : Int) + 2) k (by unfold I64; omega) (by unfold I64; omega))
      rw [gone_exit] at HF
      clear N4
      go_wp2_with fail
      refine HF.out.mono ?_
      rintro e w5 ⟨rfl, N5⟩
      have HF := Lib.hid (N5.reap 1 ((k : Int) + 2) i1 (by unfold I64; omega))
      rw [gone_reap, show (k : Int) % 256 = k by omega] at HF
      clear N5
      go_wp2_with fail
      refine HF.out.mono ?_
      rintro e w6 ⟨rfl, N6⟩
      have HN := Lib.hid N6
      clear N6
      go_wp2_with fail
      go_roundw
      case rel => exact ⟨k + 1, by omega, by go_num, HN.out⟩
      case measure => simp [intOf]; omega
    · obtain rfl : k = n := by omega
      have HL := Lib.hid N3.len
      rw [show ((gone k).l.length : Int) = 1 from rfl] at HL
      have HE := Lib.hid (N3.ends (by omega))
      have HN := Lib.hid N3
      clear N3
      go_wp2_with (go_at_call 30; refine HL.out.mono ?_; rintro e w' ⟨rfl, rfl⟩)
      refine HE.out.mono ?_
      rintro e w6 ⟨v, rfl, ho, hb⟩
      obtain ⟨a, cap, rfl⟩ := row_shape ho
      have HC := Lib.hid ((HN.out.more hb).children 1 i1)
      have HB6 := Lib.hid ((HN.out.more hb).below)
      clear ho hb
      go_wp2_with fail
      refine HC.out.mono ?_
      rintro e w7 ⟨v7, rfl, ho, hb⟩
      obtain ⟨a7, cap7, rfl⟩ := row_shape ho
      have HB7 := Lib.hid (HB6.out.trans (hb.mono HB6.out.size))
      clear ho hb
      go_wp2_with fail
      all_goals
        go_ret
        exact ⟨rfl, HB7.out⟩
theorem many_kids {n : Nat} (O : Ok (many n)) : (suchL (many n) (child (many n) 1)).length = n := by
  unfold suchL
  have hl : live (many n) 1 = true := rfl
  have h1 : ∀ p ∈ (List.range n).map dead, child (many n) 1 p.pid = true := fun p hp => by
    have hm : p ∈ (many n).l := List.mem_cons_of_mem _ hp
    unfold child
    rw [find_mem O hm, hl]
    obtain ⟨k, _, rfl⟩ := List.mem_map.1 hp
    rfl
  have h0 : child (many n) 1 one.pid = false := by
    unfold child
    rw [find_mem O (show one ∈ (many n).l from List.mem_cons_self)]
    rfl
  rw [List.length_map]
  show ((one :: (List.range n).map dead).filter _).length = n
  rw [List.filter_cons_of_neg (by simp [h0]), List.filter_eq_self.2 h1]
  simp
set_option maxRecDepth 8000 in
set_option maxHeartbeats 1600000 in
theorem many_keep (n : Nat) (hn : n < 256) (w : World) : Calls Try.prog 4 #[.int .u8 n, .bool false] w fun e w' => e = .returned (.bool true) ∧ Below w.heap.size w w' := by
  have i1 : I64 1 := by unfold I64; omega
  go_enter Try.func4, Try.ntmps4
  go_wp2_with fail
  refine (alive_law w).mono ?_
  rintro e w1 ⟨rfl, hb1⟩
  have HB1 := Lib.hid hb1
  clear hb1
  go_wp2_with fail
  refine (now_new 0 (by decide) w w1 HB1.out).mono ?_
  rintro e w2 ⟨tb, rfl, N2⟩
  rw [new0'] at N2
  have HN2 := Lib.hid N2
  clear N2 HB1
  go_wp2_with fail
  go_loopw [19] (fun i wr => ∃ k : Nat, k ≤ n ∧ i = .int .i64 k ∧ Now w w1.heap.size tb (3 * k) (many (min k 63)) wr) (fun i _ => n - (intOf i).toNat)
  case atStart => exact ⟨0, Nat.zero_le _, rfl, HN2.out⟩
  case round =>
    obtain ⟨k, hk, rfl, N3⟩ := hrel
    by_cases hlt : k < n
    · by_cases h63 : k < 63
      · rw [show min k 63 = k by omega] at N3
        have HF := Lib.hid (N3.fork (by omega) 1 i1)
        rw [many_fork k h63] at HF
        clear N3
        go_wp2_with fail
        refine HF.out.mono ?_
        rintro e w4 ⟨rfl, N4⟩
        have HF := Lib.hid (N4.exit (by omega) ((k : Int) + 2) k (by unfold I64; omega) (by unfold I64; omega))
        rw [many_exit] at HF
        clear N4
        go_wp2_with fail
        refine HF.out.mono ?_
        rintro e w5 ⟨rfl, N5⟩
        have HN := Lib.hid N5
        clear N5
        go_wp2_with fail
        go_roundw
        case rel => exact ⟨k + 1, by omega, by go_num, by rw [show min (k + 1) 63 = k + 1 by omega]; obtain ⟨h, e, T, I, r⟩ := HN.out; exact ⟨h, e, T, I.more, r⟩⟩
        case measure => simp [intOf]; omega
      · rw [show min k 63 = 63 by omega] at N3
        have HF := Lib.hid (N3.fork (by omega) 1 i1)
        rw [many_full 63 (Nat.le_refl _)] at HF
        clear N3
        go_wp2_with fail
        refine HF.out.mono ?_
        rintro e w4 ⟨rfl, N4⟩
        have HL := Lib.hid N4.len
        rw [show ((many 63).l.length : Int) = 64 by rw [many_len]; rfl] at HL
        have HN := Lib.hid N4
        clear N4
        go_wp2_with (go_at_call 30; refine HL.out.mono ?_; rintro e w' ⟨rfl, rfl⟩)
        go_roundw
        case rel => exact ⟨k + 1, by omega, by go_num, by rw [show min (k + 1) 63 = 63 by omega]; obtain ⟨h, e, T, I, r⟩ := HN.out; exact ⟨h, e, T, I.more.more, r⟩⟩
        case measure => simp [intOf]; omega
    · obtain rfl : k = n := by omega
      obtain ⟨m, hm⟩ : ∃ m, m = min k 63 := ⟨_, rfl⟩
      have hm63 : m ≤ 63 := by omega
      rw [← hm] at N3
      clear hm
      have HL := Lib.hid N3.len
      rw [many_len] at HL
      have HE := Lib.hid (N3.ends (by omega))
      rw [many_ends] at HE
      have HK := Lib.hid (many_kids N3.inv.ok)
      have HN := Lib.hid N3
      clear N3
      go_wp2_with (go_at_call 30; refine HL.out.mono ?_; rintro e w' ⟨rfl, rfl⟩)
      refine HE.out.mono ?_
      rintro e w6 ⟨v, rfl, ho, hb⟩
      obtain ⟨a, cap, rfl⟩ := row_shape ho
      have HC := Lib.hid ((HN.out.more hb).children 1 i1)
      rw [HK.out] at HC
      have HB6 := Lib.hid ((HN.out.more hb).below)
      clear ho hb
      go_wp2_with fail
      refine HC.out.mono ?_
      rintro e w7 ⟨v7, rfl, ho, hb⟩
      obtain ⟨a7, cap7, rfl⟩ := row_shape ho
      have HB7 := Lib.hid (HB6.out.trans (hb.mono HB6.out.size))
      clear ho hb
      go_wp2_with fail
      all_goals
        go_ret
        exact ⟨rfl, HB7.out⟩
theorem many_law (n : Nat) (hn : n < 256) (b : Bool) (w : World) : Calls Try.prog 4 #[.int .u8 n, .bool b] w fun e w' => e = .returned (.bool true) ∧ Below w.heap.size w w' := by
  cases b
  · exact many_keep n hn w
  · exact many_reap n hn w
end Kn
end Go.Proofs.Ytlebglnlkkoakaa
