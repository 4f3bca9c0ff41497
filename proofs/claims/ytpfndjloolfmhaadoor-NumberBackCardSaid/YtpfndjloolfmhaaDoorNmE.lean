/- NumberBack's walk (layer 14). -/
import Derived.Test.YtpfndjloolfmhaaDoorNmC
namespace Go.Proofs.YtpfndjloolfmhaaDoor
open Go.RowKit Cls
open Lib (decFrom)
namespace Num14
theorem sub_status (k : Int) (h : 0 ≤ k) (h2 : k < 1000000000) : (k - k % 256).tmod 256 = 0 := by
  rw [Int.tmod_eq_emod_of_nonneg (by omega)]; omega
set_option maxHeartbeats 800000 in
theorem back_any (n : Nat) (hn : n < 4294967296) (w : World) (ht : Tab w) :
    Calls Tryd.prog 4 #[.int .u32 n] w fun e w' => e = .returned (.bool true) ∧ Below w.heap.size w w' := by
  obtain ⟨k, hk, hkn⟩ : ∃ k : Nat, k < 1000000000 ∧ ((n : Int) % 1000000000) = (k : Int) := ⟨n % 1000000000, Nat.mod_lt _ (by decide), by omega⟩
  have z1 := itoa_size (k : Int) (by omega) (by omega)
  have z2 := itoa_size (-(k : Int) - 1) (by omega) (by omega)
  have T1 := fun w (ht : Tab w) => text_any (k : Int) (by omega) (by omega) w ht
  have T2 := fun w (ht : Tab w) => text_any (-(k : Int) - 1) (by omega) (by omega) w ht
  have R1 : ∀ w, Calls Tryd.prog 6 #[.string (tx (Lib.itoa k))] w fun e w' => e = .returned (.tuple #[.int .i64 k, .bool true]) ∧ w = w' := fun w => by
    have := read_any (tx (Lib.itoa k)) w (by omega)
    rw [bs_tx, Lib.itoa_nonneg, rd_back k hk] at this
    rw [Lib.itoa_nonneg]
    exact this
  have R2 : ∀ w, Calls Tryd.prog 6 #[.string (tx (Lib.itoa (-(k : Int) - 1)))] w fun e w' => e = .returned (.tuple #[.int .i64 0, .bool false]) ∧ w = w' := fun w => by
    have e : -(k : Int) - 1 = -((k + 1 : Nat) : Int) := by omega
    have := read_any (tx (Lib.itoa (-(k : Int) - 1))) w (by omega)
    rw [e] at this ⊢
    rw [bs_tx, Lib.itoa_neg _ (by omega), rd_minus] at this
    rw [Lib.itoa_neg _ (by omega)]
    exact this
  obtain ⟨s, hs, hs0, hs1⟩ : ∃ s : Int, (k : Int) % 256 = s ∧ 0 ≤ s ∧ s < 256 := ⟨_, rfl, (status_in _).1, (status_in _).2⟩
  have S1 : ∀ w, Calls Tryd.prog 10 #[.int .i64 k] w fun e w' => e = .returned (.int .i64 s) ∧ w = w' := fun w => by
    rw [← hs]; exact status_any _ w (by omega) (by omega)
  have S2 : ∀ w, Calls Tryd.prog 10 #[.int .i64 s] w fun e w' => e = .returned (.int .i64 s) ∧ w = w' := fun w => by
    have := status_any s w (by omega) (by omega)
    rw [show s % 256 = s by omega] at this
    exact this
  have hm : ((k : Int) - s).tmod 256 = 0 := by rw [← hs]; exact sub_status _ (by omega) (by omega)
  have HT := Lib.hid ht
  clear ht hs
  generalize tx (Lib.itoa k) = A at T1 R1 z1
  generalize tx (Lib.itoa (-(k : Int) - 1)) = B at T2 R2 z2
  go_enter Tryd.func4, Tryd.ntmps4
  go_wp2_with (first
    | (go_at_call 5; refine (alive_any _).mono ?_; rintro e w1 ⟨rfl, rfl⟩)
    | (go_at_call_of 12 (Value.int IntKind.i64 (k : Int)); refine (T1 _ HT.out).mono ?_; rintro e w1 ⟨rfl, hb1⟩; have HT1 := Lib.hid (HT.out.stay hb1))
    | (go_at_call 12; refine (T2 _ HT1.out).mono ?_; rintro e w2 ⟨rfl, hb2⟩)
    | (go_at_call_of 6 (Value.string A); refine (R1 _).mono ?_; rintro e w3 ⟨rfl, rfl⟩)
    | (go_at_call_of 6 (Value.string B); refine (R2 _).mono ?_; rintro e w3 ⟨rfl, rfl⟩)
    | (go_at_call_of 10 (Value.int IntKind.i64 (k : Int)); refine (S1 _).mono ?_; rintro e w3 ⟨rfl, rfl⟩)
    | (go_at_call_of 10 (Value.int IntKind.i64 s); refine (S2 _).mono ?_; rintro e w3 ⟨rfl, rfl⟩))
  go_ret
  exact ⟨rfl, hb1.trans (hb2.mono hb1.size)⟩
end Num14
end Go.Proofs.YtpfndjloolfmhaaDoor
