/- (*lex.reader).double. -/
import Derived.Test.YtgpnleenejjnmaaLxJ
namespace Go.Proofs.Ytgpnleenejjnmaa
open Go.RowKit Go.Sort
namespace Lx
open Cls Pt

def doubleF (n : Nat) (s : ByteArray) (d i : Nat) : Out :=
  match markedF n s 34 d A0 (i + 1) with
  | .bad j e => .bad j e
  | .ok m j => if s.size ≤ j then .bad i 1 else .ok (nz m) (j + 1)
def DoubleAt (s : ByteArray) (m : Nat) : Prop := ∀ (d i rb : Nat) (w : World), RAt w rb s i → i < s.size → s.size - i < m + 1 → d ≤ 200 →
  Calls Try.prog 86 #[.pointer (some ⟨rb, 0, none⟩), .int .i64 d] w (GotL rb s w (doubleF m s d i))

theorem lit_lies (w : World) (N : Nat) (hN : N ≤ w.heap.size) : LiesS (fun b => N ≤ b) (w.alloc (.cells #[.int .i64 1, .bool true, .string ⟨#[]⟩, .string ⟨#[]⟩, .slice none 0 0] 53)) (some ⟨w.heap.size, 0, none⟩) 1 (A.lit true []) := by
  intro w2 hs hk
  have h := (hk w.heap.size hN (by simp)).trans (heap_alloc_new w (.cells #[.int .i64 1, .bool true, .string ⟨#[]⟩, .string ⟨#[]⟩, .slice none 0 0] 53))
  have hc : ∀ j v, #[Value.int .i64 1, .bool true, .string ⟨#[]⟩, .string ⟨#[]⟩, .slice none 0 0][j]? = some v → w2.cell? ⟨w.heap.size, j, none⟩ = some v := fun j v hv => (Lib.cell_of_heap h j).trans hv
  exact ⟨Nat.le_refl _, (show 1 ≤ R by decide), .inr ⟨w.heap.size, 0, rfl, ⟨hc 0 _ rfl, hc 1 _ rfl, hc 2 _ rfl, hc 3 _ rfl, (by decide), (by decide)⟩, ⟨none, 0, hc 4 _ rfl, Nat.le_refl _, Nat.zero_le _, .inl rfl⟩, trivial⟩⟩

set_option maxHeartbeats 1600000 in
set_option maxRecDepth 100000 in
theorem double_step (s : ByteArray) (hs : s.size ≤ 1000000) (n : Nat) (IHM : MarkedAt s n) : DoubleAt s n := by
  intro d i rb w hR hi hf hd
  have hrb := hR.lt
  have c1 := hR.c1
  have f1 := hR.f1
  have h1 := hR.set (i + 1)
  have he1 : ((i + 1 : Nat) : Int) = (i : Int) + 1 := by omega
  rw [he1] at h1
  have hM := IHM 34 d (i + 1) rb _ (by rw [he1.symm] at h1; exact h1) (by omega) (by omega) hd
  rw [he1] at hM
  have hfw : FrR rb w.heap.size (fun _ => False) w (w.setCell ⟨rb, 1, none⟩ (.int .i64 ((i : Int) + 1))) := (FrR.refl _ _ _ _).set (fun h => h) _ _
  have hsz : (w.setCell ⟨rb, 1, none⟩ (.int .i64 ((i : Int) + 1))).heap.size = w.heap.size := by simp
  unfold doubleF
  have hk : ∀ w1, FrR rb (w.setCell ⟨rb, 1, none⟩ (.int .i64 ((i : Int) + 1))).heap.size (fun _ => False) (w.setCell ⟨rb, 1, none⟩ (.int .i64 ((i : Int) + 1))) w1 → FrR rb w.heap.size (fun _ => False) w w1 := fun w1 h => hfw.trans (by rw [hsz] at h; exact h)
  cases hm : markedF n s 34 d A0 (i + 1) with
  | bad j err =>
    rw [hm] at hM
    have HM := Lib.hid hM; have HK := Lib.hid hk
    clear hM hm h1 hR hfw hk hsz
    go_enter Try.func86, Try.ntmps86
    go_wp2_with fail
    refine (HM.out).mono ?_
    rintro e w1 ⟨rfl, ⟨j', hr⟩, hfr⟩
    have HX := Lib.hid (And.intro hr hfr)
    clear hr hfr
    go_wp2_with fail
    exact ⟨rfl, rfl, ⟨j', HX.out.1⟩, HK.out _ HX.out.2⟩
  | ok m j =>
    obtain ⟨e1, e2, e3⟩ := (ends_all s n).1 _ _ _ _ _ _ hm (by omega)
    rw [hm] at hM
    have HM := Lib.hid hM; have HK := Lib.hid hk; have HSZ := Lib.hid hsz
    clear hM hm h1 hR hfw hk hsz
    simp only []
    by_cases hj : s.size ≤ j
    · rw [if_pos hj]
      have hjs : ((j : Int) == (s.size : Int)) = true := by simp; omega
      go_enter Try.func86, Try.ntmps86
      go_wp2_with fail
      refine (HM.out).mono ?_
      rintro e w1 ⟨⟨a', cap', rfl, hl⟩, hr, hfr⟩
      have hE := ended_any rb j s w1 hr
      rw [hjs] at hE
      have HX := Lib.hid (And.intro hr hfr); have HE := Lib.hid hE
      clear hr hfr hl hE
      go_wp2_with fail
      refine (HE.out).mono ?_
      rintro e w2 ⟨rfl, n2, rfl⟩
      go_wp2_with fail
      refine (wrong_any _ _).mono ?_
      rintro e w3 ⟨rfl, rfl⟩
      go_wp2_with fail
      exact ⟨rfl, rfl, ⟨j, HX.out.1⟩, (HK.out _ HX.out.2).trans (FrR.drewN _ _ _ _ _)⟩
    · rw [if_neg hj]
      have hjs : ((j : Int) == (s.size : Int)) = false := by simp; omega
      cases m with
      | nil =>
        go_enter Try.func86, Try.ntmps86
        go_wp2_with fail
        refine (HM.out).mono ?_
        rintro e w1 ⟨⟨a', cap', rfl, hl⟩, hr, hfr⟩
        have hE := ended_any rb j s w1 hr
        rw [hjs] at hE
        have d1 := hr.c1
        have d2 := hr.f1
        have hw : w.heap.size ≤ w1.heap.size := (HK.out _ hfr).size
        have hw2 : w.heap.size ≤ (w1.setCell ⟨rb, 1, none⟩ (.int .i64 ((j : Int) + 1))).heap.size := by simp; exact hw
        have hrj : RAt (w1.setCell ⟨rb, 1, none⟩ (.int .i64 ((j : Int) + 1))) rb s (j + 1) := by
          have := hr.set (j + 1)
          rwa [show ((j + 1 : Nat) : Int) = (j : Int) + 1 by omega] at this
        have hfj : FrR rb w.heap.size (fun _ => False) w (w1.setCell ⟨rb, 1, none⟩ (.int .i64 ((j : Int) + 1))) := (HK.out _ hfr).set (fun h => h) _ _
        have HX := Lib.hid (And.intro hrj (And.intro hfj hw2)); have HE := Lib.hid hE
        have hlen : (PL.nil).len = 0 := rfl
        clear hr hfr hl hE hrj hfj hw hw2
        rw [hlen]
        go_wp2_with fail
        refine (HE.out).mono ?_
        rintro e w2 ⟨rfl, n2, rfl⟩
        go_wp2_with fail
        go_ret
        have hll := lit_lies (w1.setCell ⟨rb, 1, none⟩ (.int .i64 ((j : Int) + 1))) w.heap.size HX.out.2.2
        rw [show (w1.setCell ⟨rb, 1, none⟩ (.int .i64 ((j : Int) + 1))).heap.size = w1.heap.size by simp] at hll
        refine ⟨⟨_, _, rfl, hll.keep (Nat.le_refl _) (fun _ _ _ => rfl)⟩, ?_, ?_⟩
        · exact (Below.heap_alloc _ _ _ HX.out.1.lt).trans HX.out.1
        · exact (HX.out.2.1.trans (FrR.drewN _ _ _ _ n2)).trans (FrR.of_fr ((Fr.refl _ _ _).alloc _))
      | cons k q t o f r =>
        have hlen : (PL.cons k q t o f r).len = r.len + 1 := rfl
        have hl0 : (((r.len + 1 : Nat) : Int) == 0) = false := by simp; omega
        have hl1 : ((r.len : Int) + 1 == 0) = false := by simp; omega
        go_enter Try.func86, Try.ntmps86
        go_wp2_with fail
        refine (HM.out).mono ?_
        rintro e w1 ⟨⟨a', cap', rfl, hl⟩, hr, hfr⟩
        have hE := ended_any rb j s w1 hr
        rw [hjs] at hE
        have d1 := hr.c1
        have d2 := hr.f1
        have hrj : RAt (w1.setCell ⟨rb, 1, none⟩ (.int .i64 ((j : Int) + 1))) rb s (j + 1) := by
          have := hr.set (j + 1)
          rwa [show ((j + 1 : Nat) : Int) = (j : Int) + 1 by omega] at this
        have hfj : FrR rb w.heap.size (fun _ => False) w (w1.setCell ⟨rb, 1, none⟩ (.int .i64 ((j : Int) + 1))) := (HK.out _ hfr).set (fun h => h) _ _
        rw [HSZ.out] at hl
        have hlj : LiesS (fun b => w.heap.size ≤ b) (w1.setCell ⟨rb, 1, none⟩ (.int .i64 ((j : Int) + 1))) a' cap' (.cons k q t o f r) := hl.keep (by simp) fun b hb _ => Below.heap_setCell _ _ _ _ (by show b ≠ rb; omega)
        have HX := Lib.hid (And.intro hrj (And.intro hfj hlj)); have HE := Lib.hid hE
        clear hr hfr hl hE hrj hfj hlj
        rw [hlen]
        go_wp2_with fail
        refine (HE.out).mono ?_
        rintro e w2 ⟨rfl, n2, rfl⟩
        go_wp2_with fail
        go_ret
        exact ⟨⟨_, _, rfl, HX.out.2.2.keep (Nat.le_refl _) (fun _ _ _ => rfl)⟩, HX.out.1, HX.out.2.1.trans (FrR.drewN _ _ _ _ n2)⟩

theorem A.join_tot : ∀ (m : PL) (a : A), (a.join m).tot ≤ a.tot + Lx.tot m
  | .nil, a => by rw [A.join_nil]; simp [Lx.tot]
  | .cons k q t o f r, a => by
    rw [A.join_cons]
    have := A.join_tot r (a.step k q t o f)
    have := a.step_tot k q t o f
    simp only [Lx.tot]
    omega
end Lx
end Go.Proofs.Ytgpnleenejjnmaa
