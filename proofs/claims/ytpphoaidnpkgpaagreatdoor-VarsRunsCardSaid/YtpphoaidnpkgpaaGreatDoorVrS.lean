/- The reference's Get: a name; no parameter. -/
import Derived.Test.YtpphoaidnpkgpaaGreatDoorVrR
namespace Go.Proofs.YtpphoaidnpkgpaaGreatDoor
open Go.RowKit Go.Maps Cls
namespace Vr

theorem getV_take {vs : Vs} {n : ByteArray} {k : Nat} {p : ByteArray × ByteArray} (h : ∀ j q, j < k → vs[j]? = some q → q.1 ≠ n) (hk : vs[k]? = some p) (he : p.1 = n) : getV vs n = some p.2 := by
  induction vs generalizing k with
  | nil => simp at hk
  | cons q r ih =>
    cases k with
    | zero => cases hk; rw [getV, if_pos he]
    | succ k =>
      rw [getV, if_neg (h 0 q (by omega) rfl)]
      exact ih (fun j q' hj hq => h (j + 1) q' (by omega) hq) hk
theorem getV_none' {vs : Vs} {n : ByteArray} (h : ∀ j q, j < vs.length → vs[j]? = some q → q.1 ≠ n) : getV vs n = none :=
  getV_none fun p hp => by
    obtain ⟨j, hj, rfl⟩ := List.getElem_of_mem hp
    exact h j _ hj (List.getElem?_eq_getElem hj)
set_option maxRecDepth 4000 in
set_option maxHeartbeats 1000000 in
theorem rget_nothing (s : St) (n : ByteArray) (vv av : Value) (w : World) (hv : ∃ a n c, vv = .slice a n c) (ha : ∃ a n c, av = .slice a n c) (hn : n.size ≤ 9223372036854775807) (hname : nameL (bs n) = false) (hpm : paramL (bs n) = false) :
    Calls Tryz.prog 8 #[.agg #[vv, av, .int .i64 s.st, .int .i64 s.la], .string n] w fun e w' => e = .returned (out none) ∧ Below w.heap.size w w' := by
  obtain ⟨a1, n1, c1, rfl⟩ := hv
  obtain ⟨a2, n2, c2, rfl⟩ := ha
  go_enter Tryz.func8, Tryz.ntmps8
  go_wp2_with (first
    | (go_at_call 18; refine (rname_any n _ hn).mono ?_; rintro e w' ⟨rfl, rfl⟩; rw [show nameL n.data.toList = false from hname])
    | (go_at_call 19; refine (rparam_any n _ hn).mono ?_; rintro e w' ⟨rfl, rfl⟩; rw [show paramL n.data.toList = false from hpm]))
  go_ret2
  exact ⟨rfl, below_alloc w _⟩
set_option maxRecDepth 4000 in
set_option maxHeartbeats 1000000 in
theorem rget_name (s : St) (n : ByteArray) (vv av : Value) (w : World) (hp : Prs w vv s.vs) (ha : ∃ a n c, av = .slice a n c) (hl : s.vs.length ≤ 1000000) (hn : n.size ≤ 9223372036854775807) (hname : nameL (bs n) = true) :
    Calls Tryz.prog 8 #[.agg #[vv, av, .int .i64 s.st, .int .i64 s.la], .string n] w fun e w' => e = .returned (out (getV s.vs n)) ∧ Below w.heap.size w w' := by
  obtain ⟨a, cap, rfl, hcell⟩ := hp.cell
  obtain ⟨a2, n2, c2, rfl⟩ := ha
  have HC := Lib.hid hcell
  clear hp hcell
  go_enter Tryz.func8, Tryz.ntmps8
  go_wp2_with (go_at_call 18; refine (rname_any n _ hn).mono ?_; rintro e w' ⟨rfl, rfl⟩; rw [show nameL n.data.toList = true from hname])
  go_loopw [15] (fun i wr => ∃ k : Nat, k ≤ s.vs.length ∧ i = .int .i64 k ∧ (∀ j q, j < k → s.vs[j]? = some q → q.1 ≠ n) ∧ Below w.heap.size w wr) (fun i _ => s.vs.length - (intOf i).toNat)
  case atStart => exact ⟨0, Nat.zero_le _, rfl, fun j q h => absurd h (by omega), below_alloc w _⟩
  case round =>
    obtain ⟨k, hk, rfl, hno, hbw⟩ := hrel
    have HB := Lib.hid hbw; have HNO := Lib.hid hno
    rcases Nat.lt_or_ge k s.vs.length with hlt | hge
    · have hx : s.vs[k]? = some (s.vs[k]'hlt) := List.getElem?_eq_getElem hlt
      obtain ⟨b, off, rfl, hbl, hc1, hc2⟩ := HC.out k _ hx
      generalize s.vs[k] = p at hc1 hc2 hx
      obtain ⟨nm, x⟩ := p
      have q1 : wr.cell? ⟨b, off + k * 2, none⟩ = some (.string nm) := by rw [Nat.mul_comm]; exact (World.cell?_of_block (hbw.block b hbl)).trans hc1
      have q2 : wr.cell? ⟨b, off + k * 2 + 1, none⟩ = some (.string x) := by rw [Nat.mul_comm]; exact (World.cell?_of_block (hbw.block b hbl)).trans hc2
      have HX := Lib.hid hx
      clear hc1 hc2 hbw hno hx
      have hB2 := Lib.hid (HB.out.trans ((below_alloc wr (.cells #[.string nm, .string x] 50)).mono HB.out.size))
      by_cases he : nm = n
      · have t1 : (nm.toList == n.toList) = true := by rw [he]; simp
        have HE := Lib.hid he
        clear he
        go_wp2_with fail
        go_ret2
        exact ⟨by rw [getV_take HNO.out HX.out HE.out]; rfl, hB2.out⟩
      · have t1 : (nm.toList == n.toList) = false := by rw [beq_eq_false_iff_ne, Lib.toList_data, Lib.toList_data]; exact fun e => he (bs_inj e)
        go_wp2_with fail
        go_roundw
        case rel => exact ⟨k + 1, by omega, by go_num, fun j q hj hq => by
          by_cases e : j = k
          · subst e; rw [HX.out] at hq; cases hq; exact he
          · exact HNO.out j q (by omega) hq, hB2.out⟩
        case measure => simp [intOf]; omega
    · obtain rfl : k = s.vs.length := by omega
      have hg : getV s.vs n = none := getV_none' hno
      clear hno hbw
      go_wp2_with fail
      go_ret2
      exact ⟨by rw [hg]; rfl, HB.out⟩
end Vr
end Go.Proofs.YtpphoaidnpkgpaaGreatDoor
