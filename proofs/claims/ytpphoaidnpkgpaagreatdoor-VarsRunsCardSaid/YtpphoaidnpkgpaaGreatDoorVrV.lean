/- great. -/
import Derived.Test.YtpphoaidnpkgpaaGreatDoorVrU
namespace Go.Proofs.YtpphoaidnpkgpaaGreatDoor
open Go.RowKit Go.Maps Cls
namespace Vr

/-- Something done. -/
structure Ac where
  kind : Int
  n : Int
  name : ByteArray
  value : ByteArray
  args : List ByteArray
/-- How much it is: that of the first texts. -/
def sumT (xs : List ByteArray) : Nat := (xs.map fun x => x.size + 1).sum
def gr (a : Ac) : Bool := decide (2000 < a.name.size + a.value.size + sumT a.args)
theorem sumT_succ {xs : List ByteArray} {k : Nat} {x : ByteArray} (h : xs[k]? = some x) : sumT (xs.take (k + 1)) = sumT (xs.take k) + (x.size + 1) := by
  unfold sumT; rw [List.take_add_one, h]; simp
theorem sumT_le (xs : List ByteArray) (k : Nat) : sumT (xs.take k) ≤ sumT xs := by
  have : sumT xs = sumT (xs.take k) + sumT (xs.drop k) := by
    unfold sumT; rw [← List.sum_append, ← List.map_append, List.take_append_drop]
  omega
set_option maxRecDepth 4000 in
set_option maxHeartbeats 1000000 in
theorem great_any (a : Ac) (av : Value) (w : World) (ha : Txt w av a.args) (hl : a.args.length ≤ 140737488355328) (hs : ∀ x ∈ a.args, x.size ≤ 140737488355328) (h1 : a.name.size ≤ 140737488355328) (h2 : a.value.size ≤ 140737488355328) :
    Calls Tryz.prog 5 #[.agg #[.int .i64 a.kind, .int .i64 a.n, .string a.name, .string a.value, av]] w fun e w' => e = .returned (.bool (gr a)) ∧ Below w.heap.size w w' := by
  obtain ⟨a0, cap, rfl, hcell⟩ := ha.cell
  have HC := Lib.hid hcell; have HS := Lib.hid hs
  clear ha hcell hs
  go_enter Tryz.func5, Tryz.ntmps5
  go_wp2_with fail
  go_loopw [3, 16] (fun nv i wr => ∃ k : Nat, k ≤ a.args.length ∧ i = .int .i64 k ∧ nv = .int .i64 ((a.name.size + a.value.size + sumT (a.args.take k) : Nat) : Int) ∧ (k = 0 ∨ a.name.size + a.value.size + sumT (a.args.take k) ≤ 2000) ∧ Below w.heap.size w wr) (fun _ i _ => a.args.length - (intOf i).toNat)
  case atStart => exact ⟨0, Nat.zero_le _, rfl, by simp [sumT], .inl rfl, below_alloc w _⟩
  case round =>
    obtain ⟨k, hk, rfl, rfl, hor, hbw⟩ := hrel
    have HB := Lib.hid hbw
    have hbound : a.name.size + a.value.size + sumT (a.args.take k) ≤ 281474976710656 := by
      rcases hor with rfl | h
      · simp [sumT]; omega
      · omega
    rcases Nat.lt_or_ge k a.args.length with hlt | hge
    · have hx : a.args[k]? = some (a.args[k]'hlt) := List.getElem?_eq_getElem hlt
      have hxs := HS.out _ (List.getElem_mem hlt)
      obtain ⟨b, off, rfl, hbl, hc1⟩ := HC.out k _ hx
      have hsucc := sumT_succ hx
      have hle := sumT_le a.args (k + 1)
      generalize a.args[k] = x at hc1 hsucc hxs
      have q1 : wr.cell? ⟨b, off + k, none⟩ = some (.string x) := (World.cell?_of_block (hbw.block b hbl)).trans hc1
      clear hc1 hbw hx
      generalize hM : a.name.size + a.value.size + sumT (a.args.take k) = M at hbound
      have HM := Lib.hid hM; have HSU := Lib.hid hsucc; have HLE := Lib.hid hle; have HOR := Lib.hid hor
      clear hM hsucc hle hor
      by_cases hbig : 2000 < M + (x.size + 1)
      · have hb2 : (2000 : Int) < (M : Int) + ((x.size : Int) + 1) := by omega
        go_wp2_with fail
        go_ret
        exact ⟨congrArg (fun b => Ending.returned (.bool b)) (decide_eq_true (by have := HM.out; have := HSU.out; have := HLE.out; omega)).symm, HB.out⟩
      · have hb2 : ¬ (2000 : Int) < (M : Int) + ((x.size : Int) + 1) := by omega
        go_wp2_with fail
        go_roundw
        case rel => exact ⟨k + 1, by omega, by go_num, by
          have := HM.out; have := HSU.out
          exact congrArg (Value.int .i64) (by omega), .inr (by have := HM.out; have := HSU.out; omega), HB.out⟩
        case measure => simp [intOf]; omega
    · obtain rfl : k = a.args.length := by omega
      rw [List.take_length] at hbound
      have hg : gr a = decide ((2000 : Int) < ((a.name.size + a.value.size + sumT a.args : Nat) : Int)) := by
        unfold gr; exact decide_eq_decide.2 (by omega)
      have HGR := Lib.hid hg
      clear hor hbw hg
      rw [List.take_length] at *
      generalize a.name.size + a.value.size + sumT a.args = M at hbound HGR
      go_wp2_with fail
      go_ret
      exact ⟨by rw [HGR.out]; rfl, HB.out⟩
end Vr
end Go.Proofs.YtpphoaidnpkgpaaGreatDoor
