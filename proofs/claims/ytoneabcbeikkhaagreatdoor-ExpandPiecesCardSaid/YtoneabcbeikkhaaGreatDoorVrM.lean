/- Get: whatever is asked. -/
/- varsAlive: the chapter's example. -/
import Derived.Test.YtoneabcbeikkhaaGreatDoorVrKa
namespace Go.Proofs.YtoneabcbeikkhaaGreatDoor
open Go.RowKit Go.Maps Cls
namespace Vr

/-- What a scope must be for its questions. -/
structure Fit (s : St) : Prop where
  srt : Srt s.vs
  nvs : s.vs.length < 1000000
  nargs : s.args.length ≤ 1000000
  join : (Lib.join (s.args.map bs) [32]).length ≤ 140737488355328
  st0 : -9223372036854775808 ≤ s.st
  st1 : s.st ≤ 9223372036854775807
  la0 : -9223372036854775808 ≤ s.la
  la1 : s.la ≤ 9223372036854775807
theorem get_any (s : St) (B q : Nat) (n : ByteArray) (w : World) (mv av : Value) (hsc : Sc w B q s mv av) (ht : Tab w) (hf : Fit s) (hn : n.size ≤ maxLen) :
    Calls Tryz.prog 31 #[.pointer (some ⟨q, 0, none⟩), .string n] w fun e w' => e = .returned (out (val s n)) ∧ Below w.heap.size w w' := by
  have hNS : n.size ≤ 9223372036854775807 := by unfold maxLen at hn; omega
  unfold val
  by_cases hnm : nameL (bs n) = true
  · rw [if_pos hnm]; exact get_name s B q n w mv av hsc hn hnm
  · have hnm' : nameL (bs n) = false := by simpa using hnm
    rw [if_neg hnm]
    by_cases hpm : paramL (bs n) = false
    · rw [if_pos hpm]; exact get_nothing s B q n w mv av hNS hnm' hpm
    · rw [if_neg hpm]
      have hpm' : paramL (bs n) = true := by simpa using hpm
      by_cases h1 : bs n = [48]
      · rw [if_pos h1]; exact get_sh s B q n w mv av hsc h1
      rw [if_neg h1]
      by_cases h2 : bs n = [35]
      · rw [if_pos h2]; exact get_count s B q n w mv av hsc ht hf.nargs h2
      rw [if_neg h2]
      by_cases h3 : bs n = [63]
      · rw [if_pos h3]; exact get_status s B q n w mv av hsc ht hf.st0 hf.st1 h3
      rw [if_neg h3]
      by_cases h4 : bs n = [36]
      · rw [if_pos h4]; exact get_pid s B q n w mv av hsc h4
      rw [if_neg h4]
      by_cases h5 : bs n = [33]
      · rw [if_pos h5]; exact get_last s B q n w mv av hsc ht hf.la0 hf.la1 h5
      rw [if_neg h5]
      by_cases h6 : bs n = [64] ∨ bs n = [42]
      · rw [if_pos h6]; exact get_all s B q n w mv av hsc hf.nargs hf.join h6
      rw [if_neg h6]
      exact get_argument s B q n w mv av hsc hNS hnm' hpm' h1 h2 h3 h4 h5 (fun e => h6 (.inl e)) (fun e => h6 (.inr e))
end Vr
end Go.Proofs.YtoneabcbeikkhaaGreatDoor

namespace Go.Proofs.YtoneabcbeikkhaaGreatDoor
open Go.RowKit Go.Maps Cls
namespace Vr

def s0 : St := ⟨[], [], 0, 0⟩
theorem fit0 : Fit s0 := ⟨Srt.nil, by simp [s0], by simp [s0], by simp [s0, Lib.join], by simp [s0], by simp [s0], by simp [s0], by simp [s0]⟩
def sAB : St := ⟨[], [tx [97], tx [98]], 0, 0⟩
theorem fitAB : Fit sAB := ⟨Srt.nil, by simp [sAB], by simp [sAB], by decide, by simp [sAB], by simp [sAB], by simp [sAB], by simp [sAB]⟩
theorem valAB2 : val sAB ⟨#[50]⟩ = some (tx [98]) := by decide
theorem valABs : val sAB ⟨#[42]⟩ = some (tx [97, 32, 98]) := by decide
theorem valAB3 : val sAB ⟨#[51]⟩ = none := by decide
theorem sc_new (w : World) : Sc (w.alloc (.cells #[.map none, .slice none 0 0, .int .i64 0, .int .i64 0] 58)) w.heap.size w.heap.size s0 (.map none) (.slice none 0 0) :=
  ⟨heap_alloc_new w _, Nat.le_refl _, .inl ⟨rfl, rfl⟩, .inl ⟨rfl, rfl⟩⟩
theorem below_alloc (w : World) (o : Obj) : Below w.heap.size w (w.alloc o) := (Below.refl _ w).alloc (Nat.le_refl _) o
end Vr
end Go.Proofs.YtoneabcbeikkhaaGreatDoor
