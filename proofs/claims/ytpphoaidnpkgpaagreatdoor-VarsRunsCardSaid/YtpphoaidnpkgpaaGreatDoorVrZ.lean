/- VarsRuns where too much is asked. -/
import Derived.Test.YtpphoaidnpkgpaaGreatDoorVrXa
namespace Go.Proofs.YtpphoaidnpkgpaaGreatDoor
open Go.RowKit Go.Maps Cls
namespace Vr
set_option maxRecDepth 4000 in
set_option maxHeartbeats 1000000 in
theorem runs_big (l : List Ac) (a : Option Addr) (cap : Nat) (nl : List ByteArray) (na : Option Addr) (ncap : Nat) (w : World) (ht : Tab w) (h : 60 < l.length ∨ 30 < nl.length) :
    Calls Tryz.prog 3 #[.slice a l.length cap, .slice na nl.length ncap] w fun e w' => e = .returned (.bool true) ∧ Below w.heap.size w w' := by
  have HT := Lib.hid ht
  clear ht
  generalize l.length = p at h
  generalize nl.length = q at h
  have h1 : (60 : Int) < (p : Int) ∨ ¬ (60 : Int) < (p : Int) := by omega
  have HH := Lib.hid h
  clear h
  rcases h1 with h1 | h1
  · go_enter Tryz.func3, Tryz.ntmps3
    go_wp2_with fail
    refine (alive_any _ HT.out).mono ?_
    rintro e w1 ⟨rfl, hb1⟩
    have HB1 := Lib.hid hb1
    clear hb1
    go_wp2_with fail
    go_ret
    exact ⟨rfl, HB1.out⟩
  · have h2 : (30 : Int) < (q : Int) := by have := HH.out; omega
    go_enter Tryz.func3, Tryz.ntmps3
    go_wp2_with fail
    refine (alive_any _ HT.out).mono ?_
    rintro e w1 ⟨rfl, hb1⟩
    have HB1 := Lib.hid hb1
    clear hb1
    go_wp2_with fail
    go_ret
    exact ⟨rfl, HB1.out⟩
end Vr
end Go.Proofs.YtpphoaidnpkgpaaGreatDoor
