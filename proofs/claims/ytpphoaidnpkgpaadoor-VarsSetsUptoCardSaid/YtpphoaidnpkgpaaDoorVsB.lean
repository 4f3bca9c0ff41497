/- VarsSets's walk. -/
import Derived.Test.YtpphoaidnpkgpaaDoorVsA
import Derived.Test.YtpphoaidnpkgpaaDoorVrF
namespace Go.Proofs.YtpphoaidnpkgpaaDoor
open Go.RowKit Go.Maps Cls
namespace Vr

/-- What the law is asked about. -/
structure Asks (vs : Vs) (args : List ByteArray) (st la : Int) (n v : ByteArray) : Prop where
  sizes : ∀ p ∈ vs, p.1.size ≤ 1048576 ∧ p.2.size ≤ 1048576
  join : (Lib.join (args.map bs) [32]).length ≤ 4194304
  st0 : -9223372036854775808 ≤ st
  st1 : st ≤ 9223372036854775807
  la0 : -9223372036854775808 ≤ la
  la1 : la ≤ 9223372036854775807
  nsz : n.size ≤ 1048576
  vsz : v.size ≤ 1048576

set_option maxRecDepth 4000 in
set_option maxHeartbeats 1000000 in
theorem sets_big (vs : Vs) (args : List ByteArray) (st la : Int) (n v : ByteArray) (a : Option Addr) (cap : Nat) (b : Option Addr) (cap2 : Nat) (w : World) (ht : Tab w) (hv : vs.length ≤ 1048576) (har : args.length ≤ 1048576) (hA : Asks vs args st la n v) (hbig : 30 < vs.length ∨ 30 < args.length ∨ 500 < n.size ∨ 1000 < v.size) :
    Calls Tryd.prog 3 #[.agg #[.slice a vs.length cap, .slice b args.length cap2, .int .i64 st, .int .i64 la], .string n, .string v] w fun e w' => e = .returned (.bool true) ∧ Below w.heap.size w w' := by
  have hn := hA.nsz; have hv2 := hA.vsz
  go_enter Tryd.func3, Tryd.ntmps3
  have HBG := Lib.hid hbig
  clear hbig
  go_wp2_with fail
  refine (alive_any _ (ht.stay (below_alloc _ _))).mono ?_
  rintro e w1 ⟨rfl, hb1⟩
  have hbx := (hb1.block w.heap.size (by simp [World.size_alloc])).trans (heap_alloc_new w _)
  have c0 := cell_of_row _ _ 0 _ _ _ hbx
  have c1 := cell_of_row _ _ 1 _ _ _ hbx
  simp at c0 c1
  have HB1 := Lib.hid ((below_alloc w _).trans (hb1.mono (by simp [World.size_alloc])))
  clear hb1 hbx
  rcases (show 30 < vs.length ∨ (¬ 30 < vs.length ∧ 30 < args.length) ∨ (¬ 30 < vs.length ∧ ¬ 30 < args.length ∧ 500 < n.size) ∨ (¬ 30 < vs.length ∧ ¬ 30 < args.length ∧ ¬ 500 < n.size ∧ 1000 < v.size) by have := HBG.out; omega) with h1 | ⟨h1, h2⟩ | ⟨h1, h2, h3⟩ | ⟨h1, h2, h3, h4⟩
  all_goals
    go_wp2_with fail
    go_ret
    exact ⟨rfl, HB1.out⟩
end Vr
end Go.Proofs.YtpphoaidnpkgpaaDoor
