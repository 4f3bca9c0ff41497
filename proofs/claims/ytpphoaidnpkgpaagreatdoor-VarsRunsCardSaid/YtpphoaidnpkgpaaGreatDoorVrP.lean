/- The reference's Shift. -/
import Derived.Test.YtpphoaidnpkgpaaGreatDoorVrO
import Derived.Test.YtpphoaidnpkgpaaGreatDoorClsR
import Derived.Test.YtpphoaidnpkgpaaGreatDoorVrQ
namespace Go.Proofs.YtpphoaidnpkgpaaGreatDoor
open Go.RowKit Go.Maps Cls
namespace Vr

theorem results_row_tmp {P : Program} {fn : Func} {p u : Tmp} {ty : TypeId} (h : fn.results = #[.cell p ty, .tmp u]) (tmps : Array Value) (w : World) (g : Nat) (t : TypeId) (cs : Array Value) (fr : Nat × Nat) (d : TypeDesc)
    (hp : tmps.getD p undef = .pointer (some ⟨g, 0, none⟩)) (hg : w.heap[g]? = some (.cells cs t fr))
    (hu : P.underlying ty = some d) (hd : (match d with | .struct _ | .array _ _ => true | _ => false) = true) (hi : (P.info? ty).map (·.size) = some cs.size) :
    (results fn tmps).run P w = .ok (.tuple #[.agg cs, tmps.getD u undef]) w := by
  rw [results_cell_tmp h, hp]
  simp [asAddr, run_loadVar_row w g t ty cs fr d hg hu hd hi, Result.andThen]
theorem new2 (w : World) (x y : Obj) : ((w.alloc x).alloc y).heap[w.heap.size + 1]? = some y := by
  show ((w.heap.push x).push y)[w.heap.size + 1]? = some y
  rw [Array.getElem?_push, if_pos (by simp)]
theorem Txt.drop {w : World} {a : Option Addr} {cap : Nat} {xs : List ByteArray} (h : Txt w (.slice a xs.length cap) xs) {m : Nat} (hm : m ≤ xs.length) : Txt w (.slice (a.map fun x => x.add m) (xs.length - m) (cap - m)) (xs.drop m) := by
  rcases Nat.eq_or_lt_of_le hm with he | hlt
  · exact .inl ⟨List.drop_eq_nil_of_le (by omega), a.map fun x => x.add m, cap - m, by rw [he, Nat.sub_self]⟩
  · rcases h with ⟨h0, _⟩ | ⟨b, off, cap', hs, h1, h2, h3⟩
    · rw [h0] at hlt; simp at hlt
    · injection hs with e1 e2 e3
      subst e1; subst e3
      refine .inr ⟨b, off + m, cap - m, by rw [List.length_drop, Option.map_some, Go.WideShapes.add_plain], by rw [List.length_drop]; omega, h2, fun j x hj => ?_⟩
      rw [List.getElem?_drop] at hj
      rw [Nat.add_assoc]; exact h3 _ x hj
theorem own_slice (a : Option Addr) (n c : Nat) : (Value.slice a n c).ownBlock = a.map (·.block) := by cases a <;> rfl
theorem own_add (a : Option Addr) (m n c n' c' : Nat) : (Value.slice (a.map fun x => x.add m) n c).ownBlock = (Value.slice a n' c').ownBlock := by
  rw [own_slice, own_slice]
  cases a with
  | none => rfl
  | some x =>
    obtain ⟨b, o, s⟩ := x
    simp only [Option.map_some, Addr.add]
    split <;> rfl
theorem Txt.cap {w : World} {a : Option Addr} {cap : Nat} {xs : List ByteArray} (h : Txt w (.slice a xs.length cap) xs) : xs.length ≤ cap := by
  rcases h with ⟨h0, _⟩ | ⟨b, off, cap', hs, h1, h2, h3⟩
  · rw [h0]; simp
  · injection hs with e1 e2 e3; omega
set_option maxRecDepth 4000 in
set_option maxHeartbeats 1000000 in
theorem rshift_any (s : St) (n : Int) (vv av : Value) (w : World) (hvv : ∃ a n c, vv = .slice a n c) (ha : Txt w av s.args) (hl : s.args.length ≤ 1000000) :
    Calls Tryz.prog 11 #[.agg #[vv, av, .int .i64 s.st, .int .i64 s.la], .int .i64 n] w fun e w' => Below w.heap.size w w' ∧
      ∃ av', Txt w av' (if 0 ≤ n ∧ n ≤ s.args.length then s.args.drop n.toNat else s.args) ∧ (∃ a n c, av' = .slice a n c) ∧ (av'.ownBlock = av.ownBlock) ∧ e = .returned (.tuple #[.agg #[vv, av', .int .i64 s.st, .int .i64 s.la], .bool (decide (0 ≤ n ∧ n ≤ s.args.length))]) := by
  obtain ⟨a1, n1, c1, rfl⟩ := hvv
  obtain ⟨a, cap, rfl, hcell⟩ := ha.cell
  by_cases hno : 0 ≤ n ∧ n ≤ s.args.length
  · rw [decide_eq_true hno, if_pos hno]
    obtain ⟨m, rfl⟩ := Int.eq_ofNat_of_zero_le hno.1
    have hm : m ≤ s.args.length := by omega
    go_enter Tryz.func11, Tryz.ntmps11
    have hcap := ha.cap
    have hd := ha.drop hm
    have hd0 : Txt w (.slice a (s.args.length - m) 0) (s.args.drop m) ∨ m ≠ cap := by
      by_cases hmc : m = cap
      · left
        have h0 : s.args.length - m = 0 := by omega
        exact .inl ⟨List.drop_eq_nil_of_le (by omega), _, _, by rw [h0]⟩
      · exact .inr hmc
    have HD := Lib.hid hd; have HD0 := Lib.hid hd0
    clear hd hd0 ha hcell
    go_wp2_with fail
    all_goals first
      | (refine bodyPost_ret (results_row_tmp rfl _ _ (w.heap.size + 1) _ _ _ _ rfl (new2 _ _ _) Tryz.underlying31 rfl (by kernel_rfl)) rfl ⟨(below_alloc w _).trans ((below_alloc _ _).mono (by simp [World.size_alloc])), _, (HD0.out.resolve_right (fun h => h (by omega))), ⟨_, _, _, rfl⟩, (own_slice _ _ _).trans (own_slice _ _ _).symm, rfl⟩)
      | (refine bodyPost_ret (results_row_tmp rfl _ _ (w.heap.size + 1) _ _ _ _ rfl (new2 _ _ _) Tryz.underlying31 rfl (by kernel_rfl)) rfl ⟨(below_alloc w _).trans ((below_alloc _ _).mono (by simp [World.size_alloc])), _, HD.out, ⟨_, _, _, rfl⟩, own_add _ _ _ _ _ _, rfl⟩)
  · rw [decide_eq_false hno, if_neg hno]
    go_enter Tryz.func11, Tryz.ntmps11
    rcases Int.lt_or_le n 0 with hneg | hpos
    · go_wp2_with fail
      refine bodyPost_ret (results_row_tmp rfl _ _ (w.heap.size + 1) _ _ _ _ rfl (new2 _ _ _) Tryz.underlying31 rfl (by kernel_rfl)) rfl ⟨(below_alloc w _).trans ((below_alloc _ _).mono (by simp [World.size_alloc])), _, ha, ⟨_, _, _, rfl⟩, rfl, rfl⟩
    · have hgt : (s.args.length : Int) < n := by omega
      go_wp2_with fail
      refine bodyPost_ret (results_row_tmp rfl _ _ (w.heap.size + 1) _ _ _ _ rfl (new2 _ _ _) Tryz.underlying31 rfl (by kernel_rfl)) rfl ⟨(below_alloc w _).trans ((below_alloc _ _).mono (by simp [World.size_alloc])), _, ha, ⟨_, _, _, rfl⟩, rfl, rfl⟩
end Vr
end Go.Proofs.YtpphoaidnpkgpaaGreatDoor
