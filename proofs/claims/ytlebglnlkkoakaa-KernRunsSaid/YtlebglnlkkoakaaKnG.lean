/- New, Fork. -/
import Derived.Test.YtlebglnlkkoakaaKnF
namespace Go.Proofs.Ytlebglnlkkoakaa
open Go.RowKit Go.Maps
namespace Kn
/-- A set without the signals that are fixed. -/
def looseN (x : Nat) : Nat := (Sig.listN x 31).foldl (fun y s => if Sig.fixedB s then del y s else y) x
theorem foldl_lt (l : List Int) : ∀ x : Nat, x < 4294967296 → l.foldl (fun y s => if Sig.fixedB s then del y s else y) x < 4294967296 := by
  induction l with
  | nil => intro x h; exact h
  | cons a r ih =>
    intro x h
    rw [List.foldl_cons]
    refine ih _ ?_
    split
    · exact del_lt h a
    · exact h
theorem looseN_lt {x : Nat} (h : x < 4294967296) : looseN x < 4294967296 := foldl_lt _ x h
theorem slice_of_owns {w : World} {base : Nat} {v : Value} {l : List Int} (h : w.ownsRow base 3 1 v l.length (l.map (Value.int .i64))) : ∃ a cap, v = .slice a l.length cap ∧ ∀ j : Nat, j < l.length → ∃ b, a = some ⟨b, 0, none⟩ ∧ w.cell? ⟨b, j, none⟩ = some (.int .i64 (l.getD j 0)) := by
  rcases h.2 with ⟨rfl, h0⟩ | ⟨g, cap, cur, rfl, _⟩
  · exact ⟨none, 0, by rw [h0], fun j hj => by omega⟩
  · refine ⟨_, cap, rfl, fun j hj => ⟨g, rfl, ?_⟩⟩
    have := h.cellAt j (by simpa using hj)
    rw [this]
    simp [List.getD, hj]
set_option maxHeartbeats 800000 in
theorem loose_any (x : Nat) (hx : x < 4294967296) (w : World) :
    Calls Try.prog 37 #[.int .u32 x] w fun e w' => e = .returned (.int .u32 (looseN x : Nat)) ∧ Below w.heap.size w w' := by
  have HX := Lib.hid hx
  have hn := Sig.listN_len x 31
  clear hx
  go_enter Try.func37, Try.ntmps37
  go_wp2_with fail
  refine (Sig.list_any x HX.out _).mono ?_
  rintro e w1 ⟨v, rfl, hown, hb⟩
  obtain ⟨a, cap, rfl, hc⟩ := slice_of_owns hown
  have HC := Lib.hid hc; have HB := Lib.hid hb
  clear hown hb hc
  obtain ⟨l, hl⟩ : ∃ l, l = Sig.listN x 31 := ⟨_, rfl⟩
  have hres : looseN x = l.foldl (fun y s => if Sig.fixedB s then del y s else y) x := by rw [hl]; rfl
  have HRES := Lib.hid hres
  rw [← hl] at HC hn ⊢
  clear hl hres
  go_wp2_with fail
  go_loop [0, 8] (fun y i => ∃ k : Nat, k ≤ l.length ∧ i = .int .i64 k ∧ y = .int .u32 ((l.take k).foldl (fun y s => if Sig.fixedB s then del y s else y) x : Nat)) (fun _ i => l.length - (intOf i).toNat)
  case atStart => exact ⟨0, Nat.zero_le _, rfl, rfl⟩
  case round =>
    obtain ⟨k, hk, rfl, rfl⟩ := hrel
    by_cases hlt : k < l.length
    · obtain ⟨b, rfl, hcell⟩ := HC.out k hlt
      have hy := foldl_lt (l.take k) x HX.out
      have HT := Lib.hid (List.take_succ_eq_append_getElem hlt)
      have hs : l.getD k 0 = l[k] := by simp [List.getD, hlt]
      rw [hs] at hcell
      clear hs
      generalize l[k] = s at hcell HT
      obtain ⟨y, hy2⟩ : ∃ y, y = (l.take k).foldl (fun y s => if Sig.fixedB s then del y s else y) x := ⟨_, rfl⟩
      rw [← hy2] at hy ⊢
      have HY := Lib.hid hy; have HY2 := Lib.hid hy2
      clear hy hy2
      cases hf : Sig.fixedB s
      · have HF := Lib.hid hf
        go_wp2_with (go_at_call 34; refine (Sig.fixed_any s _).mono ?_; rw [HF.out]; rintro e w' ⟨rfl, rfl⟩)
        go_round
        case rel => exact ⟨k + 1, by omega, by go_num, by rw [HT.out, List.foldl_append, ← HY2.out, List.foldl_cons, HF.out]; rfl⟩
        case measure => simp [intOf]; omega
      · have HF := Lib.hid hf
        go_wp2_with (first
          | (go_at_call 34; refine (Sig.fixed_any s _).mono ?_; rw [HF.out]; rintro e w' ⟨rfl, rfl⟩)
          | (go_at_call 56; refine (Sig.without_any y s HY.out _).mono ?_; rintro e w' ⟨rfl, rfl⟩))
        go_round
        case rel => exact ⟨k + 1, by omega, by go_num, by rw [HT.out, List.foldl_append, ← HY2.out, List.foldl_cons, HF.out]; rfl⟩
        case measure => simp [intOf]; omega
    · obtain rfl : k = l.length := by omega
      go_wp2_with fail
      go_ret
      rw [HRES.out]
      exact ⟨rfl, HB.out⟩
def T0 : T := ⟨[], 0, []⟩
theorem ok0 : Ok T0 := ⟨List.Pairwise.nil, fun p hp => (by cases hp), by simp [T0]⟩
/-- A new table. -/
def newT (x : Nat) : T := ⟨[⟨1, 0, 0, true, looseN x, 0, 0⟩], 1, []⟩
theorem tb0 (w : World) : Tb ((w.alloc (.map #[] 0)).alloc (.cells #[.map (some w.heap.size), .int .i64 0, .slice none 0 0] 67)) w.heap.size ⟨w.heap.size + 1, w.heap.size, .slice none 0 0, .map [], fun _ => 0⟩ T0 := by
  have e : (w.alloc (.map #[] 0)).heap.size = w.heap.size + 1 := by simp [World.size_alloc]
  refine ⟨?_, ?_, fun _ => rfl, fun _ => rfl, rfl, fun p hp => (by cases hp), fun p hp => (by cases hp), World.ownsRow_nil _ _ _ _, Nat.le_succ _, Nat.le_refl _, fun p hp => (by cases hp)⟩
  · have := heap_alloc_new (w.alloc (.map #[] 0)) (.cells #[.map (some w.heap.size), .int .i64 0, .slice none 0 0] 67)
    rw [e] at this; exact this
  · exact (World.ownsMap_made w Try.prog 3 pe).alloc _
set_option maxHeartbeats 800000 in
theorem new_any (x : Nat) (hx : x < 4294967296) (w : World) :
    Calls Try.prog 7 #[.int .u32 x] w fun e w' => ∃ h, e = .returned (.pointer (some ⟨h.tb, 0, none⟩)) ∧ Tb w' w.heap.size h (newT x) ∧ Below w.heap.size w w' := by
  have HX := Lib.hid hx
  have hmm := @run_makeMap Try.prog
  have T1 := tb0 w
  have hb0 : Below w.heap.size w ((w.alloc (.map #[] 0)).alloc (.cells #[.map (some w.heap.size), .int .i64 0, .slice none 0 0] 67)) := ((Below.refl _ _).alloc (Nat.le_refl _) _).alloc (by simp [World.size_alloc]) _
  have HT := Lib.hid T1; have HB := Lib.hid hb0
  clear T1 hb0 hx
  go_enter Try.func7, Try.ntmps7
  go_wp2_with fail
  refine (loose_any x HX.out _).mono ?_
  rintro e w1 ⟨rfl, hb1⟩
  have HT1 := Lib.hid (HT.out.stay hb1)
  have HB1 := Lib.hid (HB.out.trans (hb1.mono HB.out.size))
  have HA := Lib.hid (add_any (HT.out.stay hb1) ok0 0 (looseN x) (by decide) (by decide) (looseN_lt HX.out) (by decide) HB1.out.size)
  clear hb1 HT HB
  go_wp2_with fail
  refine HA.out.mono ?_
  rintro e w2 ⟨rfl, h', htb, T2, G⟩
  have HT2 := Lib.hid T2; have HTB := Lib.hid htb
  have HB2 := Lib.hid (HB1.out.trans (G.below HT1.out HB1.out.size))
  clear T2 G htb
  go_wp2_with fail
  go_ret
  exact ⟨h', by rw [HTB.out]; rfl, HT2.out, HB2.out⟩
theorem fork_dead {t : T} {pid : Int} (hl : live t pid = false) : fork t pid = (t, 0, 3) := by
  unfold fork
  unfold live at hl
  cases hf : find t pid with
  | none => rfl
  | some p => rw [hf] at hl; simp at hl; simp [hl]
theorem fork_full {t : T} {pid : Int} (hl : live t pid = true) (h : 64 ≤ t.l.length) : fork t pid = (t, 0, 4) := by
  obtain ⟨p, hf, hp⟩ := live_iff hl
  unfold fork; rw [hf]; simp [hp, h]
theorem fork_new {t : T} {pid : Int} {p : P} (hf : find t pid = some p) (hp : p.live = true) (h : t.l.length < 64) : fork t pid = (addT t pid p.ig, t.last + 1, 0) := by
  unfold fork; rw [hf]; simp [hp, addT, Nat.not_le.2 h]
set_option maxHeartbeats 800000 in
theorem fork_any {w : World} {B : Nat} {h : H} {t : T} (T : Tb w B h t) (O : Ok t) (S : Sets t) (h0 : 0 ≤ t.last) (h1 : t.last < 1000000) (hB : B ≤ w.heap.size) (pid : Int) (hpid : I64 pid) :
    Calls Try.prog 10 #[.pointer (some ⟨h.tb, 0, none⟩), .int .i64 pid] w fun e w' => e = .returned (.tuple #[.int .i64 (fork t pid).2.1, .int .i64 (fork t pid).2.2]) ∧ Chg w B h t (fork t pid).1 w' := by
  have HA := Lib.hid (alive_any T pid hpid)
  have HN := Lib.hid (len_any T)
  have hlen := O.len
  have HT := Lib.hid T
  cases hl : live t pid
  · rw [lad_no hl] at HA
    rw [fork_dead hl]
    clear T
    go_enter Try.func10, Try.ntmps10
    go_wp2_with (go_at_call 46; refine HA.out.mono ?_; rintro e w' ⟨rfl, rfl⟩; rw [ptr])
    go_ret2
    exact ⟨rfl, Chg.refl HT.out⟩
  rw [lad_yes hl] at HA
  by_cases hfull : 64 ≤ t.l.length
  · rw [fork_full hl hfull]
    clear T
    go_enter Try.func10, Try.ntmps10
    go_wp2_with (first
      | (go_at_call 46; refine HA.out.mono ?_; rintro e w' ⟨rfl, rfl⟩; rw [ptr])
      | (go_at_call 30; refine HN.out.mono ?_; rintro e w' ⟨rfl, rfl⟩))
    go_ret2
    exact ⟨rfl, Chg.refl HT.out⟩
  · obtain ⟨p, hf, hp⟩ := live_iff hl
    rw [fork_new hf hp (by omega)]
    have hr := T.found hf
    have q3 : w.cell? ⟨h.ad pid, 3, none⟩ = some (.int .u32 p.ig) := Lib.cell_of_heap hr 3
    have HD := Lib.hid (add_any T O pid p.ig h0 h1 (S.at hf).1 (by omega) hB)
    clear T hr S hf hl hp
    go_enter Try.func10, Try.ntmps10
    go_wp2_with (first
      | (go_at_call 46; refine HA.out.mono ?_; rintro e w' ⟨rfl, rfl⟩; rw [ptr])
      | (go_at_call 30; refine HN.out.mono ?_; rintro e w' ⟨rfl, rfl⟩)
      | (go_at_call 36; refine HD.out.mono ?_; rintro e w' ⟨rfl, hc⟩))
    go_ret2
    exact ⟨rfl, hc⟩
end Kn
end Go.Proofs.Ytlebglnlkkoakaa
