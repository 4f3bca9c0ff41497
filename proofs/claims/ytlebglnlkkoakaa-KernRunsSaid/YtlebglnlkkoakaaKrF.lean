/- The reference's Take, Put. -/
import Derived.Test.YtlebglnlkkoakaaKrE
namespace Go.Proofs.Ytlebglnlkkoakaa
open Go.RowKit Go.Maps
namespace Kn
theorem results_row_tmp {P : Program} {fn : Func} {p u : Tmp} {ty : TypeId} (h : fn.results = #[.cell p ty, .tmp u]) (tmps : Array Value) (w : World) (g : Nat) (t : TypeId) (cs : Array Value) (fr : Nat × Nat) (d : TypeDesc)
    (hp : tmps.getD p undef = .pointer (some ⟨g, 0, none⟩)) (hg : w.heap[g]? = some (.cells cs t fr))
    (hu : P.underlying ty = some d) (hd : (match d with | .struct _ | .array _ _ => true | _ => false) = true) (hi : (P.info? ty).map (·.size) = some cs.size) :
    (results fn tmps).run P w = .ok (.tuple #[.agg cs, tmps.getD u undef]) w := by
  have hp' : tmps[p]?.getD undef = .pointer (some ⟨g, 0, none⟩) := by simpa using hp
  simp [results, h, hp', asAddr, run_loadVar_row w g t ty cs fr d hg hu hd hi]
theorem put_set {t : T} (O : Ok t) {pid : Int} {p : P} {k : Nat} (hf : find t pid = some p) (hk : t.l[k]? = some p) (f : P → P) : put t pid f = { t with l := t.l.set k (f p) } := by
  refine T.ext ?_ rfl rfl
  show t.l.map _ = t.l.set k (f p)
  obtain ⟨e, hm⟩ := find_pid hf
  apply List.ext_getElem?
  intro i
  rw [List.getElem?_map, List.getElem?_set]
  by_cases hi : k = i
  · subst hi
    have hlt := (List.getElem?_eq_some_iff.1 hk).1
    rw [if_pos rfl, if_pos hlt, hk]
    simp [e]
  · rw [if_neg hi]
    cases hq : t.l[i]? with
    | none => rfl
    | some q =>
      have hne : q.pid ≠ pid := fun e2 => by
        obtain ⟨h1, h1e⟩ := List.getElem?_eq_some_iff.1 hk
        obtain ⟨h2, h2e⟩ := List.getElem?_eq_some_iff.1 hq
        rcases Nat.lt_or_ge k i with h | h
        · have := List.pairwise_iff_getElem.1 O.rise k i h1 h2 h
          rw [h1e, h2e] at this; omega
        · have := List.pairwise_iff_getElem.1 O.rise i k h2 h1 (by omega)
          rw [h1e, h2e] at this; omega
      simp [hne]
/-- What a row is not. -/
theorem own_ne {w : World} {base size n : Nat} {T T2 : TypeId} {v : Value} {xs : List Value} (h : w.ownsRow base T size v n xs) {j : Nat} {cs : Array Value} {fr : Nat × Nat} (hr : w.heap[j]? = some (.cells cs T2 fr)) (hT : T2 ≠ T) : ∀ g, v.ownBlock = some g → g ≠ j := by
  rintro g e rfl
  rcases h.2 with ⟨rfl, _⟩ | ⟨g', cap, cur, rfl, _, hb, _⟩
  · cases e
  · cases e
    rw [hr] at hb; injection hb with hb; injection hb with _ h2; exact hT h2
/-- Within a call that gives a table: its own copy, and where it lays its answer. -/
structure En (w : World) (lv ev : Value) (last : Int) (wq : World) : Prop where
  b : Below w.heap.size w wq
  x : wq.heap[w.heap.size]? = some (.cells #[lv, .int .i64 last, ev] 31 (0, 0))
  z : wq.heap[w.heap.size + 1]? = some (.cells #[.slice none 0 0, .int .i64 0, .slice none 0 0] 31 (0, 0))
theorem En.start (w : World) (lv ev : Value) (last : Int) : En w lv ev last ((w.alloc (.cells #[lv, .int .i64 last, ev] 31)).alloc (.cells #[.slice none 0 0, .int .i64 0, .slice none 0 0] 31)) := by
  have hs1 : (w.alloc (.cells #[lv, .int .i64 last, ev] 31)).heap.size = w.heap.size + 1 := World.size_alloc _ _
  have hb1 := below_alloc w (.cells #[lv, .int .i64 last, ev] 31)
  have hb2 := below_alloc (w.alloc (.cells #[lv, .int .i64 last, ev] 31)) (.cells #[.slice none 0 0, .int .i64 0, .slice none 0 0] 31)
  refine ⟨hb1.trans (hb2.mono hb1.size), (hb2.block _ (by rw [hs1]; omega)).trans (heap_alloc_new w _), ?_⟩
  have := heap_alloc_new (w.alloc (.cells #[lv, .int .i64 last, ev] 31)) (.cells #[.slice none 0 0, .int .i64 0, .slice none 0 0] 31)
  rw [hs1] at this; exact this
theorem En.more {w wq w' : World} {lv ev : Value} {last : Int} (h : En w lv ev last wq) (hb : Below wq.heap.size wq w') : En w lv ev last w' :=
  ⟨h.b.trans (hb.mono h.b.size), (hb.block _ (Array.getElem?_eq_some_iff.1 h.x).1).trans h.x, (hb.block _ (Array.getElem?_eq_some_iff.1 h.z).1).trans h.z⟩
theorem En.set {w wq : World} {lv ev : Value} {last : Int} (h : En w lv ev last wq) {a : Addr} (ha : w.heap.size + 1 < a.block) (v : Value) : En w lv ev last (wq.setCell a v) :=
  ⟨below_set h.b (by omega) v, (Below.heap_setCell wq a v w.heap.size (by omega)).trans h.x, (Below.heap_setCell wq a v (w.heap.size + 1) (by omega)).trans h.z⟩
theorem En.far {w wq : World} {lv ev : Value} {last : Int} (h : En w lv ev last wq) : w.heap.size + 1 < wq.heap.size := (Array.getElem?_eq_some_iff.1 h.z).1
theorem En.drew {w wq : World} {lv ev : Value} {last : Int} (h : En w lv ev last wq) : En w lv ev last wq.drew := ⟨⟨h.b.os, h.b.tape, h.b.output, h.b.size, h.b.block⟩, h.x, h.z⟩
section
variable {w wq : World} {lv ev : Value} {last : Int}
theorem En.x0 (h : En w lv ev last wq) : wq.cell? ⟨w.heap.size, 0, none⟩ = some lv := Lib.cell_of_heap h.x 0
theorem En.x1 (h : En w lv ev last wq) : wq.cell? ⟨w.heap.size, 1, none⟩ = some (.int .i64 last) := Lib.cell_of_heap h.x 1
theorem En.x2 (h : En w lv ev last wq) : wq.cell? ⟨w.heap.size, 2, none⟩ = some ev := Lib.cell_of_heap h.x 2
theorem En.xf (h : En w lv ev last wq) (i : Nat) : wq.frozen? ⟨w.heap.size, i, none⟩ = false := frozen_of_row _ _ _ _ _ h.x
theorem En.z0 (h : En w lv ev last wq) : wq.cell? ⟨w.heap.size + 1, 0, none⟩ = some (.slice none 0 0) := Lib.cell_of_heap h.z 0
theorem En.z1 (h : En w lv ev last wq) : wq.cell? ⟨w.heap.size + 1, 1, none⟩ = some (.int .i64 0) := Lib.cell_of_heap h.z 1
theorem En.z2 (h : En w lv ev last wq) : wq.cell? ⟨w.heap.size + 1, 2, none⟩ = some (.slice none 0 0) := Lib.cell_of_heap h.z 2
theorem En.zf (h : En w lv ev last wq) (i : Nat) : wq.frozen? ⟨w.heap.size + 1, i, none⟩ = false := frozen_of_row _ _ _ _ _ h.z
/-- The answer is laid. -/
theorem fin_row {B : Nat} {lv2 ev2 : Value} {t2 : T} {a b c : Value} (hb : Below w.heap.size w wq) (hz : wq.heap[w.heap.size + 1]? = some (.cells #[a, b, c] 31 (0, 0))) (hr : RT wq B lv2 ev2 t2)
    (hl : ∀ k, lv2.ownBlock = some k → lv.ownBlock = some k ∨ w.heap.size ≤ k) (he : ∀ k, ev2.ownBlock = some k → ev.ownBlock = some k ∨ w.heap.size ≤ k) :
    (((wq.setCell ⟨w.heap.size + 1, 0, none⟩ lv2).setCell ⟨w.heap.size + 1, 1, none⟩ (.int .i64 t2.last)).setCell ⟨w.heap.size + 1, 2, none⟩ ev2).heap[w.heap.size + 1]? = some (.cells #[lv2, .int .i64 t2.last, ev2] 31 (0, 0)) ∧
    RCh w B lv ev t2 lv2 ev2 (((wq.setCell ⟨w.heap.size + 1, 0, none⟩ lv2).setCell ⟨w.heap.size + 1, 1, none⟩ (.int .i64 t2.last)).setCell ⟨w.heap.size + 1, 2, none⟩ ev2) := by
  have n1 := own_ne hr.l hz (by decide)
  have n2 := own_ne hr.e hz (by decide)
  refine ⟨put3 hz _ _ _, ⟨⟨?_, ?_⟩, below_set (below_set (below_set hb (by show w.heap.size ≤ w.heap.size + 1; omega) _) (by show w.heap.size ≤ w.heap.size + 1; omega) _) (by show w.heap.size ≤ w.heap.size + 1; omega) _, hl, he⟩⟩
  · exact own_other (own_other (own_other hr.l n1 _) n1 _) n1 _
  · exact own_other (own_other (own_other hr.e n2 _) n2 _) n2 _
end
set_option maxRecDepth 4000 in
set_option maxHeartbeats 1600000 in
theorem rtake_any {w : World} {B : Nat} {t : T} {lv ev : Value} (hR : RT w B lv ev t) (O : Ok t) (S : Sets t) (hB : B ≤ w.heap.size) (pid s : Int) :
    Calls Try.prog 21 #[tv t lv ev, .int .i64 pid, .int .i64 s] w fun e w' => ∃ lv' ev', e = .returned (.tuple #[tv (take t pid s).1 lv' ev', .bool (take t pid s).2]) ∧ RCh w B lv ev (take t pid s).1 lv' ev' w' := by
  have hn := O.len
  have hen := En.start w lv ev t.last
  have HP := Lib.hid (rpending_any (ev := ev) (hR.at.stay hen.b) hn pid)
  have HR := Lib.hid hR; have HEN0 := Lib.hid hen
  obtain ⟨ea, en, ec, rfl⟩ := ends_shape hR.e
  obtain ⟨la, ln, lc, rfl⟩ := ends_shape hR.l
  have hp32 : pending t pid < 4294967296 := by
    unfold pending
    cases hf : find t pid with
    | none => simp
    | some p => simp; split; exact (S.at hf).2.2; decide
  have HP32 := Lib.hid hp32
  unfold tv at HP
  clear hen hR hp32
  cases hh : has (pending t pid) s
  · have HH := Lib.hid hh
    rw [show take t pid s = (t, false) by unfold take; rw [hh]; rfl]
    unfold tv
    clear hh
    go_enter Try.func21, Try.ntmps21
    go_wp2_with fail
    refine HP.out.mono ?_
    rintro e w1 ⟨rfl, hb1⟩
    have HEN := Lib.hid (HEN0.out.more hb1)
    clear hb1 HEN0
    have ex0 : w1.cell? ⟨w.heap.size, 0, none⟩ = some (.slice la ln lc) := HEN.out.x0
    have ex1 : w1.cell? ⟨w.heap.size, 1, none⟩ = some (.int .i64 t.last) := HEN.out.x1
    have ex2 : w1.cell? ⟨w.heap.size, 2, none⟩ = some (.slice ea en ec) := HEN.out.x2
    have ez0 : w1.cell? ⟨w.heap.size + 1, 0, none⟩ = some (.slice none 0 0) := HEN.out.z0
    have ef0 : w1.frozen? ⟨w.heap.size + 1, 0, none⟩ = false := HEN.out.zf 0
    have ez1 : w1.cell? ⟨w.heap.size + 1, 1, none⟩ = some (.int .i64 0) := HEN.out.z1
    have ef1 : w1.frozen? ⟨w.heap.size + 1, 1, none⟩ = false := HEN.out.zf 1
    have ez2 : w1.cell? ⟨w.heap.size + 1, 2, none⟩ = some (.slice none 0 0) := HEN.out.z2
    have ef2 : w1.frozen? ⟨w.heap.size + 1, 2, none⟩ = false := HEN.out.zf 2
    go_wp2_with (go_at_call 58; refine (Sig.rhas_any _ s HP32.out _).mono ?_; rw [show Sig.hasB (pending t pid) s = false from HH.out]; rintro e w' ⟨rfl, rfl⟩)
    have hfin := fin_row HEN.out.b HEN.out.z (HR.out.stay HEN.out.b) (fun _ e => .inl e) (fun _ e => .inl e)
    exact bodyPost_ret (results_row_tmp rfl _ _ (w.heap.size + 1) _ _ _ _ rfl hfin.1 Try.underlying31 rfl (by kernel_rfl)) rfl ⟨_, _, rfl, hfin.2⟩
  · have hl : live t pid = true := by
      cases hl : live t pid
      · rw [dead_pending hl, has_zero] at hh; cases hh
      · rfl
    obtain ⟨p, hf, hpl⟩ := live_iff hl
    obtain ⟨k, hat, hk, hlt⟩ := find_atN hf
    have hpe := pending_live hf hpl
    have hpx := (S.at hf).2.2
    have hset : take t pid s = ({ t with l := t.l.set k { p with pe := del p.pe s } }, true) := by
      rw [← put_set O hf hk (fun p => { p with pe := del p.pe s })]
      unfold take; rw [hh]; rfl
    rw [hset]
    have HA := fun w' (hb : Below w.heap.size w w') => rat_any (ev := .slice ea en ec) (HR.out.at.stay hb) hn pid
    rw [hat] at HA
    obtain ⟨b, cap, e2, hbl, rd⟩ := HR.out.at.reads hk
    obtain ⟨rfl, rfl, rfl⟩ : la = some ⟨b, 0, none⟩ ∧ ln = t.l.length ∧ lc = cap := by cases e2; exact ⟨rfl, rfl, rfl⟩
    have HW := fun w' (hb : Below w.heap.size w w') => rwith_any (HR.out.stay hb) hn (Nat.le_trans hB hb.size) k hlt { p with pe := del p.pe s }
    have HRD := Lib.hid rd; have HH := Lib.hid hh; have HPE := Lib.hid hpe; have HPX := Lib.hid hpx
    unfold tv at HA HW ⊢
    have HA := Lib.hid HA; have HW := Lib.hid HW
    clear hh hl hf hpl hat hk hpe hpx hset e2 rd O S
    go_enter Try.func21, Try.ntmps21
    go_wp2_with fail
    refine HP.out.mono ?_
    rintro e w1 ⟨rfl, hb1⟩
    have HEN := Lib.hid (HEN0.out.more hb1)
    clear hb1 HEN0
    have ex0 : w1.cell? ⟨w.heap.size, 0, none⟩ = some (.slice (some ⟨b, 0, none⟩) t.l.length lc) := HEN.out.x0
    have ex1 : w1.cell? ⟨w.heap.size, 1, none⟩ = some (.int .i64 t.last) := HEN.out.x1
    have ex2 : w1.cell? ⟨w.heap.size, 2, none⟩ = some (.slice ea en ec) := HEN.out.x2
    have ez0 : w1.cell? ⟨w.heap.size + 1, 0, none⟩ = some (.slice none 0 0) := HEN.out.z0
    have ef0 : w1.frozen? ⟨w.heap.size + 1, 0, none⟩ = false := HEN.out.zf 0
    have ez1 : w1.cell? ⟨w.heap.size + 1, 1, none⟩ = some (.int .i64 0) := HEN.out.z1
    have ef1 : w1.frozen? ⟨w.heap.size + 1, 1, none⟩ = false := HEN.out.zf 1
    have ez2 : w1.cell? ⟨w.heap.size + 1, 2, none⟩ = some (.slice none 0 0) := HEN.out.z2
    have ef2 : w1.frozen? ⟨w.heap.size + 1, 2, none⟩ = false := HEN.out.zf 2
    go_wp2_with (go_at_call 58; refine (Sig.rhas_any _ s HP32.out _).mono ?_; rw [show Sig.hasB (pending t pid) s = true from HH.out]; rintro e w' ⟨rfl, rfl⟩)
    refine (HA.out _ HEN.out.b).mono ?_
    rintro e w2 ⟨rfl, hb2⟩
    have HEN2 := Lib.hid (HEN.out.more hb2)
    clear hb2 HEN ex0 ex1 ex2 ez0 ez1 ez2 ef0 ef1 ef2
    have ex0 : w2.cell? ⟨w.heap.size, 0, none⟩ = some (.slice (some ⟨b, 0, none⟩) t.l.length lc) := HEN2.out.x0
    have ex1 : w2.cell? ⟨w.heap.size, 1, none⟩ = some (.int .i64 t.last) := HEN2.out.x1
    have ex2 : w2.cell? ⟨w.heap.size, 2, none⟩ = some (.slice ea en ec) := HEN2.out.x2
    have r0 : w2.cell? ⟨b, k * 7, none⟩ = some (.int .i64 p.pid) := HRD.out w2 HEN2.out.b 0 _ rfl
    have r1 : w2.cell? ⟨b, k * 7 + 1, none⟩ = some (.int .i64 p.par) := HRD.out w2 HEN2.out.b 1 _ rfl
    have r2 : w2.cell? ⟨b, k * 7 + 2, none⟩ = some (.int .i64 p.st) := HRD.out w2 HEN2.out.b 2 _ rfl
    have r3 : w2.cell? ⟨b, k * 7 + 3, none⟩ = some (.bool p.live) := HRD.out w2 HEN2.out.b 3 _ rfl
    have r4 : w2.cell? ⟨b, k * 7 + 4, none⟩ = some (.int .u32 p.ig) := HRD.out w2 HEN2.out.b 4 _ rfl
    have r5 : w2.cell? ⟨b, k * 7 + 5, none⟩ = some (.int .u32 p.ca) := HRD.out w2 HEN2.out.b 5 _ rfl
    have r6 : w2.cell? ⟨b, k * 7 + 6, none⟩ = some (.int .u32 p.pe) := HRD.out w2 HEN2.out.b 6 _ rfl
    go_wp2_with fail
    have hb3 := below_alloc w2 (.cells #[.int .i64 p.pid, .int .i64 p.par, .int .i64 p.st, .bool p.live, .int .u32 p.ig, .int .u32 p.ca, .int .u32 p.pe] 73)
    have hbx := heap_alloc_new w2 (.cells #[.int .i64 p.pid, .int .i64 p.par, .int .i64 p.st, .bool p.live, .int .u32 p.ig, .int .u32 p.ca, .int .u32 p.pe] 73)
    have hen3 := HEN2.out.more hb3
    have HEN3 := Lib.hid hen3
    have HLT := Lib.hid (Array.getElem?_eq_some_iff.1 HEN2.out.x).1
    have hpx6 : ∀ i, (w2.alloc (.cells #[.int .i64 p.pid, .int .i64 p.par, .int .i64 p.st, .bool p.live, .int .u32 p.ig, .int .u32 p.ca, .int .u32 p.pe] 73)).frozen? ⟨w2.heap.size, i, none⟩ = false := fun i => frozen_of_row _ _ _ _ _ hbx
    have HBX := Lib.hid hbx
    clear r0 r1 r2 r3 r4 r5 r6
    generalize (w2.alloc (.cells #[.int .i64 p.pid, .int .i64 p.par, .int .i64 p.st, .bool p.live, .int .u32 p.ig, .int .u32 p.ca, .int .u32 p.pe] 73)) = w3 at hb3 hbx hen3 HEN3 hpx6 HBX ⊢
    have pf6 := hpx6 6
    clear hb3 hbx hen3 hpx6
    refine (Sig.rwithout_any p.pe s HPX.out w3).mono ?_
    rintro e w' ⟨rfl, rfl⟩
    have ex0 : w3.cell? ⟨w.heap.size, 0, none⟩ = some (.slice (some ⟨b, 0, none⟩) t.l.length lc) := HEN3.out.x0
    have ex1 : w3.cell? ⟨w.heap.size, 1, none⟩ = some (.int .i64 t.last) := HEN3.out.x1
    have ex2 : w3.cell? ⟨w.heap.size, 2, none⟩ = some (.slice ea en ec) := HEN3.out.x2
    have px0 : w3.cell? ⟨w2.heap.size, 0, none⟩ = some (.int .i64 p.pid) := Lib.cell_of_heap (HBX.out) 0
    have px1 : w3.cell? ⟨w2.heap.size, 1, none⟩ = some (.int .i64 p.par) := Lib.cell_of_heap (HBX.out) 1
    have px2 : w3.cell? ⟨w2.heap.size, 2, none⟩ = some (.int .i64 p.st) := Lib.cell_of_heap (HBX.out) 2
    have px3 : w3.cell? ⟨w2.heap.size, 3, none⟩ = some (.bool p.live) := Lib.cell_of_heap (HBX.out) 3
    have px4 : w3.cell? ⟨w2.heap.size, 4, none⟩ = some (.int .u32 p.ig) := Lib.cell_of_heap (HBX.out) 4
    have px5 : w3.cell? ⟨w2.heap.size, 5, none⟩ = some (.int .u32 p.ca) := Lib.cell_of_heap (HBX.out) 5
    have px6 : w3.cell? ⟨w2.heap.size, 6, none⟩ = some (.int .u32 p.pe) := Lib.cell_of_heap (HBX.out) 6
    have hne : w.heap.size ≠ w2.heap.size := Nat.ne_of_lt HLT.out
    have hne' : w2.heap.size ≠ w.heap.size := fun e => hne e.symm
    go_wp2_with (go_at_call 52; refine hold ?_)
    have hen4 := HEN3.out.set (a := ⟨w2.heap.size, 6, none⟩) HEN2.out.far (.int .u32 (p.pe &&& 4294967295 - Sig.bitN s : Nat))
    clear ex0 ex1 ex2 px0 px1 px2 px3 px4 px5 px6 pf6 hne hne'
    refine Hold.out ((HW.out _ hen4.b).mono ?_)
    rintro e w5 ⟨lv', rfl, hch⟩
    have HEN5 := Lib.hid (hen4.more hch.below)
    have HSZ5 := Lib.hid hen4.b.size
    obtain ⟨la', ln', lc', rfl⟩ := ends_shape hch.rt.l
    have HCH := Lib.hid hch
    clear hch hen4
    have ez0 : w5.cell? ⟨w.heap.size + 1, 0, none⟩ = some (.slice none 0 0) := HEN5.out.z0
    have ef0 : w5.frozen? ⟨w.heap.size + 1, 0, none⟩ = false := HEN5.out.zf 0
    have ez1 : w5.cell? ⟨w.heap.size + 1, 1, none⟩ = some (.int .i64 0) := HEN5.out.z1
    have ef1 : w5.frozen? ⟨w.heap.size + 1, 1, none⟩ = false := HEN5.out.zf 1
    have ez2 : w5.cell? ⟨w.heap.size + 1, 2, none⟩ = some (.slice none 0 0) := HEN5.out.z2
    have ef2 : w5.frozen? ⟨w.heap.size + 1, 2, none⟩ = false := HEN5.out.zf 2
    go_wp2_with fail
    have hfin := fin_row HEN5.out.b HEN5.out.z HCH.out.rt (fun j e => (HCH.out.l j e).imp id (Nat.le_trans HSZ5.out)) (fun j e => (HCH.out.e j e).imp id (Nat.le_trans HSZ5.out))
    exact bodyPost_ret (results_row_tmp rfl _ _ (w.heap.size + 1) _ _ _ _ rfl hfin.1 Try.underlying31 rfl (by kernel_rfl)) rfl ⟨_, _, rfl, hfin.2⟩
end Kn
end Go.Proofs.Ytlebglnlkkoakaa
