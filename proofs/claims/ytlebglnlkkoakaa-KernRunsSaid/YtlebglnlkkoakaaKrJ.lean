/- The reference's Reap. -/
import Derived.Test.YtlebglnlkkoakaaKrH
namespace Go.Proofs.Ytlebglnlkkoakaa
open Go.RowKit Go.Maps
namespace Kn
theorem results_row_tmp2 {P : Program} {fn : Func} {p u u2 : Tmp} {ty : TypeId} (h : fn.results = #[.cell p ty, .tmp u, .tmp u2]) (tmps : Array Value) (w : World) (g : Nat) (t : TypeId) (cs : Array Value) (fr : Nat × Nat) (d : TypeDesc)
    (hp : tmps.getD p undef = .pointer (some ⟨g, 0, none⟩)) (hg : w.heap[g]? = some (.cells cs t fr))
    (hu : P.underlying ty = some d) (hd : (match d with | .struct _ | .array _ _ => true | _ => false) = true) (hi : (P.info? ty).map (·.size) = some cs.size) :
    (results fn tmps).run P w = .ok (.tuple #[.agg cs, tmps.getD u undef, tmps.getD u2 undef]) w := by
  have hp' : tmps[p]?.getD undef = .pointer (some ⟨g, 0, none⟩) := by simpa using hp
  simp [results, h, hp', asAddr, run_loadVar_row w g t ty cs fr d hg hu hd hi]
theorem filter_FM (pid : Int) : ∀ l : List P, (l.filter fun p => p.pid != pid) = l.filterMap fun p => if p.pid == pid then none else some p
  | [] => rfl
  | a :: r => by
    rw [List.filter_cons, List.filterMap_cons, filter_FM pid r]
    cases h : a.pid == pid <;> simp [bne, h]
/-- The status that the loop has found among the first ones. -/
def stX (pid : Int) (l : List P) (k : Nat) : Int := (l.take k).foldl (fun x p => if p.pid == pid then p.st else x) 0
theorem stX_no {pid : Int} {l : List P} {k : Nat} {q : P} (hq : l[k]? = some q) (h : (q.pid == pid) = false) : stX pid l (k + 1) = stX pid l k := by
  obtain ⟨hk, e⟩ := List.getElem?_eq_some_iff.1 hq
  unfold stX
  rw [List.take_succ_eq_append_getElem hk, List.foldl_append, e]
  simp only [List.foldl_cons, List.foldl_nil, h, Bool.false_eq_true, if_false]
theorem stX_yes {pid : Int} {l : List P} {k : Nat} {q : P} (hq : l[k]? = some q) (h : (q.pid == pid) = true) : stX pid l (k + 1) = q.st := by
  obtain ⟨hk, e⟩ := List.getElem?_eq_some_iff.1 hq
  unfold stX
  rw [List.take_succ_eq_append_getElem hk, List.foldl_append, e]
  simp only [List.foldl_cons, List.foldl_nil, h, if_true]
theorem stX_no_one (pid : Int) : ∀ (l : List P) (x : Int), (∀ p ∈ l, p.pid ≠ pid) → l.foldl (fun x p => if p.pid == pid then p.st else x) x = x
  | [], _, _ => rfl
  | a :: r, x, h => by
    rw [List.foldl_cons, if_neg (by simpa using h a (List.mem_cons_self ..))]
    exact stX_no_one pid r x fun p hp => h p (List.mem_cons_of_mem _ hp)
theorem stX_fold (pid : Int) : ∀ (l : List P) (x : Int), (l.map (·.pid)).Pairwise (· < ·) → l.foldl (fun x p => if p.pid == pid then p.st else x) x = ((l.find? fun p => p.pid == pid).map (·.st)).getD x
  | [], _, _ => rfl
  | a :: r, x, h => by
    rw [List.map_cons, List.pairwise_cons] at h
    rw [List.foldl_cons, List.find?_cons]
    cases ha : a.pid == pid
    · exact stX_fold pid r x h.2
    · have e : a.pid = pid := by simpa using ha
      exact stX_no_one pid r a.st fun p hp e2 => by
        have := h.1 p.pid (List.mem_map.2 ⟨p, hp, rfl⟩)
        omega
theorem stX_all {t : T} (O : Ok t) (pid : Int) : stX pid t.l t.l.length = ((find t pid).map (·.st)).getD 0 := by
  unfold stX
  rw [List.take_length]
  exact stX_fold pid t.l 0 (List.pairwise_map.2 O.rise)
set_option maxRecDepth 4000 in
set_option maxHeartbeats 3200000 in
theorem rreap_any {w : World} {B : Nat} {t : T} {lv ev : Value} (hR : RT w B lv ev t) (O : Ok t) (hB : B ≤ w.heap.size) (par pid : Int) :
    Calls Try.prog 17 #[tv t lv ev, .int .i64 par, .int .i64 pid] w fun e w' => ∃ lv' ev', e = .returned (.tuple #[tv (reap t par pid).1 lv' ev', .int .i64 (reap t par pid).2.1, .bool (reap t par pid).2.2]) ∧ RCh w B lv ev (reap t par pid).1 lv' ev' w' := by
  obtain ⟨i0, hi, hz0, hz1, hz2⟩ := info_parts infoProc
  have hn := O.len
  have hen := En.start w lv ev t.last
  have HV := Lib.hid (fun w' (hb : Below w.heap.size w w') => rlive_any (ev := ev) (hR.at.stay hb) hn pid)
  have HC1 := Lib.hid (fun w' (hb : Below w.heap.size w w') => rchild_any (ev := ev) (hR.at.stay hb) hn par pid)
  have HR := Lib.hid hR; have HEN0 := Lib.hid hen
  obtain ⟨ea, en, ec, rfl⟩ := ends_shape hR.e
  obtain ⟨la, ln, lc, rfl⟩ := ends_shape hR.l
  clear hen hR
  cases hc : child t par pid
  · have hno : reap t par pid = (t, 0, false) := by unfold reap; exact if_pos (.inl hc)
    rw [hno]
    have HC := Lib.hid hc
    clear hno O hc
    unfold tv at HV HC1 ⊢
    go_enter Try.func17, Try.ntmps17
    go_wp2_with fail
    refine (HC1.out _ HEN0.out.b).mono ?_
    rw [HC.out]
    rintro e w1 ⟨rfl, hbs⟩
    have HEN1 := Lib.hid (HEN0.out.more hbs)
    clear hbs HEN0 
    have ex0 : w1.cell? ⟨w.heap.size, 0, none⟩ = some (.slice la ln lc) := HEN1.out.x0
    have ex1 : w1.cell? ⟨w.heap.size, 1, none⟩ = some (.int .i64 t.last) := HEN1.out.x1
    have ex2 : w1.cell? ⟨w.heap.size, 2, none⟩ = some (.slice ea en ec) := HEN1.out.x2
    have ez0 : w1.cell? ⟨w.heap.size + 1, 0, none⟩ = some (.slice none 0 0) := HEN1.out.z0
    have ef0 : w1.frozen? ⟨w.heap.size + 1, 0, none⟩ = false := HEN1.out.zf 0
    have ez1 : w1.cell? ⟨w.heap.size + 1, 1, none⟩ = some (.int .i64 0) := HEN1.out.z1
    have ef1 : w1.frozen? ⟨w.heap.size + 1, 1, none⟩ = false := HEN1.out.zf 1
    have ez2 : w1.cell? ⟨w.heap.size + 1, 2, none⟩ = some (.slice none 0 0) := HEN1.out.z2
    have ef2 : w1.frozen? ⟨w.heap.size + 1, 2, none⟩ = false := HEN1.out.zf 2
    go_wp2_with fail
    have hfin := fin_row HEN1.out.b HEN1.out.z (HR.out.stay HEN1.out.b) (fun _ e => .inl e) (fun _ e => .inl e)
    exact bodyPost_ret (results_row_tmp2 rfl _ _ (w.heap.size + 1) _ _ _ _ rfl hfin.1 Try.underlying31 rfl (by kernel_rfl)) rfl ⟨_, _, rfl, hfin.2⟩
  · cases hl : live t pid
    · have hset : reap t par pid = ({ t with l := t.l.filter fun p => p.pid != pid }, ((find t pid).map (·.st)).getD 0, true) := by
        unfold reap; rw [if_neg (by rw [hc, hl]; decide)]
      rw [hset]
      obtain ⟨f, hff⟩ : ∃ f : P → Option P, f = fun p => if p.pid == pid then none else some p := ⟨_, rfl⟩
      have hfl : (t.l.filter fun p => p.pid != pid) = t.l.filterMap f := by rw [hff]; exact filter_FM pid t.l
      rw [hfl]
      have HF := Lib.hid (show ∀ p, f p = if p.pid == pid then none else some p from fun p => by rw [hff])
      have HC := Lib.hid hc; have HL := Lib.hid hl; have HOK := Lib.hid O
      obtain ⟨p0, hp0⟩ : ∃ p0, find t pid = some p0 := by
        unfold child at hc
        cases hf : find t pid with
        | none => rw [hf] at hc; cases hc
        | some p => exact ⟨p, rfl⟩
      obtain ⟨k0, _, hk0, _⟩ := find_atN hp0
      obtain ⟨b, cap, e2, hbl, _⟩ := HR.out.at.reads hk0
      obtain ⟨rfl, rfl, rfl⟩ : la = some ⟨b, 0, none⟩ ∧ ln = t.l.length ∧ lc = cap := by cases e2; exact ⟨rfl, rfl, rfl⟩
      have HALL := Lib.hid (fun (j : Nat) (q : P) (hj : t.l[j]? = some q) => (by obtain ⟨b', c', e, _, rd⟩ := HR.out.at.reads hj; cases e; exact rd : ∀ w', Below w.heap.size w w' → ∀ i u, (qcells q)[i]? = some u → w'.cell? ⟨b, j * 7 + i, none⟩ = some u))
      unfold tv at HV HC1 ⊢
      clear hc hl O hset hff hfl hp0 hk0 e2 hbl
      go_enter Try.func17, Try.ntmps17
      go_wp2_with fail
      refine (HC1.out _ HEN0.out.b).mono ?_
      rw [HC.out]
      rintro e w1 ⟨rfl, hbs⟩
      have HEN1 := Lib.hid (HEN0.out.more hbs)
      clear hbs HEN0 
      have ex0 : w1.cell? ⟨w.heap.size, 0, none⟩ = some (.slice (some ⟨b, 0, none⟩) t.l.length lc) := HEN1.out.x0
      have ex1 : w1.cell? ⟨w.heap.size, 1, none⟩ = some (.int .i64 t.last) := HEN1.out.x1
      have ex2 : w1.cell? ⟨w.heap.size, 2, none⟩ = some (.slice ea en ec) := HEN1.out.x2
      have ez0 : w1.cell? ⟨w.heap.size + 1, 0, none⟩ = some (.slice none 0 0) := HEN1.out.z0
      have ef0 : w1.frozen? ⟨w.heap.size + 1, 0, none⟩ = false := HEN1.out.zf 0
      have ez1 : w1.cell? ⟨w.heap.size + 1, 1, none⟩ = some (.int .i64 0) := HEN1.out.z1
      have ef1 : w1.frozen? ⟨w.heap.size + 1, 1, none⟩ = false := HEN1.out.zf 1
      have ez2 : w1.cell? ⟨w.heap.size + 1, 2, none⟩ = some (.slice none 0 0) := HEN1.out.z2
      have ef2 : w1.frozen? ⟨w.heap.size + 1, 2, none⟩ = false := HEN1.out.zf 2
      go_wp2_with fail
      refine (HV.out _ HEN1.out.b).mono ?_
      rw [HL.out]
      rintro e w2 ⟨rfl, hbs⟩
      have HEN2 := Lib.hid (HEN1.out.more hbs)
      clear hbs HEN1 ex0 ex1 ex2 ez0 ez1 ez2 ef0 ef1 ef2
      have ex0 : w2.cell? ⟨w.heap.size, 0, none⟩ = some (.slice (some ⟨b, 0, none⟩) t.l.length lc) := HEN2.out.x0
      have ex1 : w2.cell? ⟨w.heap.size, 1, none⟩ = some (.int .i64 t.last) := HEN2.out.x1
      have ex2 : w2.cell? ⟨w.heap.size, 2, none⟩ = some (.slice ea en ec) := HEN2.out.x2
      have ez0 : w2.cell? ⟨w.heap.size + 1, 0, none⟩ = some (.slice none 0 0) := HEN2.out.z0
      have ef0 : w2.frozen? ⟨w.heap.size + 1, 0, none⟩ = false := HEN2.out.zf 0
      have ez1 : w2.cell? ⟨w.heap.size + 1, 1, none⟩ = some (.int .i64 0) := HEN2.out.z1
      have ef1 : w2.frozen? ⟨w.heap.size + 1, 1, none⟩ = false := HEN2.out.zf 1
      have ez2 : w2.cell? ⟨w.heap.size + 1, 2, none⟩ = some (.slice none 0 0) := HEN2.out.z2
      have ef2 : w2.frozen? ⟨w.heap.size + 1, 2, none⟩ = false := HEN2.out.zf 2
      clear ex0 ex1 ex2 ez0 ez1 ez2 ef0 ef1 ef2
      have hsz2 := HEN2.out.b.size
      have ho : (w2.alloc (.cells #[] 73)).ownsRow w.heap.size 73 7 (.slice (some ⟨w2.heap.size, 0, none⟩) 0 0) 0 [] := World.ownsRow_made (base := w.heap.size) (e := 73) (size := 7) w2 #[] 0 hsz2 (Nat.zero_le _) (by simp)
      have hen3 := HEN2.out.more (below_alloc w2 (.cells #[] 73))
      have HO3 := Lib.hid ho; have HEN3 := Lib.hid hen3
      clear ho hen3 hsz2
      have ex0 : (w2.alloc (.cells #[] 73)).cell? ⟨w.heap.size, 0, none⟩ = some (.slice (some ⟨b, 0, none⟩) t.l.length lc) := HEN3.out.x0
      have ex1 : (w2.alloc (.cells #[] 73)).cell? ⟨w.heap.size, 1, none⟩ = some (.int .i64 t.last) := HEN3.out.x1
      have ex2 : (w2.alloc (.cells #[] 73)).cell? ⟨w.heap.size, 2, none⟩ = some (.slice ea en ec) := HEN3.out.x2
      go_wp2_with fail
      clear ex0 ex1 ex2
      go_loopw [9, 10, 28] (fun x v i wr => ∃ k : Nat, k ≤ t.l.length ∧ i = .int .i64 k ∧ wr.ownsRow w.heap.size 73 7 v (LX f t.l k).length (lcells (LX f t.l k)) ∧ En w (.slice (some ⟨b, 0, none⟩) t.l.length lc) (.slice ea en ec) t.last wr ∧ x = .int .i64 (stX pid t.l k)) (fun _ _ i _ => t.l.length - (intOf i).toNat)
      case atStart => exact ⟨0, Nat.zero_le _, rfl, HO3.out, HEN3.out, rfl⟩
      case round =>
        obtain ⟨k2, hk2, rfl, hown, hen, hsx⟩ := hrel
        have hln := LX_len f t.l k2 hk2
        by_cases hlt2 : k2 < t.l.length
        · have hq := List.getElem?_eq_getElem hlt2
          generalize t.l[k2] = q at hq
          have HQ := Lib.hid hq
          have hrd := HALL.out _ _ hq wr hen.b
          have r0 : wr.cell? ⟨b, k2 * 7, none⟩ = some (.int .i64 q.pid) := hrd 0 _ rfl
          have r1 : wr.cell? ⟨b, k2 * 7 + 1, none⟩ = some (.int .i64 q.par) := hrd 1 _ rfl
          have r2 : wr.cell? ⟨b, k2 * 7 + 2, none⟩ = some (.int .i64 q.st) := hrd 2 _ rfl
          have r3 : wr.cell? ⟨b, k2 * 7 + 3, none⟩ = some (.bool q.live) := hrd 3 _ rfl
          have r4 : wr.cell? ⟨b, k2 * 7 + 4, none⟩ = some (.int .u32 q.ig) := hrd 4 _ rfl
          have r5 : wr.cell? ⟨b, k2 * 7 + 5, none⟩ = some (.int .u32 q.ca) := hrd 5 _ rfl
          have r6 : wr.cell? ⟨b, k2 * 7 + 6, none⟩ = some (.int .u32 q.pe) := hrd 6 _ rfl
          have hbx := Bx.new hen hown q
          have HBX := Lib.hid hbx
          have b0 : (wr.alloc (.cells #[.int .i64 q.pid, .int .i64 q.par, .int .i64 q.st, .bool q.live, .int .u32 q.ig, .int .u32 q.ca, .int .u32 q.pe] 73)).cell? ⟨wr.heap.size, 0, none⟩ = some (.int .i64 q.pid) := Lib.cell_of_heap hbx.box 0
          have b2 : (wr.alloc (.cells #[.int .i64 q.pid, .int .i64 q.par, .int .i64 q.st, .bool q.live, .int .u32 q.ig, .int .u32 q.ca, .int .u32 q.pe] 73)).cell? ⟨wr.heap.size, 2, none⟩ = some (.int .i64 q.st) := Lib.cell_of_heap hbx.box 2
          have HS := Lib.hid hsx
          clear hq hrd hbx hown hen hsx
          cases hc1 : q.pid == pid
          · have hfq : f q = some q := by rw [HF.out, hc1]; rfl
            have HFQ := Lib.hid hfq
            have HC := Lib.hid hc1
            clear hfq
            have px0 : (wr.alloc (.cells #[.int .i64 q.pid, .int .i64 q.par, .int .i64 q.st, .bool q.live, .int .u32 q.ig, .int .u32 q.ca, .int .u32 q.pe] 73)).cell? ⟨wr.heap.size, 0, none⟩ = some (.int .i64 q.pid) := Lib.cell_of_heap HBX.out.box 0
            have px1 : (wr.alloc (.cells #[.int .i64 q.pid, .int .i64 q.par, .int .i64 q.st, .bool q.live, .int .u32 q.ig, .int .u32 q.ca, .int .u32 q.pe] 73)).cell? ⟨wr.heap.size, 1, none⟩ = some (.int .i64 q.par) := Lib.cell_of_heap HBX.out.box 1
            have px2 : (wr.alloc (.cells #[.int .i64 q.pid, .int .i64 q.par, .int .i64 q.st, .bool q.live, .int .u32 q.ig, .int .u32 q.ca, .int .u32 q.pe] 73)).cell? ⟨wr.heap.size, 2, none⟩ = some (.int .i64 q.st) := Lib.cell_of_heap HBX.out.box 2
            have px3 : (wr.alloc (.cells #[.int .i64 q.pid, .int .i64 q.par, .int .i64 q.st, .bool q.live, .int .u32 q.ig, .int .u32 q.ca, .int .u32 q.pe] 73)).cell? ⟨wr.heap.size, 3, none⟩ = some (.bool q.live) := Lib.cell_of_heap HBX.out.box 3
            have px4 : (wr.alloc (.cells #[.int .i64 q.pid, .int .i64 q.par, .int .i64 q.st, .bool q.live, .int .u32 q.ig, .int .u32 q.ca, .int .u32 q.pe] 73)).cell? ⟨wr.heap.size, 4, none⟩ = some (.int .u32 q.ig) := Lib.cell_of_heap HBX.out.box 4
            have px5 : (wr.alloc (.cells #[.int .i64 q.pid, .int .i64 q.par, .int .i64 q.st, .bool q.live, .int .u32 q.ig, .int .u32 q.ca, .int .u32 q.pe] 73)).cell? ⟨wr.heap.size, 5, none⟩ = some (.int .u32 q.ca) := Lib.cell_of_heap HBX.out.box 5
            have px6 : (wr.alloc (.cells #[.int .i64 q.pid, .int .i64 q.par, .int .i64 q.st, .bool q.live, .int .u32 q.ig, .int .u32 q.ca, .int .u32 q.pe] 73)).cell? ⟨wr.heap.size, 6, none⟩ = some (.int .u32 q.pe) := Lib.cell_of_heap HBX.out.box 6
            have hnews := HBX.out.news
            rw [World.size_alloc] at hnews
            have HNEWS := Lib.hid hnews
            clear hnews
            have HOWN := Lib.hid (own_stays HBX.out.own (below_alloc (wr.alloc (.cells #[.int .i64 q.pid, .int .i64 q.par, .int .i64 q.st, .bool q.live, .int .u32 q.ig, .int .u32 q.ca, .int .u32 q.pe] 73)) (.cells #[.int .i64 q.pid, .int .i64 q.par, .int .i64 q.st, .bool q.live, .int .u32 q.ig, .int .u32 q.ca, .int .u32 q.pe] 73)))
            have HSZ := Lib.hid (show w.heap.size ≤ ((wr.alloc (.cells #[.int .i64 q.pid, .int .i64 q.par, .int .i64 q.st, .bool q.live, .int .u32 q.ig, .int .u32 q.ca, .int .u32 q.pe] 73)).alloc (.cells #[.int .i64 q.pid, .int .i64 q.par, .int .i64 q.st, .bool q.live, .int .u32 q.ig, .int .u32 q.ca, .int .u32 q.pe] 73)).heap.size from Nat.le_trans HBX.out.en.b.size (Nat.le_trans (Nat.le_succ _) (Nat.le_of_eq (World.size_alloc _ _).symm)))
            go_wp2_with (at_builtin; refine hold ?_)
            refine Hold.out ?_
            refine wpList_append_own_at _ rfl _ _ 28 rfl w.heap.size 73 i0 (.agg #[.int .i64 0, .int .i64 0, .int .i64 0, .bool false, .int .u32 0, .int .u32 0, .int .u32 0]) 7 40 Try.underlying28 hi hz0 hz1 hz2 rfl (by decide) _ _ _ rfl HOWN.out ⟨_, 0, none⟩ 1 1 (qcells ⟨q.pid, q.par, q.st, q.live, q.ig, q.ca, q.pe⟩) rfl rfl HNEWS.out (qcells_one _) (by unfold maxLen; omega) (by omega) HSZ.out ?_
            intro v' w5 hown5 hgrow5 hnil5 hloc5
            obtain ⟨hown6, hen6⟩ := HBX.out.app hown5 hgrow5
            rw [← LX_some HQ.out HFQ.out] at hown6
            have H1 := Lib.hid hown6; have H2 := Lib.hid hen6
            clear hown5 hgrow5 hnil5 hloc5 hown6 hen6
            go_wp2_with fail
            go_roundw
            case rel => exact ⟨k2 + 1, by omega, by go_num, H1.out, H2.out, by rw [stX_no HQ.out HC.out]; exact HS.out⟩
            case measure => simp [intOf]; omega
          · have hfq : f q = none := by rw [HF.out, hc1]; rfl
            have HFQ := Lib.hid hfq
            have HC := Lib.hid hc1
            clear hfq
            have hown6 := HBX.out.own
            rw [← LX_none HQ.out HFQ.out] at hown6
            have H1 := Lib.hid hown6
            clear hown6
            go_wp2_with fail
            go_roundw
            case rel => exact ⟨k2 + 1, by omega, by go_num, H1.out, HBX.out.en, by rw [stX_yes HQ.out HC.out]⟩
            case measure => simp [intOf]; omega
        · obtain rfl : k2 = t.l.length := by omega
          obtain ⟨la', ln', lc', rfl⟩ := ends_shape hown
          have hLX : LX f t.l t.l.length = t.l.filterMap f := by unfold LX; rw [List.take_length]
          rw [hLX] at hown
          have hst : stX pid t.l t.l.length = ((find t pid).map (·.st)).getD 0 := stX_all HOK.out pid
          rw [hst] at hsx
          subst hsx
          have HO := Lib.hid hown; have HEN := Lib.hid hen
          have xf0 := hen.xf 0
          have hen0 := hen.put0 (.slice la' ln' lc')
          have hown0 := own_other hown (a := ⟨w.heap.size, 0, none⟩) (own_ne hown hen.x (by decide)) (.slice la' ln' lc')
          have ex0 : wr.cell? ⟨w.heap.size, 0, none⟩ = some (.slice (some ⟨b, 0, none⟩) t.l.length lc) := HEN.out.x0
          have ex1 : wr.cell? ⟨w.heap.size, 1, none⟩ = some (.int .i64 t.last) := HEN.out.x1
          have ex2 : wr.cell? ⟨w.heap.size, 2, none⟩ = some (.slice ea en ec) := HEN.out.x2
          have ez0 : wr.cell? ⟨w.heap.size + 1, 0, none⟩ = some (.slice none 0 0) := HEN.out.z0
          have ef0 : wr.frozen? ⟨w.heap.size + 1, 0, none⟩ = false := HEN.out.zf 0
          have ez1 : wr.cell? ⟨w.heap.size + 1, 1, none⟩ = some (.int .i64 0) := HEN.out.z1
          have ef1 : wr.frozen? ⟨w.heap.size + 1, 1, none⟩ = false := HEN.out.zf 1
          have ez2 : wr.cell? ⟨w.heap.size + 1, 2, none⟩ = some (.slice none 0 0) := HEN.out.z2
          have ef2 : wr.frozen? ⟨w.heap.size + 1, 2, none⟩ = false := HEN.out.zf 2
          have HEN0 := Lib.hid hen0; have HOWN0 := Lib.hid hown0
          clear hown hen hLX hen0 hown0 hst
          go_wp2_with fail
          have hrt : RT _ B (.slice la' ln' lc') (.slice ea en ec) { l := t.l.filterMap f, last := t.last, ends := t.ends } := ⟨own_low HOWN0.out hB, (HR.out.stay HEN0.out.b).e⟩
          have hfin := fin_row (lv := (.slice (some ⟨b, 0, none⟩) t.l.length lc)) (ev := .slice ea en ec) HEN0.out.b HEN0.out.z hrt (fun j e => .inr (HOWN0.out.lt j e).1) (fun _ e => .inl e)
          exact bodyPost_ret (results_row_tmp2 rfl _ _ (w.heap.size + 1) _ _ _ _ rfl hfin.1 Try.underlying31 rfl (by kernel_rfl)) rfl ⟨_, _, rfl, hfin.2⟩
    · have hno : reap t par pid = (t, 0, false) := by unfold reap; exact if_pos (.inr hl)
      rw [hno]
      have HC := Lib.hid hc; have HL := Lib.hid hl
      clear hno O hc hl
      unfold tv at HV HC1 ⊢
      go_enter Try.func17, Try.ntmps17
      go_wp2_with fail
      refine (HC1.out _ HEN0.out.b).mono ?_
      rw [HC.out]
      rintro e w1 ⟨rfl, hbs⟩
      have HEN1 := Lib.hid (HEN0.out.more hbs)
      clear hbs HEN0 
      have ex0 : w1.cell? ⟨w.heap.size, 0, none⟩ = some (.slice la ln lc) := HEN1.out.x0
      have ex1 : w1.cell? ⟨w.heap.size, 1, none⟩ = some (.int .i64 t.last) := HEN1.out.x1
      have ex2 : w1.cell? ⟨w.heap.size, 2, none⟩ = some (.slice ea en ec) := HEN1.out.x2
      have ez0 : w1.cell? ⟨w.heap.size + 1, 0, none⟩ = some (.slice none 0 0) := HEN1.out.z0
      have ef0 : w1.frozen? ⟨w.heap.size + 1, 0, none⟩ = false := HEN1.out.zf 0
      have ez1 : w1.cell? ⟨w.heap.size + 1, 1, none⟩ = some (.int .i64 0) := HEN1.out.z1
      have ef1 : w1.frozen? ⟨w.heap.size + 1, 1, none⟩ = false := HEN1.out.zf 1
      have ez2 : w1.cell? ⟨w.heap.size + 1, 2, none⟩ = some (.slice none 0 0) := HEN1.out.z2
      have ef2 : w1.frozen? ⟨w.heap.size + 1, 2, none⟩ = false := HEN1.out.zf 2
      go_wp2_with fail
      refine (HV.out _ HEN1.out.b).mono ?_
      rw [HL.out]
      rintro e w2 ⟨rfl, hbs⟩
      have HEN2 := Lib.hid (HEN1.out.more hbs)
      clear hbs HEN1 ex0 ex1 ex2 ez0 ez1 ez2 ef0 ef1 ef2
      have ex0 : w2.cell? ⟨w.heap.size, 0, none⟩ = some (.slice la ln lc) := HEN2.out.x0
      have ex1 : w2.cell? ⟨w.heap.size, 1, none⟩ = some (.int .i64 t.last) := HEN2.out.x1
      have ex2 : w2.cell? ⟨w.heap.size, 2, none⟩ = some (.slice ea en ec) := HEN2.out.x2
      have ez0 : w2.cell? ⟨w.heap.size + 1, 0, none⟩ = some (.slice none 0 0) := HEN2.out.z0
      have ef0 : w2.frozen? ⟨w.heap.size + 1, 0, none⟩ = false := HEN2.out.zf 0
      have ez1 : w2.cell? ⟨w.heap.size + 1, 1, none⟩ = some (.int .i64 0) := HEN2.out.z1
      have ef1 : w2.frozen? ⟨w.heap.size + 1, 1, none⟩ = false := HEN2.out.zf 1
      have ez2 : w2.cell? ⟨w.heap.size + 1, 2, none⟩ = some (.slice none 0 0) := HEN2.out.z2
      have ef2 : w2.frozen? ⟨w.heap.size + 1, 2, none⟩ = false := HEN2.out.zf 2
      go_wp2_with fail
      have hfin := fin_row HEN2.out.b HEN2.out.z (HR.out.stay HEN2.out.b) (fun _ e => .inl e) (fun _ e => .inl e)
      exact bodyPost_ret (results_row_tmp2 rfl _ _ (w.heap.size + 1) _ _ _ _ rfl hfin.1 Try.underlying31 rfl (by kernel_rfl)) rfl ⟨_, _, rfl, hfin.2⟩
end Kn
end Go.Proofs.Ytlebglnlkkoakaa
