/- The reference's Exit. -/
import Derived.Test.YtlebglnlkkoakaaKrG
import Derived.Test.YtlebglnlkkoakaaKrS
namespace Go.Proofs.Ytlebglnlkkoakaa
open Go.RowKit Go.Maps
namespace Kn
theorem En.grown {w wq w' : World} {lv ev v : Value} {last : Int} {T : TypeId} {size n : Nat} {xs : List Value} (h : En w lv ev last wq) (hv : wq.ownsRow w.heap.size T size v n xs) (hT : 31 ≠ T) (hg : wq.grownBy w' v.ownBlock) : En w lv ev last w' := by
  have n1 := own_ne hv h.x hT
  have n2 := own_ne hv h.z hT
  refine ⟨h.b.grown hg h.b.size (fun j e => (hv.lt j e).1), ?_, ?_⟩
  · exact (hg.block _ (Array.getElem?_eq_some_iff.1 h.x).1 (fun e => n1 _ e.symm rfl)).trans h.x
  · exact (hg.block _ (Array.getElem?_eq_some_iff.1 h.z).1 (fun e => n2 _ e.symm rfl)).trans h.z
theorem lcells_snoc (l : List P) (q : P) : lcells (l ++ [q]) = lcells l ++ qcells q := by simp [lcells]
/-- Within a loop over the processes: the box of one, and the row that is being made. -/
structure Bx (w wq : World) (lv ev : Value) (last : Int) (v : Value) (l : List P) (g : Nat) (q : P) : Prop where
  en : En w lv ev last wq
  own : wq.ownsRow w.heap.size 73 7 v l.length (lcells l)
  box : wq.heap[g]? = some (.cells #[.int .i64 q.pid, .int .i64 q.par, .int .i64 q.st, .bool q.live, .int .u32 q.ig, .int .u32 q.ca, .int .u32 q.pe] 73 (0, 0))
  far : w.heap.size + 1 < g
  ne : ∀ j, v.ownBlock = some j → j ≠ g
theorem Bx.new {w wr : World} {lv ev : Value} {last : Int} {v : Value} {l : List P} (hen : En w lv ev last wr) (hown : wr.ownsRow w.heap.size 73 7 v l.length (lcells l)) (q : P) :
    Bx w (wr.alloc (.cells #[.int .i64 q.pid, .int .i64 q.par, .int .i64 q.st, .bool q.live, .int .u32 q.ig, .int .u32 q.ca, .int .u32 q.pe] 73)) lv ev last v l wr.heap.size q :=
  ⟨hen.more (below_alloc wr _), own_stays hown (below_alloc wr _), heap_alloc_new wr _, hen.far, fun j e => Nat.ne_of_lt (hown.lt j e).2⟩
theorem Bx.set {w wq : World} {lv ev : Value} {last : Int} {v : Value} {l : List P} {g : Nat} {q : P} (h : Bx w wq lv ev last v l g q) (i : Nat) (u : Value) (q' : P)
    (hr : (wq.setCell ⟨g, i, none⟩ u).heap[g]? = some (.cells #[.int .i64 q'.pid, .int .i64 q'.par, .int .i64 q'.st, .bool q'.live, .int .u32 q'.ig, .int .u32 q'.ca, .int .u32 q'.pe] 73 (0, 0))) :
    Bx w (wq.setCell ⟨g, i, none⟩ u) lv ev last v l g q' :=
  ⟨h.en.set h.far u, own_other h.own h.ne u, hr, h.far, h.ne⟩
theorem Bx.more {w wq w' : World} {lv ev : Value} {last : Int} {v : Value} {l : List P} {g : Nat} {q : P} (h : Bx w wq lv ev last v l g q) (hb : Below wq.heap.size wq w') : Bx w w' lv ev last v l g q :=
  ⟨h.en.more hb, own_stays h.own hb, (hb.block _ (Array.getElem?_eq_some_iff.1 h.box).1).trans h.box, h.far, h.ne⟩
theorem Bx.news {w wq : World} {lv ev : Value} {last : Int} {v : Value} {l : List P} {g : Nat} {q : P} (_h : Bx w wq lv ev last v l g q) :
    ∀ j u, (qcells q)[j]? = some u → (wq.alloc (.cells #[.int .i64 q.pid, .int .i64 q.par, .int .i64 q.st, .bool q.live, .int .u32 q.ig, .int .u32 q.ca, .int .u32 q.pe] 73)).cell? ((⟨wq.heap.size, 0, none⟩ : Addr).add j) = some u := by
  intro j u hj
  rw [Addr.add_lit, Nat.zero_add, Lib.cell_of_heap (heap_alloc_new wq _) j]
  simpa [qcells] using hj
theorem qcells_one (q : P) : ∀ u ∈ qcells q, u.oneCell' = true := fun u hu => lcells_one (l := [q]) u (by simpa [lcells] using hu)
theorem Bx.app {w wq w5 : World} {lv ev : Value} {last : Int} {v v' : Value} {l : List P} {g : Nat} {q : P} (h : Bx w wq lv ev last v l g q) {o : Obj} (hown : w5.ownsRow w.heap.size 73 7 v' (l.length + 1) (lcells l ++ qcells q)) (hg : (wq.alloc o).grownBy w5 v.ownBlock) :
    w5.ownsRow w.heap.size 73 7 v' (l ++ [q]).length (lcells (l ++ [q])) ∧ En w lv ev last w5 := by
  refine ⟨?_, (h.en.more (below_alloc wq o)).grown (own_stays h.own (below_alloc wq o)) (by decide) hg⟩
  rw [lcells_snoc, List.length_append]; exact hown
/-- What the loop has made of the first ones. -/
def LX (f : P → Option P) (l : List P) (k : Nat) : List P := (l.take k).filterMap f
theorem LX_len (f : P → Option P) (l : List P) (k : Nat) (hk : k ≤ l.length) : (LX f l k).length ≤ k := by
  unfold LX
  exact Nat.le_trans (List.length_filterMap_le _ _) (by rw [List.length_take]; omega)
theorem LX_none {f : P → Option P} {l : List P} {k : Nat} {q : P} (hq : l[k]? = some q) (hf : f q = none) : LX f l (k + 1) = LX f l k := by
  obtain ⟨hk, e⟩ := List.getElem?_eq_some_iff.1 hq
  unfold LX
  rw [List.take_succ_eq_append_getElem hk, List.filterMap_append, e]
  simp [hf]
theorem LX_some {f : P → Option P} {l : List P} {k : Nat} {q q' : P} (hq : l[k]? = some q) (hf : f q = some q') : LX f l (k + 1) = LX f l k ++ [q'] := by
  obtain ⟨hk, e⟩ := List.getElem?_eq_some_iff.1 hq
  unfold LX
  rw [List.take_succ_eq_append_getElem hk, List.filterMap_append, e]
  simp [hf]
/-- A whole row that the call may read is appended to one of its own. -/
theorem wpList_append_row {P : Program} {w : World} {ops : Array Oper} {rest : List Oper} {o : Oper} {a : Act} {Q : Exit → Act → World → Prop} (hgd : o.guard = none) (s x : Operand) (t : TypeId)
    (ho : o.op = .call { callee := .builtin .append, args := #[s, x], argTypes := #[t, t] })
    (base : Nat) (e : TypeId) (i : TypeInfo) (z : Value) (size bytes : Nat) (ht : P.underlying t = some (.slice e)) (hi : P.info? e = some i) (hz : i.zero = some z)
    (hsize : i.size = size) (hby : i.bytes = bytes) (hzs : z.cells.size = size) (hsz : 0 < size)
    (v : Value) (n : Nat) (xs : List Value) (hs : a.eval s = v) (hown : w.ownsRow base e size v n xs)
    (base2 : Nat) (v2 : Value) (m : Nat) (ys : List Value) (hx : a.eval x = v2) (hsrc : w.ownsRow base2 e size v2 m ys) (h1 : ∀ u ∈ ys, u.oneCell' = true)
    (h63 : n + m ≤ maxLen) (hbytes : (n + m) * bytes ≤ 140737488355328) (hbase : base ≤ w.heap.size)
    (h : ∀ v' w', w'.ownsRow base e size v' (n + m) (xs ++ ys) → w.grownBy w' v.ownBlock → wpList P ops Q rest (a.put o.dst v') w') :
    wpList P ops Q (o :: rest) a w := by
  have hl := hsrc.1
  rcases hsrc.2 with ⟨rfl, rfl⟩ | ⟨g, cap, cur, rfl, _, _, _⟩
  · obtain rfl : ys = [] := List.eq_nil_of_length_eq_zero (by rw [hl, Nat.zero_mul])
    have hr := run_append_owned_none (P := P) w base t o.type e i size ht hi v n xs hown
    refine wpList_plain hgd fun K hK => ?_
    unfold Oper.wp execOp
    simp only [ho, resolve, invoke, builtin, Sem.run_bind, Sem.run_pure, Result.andThen_ok, List.map_toArray, List.map_cons, List.map_nil, hs, hx, hr]
    exact hK _ _ (h v w (by rw [List.append_nil]; exact hown) ⟨rfl, rfl, rfl, Nat.le_refl _, fun _ _ _ => rfl⟩)
  · exact wpList_append_own_at w hgd s x t ho base e i z size bytes ht hi hz hsize hby hzs hsz v n xs hs hown ⟨g, 0, none⟩ m cap ys hx hl (hsrc.cells rfl) h1 h63 hbytes hbase (fun v' w' k1 k2 _ _ => h v' w' k1 k2)
/-- A row stays as one of another type grows. -/
theorem own_grow {w w' : World} {base : Nat} {e : TypeId} {size : Nat} {v : Value} {n : Nat} {xs : List Value} (h : w.ownsRow base e size v n xs) {base2 : Nat} {e2 : TypeId} {size2 : Nat} {v2 : Value} {n2 : Nat} {xs2 : List Value}
    (h2 : w.ownsRow base2 e2 size2 v2 n2 xs2) (hne : e ≠ e2) (hg : w.grownBy w' v2.ownBlock) : w'.ownsRow base e size v n xs := by
  obtain ⟨h1, h3⟩ := h
  refine ⟨h1, ?_⟩
  rcases h3 with h3 | ⟨g, cap, cur, hv, hb, hh, hr⟩
  · exact .inl h3
  · exact .inr ⟨g, cap, cur, hv, hb, (hg.block g (Array.getElem?_eq_some_iff.1 hh).1 (fun e' => own_ne h2 hh hne _ e'.symm rfl)).trans hh, hr⟩
theorem En.put0 {w wq : World} {lv ev : Value} {last : Int} (h : En w lv ev last wq) (v : Value) : En w v ev last (wq.setCell ⟨w.heap.size, 0, none⟩ v) :=
  ⟨below_set h.b (Nat.le_refl _) v, heap_setCell_same _ _ 0 _ _ v h.x, (Below.heap_setCell wq ⟨w.heap.size, 0, none⟩ v (w.heap.size + 1) (by show w.heap.size + 1 ≠ w.heap.size; omega)).trans h.z⟩
theorem En.put1 {w wq : World} {lv ev : Value} {last : Int} (h : En w lv ev last wq) (x : Int) : En w lv ev x (wq.setCell ⟨w.heap.size, 1, none⟩ (.int .i64 x)) :=
  ⟨below_set h.b (Nat.le_refl _) _, heap_setCell_same _ _ 1 _ _ _ h.x, (Below.heap_setCell wq ⟨w.heap.size, 1, none⟩ _ (w.heap.size + 1) (by show w.heap.size + 1 ≠ w.heap.size; omega)).trans h.z⟩
theorem En.put2 {w wq : World} {lv ev : Value} {last : Int} (h : En w lv ev last wq) (v : Value) : En w lv v last (wq.setCell ⟨w.heap.size, 2, none⟩ v) :=
  ⟨below_set h.b (Nat.le_refl _) v, heap_setCell_same _ _ 2 _ _ v h.x, (Below.heap_setCell wq ⟨w.heap.size, 2, none⟩ v (w.heap.size + 1) (by show w.heap.size + 1 ≠ w.heap.size; omega)).trans h.z⟩
theorem ecells_snoc (l : List (Int × Int)) (a b : Int) : ecells (l ++ [(a, b)]) = ecells l ++ [.int .i64 a, .int .i64 b] := by simp [ecells]
theorem cells_new2 (w : World) (a b : Value) (T : TypeId) : ∀ j u, [a, b][j]? = some u → (w.alloc (.cells #[a, b] T)).cell? ((⟨w.heap.size, 0, none⟩ : Addr).add j) = some u := by
  intro j u hj
  rw [Addr.add_lit, Nat.zero_add, Lib.cell_of_heap (heap_alloc_new w _) j]
  simpa using hj
set_option maxRecDepth 4000 in
set_option maxHeartbeats 3200000 in
theorem rexit_any {w : World} {B : Nat} {t : T} {lv ev : Value} (hR : RT w B lv ev t) (O : Ok t) (S : Sets t) (hB : B ≤ w.heap.size) (hE : t.ends.length ≤ 100) (pid st : Int) :
    Calls Try.prog 15 #[tv t lv ev, .int .i64 pid, .int .i64 st] w fun e w' => ∃ lv' ev', e = .returned (.tuple #[tv (exitR t pid st).1 lv' ev', .bool (exitR t pid st).2]) ∧ RCh w B lv ev (exitR t pid st).1 lv' ev' w' := by
  obtain ⟨i0, hi, hz0, hz1, hz2⟩ := info_parts infoProc
  obtain ⟨j0, hj, hy0, hy1, hy2⟩ := info_parts infoEnd
  have hn := O.len
  have hen := En.start w lv ev t.last
  have HV := Lib.hid (fun w' (hb : Below w.heap.size w w') => rlive_any (ev := ev) (hR.at.stay hb) hn pid)
  have HR := Lib.hid hR; have HEN0 := Lib.hid hen
  obtain ⟨ea, en, ec, rfl⟩ := ends_shape hR.e
  obtain ⟨la, ln, lc, rfl⟩ := ends_shape hR.l
  clear hen hR
  cases hl : live t pid
  · have hno : exitR t pid st = (t, false) := by
      unfold exitR
      cases hf : find t pid with
      | none => rfl
      | some p => rw [live_at hf] at hl; simp [hl]
    rw [hno]
    have HL := Lib.hid hl
    clear hno O S hl
    unfold tv at HV ⊢
    go_enter Try.func15, Try.ntmps15
    go_wp2_with fail
    refine (HV.out _ HEN0.out.b).mono ?_
    rw [HL.out]
    rintro e w1 ⟨rfl, hbs⟩
    have HEN1 := Lib.hid (HEN0.out.more hbs)
    clear hbs HEN0 
    have ex0 : w1.cell? ⟨w.heap.size, 0, none⟩ = some (.slice la ln lc) := HEN1.out.x0
    have ex1 : w1.cell? ⟨w.heap.size, 1, none⟩ = some (.int .i64 t.last) := HEN1.out.x1
    have ex2 : w1.cell? ⟨w.heap.size, 2, none⟩ = some (.slice ea en ec) := HEN1.out.x2
    have ez0 : w1.cell? ⟨w.heap.size + 1, 0, none⟩ = some (.slice none 0 0) := HEN1.out.z0
    have ef0 : w1.frozen? ⟨w.heap.size + 1, 0, none⟩ = false := HEN1.out.zf 0
    have ez1 : w1.cell? ⟨w.heap.size + 1, 1, none⟩ = some (.int .i64 0) := HEN1.out.z1
    have ef1 : w1.frozen? ⟨w.heap.size + 1, 1, none⟩ = false := HEN1.out.zf 1
    have ez2 : w1.cell? ⟨w.heap.size + 1, 2, none⟩ = some (.slice none 0 0) := HEN1.out.z2
    have ef2 : w1.frozen? ⟨w.heap.size + 1, 2, none⟩ = false := HEN1.out.zf 2
    go_wp2_with fail
    have hfin := fin_row HEN1.out.b HEN1.out.z (HR.out.stay HEN1.out.b) (fun _ e => .inl e) (fun _ e => .inl e)
    exact bodyPost_ret (results_row_tmp rfl _ _ (w.heap.size + 1) _ _ _ _ rfl hfin.1 Try.underlying31 rfl (by kernel_rfl)) rfl ⟨_, _, rfl, hfin.2⟩
  · obtain ⟨p, hf, hpl⟩ := live_iff hl
    obtain ⟨k, hat, hk, hlt⟩ := find_atN hf
    obtain ⟨hp1, hp2, hp3⟩ := S.at hf
    have HA := fun w' (hb : Below w.heap.size w w') => rat_any (ev := .slice ea en ec) (HR.out.at.stay hb) hn pid
    rw [hat] at HA
    obtain ⟨b, cap, e2, hbl, rd⟩ := HR.out.at.reads hk
    obtain ⟨rfl, rfl, rfl⟩ : la = some ⟨b, 0, none⟩ ∧ ln = t.l.length ∧ lc = cap := by cases e2; exact ⟨rfl, rfl, rfl⟩
    have hset : exitR t pid st = ({ t with l := t.l.filterMap (leftR t pid (st % 256) p.par), ends := t.ends ++ [(pid, st % 256)] }, true) := by
      unfold exitR
      rw [hf]
      simp [hpl]
    rw [hset]
    obtain ⟨f, hff⟩ : ∃ f : P → Option P, f = leftR t pid (st % 256) p.par := ⟨_, rfl⟩
    have HF := Lib.hid hff
    rw [← hff]
    clear hff
    have HRD := Lib.hid rd; have HL := Lib.hid hl; have HE := Lib.hid hE
    have HVP := Lib.hid (fun w' (hb : Below w.heap.size w w') => rlive_any (ev := .slice ea en ec) (HR.out.at.stay hb) hn p.par)
    unfold tv at HA HV HVP ⊢
    have HA := Lib.hid HA
    clear hl hf hpl hat hk hset e2 rd hE
    go_enter Try.func15, Try.ntmps15
    go_wp2_with fail
    refine (HV.out _ HEN0.out.b).mono ?_
    rw [HL.out]
    rintro e w1 ⟨rfl, hbs⟩
    have HEN1 := Lib.hid (HEN0.out.more hbs)
    clear hbs HEN0 
    have ex0 : w1.cell? ⟨w.heap.size, 0, none⟩ = some (.slice (some ⟨b, 0, none⟩) t.l.length lc) := HEN1.out.x0
    have ex1 : w1.cell? ⟨w.heap.size, 1, none⟩ = some (.int .i64 t.last) := HEN1.out.x1
    have ex2 : w1.cell? ⟨w.heap.size, 2, none⟩ = some (.slice ea en ec) := HEN1.out.x2
    have ez0 : w1.cell? ⟨w.heap.size + 1, 0, none⟩ = some (.slice none 0 0) := HEN1.out.z0
    have ef0 : w1.frozen? ⟨w.heap.size + 1, 0, none⟩ = false := HEN1.out.zf 0
    have ez1 : w1.cell? ⟨w.heap.size + 1, 1, none⟩ = some (.int .i64 0) := HEN1.out.z1
    have ef1 : w1.frozen? ⟨w.heap.size + 1, 1, none⟩ = false := HEN1.out.zf 1
    have ez2 : w1.cell? ⟨w.heap.size + 1, 2, none⟩ = some (.slice none 0 0) := HEN1.out.z2
    have ef2 : w1.frozen? ⟨w.heap.size + 1, 2, none⟩ = false := HEN1.out.zf 2
    go_wp2_with fail
    refine RN.begins (fun wq => En w (.slice (some ⟨b, 0, none⟩) t.l.length lc) (.slice ea en ec) t.last wq) [] (by kernel_rfl) ?_
    have hS : (fun wq => En w (.slice (some ⟨b, 0, none⟩) t.l.length lc) (.slice ea en ec) t.last wq) w1.drew := HEN1.out.drew
    clear ex0 ex1 ex2 ez0 ez1 ez2 ef0 ef1 ef2 HEN1
    refine RN.take (i := 0) (v := ?_) rfl (by decide) (by kernel_rfl) (by kernel_rfl) (by kernel_rfl) (by kernel_rfl) (by kernel_rfl) (by first | exact fun _ _ _ h => h | exact fun _ _ _ h => (by cases h.1) | exact fun _ _ _ h => door_put (by decide) h) (.inl ⟨by rfl, ?_⟩) hS ?_
    rotate_left 1
    · (intro wq hq; have s0 := En.x0 hq; have s1 := En.x1 hq; have s2 := En.x2 hq; go_simp; try with_reducible rfl)
    refine RN.take (i := 1) (v := ?_) rfl (by decide) (by kernel_rfl) (by kernel_rfl) (by kernel_rfl) (by kernel_rfl) (by kernel_rfl) (by first | exact fun _ _ _ h => h | exact fun _ _ _ h => (by cases h.1) | exact fun _ _ _ h => door_put (by decide) h) (.inl ⟨by rfl, ?_⟩) hS ?_
    rotate_left 1
    · (intro wq hq; have s0 := En.x0 hq; have s1 := En.x1 hq; have s2 := En.x2 hq; go_simp; try with_reducible rfl)
    refine RN.take (i := 2) (v := ?_) rfl (by decide) (by kernel_rfl) (by kernel_rfl) (by kernel_rfl) (by kernel_rfl) (by kernel_rfl) (by first | exact fun _ _ _ h => h | exact fun _ _ _ h => (by cases h.1) | exact fun _ _ _ h => door_put (by decide) h) (.inl ⟨by rfl, ?_⟩) hS ?_
    rotate_left 1
    · (intro wq hq; have s0 := En.x0 hq; have s1 := En.x1 hq; have s2 := En.x2 hq; go_simp; try with_reducible rfl)
    refine RN.take (i := 3) (v := ?_) rfl (by decide) (by kernel_rfl) (by kernel_rfl) (by kernel_rfl) (by kernel_rfl) (by kernel_rfl) (by first | exact fun _ _ _ h => h | exact fun _ _ _ h => (by cases h.1) | exact fun _ _ _ h => door_put (by decide) h) (.inl ⟨by rfl, ?_⟩) hS ?_
    rotate_left 1
    · (intro wq hq; have s0 := En.x0 hq; have s1 := En.x1 hq; have s2 := En.x2 hq; go_simp; try with_reducible rfl)
    refine RN.all (rs := [4]) (by kernel_rfl) (by simp) ?_
    refine RN.All.cons rfl (fun K hK => ?_) RN.All.nil
    go_simp
    refine (HA.out _ hS.b).mono ?_
    rintro e w2 ⟨rfl, hb2⟩
    have hS2 := En.more hS hb2
    refine hK _ _ (fun _ => hS2) ?_
    clear hK K hS hb2
    have hS := hS2
    refine RN.take (i := 5) (v := ?_) rfl (by decide) (by kernel_rfl) (by kernel_rfl) (by kernel_rfl) (by kernel_rfl) (by kernel_rfl) (by first | exact fun _ _ _ h => h | exact fun _ _ _ h => (by cases h.1) | exact fun _ _ _ h => door_put (by decide) h) (.inl ⟨by rfl, ?_⟩) hS ?_
    rotate_left 1
    · (intro wq hq; skip; go_simp; try with_reducible rfl)
    refine RN.take (i := 6) (v := ?_) rfl (by decide) (by kernel_rfl) (by kernel_rfl) (by kernel_rfl) (by kernel_rfl) (by kernel_rfl) (by first | exact fun _ _ _ h => h | exact fun _ _ _ h => (by cases h.1) | exact fun _ _ _ h => door_put (by decide) h) (.inl ⟨by rfl, ?_⟩) hS ?_
    rotate_left 1
    · (intro wq hq; skip; go_simp; try with_reducible rfl)
    refine RN.take (i := 7) (v := ?_) rfl (by decide) (by kernel_rfl) (by kernel_rfl) (by kernel_rfl) (by kernel_rfl) (by kernel_rfl) (by first | exact fun _ _ _ h => h | exact fun _ _ _ h => (by cases h.1) | exact fun _ _ _ h => door_put (by decide) h) (.inl ⟨by rfl, ?_⟩) hS ?_
    rotate_left 1
    · (intro wq hq; have s3 : wq.cell? ⟨b, k * 7 + 1, none⟩ = some (.int .i64 p.par) := HRD.out _ hq.b 1 _ rfl; go_simp; try with_reducible rfl)
    refine RN.take (i := 8) (v := ?_) rfl (by decide) (by kernel_rfl) (by kernel_rfl) (by kernel_rfl) (by kernel_rfl) (by kernel_rfl) (by first | exact fun _ _ _ h => h | exact fun _ _ _ h => (by cases h.1) | exact fun _ _ _ h => door_put (by decide) h) (.inl ⟨by rfl, ?_⟩) hS ?_
    rotate_left 1
    · (intro wq hq; skip; go_simp; try with_reducible rfl)
    refine RN.done (by kernel_rfl) ?_ _
    have hst : (wrap64 (st.tmod 256 + 256)).tmod 256 = st % 256 := by
      have b : -255 ≤ st.tmod 256 ∧ st.tmod 256 ≤ 255 := by
        by_cases h : 0 ≤ st
        · rw [Int.tmod_eq_emod_of_nonneg h]; omega
        · obtain ⟨n, rfl⟩ : ∃ n : Int, st = -n := ⟨-st, by omega⟩
          rw [Int.neg_tmod, Int.tmod_eq_emod_of_nonneg (show 0 ≤ n by omega)]; omega
      rw [IntWalk.wrap64_in _ (by omega), Int.tmod_eq_emod_of_nonneg (by omega), rem_eq]
    rw [hst]
    clear hst
    have hsz2 := hS2.b.size
    have ho : (w2.alloc (.cells #[] 73)).ownsRow w.heap.size 73 7 (.slice (some ⟨w2.heap.size, 0, none⟩) 0 0) 0 [] := World.ownsRow_made (base := w.heap.size) (e := 73) (size := 7) w2 #[] 0 hsz2 (Nat.zero_le _) (by simp)
    have hen3 := hS2.more (below_alloc w2 (.cells #[] 73))
    have HO3 := Lib.hid ho; have HEN3 := Lib.hid hen3
    clear hS hS2 ho hen3 hsz2
    have ex0 : (w2.alloc (.cells #[] 73)).cell? ⟨w.heap.size, 0, none⟩ = some (.slice (some ⟨b, 0, none⟩) t.l.length lc) := HEN3.out.x0
    have ex1 : (w2.alloc (.cells #[] 73)).cell? ⟨w.heap.size, 1, none⟩ = some (.int .i64 t.last) := HEN3.out.x1
    have ex2 : (w2.alloc (.cells #[] 73)).cell? ⟨w.heap.size, 2, none⟩ = some (.slice ea en ec) := HEN3.out.x2
    have HALL := Lib.hid (fun (j : Nat) (q : P) (hj : t.l[j]? = some q) => (by obtain ⟨b', c', e, _, rd⟩ := HR.out.at.reads hj; cases e; exact rd : ∀ w', Below w.heap.size w w' → ∀ i u, (qcells q)[i]? = some u → w'.cell? ⟨b, j * 7 + i, none⟩ = some u))
    go_wp2_with fail
    clear ex0 ex1 ex2
    go_loopw [9, 33] (fun v i wr => ∃ k : Nat, k ≤ t.l.length ∧ i = .int .i64 k ∧ wr.ownsRow w.heap.size 73 7 v (LX f t.l k).length (lcells (LX f t.l k)) ∧ En w (.slice (some ⟨b, 0, none⟩) t.l.length lc) (.slice ea en ec) t.last wr) (fun _ i _ => t.l.length - (intOf i).toNat)
    case atStart => exact ⟨0, Nat.zero_le _, rfl, HO3.out, HEN3.out⟩
    case round =>
      obtain ⟨k2, hk2, rfl, hown, hen⟩ := hrel
      have hln := LX_len f t.l k2 hk2
      by_cases hlt2 : k2 < t.l.length
      · have hq := List.getElem?_eq_getElem hlt2
        generalize t.l[k2] = q at hq
        have HQ := Lib.hid hq
        have hrd := HALL.out _ _ hq wr hen.b
        have r0 : wr.cell? ⟨b, k2 * 7, none⟩ = some (.int .i64 q.pid) := hrd 0 _ rfl
        have r1 : wr.cell? ⟨b, k2 * 7 + 1, none⟩ = some (.int .i64 q.par) := hrd 1 _ rfl
        have r2 : wr.cell? ⟨b, k2 * 7 + 2, none⟩ = some (.int .i64 q.st) := hrd 2 _ rfl
        have r3 : wr.cell? ⟨b, k2 * 7 + 3, none⟩ = some (.bool q.live) := hrd 3 _ rfl
        have r4 : wr.cell? ⟨b, k2 * 7 + 4, none⟩ = some (.int .u32 q.ig) := hrd 4 _ rfl
        have r5 : wr.cell? ⟨b, k2 * 7 + 5, none⟩ = some (.int .u32 q.ca) := hrd 5 _ rfl
        have r6 : wr.cell? ⟨b, k2 * 7 + 6, none⟩ = some (.int .u32 q.pe) := hrd 6 _ rfl
        have hbx := Bx.new hen hown q
        have HBX := Lib.hid hbx
        have HNB := Lib.hid (fun q' => Bx.new hen hown q')
        have b0 : (wr.alloc (.cells #[.int .i64 q.pid, .int .i64 q.par, .int .i64 q.st, .bool q.live, .int .u32 q.ig, .int .u32 q.ca, .int .u32 q.pe] 73)).cell? ⟨wr.heap.size, 0, none⟩ = some (.int .i64 q.pid) := Lib.cell_of_heap hbx.box 0
        have b1 : (wr.alloc (.cells #[.int .i64 q.pid, .int .i64 q.par, .int .i64 q.st, .bool q.live, .int .u32 q.ig, .int .u32 q.ca, .int .u32 q.pe] 73)).cell? ⟨wr.heap.size, 1, none⟩ = some (.int .i64 q.par) := Lib.cell_of_heap hbx.box 1
        have b2 : (wr.alloc (.cells #[.int .i64 q.pid, .int .i64 q.par, .int .i64 q.st, .bool q.live, .int .u32 q.ig, .int .u32 q.ca, .int .u32 q.pe] 73)).cell? ⟨wr.heap.size, 2, none⟩ = some (.int .i64 q.st) := Lib.cell_of_heap hbx.box 2
        have b3 : (wr.alloc (.cells #[.int .i64 q.pid, .int .i64 q.par, .int .i64 q.st, .bool q.live, .int .u32 q.ig, .int .u32 q.ca, .int .u32 q.pe] 73)).cell? ⟨wr.heap.size, 3, none⟩ = some (.bool q.live) := Lib.cell_of_heap hbx.box 3
        have bf : ∀ i, (wr.alloc (.cells #[.int .i64 q.pid, .int .i64 q.par, .int .i64 q.st, .bool q.live, .int .u32 q.ig, .int .u32 q.ca, .int .u32 q.pe] 73)).frozen? ⟨wr.heap.size, i, none⟩ = false := fun i => frozen_of_row _ _ _ _ _ hbx.box
        have bf1 := bf 1; have bf2 := bf 2; have bf3 := bf 3
        clear hq hrd hbx hown hen bf
        cases hc1 : q.pid == pid
        · cases hc2 : q.par == pid
          · have hfq : f q = some q := by rw [HF.out]; unfold leftR; rw [if_neg (by simpa using hc1), if_neg (by simpa using hc2)]
            have HFQ := Lib.hid hfq
            clear hfq
            have px0 : (wr.alloc (.cells #[.int .i64 q.pid, .int .i64 q.par, .int .i64 q.st, .bool q.live, .int .u32 q.ig, .int .u32 q.ca, .int .u32 q.pe] 73)).cell? ⟨wr.heap.size, 0, none⟩ = some (.int .i64 q.pid) := Lib.cell_of_heap HBX.out.box 0
            have px1 : (wr.alloc (.cells #[.int .i64 q.pid, .int .i64 q.par, .int .i64 q.st, .bool q.live, .int .u32 q.ig, .int .u32 q.ca, .int .u32 q.pe] 73)).cell? ⟨wr.heap.size, 1, none⟩ = some (.int .i64 q.par) := Lib.cell_of_heap HBX.out.box 1
            have px2 : (wr.alloc (.cells #[.int .i64 q.pid, .int .i64 q.par, .int .i64 q.st, .bool q.live, .int .u32 q.ig, .int .u32 q.ca, .int .u32 q.pe] 73)).cell? ⟨wr.heap.size, 2, none⟩ = some (.int .i64 q.st) := Lib.cell_of_heap HBX.out.box 2
            have px3 : (wr.alloc (.cells #[.int .i64 q.pid, .int .i64 q.par, .int .i64 q.st, .bool q.live, .int .u32 q.ig, .int .u32 q.ca, .int .u32 q.pe] 73)).cell? ⟨wr.heap.size, 3, none⟩ = some (.bool q.live) := Lib.cell_of_heap HBX.out.box 3
            have px4 : (wr.alloc (.cells #[.int .i64 q.pid, .int .i64 q.par, .int .i64 q.st, .bool q.live, .int .u32 q.ig, .int .u32 q.ca, .int .u32 q.pe] 73)).cell? ⟨wr.heap.size, 4, none⟩ = some (.int .u32 q.ig) := Lib.cell_of_heap HBX.out.box 4
            have px5 : (wr.alloc (.cells #[.int .i64 q.pid, .int .i64 q.par, .int .i64 q.st, .bool q.live, .int .u32 q.ig, .int .u32 q.ca, .int .u32 q.pe] 73)).cell? ⟨wr.heap.size, 5, none⟩ = some (.int .u32 q.ca) := Lib.cell_of_heap HBX.out.box 5
            have px6 : (wr.alloc (.cells #[.int .i64 q.pid, .int .i64 q.par, .int .i64 q.st, .bool q.live, .int .u32 q.ig, .int .u32 q.ca, .int .u32 q.pe] 73)).cell? ⟨wr.heap.size, 6, none⟩ = some (.int .u32 q.pe) := Lib.cell_of_heap HBX.out.box 6
            have hnews := HBX.out.news
            rw [World.size_alloc] at hnews
            have HNEWS := Lib.hid hnews
            clear hnews
            have HOWN := Lib.hid (own_stays HBX.out.own (below_alloc (wr.alloc (.cells #[.int .i64 q.pid, .int .i64 q.par, .int .i64 q.st, .bool q.live, .int .u32 q.ig, .int .u32 q.ca, .int .u32 q.pe] 73)) (.cells #[.int .i64 q.pid, .int .i64 q.par, .int .i64 q.st, .bool q.live, .int .u32 q.ig, .int .u32 q.ca, .int .u32 q.pe] 73)))
            have HSZ := Lib.hid (show w.heap.size ≤ ((wr.alloc (.cells #[.int .i64 q.pid, .int .i64 q.par, .int .i64 q.st, .bool q.live, .int .u32 q.ig, .int .u32 q.ca, .int .u32 q.pe] 73)).alloc (.cells #[.int .i64 q.pid, .int .i64 q.par, .int .i64 q.st, .bool q.live, .int .u32 q.ig, .int .u32 q.ca, .int .u32 q.pe] 73)).heap.size from Nat.le_trans HBX.out.en.b.size (Nat.le_trans (Nat.le_succ _) (Nat.le_of_eq (World.size_alloc _ _).symm)))
            go_wp2_with (at_builtin; refine hold ?_)
            refine Hold.out ?_
            refine wpList_append_own_at _ rfl _ _ 28 rfl w.heap.size 73 i0 (.agg #[.int .i64 0, .int .i64 0, .int .i64 0, .bool false, .int .u32 0, .int .u32 0, .int .u32 0]) 7 40 Try.underlying28 hi hz0 hz1 hz2 rfl (by decide) _ _ _ rfl HOWN.out ⟨_, 0, none⟩ 1 1 (qcells ⟨q.pid, q.par, q.st, q.live, q.ig, q.ca, q.pe⟩) rfl rfl HNEWS.out (qcells_one _) (by unfold maxLen; omega) (by omega) HSZ.out ?_
            intro v' w5 hown5 hgrow5 hnil5 hloc5
            obtain ⟨hown6, hen6⟩ := HBX.out.app hown5 hgrow5
            rw [← LX_some HQ.out HFQ.out] at hown6
            have H1 := Lib.hid hown6; have H2 := Lib.hid hen6
            clear hown5 hgrow5 hnil5 hloc5 hown6 hen6
            go_wp2_with fail
            go_roundw
            case rel => exact ⟨k2 + 1, by omega, by go_num, H1.out, H2.out⟩
            case measure => simp [intOf]; omega
          · cases hc3 : q.live
            · have hfq : f q = none := by rw [HF.out]; unfold leftR; rw [if_neg (by simpa using hc1), if_pos (by simpa using hc2), hc3]; rfl
              have HFQ := Lib.hid hfq
              clear hfq
              rw [hc3] at r3 b0 b1 b2 b3 bf1 bf2 bf3 HBX
              have hown6 := HBX.out.own
              rw [← LX_none HQ.out HFQ.out] at hown6
              have H1 := Lib.hid hown6
              clear hown6
              go_wp2_with fail
              go_roundw
              case rel => exact ⟨k2 + 1, by omega, by go_num, H1.out, HBX.out.en⟩
              case measure => simp [intOf]; omega
            · have hfq : f q = some ⟨q.pid, 0, q.st, true, q.ig, q.ca, q.pe⟩ := by rw [HF.out]; unfold leftR; rw [if_neg (by simpa using hc1), if_pos (by simpa using hc2), hc3]; rfl
              have HFQ := Lib.hid hfq
              clear hfq
              rw [hc3] at r3 b0 b1 b2 b3 bf1 bf2 bf3 HBX
              go_upto_region 16 with fail
              have hbx2 := HNB.out ⟨q.pid, 0, q.st, true, q.ig, q.ca, q.pe⟩
              clear b0 b1 b2 b3 bf1 bf2 bf3 HBX HNB
              generalize wr.alloc (.cells #[.int .i64 q.pid, .int .i64 0, .int .i64 q.st, .bool true, .int .u32 q.ig, .int .u32 q.ca, .int .u32 q.pe] 73) = wq at hbx2 ⊢
              have HBX2 := Lib.hid hbx2
              clear hbx2
              have px0 : wq.cell? ⟨wr.heap.size, 0, none⟩ = some (.int .i64 q.pid) := Lib.cell_of_heap HBX2.out.box 0
              have px1 : wq.cell? ⟨wr.heap.size, 1, none⟩ = some (.int .i64 0) := Lib.cell_of_heap HBX2.out.box 1
              have px2 : wq.cell? ⟨wr.heap.size, 2, none⟩ = some (.int .i64 q.st) := Lib.cell_of_heap HBX2.out.box 2
              have px3 : wq.cell? ⟨wr.heap.size, 3, none⟩ = some (.bool true) := Lib.cell_of_heap HBX2.out.box 3
              have px4 : wq.cell? ⟨wr.heap.size, 4, none⟩ = some (.int .u32 q.ig) := Lib.cell_of_heap HBX2.out.box 4
              have px5 : wq.cell? ⟨wr.heap.size, 5, none⟩ = some (.int .u32 q.ca) := Lib.cell_of_heap HBX2.out.box 5
              have px6 : wq.cell? ⟨wr.heap.size, 6, none⟩ = some (.int .u32 q.pe) := Lib.cell_of_heap HBX2.out.box 6
              have hnews := HBX2.out.news

              have HNEWS := Lib.hid hnews
              clear hnews
              have HOWN := Lib.hid (own_stays HBX2.out.own (below_alloc wq (.cells #[.int .i64 q.pid, .int .i64 0, .int .i64 q.st, .bool true, .int .u32 q.ig, .int .u32 q.ca, .int .u32 q.pe] 73)))
              have HSZ := Lib.hid (show w.heap.size ≤ (wq.alloc (.cells #[.int .i64 q.pid, .int .i64 0, .int .i64 q.st, .bool true, .int .u32 q.ig, .int .u32 q.ca, .int .u32 q.pe] 73)).heap.size from Nat.le_trans HBX2.out.en.b.size (Nat.le_trans (Nat.le_succ _) (Nat.le_of_eq (World.size_alloc _ _).symm)))
              go_wp2_with (at_builtin; refine hold ?_)
              refine Hold.out ?_
              refine wpList_append_own_at _ rfl _ _ 28 rfl w.heap.size 73 i0 (.agg #[.int .i64 0, .int .i64 0, .int .i64 0, .bool false, .int .u32 0, .int .u32 0, .int .u32 0]) 7 40 Try.underlying28 hi hz0 hz1 hz2 rfl (by decide) _ _ _ rfl HOWN.out ⟨_, 0, none⟩ 1 1 (qcells ⟨q.pid, 0, q.st, true, q.ig, q.ca, q.pe⟩) rfl rfl HNEWS.out (qcells_one _) (by unfold maxLen; omega) (by omega) HSZ.out ?_
              intro v' w5 hown5 hgrow5 hnil5 hloc5
              obtain ⟨hown6, hen6⟩ := HBX2.out.app hown5 hgrow5
              rw [← LX_some HQ.out HFQ.out] at hown6
              have H1 := Lib.hid hown6; have H2 := Lib.hid hen6
              clear hown5 hgrow5 hnil5 hloc5 hown6 hen6
              go_wp2_with fail
              go_roundw
              case rel => exact ⟨k2 + 1, by omega, by go_num, H1.out, H2.out⟩
              case measure => simp [intOf]; omega
        · have h2 := HNB.out ⟨q.pid, q.par, st % 256, false, q.ig, q.ca, q.pe⟩
          have ex0 := h2.en.x0
          have ex1 := h2.en.x1
          have ex2 := h2.en.x2
          go_wp2_with (go_at_call 23; refine hold ?_)
          clear b0 b1 b2 b3 bf1 bf2 bf3 ex0 ex1 ex2 HBX HNB
          generalize wr.alloc (.cells #[.int .i64 q.pid, .int .i64 q.par, .int .i64 (st % 256), .bool false, .int .u32 q.ig, .int .u32 q.ca, .int .u32 q.pe] 73) = wq at h2 ⊢
          refine Hold.out ((HVP.out _ h2.en.b).mono ?_)
          rintro e wz ⟨rfl, hbz⟩
          have HBZ := Lib.hid (h2.more hbz)
          clear h2 hbz
          cases hc4 : live t p.par
          · have hfq : f q = none := by rw [HF.out]; unfold leftR; rw [if_pos (by simpa using hc1), hc4]; rfl
            have HFQ := Lib.hid hfq
            clear hfq hc4
            have hown6 := HBZ.out.own
            rw [← LX_none HQ.out HFQ.out] at hown6
            have H1 := Lib.hid hown6
            clear hown6
            go_wp2_with fail
            go_roundw
            case rel => exact ⟨k2 + 1, by omega, by go_num, H1.out, HBZ.out.en⟩
            case measure => simp [intOf]; omega
          · have hfq : f q = some ⟨q.pid, q.par, st % 256, false, q.ig, q.ca, q.pe⟩ := by rw [HF.out]; unfold leftR; rw [if_pos (by simpa using hc1), hc4]; rfl
            have HFQ := Lib.hid hfq
            clear hfq hc4
            have px0 : wz.cell? ⟨wr.heap.size, 0, none⟩ = some (.int .i64 q.pid) := Lib.cell_of_heap HBZ.out.box 0
            have px1 : wz.cell? ⟨wr.heap.size, 1, none⟩ = some (.int .i64 q.par) := Lib.cell_of_heap HBZ.out.box 1
            have px2 : wz.cell? ⟨wr.heap.size, 2, none⟩ = some (.int .i64 (st % 256)) := Lib.cell_of_heap HBZ.out.box 2
            have px3 : wz.cell? ⟨wr.heap.size, 3, none⟩ = some (.bool false) := Lib.cell_of_heap HBZ.out.box 3
            have px4 : wz.cell? ⟨wr.heap.size, 4, none⟩ = some (.int .u32 q.ig) := Lib.cell_of_heap HBZ.out.box 4
            have px5 : wz.cell? ⟨wr.heap.size, 5, none⟩ = some (.int .u32 q.ca) := Lib.cell_of_heap HBZ.out.box 5
            have px6 : wz.cell? ⟨wr.heap.size, 6, none⟩ = some (.int .u32 q.pe) := Lib.cell_of_heap HBZ.out.box 6
            have hnews := HBZ.out.news

            have HNEWS := Lib.hid hnews
            clear hnews
            have HOWN := Lib.hid (own_stays HBZ.out.own (below_alloc wz (.cells #[.int .i64 q.pid, .int .i64 q.par, .int .i64 (st % 256), .bool false, .int .u32 q.ig, .int .u32 q.ca, .int .u32 q.pe] 73)))
            have HSZ := Lib.hid (show w.heap.size ≤ (wz.alloc (.cells #[.int .i64 q.pid, .int .i64 q.par, .int .i64 (st % 256), .bool false, .int .u32 q.ig, .int .u32 q.ca, .int .u32 q.pe] 73)).heap.size from Nat.le_trans HBZ.out.en.b.size (Nat.le_trans (Nat.le_succ _) (Nat.le_of_eq (World.size_alloc _ _).symm)))
            go_wp2_with (at_builtin; refine hold ?_)
            refine Hold.out ?_
            refine wpList_append_own_at _ rfl _ _ 28 rfl w.heap.size 73 i0 (.agg #[.int .i64 0, .int .i64 0, .int .i64 0, .bool false, .int .u32 0, .int .u32 0, .int .u32 0]) 7 40 Try.underlying28 hi hz0 hz1 hz2 rfl (by decide) _ _ _ rfl HOWN.out ⟨_, 0, none⟩ 1 1 (qcells ⟨q.pid, q.par, (st % 256), false, q.ig, q.ca, q.pe⟩) rfl rfl HNEWS.out (qcells_one _) (by unfold maxLen; omega) (by omega) HSZ.out ?_
            intro v' w5 hown5 hgrow5 hnil5 hloc5
            obtain ⟨hown6, hen6⟩ := HBZ.out.app hown5 hgrow5
            rw [← LX_some HQ.out HFQ.out] at hown6
            have H1 := Lib.hid hown6; have H2 := Lib.hid hen6
            clear hown5 hgrow5 hnil5 hloc5 hown6 hen6
            go_wp2_with fail
            go_roundw
            case rel => exact ⟨k2 + 1, by omega, by go_num, H1.out, H2.out⟩
            case measure => simp [intOf]; omega
      · obtain rfl : k2 = t.l.length := by omega
        obtain ⟨la', ln', lc', rfl⟩ := ends_shape hown
        have hLX : LX f t.l t.l.length = t.l.filterMap f := by unfold LX; rw [List.take_length]
        rw [hLX] at hown
        have HO := Lib.hid hown; have HEN := Lib.hid hen
        have xf0 := hen.xf 0
        have hen0 := hen.put0 (.slice la' ln' lc')
        have hown0 := own_other hown (a := ⟨w.heap.size, 0, none⟩) (own_ne hown hen.x (by decide)) (.slice la' ln' lc')
        have ex0 : wr.cell? ⟨w.heap.size, 0, none⟩ = some (.slice (some ⟨b, 0, none⟩) t.l.length lc) := HEN.out.x0
        have ex1 : wr.cell? ⟨w.heap.size, 1, none⟩ = some (.int .i64 t.last) := HEN.out.x1
        have ex2 : wr.cell? ⟨w.heap.size, 2, none⟩ = some (.slice ea en ec) := HEN.out.x2
        have y2 := (hen0.more (below_alloc _ (.cells #[] 87))).x2
        clear hown hen hLX
        go_wp2_with (at_builtin; refine hold ?_)
        have hs0 : (wr.setCell ⟨w.heap.size, 0, none⟩ (.slice la' ln' lc')).heap.size = wr.heap.size := by simp
        clear ex0 ex1 ex2 xf0 y2 HO HEN
        generalize wr.setCell ⟨w.heap.size, 0, none⟩ (.slice la' ln' lc') = w4 at hs0 hen0 hown0 ⊢
        rw [← hs0]
        clear hs0
        have hws := hen0.b.size
        have heo : (w4.alloc (.cells #[] 87)).ownsRow w.heap.size 87 2 (.slice (some ⟨w4.heap.size, 0, none⟩) 0 0) 0 [] := World.ownsRow_made (base := w.heap.size) (e := 87) (size := 2) w4 #[] 0 hws (Nat.zero_le _) (by simp)
        have hb4 := below_alloc w4 (.cells #[] 87)
        have hen4 := hen0.more hb4
        have hown4 := own_stays hown0 hb4
        have hsrc := own_stays HR.out.e hen4.b
        have HEND := Lib.hid (HE.out : t.ends.length ≤ 100)
        clear hb4 hen0 hown0
        generalize w4.alloc (.cells #[] 87) = w5 at heo hen4 hown4 hsrc ⊢
        generalize Value.slice (some ⟨w4.heap.size, 0, none⟩) 0 0 = v4 at heo ⊢
        refine Hold.out ?_
        refine wpList_append_row rfl _ _ 29 rfl w.heap.size 87 j0 (.agg #[.int .i64 0, .int .i64 0]) 2 16 Try.underlying29 hj hy0 hy1 hy2 rfl (by decide) v4 0 [] rfl heo B (.slice ea en ec) t.ends.length (ecells t.ends) rfl hsrc ecells_one (by have := HEND.out; unfold maxLen; omega) (by have := HEND.out; omega) hen4.b.size ?_
        intro v5 w6 hown6 hgrow6
        have hen6 := hen4.grown heo (by decide) hgrow6
        have hl6 := own_grow hown4 heo (by decide) hgrow6
        rw [Nat.zero_add, List.nil_append] at hown6
        clear heo hen4 hown4 hsrc hgrow6
        obtain ⟨ea5, en5, ec5, rfl⟩ := ends_shape hown6
        have HO6 := Lib.hid hown6; have HEN6 := Lib.hid hen6; have HL6 := Lib.hid hl6
        clear hown6 hen6 hl6
        go_wp2_with (at_builtin; refine hold ?_)
        have hb6 := below_alloc w6 (.cells #[.int .i64 pid, .int .i64 (st % 256)] 87)
        have hen7 := HEN6.out.more hb6
        have hown7 := own_stays HO6.out hb6
        have hl7 := own_stays HL6.out hb6
        have hnews := cells_new2 w6 (.int .i64 pid) (.int .i64 (st % 256)) 87
        clear hb6 HO6 HEN6 HL6
        refine Hold.out ?_
        refine wpList_append_own_at _ rfl _ _ 29 rfl w.heap.size 87 j0 (.agg #[.int .i64 0, .int .i64 0]) 2 16 Try.underlying29 hj hy0 hy1 hy2 rfl (by decide) (.slice ea5 en5 ec5) t.ends.length (ecells t.ends) rfl hown7 ⟨w6.heap.size, 0, none⟩ 1 1 [.int .i64 pid, .int .i64 (st % 256)] rfl rfl hnews (ints_oneCell .i64 [pid, st % 256]) (by have := HEND.out; unfold maxLen; omega) (by have := HEND.out; omega) hen7.b.size ?_
        intro v7 w8 hown8 hgrow8 _ _
        have hen8 := hen7.grown hown7 (by decide) hgrow8
        have hl8 := own_grow hl7 hown7 (by decide) hgrow8
        clear hen7 hown7 hl7 hnews hgrow8
        obtain ⟨ea8, en8, ec8, rfl⟩ := ends_shape hown8
        have hen9 := hen8.put2 (.slice ea8 en8 ec8)
        have hl9 := own_other hl8 (a := ⟨w.heap.size, 2, none⟩) (own_ne hl8 hen8.x (by decide)) (.slice ea8 en8 ec8)
        have ho9 := own_other hown8 (a := ⟨w.heap.size, 2, none⟩) (own_ne hown8 hen8.x (by decide)) (.slice ea8 en8 ec8)
        rw [← ecells_snoc] at ho9
        have xf2 := hen8.xf 2
        have HEN8 := Lib.hid hen8; have HEN9 := Lib.hid hen9; have HL9 := Lib.hid hl9; have HO9 := Lib.hid ho9
        clear hown8 hen8 hl8 hen9 hl9 ho9
        have ex0 : w8.cell? ⟨w.heap.size, 0, none⟩ = some (.slice la' ln' lc') := HEN8.out.x0
        have ex1 : w8.cell? ⟨w.heap.size, 1, none⟩ = some (.int .i64 t.last) := HEN8.out.x1
        have ex2 : w8.cell? ⟨w.heap.size, 2, none⟩ = some (.slice ea en ec) := HEN8.out.x2
        have ez0 : w8.cell? ⟨w.heap.size + 1, 0, none⟩ = some (.slice none 0 0) := HEN8.out.z0
        have ef0 : w8.frozen? ⟨w.heap.size + 1, 0, none⟩ = false := HEN8.out.zf 0
        have ez1 : w8.cell? ⟨w.heap.size + 1, 1, none⟩ = some (.int .i64 0) := HEN8.out.z1
        have ef1 : w8.frozen? ⟨w.heap.size + 1, 1, none⟩ = false := HEN8.out.zf 1
        have ez2 : w8.cell? ⟨w.heap.size + 1, 2, none⟩ = some (.slice none 0 0) := HEN8.out.z2
        have ef2 : w8.frozen? ⟨w.heap.size + 1, 2, none⟩ = false := HEN8.out.zf 2
        go_wp2_with fail
        have hle : (t.ends ++ [(pid, st % 256)]).length = t.ends.length + 1 := by simp
        have ho9 := HO9.out
        rw [← hle] at ho9
        have hrt : RT _ B (.slice la' ln' lc') (.slice ea8 en8 ec8) { l := t.l.filterMap f, last := t.last, ends := t.ends ++ [(pid, st % 256)] } := ⟨own_low HL9.out hB, own_low ho9 hB⟩
        have hfin := fin_row (lv := (.slice (some ⟨b, 0, none⟩) t.l.length lc)) (ev := .slice ea en ec) HEN9.out.b HEN9.out.z hrt (fun j e => .inr (HL9.out.lt j e).1) (fun j e => .inr (HO9.out.lt j e).1)
        exact bodyPost_ret (results_row_tmp rfl _ _ (w.heap.size + 1) _ _ _ _ rfl hfin.1 Try.underlying31 rfl (by kernel_rfl)) rfl ⟨_, _, rfl, hfin.2⟩
end Kn
end Go.Proofs.Ytlebglnlkkoakaa
