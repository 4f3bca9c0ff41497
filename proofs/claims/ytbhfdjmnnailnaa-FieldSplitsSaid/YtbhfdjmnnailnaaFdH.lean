/- The reference's signs, and its Split. -/
import Derived.Test.YtbhfdjmnnailnaaFdF
namespace Go.Proofs.Ytbhfdjmnnailnaa
open Go.RowKit Cls
namespace Fld
/-- A sign: a byte, an edge, a part. -/
abbrev Sn := UInt8 × Bool × Bool
def partN : Sn := (0, false, true)
def edgeN : Sn := (0, true, false)
def snb (q : Bool) (c : UInt8) : Sn := bif !q && breakB c.toNat then partN else (c, false, false)
def edges (q : Bool) : List Sn := bif q then [edgeN] else []
def sn1 (p : Pc) : List Sn := bif p.2.2 then [partN] else edges p.2.1 ++ (bs p.1).map (snb p.2.1)
def sns (ps : List Pc) : List Sn := ps.flatMap sn1
def ncell (s : Sn) : List Value := [.int .u8 (s.1.toNat : Int), .bool s.2.1, .bool s.2.2]
def ncells (l : List Sn) : List Value := l.flatMap ncell
theorem ncells_len (l : List Sn) : (ncells l).length = l.length * 3 := by
  induction l with
  | nil => rfl
  | cons x r ih => simp only [ncells, ncell, List.flatMap_cons, List.length_append, List.length_cons, List.length_nil] at ih ⊢; omega
theorem ncells_app (l m : List Sn) : ncells (l ++ m) = ncells l ++ ncells m := by simp [ncells]
theorem ncells_at : ∀ {l : List Sn} {i : Nat} {s : Sn}, l[i]? = some s → (ncells l)[i * 3]? = some (.int .u8 (s.1.toNat : Int)) ∧ (ncells l)[i * 3 + 1]? = some (.bool s.2.1) ∧ (ncells l)[i * 3 + 2]? = some (.bool s.2.2)
  | x :: r, 0, s, h => by simp at h; subst h; exact ⟨rfl, rfl, rfl⟩
  | x :: r, i + 1, s, h => by
    have := ncells_at (l := r) (i := i) (by simpa using h)
    rw [show (i + 1) * 3 = i * 3 + 3 by omega]
    exact this
theorem sns_snoc (l : List Pc) (p : Pc) : sns (l ++ [p]) = sns l ++ sn1 p := by simp [sns]
theorem sn1_len (p : Pc) : (sn1 p).length ≤ p.1.size + 1 := by
  unfold sn1
  cases p.2.2
  · cases p.2.1 <;> simp [edges, bs]
  · simp
theorem sns_len (ps : List Pc) : (sns ps).length ≤ weight ps := by
  induction ps with
  | nil => simp [sns]
  | cons p r ih =>
    have := sn1_len p
    simp only [sns, weight, List.flatMap_cons, List.length_append, List.map_cons, List.sum_cons] at ih ⊢
    omega
def stepN (s : S) (n : Sn) : S := bif n.2.2 then endS s else bif n.2.1 then growS s [] else growS s [n.1]
theorem fold_quoted (l : List UInt8) : ∀ (s : S) (m : List UInt8), (l.map (snb true)).foldl stepN (growS s m) = growS s (m ++ l) := by
  induction l with
  | nil => intro s m; simp
  | cons c r ih =>
    intro s m
    simp only [List.map_cons, List.foldl_cons]
    have : stepN (growS s m) (snb true c) = growS s (m ++ [c]) := grow_grow s m [c]
    rw [this, ih]
    simp
theorem fold_plain (l : List UInt8) : ∀ s : S, (l.map (snb false)).foldl stepN s = bytesS s l := by
  induction l with
  | nil => intro s; rfl
  | cons c r ih =>
    intro s
    simp only [List.map_cons, List.foldl_cons, bytesS]
    have : stepN s (snb false c) = byteS s c := by
      unfold snb byteS
      cases breakB c.toNat <;> rfl
    rw [this]
    exact ih _
theorem fold_piece (s : S) (p : Pc) : (sn1 p).foldl stepN s = pieceS s p := by
  obtain ⟨t, q, u⟩ := p
  cases u
  · cases q
    · exact fold_plain (bs t) s
    · exact fold_quoted (bs t) s []
  · rfl
theorem fold_pieces (ps : List Pc) : ∀ s : S, (sns ps).foldl stepN s = piecesS s ps := by
  induction ps with
  | nil => intro s; rfl
  | cons p r ih =>
    intro s
    simp only [sns, List.flatMap_cons, List.foldl_append] at ih ⊢
    rw [fold_piece, ih]; rfl
theorem Inv.step {s : S} (h : Inv s) (n : Sn) : Inv (stepN s n) := by
  unfold stepN; cases n.2.2
  · cases n.2.1 <;> exact Inv.grow _ _
  · exact h.ends
theorem nS_step (s : S) (n : Sn) : nS (stepN s n) ≤ nS s + 2 := by
  unfold stepN; cases n.2.2
  · cases n.2.1
    · have := nS_grow s [n.1]; simp at this ⊢; omega
    · have := nS_grow s []; simp at this ⊢; omega
  · have := nS_end s; simp only [cond_true]; omega
theorem heap_new2 (w : World) (o : Obj) {n : Nat} (h : w.heap.size = n) : (w.alloc o).heap[n]? = some o := by subst h; exact heap_alloc_new w o
theorem infoSign : (Try.prog.info? 53).map (fun i => (i.zero, i.size, i.bytes)) = some (some (.agg #[.int .u8 0, .bool false, .bool false]), 3, 3) := by kernel_rfl
theorem ncell_one (s : Sn) : ∀ u ∈ ncell s, u.oneCell' = true := by
  intro u hu
  simp only [ncell, List.mem_cons, List.not_mem_nil, or_false] at hu
  rcases hu with rfl | rfl | rfl <;> rfl
theorem map_snoc (q : Bool) (t : ByteArray) {j : Nat} (h : j < t.size) : ((bs t).map (snb q)).take (j + 1) = ((bs t).map (snb q)).take j ++ [snb q t[j]] := by
  rw [← List.map_take, ← List.map_take, take_snocB t j h]; simp
set_option maxHeartbeats 2000000 in
theorem signs_any (a : Option Addr) (cap : Nat) (ps : List Pc) (w : World) (h : Pcs w a ps) (hw : weight ps ≤ 200000) :
    Calls Try.prog 23 #[.slice a ps.length cap] w fun e w' => ∃ v, e = .returned v ∧ w'.ownsRow w.heap.size 53 3 v (sns ps).length (ncells (sns ps)) ∧ Below w.heap.size w w' := by
  obtain ⟨i0, hi, hz0, hz1, hz2⟩ := info_parts infoSign
  have H := Lib.hid h; clear h
  have HI := Lib.hid hi; have HZ0 := Lib.hid hz0; have HZ1 := Lib.hid hz1; have HZ2 := Lib.hid hz2
  clear hi hz0 hz1 hz2
  have hpl := len_le ps
  have HO0 := Lib.hid (World.ownsRow_made (e := 53) (size := 3) w #[] 0 (Nat.le_refl _) (Nat.zero_le _) rfl)
  go_enter Try.func23, Try.ntmps23
  go_wp2_with fail
  go_loopw [3, 10] (fun v x wr => ∃ k : Nat, k ≤ ps.length ∧ x = .int .i64 k ∧ wr.ownsRow w.heap.size 53 3 v (sns (ps.take k)).length (ncells (sns (ps.take k))) ∧ Below w.heap.size w wr) (fun _ x _ => ps.length - (intOf x).toNat)
  case atStart => exact ⟨0, Nat.zero_le _, rfl, HO0.out, below_alloc w _⟩
  case round =>
    obtain ⟨k, hk, rfl, hown, hbw⟩ := hrel
    have HO := Lib.hid hown; have HB := Lib.hid hbw
    have hws := hbw.size
    clear hown hbw
    by_cases hlt : k < ps.length
    · obtain ⟨b, o, rfl, hb, c0, c1, c2⟩ := (H.out.below HB.out).get hlt
      have hsz : (sns (ps.take k)).length + ((pc ps k).1.size + 1) ≤ 200000 := by
        have h1 := sns_len (ps.take k)
        have h2 := weight_take ps (k + 1)
        rw [take_snoc hlt, weight_snoc] at h2
        omega
      have HT := Lib.hid (show sns (ps.take (k + 1)) = sns (ps.take k) ++ sn1 (pc ps k) by rw [take_snoc hlt, sns_snoc])
      revert c0 c1 c2 hsz HT
      generalize pc ps k = p
      obtain ⟨t, q, u⟩ := p
      intro c0 c1 c2 hsz HT
      have hsz : (sns (ps.take k)).length + (t.size + 1) ≤ 200000 := hsz
      generalize hl0 : sns (ps.take k) = L at *
      have HL0 := Lib.hid hl0
      clear hl0
      cases u
      · obtain ⟨wo, hwo⟩ : ∃ wo, wo = wr := ⟨_, rfl⟩
        subst hwo
        cases q
        · go_wp2_with fail
          obtain ⟨L0, hL0⟩ : ∃ L0, L0 = L ++ edges false := ⟨_, rfl⟩
          have hl0 : L0.length ≤ L.length + 1 := by rw [hL0]; simp [edges]
          have HS0 : Hid (World.ownsRow (wo.alloc (.cells #[.string t, .bool false, .bool false] 31)) w.heap.size 53 3 u3 L0.length (ncells L0)) := Lib.hid (by rw [hL0]; exact (show World.ownsRow _ _ _ _ _ (L ++ edges false).length (ncells (L ++ edges false)) by simpa [edges] using HO.out.alloc _))
          have HL1 := Lib.hid hL0
          clear hL0
          obtain ⟨M, hM⟩ : ∃ M, M = (bs t).map (snb false) := ⟨_, rfl⟩
          have HMS : Hid (∀ (j : Nat) (h : j < t.size), M.take (j + 1) = M.take j ++ [snb false t[j]]) := Lib.hid (by rw [hM]; exact fun j h => map_snoc false t h)
          have HML : Hid (M.length = t.size) := Lib.hid (by rw [hM, List.length_map, bs_len])
          have HM0 := Lib.hid hM
          clear hM
          go_loopw [3, 6] (fun v x wr => ∃ j : Nat, j ≤ t.size ∧ x = .int .i64 j ∧ wr.ownsRow w.heap.size 53 3 v (L0.length + j) (ncells (L0 ++ M.take j)) ∧ Below w.heap.size w wr ∧ wr.heap[wo.heap.size]? = some (.cells #[.string t, .bool false, .bool false] 31 (0, 0))) (fun _ x _ => t.size - (intOf x).toNat)
          case atStart => exact ⟨0, Nat.zero_le _, rfl, by simpa using HS0.out, HB.out.alloc hws _, heap_alloc_new _ _⟩
          case round =>
            obtain ⟨j, hj, rfl, hown, hbw, hx⟩ := hrel
            have d0 := Lib.cell_of_heap hx 0
            have d1 := Lib.cell_of_heap hx 1
            have d2 := Lib.cell_of_heap hx 2
            have HO2 := Lib.hid hown; have HB2 := Lib.hid hbw; have HX := Lib.hid hx
            have hws2 := hbw.size
            have hxlt := (Array.getElem?_eq_some_iff.1 hx).1
            clear hown hbw hx c0 c1 c2
            by_cases hlj : j < t.size
            · have HM := Lib.hid (HMS.out j hlj)
              cases hc : breakB t[j].toNat
              · have HC := Lib.hid hc
                clear hc
                go_wp2_with (go_at_call 29; refine (rbreak_any _ _).mono ?_)
                rintro e w' ⟨rfl, rfl⟩
                rw [HC.out]
                go_wp2_with (at_builtin; refine wpList_append_own _ rfl _ _ 50 rfl w.heap.size 53 i0 (.agg #[.int .u8 0, .bool false, .bool false]) 3 3 Try.underlying50 HI.out HZ0.out HZ1.out HZ2.out rfl (by decide) _ _ _ rfl (HO2.out.alloc _) ⟨wr.heap.size, 0, none⟩ 1 1 (ncell (t[j], false, false)) rfl rfl (World.news_of_block (cs := #[.int .u8 (t[j].toNat : Int), .bool false, .bool false]) (t := 53) (fr := (0, 0)) (heap_alloc_new wr _)) (ncell_one _) ?c31 ?c41 ?c51 ?_)
                case c31 => unfold maxLen; omega
                case c41 => omega
                case c51 => first | omega | (simp [World.size_alloc]; omega)
                intro v' w1 hown' hgrow _
                have hx1 : w1.heap[wo.heap.size]? = some (.cells #[.string t, .bool false, .bool false] 31 (0, 0)) := (hgrow.block _ (by simp [World.size_alloc]; omega) (fun e => ownsRow_ne (HO2.out) HX.out (by decide) e.symm)).trans ((Below.heap_alloc _ _ _ hxlt).trans HX.out)
                have HX1 := Lib.hid hx1; have HO3 := Lib.hid hown'
                have HB3 := Lib.hid ((HB2.out.alloc hws2 (.cells #[.int .u8 (t[j].toNat : Int), .bool false, .bool false] 53)).grown hgrow (by simp [World.size_alloc]; omega) (fun k hk => (HO2.out.lt k hk).1))
                clear hx1 hown' hgrow
                go_wp2_with fail
                go_roundw
                case rel => exact ⟨j + 1, by omega, by go_num, by rw [HM.out, show snb false t[j] = (t[j], false, false) by rw [snb, HC.out]; rfl, ← List.append_assoc, ncells_app]; exact HO3.out, HB3.out, HX1.out⟩
                case measure => simp [intOf]; omega
              · have HC := Lib.hid hc
                clear hc
                go_wp2_with (go_at_call 29; refine (rbreak_any _ _).mono ?_)
                rintro e w' ⟨rfl, rfl⟩
                rw [HC.out]
                go_wp2_with (at_builtin; refine wpList_append_own _ rfl _ _ 50 rfl w.heap.size 53 i0 (.agg #[.int .u8 0, .bool false, .bool false]) 3 3 Try.underlying50 HI.out HZ0.out HZ1.out HZ2.out rfl (by decide) _ _ _ rfl (HO2.out.alloc _) ⟨wr.heap.size, 0, none⟩ 1 1 (ncell partN) rfl rfl (World.news_of_block (cs := #[.int .u8 0, .bool false, .bool true]) (t := 53) (fr := (0, 0)) (heap_alloc_new wr _)) (ncell_one _) ?c32 ?c42 ?c52 ?_)
                case c32 => unfold maxLen; omega
                case c42 => omega
                case c52 => first | omega | (simp [World.size_alloc]; omega)
                intro v' w1 hown' hgrow _
                have hx1 : w1.heap[wo.heap.size]? = some (.cells #[.string t, .bool false, .bool false] 31 (0, 0)) := (hgrow.block _ (by simp [World.size_alloc]; omega) (fun e => ownsRow_ne (HO2.out) HX.out (by decide) e.symm)).trans ((Below.heap_alloc _ _ _ hxlt).trans HX.out)
                have HX1 := Lib.hid hx1; have HO3 := Lib.hid hown'
                have HB3 := Lib.hid ((HB2.out.alloc hws2 (.cells #[.int .u8 0, .bool false, .bool true] 53)).grown hgrow (by simp [World.size_alloc]; omega) (fun k hk => (HO2.out.lt k hk).1))
                clear hx1 hown' hgrow
                go_wp2_with fail
                go_roundw
                case rel => exact ⟨j + 1, by omega, by go_num, by rw [HM.out, show snb false t[j] = partN by rw [snb, HC.out]; rfl, ← List.append_assoc, ncells_app]; exact HO3.out, HB3.out, HX1.out⟩
                case measure => simp [intOf]; omega
            · obtain rfl : j = t.size := by omega
              go_wp2_with fail
              go_roundw
              case rel => exact ⟨k + 1, by omega, by go_num, by rw [HT.out]; have h1 := HO2.out; rw [← HML.out, List.take_length, HM0.out, HL1.out, List.append_assoc] at h1; show World.ownsRow _ _ _ _ _ (L ++ (edges false ++ (bs t).map (snb false))).length (ncells (L ++ (edges false ++ (bs t).map (snb false)))); rw [List.length_append, List.length_append, ← Nat.add_assoc, ← List.length_append]; exact h1, HB2.out⟩
              case measure => simp [intOf]; omega
        · go_wp2_with (at_builtin; refine wpList_append_own _ rfl _ _ 50 rfl w.heap.size 53 i0 (.agg #[.int .u8 0, .bool false, .bool false]) 3 3 Try.underlying50 HI.out HZ0.out HZ1.out HZ2.out rfl (by decide) _ _ _ rfl ((HO.out.alloc _).alloc _) ⟨wo.heap.size + 1, 0, none⟩ 1 1 (ncell edgeN) rfl rfl (World.news_of_block (cs := #[.int .u8 0, .bool true, .bool false]) (t := 53) (fr := (0, 0)) (heap_new2 _ _ (by simp [World.size_alloc]))) (ncell_one _) ?c33 ?c43 ?c53 ?_)
          case c33 => unfold maxLen; omega
          case c43 => omega
          case c53 => first | omega | (simp [World.size_alloc]; omega)
          intro v' w1 hown' hgrow _
          have HO1 := Lib.hid hown'
          have HB1 := Lib.hid (((HB.out.alloc hws (.cells #[.string t, .bool true, .bool false] 31)).alloc (by simp [World.size_alloc]; omega) (.cells #[.int .u8 0, .bool true, .bool false] 53)).grown hgrow (by simp [World.size_alloc]; omega) (fun k hk => (HO.out.lt k hk).1))
          have hx1 : w1.heap[wo.heap.size]? = some (.cells #[.string t, .bool true, .bool false] 31 (0, 0)) := (hgrow.block _ (by simp [World.size_alloc]; omega) (fun e => by have := (HO.out.lt _ e.symm).2; omega)).trans ((Below.heap_alloc _ _ _ (by simp [World.size_alloc])).trans (heap_alloc_new wo _))
          have HX1 := Lib.hid hx1
          clear hown' hgrow hx1
          go_wp2_with fail
          obtain ⟨L0, hL0⟩ : ∃ L0, L0 = L ++ edges true := ⟨_, rfl⟩
          have hl0 : L0.length ≤ L.length + 1 := by rw [hL0]; simp [edges]
          have HS0 : Hid (World.ownsRow w1 w.heap.size 53 3 v' L0.length (ncells L0)) := Lib.hid (by rw [hL0]; exact (show World.ownsRow _ _ _ _ _ (L ++ edges true).length (ncells (L ++ edges true)) by rw [List.length_append, ncells_app]; exact HO1.out))
          have HL1 := Lib.hid hL0
          clear hL0
          obtain ⟨M, hM⟩ : ∃ M, M = (bs t).map (snb true) := ⟨_, rfl⟩
          have HMS : Hid (∀ (j : Nat) (h : j < t.size), M.take (j + 1) = M.take j ++ [snb true t[j]]) := Lib.hid (by rw [hM]; exact fun j h => map_snoc true t h)
          have HML : Hid (M.length = t.size) := Lib.hid (by rw [hM, List.length_map, bs_len])
          have HM0 := Lib.hid hM
          clear hM
          go_loopw [3, 6] (fun v x wr => ∃ j : Nat, j ≤ t.size ∧ x = .int .i64 j ∧ wr.ownsRow w.heap.size 53 3 v (L0.length + j) (ncells (L0 ++ M.take j)) ∧ Below w.heap.size w wr ∧ wr.heap[wo.heap.size]? = some (.cells #[.string t, .bool true, .bool false] 31 (0, 0))) (fun _ x _ => t.size - (intOf x).toNat)
          case atStart => exact ⟨0, Nat.zero_le _, rfl, by simpa using HS0.out, HB1.out, HX1.out⟩
          case round =>
            obtain ⟨j, hj, rfl, hown, hbw, hx⟩ := hrel
            have d0 := Lib.cell_of_heap hx 0
            have d1 := Lib.cell_of_heap hx 1
            have d2 := Lib.cell_of_heap hx 2
            have HO2 := Lib.hid hown; have HB2 := Lib.hid hbw; have HX := Lib.hid hx
            have hws2 := hbw.size
            have hxlt := (Array.getElem?_eq_some_iff.1 hx).1
            clear hown hbw hx c0 c1 c2
            by_cases hlj : j < t.size
            · have HM := Lib.hid (HMS.out j hlj)
              go_wp2_with (at_builtin; refine wpList_append_own _ rfl _ _ 50 rfl w.heap.size 53 i0 (.agg #[.int .u8 0, .bool false, .bool false]) 3 3 Try.underlying50 HI.out HZ0.out HZ1.out HZ2.out rfl (by decide) _ _ _ rfl (HO2.out.alloc _) ⟨wr.heap.size, 0, none⟩ 1 1 (ncell (t[j], false, false)) rfl rfl (World.news_of_block (cs := #[.int .u8 (t[j].toNat : Int), .bool false, .bool false]) (t := 53) (fr := (0, 0)) (heap_alloc_new wr _)) (ncell_one _) ?c34 ?c44 ?c54 ?_)
              case c34 => unfold maxLen; omega
              case c44 => omega
              case c54 => first | omega | (simp [World.size_alloc]; omega)
              intro v' w1 hown' hgrow _
              have hx1 : w1.heap[wo.heap.size]? = some (.cells #[.string t, .bool true, .bool false] 31 (0, 0)) := (hgrow.block _ (by simp [World.size_alloc]; omega) (fun e => ownsRow_ne (HO2.out) HX.out (by decide) e.symm)).trans ((Below.heap_alloc _ _ _ hxlt).trans HX.out)
              have HX1 := Lib.hid hx1; have HO3 := Lib.hid hown'
              have HB3 := Lib.hid ((HB2.out.alloc hws2 (.cells #[.int .u8 (t[j].toNat : Int), .bool false, .bool false] 53)).grown hgrow (by simp [World.size_alloc]; omega) (fun k hk => (HO2.out.lt k hk).1))
              clear hx1 hown' hgrow
              go_wp2_with fail
              go_roundw
              case rel => exact ⟨j + 1, by omega, by go_num, by rw [HM.out, show snb true t[j] = (t[j], false, false) from rfl, ← List.append_assoc, ncells_app]; exact HO3.out, HB3.out, HX1.out⟩
              case measure => simp [intOf]; omega
            · obtain rfl : j = t.size := by omega
              go_wp2_with fail
              go_roundw
              case rel => exact ⟨k + 1, by omega, by go_num, by rw [HT.out]; have h1 := HO2.out; rw [← HML.out, List.take_length, HM0.out, HL1.out, List.append_assoc] at h1; show World.ownsRow _ _ _ _ _ (L ++ (edges true ++ (bs t).map (snb true))).length (ncells (L ++ (edges true ++ (bs t).map (snb true)))); rw [List.length_append, List.length_append, ← Nat.add_assoc, ← List.length_append]; exact h1, HB2.out⟩
              case measure => simp [intOf]; omega
      · go_wp2_with (at_builtin; refine wpList_append_own _ rfl _ _ 50 rfl w.heap.size 53 i0 (.agg #[.int .u8 0, .bool false, .bool false]) 3 3 Try.underlying50 HI.out HZ0.out HZ1.out HZ2.out rfl (by decide) _ _ _ rfl ((HO.out.alloc _).alloc _) ⟨wr.heap.size + 1, 0, none⟩ 1 1 (ncell partN) rfl rfl (World.news_of_block (cs := #[.int .u8 0, .bool false, .bool true]) (t := 53) (fr := (0, 0)) (heap_new2 _ _ (by simp [World.size_alloc]))) (ncell_one _) ?c3 ?c4 ?c5 ?_)
        case c3 => unfold maxLen; omega
        case c4 => omega
        case c5 => first | omega | (simp [World.size_alloc]; omega)
        intro v' w1 hown' hgrow _
        have HO1 := Lib.hid hown'
        have HB1 := Lib.hid (((HB.out.alloc hws (.cells #[.string t, .bool q, .bool true] 31)).alloc (by simp [World.size_alloc]; omega) (.cells #[.int .u8 0, .bool false, .bool true] 53)).grown hgrow (by simp [World.size_alloc]; omega) (fun k hk => (HO.out.lt k hk).1))
        clear hown' hgrow
        go_wp2_with fail
        go_roundw
        case rel => exact ⟨k + 1, by omega, by go_num, by rw [HT.out]; show World.ownsRow _ _ _ _ _ (L ++ [partN]).length (ncells (L ++ [partN])); rw [List.length_append, ncells_app]; exact HO1.out, HB1.out⟩
        case measure => simp [intOf]; omega
    · obtain rfl : k = ps.length := by omega
      go_wp2_with fail
      go_ret
      have := HO.out
      rw [List.take_length] at this
      exact ⟨_, rfl, this, HB.out⟩
end Fld
end Go.Proofs.Ytbhfdjmnnailnaa
