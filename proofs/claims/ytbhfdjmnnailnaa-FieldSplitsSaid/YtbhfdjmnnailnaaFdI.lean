/- The reference's Split. -/
import Derived.Test.YtbhfdjmnnailnaaFdH
import Derived.Laws.BytesString
import Derived.Lib.BufferRead
namespace Go.Proofs.Ytbhfdjmnnailnaa
open Go.RowKit Cls
namespace Fld
theorem push_all : ∀ (l : List UInt8) (s : ByteArray), (l.map fun b => ((b.toNat : Nat) : Int)).foldl (fun r n => r.push (UInt8.ofNat n.toNat)) s = ⟨s.data ++ l.toArray⟩
  | [], s => by simp
  | c :: l, s => by
    simp only [List.map_cons, List.foldl_cons]
    rw [push_all l]
    simp [ByteArray.push]
/-- A slice of the call's own, turned to a text. -/
theorem run_string_own {w : World} {B : Nat} {l : List UInt8} {v : Value} (h : w.ownsRow B 5 1 v l.length (Lib.byteCells l)) :
    (convert 37 9 v).run Try.prog w = .ok (.string (tx l)) w := by
  rcases h.2 with ⟨rfl, hz⟩ | ⟨g, cap, cur, rfl, _⟩
  · obtain rfl := List.length_eq_zero_iff.1 hz
    exact Lib.run_convert_nil_bytes w _ _ 5 0 Try.underlying37 Try.underlying5 Try.underlying9
  · rw [run_convert_bytes_string w _ _ 5 _ _ _ Try.underlying37 Try.underlying5 Try.underlying9]
    rw [← Lib.byteCells_length l] at h ⊢
    rw [run_bytesToString w ⟨g, 0, none⟩ _ cap (l.map fun b => ((b.toNat : Nat) : Int)) (by
      have := run_loadCells_list (P := Try.prog) (w := w) ⟨g, 0, none⟩ (Lib.byteCells l) (fun j x hj => by
        have := h.cells (g := g) rfl j x hj
        simpa [Addr.add] using this)
      rw [this]
      simp [Lib.byteCells, List.map_map, Function.comp_def])]
    rw [push_all]
    simp [tx]
theorem stepN_part {s : S} {n : Sn} (h : n.2.2 = true) : stepN s n = endS s := by unfold stepN; rw [h]; rfl
theorem fold_snoc (l : List Sn) (n : Sn) (s : S) : (l ++ [n]).foldl stepN s = stepN (l.foldl stepN s) n := by simp
theorem Inv.fold (l : List Sn) : ∀ {s : S}, Inv s → Inv (l.foldl stepN s) := by
  induction l with
  | nil => exact fun h => h
  | cons n r ih => exact fun h => ih (h.step n)
theorem nS_fold (l : List Sn) : ∀ s : S, nS (l.foldl stepN s) ≤ nS s + 2 * l.length := by
  induction l with
  | nil => intro s; exact Nat.le_refl _
  | cons n r ih => intro s; have := ih (stepN s n); have := nS_step s n; simp only [List.foldl_cons, List.length_cons]; omega
theorem end_false {s : S} (h : Inv s) (hg : s.g = false) : endS s = ⟨s.E, false, []⟩ := by
  obtain ⟨E, g, t⟩ := s
  simp only at hg
  subst hg
  have : t = [] := h rfl
  subst this
  rfl
theorem end_true {s : S} (hg : s.g = true) : endS s = ⟨s.E ++ [tx s.t], false, []⟩ := by unfold endS; rw [hg]; rfl
/-- What the loop has: its texts, its bytes. -/
structure Two (w0 w : World) (s : S) (vo vn : Value) : Prop where
  out : w.ownsRow w0.heap.size 9 1 vo s.E.length (s.E.map Value.string)
  now : w.ownsRow w0.heap.size 5 1 vn s.t.length (Lib.byteCells s.t)
  bel : Below w0.heap.size w0 w
theorem Two.alloc {w0 w : World} {s : S} {vo vn : Value} (h : Two w0 w s vo vn) (o : Obj) : Two w0 (w.alloc o) s vo vn := ⟨h.out.alloc o, h.now.alloc o, h.bel.alloc h.bel.size o⟩
theorem Two.neON {w0 w : World} {s : S} {vo vn : Value} (h : Two w0 w s vo vn) {g : Nat} (hg : vo.ownBlock = some g) : vn.ownBlock ≠ some g := by
  rcases h.out.2 with ⟨rfl, _⟩ | ⟨k, cap, cur, rfl, _, hh, _⟩
  · cases hg
  · cases hg; exact ownsRow_ne h.now hh (by decide)
theorem Two.neNO {w0 w : World} {s : S} {vo vn : Value} (h : Two w0 w s vo vn) {g : Nat} (hg : vn.ownBlock = some g) : vo.ownBlock ≠ some g := fun e => h.neON e hg
theorem own_apart {w : World} {b b' : Nat} {e e' : TypeId} {s s' : Nat} {v v' : Value} {n n' : Nat} {xs xs' : List Value} (h : w.ownsRow b e s v n xs) (h' : w.ownsRow b' e' s' v' n' xs') (hne : e ≠ e') {g : Nat} (hg : v.ownBlock = some g) : v'.ownBlock ≠ some g := by
  rcases h.2 with ⟨rfl, _⟩ | ⟨k, cap, cur, rfl, _, hh, _⟩
  · cases hg
  · cases hg; exact ownsRow_ne h' hh hne
theorem Two.grown {w0 w w2 : World} {s : S} {vo vn : Value} {row : Option Nat} (h : Two w0 w s vo vn) (hgrow : w.grownBy w2 row) (h1 : ∀ g, vo.ownBlock = some g → row ≠ some g) (h2 : ∀ g, vn.ownBlock = some g → row ≠ some g) (h3 : ∀ k, row = some k → w0.heap.size ≤ k) : Two w0 w2 s vo vn :=
  ⟨ownsRow_keep h.out fun g hg => hgrow.block g (h.out.lt g hg).2 (fun e => h1 g hg e.symm), ownsRow_keep h.now fun g hg => hgrow.block g (h.now.lt g hg).2 (fun e => h2 g hg e.symm), h.bel.grown hgrow h.bel.size h3⟩
/-- The row of the signs, in block g. -/
def Srow (w : World) (g : Nat) (cur : Array Value) : Prop := w.heap[g]? = some (.cells cur 53 (0, 0))
theorem infoStr' : (Try.prog.info? 9).map (fun i => (i.zero, i.size, i.bytes)) = some (some (.string ⟨#[]⟩), 1, 16) := by kernel_rfl
theorem Srow.alloc {w : World} {g : Nat} {cur : Array Value} (h : Srow w g cur) (o : Obj) : Srow (w.alloc o) g cur := (Below.heap_alloc _ _ _ (Array.getElem?_eq_some_iff.1 h).1).trans h
theorem Srow.lt {w : World} {g : Nat} {cur : Array Value} (h : Srow w g cur) : g < w.heap.size := (Array.getElem?_eq_some_iff.1 h).1
theorem Srow.grown {w w2 : World} {g : Nat} {cur : Array Value} {b : Nat} {e : TypeId} {s : Nat} {v : Value} {n : Nat} {xs : List Value} (h : Srow w g cur) (hown : w.ownsRow b e s v n xs) (hne : 53 ≠ e) (hgrow : w.grownBy w2 v.ownBlock) : Srow w2 g cur :=
  (hgrow.block g h.lt (fun e => ownsRow_ne hown h hne e.symm)).trans h
theorem byte_snoc (l : List UInt8) (c : UInt8) : Lib.byteCells (l ++ [c]) = Lib.byteCells l ++ [.int .u8 (c.toNat : Int)] := by rw [Lib.byteCells_append]; rfl
theorem Two.put {w0 w w2 : World} {s : S} {vo vn v' : Value} (h : Two w0 w s vo vn) (hown : w2.ownsRow w0.heap.size 9 1 v' (s.E.length + 1) (s.E.map Value.string ++ [.string (tx s.t)])) (hgrow : w.grownBy w2 vo.ownBlock) :
    Two w0 w2 { s with E := s.E ++ [tx s.t] } v' vn := by
  refine ⟨?_, ownsRow_keep h.now fun g hg => hgrow.block g (h.now.lt g hg).2 (fun e => h.neNO hg e.symm), h.bel.grown hgrow h.bel.size (fun k hk => (h.out.lt k hk).1)⟩
  show World.ownsRow _ _ _ _ _ (s.E ++ [tx s.t]).length ((s.E ++ [tx s.t]).map Value.string)
  rw [List.length_append, List.map_append]
  exact hown
theorem Two.byte {w0 w w2 : World} {s : S} {vo vn v' : Value} {c : UInt8} (h : Two w0 w s vo vn) (hown : w2.ownsRow w0.heap.size 5 1 v' (s.t.length + 1) (Lib.byteCells s.t ++ [.int .u8 (c.toNat : Int)])) (hgrow : w.grownBy w2 vn.ownBlock) :
    Two w0 w2 (growS s [c]) vo v' := by
  refine ⟨ownsRow_keep h.out fun g hg => hgrow.block g (h.out.lt g hg).2 (fun e => h.neON hg e.symm), ?_, h.bel.grown hgrow h.bel.size (fun k hk => (h.now.lt k hk).1)⟩
  show World.ownsRow _ _ _ _ _ (s.t ++ [c]).length (Lib.byteCells (s.t ++ [c]))
  rw [List.length_append, byte_snoc]
  exact hown
theorem Two.fresh {w0 w : World} {s : S} {vo vn : Value} (h : Two w0 w s vo vn) : Two w0 (w.alloc (.cells #[] 5)) ⟨s.E, false, []⟩ vo (.slice (some ⟨w.heap.size, 0, none⟩) 0 0) :=
  ⟨h.out.alloc _, World.ownsRow_made w #[] 0 h.bel.size (Nat.zero_le _) rfl, h.bel.alloc h.bel.size _⟩
theorem info_byte : (Try.prog.info? 5).map (fun i => (i.zero, i.size, i.bytes)) = some (some (.int .u8 0), 1, 1) := by kernel_rfl
set_option maxHeartbeats 4000000 in
theorem rsplit_any (a : Option Addr) (cap : Nat) (ps : List Pc) (w : World) (h : Pcs w a ps) (hw : weight ps ≤ 200000) :
    Calls Try.prog 11 #[.slice a ps.length cap] w fun e w' => ∃ v, e = .returned v ∧ w'.ownsRow w.heap.size 9 1 v (splitS ps).length ((splitS ps).map Value.string) ∧ Below w.heap.size w w' := by
  obtain ⟨i0, hi, hz0, hz1, hz2⟩ := info_parts infoSign
  have HI := Lib.hid hi; have HZ0 := Lib.hid hz0; have HZ1 := Lib.hid hz1; have HZ2 := Lib.hid hz2
  clear hi hz0 hz1 hz2
  obtain ⟨i1, hi, hz0, hz1, hz2⟩ := info_parts infoStr'
  have II := Lib.hid hi; have IZ0 := Lib.hid hz0; have IZ1 := Lib.hid hz1; have IZ2 := Lib.hid hz2
  clear hi hz0 hz1 hz2
  obtain ⟨i2, hi, hz0, hz1, hz2⟩ := info_parts info_byte
  have JI := Lib.hid hi; have JZ0 := Lib.hid hz0; have JZ1 := Lib.hid hz1; have JZ2 := Lib.hid hz2
  clear hi hz0 hz1 hz2
  have hsl := sns_len ps
  have H := Lib.hid (h.below (below_alloc w (.cells #[] 9)) |>.below (below_alloc _ (.cells #[] 5)))
  have T0 := Lib.hid (show Two w ((w.alloc (.cells #[] 9)).alloc (.cells #[] 5)) s0 (.slice (some ⟨w.heap.size, 0, none⟩) 0 0) (.slice (some ⟨w.heap.size + 1, 0, none⟩) 0 0) from by
    have h1 : Two w (w.alloc (.cells #[] 9)) s0 (.slice (some ⟨w.heap.size, 0, none⟩) 0 0) (.slice none 0 0) := ⟨World.ownsRow_made w #[] 0 (Nat.le_refl _) (Nat.zero_le _) rfl, World.ownsRow_nil _ _ _ _, below_alloc _ _⟩
    have h2 := h1.fresh
    rw [World.size_alloc] at h2
    exact h2)
  clear h
  go_enter Try.func11, Try.ntmps11
  go_wp2_with fail
  refine (signs_any a cap ps _ H.out hw).mono ?_
  rintro e w1 ⟨v1, rfl, ho1, hb1⟩
  have T1 := Lib.hid (show Two w w1 s0 (.slice (some ⟨w.heap.size, 0, none⟩) 0 0) (.slice (some ⟨w.heap.size + 1, 0, none⟩) 0 0) from ⟨ownsRow_below T0.out.out hb1, ownsRow_below T0.out.now hb1, T0.out.bel.trans (hb1.mono T0.out.bel.size)⟩)
  have hle1 := hb1.size
  have HO1 := Lib.hid ho1
  clear T0 ho1 hb1
  go_wp2_with (at_builtin; refine wpList_append_own _ rfl _ _ 50 rfl ((w.alloc (.cells #[] 9)).alloc (.cells #[] 5)).heap.size 53 i0 (.agg #[.int .u8 0, .bool false, .bool false]) 3 3 Try.underlying50 HI.out HZ0.out HZ1.out HZ2.out rfl (by decide) _ _ _ rfl (HO1.out.alloc _) ⟨w1.heap.size, 0, none⟩ 1 1 (ncell partN) rfl rfl (World.news_of_block (cs := #[.int .u8 0, .bool false, .bool true]) (t := 53) (fr := (0, 0)) (heap_alloc_new w1 _)) (ncell_one _) ?c3 ?c4 ?c5 ?_)
  case c3 => unfold maxLen; omega
  case c4 => omega
  case c5 => simp only [World.size_alloc] at hle1 ⊢; omega
  intro v2 w2 hown2 hgrow2 _
  obtain ⟨g, cap2, cur, rfl, hsr, htake⟩ : ∃ g cap2 cur, v2 = .slice (some ⟨g, 0, none⟩) ((sns ps).length + 1) cap2 ∧ Srow w2 g cur ∧ cur.toList.take (((sns ps).length + 1) * 3) = ncells (sns ps ++ [partN]) := by
    rcases hown2.2 with ⟨_, h0⟩ | ⟨g, cap2, cur, hv, _, hh, _, _, _, ht⟩
    · omega
    · exact ⟨g, cap2, cur, hv, hh, by rw [ht, ncells_app]; rfl⟩
  have T2 := Lib.hid ((T1.out.alloc (.cells #[.int .u8 0, .bool false, .bool true] 53)).grown hgrow2 (fun k hk => own_apart T1.out.out HO1.out (by decide) hk) (fun k hk => own_apart T1.out.now HO1.out (by decide) hk) (fun k hk => by have := (HO1.out.lt k hk).1; simp only [World.size_alloc] at this; omega))
  have HS := Lib.hid hsr
  have HC : Hid (∀ i s, (sns ps ++ [partN])[i]? = some s → cur[i * 3]? = some (.int .u8 (s.1.toNat : Int)) ∧ cur[i * 3 + 1]? = some (.bool s.2.1) ∧ cur[i * 3 + 2]? = some (.bool s.2.2)) := Lib.hid (by
    intro i s hs
    have hlt : i < (sns ps).length + 1 := by have := (List.getElem?_eq_some_iff.1 hs).1; simpa using this
    obtain ⟨h0, h1, h2⟩ := ncells_at hs
    rw [← htake, List.getElem?_take, if_pos (by omega), Array.getElem?_toList] at h0 h1 h2
    exact ⟨h0, h1, h2⟩)
  clear hown2 hgrow2 hsr htake T1 HO1 H
  obtain ⟨L, hL⟩ : ∃ L, L = sns ps ++ [partN] := ⟨_, rfl⟩
  have hLn : L.length = (sns ps).length + 1 := by rw [hL]; simp
  rw [← hL] at HC
  have HL := Lib.hid hL
  clear hL
  have hLl : L.length ≤ 200001 := by omega
  rw [← hLn]
  have HLN := Lib.hid hLn
  clear hLn hsl
  have HST : Hid (∀ k n, L[k]? = some n → (L.take (k + 1)).foldl stepN s0 = stepN ((L.take k).foldl stepN s0) n) := Lib.hid (fun k n hn => by rw [List.take_add_one, hn]; exact fold_snoc _ _ _)
  have HIV : Hid (∀ k, Inv ((L.take k).foldl stepN s0)) := Lib.hid (fun k => Inv.fold _ Inv.zero)
  have HNS : Hid (∀ k, nS ((L.take k).foldl stepN s0) ≤ 400002) := Lib.hid (by
    intro k
    have h1 := nS_fold (L.take k) s0
    have h2 : nS s0 = 0 := rfl
    have h3 : (L.take k).length ≤ L.length := List.length_take_le' k L
    omega)
  go_wp2_with fail
  go_loopw [3, 4, 5, 16] (fun vo vn gb x wr => ∃ k : Nat, k ≤ L.length ∧ x = .int .i64 k ∧ gb = .bool ((L.take k).foldl stepN s0).g ∧ Two w wr ((L.take k).foldl stepN s0) vo vn ∧ Srow wr g cur) (fun _ _ _ x _ => L.length - (intOf x).toNat)
  case atStart => exact ⟨0, Nat.zero_le _, rfl, rfl, T2.out, HS.out⟩
  case round =>
    obtain ⟨k, hk, rfl, rfl, htw, hsr⟩ := hrel
    have HT := Lib.hid htw; have HR := Lib.hid hsr
    clear htw hsr
    by_cases hlt : k < L.length
    · obtain ⟨n, hn⟩ : ∃ n, L[k]? = some n := ⟨_, List.getElem?_eq_getElem hlt⟩
      obtain ⟨d0, d1, d2⟩ := HC.out k n hn
      have c0 : wr.cell? ⟨g, k * 3, none⟩ = some (.int .u8 (n.1.toNat : Int)) := by rw [cell_of_row _ _ _ _ _ _ HR.out]; exact d0
      have c1 : wr.cell? ⟨g, k * 3 + 1, none⟩ = some (.bool n.2.1) := by rw [cell_of_row _ _ _ _ _ _ HR.out]; exact d1
      have c2 : wr.cell? ⟨g, k * 3 + 2, none⟩ = some (.bool n.2.2) := by rw [cell_of_row _ _ _ _ _ _ HR.out]; exact d2
      have HSTk := Lib.hid (HST.out k n hn)
      have HIVk := Lib.hid (HIV.out k)
      have hns : nS ((L.take k).foldl stepN s0) ≤ 400002 := HNS.out k
      clear d0 d1 d2 hn
      generalize (L.take k).foldl stepN s0 = s at HT HSTk HIVk hns ⊢
      obtain ⟨c, ed, pt⟩ := n
      have hE : s.E.length ≤ 400002 := by unfold nS at hns; omega
      have ht : s.t.length ≤ 400002 := by unfold nS at hns; omega
      clear hns
      have TA := Lib.hid (HT.out.alloc (.cells #[.int .u8 (c.toNat : Int), .bool ed, .bool pt] 53))
      have RA := Lib.hid (HR.out.alloc (.cells #[.int .u8 (c.toNat : Int), .bool ed, .bool pt] 53))
      have hws := HT.out.bel.size
      have hcv := run_string_own TA.out.now
      cases pt
      · cases ed
        · go_wp2_with (at_builtin; refine wpList_append_own _ rfl _ _ 37 rfl w.heap.size 5 i2 (.int .u8 0) 1 1 Try.underlying37 JI.out JZ0.out JZ1.out JZ2.out rfl (by decide) _ _ _ rfl (TA.out.now.alloc _) ⟨wr.heap.size + 1, 0, none⟩ 1 1 [.int .u8 (c.toNat : Int)] rfl rfl (World.news_of_block (cs := #[.int .u8 (c.toNat : Int)]) (t := 5) (fr := (0, 0)) (heap_new2 _ _ (by simp [World.size_alloc]))) (by simp [Value.oneCell']) ?a3 ?a4 ?a5 ?_)
          case a3 => unfold maxLen; omega
          case a4 => omega
          case a5 => first | omega | (simp [World.size_alloc]; omega)
          intro v' w3 hown' hgrow _
          have T3 := Lib.hid ((TA.out.alloc (.cells #[.int .u8 (c.toNat : Int)] 5)).byte hown' hgrow)
          have R3 := Lib.hid ((RA.out.alloc _).grown (TA.out.now.alloc _) (by decide) hgrow)
          clear hown' hgrow hcv c0 c1 c2
          go_wp2_with fail
          go_roundw
          case rel => exact ⟨k + 1, by omega, by go_num, by rw [HSTk.out]; rfl, by rw [HSTk.out]; exact T3.out, R3.out⟩
          case measure => simp [intOf]; omega
        · clear hcv
          have T3 := Lib.hid (show Two w _ (growS s []) _ _ from ⟨TA.out.out, by show World.ownsRow _ _ _ _ _ (s.t ++ []).length (Lib.byteCells (s.t ++ [])); rw [List.append_nil]; exact TA.out.now, TA.out.bel⟩)
          go_wp2_with fail
          go_roundw
          case rel => exact ⟨k + 1, by omega, by go_num, by rw [HSTk.out]; rfl, by rw [HSTk.out]; exact T3.out, RA.out⟩
          case measure => simp [intOf]; omega
      · cases hg : s.g
        · have T3 := Lib.hid (TA.out.fresh)
          have R3 := Lib.hid (RA.out.alloc (.cells #[] 5))
          have HE := Lib.hid ((stepN_part (n := (c, ed, true)) rfl).trans (end_false HIVk.out hg))
          clear hcv hg
          go_wp2_with fail
          go_roundw
          case rel => exact ⟨k + 1, by omega, by go_num, by rw [HSTk.out, HE.out], by rw [HSTk.out, HE.out]; simpa [World.size_alloc] using T3.out, R3.out⟩
          case measure => simp [intOf]; omega
        · have HE := Lib.hid ((stepN_part (n := (c, ed, true)) rfl).trans (end_true hg))
          clear hg
          go_wp2_with (at_builtin; refine wpList_append_own _ rfl _ _ 27 rfl w.heap.size 9 i1 (.string ⟨#[]⟩) 1 16 Try.underlying27 II.out IZ0.out IZ1.out IZ2.out rfl (by decide) _ _ _ rfl (TA.out.out.alloc _) ⟨wr.heap.size + 1, 0, none⟩ 1 1 [.string (tx s.t)] rfl rfl (World.news_of_block (cs := #[.string (tx s.t)]) (t := 9) (fr := (0, 0)) (heap_new2 _ _ (by simp [World.size_alloc]))) (by simp [Value.oneCell']) ?b3 ?b4 ?b5 ?_)
          case b3 => unfold maxLen; omega
          case b4 => omega
          case b5 => first | omega | (simp [World.size_alloc]; omega)
          intro v' w3 hown' hgrow _
          have T3 := Lib.hid ((TA.out.alloc (.cells #[.string (tx s.t)] 9)).put hown' hgrow)
          have R3 := Lib.hid ((RA.out.alloc _).grown (TA.out.out.alloc _) (by decide) hgrow)
          have hx0 : w3.cell? ⟨wr.heap.size, 2, none⟩ = some (.bool true) := by
            have h1 : (wr.alloc (.cells #[.int .u8 (c.toNat : Int), .bool ed, .bool true] 53)).heap[wr.heap.size]? = _ := heap_alloc_new wr _
            have h2 := (hgrow.block wr.heap.size (by simp [World.size_alloc]; omega) (fun e => by have := (HT.out.out.lt _ e.symm).2; omega)).trans ((Below.heap_alloc _ _ _ (by simp [World.size_alloc])).trans h1)
            rw [cell_of_row _ _ _ _ _ _ h2]; rfl
          have T4 := Lib.hid (T3.out.fresh)
          have R4 := Lib.hid (R3.out.alloc (.cells #[] 5))
          clear hown' hgrow hcv c0 c1 c2
          go_wp2_with fail
          go_roundw
          case rel => exact ⟨k + 1, by omega, by go_num, by rw [HSTk.out, HE.out], by rw [HSTk.out, HE.out]; exact T4.out, R4.out⟩
          case measure => simp [intOf]; omega
    · obtain rfl : k = L.length := by omega
      go_wp2_with fail
      go_ret
      have h1 := HT.out.out
      have h2 : (L.take L.length).foldl stepN s0 = endS (piecesS s0 ps) := by rw [List.take_length, HL.out, fold_snoc, fold_pieces]; rfl
      rw [h2] at h1
      exact ⟨_, rfl, h1, HT.out.bel⟩
end Fld
end Go.Proofs.Ytbhfdjmnnailnaa
