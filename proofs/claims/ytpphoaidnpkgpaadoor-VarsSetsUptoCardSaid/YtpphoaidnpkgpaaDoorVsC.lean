/- VarsSets's walk. -/
import Derived.Test.YtpphoaidnpkgpaaDoorVsB
namespace Go.Proofs.YtpphoaidnpkgpaaDoor
open Go.RowKit Go.Maps Cls
namespace Vr

theorem infoStr : (Tryd.prog.info? 9).map (fun i => (i.zero, i.size, i.bytes)) = some (some (.string ⟨#[]⟩), 1, 16) := by kernel_rfl
theorem ownB {w w' : World} {base : Nat} {e : TypeId} {size : Nat} {v : Value} {n : Nat} {xs : List Value} (h : w.ownsRow base e size v n xs) (hb : Below w.heap.size w w') : w'.ownsRow base e size v n xs :=
  h.kept (row := none) ⟨hb.os, hb.tape, hb.output, hb.size, fun k hk _ => hb.block k hk⟩ (by cases v.ownBlock <;> simp)
theorem RowAt.keep {w w' : World} {q B : Nat} {mv av v : Value} {xs : List ByteArray} (h : RowAt w B v xs) (hk : Kp w w' q mv av) (hq : q < B) (hm : ∀ j, mv = .map (some j) → j < B) (ha : ∀ j, av.ownBlock = some j → j < B) : RowAt w' B v xs :=
  h.stay fun j e => hk.block j (h.own j e).2 (by have := (h.own j e).1; omega) (fun e2 => by have := (h.own j e).1; have := hm j e2; omega) (fun e2 => by have := (h.own j e).1; have := ha j e2; omega)
theorem val_name (s : St) (n : ByteArray) (h : nameL (bs n) = true) : val s n = getV s.vs n := by rw [val, if_pos h]
/-- What a name means behind a set. -/
theorem val_set {s : St} (m v n x : ByteArray) (hn : nameL (bs n) = true) (hx : getV s.vs n = some x) : ∃ y, val (setS s m v) n = some y ∧ (n = m ∨ y = x) := by
  rw [val_name _ _ hn, setS]
  by_cases hm : nameL (bs m) = true
  · rw [if_pos hm]
    simp only [get_set]
    by_cases e : n = m
    · exact ⟨v, by rw [if_pos e], .inl e⟩
    · exact ⟨x, by rw [if_neg e, hx], .inr rfl⟩
  · rw [if_neg hm]; exact ⟨x, hx, .inr rfl⟩
set_option maxRecDepth 4000 in
set_option maxHeartbeats 1000000 in
theorem sets_any (vs : Vs) (args : List ByteArray) (st la : Int) (n v : ByteArray) (a : Option Addr) (cap : Nat) (b : Option Addr) (cap2 : Nat) (w : World) (ht : Tab w) (hv : vs.length ≤ 30) (har : args.length ≤ 30) (hn : n.size ≤ 500) (hv2 : v.size ≤ 1000) (hA : Asks vs args st la n v)
    (hp : Prs w (.slice a vs.length cap) vs) (hx : Txt w (.slice b args.length cap2) args) :
    Calls Tryd.prog 3 #[.agg #[.slice a vs.length cap, .slice b args.length cap2, .int .i64 st, .int .i64 la], .string n, .string v] w fun e w' => e = .returned (.bool true) ∧ Below w.heap.size w w' := by
  have HA := Lib.hid hA; have HP := Lib.hid hp; have HX := Lib.hid hx
  clear hp hx hA
  go_enter Tryd.func3, Tryd.ntmps3
  go_wp2_with fail
  refine (alive_any _ (ht.stay (below_alloc _ _))).mono ?_
  rintro e w1 ⟨rfl, hb1⟩
  have hbx := (hb1.block w.heap.size (by simp [World.size_alloc])).trans (heap_alloc_new w _)
  have c0 := cell_of_row _ _ 0 _ _ _ hbx
  have c1 := cell_of_row _ _ 1 _ _ _ hbx
  have c2 := cell_of_row _ _ 2 _ _ _ hbx
  have c3 := cell_of_row _ _ 3 _ _ _ hbx
  simp at c0 c1 c2 c3
  have HB1 := Lib.hid ((below_alloc w _).trans (hb1.mono (by simp [World.size_alloc])))
  clear hb1 hbx
  go_wp2_with fail
  refine (of_any vs args st la _ _ _ (HP.out.stay HB1.out) (HX.out.stay HB1.out) hv HA.out.sizes har).mono ?_
  rintro e w2 ⟨q, mv, av, rfl, hsc, hb2⟩
  have HSC := Lib.hid hsc; have HB2 := Lib.hid (HB1.out.trans (hb2.mono HB1.out.size))
  have all := ofVs_all vs
  have hfit : Fit ⟨ofVs vs, args, st, la⟩ := ⟨all.1, by have := all.2.1; simp only; omega, by simp only; omega, by have := HA.out.join; simp only; omega, HA.out.st0, HA.out.st1, HA.out.la0, HA.out.la1⟩
  have HF := Lib.hid hfit; have HALL := Lib.hid all
  clear hsc hb2 all hfit c0 c1 c2 c3
  go_wp2_with fail
  refine (names_any _ _ q _ mv av HSC.out HF.out.srt (by have := HF.out.nvs; omega)).mono ?_
  rintro e w3 ⟨an, nn, cn, rfl, hrow, hb3⟩
  obtain ⟨an', cn', hsh, hcn⟩ := hrow.txt.cell
  have HN := Lib.hid hcn; have HROW := Lib.hid hrow
  have HSC3 := Lib.hid (HSC.out.stay hb3)
  have HB3 := Lib.hid (HB2.out.trans (hb3.mono HB2.out.size))
  have hlow : (∀ j, mv = .map (some j) → j < w2.heap.size) ∧ (∀ j, av.ownBlock = some j → j < w2.heap.size) ∧ q < w2.heap.size ∧ w2.heap.size ≤ w3.heap.size := ⟨fun j e => (HSC.out.vars.own j e).2, fun j e => (HSC.out.args.own j e).2, HSC.out.lt, hb3.size⟩
  have HLO := Lib.hid hlow
  have HT3 := Lib.hid (ht.stay HB3.out)
  clear hcn hrow hb3 hlow
  have hln : (ofVs vs).length ≤ 30 := by have := HALL.out.2.1; omega
  injection hsh with e1 e2 e3
  subst e1; subst e2; subst e3
  rw [List.length_map]
  generalize hN : (ofVs vs).length = N at hln ⊢
  have HNN := Lib.hid hN
  clear hN
  obtain ⟨i0, hi, hz0, hz1, hz2⟩ := info_parts infoStr
  have HI := Lib.hid hi; have HZ0 := Lib.hid hz0; have HZ1 := Lib.hid hz1; have HZ2 := Lib.hid hz2
  clear hi hz0 hz1 hz2
  go_wp2_with fail
  go_loopw [9, 50] (fun bv i wr => ∃ k : Nat, k ≤ N ∧ i = .int .i64 k ∧ wr.ownsRow w3.heap.size 9 1 bv k (((ofVs vs).take k).map fun p => .string p.2) ∧ Below w3.heap.size w3 wr) (fun _ i _ => N - (intOf i).toNat)
  case atStart => exact ⟨0, Nat.zero_le _, rfl, World.ownsRow_made (size := 1) w3 #[] 0 (Nat.le_refl _) (Nat.zero_le _) rfl, below_alloc w3 _⟩
  case round =>
    obtain ⟨k, hk, rfl, hown, hbw⟩ := hrel
    have HO := Lib.hid hown; have HBW := Lib.hid hbw
    rcases Nat.lt_or_ge k N with hlt | hge
    · have hx : (ofVs vs)[k]? = some ((ofVs vs)[k]'(by rw [HNN.out]; exact hlt)) := List.getElem?_eq_getElem _
      have hmem := List.getElem_mem (by rw [HNN.out]; exact hlt : k < (ofVs vs).length)
      generalize (ofVs vs)[k]'(by rw [HNN.out]; exact hlt) = p at hx hmem
      obtain ⟨nm, x⟩ := p
      obtain ⟨b3, off, rfl, hbl, hc1⟩ := HN.out k nm (by rw [List.getElem?_map, hx]; rfl)
      have q1 : wr.cell? ⟨b3, off + k, none⟩ = some (.string nm) := (World.cell?_of_block (hbw.block b3 hbl)).trans hc1
      have hnm := (HALL.out.2.2 _ hmem).2
      have hsz := (HA.out.sizes _ (HALL.out.2.2 _ hmem).1).1
      have hval : val ⟨ofVs vs, args, st, la⟩ nm = some x := by rw [val_name _ _ hnm]; exact HALL.out.1.get hmem
      have HV := Lib.hid hval; have HX := Lib.hid hx
      simp only at hsz
      have hwr : w3.heap.size ≤ wr.heap.size := hbw.size
      clear hc1 hown hbw hnm hval hx hmem
      go_wp2_with fail
      refine (get_any _ _ q nm _ mv av (HSC3.out.stay HBW.out) (HT3.out.stay HBW.out) HF.out (by unfold maxLen; omega)).mono ?_
      rintro e w4 ⟨rfl, hb4⟩
      rw [HV.out]
      have HO4 := Lib.hid (ownB HO.out hb4)
      have HB4 := Lib.hid (HBW.out.trans (hb4.mono hwr))
      have hw4 : w3.heap.size ≤ w4.heap.size := HB4.out.size
      clear hb4
      go_wp2_with (at_builtin; refine wpList_append_own _ rfl (.tmp 60) (.tmp 62) 23 rfl w3.heap.size 9 i0 (.string ⟨#[]⟩) 1 16 Tryd.underlying23 HI.out HZ0.out HZ1.out HZ2.out rfl (by decide) _ _ _ rfl (HO4.out.alloc _) ⟨w4.heap.size, 0, none⟩ 1 1 [.string x] rfl rfl ?c1 ?c2 ?c3 ?c4 ?c5 ?_)
      case c1 =>
        intro j u hu
        match j, hu with
        | 0, hu => cases hu; exact cell_of_row _ _ 0 _ _ _ (heap_alloc_new w4 _)
      case c2 => intro u hu; simp at hu; subst hu; rfl
      case c3 => unfold maxLen; omega
      case c4 => omega
      case c5 => simp [World.size_alloc]; omega
      intro v' w5 hown5 hg5 _
      have hb5 := ((HB4.out.trans ((below_alloc w4 (.cells #[.string x] 9)).mono hw4)).grown hg5 (by simp [World.size_alloc]; omega) (fun j e => (HO.out.lt j e).1))
      have HO5 := Lib.hid hown5; have HB5 := Lib.hid hb5
      clear hown5 hg5 hb5
      go_wp2_with fail
      go_roundw
      case rel => exact ⟨k + 1, by omega, by go_num, by rw [List.take_add_one, HX.out]; simpa using HO5.out, HB5.out⟩
      case measure => simp [intOf]; omega
    · obtain rfl : k = N := by omega
      have hbr : RowAt wr w3.heap.size _ ((ofVs vs).map (·.2)) := RowAt.ofOwn (by
        have := HO.out
        rw [← HNN.out, List.take_length] at this
        rw [List.length_map, List.map_map]; exact this)
      obtain ⟨ab, cb, hshb, _⟩ := hbr.txt.cell
      have hscr := HSC3.out.stay hbw
      have hwr : w3.heap.size ≤ wr.heap.size := hbw.size
      have hbase : w1.heap.size ≤ wr.heap.size := Nat.le_trans (by have := hscr.base; have := hscr.lt; omega) (Nat.le_refl _)
      have hnrow := HROW.out.stay (w' := wr) fun j e => hbw.block j (HROW.out.own j e).2
      have HBR := Lib.hid hbr; have HSCR := Lib.hid hscr; have HNROW := Lib.hid hnrow; have HSHB := Lib.hid hshb
      have HBWR := Lib.hid (HB3.out.trans (hbw.mono HB3.out.size))
      have HTR := Lib.hid (HT3.out.stay hbw)
      clear hbr hscr hnrow hown hbw hshb
      have hsl := HSHB.out
      rw [List.length_map, HNN.out] at hsl
      subst hsl
      go_wp2_with fail
      refine (set_any _ w1.heap.size q n v _ mv av HSCR.out hbase (by unfold maxLen; omega) (by unfold maxLen; omega) HF.out.srt (by have := HF.out.nvs; omega)).mono ?_
      rintro e w7 ⟨rfl, mv7, hsc7, hkp7, hnew7⟩
      have hw23 := HLO.out.2.2.2
      have hnr7 := HNROW.out.keep hkp7 HLO.out.2.2.1 HLO.out.1 HLO.out.2.1
      have hbr7 := HBR.out.keep hkp7 (Nat.lt_of_lt_of_le HLO.out.2.2.1 hw23) (fun j e => Nat.lt_of_lt_of_le (HLO.out.1 j e) hw23) (fun j e => Nat.lt_of_lt_of_le (HLO.out.2.1 j e) hw23)
      have hb7 := HBWR.out.trans (hkp7.below (B := w.heap.size) HBWR.out.size (by have := HB1.out.size; have := HSC.out.base; omega) (fun j e => Nat.le_trans HB1.out.size (HSCR.out.vars.own j e).1) (fun j e => Nat.le_trans HB1.out.size (HSCR.out.args.own j e).1))
      have ht7 : Tab w7 := ht.stay hb7
      obtain ⟨_, _, hq1, hcn7⟩ := hnr7.txt.cell
      obtain ⟨_, _, hq2, hcb7⟩ := hbr7.txt.cell
      injection hq1 with hq1 g1 g2
      injection hq2 with hq2 g3 g4
      clear g1 g2 g3 g4
      rw [← hq1] at hcn7
      rw [← hq2] at hcb7
      have HSC7 := Lib.hid hsc7; have HCN7 := Lib.hid hcn7; have HCB7 := Lib.hid hcb7; have HB7 := Lib.hid hb7; have HT7 := Lib.hid ht7
      have hf7 : Fit (setS ⟨ofVs vs, args, st, la⟩ n v) := by
        rw [setS]
        cases hnn : nameL (bs n)
        · exact HF.out
        · have f := HF.out
          exact ⟨f.srt.set n v, by have := set_length (ofVs vs) n v; have := HNN.out; simp only [if_true]; omega, f.nargs, f.join, f.st0, f.st1, f.la0, f.la1⟩
      have HF7 := Lib.hid hf7
      clear hsc7 hkp7 hnew7 hnr7 hbr7 hb7 ht7 hq1 hq2 hcn7 hcb7 hf7
      clear HI HZ0 HZ1 HZ2 HBW HN HROW HSC3 HT3 HLO HO HBR HSCR HNROW HBWR HTR HSHB
      go_wp2_with fail
      go_loopw [71] (fun i wr => ∃ k2 : Nat, k2 ≤ k ∧ i = .int .i64 k2 ∧ Below w7.heap.size w7 wr) (fun i _ => k - (intOf i).toNat)
      case atStart => exact ⟨0, Nat.zero_le _, rfl, Below.refl _ _⟩
      case round =>
        obtain ⟨k2, hk2, rfl, hbw2⟩ := hrel
        have HBW2 := Lib.hid hbw2
        rcases Nat.lt_or_ge k2 k with hlt2 | hge2
        · have hx : (ofVs vs)[k2]? = some ((ofVs vs)[k2]'(by rw [HNN.out]; exact hlt2)) := List.getElem?_eq_getElem _
          have hmem := List.getElem_mem (by rw [HNN.out]; exact hlt2 : k2 < (ofVs vs).length)
          generalize (ofVs vs)[k2]'(by rw [HNN.out]; exact hlt2) = p at hx hmem
          obtain ⟨nm, x⟩ := p
          obtain ⟨b3, off, rfl, hbl, hc1⟩ := HCN7.out k2 nm (by rw [List.getElem?_map, hx]; rfl)
          obtain ⟨b4, off4, rfl, hbl4, hc4⟩ := HCB7.out k2 x (by rw [List.getElem?_map, hx]; rfl)
          have q1 : wr.cell? ⟨b3, off + k2, none⟩ = some (.string nm) := (World.cell?_of_block (hbw2.block b3 hbl)).trans hc1
          have q2 : wr.cell? ⟨b4, off4 + k2, none⟩ = some (.string x) := (World.cell?_of_block (hbw2.block b4 hbl4)).trans hc4
          have hl4 : b4 < wr.heap.size := Nat.lt_of_lt_of_le hbl4 hbw2.size
          have hnm := (HALL.out.2.2 _ hmem).2
          have hsz := (HA.out.sizes _ (HALL.out.2.2 _ hmem).1).1
          obtain ⟨y, hy, hor⟩ := val_set (s := ⟨ofVs vs, args, st, la⟩) n v nm x hnm (HALL.out.1.get hmem)
          have HY := Lib.hid hy
          simp only at hsz
          clear hc1 hc4 hbw2 hnm hx hmem hy
          go_wp2_with fail
          refine (get_any _ _ q nm _ mv7 av (HSC7.out.stay HBW2.out) (HT7.out.stay HBW2.out) HF7.out (by unfold maxLen; omega)).mono ?_
          rintro e w8 ⟨rfl, hb8⟩
          rw [HY.out]
          have q3 : w8.cell? ⟨b4, off4 + k2, none⟩ = some (.string x) := (World.cell?_of_block (hb8.block b4 hl4)).trans q2
          have HB8 := Lib.hid (HBW2.out.trans (hb8.mono HBW2.out.size))
          clear hb8 q1 q2 hl4 HBW2
          by_cases he : nm = n
          · have t1 : (nm.toList == n.toList) = true := by rw [he]; simp
            clear hor
            go_wp2_with fail
            go_roundw
            case rel => exact ⟨k2 + 1, by omega, by go_num, HB8.out⟩
            case measure => simp [intOf]; omega
          · have t1 : (nm.toList == n.toList) = false := by rw [beq_eq_false_iff_ne, Lib.toList_data, Lib.toList_data]; exact fun e => he (bs_inj e)
            obtain rfl : y = x := hor.resolve_left he
            have t2 : (y.toList == y.toList) = true := by simp
            go_wp2_with fail
            go_roundw
            case rel => exact ⟨k2 + 1, by omega, by go_num, HB8.out⟩
            case measure => simp [intOf]; omega
        · obtain rfl : k2 = k := by omega
          have HT8 := Lib.hid (HT7.out.stay hbw2)
          have HSC8 := Lib.hid (HSC7.out.stay hbw2)
          have HB8 := Lib.hid (HB7.out.trans (hbw2.mono HB7.out.size))
          clear hbw2 HBW2 HCN7 HCB7 HSC7 HT7
          go_wp2_with fail
          refine (get_any _ _ q n _ mv7 av HSC8.out HT8.out HF7.out (by unfold maxLen; omega)).mono ?_
          rintro e w9 ⟨rfl, hb9⟩
          have HB9 := Lib.hid (HB8.out.trans (hb9.mono HB8.out.size))
          have HSC9 := Lib.hid (HSC8.out.stay hb9)
          clear hb9
          cases hnn : nameL (bs n)
          · go_wp2_with fail
            go_ret
            exact ⟨rfl, HB9.out⟩
          · have hv9 : val (setS ⟨ofVs vs, args, st, la⟩ n v) n = some v := by rw [val_name _ _ hnn, setS, if_pos hnn]; simp [get_set]
            rw [hv9]
            have hl9 : (setS ⟨ofVs vs, args, st, la⟩ n v).vs.length ≤ k2 + 1 := by rw [setS, if_pos hnn]; have := set_length (ofVs vs) n v; have := HNN.out; simp only; omega
            have t2 : (v.toList == v.toList) = true := by simp
            go_wp2_with fail
            refine (names_any _ _ q _ mv7 av HSC9.out HF7.out.srt (by have := HF7.out.nvs; omega)).mono ?_
            rintro e w10 ⟨a10, n10, c10, rfl, hr10, hb10⟩
            obtain ⟨a11, n11, c11, he11, hn11⟩ := hr10.len
            injection he11 with g1 g2 g3
            have hle : n10 ≤ k2 + 1 := by rw [g2, hn11, List.length_map]; exact hl9
            have HB10 := Lib.hid (HB9.out.trans (hb10.mono HB9.out.size))
            clear g1 g2 g3 hn11 hr10 hb10 hl9
            have hle2 : ((n10 : Int) ≤ (k2 : Int) + 1) := by omega
            go_wp2_with fail
            go_ret
            exact ⟨rfl, HB10.out⟩
end Vr
end Go.Proofs.YtpphoaidnpkgpaaDoor
