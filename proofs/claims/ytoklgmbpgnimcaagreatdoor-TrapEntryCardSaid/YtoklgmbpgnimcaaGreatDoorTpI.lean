/- parse.Action; Set. -/
/- Lines, of the chapter's example. -/
/- trapAlive. -/
/- TrapEntry's walk. -/
import Derived.Test.YtoklgmbpgnimcaaGreatDoorTpE
import Derived.Test.YtoklgmbpgnimcaaGreatDoorPsPb
import Derived.Test.YtoklgmbpgnimcaaGreatDoorWrA
namespace Go.Proofs.YtoklgmbpgnimcaaGreatDoor
open Go.RowKit
namespace Tp
open Sig

theorem nat_beq0 (n : Nat) : ((n : Int) == 0) = (n == 0) := by
  cases n with
  | zero => rfl
  | succ n => rw [show (n + 1 == 0) = false from rfl]; exact beq_eq_false_iff_ne.2 (by omega)
theorem results_row_tmp {P : Program} {fn : Func} {p u : Tmp} {ty : TypeId} (h : fn.results = #[.cell p ty, .tmp u]) (tmps : Array Value) (w : World) (g : Nat) (t : TypeId) (cs : Array Value) (fr : Nat × Nat) (d : TypeDesc)
    (hp : tmps.getD p undef = .pointer (some ⟨g, 0, none⟩)) (hg : w.heap[g]? = some (.cells cs t fr))
    (hu : P.underlying ty = some d) (hd : (match d with | .struct _ | .array _ _ => true | _ => false) = true) (hi : (P.info? ty).map (·.size) = some cs.size) :
    (results fn tmps).run P w = .ok (.tuple #[.agg cs, tmps.getD u undef]) w := by
  have hp' : tmps[p]?.getD undef = .pointer (some ⟨g, 0, none⟩) := by simpa using hp
  simp [results, h, hp', asAddr, run_loadVar_row w g t ty cs fr d hg hu hd hi]
theorem toList_ne {x : ByteArray} (h : ¬ x.size = 0) : (x.toList == []) = false := by
  rw [beq_eq_false_iff_ne]
  intro e
  apply h
  have : x.data.toList = [] := (Lib.toList_data x).symm.trans e
  have h2 : x.data.toList.length = 0 := by rw [this]; rfl
  simpa using h2
/-- Is it a program? -/
def okB (r : Ps.Rs Ps.ND) : Bool := match r with
  | .ok _ _ => true
  | .bad _ er => er == 0
def PaPost (s : ByteArray) (w : World) (e : Ending) (w' : World) : Prop := (∃ nk nm g a1 a2 a3 a4 a5 l1 c1 l2 c2 l3 c3 l4 c4 l5 c5, e = .returned (.tuple #[.agg #[.int .i64 nk, .string nm, .bool g, .slice a1 l1 c1, .slice a2 l2 c2, .slice a3 l3 c3, .slice a4 l4 c4, .slice a5 l5 c5], .bool (okB (Ps.parseF s))])) ∧ Below w.heap.size w w'
theorem parse_got {s : ByteArray} {w : World} {e : Ending} {w' : World} (h : Ps.GotPa w (Ps.parseF s) e w') : ∃ nk nm g a1 a2 a3 a4 a5 l1 c1 l2 c2 l3 c3 l4 c4 l5 c5, ∃ i er : Nat, e = .returned (.tuple #[.agg #[.int .i64 nk, .string nm, .bool g, .slice a1 l1 c1, .slice a2 l2 c2, .slice a3 l3 c3, .slice a4 l4 c4, .slice a5 l5 c5], .int .i64 i, .int .i64 er]) ∧ (er == 0) = okB (Ps.parseF s) ∧ Below w.heap.size w w' := by
  unfold Ps.GotPa at h
  obtain ⟨hb, h⟩ := h
  cases hr : Ps.parseF s with
  | ok x q =>
    rw [hr] at h
    obtain ⟨a1, c1, a2, c2, a3, c3, a4, c4, a5, c5, rfl, _⟩ := h
    exact ⟨x.k, x.nm, x.g, a1, a2, a3, a4, a5, _, c1, _, c2, _, c3, _, c4, _, c5, 0, 0, rfl, rfl, hb⟩
  | bad i er =>
    rw [hr] at h
    obtain rfl := h
    exact ⟨0, ⟨#[]⟩, false, none, none, none, none, none, 0, 0, 0, 0, 0, 0, 0, 0, 0, 0, i, er, rfl, rfl, hb⟩
set_option maxHeartbeats 800000 in
set_option maxRecDepth 100000 in
theorem paction_any (s : ByteArray) (hs : s.size ≤ 400000) (m : Int) (w : World) (hm : w.cell? ⟨1, 0, none⟩ = some (.int .i64 m)) :
    Calls Tryz.prog 23 #[.string s] w (PaPost s w) := by
  have hb0 := al1 w (.cells #[.int .i64 0, .string ⟨#[]⟩, .bool false, .slice none 0 0, .slice none 0 0, .slice none 0 0, .slice none 0 0, .slice none 0 0] 42)
  have hP := Ps.parse_any s hs m (w.alloc (.cells #[.int .i64 0, .string ⟨#[]⟩, .bool false, .slice none 0 0, .slice none 0 0, .slice none 0 0, .slice none 0 0, .slice none 0 0] 42)) ((World.cell?_of_block (hb0.block _ (World.block_lt_of_cell? _ _ hm))).trans hm)
  have HP := Lib.hid hP; have HB := Lib.hid hb0
  clear hP hb0 hm
  go_enter Tryz.func23, Tryz.ntmps23
  go_wp2_with fail
  refine HP.out.mono ?_
  intro e w1 hg
  obtain ⟨nk, nm, g, a1, a2, a3, a4, a5, l1, c1, l2, c2, l3, c3, l4, c4, l5, c5, i, er, rfl, hok, hb1⟩ := parse_got hg
  have hN : w1.heap[w.heap.size]? = some (.cells #[.int .i64 0, .string ⟨#[]⟩, .bool false, .slice none 0 0, .slice none 0 0, .slice none 0 0, .slice none 0 0, .slice none 0 0] 42 (0, 0)) := (hb1.block _ (by simp)).trans (heap_alloc_new w _)
  have hbw : Below w.heap.size w w1 := HB.out.trans (hb1.mono (by simp))
  have k0 := zc0 hN
  have k1 := zc1 hN
  have k2 := zc2 hN
  have k3 := zc3 hN
  have k4 := zc4 hN
  have k5 := zc5 hN
  have k6 := zc6 hN
  have k7 := zc7 hN
  have f0 := zf 0 hN
  have f1 := zf 1 hN
  have f2 := zf 2 hN
  have f3 := zf 3 hN
  have f4 := zf 4 hN
  have f5 := zf 5 hN
  have f6 := zf 6 hN
  have f7 := zf 7 hN
  have hst := put8 hN (.int .i64 nk) (.string nm) (.bool g) (.slice a1 l1 c1) (.slice a2 l2 c2) (.slice a3 l3 c3) (.slice a4 l4 c4) (.slice a5 l5 c5)
  have hfr := Fr.set8 w1 w.heap.size (.int .i64 nk) (.string nm) (.bool g) (.slice a1 l1 c1) (.slice a2 l2 c2) (.slice a3 l3 c3) (.slice a4 l4 c4) (.slice a5 l5 c5)
  have hst2 := put8 hst (.int .i64 nk) (.string nm) (.bool g) (.slice a1 l1 c1) (.slice a2 l2 c2) (.slice a3 l3 c3) (.slice a4 l4 c4) (.slice a5 l5 c5)
  have hfr2 := hfr.trans (Fr.set8 _ w.heap.size (.int .i64 nk) (.string nm) (.bool g) (.slice a1 l1 c1) (.slice a2 l2 c2) (.slice a3 l3 c3) (.slice a4 l4 c4) (.slice a5 l5 c5))
  have HST := Lib.hid (And.intro hst2 hfr2); have HBW := Lib.hid hbw; have HOK := Lib.hid hok
  clear hg HP hst hfr hst2 hfr2 hN hbw hb1 hok
  go_wp2_with fail
  obtain ⟨hst, hfr⟩ := HST.out
  refine bodyPost_ret (results_row_tmp rfl _ _ w.heap.size _ _ _ _ rfl hst Tryz.underlying42 rfl (by kernel_rfl)) rfl ⟨⟨nk, nm, g, a1, a2, a3, a4, a5, l1, c1, l2, c2, l3, c3, l4, c4, l5, c5, ?_⟩, hfr.below HBW.out (Nat.le_refl _) HBW.out.size⟩
  rw [← HOK.out, ← nat_beq0]
  rfl
def setCode (t : TT) (s : Int) (x : ByteArray) : Int := if freeC s then if okB (Ps.parseF x) then 0 else 1 else 3
def TT.set (t : TT) (s : Int) (x : ByteArray) : TT := if freeC s && okB (Ps.parseF x) then t.putIf s.toNat (if x.size = 0 then 1 else 2) x else t
def SetPost (t : TT) (H : Nat) (s : Int) (x : ByteArray) (w : World) (e : Ending) (w' : World) : Prop := e = .returned (.int .i64 (setCode t s x)) ∧ (∃ C', Tb w' H (t.set s x) C') ∧ Fr H w w'
set_option maxHeartbeats 1600000 in
set_option maxRecDepth 100000 in
theorem set_any {w : World} {H : Nat} {t : TT} {C : Array Value} (T : Tb w H t C) (s : Int) (x : ByteArray) (hx : x.size ≤ 400000) (m : Int) (hm : w.cell? ⟨1, 0, none⟩ = some (.int .i64 m)) :
    Calls Tryz.prog 10 #[.pointer (some ⟨H, 0, none⟩), .int .i64 s, .string x] w (SetPost t H s x w) := by
  have HP := Lib.hid fun w' (hb : Below w.heap.size w w') => paction_any x hx m w' ((World.cell?_of_block (hb.block _ (World.block_lt_of_cell? _ _ hm))).trans hm)
  have HT := Lib.hid T
  clear hm T
  cases hf : freeC s
  · have hc := cfree_any s
    rw [hf] at hc
    have HC := Lib.hid hc; have HFR := Lib.hid hf
    clear hc hf
    go_enter Tryz.func10, Tryz.ntmps10
    go_wp2_with (go_at_call 21; refine (HC.out _).mono ?_; rintro e w' ⟨rfl, rfl⟩)
    go_ret
    refine ⟨by rw [setCode, HFR.out]; rfl, ⟨C, ?_⟩, Fr.refl _ _⟩
    rw [TT.set, HFR.out]
    exact HT.out
  · have hc := cfree_any s
    rw [hf] at hc
    have HC := Lib.hid hc; have HFR := Lib.hid hf
    obtain ⟨k, rfl, hk, _⟩ := free_iff hf
    clear hc hf
    go_enter Tryz.func10, Tryz.ntmps10
    go_wp2_with (go_at_call 21; refine (HC.out _).mono ?_; rintro e w' ⟨rfl, rfl⟩)
    refine (HP.out w (Below.refl _ _)).mono ?_
    rintro e w1 ⟨⟨nk, nm, g, a1, a2, a3, a4, a5, l1, c1, l2, c2, l3, c3, l4, c4, l5, c5, rfl⟩, hb1⟩
    have HB := Lib.hid hb1
    cases ho : okB (Ps.parseF x)
    · have HO := Lib.hid ho
      clear hb1 ho
      go_wp2_with fail
      go_ret
      have hb2 := HB.out.trans ((al1 w1 (.cells #[.int .i64 nk, .string nm, .bool g, .slice a1 l1 c1, .slice a2 l2 c2, .slice a3 l3 c3, .slice a4 l4 c4, .slice a5 l5 c5] 42)).mono HB.out.size)
      refine ⟨by rw [setCode, HFR.out, HO.out]; rfl, ⟨C, ?_⟩, Fr.of_below hb2⟩
      rw [TT.set, HFR.out, HO.out]
      exact HT.out.below hb2
    · have T2 := (HT.out.below hb1).below (al1 w1 (.cells #[.int .i64 nk, .string nm, .bool g, .slice a1 l1 c1, .slice a2 l2 c2, .slice a3 l3 c3, .slice a4 l4 c4, .slice a5 l5 c5] 42))
      have hb2 := hb1.trans ((al1 w1 (.cells #[.int .i64 nk, .string nm, .bool g, .slice a1 l1 c1, .slice a2 l2 c2, .slice a3 l3 c3, .slice a4 l4 c4, .slice a5 l5 c5] 42)).mono hb1.size)
      have HT2 := Lib.hid T2; have HO := Lib.hid ho; have HB2 := Lib.hid hb2
      clear hb1 T2 hb2
      by_cases he : x.size = 0
      · obtain rfl : x = ⟨#[]⟩ := by
          rcases x with ⟨⟨l⟩⟩
          have : l = [] := List.length_eq_zero_iff.1 he
          rw [this]
        have HPU := Lib.hid (put_any HT2.out k hk 1 (by decide) ⟨#[]⟩ 0 ⟨#[]⟩ false none none none none none 0 0 0 0 0 0 0 0 0 0)
        clear ho he
        go_wp2_with fail
        refine HPU.out.mono ?_
        rintro e w2 ⟨rfl, ⟨C2, hT2⟩, hF2⟩
        go_wp2_with fail
        go_ret
        refine ⟨by rw [setCode, HFR.out, HO.out]; rfl, ⟨C2, ?_⟩, (Fr.of_below HB2.out).trans hF2⟩
        rw [TT.set, HFR.out, HO.out]
        simp only [Bool.and_self, if_true, Int.toNat_natCast]
        exact hT2
      · have HPU := Lib.hid (put_any HT2.out k hk 2 (by decide) x nk nm g a1 a2 a3 a4 a5 l1 c1 l2 c2 l3 c3 l4 c4 l5 c5)
        have HE := Lib.hid he
        have he1 : (x.toList == []) = false := toList_ne he
        clear ho he
        go_wp2_with fail
        refine HPU.out.mono ?_
        rintro e w2 ⟨rfl, ⟨C2, hT2⟩, hF2⟩
        go_wp2_with fail
        go_ret
        refine ⟨by rw [setCode, HFR.out, HO.out]; rfl, ⟨C2, ?_⟩, (Fr.of_below HB2.out).trans hF2⟩
        rw [TT.set, HFR.out, HO.out]
        simp only [Bool.and_self, if_true, Int.toNat_natCast]
        rw [if_neg HE.out]
        exact hT2
end Tp
end Go.Proofs.YtoklgmbpgnimcaaGreatDoor

namespace Go.Proofs.YtoklgmbpgnimcaaGreatDoor
open Go.RowKit
namespace Tp
open Sig

/-- What the listed variables hold. -/
structure Gl (w : World) : Prop where
  names : ∀ k, k < 32 → w.cell? ⟨0, k, none⟩ = some (.string (nmB k))
  len : ∃ m, w.cell? ⟨1, 0, none⟩ = some (.int .i64 m)
theorem cell_stays {w w' : World} {p : Addr} {v : Value} (hb : Below w.heap.size w w') (h : w.cell? p = some v) : w'.cell? p = some v :=
  (World.cell?_of_block (hb.block _ (World.block_lt_of_cell? _ _ h))).trans h
theorem Gl.below {w w' : World} (G : Gl w) (hb : Below w.heap.size w w') : Gl w' := ⟨fun k hk => cell_stays hb (G.names k hk), G.len.imp fun _ h => cell_stays hb h⟩
set_option maxHeartbeats 400000 in
theorem name_yes (s : Nat) (h1 : 1 ≤ s) (h2 : s ≤ 31) (w : World) (t : ByteArray) (hc : w.cell? ⟨0, s, none⟩ = some (.string t)) :
    Calls Tryz.prog 34 #[.int .i64 s] w fun e w' => e = .returned (.string t) ∧ w = w' := by
  go_enter Tryz.func34, Tryz.ntmps34
  go_wp2_with (go_at_call 31; refine (is_yes _ (by omega) (by omega) _).mono ?_; rintro e w' ⟨rfl, rfl⟩)
  go_ret
  exact ⟨rfl, rfl⟩
set_option maxHeartbeats 400000 in
theorem tname_any {w : World} (G : Gl w) (k : Nat) (hk : k < 32) :
    Calls Tryz.prog 27 #[.int .i64 k] w fun e w' => e = .returned (.string (if k = 0 then ⟨#[69, 88, 73, 84]⟩ else nmB k)) ∧ w = w' := by
  by_cases h0 : k = 0
  · subst h0
    rw [if_pos rfl]
    go_enter Tryz.func27, Tryz.ntmps27
    go_wp2_with fail
    go_ret
    exact ⟨rfl, rfl⟩
  · rw [if_neg h0]
    have HS := Lib.hid (name_yes k (by omega) (by omega) w _ (G.names k hk))
    have hk0 : ¬ (k : Int) = 0 := by omega
    have hkb : ((k : Int) == 0) = false := beq_eq_false_iff_ne.2 hk0
    clear G
    go_enter Tryz.func27, Tryz.ntmps27
    go_wp2_with (go_at_call 34; refine HS.out.mono ?_; rintro e w' ⟨rfl, rfl⟩)
    go_ret
    exact ⟨rfl, rfl⟩
set_option maxHeartbeats 1000000 in
set_option maxRecDepth 100000 in
open Bd Pt in
theorem quoteTop_any (s : ByteArray) (m : Int) (w : World) (hm : w.cell? ⟨1, 0, none⟩ = some (.int .i64 m)) (hs : s.size ≤ 100000) :
    Calls Tryz.prog 26 #[.string s] w fun e w' => e = .returned (.string ⟨(quoteL s.data.toList).toArray⟩) ∧ Below w.heap.size w w' := by
  have hm0 : 1 < w.heap.size := World.block_lt_of_cell? _ _ hm
  have hQ := quote_any w.heap.size [] s m (w.alloc (.cells #[.pointer none, .slice none 0 0] 74)) (Lib.IsBuilderF.of (Lib.fresh_isBuilder 74 5 w)) (((al1 w _).cell (p := ⟨1, 0, none⟩) hm0).trans hm) hm0 hs (by simp only [List.length_nil]; omega)
  rw [List.nil_append] at hQ
  have HQ := Lib.hid hQ
  clear hQ hm
  go_enter Tryz.func26, Tryz.ntmps26
  go_wp2_with (go_at_call 32; refine (HQ.out).mono ?_; rintro e w2 ⟨rfl, h1, h2⟩)
  have HS := Lib.hid (string_any _ _ _ h1 (by simp [quoteL]))
  have H2 := Lib.hid h2
  clear h1 h2
  go_wp2_with (go_at_call 33; refine (HS.out).mono ?_; rintro e w3 ⟨rfl, hb3⟩)
  go_ret
  exact ⟨rfl, (al1 w _).trans (H2.out.1.trans hb3)⟩
theorem infoStr : (Tryz.prog.info? 9).map (fun i => (i.zero, i.size, i.bytes)) = some (some (.string ⟨#[]⟩), 1, 16) := by kernel_rfl
set_option maxHeartbeats 1600000 in
set_option maxRecDepth 100000 in
theorem lines_alive {w : World} {H : Nat} {t : TT} {C : Array Value} (T : Tb w H t C) (G : Gl w) (ho : ∀ k, k < 32 → k ≠ 2 → t.h k = 0) (h2 : t.h 2 = 2) (hE : hasB t.E (2 : Nat) = false) (hx : t.x 2 = ⟨#[101, 99, 104, 111, 32, 97, 32, 98]⟩) :
    Calls Tryz.prog 14 #[.pointer (some ⟨H, 0, none⟩)] w fun e w' => (∃ b cap, e = .returned (.slice (some ⟨b, 0, none⟩) 1 cap) ∧ w'.cell? ⟨b, 0, none⟩ = some (.string ⟨#[116, 114, 97, 112, 32, 45, 45, 32, 39, 101, 99, 104, 111, 32, 97, 32, 98, 39, 32, 73, 78, 84, 10]⟩)) ∧ Below w.heap.size w w' := by
  obtain ⟨cs, hcl, hcs, hR⟩ := T.hows
  have hi : (Tryz.prog.info? 50).map (·.size) = some cs.length := by rw [hcl]; kernel_rfl
  have HT := Lib.hid T; have HR := Lib.hid hR; have HI := Lib.hid hi; have HCS := Lib.hid hcs; have HO := Lib.hid ho; have HG := Lib.hid G
  clear T G hR hi hcs ho
  go_enter Tryz.func14, Tryz.ntmps14
  go_wp2_with (refine wpList_load_mid rfl 50 _ rfl H 1 rfl cs _ HR.out Tryz.underlying50 rfl HI.out ?_)
  go_loopw [3, 10] (fun l i wr => ∃ k : Nat, k ≤ 32 ∧ i = .int .i64 k ∧ Below w.heap.size w wr ∧ (k ≤ 2 → l = .slice none 0 0) ∧ (2 < k → ∃ b cap, l = .slice (some ⟨b, 0, none⟩) 1 cap ∧ wr.cell? ⟨b, 0, none⟩ = some (.string ⟨#[116, 114, 97, 112, 32, 45, 45, 32, 39, 101, 99, 104, 111, 32, 97, 32, 98, 39, 32, 73, 78, 84, 10]⟩))) (fun _ i _ => 32 - (intOf i).toNat)
  case atStart => exact ⟨0, by omega, rfl, Below.refl _ _, fun _ => rfl, fun h => by omega⟩
  case round =>
    obtain ⟨k, hk, rfl, hb, hl1, hl2⟩ := hrel
    have hT := HT.out.below hb
    have HB := Lib.hid hb; have HT2 := Lib.hid hT
    clear hb
    by_cases hlt : k < 32
    · have hki : (k : Int) < 32 := by omega
      by_cases h2k : k = 2
      · subst h2k
        obtain rfl := hl1 (by omega)
        have hidx : (Instr.index 50 (.agg cs.toArray) (.int .i64 2)).run Tryz.prog wr = .ok (.int .i64 2) wr := by
          have := idx hlt (HCS.out 2 hlt) wr
          rw [h2] at this
          exact this
        obtain ⟨nk, nm, g, a1, l1, c1, a2, l2, c2, a3, l3, c3, a4, l4, c4, a5, l5, c5, q0, _⟩ := hT.act 2 hlt
        have c0 := cell_row hT.row hT.ent
        have p0 : wr.cell? ⟨H, 51, none⟩ = some (.string ⟨#[101, 99, 104, 111, 32, 97, 32, 98]⟩) := by
          have := cell_row hT.row q0
          rw [hx] at this
          exact this
        have hHas := has_any t.E (2 : Nat) hT.lt wr
        rw [hE] at hHas
        have HHAS := Lib.hid hHas
        obtain ⟨m, hm⟩ := (HG.out.below HB.out).len
        have hq := quoteTop_any ⟨#[101, 99, 104, 111, 32, 97, 32, 98]⟩ m wr hm (by decide)
        rw [show Bd.quoteL (⟨#[101, 99, 104, 111, 32, 97, 32, 98]⟩ : ByteArray).data.toList = [39, 101, 99, 104, 111, 32, 97, 32, 98, 39] by kernel_rfl] at hq
        have HQ := Lib.hid hq
        have hnm : ∀ w', Below wr.heap.size wr w' → Calls Tryz.prog 27 #[.int .i64 2] w' fun e w2 => e = .returned (.string ⟨#[73, 78, 84]⟩) ∧ w' = w2 := fun w' hb' => tname_any ((HG.out.below HB.out).below hb') 2 hlt
        have HNM := Lib.hid hnm
        clear hT hl1 hl2 hHas q0 hm hq hnm
        go_wp2_with (go_at_call 25; refine HHAS.out.mono ?_; rintro e w' ⟨rfl, rfl⟩)
        refine HQ.out.mono ?_
        rintro e w1 ⟨rfl, hb1⟩
        have HB1 := Lib.hid hb1
        have HN1 := Lib.hid (HNM.out w1 hb1)
        clear hb1
        go_wp2_with fail
        refine HN1.out.mono ?_
        rintro e w' ⟨rfl, rfl⟩
        obtain ⟨i0, hi0, hz0, hz1, hz2⟩ := info_parts infoStr
        go_wp2_with (at_builtin; refine wpList_append_own _ rfl _ _ 48 rfl 0 9 i0 (.string ⟨#[]⟩) 1 16 Tryz.underlying48 hi0 hz0 hz1 hz2 rfl (by decide) _ _ _ rfl (World.ownsRow_nil _ _ _ _) ⟨_, 0, none⟩ 1 1 [.string ⟨#[116, 114, 97, 112, 32, 45, 45, 32, 39, 101, 99, 104, 111, 32, 97, 32, 98, 39, 32, 73, 78, 84, 10]⟩] rfl rfl ?c1 ?c2 ?c3 ?c4 ?c5 ?_)
        case c1 =>
          have hcat : ((⟨#[116, 114, 97, 112, 32, 45, 45, 32]⟩ ++ ⟨#[39, 101, 99, 104, 111, 32, 97, 32, 98, 39]⟩ ++ ⟨#[32]⟩ ++ ⟨#[73, 78, 84]⟩ ++ ⟨#[10]⟩ : ByteArray)) = ⟨#[116, 114, 97, 112, 32, 45, 45, 32, 39, 101, 99, 104, 111, 32, 97, 32, 98, 39, 32, 73, 78, 84, 10]⟩ := by kernel_rfl
          rw [hcat]
          intro j u hj
          match j, hj with
          | 0, hj =>
            simp only [List.getElem?_cons_zero, Option.some.injEq] at hj
            subst hj
            exact cell_row (heap_alloc_new w1 _) rfl
        case c2 => intro u hu; simp only [List.mem_singleton] at hu; subst hu; rfl
        case c3 => unfold maxLen; omega
        case c4 => omega
        case c5 => omega
        intro v' w2 hown' hgrow _
        have H1 := Lib.hid hown'; have HGR := Lib.hid hgrow
        clear hown' hgrow
        go_wp2_with fail
        go_roundw
        case rel =>
          have hb1 : Below w.heap.size w w1 := HB.out.trans (HB1.out.mono HB.out.size)
          refine ⟨3, by omega, rfl, (hb1.alloc hb1.size _).grown HGR.out (by have := hb1.size; simp; omega) (fun j hj => by cases hj), fun h => by omega, fun _ => ?_⟩
          rcases H1.out.2 with ⟨_, h0⟩ | ⟨b, cap, cur, rfl, _⟩
          · simp at h0
          · exact ⟨b, cap, rfl, H1.out.cellAt 0 (by simp)⟩
        case measure => simp [intOf]
      · have h0 := HO.out k hlt h2k
        have hidx := idx hlt (HCS.out k hlt) wr
        rw [h0] at hidx
        have HL1 := Lib.hid hl1; have HL2 := Lib.hid hl2
        clear hT hl1 hl2 h0
        go_wp2_with fail
        go_roundw
        case rel => exact ⟨k + 1, by omega, by go_num, HB.out, fun h => HL1.out (by omega), fun h => HL2.out (by omega)⟩
        case measure => simp [intOf]; omega
    · obtain rfl : k = 32 := by omega
      obtain ⟨b, cap, rfl, hcell⟩ := hl2 (by omega)
      go_wp2_with fail
      go_ret
      exact ⟨⟨b, cap, rfl, hcell⟩, HB.out⟩
end Tp
end Go.Proofs.YtoklgmbpgnimcaaGreatDoor

namespace Go.Proofs.YtoklgmbpgnimcaaGreatDoor
open Go.RowKit
namespace Tp
open Sig

def echo : ByteArray := ⟨#[101, 99, 104, 111, 32, 97, 32, 98]⟩
theorem echo_ok : okB (Ps.parseF echo) = true := by kernel_rfl
set_option maxHeartbeats 1600000 in
set_option maxRecDepth 100000 in
theorem alive_any {w : World} (G : Gl w) :
    Calls Tryz.prog 4 #[] w fun e w' => e = .returned (.bool true) ∧ Below w.heap.size w w' := by
  have HN := Lib.hid (new_any 0 (by decide) w)
  have HG := Lib.hid G
  clear G
  go_enter Tryz.func4, Tryz.ntmps4
  go_wp2_with fail
  refine HN.out.mono ?_
  rintro e w1 ⟨H, C, rfl, hT, hH, hb⟩
  obtain ⟨m, hm⟩ := (HG.out.below hb).len
  have hs := set_any hT 2 echo (by decide) m hm
  have hc := newT_clean 0
  have hE : ∀ s, hasB (newT 0).E s = false := fun s => by rw [newT_has, hasB_zero]; rfl
  have ht : (newT 0).set 2 echo = (newT 0).put 2 2 echo := by
    unfold TT.set TT.putIf
    rw [echo_ok, show freeC 2 = true from rfl, show (2 : Int).toNat = 2 from rfl, hE]
    rfl
  have h0 : ∀ i : Nat, i < 32 → (newT 0).h i = 0 := fun i hi => by rw [hc.1 i hi, hE]; rfl
  obtain ⟨t2, ht2⟩ : ∃ t2, t2 = (newT 0).put 2 2 echo := ⟨_, rfl⟩
  have e2 : ∀ k, k < 32 → k ≠ 2 → t2.h k = 0 := fun k hk hn => by rw [ht2]; show (if k = 2 then 2 else (newT 0).h k) = 0; rw [if_neg hn, h0 k hk]
  have e3 : t2.h 2 = 2 := by rw [ht2]; rfl
  have e4 : hasB t2.E (2 : Nat) = false := by rw [ht2]; exact hE 2
  have e5 : t2.x 2 = echo := by rw [ht2]; rfl
  have hcode : setCode (newT 0) 2 echo = 0 := by unfold setCode; rw [echo_ok]; rfl
  have HS := Lib.hid hs; have HB := Lib.hid hb; have HE2 := Lib.hid (And.intro e2 (And.intro e3 (And.intro e4 e5))); have HT2 := Lib.hid (ht.trans ht2.symm); have HC := Lib.hid hcode; have HH := Lib.hid hH
  clear hs hb e2 e3 e4 e5 ht ht2 hcode hc hE h0 hT hm hH HN
  go_wp2_with fail
  refine HS.out.mono ?_
  rintro e w2 ⟨rfl, ⟨C2, hT2⟩, hF⟩
  rw [HT2.out] at hT2
  rw [HC.out]
  obtain ⟨e2, e3, e4, e5⟩ := HE2.out
  have hb2 := hF.below HB.out HH.out HB.out.size
  have hl := lines_alive hT2 (HG.out.below hb2) e2 e3 e4 e5
  have HL := Lib.hid hl; have HB2 := Lib.hid hb2
  clear hl e2 e3 e4 e5 hT2 hF hb2 HS HE2
  go_wp2_with fail
  refine HL.out.mono ?_
  rintro e w3 ⟨⟨b, cap, rfl, hcell⟩, hb3⟩
  have HB3 := Lib.hid hb3
  clear hb3 HL
  go_wp2_with fail
  go_ret
  exact ⟨rfl, HB2.out.trans (HB3.out.mono HB2.out.size)⟩

/-- What holds of a table at any time: what was ignored on entry is, and has no text; what can't be caught has nothing. -/
structure Inv (x : Nat) (t : TT) : Prop where
  has : ∀ s, hasB t.E s = (hasB x s && !fixedB s)
  safe : ∀ i : Nat, i < 32 → hasB t.E i = true → t.h i = 1 ∧ t.x i = ⟨#[]⟩
  nine : t.h 9 = 0
  stop : t.h 19 = 0
theorem Inv.start (x : Nat) : Inv x (newT x) := by
  have hc := newT_clean x
  refine ⟨newT_has x, fun i hi h => ⟨by rw [hc.1 i hi, h]; rfl, hc.2 i⟩, ?_, ?_⟩
  · rw [hc.1 9 (by decide), newT_has, show fixedB ((9 : Nat) : Int) = true from rfl]; simp
  · rw [hc.1 19 (by decide), newT_has, show fixedB ((19 : Nat) : Int) = true from rfl]; simp
theorem Inv.putIf {x : Nat} {t : TT} (I : Inv x t) {k : Nat} (hf : fixedB k = false) (hw : Nat) (y : ByteArray) : Inv x (t.putIf k hw y) := by
  unfold TT.putIf
  cases hh : hasB t.E k
  · rw [if_neg (by decide)]
    have h9 : k ≠ 9 := fun e => by rw [e] at hf; exact Bool.noConfusion hf
    have h19 : k ≠ 19 := fun e => by rw [e] at hf; exact Bool.noConfusion hf
    refine ⟨I.has, fun i hi h => ?_, ?_, ?_⟩
    · have hne : i ≠ k := fun e => by rw [e] at h; exact Bool.noConfusion (hh.symm.trans h)
      show (if i = k then hw else t.h i) = 1 ∧ (if i = k then y else t.x i) = _
      rw [if_neg hne, if_neg hne]
      exact I.safe i hi h
    · show (if 9 = k then hw else t.h 9) = 0
      rw [if_neg (Ne.symm h9)]; exact I.nine
    · show (if 19 = k then hw else t.h 19) = 0
      rw [if_neg (Ne.symm h19)]; exact I.stop
  · rw [if_pos rfl]; exact I
theorem Inv.reset {x : Nat} {t : TT} (I : Inv x t) (s : Int) : Inv x (t.reset s) := by
  unfold TT.reset
  cases hf : freeC s
  · exact I
  · obtain ⟨k, rfl, _, h⟩ := free_iff hf
    exact I.putIf h 0 _
theorem Inv.set {x : Nat} {t : TT} (I : Inv x t) (s : Int) (y : ByteArray) : Inv x (t.set s y) := by
  unfold TT.set
  cases hf : freeC s
  · exact I
  · obtain ⟨k, rfl, _, h⟩ := free_iff hf
    cases okB (Ps.parseF y)
    · exact I
    · exact I.putIf h _ _
theorem more_fold (t c : TT) : ∀ n, (((List.range n).foldl t.more c).E = c.E ∧ ((List.range n).foldl t.more c).x = c.x) ∧ ∀ i, ((List.range n).foldl t.more c).h i = if i < n ∧ i ≠ 0 ∧ t.h i = 1 then 1 else c.h i
  | 0 => ⟨⟨rfl, rfl⟩, fun i => by simp⟩
  | n + 1 => by
    obtain ⟨⟨h1, h2⟩, h3⟩ := more_fold t c n
    rw [List.range_succ, List.foldl_append, List.foldl_cons, List.foldl_nil]
    generalize (List.range n).foldl t.more c = y at h1 h2 h3
    unfold TT.more
    by_cases e : n ≠ 0 ∧ t.h n = 1
    · rw [if_pos e]
      refine ⟨⟨h1, h2⟩, fun i => ?_⟩
      show (if i = n then 1 else y.h i) = _
      by_cases hi : i = n
      · subst hi
        rw [if_pos rfl, if_pos ⟨by omega, e⟩]
      · rw [if_neg hi, h3 i]
        have : (i < n ∧ i ≠ 0 ∧ t.h i = 1) ↔ (i < n + 1 ∧ i ≠ 0 ∧ t.h i = 1) := ⟨fun h => ⟨by omega, h.2⟩, fun h => ⟨by omega, h.2⟩⟩
        simp only [this]
    · rw [if_neg e]
      refine ⟨⟨h1, h2⟩, fun i => ?_⟩
      rw [h3 i]
      have : (i < n ∧ i ≠ 0 ∧ t.h i = 1) ↔ (i < n + 1 ∧ i ≠ 0 ∧ t.h i = 1) := ⟨fun h => ⟨by omega, h.2⟩, fun h => ⟨by
        rcases Nat.lt_or_ge i n with hl | hl
        · exact hl
        · exfalso
          have : i = n := by omega
          subst this
          exact e h.2, h.2⟩⟩
      simp only [this]
theorem Inv.child {x : Nat} {t : TT} (I : Inv x t) : Inv x t.child := by
  obtain ⟨⟨h1, h2⟩, h3⟩ := more_fold t (newT t.E) 32
  have hc := newT_clean t.E
  have hE : ∀ s, hasB t.child.E s = (hasB x s && !fixedB s) := fun s => by
    show hasB ((List.range 32).foldl t.more (newT t.E)).E s = _
    rw [h1, newT_has, I.has]
    cases hasB x s <;> cases fixedB s <;> rfl
  refine ⟨hE, fun i hi h => ⟨?_, ?_⟩, ?_, ?_⟩
  · show ((List.range 32).foldl t.more (newT t.E)).h i = 1
    rw [h3 i]
    split
    · rfl
    · have h' : hasB (newT t.E).E i = true := by
        have : hasB ((List.range 32).foldl t.more (newT t.E)).E i = true := h
        rwa [h1] at this
      rw [hc.1 i hi, h']; rfl
  · show ((List.range 32).foldl t.more (newT t.E)).x i = _
    rw [h2]; exact hc.2 i
  · show ((List.range 32).foldl t.more (newT t.E)).h 9 = 0
    rw [h3 9, if_neg (by rw [I.nine]; omega), hc.1 9 (by decide), newT_has, show fixedB ((9 : Nat) : Int) = true from rfl]; simp
  · show ((List.range 32).foldl t.more (newT t.E)).h 19 = 0
    rw [h3 19, if_neg (by rw [I.stop]; omega), hc.1 19 (by decide), newT_has, show fixedB ((19 : Nat) : Int) = true from rfl]; simp
/-- What How and Action's text are of a signal that is ignored on entry. -/
theorem Inv.ign {x : Nat} {t : TT} (I : Inv x t) {s : Int} (h : (hasB x s && !fixedB s) = true) : (if isC s then t.h s.toNat else 0) = 1 ∧ (if isC s then t.x s.toNat else ⟨#[]⟩) = ⟨#[]⟩ := by
  rw [← I.has s] at h
  have hb : isB s = true := by unfold hasB at h; simp only [Bool.and_eq_true] at h; exact h.1
  have hr := of_decide_eq_true hb
  have hc : isC s = true := isC_iff.2 (by omega)
  obtain ⟨k, rfl⟩ : ∃ k : Nat, s = k := ⟨s.toNat, by omega⟩
  rw [if_pos hc, if_pos hc]
  exact I.safe k (by omega) h
theorem Inv.fixed {x : Nat} {t : TT} (I : Inv x t) {s : Int} (h : fixedB s = true) : (if isC s then t.h s.toNat else 0) = 0 := by
  unfold fixedB at h
  simp only [Bool.or_eq_true, beq_iff_eq] at h
  rcases h with rfl | rfl
  · exact I.nine
  · exact I.stop
end Tp
end Go.Proofs.YtoklgmbpgnimcaaGreatDoor

namespace Go.Proofs.YtoklgmbpgnimcaaGreatDoor
open Go.RowKit
namespace Tp
open Sig

structure Ac where
  kind : Int
  cond : Int
  text : ByteArray
def Acs (w : World) (a : Option Addr) (l : List Ac) : Prop := ∀ j x, l[j]? = some x → ∃ b off, a = some ⟨b, off, none⟩ ∧ b < w.heap.size ∧ w.cell? ⟨b, off + j * 3, none⟩ = some (.int .i64 x.kind) ∧ w.cell? ⟨b, off + j * 3 + 1, none⟩ = some (.int .i64 x.cond) ∧ w.cell? ⟨b, off + j * 3 + 2, none⟩ = some (.string x.text) ∧ x.text.size ≤ 140737488355328
/-- A table on its way in the law. -/
def Now (w : World) (x : Nat) (p : Value) (w' : World) : Prop := Below w.heap.size w w' ∧ ∃ H t C, p = .pointer (some ⟨H, 0, none⟩) ∧ w.heap.size ≤ H ∧ Tb w' H t C ∧ Inv x t

theorem Now.below {w w1 w2 : World} {x : Nat} {p : Value} (h : Now w x p w1) (hb : Below w1.heap.size w1 w2) : Now w x p w2 := by
  obtain ⟨h1, H, t, C, rfl, h2, h3, h4⟩ := h
  exact ⟨h1.trans (hb.mono h1.size), H, t, C, rfl, h2, h3.below hb, h4⟩
set_option maxHeartbeats 3200000 in
set_option maxRecDepth 100000 in
theorem law_ff (x : Nat) (hx : x < 4294967296) (l : List Ac) (a : Option Addr) (cap : Nat) (s : Int) (w : World) (G : Gl w) (hac : Acs w a l) (hle : l.length ≤ 30) (hh : hasB x s = false) (hf : fixedB s = false) :
    Calls Tryz.prog 3 #[.int .u32 x, .slice a l.length cap, .int .i64 s] w fun e w' => e = .returned (.bool true) ∧ Below w.heap.size w w' := by
    have HA := Lib.hid (alive_any G)
    have HG := Lib.hid G; have HAC := Lib.hid hac
    have HN := Lib.hid fun w1 : World => new_any x hx w1
    clear G hac
    have HFX := Lib.hid fun w1 : World => (show Calls Tryz.prog 7 #[.int .i64 s] w1 fun e w' => e = .returned (.bool false) ∧ Below w1.heap.size w1 w' from hf ▸ rfixed_any s w1)
    have HRH := Lib.hid fun (y : Nat) (hy : y < 4294967296) (he : hasB y s = false) (w1 : World) => (show Calls Tryz.prog 6 #[.int .u32 y, .int .i64 s] w1 fun e w' => e = .returned (.bool false) ∧ w1 = w' from he ▸ rhas_any y s hy w1)
    have HFF := Lib.hid hf; have HHH := Lib.hid hh
    clear hf hh
    go_enter Tryz.func3, Tryz.ntmps3
    go_wp2_with fail
    refine HA.out.mono ?_
    rintro e w1 ⟨rfl, hb1⟩
    have HB1 := Lib.hid hb1
    clear hb1
    go_wp2_with fail
    refine (HN.out w1).mono ?_
    rintro e w2 ⟨H, C, rfl, hT, hH, hb2⟩
    have hnow : Now w x (.pointer (some ⟨H, 0, none⟩)) w2 := ⟨HB1.out.trans (hb2.mono HB1.out.size), H, _, C, rfl, Nat.le_trans HB1.out.size hH, hT, Inv.start x⟩
    have HNOW := Lib.hid hnow
    clear hT hH hb2 hnow
    go_wp2_with (go_at_call 6; refine (HRH.out x hx HHH.out _).mono ?_; rintro e w' ⟨rfl, rfl⟩)
    go_loopw [7, 32] (fun p i wr => ∃ k : Nat, k ≤ l.length ∧ i = .int .i64 k ∧ Now w x p wr) (fun _ i _ => l.length - (intOf i).toNat)
    case atStart => exact ⟨0, Nat.zero_le _, rfl, HNOW.out⟩
    case round =>
      obtain ⟨k, hk, rfl, hb, H, t, C, rfl, hle, hT, hI⟩ := hrel
      by_cases hlt : k < l.length
      · obtain ⟨b, off, rfl, hblt, h0, h1, h2, hz⟩ := HAC.out k l[k] (by simp [hlt])
        generalize l[k] = z at h0 h1 h2 hz
        obtain ⟨kd, cd, xt⟩ := z
        dsimp only at h0 h1 h2 hz
        have q0 := (hb.cell (p := ⟨b, off + k * 3, none⟩) hblt).trans h0
        have q1 := (hb.cell (p := ⟨b, off + k * 3 + 1, none⟩) hblt).trans h1
        have q2 := (hb.cell (p := ⟨b, off + k * 3 + 2, none⟩) hblt).trans h2
        have hbx := al1 wr (.cells #[.int .i64 kd, .int .i64 cd, .string xt] 31)
        have hT1 := hT.below hbx
        have HB1 := Lib.hid (hb.trans (hbx.mono hb.size)); have HHL := Lib.hid hle
        have HN1 := Lib.hid (heap_alloc_new wr (.cells #[.int .i64 kd, .int .i64 cd, .string xt] 31))
        have HNE := Lib.hid (Nat.ne_of_gt hT.hlt)
        clear h0 h1 h2 hbx hb hle
        by_cases hsz : 300 < xt.size
        · have hsi : (300 : Int) < xt.size := by omega
          clear hT1 hT hI
          go_wp2_with fail
          go_ret
          exact ⟨rfl, HB1.out⟩
        · have hsi : ¬ (300 : Int) < xt.size := by omega
          by_cases hk1 : kd = 1
          · subst hk1
            have HR := Lib.hid (reset_any hT1 cd)
            have HI1 := Lib.hid (hI.reset cd)
            clear hT1 hT hI
            go_wp2_with fail
            refine HR.out.mono ?_
            rintro e wz ⟨he, ⟨C', T'⟩, hF⟩
            generalize (if freeC cd then (0 : Int) else 3) = rc at he
            subst he
            have I' := HI1.out
            have hz := hF.below HB1.out HHL.out HB1.out.size
            have hle' := HHL.out
            clear hF HR HI1
            generalize t.reset cd = t' at T' I'
            have HT9 := Lib.hid T'; have HI9 := Lib.hid I'; have HZ9 := Lib.hid hz; have HLE := Lib.hid hle'
            have hact := action_any T' s
            have HACT := Lib.hid hact
            clear T' I' hz hle' hact
            go_wp2_with fail
            refine HACT.out.mono ?_
            rintro e wy ⟨⟨nk, nm, g, b1, b2, b3, b4, b5, m1, d1, m2, d2, m3, d3, m4, d4, m5, d5, rfl⟩, hby⟩
            generalize (if isC s then t'.x s.toNat else ⟨#[]⟩) = tx
            have hhow := fun (w' : World) (hb' : Below wy.heap.size wy w') => how_any ((HT9.out.below hby).below hb') s
            have HHOW := Lib.hid hhow; have HBY := Lib.hid hby
            clear hhow hby HACT
            go_wp2_with (first
              | (go_at_call 7; refine (HFX.out _).mono ?_; rintro e wx ⟨rfl, hbx⟩)
              | (go_at_call 12; refine (HHOW.out _ (by first | exact Below.refl _ _ | exact al1 _ _ | exact (al1 _ _).trans (Below.mono (by assumption) (by simp)))).mono ?_; rintro e w' ⟨rfl, rfl⟩))
            go_roundw
            case rel =>
              have hbq := HBY.out.trans (((al1 wy (.cells #[.int .i64 nk, .string nm, .bool g, .slice b1 m1 d1, .slice b2 m2 d2, .slice b3 m3 d3, .slice b4 m4 d4, .slice b5 m5 d5] 42)).trans (hbx.mono (by simp))).mono HBY.out.size)
              exact ⟨k + 1, by omega, by go_num, HZ9.out.trans (hbq.mono HZ9.out.size), _, _, _, rfl, HLE.out, HT9.out.below hbq, HI9.out⟩
            case measure => simp [intOf]; omega
          · by_cases hk2 : kd = 2
            · subst hk2
              have HR := Lib.hid (child_any hT1)
              have HI1 := Lib.hid hI.child
              clear hT1 hT hI
              go_wp2_with fail
              refine HR.out.mono ?_
              rintro e wz ⟨H', C', rfl, T', hH', hbz⟩
              have I' := HI1.out
              have hz := HB1.out.trans (hbz.mono HB1.out.size)
              have hle' := Nat.le_trans HB1.out.size hH'
              clear hbz hH' HR HI1
              generalize t.child = t' at T' I'
              have HT9 := Lib.hid T'; have HI9 := Lib.hid I'; have HZ9 := Lib.hid hz; have HLE := Lib.hid hle'
              have hact := action_any T' s
              have HACT := Lib.hid hact
              clear T' I' hz hle' hact
              go_wp2_with fail
              refine HACT.out.mono ?_
              rintro e wy ⟨⟨nk, nm, g, b1, b2, b3, b4, b5, m1, d1, m2, d2, m3, d3, m4, d4, m5, d5, rfl⟩, hby⟩
              generalize (if isC s then t'.x s.toNat else ⟨#[]⟩) = tx
              have hhow := fun (w' : World) (hb' : Below wy.heap.size wy w') => how_any ((HT9.out.below hby).below hb') s
              have HHOW := Lib.hid hhow; have HBY := Lib.hid hby
              clear hhow hby HACT
              go_wp2_with (first
                | (go_at_call 7; refine (HFX.out _).mono ?_; rintro e wx ⟨rfl, hbx⟩)
                | (go_at_call 12; refine (HHOW.out _ (by first | exact Below.refl _ _ | exact al1 _ _ | exact (al1 _ _).trans (Below.mono (by assumption) (by simp)))).mono ?_; rintro e w' ⟨rfl, rfl⟩))
              go_roundw
              case rel =>
                have hbq := HBY.out.trans (((al1 wy (.cells #[.int .i64 nk, .string nm, .bool g, .slice b1 m1 d1, .slice b2 m2 d2, .slice b3 m3 d3, .slice b4 m4 d4, .slice b5 m5 d5] 42)).trans (hbx.mono (by simp))).mono HBY.out.size)
                exact ⟨k + 1, by omega, by go_num, HZ9.out.trans (hbq.mono HZ9.out.size), _, _, _, rfl, HLE.out, HT9.out.below hbq, HI9.out⟩
              case measure => simp [intOf]; omega
            · have hkb : (kd == 1) = false := beq_eq_false_iff_ne.2 hk1
              have hkc : (kd == 2) = false := beq_eq_false_iff_ne.2 hk2
              obtain ⟨m, hm⟩ := (HG.out.below HB1.out).len
              have HR := Lib.hid (set_any hT1 cd xt (by omega) m hm)
              have HI1 := Lib.hid (hI.set cd xt)
              clear hT1 hT hI hm
              go_wp2_with fail
              refine HR.out.mono ?_
              rintro e wu ⟨rfl, ⟨C0, T0⟩, hF0⟩
              have I0 := HI1.out
              have hu := hF0.below HB1.out HHL.out HB1.out.size
              have hN := (hF0.block _ (by simp) HNE.out).trans HN1.out
              have n2 := zc2 hN
              clear hF0 HR HI1
              generalize t.set cd xt = t0 at T0 I0
              obtain ⟨m2, hm2⟩ := (HG.out.below hu).len
              have HR := Lib.hid (set_any T0 s xt (by omega) m2 hm2)
              have HI1 := Lib.hid (I0.set s xt)
              have HU := Lib.hid hu
              clear T0 I0 hm2 hu hN
              go_wp2_with fail
              refine HR.out.mono ?_
              rintro e wz ⟨rfl, ⟨C', T'⟩, hF⟩
              have I' := HI1.out
              have hz := hF.below HU.out HHL.out HU.out.size
              have hle' := HHL.out
              clear hF HR HI1 n2
              generalize t0.set s xt = t' at T' I'
              have HT9 := Lib.hid T'; have HI9 := Lib.hid I'; have HZ9 := Lib.hid hz; have HLE := Lib.hid hle'
              have hact := action_any T' s
              have HACT := Lib.hid hact
              clear T' I' hz hle' hact
              go_wp2_with fail
              refine HACT.out.mono ?_
              rintro e wy ⟨⟨nk, nm, g, b1, b2, b3, b4, b5, m1, d1, m2, d2, m3, d3, m4, d4, m5, d5, rfl⟩, hby⟩
              generalize (if isC s then t'.x s.toNat else ⟨#[]⟩) = tx
              have hhow := fun (w' : World) (hb' : Below wy.heap.size wy w') => how_any ((HT9.out.below hby).below hb') s
              have HHOW := Lib.hid hhow; have HBY := Lib.hid hby
              clear hhow hby HACT
              go_wp2_with (first
                | (go_at_call 7; refine (HFX.out _).mono ?_; rintro e wx ⟨rfl, hbx⟩)
                | (go_at_call 12; refine (HHOW.out _ (by first | exact Below.refl _ _ | exact al1 _ _ | exact (al1 _ _).trans (Below.mono (by assumption) (by simp)))).mono ?_; rintro e w' ⟨rfl, rfl⟩))
              go_roundw
              case rel =>
                have hbq := HBY.out.trans (((al1 wy (.cells #[.int .i64 nk, .string nm, .bool g, .slice b1 m1 d1, .slice b2 m2 d2, .slice b3 m3 d3, .slice b4 m4 d4, .slice b5 m5 d5] 42)).trans (hbx.mono (by simp))).mono HBY.out.size)
                exact ⟨k + 1, by omega, by go_num, HZ9.out.trans (hbq.mono HZ9.out.size), _, _, _, rfl, HLE.out, HT9.out.below hbq, HI9.out⟩
              case measure => simp [intOf]; omega
      · obtain rfl : k = l.length := by omega
        have HI := Lib.hid (hI.has s); have HB9 := Lib.hid hb; have HE := Lib.hid (entry_any hT)
        have HRE := Lib.hid (HRH.out t.E hT.lt)
        have hEs : hasB t.E s = false := by rw [hI.has s, HHH.out, HFF.out]; rfl
        have HES := Lib.hid hEs
        clear hT hI hb hEs
        go_wp2_with (first
          | (go_at_call 13; refine HE.out.mono ?_; rintro e w' ⟨rfl, rfl⟩)
          | (go_at_call 6; refine (HRE.out HES.out _).mono ?_; rintro e w' ⟨rfl, rfl⟩))
        go_ret
        exact ⟨rfl, HB9.out⟩
set_option maxHeartbeats 3200000 in
set_option maxRecDepth 100000 in
theorem law_ft (x : Nat) (hx : x < 4294967296) (l : List Ac) (a : Option Addr) (cap : Nat) (s : Int) (w : World) (G : Gl w) (hac : Acs w a l) (hle : l.length ≤ 30) (hh : hasB x s = false) (hf : fixedB s = true) :
    Calls Tryz.prog 3 #[.int .u32 x, .slice a l.length cap, .int .i64 s] w fun e w' => e = .returned (.bool true) ∧ Below w.heap.size w w' := by
    have HA := Lib.hid (alive_any G)
    have HG := Lib.hid G; have HAC := Lib.hid hac
    have HN := Lib.hid fun w1 : World => new_any x hx w1
    clear G hac
    have HFX := Lib.hid fun w1 : World => (show Calls Tryz.prog 7 #[.int .i64 s] w1 fun e w' => e = .returned (.bool true) ∧ Below w1.heap.size w1 w' from hf ▸ rfixed_any s w1)
    have HRH := Lib.hid fun (y : Nat) (hy : y < 4294967296) (he : hasB y s = false) (w1 : World) => (show Calls Tryz.prog 6 #[.int .u32 y, .int .i64 s] w1 fun e w' => e = .returned (.bool false) ∧ w1 = w' from he ▸ rhas_any y s hy w1)
    have HFF := Lib.hid hf; have HHH := Lib.hid hh
    clear hf hh
    go_enter Tryz.func3, Tryz.ntmps3
    go_wp2_with fail
    refine HA.out.mono ?_
    rintro e w1 ⟨rfl, hb1⟩
    have HB1 := Lib.hid hb1
    clear hb1
    go_wp2_with fail
    refine (HN.out w1).mono ?_
    rintro e w2 ⟨H, C, rfl, hT, hH, hb2⟩
    have hnow : Now w x (.pointer (some ⟨H, 0, none⟩)) w2 := ⟨HB1.out.trans (hb2.mono HB1.out.size), H, _, C, rfl, Nat.le_trans HB1.out.size hH, hT, Inv.start x⟩
    have HNOW := Lib.hid hnow
    clear hT hH hb2 hnow
    go_wp2_with (go_at_call 6; refine (HRH.out x hx HHH.out _).mono ?_; rintro e w' ⟨rfl, rfl⟩)
    go_loopw [7, 32] (fun p i wr => ∃ k : Nat, k ≤ l.length ∧ i = .int .i64 k ∧ Now w x p wr) (fun _ i _ => l.length - (intOf i).toNat)
    case atStart => exact ⟨0, Nat.zero_le _, rfl, HNOW.out⟩
    case round =>
      obtain ⟨k, hk, rfl, hb, H, t, C, rfl, hle, hT, hI⟩ := hrel
      by_cases hlt : k < l.length
      · obtain ⟨b, off, rfl, hblt, h0, h1, h2, hz⟩ := HAC.out k l[k] (by simp [hlt])
        generalize l[k] = z at h0 h1 h2 hz
        obtain ⟨kd, cd, xt⟩ := z
        dsimp only at h0 h1 h2 hz
        have q0 := (hb.cell (p := ⟨b, off + k * 3, none⟩) hblt).trans h0
        have q1 := (hb.cell (p := ⟨b, off + k * 3 + 1, none⟩) hblt).trans h1
        have q2 := (hb.cell (p := ⟨b, off + k * 3 + 2, none⟩) hblt).trans h2
        have hbx := al1 wr (.cells #[.int .i64 kd, .int .i64 cd, .string xt] 31)
        have hT1 := hT.below hbx
        have HB1 := Lib.hid (hb.trans (hbx.mono hb.size)); have HHL := Lib.hid hle
        have HN1 := Lib.hid (heap_alloc_new wr (.cells #[.int .i64 kd, .int .i64 cd, .string xt] 31))
        have HNE := Lib.hid (Nat.ne_of_gt hT.hlt)
        clear h0 h1 h2 hbx hb hle
        by_cases hsz : 300 < xt.size
        · have hsi : (300 : Int) < xt.size := by omega
          clear hT1 hT hI
          go_wp2_with fail
          go_ret
          exact ⟨rfl, HB1.out⟩
        · have hsi : ¬ (300 : Int) < xt.size := by omega
          by_cases hk1 : kd = 1
          · subst hk1
            have HR := Lib.hid (reset_any hT1 cd)
            have HI1 := Lib.hid (hI.reset cd)
            clear hT1 hT hI
            go_wp2_with fail
            refine HR.out.mono ?_
            rintro e wz ⟨he, ⟨C', T'⟩, hF⟩
            generalize (if freeC cd then (0 : Int) else 3) = rc at he
            subst he
            have I' := HI1.out
            have hz := hF.below HB1.out HHL.out HB1.out.size
            have hle' := HHL.out
            clear hF HR HI1
            generalize t.reset cd = t' at T' I'
            have HT9 := Lib.hid T'; have HI9 := Lib.hid I'; have HZ9 := Lib.hid hz; have HLE := Lib.hid hle'
            have hact := action_any T' s
            have HACT := Lib.hid hact
            clear T' I' hz hle' hact
            go_wp2_with fail
            refine HACT.out.mono ?_
            rintro e wy ⟨⟨nk, nm, g, b1, b2, b3, b4, b5, m1, d1, m2, d2, m3, d3, m4, d4, m5, d5, rfl⟩, hby⟩
            generalize (if isC s then t'.x s.toNat else ⟨#[]⟩) = tx
            have hhow := fun (w' : World) (hb' : Below wy.heap.size wy w') => how_any ((HT9.out.below hby).below hb') s
            rw [HI9.out.fixed HFF.out] at hhow
            have HHOW := Lib.hid hhow; have HBY := Lib.hid hby
            clear hhow hby HACT
            go_wp2_with (first
              | (go_at_call 7; refine (HFX.out _).mono ?_; rintro e wx ⟨rfl, hbx⟩)
              | (go_at_call 12; refine (HHOW.out _ (by first | exact Below.refl _ _ | exact al1 _ _ | exact (al1 _ _).trans (Below.mono (by assumption) (by simp)))).mono ?_; rintro e w' ⟨rfl, rfl⟩))
            go_roundw
            case rel =>
              have hbq := HBY.out.trans (((al1 wy (.cells #[.int .i64 nk, .string nm, .bool g, .slice b1 m1 d1, .slice b2 m2 d2, .slice b3 m3 d3, .slice b4 m4 d4, .slice b5 m5 d5] 42)).trans (hbx.mono (by simp))).mono HBY.out.size)
              exact ⟨k + 1, by omega, by go_num, HZ9.out.trans (hbq.mono HZ9.out.size), _, _, _, rfl, HLE.out, HT9.out.below hbq, HI9.out⟩
            case measure => simp [intOf]; omega
          · by_cases hk2 : kd = 2
            · subst hk2
              have HR := Lib.hid (child_any hT1)
              have HI1 := Lib.hid hI.child
              clear hT1 hT hI
              go_wp2_with fail
              refine HR.out.mono ?_
              rintro e wz ⟨H', C', rfl, T', hH', hbz⟩
              have I' := HI1.out
              have hz := HB1.out.trans (hbz.mono HB1.out.size)
              have hle' := Nat.le_trans HB1.out.size hH'
              clear hbz hH' HR HI1
              generalize t.child = t' at T' I'
              have HT9 := Lib.hid T'; have HI9 := Lib.hid I'; have HZ9 := Lib.hid hz; have HLE := Lib.hid hle'
              have hact := action_any T' s
              have HACT := Lib.hid hact
              clear T' I' hz hle' hact
              go_wp2_with fail
              refine HACT.out.mono ?_
              rintro e wy ⟨⟨nk, nm, g, b1, b2, b3, b4, b5, m1, d1, m2, d2, m3, d3, m4, d4, m5, d5, rfl⟩, hby⟩
              generalize (if isC s then t'.x s.toNat else ⟨#[]⟩) = tx
              have hhow := fun (w' : World) (hb' : Below wy.heap.size wy w') => how_any ((HT9.out.below hby).below hb') s
              rw [HI9.out.fixed HFF.out] at hhow
              have HHOW := Lib.hid hhow; have HBY := Lib.hid hby
              clear hhow hby HACT
              go_wp2_with (first
                | (go_at_call 7; refine (HFX.out _).mono ?_; rintro e wx ⟨rfl, hbx⟩)
                | (go_at_call 12; refine (HHOW.out _ (by first | exact Below.refl _ _ | exact al1 _ _ | exact (al1 _ _).trans (Below.mono (by assumption) (by simp)))).mono ?_; rintro e w' ⟨rfl, rfl⟩))
              go_roundw
              case rel =>
                have hbq := HBY.out.trans (((al1 wy (.cells #[.int .i64 nk, .string nm, .bool g, .slice b1 m1 d1, .slice b2 m2 d2, .slice b3 m3 d3, .slice b4 m4 d4, .slice b5 m5 d5] 42)).trans (hbx.mono (by simp))).mono HBY.out.size)
                exact ⟨k + 1, by omega, by go_num, HZ9.out.trans (hbq.mono HZ9.out.size), _, _, _, rfl, HLE.out, HT9.out.below hbq, HI9.out⟩
              case measure => simp [intOf]; omega
            · have hkb : (kd == 1) = false := beq_eq_false_iff_ne.2 hk1
              have hkc : (kd == 2) = false := beq_eq_false_iff_ne.2 hk2
              obtain ⟨m, hm⟩ := (HG.out.below HB1.out).len
              have HR := Lib.hid (set_any hT1 cd xt (by omega) m hm)
              have HI1 := Lib.hid (hI.set cd xt)
              clear hT1 hT hI hm
              go_wp2_with fail
              refine HR.out.mono ?_
              rintro e wu ⟨rfl, ⟨C0, T0⟩, hF0⟩
              have I0 := HI1.out
              have hu := hF0.below HB1.out HHL.out HB1.out.size
              have hN := (hF0.block _ (by simp) HNE.out).trans HN1.out
              have n2 := zc2 hN
              clear hF0 HR HI1
              generalize t.set cd xt = t0 at T0 I0
              obtain ⟨m2, hm2⟩ := (HG.out.below hu).len
              have HR := Lib.hid (set_any T0 s xt (by omega) m2 hm2)
              have HI1 := Lib.hid (I0.set s xt)
              have HU := Lib.hid hu
              clear T0 I0 hm2 hu hN
              go_wp2_with fail
              refine HR.out.mono ?_
              rintro e wz ⟨rfl, ⟨C', T'⟩, hF⟩
              have I' := HI1.out
              have hz := hF.below HU.out HHL.out HU.out.size
              have hle' := HHL.out
              clear hF HR HI1 n2
              generalize t0.set s xt = t' at T' I'
              have HT9 := Lib.hid T'; have HI9 := Lib.hid I'; have HZ9 := Lib.hid hz; have HLE := Lib.hid hle'
              have hact := action_any T' s
              have HACT := Lib.hid hact
              clear T' I' hz hle' hact
              go_wp2_with fail
              refine HACT.out.mono ?_
              rintro e wy ⟨⟨nk, nm, g, b1, b2, b3, b4, b5, m1, d1, m2, d2, m3, d3, m4, d4, m5, d5, rfl⟩, hby⟩
              generalize (if isC s then t'.x s.toNat else ⟨#[]⟩) = tx
              have hhow := fun (w' : World) (hb' : Below wy.heap.size wy w') => how_any ((HT9.out.below hby).below hb') s
              rw [HI9.out.fixed HFF.out] at hhow
              have HHOW := Lib.hid hhow; have HBY := Lib.hid hby
              clear hhow hby HACT
              go_wp2_with (first
                | (go_at_call 7; refine (HFX.out _).mono ?_; rintro e wx ⟨rfl, hbx⟩)
                | (go_at_call 12; refine (HHOW.out _ (by first | exact Below.refl _ _ | exact al1 _ _ | exact (al1 _ _).trans (Below.mono (by assumption) (by simp)))).mono ?_; rintro e w' ⟨rfl, rfl⟩))
              go_roundw
              case rel =>
                have hbq := HBY.out.trans (((al1 wy (.cells #[.int .i64 nk, .string nm, .bool g, .slice b1 m1 d1, .slice b2 m2 d2, .slice b3 m3 d3, .slice b4 m4 d4, .slice b5 m5 d5] 42)).trans (hbx.mono (by simp))).mono HBY.out.size)
                exact ⟨k + 1, by omega, by go_num, HZ9.out.trans (hbq.mono HZ9.out.size), _, _, _, rfl, HLE.out, HT9.out.below hbq, HI9.out⟩
              case measure => simp [intOf]; omega
      · obtain rfl : k = l.length := by omega
        have HI := Lib.hid (hI.has s); have HB9 := Lib.hid hb; have HE := Lib.hid (entry_any hT)
        have HRE := Lib.hid (HRH.out t.E hT.lt)
        have hEs : hasB t.E s = false := by rw [hI.has s, HHH.out, HFF.out]; rfl
        have HES := Lib.hid hEs
        clear hT hI hb hEs
        go_wp2_with (first
          | (go_at_call 13; refine HE.out.mono ?_; rintro e w' ⟨rfl, rfl⟩)
          | (go_at_call 6; refine (HRE.out HES.out _).mono ?_; rintro e w' ⟨rfl, rfl⟩))
        go_ret
        exact ⟨rfl, HB9.out⟩
set_option maxHeartbeats 3200000 in
set_option maxRecDepth 100000 in
theorem law_tf (x : Nat) (hx : x < 4294967296) (l : List Ac) (a : Option Addr) (cap : Nat) (s : Int) (w : World) (G : Gl w) (hac : Acs w a l) (hle : l.length ≤ 30) (hh : hasB x s = true) (hf : fixedB s = false) :
    Calls Tryz.prog 3 #[.int .u32 x, .slice a l.length cap, .int .i64 s] w fun e w' => e = .returned (.bool true) ∧ Below w.heap.size w w' := by
    have HA := Lib.hid (alive_any G)
    have HG := Lib.hid G; have HAC := Lib.hid hac
    have HN := Lib.hid fun w1 : World => new_any x hx w1
    clear G hac
    have HFX := Lib.hid fun w1 : World => (show Calls Tryz.prog 7 #[.int .i64 s] w1 fun e w' => e = .returned (.bool false) ∧ Below w1.heap.size w1 w' from hf ▸ rfixed_any s w1)
    have HRH := Lib.hid fun (y : Nat) (hy : y < 4294967296) (he : hasB y s = true) (w1 : World) => (show Calls Tryz.prog 6 #[.int .u32 y, .int .i64 s] w1 fun e w' => e = .returned (.bool true) ∧ w1 = w' from he ▸ rhas_any y s hy w1)
    have HFF := Lib.hid hf; have HHH := Lib.hid hh
    have HSF := Lib.hid (show (hasB x s && !fixedB s) = true by rw [hh, hf]; rfl)
    clear hf hh
    go_enter Tryz.func3, Tryz.ntmps3
    go_wp2_with fail
    refine HA.out.mono ?_
    rintro e w1 ⟨rfl, hb1⟩
    have HB1 := Lib.hid hb1
    clear hb1
    go_wp2_with fail
    refine (HN.out w1).mono ?_
    rintro e w2 ⟨H, C, rfl, hT, hH, hb2⟩
    have hnow : Now w x (.pointer (some ⟨H, 0, none⟩)) w2 := ⟨HB1.out.trans (hb2.mono HB1.out.size), H, _, C, rfl, Nat.le_trans HB1.out.size hH, hT, Inv.start x⟩
    have HNOW := Lib.hid hnow
    clear hT hH hb2 hnow
    go_wp2_with (go_at_call 6; refine (HRH.out x hx HHH.out _).mono ?_; rintro e w' ⟨rfl, rfl⟩)
    refine (HFX.out _).mono ?_
    rintro e w3 ⟨rfl, hb3⟩
    have HNOW := Lib.hid (HNOW.out.below hb3)
    clear hb3
    go_wp2_with fail
    go_loopw [7, 32] (fun p i wr => ∃ k : Nat, k ≤ l.length ∧ i = .int .i64 k ∧ Now w x p wr) (fun _ i _ => l.length - (intOf i).toNat)
    case atStart => exact ⟨0, Nat.zero_le _, rfl, HNOW.out⟩
    case round =>
      obtain ⟨k, hk, rfl, hb, H, t, C, rfl, hle, hT, hI⟩ := hrel
      by_cases hlt : k < l.length
      · obtain ⟨b, off, rfl, hblt, h0, h1, h2, hz⟩ := HAC.out k l[k] (by simp [hlt])
        generalize l[k] = z at h0 h1 h2 hz
        obtain ⟨kd, cd, xt⟩ := z
        dsimp only at h0 h1 h2 hz
        have q0 := (hb.cell (p := ⟨b, off + k * 3, none⟩) hblt).trans h0
        have q1 := (hb.cell (p := ⟨b, off + k * 3 + 1, none⟩) hblt).trans h1
        have q2 := (hb.cell (p := ⟨b, off + k * 3 + 2, none⟩) hblt).trans h2
        have hbx := al1 wr (.cells #[.int .i64 kd, .int .i64 cd, .string xt] 31)
        have hT1 := hT.below hbx
        have HB1 := Lib.hid (hb.trans (hbx.mono hb.size)); have HHL := Lib.hid hle
        have HN1 := Lib.hid (heap_alloc_new wr (.cells #[.int .i64 kd, .int .i64 cd, .string xt] 31))
        have HNE := Lib.hid (Nat.ne_of_gt hT.hlt)
        clear h0 h1 h2 hbx hb hle
        by_cases hsz : 300 < xt.size
        · have hsi : (300 : Int) < xt.size := by omega
          clear hT1 hT hI
          go_wp2_with fail
          go_ret
          exact ⟨rfl, HB1.out⟩
        · have hsi : ¬ (300 : Int) < xt.size := by omega
          by_cases hk1 : kd = 1
          · subst hk1
            have HR := Lib.hid (reset_any hT1 cd)
            have HI1 := Lib.hid (hI.reset cd)
            clear hT1 hT hI
            go_wp2_with fail
            refine HR.out.mono ?_
            rintro e wz ⟨he, ⟨C', T'⟩, hF⟩
            generalize (if freeC cd then (0 : Int) else 3) = rc at he
            subst he
            have I' := HI1.out
            have hz := hF.below HB1.out HHL.out HB1.out.size
            have hle' := HHL.out
            clear hF HR HI1
            generalize t.reset cd = t' at T' I'
            have HT9 := Lib.hid T'; have HI9 := Lib.hid I'; have HZ9 := Lib.hid hz; have HLE := Lib.hid hle'
            have hact := action_any T' s
            have HACT := Lib.hid hact
            clear T' I' hz hle' hact
            go_wp2_with fail
            refine HACT.out.mono ?_
            rintro e wy ⟨⟨nk, nm, g, b1, b2, b3, b4, b5, m1, d1, m2, d2, m3, d3, m4, d4, m5, d5, rfl⟩, hby⟩
            rw [(HI9.out.ign HSF.out).2]
            have hhow := fun (w' : World) (hb' : Below wy.heap.size wy w') => how_any ((HT9.out.below hby).below hb') s
            rw [(HI9.out.ign HSF.out).1] at hhow
            have HHOW := Lib.hid hhow; have HBY := Lib.hid hby
            clear hhow hby HACT
            go_wp2_with (first
              | (go_at_call 7; refine (HFX.out _).mono ?_; rintro e wx ⟨rfl, hbx⟩)
              | (go_at_call 12; refine (HHOW.out _ (by first | exact Below.refl _ _ | exact al1 _ _ | exact (al1 _ _).trans (Below.mono (by assumption) (by simp)))).mono ?_; rintro e w' ⟨rfl, rfl⟩))
            go_roundw
            case rel =>
              have hbq := HBY.out.trans (((al1 wy (.cells #[.int .i64 nk, .string nm, .bool g, .slice b1 m1 d1, .slice b2 m2 d2, .slice b3 m3 d3, .slice b4 m4 d4, .slice b5 m5 d5] 42)).trans (hbx.mono (by simp))).mono HBY.out.size)
              exact ⟨k + 1, by omega, by go_num, HZ9.out.trans (hbq.mono HZ9.out.size), _, _, _, rfl, HLE.out, HT9.out.below hbq, HI9.out⟩
            case measure => simp [intOf]; omega
          · by_cases hk2 : kd = 2
            · subst hk2
              have HR := Lib.hid (child_any hT1)
              have HI1 := Lib.hid hI.child
              clear hT1 hT hI
              go_wp2_with fail
              refine HR.out.mono ?_
              rintro e wz ⟨H', C', rfl, T', hH', hbz⟩
              have I' := HI1.out
              have hz := HB1.out.trans (hbz.mono HB1.out.size)
              have hle' := Nat.le_trans HB1.out.size hH'
              clear hbz hH' HR HI1
              generalize t.child = t' at T' I'
              have HT9 := Lib.hid T'; have HI9 := Lib.hid I'; have HZ9 := Lib.hid hz; have HLE := Lib.hid hle'
              have hact := action_any T' s
              have HACT := Lib.hid hact
              clear T' I' hz hle' hact
              go_wp2_with fail
              refine HACT.out.mono ?_
              rintro e wy ⟨⟨nk, nm, g, b1, b2, b3, b4, b5, m1, d1, m2, d2, m3, d3, m4, d4, m5, d5, rfl⟩, hby⟩
              rw [(HI9.out.ign HSF.out).2]
              have hhow := fun (w' : World) (hb' : Below wy.heap.size wy w') => how_any ((HT9.out.below hby).below hb') s
              rw [(HI9.out.ign HSF.out).1] at hhow
              have HHOW := Lib.hid hhow; have HBY := Lib.hid hby
              clear hhow hby HACT
              go_wp2_with (first
                | (go_at_call 7; refine (HFX.out _).mono ?_; rintro e wx ⟨rfl, hbx⟩)
                | (go_at_call 12; refine (HHOW.out _ (by first | exact Below.refl _ _ | exact al1 _ _ | exact (al1 _ _).trans (Below.mono (by assumption) (by simp)))).mono ?_; rintro e w' ⟨rfl, rfl⟩))
              go_roundw
              case rel =>
                have hbq := HBY.out.trans (((al1 wy (.cells #[.int .i64 nk, .string nm, .bool g, .slice b1 m1 d1, .slice b2 m2 d2, .slice b3 m3 d3, .slice b4 m4 d4, .slice b5 m5 d5] 42)).trans (hbx.mono (by simp))).mono HBY.out.size)
                exact ⟨k + 1, by omega, by go_num, HZ9.out.trans (hbq.mono HZ9.out.size), _, _, _, rfl, HLE.out, HT9.out.below hbq, HI9.out⟩
              case measure => simp [intOf]; omega
            · have hkb : (kd == 1) = false := beq_eq_false_iff_ne.2 hk1
              have hkc : (kd == 2) = false := beq_eq_false_iff_ne.2 hk2
              obtain ⟨m, hm⟩ := (HG.out.below HB1.out).len
              have HR := Lib.hid (set_any hT1 cd xt (by omega) m hm)
              have HI1 := Lib.hid (hI.set cd xt)
              clear hT1 hT hI hm
              go_wp2_with fail
              refine HR.out.mono ?_
              rintro e wu ⟨rfl, ⟨C0, T0⟩, hF0⟩
              have I0 := HI1.out
              have hu := hF0.below HB1.out HHL.out HB1.out.size
              have hN := (hF0.block _ (by simp) HNE.out).trans HN1.out
              have n2 := zc2 hN
              clear hF0 HR HI1
              generalize t.set cd xt = t0 at T0 I0
              obtain ⟨m2, hm2⟩ := (HG.out.below hu).len
              have HR := Lib.hid (set_any T0 s xt (by omega) m2 hm2)
              have HI1 := Lib.hid (I0.set s xt)
              have HU := Lib.hid hu
              clear T0 I0 hm2 hu hN
              go_wp2_with fail
              refine HR.out.mono ?_
              rintro e wz ⟨rfl, ⟨C', T'⟩, hF⟩
              have I' := HI1.out
              have hz := hF.below HU.out HHL.out HU.out.size
              have hle' := HHL.out
              clear hF HR HI1 n2
              generalize t0.set s xt = t' at T' I'
              have HT9 := Lib.hid T'; have HI9 := Lib.hid I'; have HZ9 := Lib.hid hz; have HLE := Lib.hid hle'
              have hact := action_any T' s
              have HACT := Lib.hid hact
              clear T' I' hz hle' hact
              go_wp2_with fail
              refine HACT.out.mono ?_
              rintro e wy ⟨⟨nk, nm, g, b1, b2, b3, b4, b5, m1, d1, m2, d2, m3, d3, m4, d4, m5, d5, rfl⟩, hby⟩
              rw [(HI9.out.ign HSF.out).2]
              have hhow := fun (w' : World) (hb' : Below wy.heap.size wy w') => how_any ((HT9.out.below hby).below hb') s
              rw [(HI9.out.ign HSF.out).1] at hhow
              have HHOW := Lib.hid hhow; have HBY := Lib.hid hby
              clear hhow hby HACT
              go_wp2_with (first
                | (go_at_call 7; refine (HFX.out _).mono ?_; rintro e wx ⟨rfl, hbx⟩)
                | (go_at_call 12; refine (HHOW.out _ (by first | exact Below.refl _ _ | exact al1 _ _ | exact (al1 _ _).trans (Below.mono (by assumption) (by simp)))).mono ?_; rintro e w' ⟨rfl, rfl⟩))
              go_roundw
              case rel =>
                have hbq := HBY.out.trans (((al1 wy (.cells #[.int .i64 nk, .string nm, .bool g, .slice b1 m1 d1, .slice b2 m2 d2, .slice b3 m3 d3, .slice b4 m4 d4, .slice b5 m5 d5] 42)).trans (hbx.mono (by simp))).mono HBY.out.size)
                exact ⟨k + 1, by omega, by go_num, HZ9.out.trans (hbq.mono HZ9.out.size), _, _, _, rfl, HLE.out, HT9.out.below hbq, HI9.out⟩
              case measure => simp [intOf]; omega
      · obtain rfl : k = l.length := by omega
        have HI := Lib.hid (hI.has s); have HB9 := Lib.hid hb; have HE := Lib.hid (entry_any hT)
        have HRE := Lib.hid (HRH.out t.E hT.lt)
        have hEs : hasB t.E s = true := by rw [hI.has s, HHH.out, HFF.out]; rfl
        have HES := Lib.hid hEs
        clear hT hI hb hEs
        go_wp2_with (first
          | (go_at_call 13; refine HE.out.mono ?_; rintro e w' ⟨rfl, rfl⟩)
          | (go_at_call 6; refine (HRE.out HES.out _).mono ?_; rintro e w' ⟨rfl, rfl⟩))
        go_ret
        exact ⟨rfl, HB9.out⟩
set_option maxHeartbeats 3200000 in
set_option maxRecDepth 100000 in
theorem law_tt (x : Nat) (hx : x < 4294967296) (l : List Ac) (a : Option Addr) (cap : Nat) (s : Int) (w : World) (G : Gl w) (hac : Acs w a l) (hle : l.length ≤ 30) (hh : hasB x s = true) (hf : fixedB s = true) :
    Calls Tryz.prog 3 #[.int .u32 x, .slice a l.length cap, .int .i64 s] w fun e w' => e = .returned (.bool true) ∧ Below w.heap.size w w' := by
    have HA := Lib.hid (alive_any G)
    have HG := Lib.hid G; have HAC := Lib.hid hac
    have HN := Lib.hid fun w1 : World => new_any x hx w1
    clear G hac
    have HFX := Lib.hid fun w1 : World => (show Calls Tryz.prog 7 #[.int .i64 s] w1 fun e w' => e = .returned (.bool true) ∧ Below w1.heap.size w1 w' from hf ▸ rfixed_any s w1)
    have HRH := Lib.hid fun (y : Nat) (hy : y < 4294967296) (he : hasB y s = true) (w1 : World) => (show Calls Tryz.prog 6 #[.int .u32 y, .int .i64 s] w1 fun e w' => e = .returned (.bool true) ∧ w1 = w' from he ▸ rhas_any y s hy w1)
    have HFF := Lib.hid hf; have HHH := Lib.hid hh
    clear hf hh
    go_enter Tryz.func3, Tryz.ntmps3
    go_wp2_with fail
    refine HA.out.mono ?_
    rintro e w1 ⟨rfl, hb1⟩
    have HB1 := Lib.hid hb1
    clear hb1
    go_wp2_with fail
    refine (HN.out w1).mono ?_
    rintro e w2 ⟨H, C, rfl, hT, hH, hb2⟩
    have hnow : Now w x (.pointer (some ⟨H, 0, none⟩)) w2 := ⟨HB1.out.trans (hb2.mono HB1.out.size), H, _, C, rfl, Nat.le_trans HB1.out.size hH, hT, Inv.start x⟩
    have HNOW := Lib.hid hnow
    clear hT hH hb2 hnow
    go_wp2_with (go_at_call 6; refine (HRH.out x hx HHH.out _).mono ?_; rintro e w' ⟨rfl, rfl⟩)
    refine (HFX.out _).mono ?_
    rintro e w3 ⟨rfl, hb3⟩
    have HNOW := Lib.hid (HNOW.out.below hb3)
    clear hb3
    go_wp2_with fail
    go_loopw [7, 32] (fun p i wr => ∃ k : Nat, k ≤ l.length ∧ i = .int .i64 k ∧ Now w x p wr) (fun _ i _ => l.length - (intOf i).toNat)
    case atStart => exact ⟨0, Nat.zero_le _, rfl, HNOW.out⟩
    case round =>
      obtain ⟨k, hk, rfl, hb, H, t, C, rfl, hle, hT, hI⟩ := hrel
      by_cases hlt : k < l.length
      · obtain ⟨b, off, rfl, hblt, h0, h1, h2, hz⟩ := HAC.out k l[k] (by simp [hlt])
        generalize l[k] = z at h0 h1 h2 hz
        obtain ⟨kd, cd, xt⟩ := z
        dsimp only at h0 h1 h2 hz
        have q0 := (hb.cell (p := ⟨b, off + k * 3, none⟩) hblt).trans h0
        have q1 := (hb.cell (p := ⟨b, off + k * 3 + 1, none⟩) hblt).trans h1
        have q2 := (hb.cell (p := ⟨b, off + k * 3 + 2, none⟩) hblt).trans h2
        have hbx := al1 wr (.cells #[.int .i64 kd, .int .i64 cd, .string xt] 31)
        have hT1 := hT.below hbx
        have HB1 := Lib.hid (hb.trans (hbx.mono hb.size)); have HHL := Lib.hid hle
        have HN1 := Lib.hid (heap_alloc_new wr (.cells #[.int .i64 kd, .int .i64 cd, .string xt] 31))
        have HNE := Lib.hid (Nat.ne_of_gt hT.hlt)
        clear h0 h1 h2 hbx hb hle
        by_cases hsz : 300 < xt.size
        · have hsi : (300 : Int) < xt.size := by omega
          clear hT1 hT hI
          go_wp2_with fail
          go_ret
          exact ⟨rfl, HB1.out⟩
        · have hsi : ¬ (300 : Int) < xt.size := by omega
          by_cases hk1 : kd = 1
          · subst hk1
            have HR := Lib.hid (reset_any hT1 cd)
            have HI1 := Lib.hid (hI.reset cd)
            clear hT1 hT hI
            go_wp2_with fail
            refine HR.out.mono ?_
            rintro e wz ⟨he, ⟨C', T'⟩, hF⟩
            generalize (if freeC cd then (0 : Int) else 3) = rc at he
            subst he
            have I' := HI1.out
            have hz := hF.below HB1.out HHL.out HB1.out.size
            have hle' := HHL.out
            clear hF HR HI1
            generalize t.reset cd = t' at T' I'
            have HT9 := Lib.hid T'; have HI9 := Lib.hid I'; have HZ9 := Lib.hid hz; have HLE := Lib.hid hle'
            have hact := action_any T' s
            have HACT := Lib.hid hact
            clear T' I' hz hle' hact
            go_wp2_with fail
            refine HACT.out.mono ?_
            rintro e wy ⟨⟨nk, nm, g, b1, b2, b3, b4, b5, m1, d1, m2, d2, m3, d3, m4, d4, m5, d5, rfl⟩, hby⟩
            generalize (if isC s then t'.x s.toNat else ⟨#[]⟩) = tx
            have hhow := fun (w' : World) (hb' : Below wy.heap.size wy w') => how_any ((HT9.out.below hby).below hb') s
            rw [HI9.out.fixed HFF.out] at hhow
            have HHOW := Lib.hid hhow; have HBY := Lib.hid hby
            clear hhow hby HACT
            go_wp2_with (first
              | (go_at_call 7; refine (HFX.out _).mono ?_; rintro e wx ⟨rfl, hbx⟩)
              | (go_at_call 12; refine (HHOW.out _ (by first | exact Below.refl _ _ | exact al1 _ _ | exact (al1 _ _).trans (Below.mono (by assumption) (by simp)))).mono ?_; rintro e w' ⟨rfl, rfl⟩))
            go_roundw
            case rel =>
              have hbq := HBY.out.trans (((al1 wy (.cells #[.int .i64 nk, .string nm, .bool g, .slice b1 m1 d1, .slice b2 m2 d2, .slice b3 m3 d3, .slice b4 m4 d4, .slice b5 m5 d5] 42)).trans (hbx.mono (by simp))).mono HBY.out.size)
              exact ⟨k + 1, by omega, by go_num, HZ9.out.trans (hbq.mono HZ9.out.size), _, _, _, rfl, HLE.out, HT9.out.below hbq, HI9.out⟩
            case measure => simp [intOf]; omega
          · by_cases hk2 : kd = 2
            · subst hk2
              have HR := Lib.hid (child_any hT1)
              have HI1 := Lib.hid hI.child
              clear hT1 hT hI
              go_wp2_with fail
              refine HR.out.mono ?_
              rintro e wz ⟨H', C', rfl, T', hH', hbz⟩
              have I' := HI1.out
              have hz := HB1.out.trans (hbz.mono HB1.out.size)
              have hle' := Nat.le_trans HB1.out.size hH'
              clear hbz hH' HR HI1
              generalize t.child = t' at T' I'
              have HT9 := Lib.hid T'; have HI9 := Lib.hid I'; have HZ9 := Lib.hid hz; have HLE := Lib.hid hle'
              have hact := action_any T' s
              have HACT := Lib.hid hact
              clear T' I' hz hle' hact
              go_wp2_with fail
              refine HACT.out.mono ?_
              rintro e wy ⟨⟨nk, nm, g, b1, b2, b3, b4, b5, m1, d1, m2, d2, m3, d3, m4, d4, m5, d5, rfl⟩, hby⟩
              generalize (if isC s then t'.x s.toNat else ⟨#[]⟩) = tx
              have hhow := fun (w' : World) (hb' : Below wy.heap.size wy w') => how_any ((HT9.out.below hby).below hb') s
              rw [HI9.out.fixed HFF.out] at hhow
              have HHOW := Lib.hid hhow; have HBY := Lib.hid hby
              clear hhow hby HACT
              go_wp2_with (first
                | (go_at_call 7; refine (HFX.out _).mono ?_; rintro e wx ⟨rfl, hbx⟩)
                | (go_at_call 12; refine (HHOW.out _ (by first | exact Below.refl _ _ | exact al1 _ _ | exact (al1 _ _).trans (Below.mono (by assumption) (by simp)))).mono ?_; rintro e w' ⟨rfl, rfl⟩))
              go_roundw
              case rel =>
                have hbq := HBY.out.trans (((al1 wy (.cells #[.int .i64 nk, .string nm, .bool g, .slice b1 m1 d1, .slice b2 m2 d2, .slice b3 m3 d3, .slice b4 m4 d4, .slice b5 m5 d5] 42)).trans (hbx.mono (by simp))).mono HBY.out.size)
                exact ⟨k + 1, by omega, by go_num, HZ9.out.trans (hbq.mono HZ9.out.size), _, _, _, rfl, HLE.out, HT9.out.below hbq, HI9.out⟩
              case measure => simp [intOf]; omega
            · have hkb : (kd == 1) = false := beq_eq_false_iff_ne.2 hk1
              have hkc : (kd == 2) = false := beq_eq_false_iff_ne.2 hk2
              obtain ⟨m, hm⟩ := (HG.out.below HB1.out).len
              have HR := Lib.hid (set_any hT1 cd xt (by omega) m hm)
              have HI1 := Lib.hid (hI.set cd xt)
              clear hT1 hT hI hm
              go_wp2_with fail
              refine HR.out.mono ?_
              rintro e wu ⟨rfl, ⟨C0, T0⟩, hF0⟩
              have I0 := HI1.out
              have hu := hF0.below HB1.out HHL.out HB1.out.size
              have hN := (hF0.block _ (by simp) HNE.out).trans HN1.out
              have n2 := zc2 hN
              clear hF0 HR HI1
              generalize t.set cd xt = t0 at T0 I0
              obtain ⟨m2, hm2⟩ := (HG.out.below hu).len
              have HR := Lib.hid (set_any T0 s xt (by omega) m2 hm2)
              have HI1 := Lib.hid (I0.set s xt)
              have HU := Lib.hid hu
              clear T0 I0 hm2 hu hN
              go_wp2_with fail
              refine HR.out.mono ?_
              rintro e wz ⟨rfl, ⟨C', T'⟩, hF⟩
              have I' := HI1.out
              have hz := hF.below HU.out HHL.out HU.out.size
              have hle' := HHL.out
              clear hF HR HI1 n2
              generalize t0.set s xt = t' at T' I'
              have HT9 := Lib.hid T'; have HI9 := Lib.hid I'; have HZ9 := Lib.hid hz; have HLE := Lib.hid hle'
              have hact := action_any T' s
              have HACT := Lib.hid hact
              clear T' I' hz hle' hact
              go_wp2_with fail
              refine HACT.out.mono ?_
              rintro e wy ⟨⟨nk, nm, g, b1, b2, b3, b4, b5, m1, d1, m2, d2, m3, d3, m4, d4, m5, d5, rfl⟩, hby⟩
              generalize (if isC s then t'.x s.toNat else ⟨#[]⟩) = tx
              have hhow := fun (w' : World) (hb' : Below wy.heap.size wy w') => how_any ((HT9.out.below hby).below hb') s
              rw [HI9.out.fixed HFF.out] at hhow
              have HHOW := Lib.hid hhow; have HBY := Lib.hid hby
              clear hhow hby HACT
              go_wp2_with (first
                | (go_at_call 7; refine (HFX.out _).mono ?_; rintro e wx ⟨rfl, hbx⟩)
                | (go_at_call 12; refine (HHOW.out _ (by first | exact Below.refl _ _ | exact al1 _ _ | exact (al1 _ _).trans (Below.mono (by assumption) (by simp)))).mono ?_; rintro e w' ⟨rfl, rfl⟩))
              go_roundw
              case rel =>
                have hbq := HBY.out.trans (((al1 wy (.cells #[.int .i64 nk, .string nm, .bool g, .slice b1 m1 d1, .slice b2 m2 d2, .slice b3 m3 d3, .slice b4 m4 d4, .slice b5 m5 d5] 42)).trans (hbx.mono (by simp))).mono HBY.out.size)
                exact ⟨k + 1, by omega, by go_num, HZ9.out.trans (hbq.mono HZ9.out.size), _, _, _, rfl, HLE.out, HT9.out.below hbq, HI9.out⟩
              case measure => simp [intOf]; omega
      · obtain rfl : k = l.length := by omega
        have HI := Lib.hid (hI.has s); have HB9 := Lib.hid hb; have HE := Lib.hid (entry_any hT)
        have HRE := Lib.hid fun (he : hasB t.E s = false) (w1 : World) => (show Calls Tryz.prog 6 #[.int .u32 t.E, .int .i64 s] w1 fun e w' => e = .returned (.bool false) ∧ w1 = w' from he ▸ rhas_any t.E s hT.lt w1)
        have hEs : hasB t.E s = false := by rw [hI.has s, HHH.out, HFF.out]; rfl
        have HES := Lib.hid hEs
        clear hT hI hb hEs
        go_wp2_with (first
          | (go_at_call 13; refine HE.out.mono ?_; rintro e w' ⟨rfl, rfl⟩)
          | (go_at_call 6; refine (HRE.out HES.out _).mono ?_; rintro e w' ⟨rfl, rfl⟩))
        go_ret
        exact ⟨rfl, HB9.out⟩
set_option maxHeartbeats 800000 in
set_option maxRecDepth 100000 in
theorem law_big (x : Nat) (l : List Ac) (a : Option Addr) (cap : Nat) (s : Int) (w : World) (G : Gl w) (hbig : 30 < l.length) :
    Calls Tryz.prog 3 #[.int .u32 x, .slice a l.length cap, .int .i64 s] w fun e w' => e = .returned (.bool true) ∧ Below w.heap.size w w' := by
  have HA := Lib.hid (alive_any G)
  clear G
  go_enter Tryz.func3, Tryz.ntmps3
  go_wp2_with (go_at_call 4; refine HA.out.mono ?_; rintro e w1 ⟨rfl, hb1⟩)
  go_ret
  exact ⟨rfl, hb1⟩
theorem trap_law (x : Nat) (hx : x < 4294967296) (l : List Ac) (a : Option Addr) (cap : Nat) (s : Int) (w : World) (G : Gl w) (hac : Acs w a l) :
    Calls Tryz.prog 3 #[.int .u32 x, .slice a l.length cap, .int .i64 s] w fun e w' => e = .returned (.bool true) ∧ Below w.heap.size w w' := by
  by_cases hbig : 30 < l.length
  · exact law_big x l a cap s w G hbig
  · cases hh : hasB x s <;> cases hf : fixedB s
    · exact law_ff x hx l a cap s w G hac (by omega) hh hf
    · exact law_ft x hx l a cap s w G hac (by omega) hh hf
    · exact law_tf x hx l a cap s w G hac (by omega) hh hf
    · exact law_tt x hx l a cap s w G hac (by omega) hh hf
end Tp
end Go.Proofs.YtoklgmbpgnimcaaGreatDoor
