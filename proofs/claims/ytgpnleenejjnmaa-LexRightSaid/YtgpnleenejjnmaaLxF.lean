/- (*lex.parts).all, join. -/
import Derived.Test.YtgpnleenejjnmaaLxE
namespace Go.Proofs.Ytgpnleenejjnmaa
open Go.RowKit Go.Sort
namespace Lx
open Cls Pt

/-- How much there is: parts, and their texts' bytes. -/
def tot : PL → Nat
  | .nil => 0
  | .cons _ _ t _ _ r => 1 + t.size + tot r
theorem tot_app : ∀ l m : PL, tot (l.app m) = tot l + tot m
  | .nil, m => by simp [tot, PL.app]
  | .cons _ _ _ _ _ r, m => by simp only [tot, PL.app, tot_app r m]; omega
theorem len_tot : ∀ l : PL, l.len ≤ tot l
  | .nil => Nat.le_refl _
  | .cons _ _ _ _ _ r => by have := len_tot r; simp only [PL.len, tot]; omega
def A.tot (a : A) : Nat := Lx.tot a.l + match a.cur with | none => 0 | some x => 1 + x.2.length
theorem A.flush_tot (a : A) : Lx.tot a.flush = a.tot := by
  obtain ⟨l, cur⟩ := a
  match cur with
  | none => simp [A.flush, A.tot]
  | some x =>
    simp only [A.flush, A.tot, tot_app, A.lit, Lx.tot]
    show Lx.tot l + (1 + (List.toArray _).size + 0) = _
    rw [List.size_toArray]; omega
theorem A.begins_tot (a : A) (q : Bool) : (a.begins q).tot ≤ a.tot + 1 := by
  obtain ⟨l, cur⟩ := a
  match cur with
  | none => simp [A.begins, A.tot]
  | some x =>
    simp only [A.begins]
    split
    · omega
    · have := A.flush_tot ⟨l, some x⟩
      simp only [A.tot, List.length_nil] at this ⊢
      omega
theorem A.text_tot (a : A) (s : List UInt8) (q : Bool) : (a.text s q).tot ≤ a.tot + 1 + s.length := by
  have h := A.begins_tot a q
  have hc := begins_cur a q
  simp only [A.tot, hc] at h
  simp only [A.text, A.tot, List.length_append]
  omega
theorem A.add_tot (a : A) (p : PL) : (a.add p).tot = a.tot + Lx.tot p := by
  have := A.flush_tot a
  simp only [A.add, A.tot, tot_app]
  simp only [A.tot] at this
  omega
theorem A.sizes (a : A) : a.l.len ≤ a.tot ∧ a.bytes.length ≤ a.tot := by
  have := len_tot a.l
  obtain ⟨l, cur⟩ := a
  match cur with
  | none => simp only [A.tot, A.bytes, List.length_nil]; simp only [] at this; omega
  | some x => simp only [A.tot, A.bytes]; simp only [] at this; omega

/-- What all leaves: the parts in the call's own memory. -/
theorem lies_all {w : World} {B : Nat} {S : Nat → Prop} {vl vb : Value} {l : PL} {bs : List UInt8} (hb : Body w B S vl vb l bs) (hSB : ∀ x, S x → B ≤ x) (hl : l.len ≤ R) : ∃ a cap, vl = .slice a l.len cap ∧ LiesS (fun b => B ≤ b) w a cap l := by
  obtain ⟨xs, h1, h2, _⟩ := hb
  have h0 := lies_own h1 h2.cells hl
  obtain ⟨a, cap, rfl, _⟩ := h0
  refine ⟨a, cap, rfl, fun w2 hs hk => ?_⟩
  have h1' : w2.ownsRow B 53 5 (.slice a l.len cap) l.len xs := own_keep h1 fun g hg hlt => hk g (h1.lt g hg).1 hlt
  have h2' : CellsS S w2 l xs := h2.keep hs fun b hb hlt => hk b (hSB b hb) hlt
  obtain ⟨a', cap', e, hli⟩ := lies_own h1' h2'.cells hl
  cases e
  exact hli

set_option maxHeartbeats 400000 in
theorem all_any (B : Nat) (S : Nat → Prop) (p : Nat) (a : A) (w : World) (h : AccAt w B S p a) (ht : a.tot ≤ 80000000) (hSl : ∀ x, S x → x < w.heap.size) (hSB : ∀ x, S x → B ≤ x) :
    Calls Try.prog 91 #[.pointer (some ⟨p, 0, none⟩)] w fun e w' => (∃ a' cap', e = .returned (.slice a' a.flush.len cap') ∧ LiesS (fun b => B ≤ b) w' a' cap' a.flush) ∧ Fr B S w w' := by
  have hz := a.sizes
  have hfl : a.flush.len ≤ 80000000 := by have := len_tot a.flush; rw [A.flush_tot] at this; omega
  have HE := Lib.hid (end_any B S p a w h (by omega) (by omega) hSl)
  have HSB := Lib.hid hSB
  clear h hSl hSB hz ht
  go_enter Try.func91, Try.ntmps91
  go_wp2_with fail
  refine (HE.out).mono ?_
  rintro e w1 ⟨rfl, ⟨vl, vb, q1, hp, hB, hS', hq, hbd⟩, hfr⟩
  obtain ⟨a', cap', rfl, hli⟩ := lies_all hbd HSB.out (by unfold R; simp only []; omega)
  have c0 : w1.cell? ⟨p, 0, none⟩ = some (.slice a' a.flush.len cap') := Lib.cell_of_heap hp 0
  have HL := Lib.hid hli; have HF := Lib.hid hfr
  clear hp hbd hli hfr hq
  go_wp2_with fail
  go_ret
  exact ⟨⟨a', cap', rfl, HL.out⟩, HF.out⟩

theorem A.join_nil (a : A) : a.join .nil = a := rfl
/-- One element of what is joined. -/
def A.step (a : A) (k : Int) (q : Bool) (t o : ByteArray) (f : PL) : A := if k == 1 then a.text t.data.toList q else a.add (one k q t o f)
theorem A.join_cons (a : A) (k : Int) (q : Bool) (t o : ByteArray) (f r : PL) : a.join (.cons k q t o f r) = (a.step k q t o f).join r := by
  simp only [A.join, A.step, one]
  split <;> rfl
theorem A.step_tot (a : A) (k : Int) (q : Bool) (t o : ByteArray) (f : PL) : (a.step k q t o f).tot ≤ a.tot + (1 + t.size) := by
  unfold A.step
  split
  · have := A.text_tot a t.data.toList q; rw [lenB] at this; omega
  · rw [A.add_tot]; simp only [one, Lx.tot]; omega

/-- The parts' own row is sealed. -/
theorem LiesS.row {S : Nat → Prop} {w : World} {a : Option Addr} {cap i : Nat} {l f r : PL} {k : Int} {q : Bool} {t p : ByteArray} (h : LiesS S w a cap l) (hd : l.drop i = .cons k q t p f r) {b o : Nat} (ha : a = some ⟨b, o, none⟩) : S b := by
  refine Classical.byContradiction fun hS => ?_
  have h3 := h { w with heap := w.heap.setIfInBounds b (.cells #[] 0 (0, 0)) } (by simp) (fun x hx _ => by
    show (w.heap.setIfInBounds b _)[x]? = w.heap[x]?
    rw [Array.getElem?_setIfInBounds, if_neg (by rintro rfl; exact hS hx)])
  obtain ⟨b', o', ha', hb', c0, _⟩ := h3.get hd
  rw [ha] at ha'
  cases ha'
  have hb2 : b < w.heap.size := by simpa using hb'
  have hh : (w.heap.setIfInBounds b (.cells #[] 0 (0, 0)))[b]? = some (.cells #[] 0 (0, 0)) := by simp [Array.getElem?_setIfInBounds, hb2]
  rw [Lib.cell_of_heap (w := { w with heap := w.heap.setIfInBounds b (.cells #[] 0 (0, 0)) }) hh] at c0
  simp at c0
/-- Parts whose memory is sealed: what is seen of one. -/
theorem LiesS.get {S : Nat → Prop} {w : World} {a : Option Addr} {cap i : Nat} {l f r : PL} {k : Int} {q : Bool} {t p : ByteArray} (h : LiesS S w a cap l) (hd : l.drop i = .cons k q t p f r) :
    ∃ b o, a = some ⟨b, o, none⟩ ∧ b < w.heap.size ∧ w.cell? ⟨b, o + i * 5, none⟩ = some (.int .i64 k) ∧ w.cell? ⟨b, o + i * 5 + 1, none⟩ = some (.bool q) ∧ w.cell? ⟨b, o + i * 5 + 2, none⟩ = some (.string t) ∧ w.cell? ⟨b, o + i * 5 + 3, none⟩ = some (.string p) ∧ t.size ≤ R ∧ p.size ≤ R ∧
      ∃ a' cap', w.cell? ⟨b, o + i * 5 + 4, none⟩ = some (.slice a' f.len cap') ∧ LiesS S w a' cap' f := by
  obtain ⟨b, o, ha, hb, c0, c1, c2, c3, ht, hp, a', cap', c4, hl⟩ := h.lies.get hd
  refine ⟨b, o, ha, hb, c0, c1, c2, c3, ht, hp, a', cap', c4, fun w2 hs hk => ?_⟩
  obtain ⟨b2, o2, ha2, hb2, d0, d1, d2, d3, _, _, a2, cap2, d4, hl2⟩ := (h w2 hs hk).get hd
  rw [ha] at ha2
  cases ha2
  have hbk := hk b (h.row hd ha) hb
  have := (World.cell?_of_block (w := w) (a := ⟨b, o + i * 5 + 4, none⟩) hbk).symm.trans d4
  rw [c4] at this
  cases this
  exact hl2

set_option maxHeartbeats 1600000 in
set_option maxRecDepth 100000 in
theorem join_any (B : Nat) (S : Nat → Prop) (p : Nat) (a : A) (m : PL) (am : Option Addr) (cm : Nat) (w : World) (h : AccAt w B S p a) (ht : a.tot + tot m ≤ 80000000) (hSl : ∀ x, S x → x < w.heap.size) (hSB : ∀ x, S x → B ≤ x) (hm : LiesS S w am cm m) :
    Calls Try.prog 85 #[.pointer (some ⟨p, 0, none⟩), .slice am m.len cm] w fun e w' => e = .returned (.tuple #[]) ∧ (∃ S', (∀ x, S x → S' x) ∧ (∀ x, S' x → x < w'.heap.size) ∧ (∀ x, S' x → B ≤ x) ∧ AccAt w' B S' p (a.join m)) ∧ Fr B S w w' := by
  have hle := hm.lies.le
  have HM := Lib.hid hm; have HH := Lib.hid h; have HSL := Lib.hid hSl; have HSB := Lib.hid hSB
  clear hm h hSl hSB
  go_enter Try.func85, Try.ntmps85
  go_wp2
  go_loopw [8] (fun i wr => ∃ n : Nat, n ≤ m.len ∧ i = .int .i64 n ∧ ∃ (S' : Nat → Prop) (a' : A), (∀ x, S x → S' x) ∧ (∀ x, S' x → x < wr.heap.size) ∧ (∀ x, S' x → B ≤ x) ∧ AccAt wr B S' p a' ∧ a'.join (m.drop n) = a.join m ∧ a'.tot + tot (m.drop n) ≤ 80000000 ∧ Fr B S w wr) (fun i wr => m.len - (intOf i).toNat)
  case atStart => exact ⟨0, Nat.zero_le _, rfl, S, a, (fun _ h => h), HSL.out, HSB.out, HH.out, rfl, ht, Fr.refl _ _ _⟩
  case round =>
    obtain ⟨n, hn, rfl, S', a', hS1, hS2, hS3, hacc, hjn, htt, hfr⟩ := hrel
    by_cases hlt : n < m.len
    · obtain ⟨k, q, t, o, f, r, hdr⟩ := PL.drop_at hlt
      have hmr : LiesS S' wr am cm m := (HM.out.keep hfr.size fun b hb hlt => hfr.block b hlt (.inr hb)).mono fun b hb _ => hS1 b hb
      obtain ⟨b1, p1, rfl, hb1, c10, c11, c12, c13, htR, hoR, a1, ca1, c14, hl1⟩ := hmr.get hdr
      rw [hdr, A.join_cons] at hjn
      rw [hdr] at htt
      simp only [tot] at htt
      have hst := a'.step_tot k q t o f
      have hnx := PL.drop_succ hdr
      have hz := a'.sizes
      have HST := Lib.hid hst; have HNX := Lib.hid hnx; have HJ := Lib.hid hjn; have HA := Lib.hid hacc; have HS1 := Lib.hid hS1; have HS2 := Lib.hid hS2; have HS3 := Lib.hid hS3; have HF := Lib.hid hfr; have HL1 := Lib.hid hl1
      clear hst hnx hjn hacc hS1 hS2 hS3 hfr hl1 hmr hdr
      have hacc1 : ∀ X, AccAt (wr.alloc X) B S' p a' := fun X => HA.out.alloc X
      have hSl1 : ∀ (X : Obj) x, S' x → x < (wr.alloc X).heap.size := fun X x hx => by have := HS2.out x hx; simp; omega
      have hT := fun X (hk : (k == 1) = true) => text_any B S' p a' t q (wr.alloc X) (hacc1 X) (by omega) (by omega) (by omega) (hSl1 X)
      have hD := fun X (hk : (k == 1) = false) => add_any B S' p a' k q t o f a1 ca1 (wr.alloc X) (hacc1 X) (by omega) (by omega) (hSl1 X) htR hoR (HL1.out.keep (by simp) fun b _ hlt => Below.heap_alloc _ _ _ hlt)
      have HT := Lib.hid hT; have HD := Lib.hid hD; have HSL1 := Lib.hid hSl1
      clear hT hD hacc1 hSl1
      cases hk : (k == 1)
      · have hs : a'.step k q t o f = a'.add (one k q t o f) := by unfold A.step; rw [hk]; rfl
        rw [hs] at HJ HST
        have HK := Lib.hid hk; have HSS := Lib.hid hs
        clear hs
        go_wp2_with fail
        refine (HD.out _ HK.out).mono ?_
        rintro e w2 ⟨rfl, hacc2, hfr2, hlt2⟩
        have hBp : B ≤ wr.heap.size := by obtain ⟨vl, vb, q', hp, hB, _⟩ := HA.out; have := (Array.getElem?_eq_some_iff.1 hp).1; omega
        have hrel2 : ∃ (S' : Nat → Prop) (a' : A), (∀ x, S x → S' x) ∧ (∀ x, S' x → x < w2.heap.size) ∧ (∀ x, S' x → B ≤ x) ∧ AccAt w2 B S' p a' ∧ a'.join (m.drop (n + 1)) = a.join m ∧ a'.tot + tot (m.drop (n + 1)) ≤ 80000000 ∧ Fr B S w w2 := by
          refine ⟨_, _, fun x hx => .inl (HS1.out x hx), fun x hx => ?_, fun x hx => ?_, hacc2, by rw [HNX.out]; exact HJ.out, by rw [HNX.out]; have := HST.out; omega, (HF.out.alloc _).trans (hfr2.mono HS1.out)⟩
          · have hs := hfr2.size
            rcases hx with hx | hx
            · exact Nat.lt_of_lt_of_le (HSL1.out _ x hx) hs
            · omega
          · rcases hx with hx | hx
            · exact HS3.out x hx
            · simp only [World.size_alloc] at hx; omega
        have HR := Lib.hid hrel2
        clear hrel2 hacc2 hfr2 hlt2 hBp
        go_wp2_with fail
        go_roundw
        case rel => exact ⟨n + 1, by omega, by go_num, HR.out⟩
        case measure => simp [intOf]; omega
      · have hs : a'.step k q t o f = a'.text t.data.toList q := by unfold A.step; rw [hk]; rfl
        rw [hs] at HJ HST
        have HK := Lib.hid hk; have HSS := Lib.hid hs
        clear hs
        go_wp2_with fail
        refine (HT.out _ HK.out).mono ?_
        rintro e w2 ⟨rfl, hacc2, hfr2⟩
        have hrel2 : ∃ (S' : Nat → Prop) (a' : A), (∀ x, S x → S' x) ∧ (∀ x, S' x → x < w2.heap.size) ∧ (∀ x, S' x → B ≤ x) ∧ AccAt w2 B S' p a' ∧ a'.join (m.drop (n + 1)) = a.join m ∧ a'.tot + tot (m.drop (n + 1)) ≤ 80000000 ∧ Fr B S w w2 :=
          ⟨_, _, HS1.out, fun x hx => Nat.lt_of_lt_of_le (HSL1.out _ x hx) hfr2.size, HS3.out, hacc2, by rw [HNX.out]; exact HJ.out, by rw [HNX.out]; have := HST.out; omega, (HF.out.alloc _).trans (hfr2.mono HS1.out)⟩
        have HR := Lib.hid hrel2
        clear hrel2 hacc2 hfr2
        go_wp2_with fail
        go_roundw
        case rel => exact ⟨n + 1, by omega, by go_num, HR.out⟩
        case measure => simp [intOf]; omega
    · obtain rfl : n = m.len := by omega
      have HX := Lib.hid (And.intro hS1 (And.intro hS2 (And.intro hS3 (And.intro hacc (And.intro hjn hfr)))))
      clear hS1 hS2 hS3 hacc hjn hfr
      go_wp2
      go_end0
      obtain ⟨h1, h2, h3, h4, h5, h6⟩ := HX.out
      rw [PL.drop_end (Nat.le_refl _), A.join_nil] at h5
      subst h5
      exact ⟨rfl, ⟨S', h1, h2, h3, h4⟩, h6⟩
end Lx
end Go.Proofs.Ytgpnleenejjnmaa
