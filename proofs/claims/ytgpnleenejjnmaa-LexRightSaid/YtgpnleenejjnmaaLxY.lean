/- Scan, for every text: all its tokens, in memory. -/
import Derived.Test.YtgpnleenejjnmaaLxX
namespace Go.Proofs.Ytgpnleenejjnmaa
open Go.RowKit Go.Sort
namespace Lx
open Cls Pt

theorem LiesS.to {S S' : Nat → Prop} {w w' : World} {a : Option Addr} {cap : Nat} {l : PL} (h : LiesS S w a cap l) (hs : w.heap.size ≤ w'.heap.size) (hk : ∀ b, S b → b < w.heap.size → w'.heap[b]? = w.heap[b]?) (hS : ∀ b, S b → b < w.heap.size → S' b) : LiesS S' w' a cap l :=
  fun w2 h2 hk2 => h w2 (by omega) fun b hb hlt => (hk2 b (hS b hb hlt) (by omega)).trans (hk b hb hlt)
/-- The cells of tokens. -/
def TokC (S : Nat → Prop) (w : World) : List Tok → List Value → Prop
  | [], xs => xs = []
  | t :: r, xs => ∃ a cap ys, xs = .int .i64 t.k :: .int .i64 t.i :: .string t.t :: .slice a t.l.len cap :: .int .i64 t.err :: ys ∧ LiesS S w a cap t.l ∧ TokC S w r ys
theorem TokC.to {S S' : Nat → Prop} {w w' : World} (hs : w.heap.size ≤ w'.heap.size) (hk : ∀ b, S b → b < w.heap.size → w'.heap[b]? = w.heap[b]?) (hS : ∀ b, S b → b < w.heap.size → S' b) : ∀ {l : List Tok} {xs : List Value}, TokC S w l xs → TokC S' w' l xs
  | [], _, h => h
  | _ :: _, _, ⟨a, cap, ys, hx, h1, h⟩ => ⟨a, cap, ys, hx, h1.to hs hk hS, TokC.to hs hk hS h⟩
theorem TokC.app {S : Nat → Prop} {w : World} : ∀ {l m : List Tok} {xs ys : List Value}, TokC S w l xs → TokC S w m ys → TokC S w (l ++ m) (xs ++ ys)
  | [], m, xs, ys, h, k => by cases h; exact k
  | _ :: _, m, xs, ys, ⟨a, cap, zs, hx, h1, h⟩, k => ⟨a, cap, zs ++ ys, by subst hx; rfl, h1, TokC.app h k⟩
/-- Tokens in block b from cell o on. -/
def TokI (w : World) (b : Nat) : Nat → List Tok → Prop
  | _, [] => True
  | o, t :: r => (w.cell? ⟨b, o, none⟩ = some (.int .i64 t.k) ∧ w.cell? ⟨b, o + 1, none⟩ = some (.int .i64 t.i) ∧ w.cell? ⟨b, o + 2, none⟩ = some (.string t.t) ∧ w.cell? ⟨b, o + 4, none⟩ = some (.int .i64 t.err)) ∧
      (∃ a cap, w.cell? ⟨b, o + 3, none⟩ = some (.slice a t.l.len cap) ∧ Lies w a cap t.l) ∧ TokI w b (o + 5) r
theorem TokI.below {w w' : World} (hb : Below w.heap.size w w') : ∀ {l : List Tok} {b o : Nat}, TokI w b o l → TokI w' b o l
  | [], _, _, _ => trivial
  | _ :: _, b, o, ⟨⟨h0, h1, h2, h3⟩, ⟨a, cap, h6, h7⟩, hr⟩ => by
    have hlt := World.block_lt_of_cell? _ _ h0
    have hc : ∀ {j v}, w.cell? ⟨b, j, none⟩ = some v → w'.cell? ⟨b, j, none⟩ = some v := fun {j v} h => (hb.cell (p := ⟨b, j, none⟩) hlt).trans h
    exact ⟨⟨hc h0, hc h1, hc h2, hc h3⟩, ⟨a, cap, hc h6, h7.below hb⟩, TokI.below hb hr⟩
theorem TokI.get {w : World} {b : Nat} : ∀ {l : List Tok} {o n : Nat} {t : Tok}, TokI w b o l → l[n]? = some t →
    (w.cell? ⟨b, o + n * 5, none⟩ = some (.int .i64 t.k) ∧ w.cell? ⟨b, o + n * 5 + 1, none⟩ = some (.int .i64 t.i) ∧ w.cell? ⟨b, o + n * 5 + 2, none⟩ = some (.string t.t) ∧ w.cell? ⟨b, o + n * 5 + 4, none⟩ = some (.int .i64 t.err)) ∧
      (∃ a cap, w.cell? ⟨b, o + n * 5 + 3, none⟩ = some (.slice a t.l.len cap) ∧ Lies w a cap t.l)
  | [], _, _, _, _, h => by simp at h
  | _ :: _, o, 0, _, h, hn => by
    simp only [List.getElem?_cons_zero, Option.some.injEq] at hn
    subst hn
    simp only [Nat.zero_mul, Nat.add_zero]
    exact ⟨h.1, h.2.1⟩
  | _ :: r, o, n + 1, t, h, hn => by
    have := TokI.get (n := n) h.2.2 (by simpa using hn)
    rwa [show o + 5 + n * 5 = o + (n + 1) * 5 by omega] at this
theorem TokC.at {S : Nat → Prop} {w : World} {b : Nat} : ∀ {l : List Tok} {xs : List Value} {o : Nat}, TokC S w l xs → (∀ j u, xs[j]? = some u → w.cell? ⟨b, o + j, none⟩ = some u) → TokI w b o l
  | [], _, _, _, _ => trivial
  | _ :: _, _, o, ⟨a, cap, ys, hx, h1, h⟩, hc => by
    subst hx
    refine ⟨⟨hc 0 _ rfl, hc 1 _ rfl, hc 2 _ rfl, hc 4 _ rfl⟩, ⟨a, cap, hc 3 _ rfl, h1.lies⟩, TokC.at h fun j u hu => ?_⟩
    have := hc (j + 5) u (by simpa using hu)
    rwa [show o + (j + 5) = o + 5 + j by omega] at this

def tokCells (t : Tok) (a : Option Addr) (cap : Nat) : List Value := [.int .i64 t.k, .int .i64 t.i, .string t.t, .slice a t.l.len cap, .int .i64 t.err]
/-- One token more. -/
theorem tok_grown {w wr w1 w3 : World} {v : Value} {done : List Tok} {xs : List Value} {t : Tok} {a : Option Addr} {cap g capn : Nat} {Z1 Z2 : Obj}
    (hown : wr.ownsRow w.heap.size 29 5 v done.length xs) (htc : TokC (fun b => w.heap.size ≤ b ∧ v.ownBlock ≠ some b) wr done xs) (hbw : Below w.heap.size w wr)
    (hb1 : Below wr.heap.size wr w1) (hl : LiesS (fun b => wr.heap.size ≤ b) w1 a cap t.l)
    (hg : ((w1.alloc Z1).alloc Z2).grownBy w3 v.ownBlock) (hat : v.ownBlock = some g ∨ g = w1.heap.size + 2) :
    TokC (fun b => w.heap.size ≤ b ∧ (Value.slice (some ⟨g, 0, none⟩) (done.length + 1) capn).ownBlock ≠ some b) w3 (done ++ [t]) (xs ++ tokCells t a cap) ∧ Below w.heap.size w w3 := by
  have hv := hown.lt
  have hw := hbw.size
  have hs1 := hb1.size
  have hs3 := hg.size
  simp only [World.size_alloc] at hs3
  have hob : (Value.slice (some ⟨g, 0, none⟩) (done.length + 1) capn).ownBlock = some g := rfl
  have hA : ∀ x, x < w1.heap.size → v.ownBlock ≠ some x → w3.heap[x]? = w1.heap[x]? := fun x hx hne =>
    (hg.block x (by simp only [World.size_alloc]; omega) (fun e => hne e.symm)).trans ((Below.heap_alloc _ _ _ (by simp only [World.size_alloc]; omega)).trans (Below.heap_alloc _ _ _ hx))
  have hgne : ∀ x, x < w1.heap.size → v.ownBlock ≠ some x → some g ≠ some x := fun x hx hne e => by
    cases e
    rcases hat with hat | hat
    · exact hne hat
    · omega
  refine ⟨(TokC.app (TokC.to (by omega) (fun b hb hlt => (hA b (by omega) hb.2).trans (hb1.block b hlt)) (fun b hb hlt => ⟨hb.1, by rw [hob]; exact hgne b (by omega) hb.2⟩) htc) ⟨a, cap, [], rfl, hl.to (by omega) (fun b hb hlt => hA b hlt fun e => by have := (hv b e).2; omega) (fun b hb hlt => ⟨by omega, by rw [hob]; exact hgne b hlt fun e => by have := (hv b e).2; omega⟩), rfl⟩), ?_⟩
  exact ⟨hg.os.trans (hb1.os.trans hbw.os), hg.tape.trans (hb1.tape.trans hbw.tape), hg.output.trans (hb1.output.trans hbw.output), by omega, fun b hb => (hA b (by omega) fun e => by have := (hv b e).1; omega).trans ((hb1.block b (by omega)).trans (hbw.block b hb))⟩

theorem infoTok : (Try.prog.info? 29).map (fun i => (i.zero, i.size, i.bytes)) = some (some (.agg #[.int .i64 0, .int .i64 0, .string ⟨#[]⟩, .slice none 0 0, .int .i64 0]), 5, 64) := by kernel_rfl

/-- What Scan answers. -/
def GotA (w : World) (L : List Tok) (e : Ending) (w' : World) : Prop :=
  ∃ g cap, e = .returned (.slice (some ⟨g, 0, none⟩) L.length cap) ∧ TokI w' g 0 L ∧ Below w.heap.size w w'

set_option maxHeartbeats 1600000 in
set_option maxRecDepth 100000 in
theorem scan_any (s : ByteArray) (hs : s.size ≤ 1000000) (w : World) :
    Calls Try.prog 7 #[.string s] w (GotA w (scanF (s.size + 1) s 0)) := by
  obtain ⟨i0, hi, hz0, hz1, hz2⟩ := info_parts infoTok
  generalize hL : scanF (s.size + 1) s 0 = L
  have HL := Lib.hid hL; have HI := Lib.hid hi; have HZ0 := Lib.hid hz0; have HZ1 := Lib.hid hz1; have HZ2 := Lib.hid hz2
  clear hL hi hz0 hz1 hz2
  go_enter Try.func7, Try.ntmps7
  go_wp2
  go_loopw [3, 4] (fun v x wr => ∃ (i n : Nat) (done : List Tok) (xs : List Value), i ≤ s.size ∧ x = .int .i64 i ∧ s.size < i + n ∧ done.length + n = s.size + 1 ∧ L = done ++ scanF n s i ∧
    wr.ownsRow w.heap.size 29 5 v done.length xs ∧ TokC (fun b => w.heap.size ≤ b ∧ v.ownBlock ≠ some b) wr done xs ∧ Below w.heap.size w wr) (fun v x wr => s.size - (intOf x).toNat)
  case atStart => exact ⟨0, s.size + 1, [], [], Nat.zero_le _, rfl, by omega, by simp, HL.out.symm, World.ownsRow_nil _ _ _ _, rfl, Below.refl _ _⟩
  case round =>
    obtain ⟨i, n, done, xs, hi, rfl, hn, hdn, hLe, hown, htc, hbw⟩ := hrel
    obtain ⟨m, rfl⟩ : ∃ m, n = m + 1 := ⟨n - 1, by omega⟩
    have hN := next_any s hs i hi wr
    have hgood := (tok_good s i hi).2.2.2.2
    rw [scanF] at hLe
    generalize tokAt s i = t at hN hLe hgood
    have hdl : done.length ≤ 1000001 := by omega
    have hws := hbw.size
    have HN := Lib.hid hN; have HGD := Lib.hid hgood; have HLE := Lib.hid hLe; have HO := Lib.hid hown; have HTC := Lib.hid htc; have HBW := Lib.hid hbw
    clear hN hgood hLe hown htc hbw
    go_wp2_with fail
    refine (HN.out).mono ?_
    rintro e w1 ⟨a, cap, rfl, hl, hb1⟩
    have hs1 := hb1.size
    have hO2 : ((w1.alloc (.cells #[.int .i64 t.k, .int .i64 t.i, .string t.t, .slice a t.l.len cap, .int .i64 t.err] 29)).alloc (.cells #[.int .i64 t.k, .int .i64 t.i, .string t.t, .slice a t.l.len cap, .int .i64 t.err] 29)).ownsRow w.heap.size 29 5 u3 done.length xs :=
      own_keep HO.out fun g _ hlt => (Below.heap_alloc _ _ _ (by simp only [World.size_alloc]; omega)).trans ((Below.heap_alloc _ _ _ (by omega)).trans (hb1.block g hlt))
    have HO2 := Lib.hid hO2; have HB1 := Lib.hid hb1; have HLL := Lib.hid hl
    clear hO2 hb1 hl
    go_wp2_with (at_builtin; refine wpList_append_lies _ rfl (.tmp 13) (.tmp 15) 23 rfl w.heap.size 29 i0 (.agg #[.int .i64 0, .int .i64 0, .string ⟨#[]⟩, .slice none 0 0, .int .i64 0]) 5 64 Try.underlying23 HI.out HZ0.out HZ1.out HZ2.out rfl (by decide) u3 done.length xs rfl HO2.out ⟨w1.heap.size + 1, 0, none⟩ 1 1 (tokCells t a cap) ?c0 rfl ?c2 ?c3 (by decide) ?c4 ?c5 ?c6 (w1.heap.size + 2) ?c7 ?_)
    case c0 => rfl
    case c2 => exact World.news_of_block (cs := #[.int .i64 t.k, .int .i64 t.i, .string t.t, .slice a t.l.len cap, .int .i64 t.err]) (t := 29) (fr := (0, 0)) (by have h := heap_alloc_new (w1.alloc (.cells #[.int .i64 t.k, .int .i64 t.i, .string t.t, .slice a t.l.len cap, .int .i64 t.err] 29)) (.cells #[.int .i64 t.k, .int .i64 t.i, .string t.t, .slice a t.l.len cap, .int .i64 t.err] 29); simp only [World.size_alloc] at h; exact h)
    case c3 => simp [tokCells, Value.oneCell']
    case c4 => unfold maxLen; omega
    case c5 => omega
    case c6 => simp only [World.size_alloc]; omega
    case c7 => simp only [World.size_alloc]
    intro g capn w3 hown3 hgrow hat hlt
    obtain ⟨htc3, hbw3⟩ := tok_grown (capn := capn) HO.out HTC.out HBW.out HB1.out HLL.out hgrow hat
    have hrow : w3.heap[w1.heap.size]? = some (.cells #[.int .i64 t.k, .int .i64 t.i, .string t.t, .slice a t.l.len cap, .int .i64 t.err] 29 (0, 0)) :=
      (hgrow.block _ (by simp only [World.size_alloc]; omega) (fun e => by have := (HO.out.lt _ e.symm).2; omega)).trans ((Below.heap_alloc _ _ _ (by simp only [World.size_alloc]; omega)).trans (heap_alloc_new _ _))
    have x0 : w3.cell? ⟨w1.heap.size, 0, none⟩ = some (.int .i64 t.k) := Lib.cell_of_heap hrow 0
    have HO3 := Lib.hid hown3; have HTC3 := Lib.hid htc3; have HB3 := Lib.hid hbw3
    clear hown3 htc3 hbw3 hrow hgrow hat hlt HO2 HN
    have hst : stopT t = (((t.k : Int) == 4) || ((t.k : Int) == 5)) := by
      unfold stopT
      rw [Bool.eq_iff_iff]
      simp only [Bool.or_eq_true, beq_iff_eq]
      omega
    cases k4 : ((t.k : Int) == 4)
    · cases k5 : ((t.k : Int) == 5)
      · rw [k4, k5] at hst
        have hst : stopT t = false := hst
        obtain ⟨g1, g2, g3⟩ := HGD.out hst
        have hL2 : L = (done ++ [t]) ++ scanF m s t.j := by rw [HLE.out, if_neg (by rw [hst]; decide)]; simp
        have HL2 := Lib.hid hL2
        clear hL2 hst
        go_wp2_with fail
        go_roundw
        case rel => exact ⟨t.j, m, done ++ [t], xs ++ tokCells t a cap, g3, rfl, by omega, by simp only [List.length_append, List.length_singleton]; omega, HL2.out, by simp only [List.length_append, List.length_singleton]; exact HO3.out, HTC3.out, HB3.out⟩
        case measure => simp [intOf]; omega
      · rw [k4, k5] at hst
        have hst : stopT t = true := hst
        have hL2 : L = done ++ [t] := by rw [HLE.out, if_pos hst]
        have HL2 := Lib.hid hL2
        clear hL2 hst
        go_wp2_with fail
        go_ret
        rw [HL2.out]
        exact ⟨g, capn, by simp only [List.length_append, List.length_singleton]; rfl, HTC3.out.at fun j u hu => by have := HO3.out.cells (g := g) rfl j u hu; rwa [Go.WideShapes.add_plain] at this, HB3.out⟩
    · rw [k4] at hst
      have hst : stopT t = true := hst
      have hL2 : L = done ++ [t] := by rw [HLE.out, if_pos hst]
      have HL2 := Lib.hid hL2
      clear hL2 hst
      go_wp2_with fail
      go_ret
      rw [HL2.out]
      exact ⟨g, capn, by simp only [List.length_append, List.length_singleton]; rfl, HTC3.out.at fun j u hu => by have := HO3.out.cells (g := g) rfl j u hu; rwa [Go.WideShapes.add_plain] at this, HB3.out⟩
end Lx
end Go.Proofs.Ytgpnleenejjnmaa
