/- Words, one behind the other, as they lie in memory; an argument that is such. -/
import Derived.Test.YtmpongcambbihaaPtA
import Derived.Test.YtmpongcambbihaaLawP
namespace Go.Proofs.Ytmpongcambbihaa
open Go.RowKit Go.WideShapes Go.ChangeShapes
namespace Pt
theorem hbytesW : Try.prog.bytesOf 39 = 24 := by kernel_rfl
theorem hcW : Try.prog.cellsOf 39 = 1 := by kernel_rfl

/-- The words lie in block b from cell o on. -/
def WAt (w : World) (b : Nat) : Nat → List PL → Prop
  | _, [] => True
  | o, l :: r => (∃ a cap, w.cell? ⟨b, o, none⟩ = some (.slice a l.len cap) ∧ Lies w a cap l) ∧ WAt w b (o + 1) r
def WLies (w : World) (a : Option Addr) (cap : Nat) (ws : List PL) : Prop :=
  ws.length ≤ cap ∧ ws.length ≤ R ∧ (ws = [] ∨ ∃ b o, a = some ⟨b, o, none⟩ ∧ WAt w b o ws)
theorem WLies.le {w : World} {a : Option Addr} {cap : Nat} {ws : List PL} (h : WLies w a cap ws) : ws.length ≤ 140737488351232 := h.2.1
theorem WAt.below {w w' : World} (hb : Below w.heap.size w w') : ∀ {ws : List PL} {b o : Nat}, WAt w b o ws → WAt w' b o ws
  | [], _, _, _ => trivial
  | _ :: _, b, o, ⟨⟨a, cap, h, hl⟩, hr⟩ => ⟨⟨a, cap, (hb.cell (p := ⟨b, o, none⟩) (World.block_lt_of_cell? _ _ h)).trans h, hl.below hb⟩, WAt.below hb hr⟩
theorem WLies.below {w w' : World} {a : Option Addr} {cap : Nat} {ws : List PL} (h : WLies w a cap ws) (hb : Below w.heap.size w w') : WLies w' a cap ws := by
  obtain ⟨h1, h2, h3⟩ := h
  refine ⟨h1, h2, ?_⟩
  rcases h3 with h3 | ⟨b, o, ha, h3⟩
  · exact .inl h3
  · exact .inr ⟨b, o, ha, WAt.below hb h3⟩
theorem WAt.get {w : World} {b : Nat} : ∀ {ws : List PL} {o n : Nat} {l : PL}, WAt w b o ws → ws[n]? = some l → ∃ a cap, w.cell? ⟨b, o + n, none⟩ = some (.slice a l.len cap) ∧ Lies w a cap l
  | [], _, _, _, _, h => by simp at h
  | _ :: _, o, 0, _, h, hn => by
    simp only [List.getElem?_cons_zero, Option.some.injEq] at hn
    subst hn
    exact h.1
  | _ :: r, o, n + 1, l, h, hn => by
    have := WAt.get (n := n) h.2 (by simpa using hn)
    rwa [show o + 1 + n = o + (n + 1) by omega] at this
theorem WLies.get {w : World} {a : Option Addr} {cap n : Nat} {ws : List PL} {l : PL} (h : WLies w a cap ws) (hn : ws[n]? = some l) :
    ∃ b o, a = some ⟨b, o, none⟩ ∧ b < w.heap.size ∧ ∃ a' cap', w.cell? ⟨b, o + n, none⟩ = some (.slice a' l.len cap') ∧ Lies w a' cap' l := by
  obtain ⟨_, _, h3⟩ := h
  rcases h3 with rfl | ⟨b, o, ha, h3⟩
  · simp at hn
  · obtain ⟨a', cap', hc, hl⟩ := h3.get hn
    exact ⟨b, o, ha, World.block_lt_of_cell? _ _ hc, a', cap', hc, hl⟩

section
variable {H : Type} {enc : TypeId × Value → H} {w : World} {base : Nat} {held : Bool}
set_option maxHeartbeats 1000000 in
set_option maxRecDepth 100000 in
theorem open_wl {ty : TypeId} (hty : Try.prog.underlying ty = some (.slice 39)) (fuel : Nat) (cs : List Value) (x : DataW H × List MemPlace) (h : DataW.trod enc Try.prog w base (fun _ => true) held fuel ty cs = some x)
    (hR : ∀ n ∈ x.1.weights Try.prog ty, n ≤ R) : ∃ a cap ws, cs = [.slice a (List.length ws) cap] ∧ WLies w a cap ws := by
  rcases DataW.trod_slice hty h with ⟨rfl, rfl⟩ | ⟨a, len, cap, elems, rest, n, rfl, rfl, rfl, hb, hl, hm, hlen, hel, hsp, hns⟩
  · exact ⟨none, 0, [], rfl, Nat.le_refl _, Nat.zero_le _, .inl rfl⟩
  · obtain ⟨b, off, spot⟩ := a
    have hcap : cap ≤ R := by
      have h1 := hR ((elems.length + rest.length) * Try.prog.bytesOf 39) (by simp [DataW.weights, hty])
      rw [hbytesW] at h1
      have := (hsp rfl).1
      omega
    have hsp0 : len = 0 ∨ spot = none := by
      rcases Nat.eq_zero_or_pos len with h0 | h0
      · exact .inl h0
      · right
        have he := hel 0 h0
        rw [List.getElem?_eq_getElem (by omega)] at he
        obtain ⟨cs', hcs, _⟩ := Option.bind_eq_some_iff.1 he
        rw [hcW] at hcs
        obtain ⟨_, hl5, hcell⟩ := World.cells?_some hcs
        have h1 := hcell 0 (by omega)
        rw [List.getElem?_eq_getElem (by omega)] at h1
        simpa [Addr.add] using World.cell?_spot h1
    have build : ∀ j, j ≤ len → ∃ ws : List PL, ws.length = j ∧ (j = 0 ∨ spot = none ∧ WAt w b (off + (len - j)) ws) := by
      intro j
      induction j with
      | zero => exact fun _ => ⟨[], rfl, .inl rfl⟩
      | succ j ihj =>
        intro hj
        have hoff : off + (len - (j + 1)) + 1 = off + (len - j) := by clear ihj hel hsp hns hR; omega
        obtain ⟨r, hr, har⟩ := ihj (by omega)
        have hi : len - (j + 1) < elems.length := by omega
        have he := hel (len - (j + 1)) (by omega)
        rw [List.getElem?_eq_getElem hi] at he
        obtain ⟨cs', hcs, hy⟩ := Option.bind_eq_some_iff.1 he
        rw [hcW] at hcs
        obtain ⟨_, hl1, hcell⟩ := World.cells?_some hcs
        have hRi : ∀ n ∈ (elems[len - (j + 1)]).1.weights Try.prog 39, n ≤ R := fun n hn => hR n (by
          simp only [DataW.weights, hty]
          exact List.mem_cons_of_mem _ (List.mem_append_left _ (weights_all (List.mem_map_of_mem (List.getElem_mem hi)) n hn)))
        obtain ⟨a1, c1, l1, rfl, hli⟩ := open_pl Try.underlying39 _ _ _ hy hRi
        obtain rfl : spot = none := hsp0.resolve_left (by omega)
        refine ⟨l1 :: r, by rw [List.length_cons, hr], .inr ⟨rfl, ⟨a1, c1, ?_, hli⟩, ?_⟩⟩
        · have := (hcell 0 (by omega)).trans (rfl : [Value.slice a1 l1.len c1][0]? = some (.slice a1 l1.len c1))
          rw [add_plain, add_plain] at this
          simpa using this
        · rcases har with rfl | ⟨_, har⟩
          · cases r with
            | nil => trivial
            | cons => simp at hr
          · rwa [hoff]
    obtain ⟨ws, hll, hat⟩ := build len (Nat.le_refl _)
    refine ⟨some ⟨b, off, spot⟩, cap, ws, by rw [hll], by omega, by omega, ?_⟩
    rcases hat with h0 | ⟨rfl, hat⟩
    · left
      cases ws with
      | nil => rfl
      | cons => simp only [List.length_cons] at hll; omega
    · exact .inr ⟨b, off, rfl, by simpa using hat⟩
end
end Pt
namespace Law
section
variable {H : Type} {enc : TypeId × Value → H}
set_option maxRecDepth 100000 in
/-- An argument that is words. -/
theorem words_arg {W : World} {base : Nat} {v : Value} {d : DataW H} {p : List MemPlace} (hv : Value.okWide Try.prog W .any base 23 v) (h : DataW.Trod enc Try.prog W 0 (fun _ => true) true 23 v d p) (hw : ∀ n ∈ d.weights Try.prog 23, n ≤ Pt.R) :
    ∃ a cap ws, v = .slice a (List.length ws) cap ∧ Pt.WLies W a cap ws := by
  obtain ⟨a0, len, cap, rfl⟩ := okWide_slice Try.underlying23 hv
  obtain ⟨fuel, hf⟩ := h
  obtain ⟨a, cap', ws, hc, hl⟩ := Pt.open_wl Try.underlying23 fuel _ _ hf hw
  exact ⟨a, cap', ws, by simpa [Value.cells] using hc, hl⟩
end
end Law
end Go.Proofs.Ytmpongcambbihaa
