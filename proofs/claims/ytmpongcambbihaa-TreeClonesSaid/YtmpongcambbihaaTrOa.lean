/- Memory that a copy owns: intervals of blocks. -/
import Derived.Test.YtmpongcambbihaaTrP
namespace Go.Proofs.Ytmpongcambbihaa
open Go.RowKit Go.Sort
namespace Ow
open Cls Pt Tr

/-- A thing at (b, o), with all that it leads to in blocks from lo on, below hi. -/
abbrev Elem (T : Type) := World → Nat → Nat → Nat → Nat → T → Prop
/-- It goes by its own k cells and its own blocks. -/
structure Stable {T : Type} (k : Nat) (E : Elem T) : Prop where
  keep : ∀ {w w' : World} {b o lo hi : Nat} {t : T}, E w b o lo hi t → (∀ j, j < k → w'.cell? ⟨b, o + j, none⟩ = w.cell? ⟨b, o + j, none⟩) → (∀ c, lo ≤ c → c < hi → w'.heap[c]? = w.heap[c]?) → E w' b o lo hi t
  le : ∀ {w : World} {b o lo hi : Nat} {t : T}, E w b o lo hi t → lo ≤ hi
  low : ∀ {w : World} {b o lo lo' hi : Nat} {t : T}, E w b o lo hi t → lo' ≤ lo → E w b o lo' hi t
/-- The first n things of a row in block b are there, each with an interval of its own. -/
def Done {T : Type} (k : Nat) (E : Elem T) (get : Nat → Option T) (w : World) (b : Nat) (n : Nat) (ms : Nat → Nat) : Prop :=
  ms 0 = b + 1 ∧ (∀ j, j < n → ms j ≤ ms (j + 1)) ∧ ∀ j t, j < n → get j = some t → E w b (j * k) (ms j) (ms (j + 1)) t
theorem ms_le {ms : Nat → Nat} {n : Nat} (h : ∀ j, j < n → ms j ≤ ms (j + 1)) : ∀ i j, i ≤ j → j ≤ n → ms i ≤ ms j := by
  intro i j hij
  induction j with
  | zero =>
    intro _
    obtain rfl : i = 0 := by omega
    exact Nat.le_refl _
  | succ j ih =>
    intro hn
    rcases Nat.lt_or_ge j i with h1 | h1
    · obtain rfl : i = j + 1 := by omega
      exact Nat.le_refl _
    · exact Nat.le_trans (ih h1 (by omega)) (h j (by omega))
theorem Done.zero {T : Type} {k : Nat} {E : Elem T} {get : Nat → Option T} (w : World) (b : Nat) : Done k E get w b 0 (fun _ => b + 1) :=
  ⟨rfl, fun _ h => absurd h (Nat.not_lt_zero _), fun _ _ h => absurd h (Nat.not_lt_zero _)⟩
/-- One thing more. -/
theorem Done.step {T : Type} {k : Nat} {E : Elem T} {get : Nat → Option T} (hE : Stable k E) {w W : World} {b n : Nat} {ms : Nat → Nat} {t : T} (h : Done k E get w b n ms) (hn : ms n ≤ w.heap.size) (hs : w.heap.size ≤ W.heap.size)
    (hcell : ∀ i, i < n * k → W.cell? ⟨b, i, none⟩ = w.cell? ⟨b, i, none⟩) (hblk : ∀ c, b < c → c < w.heap.size → W.heap[c]? = w.heap[c]?) (ht : get n = some t) (hnew : E W b (n * k) w.heap.size W.heap.size t) :
    Done k E get W b (n + 1) (fun i => if i ≤ n then ms i else W.heap.size) := by
  obtain ⟨h0, h1, h2⟩ := h
  have hb : ∀ i, i ≤ n → b + 1 ≤ ms i := fun i hi => by rw [← h0]; exact ms_le h1 0 i (Nat.zero_le _) hi
  have e2 : ¬ n + 1 ≤ n := by omega
  refine ⟨by simp [h0], fun j hj => ?_, fun j u hj hu => ?_⟩
  · rcases Nat.lt_or_ge j n with hlt | hge
    · have e1 : j ≤ n := by omega
      have e3 : j + 1 ≤ n := by omega
      simp only [e1, e3, if_true]
      exact h1 j hlt
    · obtain rfl : j = n := by omega
      simp only [e2, Nat.le_refl, if_true, if_false]
      omega
  · rcases Nat.lt_or_ge j n with hlt | hge
    · have e1 : j ≤ n := by omega
      have e3 : j + 1 ≤ n := by omega
      simp only [e1, e3, if_true]
      have hm := ms_le h1 (j + 1) n e3 (Nat.le_refl _)
      refine hE.keep (h2 j u hlt hu) (fun i hi => hcell _ ?_) fun c hc1 hc2 => hblk c ?_ ?_
      · have : (j + 1) * k ≤ n * k := Nat.mul_le_mul_right _ e3
        rw [Nat.succ_mul] at this
        omega
      · have := hb j e1; omega
      · omega
    · obtain rfl : j = n := by omega
      simp only [e2, Nat.le_refl, if_true, if_false]
      rw [ht] at hu
      cases hu
      exact hE.low hnew hn
/-- A slice that a copy answers: its row is the first block of its own. -/
def OwnR {T : Type} (k : Nat) (E : Elem T) (get : Nat → Option T) (w : World) (lo hi : Nat) (a : Option Addr) (cap n : Nat) : Prop :=
  n ≤ cap ∧ n ≤ R ∧ lo ≤ hi ∧ (n = 0 ∨ ∃ b ms, a = some ⟨b, 0, none⟩ ∧ lo ≤ b ∧ b < hi ∧ ms n ≤ hi ∧ (∃ row ty, w.heap[b]? = some (.cells row ty (0, 0))) ∧ Done k E get w b n ms)
theorem OwnR.keep {T : Type} {k : Nat} {E : Elem T} {get : Nat → Option T} (hE : Stable k E) {w w' : World} {lo hi : Nat} {a : Option Addr} {cap n : Nat} (h : OwnR k E get w lo hi a cap n) (hk : ∀ c, lo ≤ c → c < hi → w'.heap[c]? = w.heap[c]?) : OwnR k E get w' lo hi a cap n := by
  obtain ⟨h1, h2, h3, h4⟩ := h
  refine ⟨h1, h2, h3, h4.imp id ?_⟩
  rintro ⟨b, ms, ha, hb1, hb2, hm, ⟨row, ty, hrow⟩, h0, hmono, hd⟩
  refine ⟨b, ms, ha, hb1, hb2, hm, ⟨row, ty, (hk b hb1 hb2).trans hrow⟩, h0, hmono, fun j t hj ht => ?_⟩
  have i1 := ms_le hmono (j + 1) n (by omega) (Nat.le_refl _)
  have i0 := ms_le hmono 0 j (Nat.zero_le _) (by omega)
  exact hE.keep (hd j t hj ht) (fun i _ => World.cell?_of_block (w := w) (a := ⟨b, _, none⟩) (hk b hb1 hb2)) fun c hc1 hc2 => hk c (by omega) (by omega)
theorem OwnR.low {T : Type} {k : Nat} {E : Elem T} {get : Nat → Option T} {w : World} {lo lo' hi : Nat} {a : Option Addr} {cap n : Nat} (h : OwnR k E get w lo hi a cap n) (hl : lo' ≤ lo) : OwnR k E get w lo' hi a cap n :=
  ⟨h.1, h.2.1, by have := h.2.2.1; omega, h.2.2.2.imp id fun ⟨b, ms, ha, hb, hr⟩ => ⟨b, ms, ha, by omega, hr⟩⟩
theorem OwnR.high {T : Type} {k : Nat} {E : Elem T} {get : Nat → Option T} {w : World} {lo hi hi' : Nat} {a : Option Addr} {cap n : Nat} (h : OwnR k E get w lo hi a cap n) (hl : hi ≤ hi') : OwnR k E get w lo hi' a cap n :=
  ⟨h.1, h.2.1, by have := h.2.2.1; omega, h.2.2.2.imp id fun ⟨b, ms, ha, hb, hb2, hm, hr⟩ => ⟨b, ms, ha, hb, by omega, by omega, hr⟩⟩
/-- Things that need no memory but their cells. -/
theorem stable_flat {T : Type} (k : Nat) (P : World → Nat → Nat → T → Prop) (h : ∀ {w w' : World} {b o : Nat} {t : T}, P w b o t → (∀ j, j < k → w'.cell? ⟨b, o + j, none⟩ = w.cell? ⟨b, o + j, none⟩) → P w' b o t) : Stable k (fun w b o lo hi t => lo ≤ hi ∧ P w b o t) :=
  ⟨fun h1 h2 _ => ⟨h1.1, h h1.2 h2⟩, fun h => h.1, fun h1 h2 => ⟨by have := h1.1; omega, h1.2⟩⟩
end Ow
end Go.Proofs.Ytmpongcambbihaa
