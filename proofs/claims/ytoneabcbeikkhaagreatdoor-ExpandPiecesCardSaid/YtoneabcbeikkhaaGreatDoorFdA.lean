/- Pure: pieces as fields: what has ended, and what may have begun; their text. -/
import Derived.Test.YtoneabcbeikkhaaGreatDoorClsB
namespace Go.Proofs.YtoneabcbeikkhaaGreatDoor
open Go.RowKit Cls
namespace Fld
/-- A piece: its text, whether it is quoted, whether it is a cut. -/
abbrev Pc := ByteArray × Bool × Bool
abbrev bs (a : ByteArray) : List UInt8 := a.data.toList
def tx (l : List UInt8) : ByteArray := ⟨l.toArray⟩
theorem bs_inj {a b : ByteArray} (h : bs a = bs b) : a = b := by
  cases a; cases b; simp only [bs] at h; congr; exact Array.ext' h
theorem bs_tx (l : List UInt8) : bs (tx l) = l := rfl
theorem tx_bs (a : ByteArray) : tx (bs a) = a := bs_inj rfl
theorem tx_size (l : List UInt8) : (tx l).size = l.length := by simp [tx, ByteArray.size]
theorem bs_len (a : ByteArray) : (bs a).length = a.size := by simp [bs]
theorem tx_cat (a b : List UInt8) : tx a ++ tx b = tx (a ++ b) := by
  apply bs_inj; simp [bs, tx]

structure S where
  E : List ByteArray
  g : Bool
  t : List UInt8
def s0 : S := ⟨[], false, []⟩
def growS (s : S) (l : List UInt8) : S := ⟨s.E, true, s.t ++ l⟩
def endS (s : S) : S := bif s.g then ⟨s.E ++ [tx s.t], false, []⟩ else s
def someS (s : S) (l : List UInt8) : S := bif l.isEmpty then s else growS s l
def byteS (s : S) (c : UInt8) : S := bif breakB c.toNat then endS s else growS s [c]
def bytesS (s : S) (l : List UInt8) : S := l.foldl byteS s
def pieceS (s : S) (p : Pc) : S := bif p.2.2 then endS s else bif p.2.1 then growS s (bs p.1) else bytesS s (bs p.1)
def piecesS (s : S) (ps : List Pc) : S := ps.foldl pieceS s
def splitS (ps : List Pc) : List ByteArray := (endS (piecesS s0 ps)).E
/-- Nothing stands where nothing has begun. -/
def Inv (s : S) : Prop := s.g = false → s.t = []
theorem Inv.zero : Inv s0 := fun _ => rfl
theorem Inv.grow (s : S) (l : List UInt8) : Inv (growS s l) := fun h => by cases h
theorem Inv.ends {s : S} (h : Inv s) : Inv (endS s) := by
  unfold endS; cases hg : s.g
  · exact h
  · exact fun _ => rfl
theorem end_g {s : S} : (endS s).g = false := by
  unfold endS; cases hg : s.g
  · exact hg
  · rfl
theorem Inv.some {s : S} (h : Inv s) (l : List UInt8) : Inv (someS s l) := by
  unfold someS; cases l.isEmpty
  · exact Inv.grow _ _
  · exact h
theorem Inv.byte {s : S} (h : Inv s) (c : UInt8) : Inv (byteS s c) := by
  unfold byteS; cases breakB c.toNat
  · exact Inv.grow _ _
  · exact h.ends
theorem Inv.bytes {s : S} (h : Inv s) : ∀ l : List UInt8, Inv (bytesS s l) := by
  intro l
  induction l generalizing s with
  | nil => exact h
  | cons c r ih => exact ih (h.byte c)
theorem Inv.piece {s : S} (h : Inv s) (p : Pc) : Inv (pieceS s p) := by
  unfold pieceS; cases p.2.2
  · cases p.2.1
    · exact h.bytes _
    · exact Inv.grow _ _
  · exact h.ends
theorem Inv.pieces {s : S} (h : Inv s) : ∀ ps : List Pc, Inv (piecesS s ps) := by
  intro ps
  induction ps generalizing s with
  | nil => exact h
  | cons c r ih => exact ih (h.piece c)
theorem grow_grow (s : S) (l m : List UInt8) : growS (growS s l) m = growS s (l ++ m) := by simp [growS]
theorem some_nil (s : S) : someS s [] = s := rfl
theorem grow_some (s : S) (m : List UInt8) (c : UInt8) : growS (someS s m) [c] = someS s (m ++ [c]) := by
  cases m with
  | nil => rfl
  | cons x r => exact grow_grow s (x :: r) [c]
theorem bytes_snoc (s : S) (l : List UInt8) (c : UInt8) : bytesS s (l ++ [c]) = byteS (bytesS s l) c := by simp [bytesS]
theorem pieces_snoc (s : S) (l : List Pc) (p : Pc) : piecesS s (l ++ [p]) = pieceS (piecesS s l) p := by simp [piecesS]
theorem pieces_app (s : S) (l m : List Pc) : piecesS s (l ++ m) = piecesS (piecesS s l) m := by simp [piecesS]
/-- A byte that is none, behind what has no break since. -/
theorem bytes_on {s s1 : S} {l : List UInt8} {m : List UInt8} {c : UInt8} (h : bytesS s l = someS s1 m) (hc : breakB c.toNat = false) : bytesS s (l ++ [c]) = someS s1 (m ++ [c]) := by
  rw [bytes_snoc, h, byteS, hc, cond_false, grow_some]
theorem bytes_break {s s1 : S} {l : List UInt8} {m : List UInt8} {c : UInt8} (h : bytesS s l = someS s1 m) (hc : breakB c.toNat = true) : bytesS s (l ++ [c]) = someS (endS (someS s1 m)) [] := by
  rw [bytes_snoc, h, byteS, hc, cond_true, some_nil]
/-- How much a state holds. -/
def nS (s : S) : Nat := (s.E.map (·.size)).sum + s.E.length + s.t.length + (bif s.g then 1 else 0)
theorem nS_grow (s : S) (l : List UInt8) : nS (growS s l) ≤ nS s + l.length + 1 := by
  unfold nS growS; cases s.g <;> simp <;> omega
theorem nS_end (s : S) : nS (endS s) ≤ nS s := by
  unfold endS; cases hg : s.g
  · exact Nat.le_refl _
  · simp [nS, hg, tx_size]; omega
theorem nS_some (s : S) (l : List UInt8) : nS (someS s l) ≤ nS s + 2 * l.length := by
  cases l with
  | nil => simp [someS]
  | cons x r => have := nS_grow s (x :: r); simp only [someS, List.isEmpty_cons, cond_false, List.length_cons] at this ⊢; omega
theorem nS_byte (s : S) (c : UInt8) : nS (byteS s c) ≤ nS s + 2 := by
  unfold byteS; cases breakB c.toNat
  · have := nS_grow s [c]; simp at this ⊢; omega
  · have := nS_end s; simp; omega
theorem nS_bytes (s : S) (l : List UInt8) : nS (bytesS s l) ≤ nS s + 2 * l.length := by
  induction l generalizing s with
  | nil => exact Nat.le_refl _
  | cons c r ih => have := ih (byteS s c); have := nS_byte s c; simp only [bytesS, List.foldl_cons, List.length_cons] at *; omega
def weight (ps : List Pc) : Nat := (ps.map fun p => p.1.size + 1).sum
theorem nS_piece (s : S) (p : Pc) : nS (pieceS s p) ≤ nS s + 2 * (p.1.size + 1) := by
  have hl := bs_len p.1
  unfold pieceS; cases p.2.2
  · cases p.2.1
    · have := nS_bytes s (bs p.1); simp only [cond_false]; omega
    · have := nS_grow s (bs p.1); simp only [cond_false, cond_true]; omega
  · have := nS_end s; simp only [cond_true]; omega
theorem nS_pieces (s : S) (ps : List Pc) : nS (piecesS s ps) ≤ nS s + 2 * weight ps := by
  induction ps generalizing s with
  | nil => exact Nat.le_refl _
  | cons p r ih => have := ih (pieceS s p); have := nS_piece s p; simp only [piecesS, List.foldl_cons, weight, List.map_cons, List.sum_cons] at *; omega
theorem nS_split (ps : List Pc) : ((splitS ps).map (·.size)).sum + (splitS ps).length ≤ 2 * weight ps := by
  have h1 := nS_pieces s0 ps
  have h2 := nS_end (piecesS s0 ps)
  have : nS s0 = 0 := rfl
  unfold splitS
  have h3 : ((endS (piecesS s0 ps)).E.map (·.size)).sum + (endS (piecesS s0 ps)).E.length ≤ nS (endS (piecesS s0 ps)) := by unfold nS; omega
  omega
theorem weight_take (ps : List Pc) : ∀ k, weight (ps.take k) ≤ weight ps := by
  induction ps with
  | nil => intro k; simp
  | cons p r ih =>
    intro k
    cases k with
    | zero => simp [weight]
    | succ k => have := ih k; simp only [weight, List.take_succ_cons, List.map_cons, List.sum_cons] at this ⊢; omega
theorem weight_snoc (l : List Pc) (p : Pc) : weight (l ++ [p]) = weight l + (p.1.size + 1) := by simp [weight]
theorem weight_app (l m : List Pc) : weight (l ++ m) = weight l + weight m := by simp [weight]
theorem weight_mem {ps : List Pc} {p : Pc} (h : p ∈ ps) : p.1.size + 1 ≤ weight ps := by
  induction ps with
  | nil => cases h
  | cons q r ih =>
    simp only [weight, List.map_cons, List.sum_cons] at ih ⊢
    rcases List.mem_cons.1 h with rfl | h
    · omega
    · have := ih h; omega
theorem len_le (ps : List Pc) : ps.length ≤ weight ps := by
  induction ps with
  | nil => simp
  | cons p r ih => simp only [weight, List.map_cons, List.sum_cons, List.length_cons] at ih ⊢; omega

/-! The text. -/
def joinP (p : Pc) : List UInt8 := bif p.2.2 then [32] else bs p.1
def joinS (ps : List Pc) : List UInt8 := ps.flatMap joinP
theorem join_snoc (ps : List Pc) (p : Pc) : joinS (ps ++ [p]) = joinS ps ++ joinP p := by simp [joinS]
theorem joinP_len (p : Pc) : (joinP p).length ≤ p.1.size + 1 := by
  unfold joinP; cases p.2.2
  · simp only [cond_false, bs_len]; omega
  · simp
theorem joinS_len (ps : List Pc) : (joinS ps).length ≤ weight ps := by
  induction ps with
  | nil => simp [joinS]
  | cons p r ih => have := joinP_len p; simp only [joinS, weight, List.flatMap_cons, List.length_append, List.map_cons, List.sum_cons] at ih ⊢; omega

/-! Two rows of pieces, with a cut between. -/
def pre (E : List ByteArray) (s : S) : S := ⟨E ++ s.E, s.g, s.t⟩
theorem pre_end (E : List ByteArray) (s : S) : endS (pre E s) = pre E (endS s) := by
  unfold endS pre; cases hg : s.g <;> simp [hg]
theorem pre_grow (E : List ByteArray) (s : S) (l : List UInt8) : growS (pre E s) l = pre E (growS s l) := rfl
theorem pre_byte (E : List ByteArray) (s : S) (c : UInt8) : byteS (pre E s) c = pre E (byteS s c) := by
  unfold byteS; cases breakB c.toNat
  · rfl
  · exact pre_end E s
theorem pre_bytes (E : List ByteArray) (l : List UInt8) : ∀ s : S, bytesS (pre E s) l = pre E (bytesS s l) := by
  induction l with
  | nil => exact fun _ => rfl
  | cons c r ih => intro s; simp only [bytesS, List.foldl_cons] at ih ⊢; rw [pre_byte]; exact ih _
theorem pre_piece (E : List ByteArray) (s : S) (p : Pc) : pieceS (pre E s) p = pre E (pieceS s p) := by
  unfold pieceS; cases p.2.2
  · cases p.2.1
    · exact pre_bytes E _ s
    · rfl
  · exact pre_end E s
theorem pre_pieces (E : List ByteArray) (ps : List Pc) : ∀ s : S, piecesS (pre E s) ps = pre E (piecesS s ps) := by
  induction ps with
  | nil => exact fun _ => rfl
  | cons c r ih => intro s; simp only [piecesS, List.foldl_cons] at ih ⊢; rw [pre_piece]; exact ih _
theorem ended {s : S} (h : Inv s) : endS s = pre (endS s).E s0 := by
  have hi := h.ends end_g
  have hg : (endS s).g = false := end_g
  revert hi hg
  generalize endS s = u
  obtain ⟨E, g, t⟩ := u
  rintro rfl rfl
  simp [pre, s0]
theorem split_both (a b : List Pc) (x : ByteArray) (q : Bool) : splitS (a ++ (x, q, true) :: b) = splitS a ++ splitS b := by
  unfold splitS
  rw [pieces_app]
  show (endS (piecesS (endS (piecesS s0 a)) b)).E = _
  rw [ended (Inv.zero.pieces a), pre_pieces, pre_end]
  simp [pre, s0]

/-! What isn't quoted. -/
def Fine (s : S) : Prop := (∀ f ∈ s.E, bs f ≠ [] ∧ ∀ c ∈ bs f, breakB c.toNat = false) ∧ (∀ c ∈ s.t, breakB c.toNat = false) ∧ (s.g = true → s.t ≠ [])
theorem Fine.ends {s : S} (h : Fine s) : Fine (endS s) := by
  unfold endS; cases hg : s.g
  · exact h
  · refine ⟨fun f hf => ?_, fun c hc => (by cases hc), fun e => by cases e⟩
    simp only [cond_true, List.mem_append, List.mem_singleton] at hf
    rcases hf with hf | rfl
    · exact h.1 f hf
    · exact ⟨h.2.2 hg, h.2.1⟩
theorem Fine.byte {s : S} (h : Fine s) (c : UInt8) : Fine (byteS s c) := by
  unfold byteS; cases hc : breakB c.toNat
  · refine ⟨h.1, fun d hd => ?_, fun _ => by simp [growS]⟩
    simp only [cond_false, growS, List.mem_append, List.mem_singleton] at hd
    rcases hd with hd | rfl
    · exact h.2.1 d hd
    · exact hc
  · exact h.ends
theorem Fine.bytes (l : List UInt8) : ∀ {s : S}, Fine s → Fine (bytesS s l) := by
  induction l with
  | nil => exact fun h => h
  | cons c r ih => exact fun h => ih (h.byte c)
theorem Fine.pieces (ps : List Pc) : ∀ {s : S}, Fine s → (∀ p ∈ ps, p.2.1 = false) → Fine (piecesS s ps) := by
  induction ps with
  | nil => exact fun h _ => h
  | cons p r ih =>
    intro s h hq
    refine ih ?_ fun x hx => hq x (List.mem_cons_of_mem _ hx)
    unfold pieceS
    rw [hq p List.mem_cons_self]
    cases p.2.2
    · exact h.bytes _
    · exact h.ends
theorem split_fine {ps : List Pc} (h : ∀ p ∈ ps, p.2.1 = false) : ∀ f ∈ splitS ps, bs f ≠ [] ∧ ∀ c ∈ bs f, breakB c.toNat = false :=
  (Fine.pieces ps (s := s0) ⟨fun f hf => (by cases hf), fun c hc => (by cases hc), fun e => by cases e⟩ h).ends.1

/-! Quoted texts, with cuts between. -/
def cutP : Pc := (tx [], false, true)
def quoP (x : ByteArray) : Pc := (x, true, false)
def qP : List ByteArray → List Pc
  | [] => []
  | x :: r => quoP x :: r.flatMap fun y => [cutP, quoP y]
theorem qP_snoc (l : List ByteArray) (y : ByteArray) : qP (l ++ [y]) = qP l ++ ((bif l.isEmpty then [] else [cutP]) ++ [quoP y]) := by
  cases l with
  | nil => rfl
  | cons x r => simp [qP]
theorem qP_len (l : List ByteArray) : (qP l).length ≤ 2 * l.length := by
  have h : ∀ r : List ByteArray, (r.flatMap fun y => [cutP, quoP y]).length = 2 * r.length := by
    intro r
    induction r with
    | nil => rfl
    | cons x r ih => simp only [List.flatMap_cons, List.length_append, List.length_cons, List.length_nil, ih]; omega
  cases l with
  | nil => simp [qP]
  | cons x r => simp only [qP, List.length_cons, h]; omega
theorem qP_weight (l : List ByteArray) (n : Nat) (h : ∀ x ∈ l, x.size ≤ n) : weight (qP l) ≤ l.length * (n + 2) := by
  have hr : ∀ r : List ByteArray, (∀ x ∈ r, x.size ≤ n) → weight (r.flatMap fun y => [cutP, quoP y]) ≤ r.length * (n + 2) := by
    intro r
    induction r with
    | nil => intro _; simp [weight]
    | cons x r ih =>
      intro hx
      have h1 := ih fun y hy => hx y (List.mem_cons_of_mem _ hy)
      have h2 := hx x List.mem_cons_self
      rw [List.flatMap_cons, weight_app, List.length_cons, Nat.add_mul]
      have : weight [cutP, quoP x] = 0 + 1 + (x.size + 1) := by simp [weight, cutP, quoP, tx_size]
      omega
  cases l with
  | nil => simp [qP, weight]
  | cons x r =>
    have h1 := hr r fun y hy => h y (List.mem_cons_of_mem _ hy)
    have h2 := h x List.mem_cons_self
    have : weight (qP (x :: r)) = x.size + 1 + weight (r.flatMap fun y => [cutP, quoP y]) := by simp [qP, weight, quoP]
    rw [this, List.length_cons, Nat.add_mul]
    omega
theorem q_state (r : List ByteArray) : ∀ (E : List ByteArray) (x : ByteArray), ∃ (F : List ByteArray) (y : ByteArray), piecesS ⟨E, true, bs x⟩ (r.flatMap fun y => [cutP, quoP y]) = ⟨F, true, bs y⟩ ∧ F ++ [y] = E ++ x :: r := by
  induction r with
  | nil => exact fun E x => ⟨E, x, rfl, rfl⟩
  | cons z r ih =>
    intro E x
    obtain ⟨F, y, h1, h2⟩ := ih (E ++ [x]) z
    refine ⟨F, y, ?_, by rw [h2]; simp⟩
    rw [← h1]
    rfl
theorem split_quotes (l : List ByteArray) : splitS (qP l) = l := by
  cases l with
  | nil => rfl
  | cons x r =>
    obtain ⟨F, y, h1, h2⟩ := q_state r [] x
    have : piecesS s0 (qP (x :: r)) = ⟨F, true, bs y⟩ := h1
    rw [splitS, this]
    show F ++ [tx (bs y)] = _
    rw [tx_bs, h2, List.nil_append]
end Fld
end Go.Proofs.YtoneabcbeikkhaaGreatDoor
