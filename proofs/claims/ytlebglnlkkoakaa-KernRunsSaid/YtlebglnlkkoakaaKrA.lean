/- The reference's table in memory: At, Live. -/
import Derived.Test.YtlebglnlkkoakaaKnP
import Derived.Test.YtlebglnlkkoakaaKsB
namespace Go.Proofs.Ytlebglnlkkoakaa
open Go.RowKit Go.Maps
namespace Kn
/-- A process's cells, as the reference has it. -/
def qcells (p : P) : List Value := [.int .i64 p.pid, .int .i64 p.par, .int .i64 p.st, .bool p.live, .int .u32 p.ig, .int .u32 p.ca, .int .u32 p.pe]
def lcells (l : List P) : List Value := l.flatMap qcells
theorem lcells_len (l : List P) : (lcells l).length = l.length * 7 := by
  unfold lcells
  induction l with
  | nil => rfl
  | cons a r ih => rw [List.flatMap_cons, List.length_append, ih]; simp [qcells]; omega
theorem lcells_at {l : List P} {j : Nat} {p : P} (h : l[j]? = some p) (i : Nat) (hi : i < 7) : (lcells l)[j * 7 + i]? = (qcells p)[i]? := by
  induction l generalizing j with
  | nil => simp at h
  | cons a r ih =>
    unfold lcells
    rw [List.flatMap_cons]
    cases j with
    | zero =>
      simp at h; subst h
      rw [List.getElem?_append_left (by simp [qcells]; omega)]; simp
    | succ j =>
      simp at h
      rw [List.getElem?_append_right (by simp [qcells]; omega)]
      have := ih h
      simp [qcells] at this ⊢
      rw [show (j + 1) * 7 + i - 7 = j * 7 + i by omega]
      exact this
/-- A row of processes that lies in memory. -/
def LAt (w : World) (v : Value) (l : List P) : Prop := ∃ a cap, v = .slice a l.length cap ∧ ∀ j p, l[j]? = some p → ∃ b, a = some ⟨b, 0, none⟩ ∧ b < w.heap.size ∧ ∀ i u, (qcells p)[i]? = some u → w.cell? ⟨b, j * 7 + i, none⟩ = some u
theorem LAt.own {w : World} {B : Nat} {v : Value} {l : List P} (h : w.ownsRow B 73 7 v l.length (lcells l)) : LAt w v l := by
  rcases h.2 with ⟨rfl, h0⟩ | ⟨g, cap, cur, rfl, hg, hb, h1, h2, h3, h4⟩
  · exact ⟨none, 0, by rw [h0], fun j p hj => by have := (List.getElem?_eq_some_iff.1 hj).1; omega⟩
  · refine ⟨_, cap, rfl, fun j p hj => ⟨g, rfl, (Array.getElem?_eq_some_iff.1 hb).1, fun i u hi => ?_⟩⟩
    have hjl := (List.getElem?_eq_some_iff.1 hj).1
    have hi7 : i < 7 := by have := (List.getElem?_eq_some_iff.1 hi).1; simpa [qcells] using this
    have h5 : (cur.toList.take (l.length * 7))[j * 7 + i]? = some u := by rw [h4, lcells_at hj i hi7]; exact hi
    rw [List.getElem?_take_of_lt (by omega)] at h5
    rw [Lib.cell_of_heap hb (j * 7 + i), ← Array.getElem?_toList]; exact h5
theorem LAt.stay {w w' : World} {v : Value} {l : List P} (h : LAt w v l) (hb : Below w.heap.size w w') : LAt w' v l := by
  obtain ⟨a, cap, e, h⟩ := h
  refine ⟨a, cap, e, fun j p hj => ?_⟩
  obtain ⟨b, e2, hl, h2⟩ := h j p hj
  exact ⟨b, e2, Nat.lt_of_lt_of_le hl hb.size, fun i u hi => (World.cell?_of_block (hb.block b hl)).trans (h2 i u hi)⟩
/-- A table's value. -/
def tv (t : T) (lv ev : Value) : Value := .agg #[lv, .int .i64 t.last, ev]
/-- A process's place; -1: there is none. -/
def atN : List P → Int → Int
  | [], _ => -1
  | p :: r, pid => if p.pid == pid then 0 else if atN r pid = -1 then -1 else atN r pid + 1
theorem atN_lo (pid : Int) : ∀ l : List P, -1 ≤ atN l pid
  | [] => Int.le_refl _
  | p :: r => by
    have := atN_lo pid r
    unfold atN
    split
    · decide
    · split
      · decide
      · omega
theorem atN_none {pid : Int} : ∀ {l : List P}, (∀ p ∈ l, p.pid ≠ pid) → atN l pid = -1
  | [], _ => rfl
  | p :: r, h => by
    unfold atN
    rw [if_neg (by simpa using h p List.mem_cons_self), if_pos (atN_none fun q hq => h q (List.mem_cons_of_mem _ hq))]
theorem atN_hit {pid : Int} {p : P} (hp : (p.pid == pid) = true) : ∀ {l : List P} {k : Nat}, l[k]? = some p → (∀ q ∈ l.take k, q.pid ≠ pid) → atN l pid = k
  | [], _, h, _ => by simp at h
  | a :: r, 0, h, _ => by
    simp at h; subst h
    unfold atN; rw [if_pos hp]; rfl
  | a :: r, k + 1, h, hn => by
    simp at h
    have ih := atN_hit hp (l := r) (k := k) h fun q hq => hn q (by rw [List.take_succ_cons]; exact List.mem_cons_of_mem _ hq)
    unfold atN
    rw [if_neg (by simpa using hn a (by rw [List.take_succ_cons]; exact List.mem_cons_self)), ih, if_neg (by omega)]
    omega
theorem atN_find {pid : Int} : ∀ {l : List P}, (l.find? fun p => p.pid == pid) = none → atN l pid = -1 := fun h => atN_none fun p hp e => by
  have := List.find?_eq_none.1 h p hp; simp at this; exact this e
theorem find_atN {pid : Int} {p : P} : ∀ {l : List P}, (l.find? fun p => p.pid == pid) = some p → ∃ k : Nat, atN l pid = k ∧ l[k]? = some p ∧ k < l.length
  | [], h => by cases h
  | a :: r, h => by
    by_cases ha : (a.pid == pid) = true
    · rw [List.find?_cons_of_pos (p := fun p : P => p.pid == pid) ha] at h; cases h
      exact ⟨0, by unfold atN; rw [if_pos ha]; rfl, rfl, by simp⟩
    · rw [List.find?_cons_of_neg (p := fun p : P => p.pid == pid) ha] at h
      obtain ⟨k, h1, h2, h3⟩ := find_atN h
      exact ⟨k + 1, by unfold atN; rw [if_neg ha, h1, if_neg (by omega)]; omega, by simpa using h2, by simp; omega⟩
set_option maxHeartbeats 800000 in
theorem rat_any {w : World} {t : T} {lv ev : Value} (hL : LAt w lv t.l) (hn : t.l.length ≤ 64) (pid : Int) :
    Calls Try.prog 47 #[tv t lv ev, .int .i64 pid] w fun e w' => e = .returned (.int .i64 (atN t.l pid)) ∧ Below w.heap.size w w' := by
  obtain ⟨l, last, ends⟩ := t
  unfold tv
  dsimp only at hL hn ⊢
  obtain ⟨a, cap, rfl, hc⟩ := hL
  have HC := Lib.hid hc
  clear hc
  go_enter Try.func47, Try.ntmps47
  go_wp2_with fail
  have HB0 := Lib.hid (below_alloc w (.cells #[.slice a l.length cap, .int .i64 last, ev] 31))
  generalize w.alloc (.cells #[.slice a l.length cap, .int .i64 last, ev] 31) = w0 at HB0 ⊢
  go_loopw [10] (fun i wr => ∃ k : Nat, k ≤ l.length ∧ i = .int .i64 k ∧ (∀ p ∈ l.take k, p.pid ≠ pid) ∧ Below w.heap.size w wr) (fun i _ => l.length - (intOf i).toNat)
  case atStart => exact ⟨0, Nat.zero_le _, rfl, (fun p hp => by cases hp), HB0.out⟩
  case round =>
    obtain ⟨k, hk, rfl, hno, hb⟩ := hrel
    have HNO := Lib.hid hno; have HB := Lib.hid hb
    clear hno hb
    by_cases hlt : k < l.length
    · obtain ⟨b, rfl, hbl, hcell⟩ := HC.out k _ (List.getElem?_eq_getElem hlt)
      have HT := Lib.hid (List.take_succ_eq_append_getElem hlt)
      have HIX := Lib.hid (List.getElem?_eq_getElem hlt)
      generalize l[k] = p at hcell HT HIX
      have rd : ∀ i u, (qcells p)[i]? = some u → wr.cell? ⟨b, k * 7 + i, none⟩ = some u := fun i u hu => (World.cell?_of_block (HB.out.block b hbl)).trans (hcell i u hu)
      have r0 : wr.cell? ⟨b, k * 7, none⟩ = some (.int .i64 p.pid) := rd 0 _ rfl
      have r1 : wr.cell? ⟨b, k * 7 + 1, none⟩ = some (.int .i64 p.par) := rd 1 _ rfl
      have r2 : wr.cell? ⟨b, k * 7 + 2, none⟩ = some (.int .i64 p.st) := rd 2 _ rfl
      have r3 : wr.cell? ⟨b, k * 7 + 3, none⟩ = some (.bool p.live) := rd 3 _ rfl
      have r4 : wr.cell? ⟨b, k * 7 + 4, none⟩ = some (.int .u32 p.ig) := rd 4 _ rfl
      have r5 : wr.cell? ⟨b, k * 7 + 5, none⟩ = some (.int .u32 p.ca) := rd 5 _ rfl
      have r6 : wr.cell? ⟨b, k * 7 + 6, none⟩ = some (.int .u32 p.pe) := rd 6 _ rfl
      clear rd hcell
      cases he : p.pid == pid
      · have hne : p.pid ≠ pid := by simpa using he
        have HNE := Lib.hid hne
        clear hne
        go_wp2_with fail
        go_roundw
        case rel =>
          refine ⟨k + 1, by omega, by go_num, ?_, HB.out.trans ((below_alloc wr _).mono HB.out.size)⟩
          intro q hq
          rw [HT.out] at hq
          rcases List.mem_append.1 hq with hq | hq
          · exact HNO.out q hq
          · obtain rfl := List.mem_singleton.1 hq; exact HNE.out
        case measure => simp [intOf]; omega
      · have HHE := Lib.hid he
        go_wp2_with fail
        go_ret
        rw [atN_hit HHE.out HIX.out HNO.out]
        exact ⟨rfl, HB.out.trans ((below_alloc wr _).mono HB.out.size)⟩
    · obtain rfl : k = l.length := by omega
      go_wp2_with fail
      go_ret
      rw [atN_none (by have := HNO.out; rwa [List.take_length] at this)]
      exact ⟨rfl, HB.out⟩
end Kn
end Go.Proofs.Ytlebglnlkkoakaa
