/- The program's Right and the reference's answer alike: pure. -/
import Derived.Test.YtgdjeemmklmpfaaGreatRtI
namespace Go.Proofs.YtgdjeemmklmpfaaGreat
open Go.RowKit Go.Sort
namespace Tr
open Cls Pt

theorem none_k : ∀ a b c d e f h : Bool, noneL [a, b, c, d, e, f, h] [107] = (!a && !b && !c && !d && !f && !h) := by decide
theorem none_kb : ∀ a b c d e f h : Bool, noneL [a, b, c, d, e, f, h] [107, 98] = (!a && !b && !c && !d && !h) := by decide
theorem none_aw : ∀ a b c d e f h : Bool, noneL [a, b, c, d, e, f, h] [97, 119] = (!a && !b && !e && !f && !h) := by decide
theorem none_ngwk : ∀ a b c d e f h : Bool, noneL [a, b, c, d, e, f, h] [110, 103, 119, 107] = (!c && !f && !h) := by decide
theorem none_wc : ∀ a b c d e f h : Bool, noneL [a, b, c, d, e, f, h] [119, 99] = (!a && !b && !c && !e && !f) := by decide
theorem none_nk : ∀ a b c d e f h : Bool, noneL [a, b, c, d, e, f, h] [110, 107] = (!b && !c && !d && !f && !h) := by decide
theorem nm0 (nm : ByteArray) : (nm.toList == (⟨#[]⟩ : ByteArray).toList) = nm.toList.isEmpty := by
  rw [show (⟨#[]⟩ : ByteArray).toList = [] by rw [Lib.toList_data]]
  cases nm.toList <;> rfl
theorem eqL0 {T : Type} (p : T → T → Bool) (l : List T) : eqL p l [] = l.isEmpty := by cases l <;> rfl
theorem sameN0 (l : NL) : sameN l .nil = !decide (0 < l.len) := by cases l <;> simp [sameN, NL.len]
theorem n23 (n : Nat) : (decide (n = 2) || decide (n = 3)) = (decide (2 ≤ n) && decide (n ≤ 3)) := by
  rw [Bool.eq_iff_iff]; simp only [Bool.or_eq_true, Bool.and_eq_true, decide_eq_true_eq]; omega
theorem n22 (n : Nat) : decide (n = 2) = (decide (2 ≤ n) && decide (n ≤ 2)) := by
  rw [Bool.eq_iff_iff]; simp only [Bool.and_eq_true, decide_eq_true_eq]; omega
theorem n11 (n : Nat) : decide (n = 1) = (decide (1 ≤ n) && decide (n ≤ 1)) := by
  rw [Bool.eq_iff_iff]; simp only [Bool.and_eq_true, decide_eq_true_eq]; omega
theorem two_match (ks : NL) : (match ks with
    | .node k0 _ _ _ _ _ _ _ (.node k1 _ _ _ _ _ _ _ _) => itemB k0 && unitB k1
    | _ => false) = twoB ks := by
  cases ks with
  | nil => rfl
  | cse => rfl
  | node k nm g az ws k2 bs cz r => cases r <;> rfl
/-- What the program asks of a node by its kind, and the reference. -/
theorem kind_eq (k : Int) (nm : ByteArray) (g : Bool) (az : List (ByteArray × PL)) (ws : List PL) (ks : NL) (bs : List Bool) (cz : NL) (rk rz : Bool) (hk : ks.len = 0 → rk = true) (hc : cz.len = 0 → rz = true) :
    (ownB k nm g az ws ks bs cz && kindB k nm g az ws ks bs rk (casesB cz && rz)) = (ownR k nm g az ws ks bs cz && (rk && rz)) := by
  have hK : ∀ B, decide (0 < ks.len) = B → B = false → rk = true := fun B h e => hk (by subst e; simpa using h)
  have hC : ∀ B, decide (0 < cz.len) = B → B = false → rz = true := fun B h e => hc (by subst e; simpa using h)
  have hN := nm0 nm
  have b1 : nodeEq k nm g [] [] ks bs cz k ⟨#[]⟩ false [] [] .nil [] .nil = (nm.toList.isEmpty && !g && !decide (0 < ks.len) && bs.isEmpty && !decide (0 < cz.len)) := by
    simp only [nodeEq, hN, eqL0, sameN0, beq_self_eq_true, Bool.true_and, Bool.and_true]
    cases g <;> simp [eqL, Bool.and_assoc]
  have b5 : nodeEq k nm g az ws .nil [] cz k ⟨#[]⟩ false [] [] .nil [] .nil = (nm.toList.isEmpty && !g && az.isEmpty && ws.isEmpty && !decide (0 < cz.len)) := by
    simp only [nodeEq, hN, eqL0, sameN0, beq_self_eq_true, Bool.true_and, Bool.and_true]
    cases g <;> simp [eqL, sameN, Bool.and_assoc, NL.len]
  have b9 : nodeEq k ⟨#[]⟩ false az [] .nil bs cz k ⟨#[]⟩ false [] [] .nil [] .nil = (az.isEmpty && bs.isEmpty && !decide (0 < cz.len)) := by
    simp only [nodeEq, eqL0, sameN0, beq_self_eq_true, Bool.true_and, Bool.and_true]
    simp [eqL, sameN, Bool.and_assoc, NL.len]
  have b10 : nodeEq k nm g az [] ks bs .nil k ⟨#[]⟩ false [] [] .nil [] .nil = (nm.toList.isEmpty && !g && az.isEmpty && !decide (0 < ks.len) && bs.isEmpty) := by
    simp only [nodeEq, hN, eqL0, sameN0, beq_self_eq_true, Bool.true_and, Bool.and_true]
    cases g <;> simp [eqL, sameN, Bool.and_assoc, NL.len]
  have b13 : nodeEq k ⟨#[]⟩ g az ws .nil bs cz k ⟨#[]⟩ false [] [] .nil [] .nil = (!g && az.isEmpty && ws.isEmpty && bs.isEmpty && !decide (0 < cz.len)) := by
    simp only [nodeEq, eqL0, sameN0, beq_self_eq_true, Bool.true_and, Bool.and_true]
    cases g <;> simp [eqL, sameN, Bool.and_assoc, NL.len]
  have b0 : nodeEq k nm g az ws .nil bs cz k ⟨#[]⟩ false [] [] .nil [] .nil = (nm.toList.isEmpty && !g && az.isEmpty && ws.isEmpty && bs.isEmpty && !decide (0 < cz.len)) := by
    simp only [nodeEq, hN, eqL0, sameN0, beq_self_eq_true, Bool.true_and, Bool.and_true]
    cases g <;> simp [eqL, sameN, Bool.and_assoc, NL.len]
  have hcs : ∀ B, decide (0 < cz.len) = B → B = false → casesB cz = true := fun B h e => by
    subst e
    rw [no_node (b := cz) (by simpa using h)]; rfl
  unfold ownB ownR kindB NB hasN bodiesB forB
  simp only [b1, b5, b9, b10, b13, b0, none_k, none_kb, none_aw, none_ngwk, none_wc, none_nk, two_match, n23]
  generalize hKB : decide (0 < ks.len) = KB
  generalize hCB : decide (0 < cz.len) = CB
  have hK1 := hK KB hKB
  have hC1 := hC CB hCB
  have hC2 := hcs CB hCB
  clear hK hC hcs hk hc b1 b5 b9 b10 b13 b0 hN hKB hCB
  generalize nm.toList.isEmpty = NE
  generalize az.isEmpty = AE
  generalize ws.isEmpty = WE
  generalize bs.isEmpty = BE
  generalize casesB cz = CZ at *
  by_cases e1 : k = 1
  · subst e1
    simp only [Int.reduceBEq, Bool.false_eq_true, if_false, if_true, Bool.or_false, Bool.or_true, Bool.false_or, Bool.true_or]
    generalize simpleB az ws = Q0
    cases KB <;> cases CB <;> (try simp only [hK1, hC1, hC2, Bool.not_true, Bool.not_false, Bool.and_true, Bool.true_and, Bool.and_false, Bool.false_and]) <;> first | rfl | ac_rfl | (simp_all; done) | (simp_all; ac_rfl)
  by_cases e2 : k = 2
  · subst e2
    simp only [Int.reduceBEq, Bool.false_eq_true, if_false, if_true, Bool.or_false, Bool.or_true, Bool.false_or, Bool.true_or]
    generalize decide (ks.len = 2) = Q0
    rcases ks with _ | ⟨k0, _, _, _, _, _, _, _, (_ | ⟨k1, _, _, _, _, _, _, _, _⟩ | _)⟩ | _
    all_goals (simp only [twoB])
    all_goals (cases KB <;> cases CB <;> (try simp only [hK1, hC1, hC2, Bool.not_true, Bool.not_false, Bool.and_true, Bool.true_and, Bool.and_false, Bool.false_and]) <;> first | rfl | ac_rfl | (simp_all; done) | (simp_all; ac_rfl))
  by_cases e3 : k = 3
  · subst e3
    simp only [Int.reduceBEq, Bool.false_eq_true, if_false, if_true, Bool.or_false, Bool.or_true, Bool.false_or, Bool.true_or]
    generalize decide (ks.len = 2) = Q0
    rcases ks with _ | ⟨k0, _, _, _, _, _, _, _, (_ | ⟨k1, _, _, _, _, _, _, _, _⟩ | _)⟩ | _
    all_goals (simp only [twoB])
    all_goals (cases KB <;> cases CB <;> (try simp only [hK1, hC1, hC2, Bool.not_true, Bool.not_false, Bool.and_true, Bool.true_and, Bool.and_false, Bool.false_and]) <;> first | rfl | ac_rfl | (simp_all; done) | (simp_all; ac_rfl))
  by_cases e4 : k = 4
  · subst e4
    simp only [Int.reduceBEq, Bool.false_eq_true, if_false, if_true, Bool.or_false, Bool.or_true, Bool.false_or, Bool.true_or]
    generalize decide (ks.len = 1) = Q0
    generalize allS commandS ks = Q1
    cases KB <;> cases CB <;> (try simp only [hK1, hC1, hC2, Bool.not_true, Bool.not_false, Bool.and_true, Bool.true_and, Bool.and_false, Bool.false_and]) <;> first | rfl | ac_rfl | (simp_all; done) | (simp_all; ac_rfl)
  by_cases e5 : k = 5
  · subst e5
    simp only [Int.reduceBEq, Bool.false_eq_true, if_false, if_true, Bool.or_false, Bool.or_true, Bool.false_or, Bool.true_or]
    rw [show decide (bs.length = ks.len) = decide (ks.len = bs.length) by rw [Bool.eq_iff_iff]; simp only [decide_eq_true_eq]; omega]
    generalize decide (ks.len = bs.length) = Q0
    generalize allS itemS ks = Q1
    cases KB <;> cases CB <;> (try simp only [hK1, hC1, hC2, Bool.not_true, Bool.not_false, Bool.and_true, Bool.true_and, Bool.and_false, Bool.false_and]) <;> first | rfl | ac_rfl | (simp_all; done) | (simp_all; ac_rfl)
  by_cases e6 : k = 6
  · subst e6
    simp only [Int.reduceBEq, Bool.false_eq_true, if_false, if_true, Bool.or_false, Bool.or_true, Bool.false_or, Bool.true_or]
    generalize decide (2 ≤ ks.len) = Q0
    generalize decide (ks.len ≤ 3) = Q1
    generalize allS bodyB ks = Q2
    cases KB <;> cases CB <;> (try simp only [hK1, hC1, hC2, Bool.not_true, Bool.not_false, Bool.and_true, Bool.true_and, Bool.and_false, Bool.false_and]) <;> first | rfl | ac_rfl | (simp_all; done) | (simp_all; ac_rfl)
  by_cases e7 : k = 7
  · subst e7
    simp only [Int.reduceBEq, Bool.false_eq_true, if_false, if_true, Bool.or_false, Bool.or_true, Bool.false_or, Bool.true_or]
    rw [n22]
    generalize decide (2 ≤ ks.len) = Q0
    generalize decide (ks.len ≤ 2) = Q1
    generalize allS bodyB ks = Q2
    cases KB <;> cases CB <;> (try simp only [hK1, hC1, hC2, Bool.not_true, Bool.not_false, Bool.and_true, Bool.true_and, Bool.and_false, Bool.false_and]) <;> first | rfl | ac_rfl | (simp_all; done) | (simp_all; ac_rfl)
  by_cases e8 : k = 8
  · subst e8
    simp only [Int.reduceBEq, Bool.false_eq_true, if_false, if_true, Bool.or_false, Bool.or_true, Bool.false_or, Bool.true_or]
    rw [n22]
    generalize decide (2 ≤ ks.len) = Q0
    generalize decide (ks.len ≤ 2) = Q1
    generalize allS bodyB ks = Q2
    cases KB <;> cases CB <;> (try simp only [hK1, hC1, hC2, Bool.not_true, Bool.not_false, Bool.and_true, Bool.true_and, Bool.and_false, Bool.false_and]) <;> first | rfl | ac_rfl | (simp_all; done) | (simp_all; ac_rfl)
  by_cases e9 : k = 9
  · subst e9
    simp only [Int.reduceBEq, Bool.false_eq_true, if_false, if_true, Bool.or_false, Bool.or_true, Bool.false_or, Bool.true_or]
    rw [n11]
    generalize decide (1 ≤ ks.len) = Q0
    generalize decide (ks.len ≤ 1) = Q1
    generalize allS bodyB ks = Q2
    generalize nameL nm.data.toList = Q3
    generalize ws.all rightW = Q4
    generalize decide (ws.length = 0) = Q5
    cases KB <;> cases CB <;> (try simp only [hK1, hC1, hC2, Bool.not_true, Bool.not_false, Bool.and_true, Bool.true_and, Bool.and_false, Bool.false_and]) <;> first | rfl | ac_rfl | (simp_all; done) | (simp_all; ac_rfl)
  by_cases e10 : k = 10
  · subst e10
    simp only [Int.reduceBEq, Bool.false_eq_true, if_false, if_true, Bool.or_false, Bool.or_true, Bool.false_or, Bool.true_or]
    generalize decide (ws.length = 1) = Q0
    generalize ws.all rightW = Q1
    cases KB <;> cases CB <;> (try simp only [hK1, hC1, hC2, Bool.not_true, Bool.not_false, Bool.and_true, Bool.true_and, Bool.and_false, Bool.false_and]) <;> first | rfl | ac_rfl | (simp_all; done) | (simp_all; ac_rfl)
  by_cases e11 : k = 11
  · subst e11
    simp only [Int.reduceBEq, Bool.false_eq_true, if_false, if_true, Bool.or_false, Bool.or_true, Bool.false_or, Bool.true_or]
    rw [n11]
    generalize decide (1 ≤ ks.len) = Q0
    generalize decide (ks.len ≤ 1) = Q1
    generalize allS bodyB ks = Q2
    cases KB <;> cases CB <;> (try simp only [hK1, hC1, hC2, Bool.not_true, Bool.not_false, Bool.and_true, Bool.true_and, Bool.and_false, Bool.false_and]) <;> first | rfl | ac_rfl | (simp_all; done) | (simp_all; ac_rfl)
  by_cases e12 : k = 12
  · subst e12
    simp only [Int.reduceBEq, Bool.false_eq_true, if_false, if_true, Bool.or_false, Bool.or_true, Bool.false_or, Bool.true_or]
    rw [n11]
    generalize decide (1 ≤ ks.len) = Q0
    generalize decide (ks.len ≤ 1) = Q1
    generalize allS bodyB ks = Q2
    cases KB <;> cases CB <;> (try simp only [hK1, hC1, hC2, Bool.not_true, Bool.not_false, Bool.and_true, Bool.true_and, Bool.and_false, Bool.false_and]) <;> first | rfl | ac_rfl | (simp_all; done) | (simp_all; ac_rfl)
  by_cases e13 : k = 13
  · subst e13
    simp only [Int.reduceBEq, Bool.false_eq_true, if_false, if_true, Bool.or_false, Bool.or_true, Bool.false_or, Bool.true_or]
    generalize decide (ks.len = 1) = Q0
    generalize nameL nm.data.toList = Q1
    generalize reservedL nm.data.toList = Q2
    generalize allS compoundS ks = Q3
    cases KB <;> cases CB <;> (try simp only [hK1, hC1, hC2, Bool.not_true, Bool.not_false, Bool.and_true, Bool.true_and, Bool.and_false, Bool.false_and]) <;> first | rfl | ac_rfl | (simp_all; done) | (simp_all; ac_rfl)
  have f : ∀ j : Int, k ≠ j → (k == j) = false := fun j h => by rw [beq_eq_false_iff_ne]; exact h
  simp only [f 1 e1, f 2 e2, f 3 e3, f 4 e4, f 5 e5, f 6 e6, f 7 e7, f 8 e8, f 9 e9, f 10 e10, f 11 e11, f 12 e12, f 13 e13, Bool.false_eq_true, if_false, Bool.or_false, Bool.false_or, Bool.and_false, Bool.false_and]

theorem within_succ (k : Int) (d : Nat) : withinD k (d + 1) = withinD k d + 1 := by unfold withinD; split <;> rfl
theorem deep_eq (k : Int) (d : Nat) : deepB k (d + 1) = (countsB k && decide (200 ≤ d)) := by
  unfold deepB
  rw [show decide (200 < d + 1) = decide (200 ≤ d) by rw [Bool.eq_iff_iff]; simp only [decide_eq_true_eq]; omega]
theorem rt_rr : ∀ (l : NL) (f : Bool) (d : Nat), NL.okN l f = true → rt l (d + 1) = ((f || casesB l) && rr l d)
  | .nil, f, d, _ => by cases f <;> rfl
  | .node k nm g az ws ks bs cz r, f, d, h => by
    simp only [NL.okN, Bool.and_eq_true] at h
    obtain ⟨⟨⟨rfl, h1⟩, h2⟩, h3⟩ := h
    have i1 := rt_rr ks true (withinD k d) h1
    have i2 := rt_rr cz false (withinD k d) h2
    have i3 := rt_rr r true d h3
    simp only [Bool.true_or, Bool.true_and, Bool.false_or] at i1 i2 i3 ⊢
    have h0 := kind_eq k nm g az ws ks bs cz (rr ks (withinD k d)) (rr cz (withinD k d)) (fun h => by rw [no_node h]; rfl) (fun h => by rw [no_node h]; rfl)
    simp only [rt, rr, within_succ, deep_eq, i1, i2, i3]
    rw [Bool.and_assoc (!_), h0]
    generalize ownR k nm g az ws ks bs cz = O
    generalize (countsB k && decide (200 ≤ d)) = T
    cases O <;> cases T <;> simp
  | .cse ps b r, f, d, h => by
    simp only [NL.okN, Bool.and_eq_true, Bool.not_eq_true'] at h
    obtain ⟨⟨rfl, h1⟩, h3⟩ := h
    have i1 := rt_rr b true d h1
    have i3 := rt_rr r false d h3
    simp only [Bool.true_or, Bool.true_and, Bool.false_or] at i1 i3 ⊢
    simp only [rt, rr, casesB, i1, i3]
    ac_rfl
/-- The program's Right and the reference's. -/
theorem right_eq (k : Int) (nm : ByteArray) (g : Bool) (az : List (ByteArray × PL)) (ws : List PL) (ks : NL) (bs : List Bool) (cz : NL) (hk : NL.okN ks true = true) (hc : NL.okN cz false = true) : nodeR k nm g az ws ks bs cz 1 = rrX k nm g az ws ks bs cz 0 := by
  have h := rt_rr (.node k nm g az ws ks bs cz .nil) true 0 (by simp [NL.okN, hk, hc])
  rw [rt_node, rr_node] at h
  simpa [rt, rr] using h
end Tr
end Go.Proofs.YtgdjeemmklmpfaaGreat
