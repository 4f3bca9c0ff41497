/- Of: the scope that the document's is. -/
import Derived.Test.YtpphoaidnpkgpaaDoorVrQ
namespace Go.Proofs.YtpphoaidnpkgpaaDoor
open Go.RowKit Go.Maps Cls
namespace Vr

/-- What is set, one behind the other. -/
def ofVs (vs : Vs) : Vs := vs.foldl (fun acc p => if nameL (bs p.1) then setV acc p.1 p.2 else acc) []
theorem ofVs_snoc (vs : Vs) (k : Nat) (p : ByteArray × ByteArray) (h : vs[k]? = some p) : ofVs (vs.take (k + 1)) = if nameL (bs p.1) then setV (ofVs (vs.take k)) p.1 p.2 else ofVs (vs.take k) := by
  rw [List.take_add_one, h]; simp [ofVs, List.foldl_append]
theorem ofVs_all (vs : Vs) : Srt (ofVs vs) ∧ (ofVs vs).length ≤ vs.length ∧ ∀ p ∈ ofVs vs, p ∈ vs ∧ nameL (bs p.1) = true := by
  have : ∀ k, k ≤ vs.length → Srt (ofVs (vs.take k)) ∧ (ofVs (vs.take k)).length ≤ k ∧ ∀ p ∈ ofVs (vs.take k), p ∈ vs ∧ nameL (bs p.1) = true := by
    intro k
    induction k with
    | zero => intro _; exact ⟨Srt.nil, Nat.le_refl _, fun p hp => by simp [ofVs] at hp⟩
    | succ k ih =>
      intro hk
      obtain ⟨i1, i2, i3⟩ := ih (by omega)
      have hx : vs[k]? = some (vs[k]'(by omega)) := List.getElem?_eq_getElem (by omega)
      rw [ofVs_snoc vs k _ hx]
      cases hn : nameL (bs (vs[k]'(by omega)).1)
      · exact ⟨i1, by simp; omega, fun p hp => i3 p (by simpa using hp)⟩
      · refine ⟨i1.set _ _, ?_, fun p hp => ?_⟩
        · have := set_length (ofVs (vs.take k)) (vs[k]'(by omega)).1 (vs[k]'(by omega)).2
          simp only [if_true]; omega
        · rcases mem_set (by simpa using hp) with e | e
          · rw [e]; exact ⟨List.getElem_mem _, hn⟩
          · exact i3 p e
  have := this vs.length (Nat.le_refl _)
  rwa [List.take_length] at this

theorem RowAt.neType {w : World} {B q : Nat} {av : Value} {xs : List ByteArray} {cs : Array Value} {T : TypeId} {fr : Nat × Nat} (h : RowAt w B av xs) (hT : T ≠ 9) (hq : w.heap[q]? = some (.cells cs T fr)) : av.ownBlock ≠ some q := by
  intro e
  rcases h with ⟨rfl, _⟩ | ⟨g, off, cap, cur, rfl, _, _, _, _, hh, _⟩
  · cases e
  · cases e; rw [hq] at hh; injection hh with hh; injection hh with _ h2; exact absurd h2 hT
/-- A block of another type stays. -/
theorem Kp.other {w w' : World} {q k B B' : Nat} {mv av : Value} {vs : Vs} {xs : List ByteArray} {cs : Array Value} {T : TypeId} (h : Kp w w' q mv av) (hm : MapAt w B mv vs) (ha : RowAt w B' av xs) (hT : T ≠ 9) (hk : w.heap[k]? = some (.cells cs T (0, 0))) (hq : k ≠ q) : w'.heap[k]? = some (.cells cs T (0, 0)) :=
  (h.block k (Array.getElem?_eq_some_iff.1 hk).1 hq (hm.neScope hk) (ha.neType hT hk)).trans hk
set_option maxRecDepth 4000 in
set_option maxHeartbeats 1000000 in
theorem of_any (vs : Vs) (args : List ByteArray) (st la : Int) (vv av : Value) (w : World) (hp : Prs w vv vs) (ha : Txt w av args) (hl : vs.length ≤ 30) (hs : ∀ p ∈ vs, p.1.size ≤ 1048576 ∧ p.2.size ≤ 1048576) (hn : args.length ≤ 30) :
    Calls Tryd.prog 5 #[.agg #[vv, av, .int .i64 st, .int .i64 la]] w fun e w' => ∃ q mv av', e = .returned (.pointer (some ⟨q, 0, none⟩)) ∧ Sc w' w.heap.size q ⟨ofVs vs, args, st, la⟩ mv av' ∧ Below w.heap.size w w' := by
  obtain ⟨a, cap, rfl, hcell⟩ := hp.cell
  have HC := Lib.hid hcell; have HS := Lib.hid hs; have HA := Lib.hid ha
  have hav : ∃ a n c, av = .slice a n c := by
    rcases ha with ⟨_, a, c, h⟩ | ⟨b, o, c, h, _⟩
    · exact ⟨_, _, _, h⟩
    · exact ⟨_, _, _, h⟩
  obtain ⟨a0, n0, k0, rfl⟩ := hav
  clear hp hcell hs ha
  go_enter Tryd.func5, Tryd.ntmps5
  go_wp2_with fail
  go_loopw [11] (fun i wr => ∃ (k : Nat) (mv av' : Value), k ≤ vs.length ∧ i = .int .i64 k ∧ Sc wr w.heap.size (w.heap.size + 1) ⟨ofVs (vs.take k), [], 0, 0⟩ mv av' ∧
    wr.heap[w.heap.size]? = some (.cells #[.slice a vs.length cap, .slice a0 n0 k0, .int .i64 st, .int .i64 la] 25 (0, 0)) ∧ Below w.heap.size w wr) (fun i _ => vs.length - (intOf i).toNat)
  case atStart =>
    refine ⟨0, .map none, .slice none 0 0, Nat.zero_le _, rfl, ?_, ?_, ?_⟩
    · have := sc_new (w.alloc (.cells #[.slice a vs.length cap, .slice a0 n0 k0, .int .i64 st, .int .i64 la] 25))
      rw [World.size_alloc] at this
      exact this.low (by omega)
    · rw [Below.heap_alloc _ _ _ (by simp [World.size_alloc])]; exact heap_alloc_new w _
    · exact (below_alloc w _).trans ((below_alloc _ _).mono (by simp [World.size_alloc]))
  case round =>
    obtain ⟨k, mv, av', hk, rfl, hsc, hbox, hbw⟩ := hrel
    have HSC := Lib.hid hsc; have HBOX := Lib.hid hbox; have HB := Lib.hid hbw
    rcases Nat.lt_or_ge k vs.length with hlt | hge
    · have hx : vs[k]? = some (vs[k]'hlt) := List.getElem?_eq_getElem hlt
      obtain ⟨b, off, rfl, hbl, hc1, hc2⟩ := HC.out k _ hx
      have hsz := HS.out _ (List.getElem_mem hlt)
      have hsn := ofVs_snoc vs k _ hx
      generalize vs[k] = p at hx hc1 hc2 hsz hsn
      obtain ⟨n, v⟩ := p
      have q1 : wr.cell? ⟨b, off + k * 2, none⟩ = some (.string n) := by rw [Nat.mul_comm]; exact (World.cell?_of_block (hbw.block b hbl)).trans hc1
      have q2 : wr.cell? ⟨b, off + k * 2 + 1, none⟩ = some (.string v) := by rw [Nat.mul_comm]; exact (World.cell?_of_block (hbw.block b hbl)).trans hc2
      have all := ofVs_all (vs.take k)
      have HALL := Lib.hid all; have HSN := Lib.hid hsn; have HSZ := Lib.hid hsz
      have hlen : (ofVs (vs.take k)).length ≤ 30 := by have := all.2.1; simp at this; omega
      clear hc1 hc2 hbw hsc hbox all hsn hsz
      have hwS : w.heap.size ≤ wr.heap.size := HB.out.size
      go_wp2_with (go_at_call 8; refine (set_any ⟨ofVs (vs.take k), [], 0, 0⟩ w.heap.size (w.heap.size + 1) n v _ mv av' (HSC.out.stay (below_alloc _ _)) (by simp [World.size_alloc]; omega) (by have := HSZ.out.1; unfold maxLen; simp only at this; omega) (by have := HSZ.out.2; unfold maxLen; simp only at this; omega) HALL.out.1 (by simp only; omega)).mono ?_; rintro e w2 ⟨rfl, mv2, hsc2, hkp2, hnew2⟩)
      go_roundw
      case rel =>
        have hsc1 := HSC.out.stay (below_alloc wr (.cells #[.string n, .string v] 39))
        refine ⟨k + 1, mv2, av', by omega, by go_num, ?_, ?_, ?_⟩
        · have e : setS ⟨ofVs (vs.take k), [], 0, 0⟩ n v = ⟨ofVs (vs.take (k + 1)), [], 0, 0⟩ := by
            rw [HSN.out, setS]; cases nameL (bs n) <;> rfl
          rw [← e]; exact hsc2
        · exact hkp2.other hsc1.vars hsc1.args (by decide) ((Below.heap_alloc _ _ _ (Array.getElem?_eq_some_iff.1 HBOX.out).1).trans HBOX.out) (by omega)
        · have h1 := HB.out.trans ((below_alloc wr (.cells #[.string n, .string v] 39)).mono hwS)
          exact h1.trans (hkp2.below (B := w.heap.size) h1.size (by omega) (fun j e => (hsc1.vars.own j e).1) (fun j e => (hsc1.args.own j e).1))
      case measure => simp [intOf]; omega
    · obtain rfl : k = vs.length := by omega
      have c1 : wr.cell? ⟨w.heap.size, 1, none⟩ = some (.slice a0 n0 k0) := cell_of_row _ _ _ _ _ _ hbox
      rw [List.take_length] at HSC hsc
      have htx := HA.out.stay hbw
      have hwS : w.heap.size ≤ wr.heap.size := HB.out.size
      clear hsc hbox hbw
      go_wp2_with (first
        | (go_at_call 9; refine (setArgs_any _ w.heap.size (w.heap.size + 1) args _ _ _ _ HSC.out hwS htx (by omega)).mono ?_; rintro e w2 ⟨rfl, av2, hsc2, hkp2, hnew2⟩
           have hbox2 := hkp2.other HSC.out.vars HSC.out.args (by decide) HBOX.out (by omega)
           have c2 := cell_of_row _ _ 2 _ _ _ hbox2
           have hB2 := HB.out.trans (hkp2.below (B := w.heap.size) hwS (by omega) (fun j e => (HSC.out.vars.own j e).1) (fun j e => (HSC.out.args.own j e).1))
           simp at c2
           have HBOX2 := Lib.hid hbox2; have HB2 := Lib.hid hB2; have HSC2 := Lib.hid hsc2
           clear hbox2 hB2 hsc2 hkp2 hnew2)
        | (go_at_call 10; refine (setStatus_any _ w.heap.size (w.heap.size + 1) st _ _ _ HSC2.out).mono ?_; rintro e w3 ⟨rfl, hsc3, hkp3⟩
           have hbox3 := hkp3.other HSC2.out.vars HSC2.out.args (by decide) HBOX2.out (by omega)
           have c3 := cell_of_row _ _ 3 _ _ _ hbox3
           have hB3 := HB2.out.trans (hkp3.below (B := w.heap.size) HB2.out.size (by omega) (fun j e => (HSC2.out.vars.own j e).1) (fun j e => (HSC2.out.args.own j e).1))
           simp at c3
           have HB3 := Lib.hid hB3; have HSC3 := Lib.hid hsc3
           clear hbox3 hB3 hsc3 hkp3)
        | (go_at_call 11; refine (setLast_any _ w.heap.size (w.heap.size + 1) la _ _ _ HSC3.out).mono ?_; rintro e w4 ⟨rfl, hsc4, hkp4⟩
           have hB4 := HB3.out.trans (hkp4.below (B := w.heap.size) HB3.out.size (by omega) (fun j e => (HSC3.out.vars.own j e).1) (fun j e => (HSC3.out.args.own j e).1))
           have HB4 := Lib.hid hB4; have HSC4 := Lib.hid hsc4
           clear hB4 hsc4 hkp4))
      go_ret
      exact ⟨_, _, _, rfl, HSC4.out, HB4.out⟩
end Vr
end Go.Proofs.YtpphoaidnpkgpaaDoor
