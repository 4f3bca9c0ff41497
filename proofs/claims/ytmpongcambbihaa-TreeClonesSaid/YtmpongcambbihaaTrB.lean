/- An argument that is a node: its reading is nodes in memory. -/
import Derived.Test.YtmpongcambbihaaTrA
namespace Go.Proofs.Ytmpongcambbihaa
open Go.RowKit Go.WideShapes Go.ChangeShapes
namespace Tr
open Pt
section
variable {H : Type} {enc : TypeId × Value → H} {w : World} {base : Nat} {held : Bool}
set_option maxHeartbeats 1000000 in
set_option maxRecDepth 100000 in
/-- A slice of things of one stride. -/
theorem open_sl {T : Type} {ty e : TypeId} (k nb : Nat) (hty : Try.prog.underlying ty = some (.slice e)) (hk : Try.prog.cellsOf e = k) (hk0 : 0 < k) (hnb : Try.prog.bytesOf e = nb) (hnb0 : 0 < nb) (P : Nat → Nat → T → Prop) (fuel : Nat)
    (helem : ∀ n, n < fuel → ∀ (cs : List Value) (y : DataW H × List MemPlace), cs.length = k → DataW.trod enc Try.prog w base (fun _ => true) held n e cs = some y → (∀ m ∈ y.1.weights Try.prog e, m ≤ R) → ∃ t, ∀ b o, (∀ i u, cs[i]? = some u → w.cell? ⟨b, o + i, none⟩ = some u) → P b o t)
    (cs : List Value) (x : DataW H × List MemPlace) (h : DataW.trod enc Try.prog w base (fun _ => true) held fuel ty cs = some x) (hR : ∀ n ∈ x.1.weights Try.prog ty, n ≤ R) :
    ∃ a cap, ∃ l : List T, cs = [.slice a l.length cap] ∧ Sl k P a cap l := by
  rcases DataW.trod_slice hty h with ⟨rfl, rfl⟩ | ⟨a, len, cap, elems, rest, n, rfl, rfl, rfl, hb, hl, hm, hlen, hel, hsp, hns⟩
  · exact ⟨none, 0, [], rfl, Nat.le_refl _, Nat.zero_le _, .inl rfl⟩
  · obtain ⟨b, off, spot⟩ := a
    have hcap : cap ≤ R := by
      have h1 := hR ((elems.length + rest.length) * Try.prog.bytesOf e) (by simp [DataW.weights, hty])
      rw [hnb] at h1
      have h2 := (hsp rfl).1
      have h3 : elems.length + rest.length = cap := by omega
      rw [h3] at h1
      exact Nat.le_trans (Nat.le_mul_of_pos_right cap hnb0) h1
    have hsp0 : len = 0 ∨ spot = none := by
      rcases Nat.eq_zero_or_pos len with h0 | h0
      · exact .inl h0
      · right
        have he := hel 0 h0
        rw [List.getElem?_eq_getElem (by omega)] at he
        obtain ⟨cs', hcs, _⟩ := Option.bind_eq_some_iff.1 he
        rw [hk] at hcs
        obtain ⟨_, hl5, hcell⟩ := World.cells?_some hcs
        have h1 := hcell 0 (by omega)
        rw [List.getElem?_eq_getElem (by omega)] at h1
        simpa [Addr.add] using World.cell?_spot h1
    have build : ∀ j, j ≤ len → ∃ l : List T, l.length = j ∧ (j = 0 ∨ spot = none ∧ Chain k P b (off + (len - j) * k) l) := by
      intro j
      induction j with
      | zero => exact fun _ => ⟨[], rfl, .inl rfl⟩
      | succ j ihj =>
        intro hj
        have hoff : off + (len - (j + 1)) * k + k = off + (len - j) * k := by
          rw [Nat.add_assoc, ← Nat.succ_mul]
          congr 2
          clear ihj hel hsp hns hR helem; omega
        obtain ⟨r, hr, har⟩ := ihj (by omega)
        have hi : len - (j + 1) < elems.length := by omega
        have he := hel (len - (j + 1)) (by omega)
        rw [List.getElem?_eq_getElem hi] at he
        obtain ⟨cs', hcs, hy⟩ := Option.bind_eq_some_iff.1 he
        rw [hk] at hcs
        obtain ⟨_, hl1, hcell⟩ := World.cells?_some hcs
        have hRi : ∀ n ∈ (elems[len - (j + 1)]).1.weights Try.prog e, n ≤ R := fun n hn => hR n (by
          simp only [DataW.weights, hty]
          exact List.mem_cons_of_mem _ (List.mem_append_left _ (weights_all (List.mem_map_of_mem (List.getElem_mem hi)) n hn)))
        obtain ⟨t, ht⟩ := helem n (Nat.lt_succ_self _) cs' _ hl1 hy hRi
        obtain rfl : spot = none := hsp0.resolve_left (by omega)
        refine ⟨t :: r, by rw [List.length_cons, hr], .inr ⟨rfl, ht b _ fun i u hu => ?_, ?_⟩⟩
        · have hik : i < k := by have := (List.getElem?_eq_some_iff.1 hu).1; omega
          have := (hcell i hik).trans hu
          rwa [add_plain, add_plain] at this
        · rcases har with rfl | ⟨_, har⟩
          · cases r with
            | nil => trivial
            | cons => simp at hr
          · rwa [hoff]
    obtain ⟨l, hll, hat⟩ := build len (Nat.le_refl _)
    refine ⟨some ⟨b, off, spot⟩, cap, l, by rw [hll], by omega, by omega, ?_⟩
    rcases hat with h0 | ⟨rfl, hat⟩
    · left
      cases l with
      | nil => rfl
      | cons => simp only [List.length_cons] at hll; omega
    · exact .inr ⟨b, off, rfl, by simpa using hat⟩

theorem ncI : Try.prog.cellsOf 3 = 1 := by kernel_rfl
theorem ncB : Try.prog.cellsOf 4 = 1 := by kernel_rfl
theorem ncS : Try.prog.cellsOf 9 = 1 := by kernel_rfl
theorem ncW : Try.prog.cellsOf 39 = 1 := by kernel_rfl
theorem ncSA : Try.prog.cellsOf 22 = 1 := by kernel_rfl
theorem ncSW : Try.prog.cellsOf 23 = 1 := by kernel_rfl
theorem ncSN : Try.prog.cellsOf 24 = 1 := by kernel_rfl
theorem ncSB : Try.prog.cellsOf 25 = 1 := by kernel_rfl
theorem ncSC : Try.prog.cellsOf 26 = 1 := by kernel_rfl
theorem ncA : Try.prog.cellsOf 41 = 2 := by kernel_rfl
theorem ncN : Try.prog.cellsOf 28 = 8 := by kernel_rfl
theorem ncC : Try.prog.cellsOf 44 = 2 := by kernel_rfl
theorem nbB : Try.prog.bytesOf 4 = 1 := by kernel_rfl
theorem nbW : Try.prog.bytesOf 39 = 24 := by kernel_rfl
theorem nbA : Try.prog.bytesOf 41 = 40 := by kernel_rfl
theorem nbN : Try.prog.bytesOf 28 = 152 := by kernel_rfl
theorem nbC : Try.prog.bytesOf 44 = 48 := by kernel_rfl

theorem open_bl (fuel : Nat) (cs : List Value) (x : DataW H × List MemPlace) (h : DataW.trod enc Try.prog w base (fun _ => true) held fuel 25 cs = some x) (hR : ∀ n ∈ x.1.weights Try.prog 25, n ≤ R) :
    ∃ a cap, ∃ l : List Bool, cs = [.slice a l.length cap] ∧ Sl 1 (PB w) a cap l := by
  refine open_sl 1 1 Try.underlying25 ncB (by decide) nbB (by decide) (PB w) fuel (fun n _ cs y _ hy _ => ?_) cs x h hR
  obtain ⟨z, e1, _⟩ := DataW.trod_bool Try.underlying4 hy
  subst e1
  exact ⟨z, fun b o hc => hc 0 _ rfl⟩
theorem open_ww (fuel : Nat) (cs : List Value) (x : DataW H × List MemPlace) (h : DataW.trod enc Try.prog w base (fun _ => true) held fuel 23 cs = some x) (hR : ∀ n ∈ x.1.weights Try.prog 23, n ≤ R) :
    ∃ a cap, ∃ l : List PL, cs = [.slice a l.length cap] ∧ Sl 1 (PW w) a cap l := by
  refine open_sl 1 24 Try.underlying23 ncW (by decide) nbW (by decide) (PW w) fuel (fun n _ cs y _ hy hRy => ?_) cs x h hR
  obtain ⟨a1, c1, l1, rfl, hli⟩ := open_pl Try.underlying39 _ _ _ hy hRy
  exact ⟨l1, fun b o hc => ⟨a1, c1, hc 0 _ rfl, hli⟩⟩
set_option maxRecDepth 100000 in
theorem open_al (fuel : Nat) (cs : List Value) (x : DataW H × List MemPlace) (h : DataW.trod enc Try.prog w base (fun _ => true) held fuel 22 cs = some x) (hR : ∀ n ∈ x.1.weights Try.prog 22, n ≤ R) :
    ∃ a cap, ∃ l : List (ByteArray × PL), cs = [.slice a l.length cap] ∧ Sl 2 (PA w) a cap l := by
  refine open_sl 2 40 Try.underlying22 ncA (by decide) nbA (by decide) (PA w) fuel (fun n _ cs y hl hy hRy => ?_) cs x h hR
  obtain ⟨ys, m, rfl, hy2, _, hys, hf⟩ := DataW.trod_struct Try.underlying41 hy
  rw [hy2] at hRy
  match cs, hl with
  | [v0, v1], _ =>
    match ys, hys with
    | [y0, y1], _ =>
      have g0 : DataW.trod enc Try.prog w base (fun _ => true) held m 9 (List.take (Try.prog.cellsOf 9) (List.drop 0 [v0, v1])) = some y0 := hf 0 _ rfl
      rw [ncS] at g0
      have g1 : DataW.trod enc Try.prog w base (fun _ => true) held m 39 (List.take (Try.prog.cellsOf 39) (List.drop 1 [v0, v1])) = some y1 := hf 1 _ rfl
      rw [ncW] at g1
      simp only [List.drop, List.take] at g0 g1
      obtain ⟨z0, e0, d0, _⟩ := DataW.trod_string Try.underlying9 g0
      subst d0
      simp only [DataW.weights, Try.underlying41, List.map, DataW.weightsEach, List.mem_append] at hRy
      obtain ⟨a1, c1, l1, e1, hli⟩ := open_pl Try.underlying39 _ _ _ g1 (fun n hn => hRy n (by simp [hn]))
      have r0 : z0.size ≤ R := hRy z0.data.toList.length (by simp) |> fun h => by simpa using h
      simp only [List.cons.injEq, and_true] at e0 e1
      subst e0 e1
      exact ⟨(z0, l1), fun b o hc => ⟨hc 0 _ rfl, r0, a1, c1, hc 1 _ rfl, hli⟩⟩

/-- A node's values. -/
def NodeIs (w : World) (cs : List Value) (k : Int) (nm : ByteArray) (g : Bool) (az : List (ByteArray × PL)) (ws : List PL) (ks : NL) (bs : List Bool) (cz : NL) : Prop :=
  ∃ a1 c1 a2 c2 a3 c3 a4 c4 a5 c5, cs = (nodeV k nm g a1 az.length c1 a2 ws.length c2 a3 ks.len c3 a4 bs.length c4 a5 cz.len c5).toList ∧ Holds w nm az ws ks bs cz a1 c1 a2 c2 a3 c3 a4 c4 a5 c5
/-- A node in memory, alone. -/
def P1 (w : World) (b o : Nat) (x : NL) : Prop := ∃ k nm g az ws ks bs cz, x = .node k nm g az ws ks bs cz .nil ∧ NAt w x b o ∧ NL.okN x true = true
def C1 (w : World) (b o : Nat) (x : NL) : Prop := ∃ ps bd, x = .cse ps bd .nil ∧ NAt w x b o ∧ NL.okN x false = true
theorem of_is {w : World} {cs : List Value} {k : Int} {nm : ByteArray} {g : Bool} {az : List (ByteArray × PL)} {ws : List PL} {ks : NL} {bs : List Bool} {cz : NL} (h : NodeIs w cs k nm g az ws ks bs cz) :
    ∃ x, ∀ b o, (∀ i u, cs[i]? = some u → w.cell? ⟨b, o + i, none⟩ = some u) → P1 w b o x := by
  obtain ⟨a1, c1, a2, c2, a3, c3, a4, c4, a5, c5, rfl, hh⟩ := h
  refine ⟨.node k nm g az ws ks bs cz .nil, fun b o hc => ⟨k, nm, g, az, ws, ks, bs, cz, rfl, ?_, by simp [NL.okN, hh.okk, hh.okc]⟩⟩
  exact ⟨⟨hc 0 _ rfl, hc 1 _ rfl, hc 2 _ rfl, hh.hnm⟩, ⟨a1, c1, hc 3 _ rfl, hh.haz⟩, ⟨a2, c2, hc 4 _ rfl, hh.hws⟩, ⟨a3, c3, hc 5 _ rfl, hh.hks⟩, ⟨a4, c4, hc 6 _ rfl, hh.hbs⟩, ⟨a5, c5, hc 7 _ rfl, hh.hcs⟩, trivial⟩
theorem fold_n {b : Nat} : ∀ {l : List NL} {o : Nat}, Chain 8 (P1 w) b o l → ∃ L : NL, L.len = l.length ∧ NAt w L b o ∧ NL.okN L true = true
  | [], _, _ => ⟨.nil, rfl, trivial, rfl⟩
  | x :: r, o, ⟨⟨k, nm, g, az, ws, ks, bs, cz, e, hx, hk⟩, h⟩ => by
    subst e
    obtain ⟨L, h1, h2, h3⟩ := fold_n h
    obtain ⟨g1, g2, g3, g4, g5, g6, _⟩ := hx
    simp only [NL.okN, Bool.and_eq_true] at hk
    exact ⟨.node k nm g az ws ks bs cz L, by simp [NL.len, h1], ⟨g1, g2, g3, g4, g5, g6, h2⟩, by simp [NL.okN, hk.1.1.2, hk.1.2, h3]⟩
theorem fold_c {b : Nat} : ∀ {l : List NL} {o : Nat}, Chain 2 (C1 w) b o l → ∃ L : NL, L.len = l.length ∧ NAt w L b o ∧ NL.okN L false = true
  | [], _, _ => ⟨.nil, rfl, trivial, rfl⟩
  | x :: r, o, ⟨⟨ps, bd, e, hx, hk⟩, h⟩ => by
    subst e
    obtain ⟨L, h1, h2, h3⟩ := fold_c h
    obtain ⟨g1, g2, _⟩ := hx
    simp only [NL.okN, Bool.and_eq_true] at hk
    exact ⟨.cse ps bd L, by simp [NL.len, h1], ⟨g1, g2, h2⟩, by simp [NL.okN, hk.1.2, h3]⟩
theorem sl_n {a : Option Addr} {cap : Nat} {l : List NL} (h : Sl 8 (P1 w) a cap l) : ∃ L : NL, L.len = l.length ∧ NLies w a cap L ∧ NL.okN L true = true := by
  obtain ⟨h1, h2, h3⟩ := h
  rcases h3 with rfl | ⟨b, o, ha, h3⟩
  · exact ⟨.nil, rfl, ⟨h1, h2, .inl rfl⟩, rfl⟩
  · obtain ⟨L, e1, e2, e3⟩ := fold_n h3
    exact ⟨L, e1, ⟨by omega, by omega, .inr ⟨b, o, ha, e2⟩⟩, e3⟩
theorem sl_c {a : Option Addr} {cap : Nat} {l : List NL} (h : Sl 2 (C1 w) a cap l) : ∃ L : NL, L.len = l.length ∧ NLies w a cap L ∧ NL.okN L false = true := by
  obtain ⟨h1, h2, h3⟩ := h
  rcases h3 with rfl | ⟨b, o, ha, h3⟩
  · exact ⟨.nil, rfl, ⟨h1, h2, .inl rfl⟩, rfl⟩
  · obtain ⟨L, e1, e2, e3⟩ := fold_c h3
    exact ⟨L, e1, ⟨by omega, by omega, .inr ⟨b, o, ha, e2⟩⟩, e3⟩

set_option maxHeartbeats 1000000 in
set_option maxRecDepth 100000 in
theorem open_nl : ∀ fuel, (∀ cs x, DataW.trod enc Try.prog w base (fun _ => true) held fuel 24 cs = some x → (∀ n ∈ (x : DataW H × List MemPlace).1.weights Try.prog 24, n ≤ R) → ∃ a cap l, cs = [.slice a (NL.len l) cap] ∧ NLies w a cap l ∧ NL.okN l true = true) ∧
    (∀ cs x, DataW.trod enc Try.prog w base (fun _ => true) held fuel 26 cs = some x → (∀ n ∈ (x : DataW H × List MemPlace).1.weights Try.prog 26, n ≤ R) → ∃ a cap l, cs = [.slice a (NL.len l) cap] ∧ NLies w a cap l ∧ NL.okN l false = true) ∧
    (∀ cs x, cs.length = 8 → DataW.trod enc Try.prog w base (fun _ => true) held fuel 28 cs = some x → (∀ n ∈ (x : DataW H × List MemPlace).1.weights Try.prog 28, n ≤ R) → ∃ k nm g az ws ks bs cz, NodeIs w cs k nm g az ws ks bs cz) := by
  intro fuel
  induction fuel using Nat.strongRecOn with
  | _ fuel ih =>
    refine ⟨?_, ?_, ?_⟩
    · intro cs x h hR
      obtain ⟨a, cap, l, rfl, hs⟩ := open_sl 8 152 Try.underlying24 ncN (by decide) nbN (by decide) (P1 w) fuel (fun n hn cs y hl hy hRy => by
        obtain ⟨k, nm, g, az, ws, ks, bs, cz, hi⟩ := (ih n hn).2.2 cs y hl hy hRy
        exact of_is hi) cs x h hR
      obtain ⟨L, e1, e2, e3⟩ := sl_n hs
      exact ⟨a, cap, L, by rw [e1], e2, e3⟩
    · intro cs x h hR
      obtain ⟨a, cap, l, rfl, hs⟩ := open_sl 2 48 Try.underlying26 ncC (by decide) nbC (by decide) (C1 w) fuel (fun n hn cs y hl hy hRy => by
        obtain ⟨ys, m, rfl, hy2, _, hys, hf⟩ := DataW.trod_struct Try.underlying44 hy
        rw [hy2] at hRy
        match cs, hl with
        | [v0, v1], _ =>
          match ys, hys with
          | [y0, y1], _ =>
            have g0 : DataW.trod enc Try.prog w base (fun _ => true) held m 23 (List.take (Try.prog.cellsOf 23) (List.drop 0 [v0, v1])) = some y0 := hf 0 _ rfl
            rw [ncSW] at g0
            have g1 : DataW.trod enc Try.prog w base (fun _ => true) held m 24 (List.take (Try.prog.cellsOf 24) (List.drop 1 [v0, v1])) = some y1 := hf 1 _ rfl
            rw [ncSN] at g1
            simp only [List.drop, List.take] at g0 g1
            simp only [DataW.weights, Try.underlying44, List.map, DataW.weightsEach, List.mem_append] at hRy
            obtain ⟨a1, c1, l1, e0, s0⟩ := open_ww _ _ _ g0 (fun n hn => hRy n (by simp [hn]))
            obtain ⟨a2, c2, l2, e1, s1, o1⟩ := (ih m (by omega)).1 _ _ g1 (fun n hn => hRy n (by simp [hn]))
            simp only [List.cons.injEq, and_true] at e0 e1
            subst e0 e1
            exact ⟨.cse l1 l2 .nil, fun b o hc => ⟨l1, l2, rfl, ⟨⟨a1, c1, hc 0 _ rfl, s0⟩, ⟨a2, c2, hc 1 _ rfl, s1⟩, trivial⟩, by simp [NL.okN, o1]⟩⟩) cs x h hR
      obtain ⟨L, e1, e2, e3⟩ := sl_c hs
      exact ⟨a, cap, L, by rw [e1], e2, e3⟩
    · intro cs x hl h hR
      obtain ⟨ys, m, rfl, hy2, _, hys, hf⟩ := DataW.trod_struct Try.underlying28 h
      rw [hy2] at hR
      match cs, hl with
      | [v0, v1, v2, v3, v4, v5, v6, v7], _ =>
        match ys, hys with
        | [y0, y1, y2, y3, y4, y5, y6, y7], _ =>
          have g0 : DataW.trod enc Try.prog w base (fun _ => true) held m 3 (List.take (Try.prog.cellsOf 3) (List.drop 0 [v0, v1, v2, v3, v4, v5, v6, v7])) = some y0 := hf 0 _ rfl
          rw [ncI] at g0
          have g1 : DataW.trod enc Try.prog w base (fun _ => true) held m 9 (List.take (Try.prog.cellsOf 9) (List.drop 1 [v0, v1, v2, v3, v4, v5, v6, v7])) = some y1 := hf 1 _ rfl
          rw [ncS] at g1
          have g2 : DataW.trod enc Try.prog w base (fun _ => true) held m 4 (List.take (Try.prog.cellsOf 4) (List.drop 2 [v0, v1, v2, v3, v4, v5, v6, v7])) = some y2 := hf 2 _ rfl
          rw [ncB] at g2
          have g3 : DataW.trod enc Try.prog w base (fun _ => true) held m 22 (List.take (Try.prog.cellsOf 22) (List.drop 3 [v0, v1, v2, v3, v4, v5, v6, v7])) = some y3 := hf 3 _ rfl
          rw [ncSA] at g3
          have g4 : DataW.trod enc Try.prog w base (fun _ => true) held m 23 (List.take (Try.prog.cellsOf 23) (List.drop 4 [v0, v1, v2, v3, v4, v5, v6, v7])) = some y4 := hf 4 _ rfl
          rw [ncSW] at g4
          have g5 : DataW.trod enc Try.prog w base (fun _ => true) held m 24 (List.take (Try.prog.cellsOf 24) (List.drop 5 [v0, v1, v2, v3, v4, v5, v6, v7])) = some y5 := hf 5 _ rfl
          rw [ncSN] at g5
          have g6 : DataW.trod enc Try.prog w base (fun _ => true) held m 25 (List.take (Try.prog.cellsOf 25) (List.drop 6 [v0, v1, v2, v3, v4, v5, v6, v7])) = some y6 := hf 6 _ rfl
          rw [ncSB] at g6
          have g7 : DataW.trod enc Try.prog w base (fun _ => true) held m 26 (List.take (Try.prog.cellsOf 26) (List.drop 7 [v0, v1, v2, v3, v4, v5, v6, v7])) = some y7 := hf 7 _ rfl
          rw [ncSC] at g7
          simp only [List.drop, List.take] at g0 g1 g2 g3 g4 g5 g6 g7
          obtain ⟨z0, e0, d0, _⟩ := DataW.trod_int Try.underlying3 g0
          obtain ⟨z1, e1, d1, _⟩ := DataW.trod_string Try.underlying9 g1
          obtain ⟨z2, e2, d2⟩ := DataW.trod_bool Try.underlying4 g2
          subst d1
          simp only [DataW.weights, Try.underlying28, List.map, DataW.weightsEach, List.mem_append] at hR
          obtain ⟨a3, c3, l3, e3, s3⟩ := open_al _ _ _ g3 (fun n hn => hR n (by simp [hn]))
          obtain ⟨a4, c4, l4, e4, s4⟩ := open_ww _ _ _ g4 (fun n hn => hR n (by simp [hn]))
          obtain ⟨a5, c5, l5, e5, s5, o5⟩ := (ih m (by omega)).1 _ _ g5 (fun n hn => hR n (by simp [hn]))
          obtain ⟨a6, c6, l6, e6, s6⟩ := open_bl _ _ _ g6 (fun n hn => hR n (by simp [hn]))
          obtain ⟨a7, c7, l7, e7, s7, o7⟩ := (ih m (by omega)).2.1 _ _ g7 (fun n hn => hR n (by simp [hn]))
          have r1 : z1.size ≤ R := hR z1.data.toList.length (by simp) |> fun h => by simpa using h
          simp only [List.cons.injEq, and_true] at e0 e1 e2 e3 e4 e5 e6 e7
          subst e0 e1 e2 e3 e4 e5 e6 e7
          exact ⟨z0, z1, z2, l3, l4, l5, l6, l7, a3, c3, a4, c4, a5, c5, a6, c6, a7, c7, rfl, r1, s3, s4, s5, s6, s7, o5, o7⟩

set_option maxRecDepth 100000 in
/-- An argument that is a node. -/
theorem node_arg {W : World} {base : Nat} {v : Value} {d : DataW H} {p : List MemPlace} (hv : Value.okWide Try.prog W .any base 28 v) (h : DataW.Trod enc Try.prog W 0 (fun _ => true) true 28 v d p) (hw : ∀ n ∈ d.weights Try.prog 28, n ≤ R) :
    ∃ cs k nm g az ws ks bs cz, v = .agg cs ∧ NodeIs W cs.toList k nm g az ws ks bs cz := by
  obtain ⟨cs, rfl, hsz⟩ := okWide_struct Try.underlying28 hv
  obtain ⟨fuel, hf⟩ := h
  rw [ncN] at hsz
  obtain ⟨k, nm, g, az, ws, ks, bs, cz, hi⟩ := (open_nl fuel).2.2 _ _ (by simpa [Value.cells] using hsz) hf hw
  exact ⟨cs, k, nm, g, az, ws, ks, bs, cz, rfl, by simpa [Value.cells] using hi⟩
end
end Tr
end Go.Proofs.Ytmpongcambbihaa
