/- As XReg; S is asked behind all operations but those of a list, each of which waits (by way of others too) for what is taken first, or has come up already. Of no program. -/
import Derived.Test.YtlebglnlkkoakaaRegT
namespace Go.Proofs.Ytlebglnlkkoakaa
namespace RN
section
variable {P : Program} {ops : Array Oper} {Q : Exit → Act → World → Prop} {md : Region.Mode} {S : World → Prop} {nd : List Nat}

def Any (P : Program) (md : Region.Mode) (ops : Array Oper) (Q : Exit → Act → World → Prop) (S : World → Prop) (nd : List Nat) : Nat → Array Bool → Act → World → Prop
  | 0, listed, a, w => Region.ready md ops listed = [] ∧ Q .normal a w
  | fuel + 1, listed, a, w =>
    (Region.ready md ops listed = [] → Q .normal a w) ∧
    ∀ i ∈ Region.ready md ops listed, wpOp P ops Q i (fun a' w' => (nd.contains i = false → S w') ∧ Any P md ops Q S nd fuel (listed.setIfInBounds i true) a' w') a w
theorem any_of : ∀ (fuel : Nat) (listed : Array Bool) (a : Act) (w : World), Any P md ops Q S nd fuel listed a w → wpAny P md ops Q fuel listed a w
  | 0, _, _, _, h => h
  | fuel + 1, _, _, _, h => ⟨h.1, fun i hi => wpOp_mono (fun a' w' h' => any_of fuel _ a' w' h'.2) (h.2 i hi)⟩

def waitB (md : Region.Mode) (ops : Array Oper) (nd : List Nat) (listed : Array Bool) (i : Nat) : Bool := nd.all fun t => listed.getD t true || RT.waitsT md ops ops.size t i

/-- Number i may be taken first. -/
theorem first {T : World → Prop} {i : Nat} {oi : Oper} {v : Value} (hi : ops[i]? = some oi) (hsel : ∀ (j : Nat) (o : Oper) cs b, ops[j]? = some o → o.op ≠ .select cs b)
    (hT : ∀ w, (nd.contains i = false → S w) → T w) (hTS : ∀ w, T w → nd.contains i = false → S w) (hTT : (∀ w, T w) ∨ nd.contains i = false)
    (hQ : ∀ c a w, Q (.panic c) (a.put oi.dst v) w → Q (.panic c) a w) :
    ∀ (fuel : Nat) (listed : Array Bool) (a : Act) (w : World), RT.Closed md ops listed → ((∀ w, T w) ∨ waitB md ops nd listed i = true) →
      (∀ j oj, ops[j]? = some oj → j ≠ i → listed.getD j true = false → (∀ e ∈ oj.after, Region.binds md e = true → e.on ≠ i) → oi.apart ops oj = true) →
      i ∈ Region.ready md ops listed → YieldsIf P ops T oi v a → T w →
      Any P md ops Q S nd fuel (listed.setIfInBounds i true) (a.put oi.dst v) w → Any P md ops Q S nd (fuel + 1) listed a w := by
  intro fuel
  induction fuel with
  | zero =>
    intro listed a w _ _ _ hr hy hS H
    refine ⟨fun h => (by rw [h] at hr; cases hr), fun j hj => ?_⟩
    by_cases hji : j = i
    · subst hji; exact hy.wpOp hi hS ⟨hTS w hS, H⟩
    · have := ready_mono hj hji
      rw [H.1] at this
      cases this
  | succ fuel ih =>
    intro listed a w hc hw hfree hr hy hS H
    refine ⟨fun h => (by rw [h] at hr; cases hr), fun j hj => ?_⟩
    by_cases hji : j = i
    · subst hji; exact hy.wpOp hi hS ⟨hTS w hS, H⟩
    · have h1 := H.2 j (ready_mono hj hji)
      obtain ⟨hjun, oj, hoj, hall⟩ := mem_ready.1 hj
      have hiun := (mem_ready.1 hr).1
      have hnot : ∀ e ∈ oj.after, Region.binds md e = true → e.on ≠ i := fun e he hb heq => by
        have h1 := hall e he hb
        rw [heq] at h1
        rcases Nat.lt_or_ge i listed.size with h' | h'
        · simp [h'] at hiun h1; rw [hiun] at h1; cases h1
        · simp [Array.getElem?_eq_none h'] at h1
      have hTw : ∀ w', (nd.contains j = false → S w') → T w' := fun w' hsj => by
        rcases hw with hw | hw
        · exact hw w'
        · rcases hTT with h | hni
          · exact h w'
          · refine hT w' fun _ => hsj ?_
            cases hcj : nd.contains j with
            | false => rfl
            | true =>
              exfalso
              have hmem : j ∈ nd := by simpa using hcj
              have h2 := List.all_eq_true.1 hw j hmem
              rw [hjun] at h2
              simp only [Bool.false_or] at h2
              have h3 := RT.waitsT_spec hc i _ j oj hoj hall h2
              rcases Nat.lt_or_ge i listed.size with h' | h'
              · simp [h'] at hiun h3; rw [hiun] at h3; cases h3
              · simp [Array.getElem?_eq_none h'] at h3
      have h2 := wpOp_putIf hoj (hfree j oj hoj hji hjun hnot) (fun cs b => hsel i oi cs b hi) (fun cs b => hsel j oj cs b hoj) hQ hy h1
      have hfree' : ∀ k ok, ops[k]? = some ok → k ≠ i → (listed.setIfInBounds j true).getD k true = false →
          (∀ e ∈ ok.after, Region.binds md e = true → e.on ≠ i) → oi.apart ops ok = true := fun k ok hk hki hun hno => by
        refine hfree k ok hk hki ?_ hno
        by_cases hjk : j = k
        · subst hjk; exact hjun
        · rw [getD_set_ne true hjk] at hun; exact hun
      have hw' : (∀ w, T w) ∨ waitB md ops nd (listed.setIfInBounds j true) i = true := hw.imp id fun hw => by
        refine List.all_eq_true.2 fun t ht => ?_
        have h4 := List.all_eq_true.1 hw t ht
        by_cases hjt : j = t
        · subst hjt
          have hjs : j < listed.size := by
            refine Classical.byContradiction fun hn => ?_
            simp [Array.getElem?_eq_none (Nat.le_of_not_lt hn)] at hjun
          simp [hjs]
        · rw [getD_set_ne true hjt]; exact h4
      refine wpOp_mono (fun a' w' h3 => ⟨h3.2.1, ih (listed.setIfInBounds j true) a' w' (hc.set hj) hw' hfree' (ready_mono hr (Ne.symm hji)) h3.1 (hTw w' h3.2.1) ?_⟩) h2
      rw [Array.setIfInBounds_comm _ _ hji]
      exact h3.2.2

theorem take {i : Nat} {oi : Oper} {v : Value} {fuel : Nat} {listed : Array Bool} {a : Act} {w : World} (hi : ops[i]? = some oi) (hni : nd.contains i = false)
    (hs : Region.noSelect ops = true) (hf : Region.free md ops listed i = true) (hr : (Region.ready md ops listed).contains i = true) (hw : waitB md ops nd listed i = true) (hc : RT.closedB md ops listed = true)
    (hQ : ∀ c a w, Q (.panic c) (a.put oi.dst v) w → Q (.panic c) a w) (hy : YieldsIf P ops S oi v a) (hS : S w)
    (h : Any P md ops Q S nd fuel (listed.setIfInBounds i true) (a.put oi.dst v) w) : Any P md ops Q S nd (fuel + 1) listed a w :=
  first (T := S) hi (Region.noSelect_spec hs) (fun w h => h hni) (fun _ h _ => h) (.inr hni) hQ fuel listed a w (RT.closedB_spec hc) (.inr hw) (Region.free_spec hi hf) (by simpa using hr) hy hS h
theorem takeW {i : Nat} {oi : Oper} {v : Value} {fuel : Nat} {listed : Array Bool} {a : Act} {w : World} (hi : ops[i]? = some oi) (hni : nd.contains i = true)
    (hs : Region.noSelect ops = true) (hf : Region.free md ops listed i = true) (hr : (Region.ready md ops listed).contains i = true) (hc : RT.closedB md ops listed = true)
    (hQ : ∀ c a w, Q (.panic c) (a.put oi.dst v) w → Q (.panic c) a w) (hy : YieldsIf P ops (fun _ => True) oi v a)
    (h : Any P md ops Q S nd fuel (listed.setIfInBounds i true) (a.put oi.dst v) w) : Any P md ops Q S nd (fuel + 1) listed a w :=
  first (T := fun _ => True) hi (Region.noSelect_spec hs) (fun _ _ => trivial) (fun _ _ h => by rw [hni] at h; cases h) (.inl fun _ => trivial) hQ fuel listed a w (RT.closedB_spec hc) (.inl fun _ => trivial) (Region.free_spec hi hf) (by simpa using hr) hy trivial h

def All (P : Program) (md : Region.Mode) (ops : Array Oper) (Q : Exit → Act → World → Prop) (S : World → Prop) (nd : List Nat) (fuel : Nat) (listed : Array Bool) (a : Act) (w : World) (rs : List Nat) : Prop :=
  ∀ i ∈ rs, wpOp P ops Q i (fun a' w' => (nd.contains i = false → S w') ∧ Any P md ops Q S nd fuel (listed.setIfInBounds i true) a' w') a w
theorem all {rs : List Nat} {fuel : Nat} {listed : Array Bool} {a : Act} {w : World} (hr : Region.ready md ops listed = rs) (hne : rs ≠ [])
    (h : All P md ops Q S nd fuel listed a w rs) : Any P md ops Q S nd (fuel + 1) listed a w :=
  ⟨fun h0 => absurd (hr ▸ h0) hne, hr ▸ h⟩
theorem All.nil {fuel : Nat} {listed : Array Bool} {a : Act} {w : World} : All P md ops Q S nd fuel listed a w [] := fun _ h => by cases h
theorem All.cons {fuel : Nat} {listed : Array Bool} {a : Act} {w : World} {i : Nat} {o : Oper} {rs : List Nat} (ho : ops[i]? = some o)
    (h : ∀ K' : Act → World → Prop, (∀ a w, (nd.contains i = false → S w) → Any P md ops Q S nd fuel (listed.setIfInBounds i true) a w → K' a w) → if Region.wanted o (yielded ops a.tmps) = true then Oper.wp P o a w K' Q else K' (a.put o.dst undef) w)
    (hs : All P md ops Q S nd fuel listed a w rs) : All P md ops Q S nd fuel listed a w (i :: rs) := fun j hj => by
  rcases List.mem_cons.1 hj with rfl | hj
  · exact wpOp_step ho fun K' hK => h K' fun a w h1 h2 => hK a w ⟨h1, h2⟩
  · exact hs j hj
theorem done {listed : Array Bool} {a : Act} {w : World} (hr : Region.ready md ops listed = []) (h : Q .normal a w) : ∀ fuel, Any P md ops Q S nd fuel listed a w
  | 0 => ⟨hr, h⟩
  | _ + 1 => ⟨fun _ => h, by rw [hr]; simp⟩
theorem begins (S : World → Prop) (nd : List Nat) {id : Nat} {a : Act} {w : World} (hm : P.follows .mixedOrders = true)
    (h : Any P .any ops Q S nd ops.size (Array.replicate ops.size false) a w.drew) : (Code.region id ops true).wp P Q a w :=
  wp_region_any hm (any_of _ _ _ _ h)
end
end RN
end Go.Proofs.Ytlebglnlkkoakaa
