/- A region that draws its order, walked in the order of the text at the class 'below': steps in which the whole region's text stands in no goal that Lean unfolds (so that a long region with guards is walked in seconds). Of no program. -/
/- A region that draws its order: all operations but the last ones (which come in one forced order) are quiet in a class of worlds; the last ones are walked in whatever world of the class. Of no program. -/
import Derived.Test.YtbcldfaphnnmlaaRows
import Derived.Lib.QuietBelow
import Derived.WalkKit
import Derived.StillTail
namespace Go.Proofs.Ytbcldfaphnnmlaa
open Go.RowKit Go.Sort
namespace Qu
variable {P:Program} {ops:Array Oper} {C:World→Prop}
structure W (P:Program) (ops:Array Oper) (C:World→Prop) (Q:Act→Prop) (l:List Oper) (a:Act):Prop where
 out:wpQuiet P ops C Q l a
theorem fin {Q:Act→Prop} {a:Act} (h:Q a):W P ops C Q [] a:=⟨h⟩
theorem carry {Q:Act→Prop} {a:Act} {o:Oper} {rest:List Oper} (hw:Region.wanted o (yielded ops a.tmps) = true)
  (h:∀ K:Act→Prop,(∀ a,W P ops C Q rest a→K a)→o.quiet P a C K):W P ops C Q (o :: rest) a :=
 ⟨wpQuiet_step fun K hK=>by rw [hw];exact h K fun a ha=>hK a ha.out⟩
theorem pass {Q:Act→Prop} {a:Act} {o:Oper} {rest:List Oper} (hw:Region.wanted o (yielded ops a.tmps) = false)
  (h:∀ K:Act→Prop,(∀ a,W P ops C Q rest a→K a)→K (a.put o.dst undef)):W P ops C Q (o :: rest) a :=
 ⟨wpQuiet_step fun K hK=>by rw [hw];exact h K fun a ha=>hK a ha.out⟩
def mets (b:Bool):Value→Bool
 | .bool c=>c == b
 | _=>false
theorem wanted_of {l:List Oper} {ts:List Value} {o:Oper} {i:Nat} {b:Bool} {v:Value} (hg:o.guard = some (i,b)) (hv:(l[i]?.bind (·.dst)).bind (ts[·]?) = some v) :
  Region.wanted o (yielded l.toArray ts.toArray) = mets b v:=by
 cases v <;> simp [Region.wanted,hg,yielded,hv,mets]
theorem carryG {l:List Oper} {ts:List Value} {ds} {Q:Act→Prop} {o:Oper} {rest:List Oper} {i:Nat} {b:Bool} {v:Value} (hg:o.guard = some (i,b)) (hv:(l[i]?.bind (·.dst)).bind (ts[·]?) = some v) (hm:mets b v = true)
  (h:∀ K:Act→Prop,(∀ a,W P l.toArray C Q rest a→K a)→o.quiet P { tmps:=ts.toArray,defers:=ds } C K):W P l.toArray C Q (o :: rest) { tmps:=ts.toArray,defers:=ds } :=
 carry ((wanted_of hg hv).trans hm) h
theorem passG {l:List Oper} {ts:List Value} {ds} {Q:Act→Prop} {o:Oper} {rest:List Oper} {i:Nat} {b:Bool} {v:Value} (hg:o.guard = some (i,b)) (hv:(l[i]?.bind (·.dst)).bind (ts[·]?) = some v) (hm:mets b v = false)
  (h:∀ K:Act→Prop,(∀ a,W P l.toArray C Q rest a→K a)→K (Act.put { tmps:=ts.toArray,defers:=ds } o.dst undef)):W P l.toArray C Q (o :: rest) { tmps:=ts.toArray,defers:=ds } :=
 pass ((wanted_of hg hv).trans hm) h
theorem carry0 {Q:Act→Prop} {a:Act} {o:Oper} {rest:List Oper} (hg:o.guard = none)
  (h:∀ K:Act→Prop,(∀ a,W P ops C Q rest a→K a)→o.quiet P a C K):W P ops C Q (o :: rest) a :=
 carry (by simp [Region.wanted,hg]) h
theorem region {id:Nat} {Q:Exit→Act→World→Prop} {a:Act} {w:World} {l:List Oper} (hm:P.follows .mixedOrders = true) (hB:Region.lexB .any l.toArray = true)
  (h:W P l.toArray (fun w'=>∃ p:Regrown,w' = grow (redrawn w p.d) p.os) (fun a'=>∀ p:Regrown,Q .normal a' (grow (redrawn w p.d) p.os)) l a):(Code.region id l.toArray true).wp P Q a w :=
 wp_region_quiet_below hm hB (by
  have h1:=h.out
  have:(fun a'=>∀ p:Regrown,Q .normal a' (grow (redrawn w p.d) p.os)) = (fun a'=>∀ w',(∃ p:Regrown,w' = grow (redrawn w p.d) p.os)→Q .normal a' w'):=by
   funext a'
   exact propext ⟨fun h w' ⟨p,hp⟩=>hp ▸ h p,fun h p=>h _ ⟨p,rfl⟩⟩
  rw [this] at h1
  exact h1)
end Qu
end Go.Proofs.Ytbcldfaphnnmlaa
namespace Go.Proofs.Ytbcldfaphnnmlaa
open Go.RowKit Go.Sort
namespace Qu
section
variable {P:Program} {ops:Array Oper} {md:Region.Mode} {C:World→Prop}
end
end Qu
end Go.Proofs.Ytbcldfaphnnmlaa
