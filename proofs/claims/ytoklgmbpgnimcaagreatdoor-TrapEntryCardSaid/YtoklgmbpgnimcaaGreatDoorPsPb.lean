/- Parse's deferred function: nothing to catch; a fault that is caught. -/
/- Parse, for every text. -/
import Derived.Test.YtoklgmbpgnimcaaGreatDoorRegN
import Derived.Test.YtoklgmbpgnimcaaGreatDoorPsZ
namespace Go.Proofs.YtoklgmbpgnimcaaGreatDoor
open Go.RowKit Go.Sort
namespace Ps
open Cls Pt Tr Sp Lx
theorem passert_fault (v:Value) (xT:TypeId) (w:World):(Instr.typeAssert (.iface 79 v) xT 79 true).run Tryz.prog w = .ok (.tuple #[v,.bool true]) w:=by
 kernel_rfl
theorem passert_nil (xT:TypeId) (w:World):(Instr.typeAssert .nilIface xT 79 true).run Tryz.prog w = .ok (.tuple #[.agg #[.int .i64 0,.int .i64 0],.bool false]) w:=by
 kernel_rfl
set_option maxHeartbeats 800000 in
set_option maxRecDepth 100000 in
theorem parse_idle (nb ab eb:Nat) (w:World) :
  CallsD Tryz.prog 35 #[.pointer (some ⟨nb,0,none⟩),.pointer (some ⟨ab,0,none⟩),.pointer (some ⟨eb,0,none⟩)] .returning w fun e u' w'=>e = .returned (.tuple #[])∧u' = .returning∧Below w.heap.size w w':=by
 refine callsD_of_wpS Tryz.func35 rfl fun c₀ cs hu=>?_
 simp only [Tryz.ntmps35,List.size_toArray,List.length_cons,List.length_nil,Nat.reduceAdd,Nat.reduceSub,Array.replicate_succ,Array.replicate_zero,List.push_toArray,List.append_toArray,List.nil_append,List.cons_append]
 apply wpS_seq
 apply wpS_region
 simp [wpOpsS,go_sem,recoverD,hu,Exit.thenS]
 refine wpS_of_wp ?_
 have ha:=passert_nil
 go_wp2_with fail
 refine ⟨rfl,.returning,?_,.tuple #[],results_none rfl _ _ _,rfl,rfl,(Below.refl _ _).alloc (Nat.le_refl _) _⟩
 cases c₀
 simp_all
set_option maxHeartbeats 1600000 in
set_option maxRecDepth 100000 in
theorem parse_caught (nb ab eb i er:Nat) (w:World) (u0 u1 u2 u3 u4 u5 u6 u7 va ve:Value) (tn ta te:TypeId) (hN:w.heap[nb]? = some (.cells #[u0,u1,u2,u3,u4,u5,u6,u7] tn (0,0))) (hA:w.heap[ab]? = some (.cells #[va] ta (0,0))) (hE:w.heap[eb]? = some (.cells #[ve] te (0,0))) (h1:nb ≠ ab) (h2:nb ≠ eb) (h3:ab ≠ eb) :
  CallsD Tryz.prog 35 #[.pointer (some ⟨nb,0,none⟩),.pointer (some ⟨ab,0,none⟩),.pointer (some ⟨eb,0,none⟩)] (.panicking [{ v:=faultP i er,recovered:=false }]) w fun e u' w' =>
   e = .returned (.tuple #[])∧u' = .panicking [{ v:=faultP i er,recovered:=true }]∧w'.heap[nb]? = some (.cells #[.int .i64 0,.string ⟨#[]⟩,.bool false,.slice none 0 0,.slice none 0 0,.slice none 0 0,.slice none 0 0,.slice none 0 0] tn (0,0))∧w'.heap[ab]? = some (.cells #[.int .i64 i] ta (0,0))∧w'.heap[eb]? = some (.cells #[.int .i64 er] te (0,0))∧Ch (fun b=>b = nb∨b = ab∨b = eb) w w':=by
 refine callsD_of_wpS Tryz.func35 rfl fun c₀ cs hu=>?_
 simp only [Tryz.ntmps35,List.size_toArray,List.length_cons,List.length_nil,Nat.reduceAdd,Nat.reduceSub,Array.replicate_succ,Array.replicate_zero,List.push_toArray,List.append_toArray,List.nil_append,List.cons_append]
 apply wpS_seq
 apply wpS_region
 simp [wpOpsS,go_sem,recoverD,hu,Exit.thenS,faultP]
 refine wpS_of_wp ?_
 have ha:=passert_fault
 have ln:=(Array.getElem?_eq_some_iff.1 hN).1
 have la:=(Array.getElem?_eq_some_iff.1 hA).1
 have le:=(Array.getElem?_eq_some_iff.1 hE).1
 have hbl:=bel1 w (.cells #[.int .i64 i,.int .i64 er] 79)
 have hF:(w.alloc (.cells #[.int .i64 i,.int .i64 er] 79)).heap[w.heap.size]? = some (.cells #[.int .i64 i,.int .i64 er] 79 (0,0)):=heap_new' _ _
 have HALL:=Lib.hid (And.intro hF (And.intro ((hbl.block nb ln).trans hN) (And.intro ((hbl.block ab la).trans hA) (And.intro ((hbl.block eb le).trans hE) hbl))));have HL:=Lib.hid (And.intro ln (And.intro la le))
 have HNE:=Lib.hid (And.intro h1 (And.intro h2 h3))
 clear hN hA hE hF hbl ln la le h1 h2 h3
 go_wp2_with fail
 have hall:=HALL.out
 generalize hW1:(w.alloc (.cells #[.int .i64 i,.int .i64 er] 79)) = W1 at hall ⊢
 obtain ⟨hF,hN,hA,hE,hbl⟩:=hall
 clear HALL
 have HF:=Lib.hid hF;have HN:=Lib.hid hN;have HA:=Lib.hid hA;have HE:=Lib.hid hE;have HBL:=Lib.hid hbl
 clear hN hA hE hbl hW1
 refine RN.begins (fun w2=>w2.heap[w.heap.size]? = some (.cells #[.int .i64 i,.int .i64 er] 79 (0,0))) [] (by kernel_rfl) ?_
 have hS:W1.drew.heap[w.heap.size]? = some (.cells #[.int .i64 i,.int .i64 er] 79 (0,0)):=hF
 clear hF
 have HB1:=Lib.hid (show W1.drew.heap[nb]? = _ from HN.out);have HB2:=Lib.hid (show W1.drew.heap[ab]? = _ from HA.out);have HB3:=Lib.hid (show W1.drew.heap[eb]? = _ from HE.out)
 have HCH:=Lib.hid ((Ch.below (⟨HBL.out.os,HBL.out.tape,HBL.out.output,HBL.out.size,HBL.out.block⟩:Below w.heap.size w W1.drew)))
 clear HN HA HE HF HBL
 generalize W1.drew = W2 at hS HB1 HB2 HB3 HCH ⊢
 refine RN.take (i:=0) (v:=?_) rfl (by decide) (by kernel_rfl) (by kernel_rfl) (by kernel_rfl) (by kernel_rfl) (by kernel_rfl) (by first | exact fun _ _ _ h=>h | exact fun _ _ _ h=>(by cases h.1) | exact fun _ _ _ h=>door_put (by decide) h) (.inl ⟨by rfl,?_⟩) hS ?_
 rotate_left 1
 ·(intro wq hq;have s0:=zc0 hq;have s1:=zc1 hq;go_simp;try with_reducible rfl)
 refine RN.take (i:=1) (v:=?_) rfl (by decide) (by kernel_rfl) (by kernel_rfl) (by kernel_rfl) (by kernel_rfl) (by kernel_rfl) (by first | exact fun _ _ _ h=>h | exact fun _ _ _ h=>(by cases h.1) | exact fun _ _ _ h=>door_put (by decide) h) (.inl ⟨by rfl,?_⟩) hS ?_
 rotate_left 1
 ·(intro wq hq;have s0:=zc0 hq;have s1:=zc1 hq;go_simp;try with_reducible rfl)
 refine RN.take (i:=2) (v:=?_) rfl (by decide) (by kernel_rfl) (by kernel_rfl) (by kernel_rfl) (by kernel_rfl) (by kernel_rfl) (by first | exact fun _ _ _ h=>h | exact fun _ _ _ h=>(by cases h.1) | exact fun _ _ _ h=>door_put (by decide) h) (.inl ⟨by rfl,?_⟩) hS ?_
 rotate_left 1
 ·(intro wq hq;have s0:=zc0 hq;have s1:=zc1 hq;go_simp;try with_reducible rfl)
 refine RN.take (i:=3) (v:=?_) rfl (by decide) (by kernel_rfl) (by kernel_rfl) (by kernel_rfl) (by kernel_rfl) (by kernel_rfl) (by first | exact fun _ _ _ h=>h | exact fun _ _ _ h=>(by cases h.1) | exact fun _ _ _ h=>door_put (by decide) h) (.inl ⟨by rfl,?_⟩) hS ?_
 rotate_left 1
 ·(intro wq hq;have s0:=zc0 hq;have s1:=zc1 hq;go_simp;try with_reducible rfl)
 refine RN.take (i:=4) (v:=?_) rfl (by decide) (by kernel_rfl) (by kernel_rfl) (by kernel_rfl) (by kernel_rfl) (by kernel_rfl) (by first | exact fun _ _ _ h=>h | exact fun _ _ _ h=>(by cases h.1) | exact fun _ _ _ h=>door_put (by decide) h) (.inl ⟨by rfl,?_⟩) hS ?_
 rotate_left 1
 ·(intro wq hq;have s0:=zc0 hq;have s1:=zc1 hq;go_simp;try with_reducible rfl)
 refine RN.all (rs:=[5]) (by kernel_rfl) (by simp) ?_
 refine RN.All.cons rfl (fun K hK=>?_) RN.All.nil
 have k0:=zc0 HB1.out;have f0:=zf 0 HB1.out
 have k1:=zc1 HB1.out;have f1:=zf 1 HB1.out
 have k2:=zc2 HB1.out;have f2:=zf 2 HB1.out
 have k3:=zc3 HB1.out;have f3:=zf 3 HB1.out
 have k4:=zc4 HB1.out;have f4:=zf 4 HB1.out
 have k5:=zc5 HB1.out;have f5:=zf 5 HB1.out
 have k6:=zc6 HB1.out;have f6:=zf 6 HB1.out
 have k7:=zc7 HB1.out;have f7:=zf 7 HB1.out
 go_simp
 have hst:=stored_rb W2 nb (.int .i64 0) (.string ⟨#[]⟩) (.bool false) (.slice none 0 0) (.slice none 0 0) (.slice none 0 0) (.slice none 0 0) (.slice none 0 0) _ _ _ _ _ _ _ _ _ HB1.out
 have hne:=HNE.out
 have hl:=HL.out
 have hsz:=HCH.out.size
 have hS2:=(hst.2.block w.heap.size (Array.getElem?_eq_some_iff.1 hS).1 (by omega)).trans hS
 refine hK _ _ (fun _=>hS2) ?_
 clear hK K hS k0 f0 k1 f1 k2 f2 k3 f3 k4 f4 k5 f5 k6 f6 k7 f7
 have hA2:=(hst.2.block ab (by omega) (by omega)).trans HB2.out
 have hE2:=(hst.2.block eb (by omega) (by omega)).trans HB3.out
 generalize ((((((((W2.setCell ⟨nb,0,none⟩ (.int .i64 0)).setCell ⟨nb,1,none⟩ (.string ⟨#[]⟩)).setCell ⟨nb,2,none⟩ (.bool false)).setCell ⟨nb,3,none⟩ (.slice none 0 0)).setCell ⟨nb,4,none⟩ (.slice none 0 0)).setCell ⟨nb,5,none⟩ (.slice none 0 0)).setCell ⟨nb,6,none⟩ (.slice none 0 0)).setCell ⟨nb,7,none⟩ (.slice none 0 0)) = W3 at hst hS2 hA2 hE2 ⊢
 have hS:=hS2
 have hc3:Ch (fun b=>b = nb∨b = ab∨b = eb) w W3:=⟨hst.2.os.trans HCH.out.os,hst.2.tape.trans HCH.out.tape,hst.2.output.trans HCH.out.output,Nat.le_trans HCH.out.size hst.2.size,fun b hb hn=>(hst.2.block b (by omega) fun e=>hn (.inl e)).trans (HCH.out.block b hb fun h=>h)⟩
 have HC3:=Lib.hid hc3;have HN3:=Lib.hid hst.1;have HA3:=Lib.hid hA2;have HE3:=Lib.hid hE2
 clear hc3 hst hA2 hE2 HB1 HB2 HB3 HCH hS2 hsz hl hne
 refine RN.all (rs:=[6]) (by kernel_rfl) (by simp) ?_
 refine RN.All.cons rfl (fun K hK=>?_) RN.All.nil
 have k0:=zc0 HA3.out
 have f0:=zf 0 HA3.out
 go_simp
 have hne:=HNE.out
 have hl:=HL.out
 have hsz:=HC3.out.size
 have hc:=Ch.set W3 ab 0 (.int .i64 i)
 have hS2:=(hc.block w.heap.size (Array.getElem?_eq_some_iff.1 hS).1 (by omega)).trans hS
 refine hK _ _ (fun _=>hS2) ?_
 clear hK K hS k0 f0
 have hA4:(W3.setCell ⟨ab,0,none⟩ (.int .i64 i)).heap[ab]? = some (.cells #[.int .i64 i] ta (0,0)):=heap_setCell_same _ _ 0 _ _ (.int .i64 i) HA3.out
 have hN4:=(hc.block nb (by omega) (by omega)).trans HN3.out
 have hE4:=(hc.block eb (by omega) (by omega)).trans HE3.out
 have hc4:Ch (fun b=>b = nb∨b = ab∨b = eb) w (W3.setCell ⟨ab,0,none⟩ (.int .i64 i)):=HC3.out.then ⟨hc.os,hc.tape,hc.output,hc.size,fun b hb hn=>hc.block b hb fun e=>hn (.inr (.inl e))⟩
 generalize W3.setCell ⟨ab,0,none⟩ (.int .i64 i) = W4 at hA4 hN4 hE4 hc4 hS2 ⊢
 have hS:=hS2
 have HC4:=Lib.hid hc4;have HN4:=Lib.hid hN4;have HA4:=Lib.hid hA4;have HE4:=Lib.hid hE4
 clear hc4 hN4 hA4 hE4 hS2 hc HC3 HN3 HA3 HE3 hsz
 refine RN.all (rs:=[7]) (by kernel_rfl) (by simp) ?_
 refine RN.All.cons rfl (fun K hK=>?_) RN.All.nil
 have k0:=zc0 HE4.out
 have f0:=zf 0 HE4.out
 go_simp
 have hsz:=HC4.out.size
 have hc:=Ch.set W4 eb 0 (.int .i64 er)
 have hS2:=(hc.block w.heap.size (Array.getElem?_eq_some_iff.1 hS).1 (by omega)).trans hS
 refine hK _ _ (fun _=>hS2) ?_
 clear hK K hS k0 f0
 have hE5:(W4.setCell ⟨eb,0,none⟩ (.int .i64 er)).heap[eb]? = some (.cells #[.int .i64 er] te (0,0)):=heap_setCell_same _ _ 0 _ _ (.int .i64 er) HE4.out
 have hN5:=(hc.block nb (by omega) (by omega)).trans HN4.out
 have hA5:=(hc.block ab (by omega) (by omega)).trans HA4.out
 have hc5:Ch (fun b=>b = nb∨b = ab∨b = eb) w (W4.setCell ⟨eb,0,none⟩ (.int .i64 er)):=HC4.out.then ⟨hc.os,hc.tape,hc.output,hc.size,fun b hb hn=>hc.block b hb fun e=>hn (.inr (.inr e))⟩
 have HX:=Lib.hid (And.intro hN5 (And.intro hA5 (And.intro hE5 hc5)))
 clear hE5 hN5 hA5 hc5 hc hsz hS2
 refine RN.done (by kernel_rfl) ?_ _
 refine ⟨rfl,.panicking [{ v:=faultP i er,recovered:=true }],?_,.tuple #[],results_none rfl _ _ _,rfl,rfl,HX.out.1,HX.out.2.1,HX.out.2.2.1,HX.out.2.2.2⟩
 cases c₀
 simp_all [faultP]
end Ps
end Go.Proofs.YtoklgmbpgnimcaaGreatDoor
namespace Go.Proofs.YtoklgmbpgnimcaaGreatDoor
open Go.RowKit Go.Sort
namespace Ps
open Cls Pt Tr Sp Lx
def o0:Tok:=⟨0,0,⟨#[]⟩,.nil,0,0⟩
def fuelP (s:ByteArray):Nat:=20 * s.size + 40
def parseF (s:ByteArray):Rs ND:=(nextF s o0).bind fun _ o=>programF s (fuelP s) o
def GotPa (w:World) (r:Rs ND) (e:Ending) (w':World):Prop:=Below w.heap.size w w'∧match r with
 | .ok x _=>∃ a1 c1 a2 c2 a3 c3 a4 c4 a5 c5,e = .returned (.tuple #[.agg (nvs x a1 c1 a2 c2 a3 c3 a4 c4 a5 c5).toArray,.int .i64 0,.int .i64 0])∧Holds w' x.nm x.az x.ws x.ks x.bs x.cz a1 c1 a2 c2 a3 c3 a4 c4 a5 c5
 | .bad i er=>e = .returned (.tuple #[.agg #[.int .i64 0,.string ⟨#[]⟩,.bool false,.slice none 0 0,.slice none 0 0,.slice none 0 0,.slice none 0 0,.slice none 0 0],.int .i64 i,.int .i64 er])
theorem pdoor_ok {w W:World} {nb ab eb:Nat} {tmps:Array Value} {x:ND} {q:Tok} {a1 a2 a3 a4 a5:Option Addr} {c1 c2 c3 c4 c5:Nat} {tn ta te:TypeId} (h2:tmps[2]?.getD undef = .pointer (some ⟨nb,0,none⟩)) (h3:tmps[3]?.getD undef = .pointer (some ⟨ab,0,none⟩)) (h4:tmps[4]?.getD undef = .pointer (some ⟨eb,0,none⟩)) (hb:Below w.heap.size w W)
  (hN:W.heap[nb]? = some (.cells #[.int .i64 x.k,.string x.nm,.bool x.g,.slice a1 x.az.length c1,.slice a2 x.ws.length c2,.slice a3 x.ks.len c3,.slice a4 x.bs.length c4,.slice a5 x.cz.len c5] tn (0,0))) (hA:W.heap[ab]? = some (.cells #[.int .i64 0] ta (0,0))) (hE:W.heap[eb]? = some (.cells #[.int .i64 0] te (0,0))) (hx:Holds W x.nm x.az x.ws x.ks x.bs x.cz a1 c1 a2 c2 a3 c3 a4 c4 a5 c5) :
  bodyPostD Tryz.prog Tryz.f30 (GotPa w (.ok x q)) Exit.ret { tmps:=tmps,defers:=[{ target:=Target.fn (Go.Fn.func 35) #[.pointer (some ⟨nb,0,none⟩),.pointer (some ⟨ab,0,none⟩),.pointer (some ⟨eb,0,none⟩)],args:=#[] }] } W:=by
 refine leaves_cons (f:=35) (args:=#[.pointer (some ⟨nb,0,none⟩),.pointer (some ⟨ab,0,none⟩),.pointer (some ⟨eb,0,none⟩)]) (by simp) (by simp [go_sem]) ?_
 refine (parse_idle nb ab eb _).mono ?_
 rintro e u' w2 ⟨rfl,rfl,hb2⟩
 have hN2:=(hb2.block _ (Array.getElem?_eq_some_iff.1 hN).1).trans hN
 have hA2:=(hb2.block _ (Array.getElem?_eq_some_iff.1 hA).1).trans hA
 have hE2:=(hb2.block _ (Array.getElem?_eq_some_iff.1 hE).1).trans hE
 have x0:=zc0 hN2
 have x1:=zc1 hN2
 have x2:=zc2 hN2
 have x3:=zc3 hN2
 have x4:=zc4 hN2
 have x5:=zc5 hN2
 have x6:=zc6 hN2
 have x7:=zc7 hN2
 have y0:=zc0 hA2
 have z0:=zc0 hE2
 have hg:GotPa w (.ok x q) (.returned (.tuple #[.agg #[.int .i64 x.k,.string x.nm,.bool x.g,.slice a1 x.az.length c1,.slice a2 x.ws.length c2,.slice a3 x.ks.len c3,.slice a4 x.bs.length c4,.slice a5 x.cz.len c5],.int .i64 0,.int .i64 0])) w2:=⟨thru hb hb2,a1,c1,a2,c2,a3,c3,a4,c4,a5,c5,rfl,hx.below hb2⟩
 simp [Leaves,settle,results,Tryz.results30,go_sem,h2,h3,h4,x0,x1,x2,x3,x4,x5,x6,x7,y0,z0]
 exact hg
theorem pdoor_bad {w W:World} {nb ab eb i er:Nat} {tmps:Array Value} {u0 u1 u2 u3 u4 u5 u6 u7 va ve:Value} {tn ta te:TypeId} (h2:tmps[2]?.getD undef = .pointer (some ⟨nb,0,none⟩)) (h3:tmps[3]?.getD undef = .pointer (some ⟨ab,0,none⟩)) (h4:tmps[4]?.getD undef = .pointer (some ⟨eb,0,none⟩)) (hb:Below w.heap.size w W)
  (hN:W.heap[nb]? = some (.cells #[u0,u1,u2,u3,u4,u5,u6,u7] tn (0,0))) (hA:W.heap[ab]? = some (.cells #[va] ta (0,0))) (hE:W.heap[eb]? = some (.cells #[ve] te (0,0))) (l1:w.heap.size≤nb) (l2:nb < ab) (l3:ab < eb) :
  bodyPostD Tryz.prog Tryz.f30 (GotPa w (.bad i er)) (Exit.panic [{ v:=faultP i er,recovered:=false }]) { tmps:=tmps,defers:=[{ target:=Target.fn (Go.Fn.func 35) #[.pointer (some ⟨nb,0,none⟩),.pointer (some ⟨ab,0,none⟩),.pointer (some ⟨eb,0,none⟩)],args:=#[] }] } W:=by
 refine leaves_cons (f:=35) (args:=#[.pointer (some ⟨nb,0,none⟩),.pointer (some ⟨ab,0,none⟩),.pointer (some ⟨eb,0,none⟩)]) (by simp) (by simp [go_sem]) ?_
 refine (parse_caught nb ab eb i er W _ _ _ _ _ _ _ _ _ _ _ _ _ hN hA hE (by omega) (by omega) (by omega)).mono ?_
 rintro e u' w2 ⟨rfl,rfl,hN2,hA2,hE2,hc⟩
 have x0:=zc0 hN2
 have x1:=zc1 hN2
 have x2:=zc2 hN2
 have x3:=zc3 hN2
 have x4:=zc4 hN2
 have x5:=zc5 hN2
 have x6:=zc6 hN2
 have x7:=zc7 hN2
 have y0:=zc0 hA2
 have z0:=zc0 hE2
 have hg:GotPa w (.bad i er) (.returned (.tuple #[.agg #[.int .i64 0,.string ⟨#[]⟩,.bool false,.slice none 0 0,.slice none 0 0,.slice none 0 0,.slice none 0 0,.slice none 0 0],.int .i64 i,.int .i64 er])) w2:=⟨⟨hc.os.trans hb.os,hc.tape.trans hb.tape,hc.output.trans hb.output,Nat.le_trans hb.size hc.size,fun b hlt=>(hc.block b (Nat.lt_of_lt_of_le hlt hb.size) (by omega)).trans (hb.block b hlt)⟩,rfl⟩
 simp [Leaves,settle,results,Tryz.results30,go_sem,h2,h3,h4,x0,x1,x2,x3,x4,x5,x6,x7,y0,z0]
 exact hg
set_option maxHeartbeats 1600000 in
set_option maxRecDepth 100000 in
theorem parse_any (s:ByteArray) (hs:s.size≤400000) (m:Int) (w:World) (hm:w.cell? ⟨1,0,none⟩ = some (.int .i64 m)) :
  Calls Tryz.prog 30 #[.string s] w (GotPa w (parseF s)):=by
 obtain ⟨R0,hR⟩:∃ R0,parseF s = R0:=⟨_,rfl⟩
 rw [hR]
 unfold parseF at hR
 have hmf:∀ (fn:Go.Fn) (first cap:Array Value) (w:World),(Instr.makeFunc fn first cap).run Tryz.prog w = .ok (.func fn first cap) w:=fun _ _ _ _=>rfl
 have hGlt:=World.block_lt_of_cell? _ _ hm
 have hb0:Below w.heap.size w ((((w.alloc (.cells #[.int .i64 0,.string ⟨#[]⟩,.bool false,.slice none 0 0,.slice none 0 0,.slice none 0 0,.slice none 0 0,.slice none 0 0] 42)).alloc (.cells #[.int .i64 0] 3)).alloc (.cells #[.int .i64 0] 32)).alloc (.cells #[.string s,.int .i64 0,.int .i64 0,.string ⟨#[]⟩,.slice none 0 0,.int .i64 0,.string ⟨#[]⟩,.int .i64 0,.int .i64 0] 86)):=thru (bel2 w (.cells #[.int .i64 0,.string ⟨#[]⟩,.bool false,.slice none 0 0,.slice none 0 0,.slice none 0 0,.slice none 0 0,.slice none 0 0] 42) (.cells #[.int .i64 0] 3)) (bel2 ((w.alloc (.cells #[.int .i64 0,.string ⟨#[]⟩,.bool false,.slice none 0 0,.slice none 0 0,.slice none 0 0,.slice none 0 0,.slice none 0 0] 42)).alloc (.cells #[.int .i64 0] 3)) (.cells #[.int .i64 0] 32) (.cells #[.string s,.int .i64 0,.int .i64 0,.string ⟨#[]⟩,.slice none 0 0,.int .i64 0,.string ⟨#[]⟩,.int .i64 0,.int .i64 0] 86))
 have hsz:((((w.alloc (.cells #[.int .i64 0,.string ⟨#[]⟩,.bool false,.slice none 0 0,.slice none 0 0,.slice none 0 0,.slice none 0 0,.slice none 0 0] 42)).alloc (.cells #[.int .i64 0] 3)).alloc (.cells #[.int .i64 0] 32)).alloc (.cells #[.string s,.int .i64 0,.int .i64 0,.string ⟨#[]⟩,.slice none 0 0,.int .i64 0,.string ⟨#[]⟩,.int .i64 0,.int .i64 0] 86)).heap.size = w.heap.size + 4:=by simp
 have hN:((((w.alloc (.cells #[.int .i64 0,.string ⟨#[]⟩,.bool false,.slice none 0 0,.slice none 0 0,.slice none 0 0,.slice none 0 0,.slice none 0 0] 42)).alloc (.cells #[.int .i64 0] 3)).alloc (.cells #[.int .i64 0] 32)).alloc (.cells #[.string s,.int .i64 0,.int .i64 0,.string ⟨#[]⟩,.slice none 0 0,.int .i64 0,.string ⟨#[]⟩,.int .i64 0,.int .i64 0] 86)).heap[w.heap.size]? = some (.cells #[.int .i64 0,.string ⟨#[]⟩,.bool false,.slice none 0 0,.slice none 0 0,.slice none 0 0,.slice none 0 0,.slice none 0 0] 42 (0,0)):=(Below.heap_alloc _ _ _ (by simp <;> omega)).trans ((Below.heap_alloc _ _ _ (by simp <;> omega)).trans ((Below.heap_alloc _ _ _ (by simp)).trans (heap_new' _ _)))
 have hA:((((w.alloc (.cells #[.int .i64 0,.string ⟨#[]⟩,.bool false,.slice none 0 0,.slice none 0 0,.slice none 0 0,.slice none 0 0,.slice none 0 0] 42)).alloc (.cells #[.int .i64 0] 3)).alloc (.cells #[.int .i64 0] 32)).alloc (.cells #[.string s,.int .i64 0,.int .i64 0,.string ⟨#[]⟩,.slice none 0 0,.int .i64 0,.string ⟨#[]⟩,.int .i64 0,.int .i64 0] 86)).heap[w.heap.size + 1]? = some (.cells #[.int .i64 0] 3 (0,0)):=by
  have:=heap_new' (w.alloc (.cells #[.int .i64 0,.string ⟨#[]⟩,.bool false,.slice none 0 0,.slice none 0 0,.slice none 0 0,.slice none 0 0,.slice none 0 0] 42)) (.cells #[.int .i64 0] 3)
  rw [World.size_alloc] at this
  exact (Below.heap_alloc _ _ _ (by simp <;> omega)).trans ((Below.heap_alloc _ _ _ (by simp)).trans this)
 have hE:((((w.alloc (.cells #[.int .i64 0,.string ⟨#[]⟩,.bool false,.slice none 0 0,.slice none 0 0,.slice none 0 0,.slice none 0 0,.slice none 0 0] 42)).alloc (.cells #[.int .i64 0] 3)).alloc (.cells #[.int .i64 0] 32)).alloc (.cells #[.string s,.int .i64 0,.int .i64 0,.string ⟨#[]⟩,.slice none 0 0,.int .i64 0,.string ⟨#[]⟩,.int .i64 0,.int .i64 0] 86)).heap[w.heap.size + 1 + 1]? = some (.cells #[.int .i64 0] 32 (0,0)):=by
  have:=heap_new' ((w.alloc (.cells #[.int .i64 0,.string ⟨#[]⟩,.bool false,.slice none 0 0,.slice none 0 0,.slice none 0 0,.slice none 0 0,.slice none 0 0] 42)).alloc (.cells #[.int .i64 0] 3)) (.cells #[.int .i64 0] 32)
  rw [World.size_alloc,World.size_alloc] at this
  exact (Below.heap_alloc _ _ _ (by simp)).trans this
 have hP:((((w.alloc (.cells #[.int .i64 0,.string ⟨#[]⟩,.bool false,.slice none 0 0,.slice none 0 0,.slice none 0 0,.slice none 0 0,.slice none 0 0] 42)).alloc (.cells #[.int .i64 0] 3)).alloc (.cells #[.int .i64 0] 32)).alloc (.cells #[.string s,.int .i64 0,.int .i64 0,.string ⟨#[]⟩,.slice none 0 0,.int .i64 0,.string ⟨#[]⟩,.int .i64 0,.int .i64 0] 86)).heap[w.heap.size + 1 + 1 + 1]? = some (.cells #[.string s,.int .i64 0,.int .i64 0,.string ⟨#[]⟩,.slice none 0 0,.int .i64 0,.string ⟨#[]⟩,.int .i64 0,.int .i64 0] 86 (0,0)):=by
  have:=heap_new' (((w.alloc (.cells #[.int .i64 0,.string ⟨#[]⟩,.bool false,.slice none 0 0,.slice none 0 0,.slice none 0 0,.slice none 0 0,.slice none 0 0] 42)).alloc (.cells #[.int .i64 0] 3)).alloc (.cells #[.int .i64 0] 32)) (.cells #[.string s,.int .i64 0,.int .i64 0,.string ⟨#[]⟩,.slice none 0 0,.int .i64 0,.string ⟨#[]⟩,.int .i64 0,.int .i64 0] 86)
  rwa [World.size_alloc,World.size_alloc,World.size_alloc] at this
 have hfacts:=Lib.hid (And.intro hb0 (And.intro hsz (And.intro hN (And.intro hA (And.intro hE hP)))))
 have HM:=Lib.hid hm;have HGL:=Lib.hid hGlt
 clear hb0 hsz hN hA hE hP hm hGlt
 go_enter_defers Tryz.func30,Tryz.ntmps30
 go_wp2_with fail
 have hf:=hfacts.out
 generalize ((((w.alloc (.cells #[.int .i64 0,.string ⟨#[]⟩,.bool false,.slice none 0 0,.slice none 0 0,.slice none 0 0,.slice none 0 0,.slice none 0 0] 42)).alloc (.cells #[.int .i64 0] 3)).alloc (.cells #[.int .i64 0] 32)).alloc (.cells #[.string s,.int .i64 0,.int .i64 0,.string ⟨#[]⟩,.slice none 0 0,.int .i64 0,.string ⟨#[]⟩,.int .i64 0,.int .i64 0] 86)) = W0 at hf ⊢
 obtain ⟨hb0,hsz,hN,hA,hE,hP⟩:=hf
 clear hfacts
 have h0:PAt (fun b=>b = 1) W0 (w.heap.size + 1 + 1 + 1) s o0 0:=by
  have hg:=HGL.out
  refine ⟨⟨none,0,hP,fun _ _ _=>⟨Nat.le_refl _,Nat.zero_le _,.inl rfl⟩⟩,fun e=>by omega,fun b hb=>by have hb2:b = 1:=hb;omega,⟨Nat.zero_le _,Nat.zero_le _,fun h=>by simp [o0] at h,Nat.zero_le _,Nat.zero_le _⟩,rfl,m,cell_below hb0 HM.out⟩
 have hc:=next_any _ _ s hs o0 0 W0 h0
 generalize nextF s o0 = r at hc hR
 have HR:=Lib.hid hR
 clear hR
 have HC:=Lib.hid hc;have HB0:=Lib.hid hb0;have HN:=Lib.hid hN;have HA:=Lib.hid hA;have HE:=Lib.hid hE;have HSZ:=Lib.hid hsz
 clear hc hb0 hN hA hE hP hsz h0 HM
 cases r with
 | bad i er =>
  refine HC.out.mono ?_
  rintro e w1 ⟨hf,rfl⟩
  have hsz:=HSZ.out
  have hN1:=(hf.block _ (by omega) (by omega)).trans HN.out
  have hA1:=(hf.block _ (by omega) (by omega)).trans HA.out
  have hE1:=(hf.block _ (by omega) (by omega)).trans HE.out
  have hb1:=hf.below HB0.out (by omega)
  go_wp2_with fail
  rw [show R0 = .bad i er from HR.out.symm]
  exact pdoor_bad rfl rfl rfl hb1 hN1 hA1 hE1 (Nat.le_refl _) (by omega) (by omega)
 | ok u q =>
  refine HC.out.mono ?_
  rintro e w1 ⟨hf,⟨v,rfl,rfl⟩,hp⟩
  have hmu:=mu_F s q
  have hc2:=program_any s hs (fuelP s) (all_at s hs (fuelP s)).list _ _ q w1 hp (by unfold F at hmu;unfold fuelP;omega)
  have hR:=HR.out
  rw [Rs.bind_ok] at hR
  generalize programF s (fuelP s) q = r2 at hc2 hR
  clear HR
  have HR:=Lib.hid hR
  clear hR
  have HC2:=Lib.hid hc2;have HF:=Lib.hid hf
  clear hc2 hf hp HC hmu
  go_wp2_with fail
  cases r2 with
  | bad i er =>
   refine HC2.out.mono ?_
   rintro e w2 ⟨hf2,rfl⟩
   have hf:=HF.out.trans hf2
   have hsz:=HSZ.out
   have hN1:=(hf.block _ (by omega) (by omega)).trans HN.out
   have hA1:=(hf.block _ (by omega) (by omega)).trans HA.out
   have hE1:=(hf.block _ (by omega) (by omega)).trans HE.out
   have hb1:=hf.below HB0.out (by omega)
   go_wp2_with fail
   rw [show R0 = .bad i er from HR.out.symm]
   exact pdoor_bad rfl rfl rfl hb1 hN1 hA1 hE1 (Nat.le_refl _) (by omega) (by omega)
  | ok x p =>
   refine HC2.out.mono ?_
   rintro e w2 ⟨hf2,⟨v,rfl,a1,c1,a2,c2,a3,c3,a4,c4,a5,c5,hv,hx⟩,hp2⟩
   obtain rfl:v = .agg #[.int .i64 x.k,.string x.nm,.bool x.g,.slice a1 x.az.length c1,.slice a2 x.ws.length c2,.slice a3 x.ks.len c3,.slice a4 x.bs.length c4,.slice a5 x.cz.len c5]:=hv
   have hf:=HF.out.trans hf2
   have hsz:=HSZ.out
   have hN1:=(hf.block _ (by omega) (by omega)).trans HN.out
   have hA1:=(hf.block _ (by omega) (by omega)).trans HA.out
   have hE1:=(hf.block _ (by omega) (by omega)).trans HE.out
   have hb1:=hf.below HB0.out (by omega)
   have k0:=zc0 hN1;have f0:=zf 0 hN1
   have k1:=zc1 hN1;have f1:=zf 1 hN1
   have k2:=zc2 hN1;have f2:=zf 2 hN1
   have k3:=zc3 hN1;have f3:=zf 3 hN1
   have k4:=zc4 hN1;have f4:=zf 4 hN1
   have k5:=zc5 hN1;have f5:=zf 5 hN1
   have k6:=zc6 hN1;have f6:=zf 6 hN1
   have k7:=zc7 hN1;have f7:=zf 7 hN1
   have ka:=zc0 hA1;have fa:=zf 0 hA1
   have ke:=zc0 hE1;have fe:=zf 0 hE1
   have hst:=stored_rb w2 w.heap.size (.int .i64 x.k) (.string x.nm) (.bool x.g) (.slice a1 x.az.length c1) (.slice a2 x.ws.length c2) (.slice a3 x.ks.len c3) (.slice a4 x.bs.length c4) (.slice a5 x.cz.len c5) _ _ _ _ _ _ _ _ _ hN1
   have hs2:w.heap.size + 4≤w2.heap.size:=by have:=hf.size;omega
   have hA2:=(hst.2.block (w.heap.size + 1) (by omega) (by omega)).trans hA1
   have hE2:=(hst.2.block (w.heap.size + 1 + 1) (by omega) (by omega)).trans hE1
   have hw3:∃ W3,((((((((w2.setCell ⟨w.heap.size,0,none⟩ (.int .i64 x.k)).setCell ⟨w.heap.size,1,none⟩ (.string x.nm)).setCell ⟨w.heap.size,2,none⟩ (.bool x.g)).setCell ⟨w.heap.size,3,none⟩ (.slice a1 x.az.length c1)).setCell ⟨w.heap.size,4,none⟩ (.slice a2 x.ws.length c2)).setCell ⟨w.heap.size,5,none⟩ (.slice a3 x.ks.len c3)).setCell ⟨w.heap.size,6,none⟩ (.slice a4 x.bs.length c4)).setCell ⟨w.heap.size,7,none⟩ (.slice a5 x.cz.len c5)) = W3:=⟨_,rfl⟩
   obtain ⟨W3,hW3⟩:=hw3
   rw [hW3] at hst hA2 hE2
   have hsz3:=hst.2.size
   have hca:=Ch.set W3 (w.heap.size + 1) 0 (.int .i64 0)
   have hA3:(W3.setCell ⟨w.heap.size + 1,0,none⟩ (.int .i64 0)).heap[w.heap.size + 1]? = some (.cells #[.int .i64 0] 3 (0,0)):=heap_setCell_same _ _ 0 _ _ (.int .i64 0) hA2
   have hN3:=(hca.block w.heap.size (by omega) (by omega)).trans hst.1
   have hE3:=(hca.block (w.heap.size + 1 + 1) (by omega) (by omega)).trans hE2
   have hce:=Ch.set (W3.setCell ⟨w.heap.size + 1,0,none⟩ (.int .i64 0)) (w.heap.size + 1 + 1) 0 (.int .i64 0)
   have hsz4:=hca.size
   have hE4:((W3.setCell ⟨w.heap.size + 1,0,none⟩ (.int .i64 0)).setCell ⟨w.heap.size + 1 + 1,0,none⟩ (.int .i64 0)).heap[w.heap.size + 1 + 1]? = some (.cells #[.int .i64 0] 32 (0,0)):=heap_setCell_same _ _ 0 _ _ (.int .i64 0) hE3
   have hN4:=(hce.block w.heap.size (by omega) (by omega)).trans hN3
   have hA4:=(hce.block (w.heap.size + 1) (by omega) (by omega)).trans hA3
   have hall:∀ b,b < w2.heap.size→b ≠ w.heap.size→b ≠ w.heap.size + 1→b ≠ w.heap.size + 1 + 1→((W3.setCell ⟨w.heap.size + 1,0,none⟩ (.int .i64 0)).setCell ⟨w.heap.size + 1 + 1,0,none⟩ (.int .i64 0)).heap[b]? = w2.heap[b]?:=fun b hb h1 h2 h3=>(hce.block b (by omega) h3).trans ((hca.block b (by omega) h2).trans (hst.2.block b hb h1))
   have hb4:Below w.heap.size w ((W3.setCell ⟨w.heap.size + 1,0,none⟩ (.int .i64 0)).setCell ⟨w.heap.size + 1 + 1,0,none⟩ (.int .i64 0)):=⟨hce.os.trans (hca.os.trans (hst.2.os.trans hb1.os)),hce.tape.trans (hca.tape.trans (hst.2.tape.trans hb1.tape)),hce.output.trans (hca.output.trans (hst.2.output.trans hb1.output)),by have:=hb1.size;have:=hce.size;omega,fun b hb=>(hall b (by omega) (by omega) (by omega) (by omega)).trans (hb1.block b hb)⟩
   have hsz5:w2.heap.size≤((W3.setCell ⟨w.heap.size + 1,0,none⟩ (.int .i64 0)).setCell ⟨w.heap.size + 1 + 1,0,none⟩ (.int .i64 0)).heap.size:=by have:=hce.size;omega
   have hsf:=HF.out.size
   have hsf2:=hf2.size
   have hgl:=HGL.out
   have hx4:Holds ((W3.setCell ⟨w.heap.size + 1,0,none⟩ (.int .i64 0)).setCell ⟨w.heap.size + 1 + 1,0,none⟩ (.int .i64 0)) x.nm x.az x.ws x.ks x.bs x.cz a1 c1 a2 c2 a3 c3 a4 c4 a5 c5:=hx _ hsz5 fun b hb hlt=>by
    have hbb:b < w.heap.size∨w.heap.size + 4≤b:=by
     rcases hb with (hb | hb) | hb
     ·have hb2:b = 1:=hb
      have hg2:(1:Nat) < w.heap.size:=hgl
      omega
     ·omega
     ·omega
    exact hall b hlt (by omega) (by omega) (by omega)
   have HX:=Lib.hid (And.intro hN4 (And.intro hA4 (And.intro hE4 (And.intro hb4 hx4))));have HW3:=Lib.hid hW3
   clear hN4 hA4 hE4 hb4 hx4 hall hce hca hst hN3 hA3 hE3 hA2 hE2 hN1 hA1 hE1 hx hf hf2 hp2 hb1 hsz hsz3 hsz4 hsz5 hs2 hsf hsf2 hW3 hgl
   go_wp2_with fail
   rw [HW3.out,show R0 = .ok x p from HR.out.symm]
   exact pdoor_ok rfl rfl rfl HX.out.2.2.2.1 HX.out.1 HX.out.2.1 HX.out.2.2.1 HX.out.2.2.2.2
end Ps
end Go.Proofs.YtoklgmbpgnimcaaGreatDoor
