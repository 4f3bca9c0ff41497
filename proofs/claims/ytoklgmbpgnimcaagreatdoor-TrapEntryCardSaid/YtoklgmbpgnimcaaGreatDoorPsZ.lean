/- choice, given what an entry is. -/
/- entry, given what a list is. -/
/- The parser's functions, all of them. -/
import Derived.Test.YtoklgmbpgnimcaaGreatDoorRegN
import Derived.Test.YtoklgmbpgnimcaaGreatDoorPsV
namespace Go.Proofs.YtoklgmbpgnimcaaGreatDoor
open Go.RowKit Go.Sort
namespace Ps
open Cls Pt Tr Sp Lx
theorem infoC:(Tryz.prog.info? 166).map (fun i=>(i.zero,i.size,i.bytes)) = some (some (.agg #[.slice none 0 0,.slice none 0 0]),2,48):=by kernel_rfl
theorem VN.choose {S:Nat→Prop} {w:World} {x:PL} {cs:List CD} {v:Value} {a2:Option Addr} {c2:Nat} (h1:KS S w fun w2=>Sl 1 (PW w2) a2 c2 [x]) (h2:VSl 2 PC S w v cs) :
  VN S w (.agg #[.int .i64 10,.string ⟨#[]⟩,.bool false,.slice none 0 0,.slice a2 1 c2,.slice none 0 0,.slice none 0 0,v]) ⟨10,⟨#[]⟩,false,[],[x],.nil,[],toC cs⟩:=by
 obtain ⟨a,cap,rfl,h2⟩:=h2
 refine ⟨none,0,a2,c2,none,0,none,0,a,cap,?_,fun w2 hs hk=>?_⟩
 ·simp only [nvs,toC_len];rfl
 ·have hn:=slC (h2 w2 hs hk)
  exact ⟨Nat.zero_le _,slNil 0,h1 w2 hs hk,nlNil _ 0,slNil 0,hn.1,rfl,hn.2⟩
theorem Row.shape {T:Type} {E:(Nat→Prop)→World→List Value→T→Prop} {k:Nat} {ty:TypeId} {base:Nat} {K:Nat→Prop} {w:World} {v:Value} {l:List T} (h:Row E k ty base K w v l):∃ a c,v = .slice a l.length c:=by
 obtain ⟨xs,h1,_⟩:=h.ex
 rcases h1.2 with ⟨rfl,h0⟩ | ⟨g,cap,cur,rfl,_⟩
 ·exact ⟨none,0,by rw [h0]⟩
 ·exact ⟨_,_,rfl⟩
theorem ex_f {T U:Type} {r:Rs T} {f:T→Tok→Rs U} {R0:Rs U} (h:r.bind f = R0):∃ g,r.bind g = R0∧g = f:=⟨f,h,rfl⟩
theorem stored_rb2 (W:World) (b:Nat) (v0 v1 u0 u1:Value) (T:TypeId) (h:W.heap[b]? = some (.cells #[u0,u1] T (0,0))) :
  ((W.setCell ⟨b,0,none⟩ v0).setCell ⟨b,1,none⟩ v1).heap[b]? = some (.cells #[v0,v1] T (0,0))∧Ch (fun c=>c = b) W ((W.setCell ⟨b,0,none⟩ v0).setCell ⟨b,1,none⟩ v1):=by
 have g0:(W.setCell ⟨b,0,none⟩ v0).heap[b]? = some (.cells #[v0,u1] T (0,0)):=heap_setCell_same _ _ 0 _ _ v0 h
 have g1:((W.setCell ⟨b,0,none⟩ v0).setCell ⟨b,1,none⟩ v1).heap[b]? = some (.cells #[v0,v1] T (0,0)):=heap_setCell_same _ _ 1 _ _ v1 g0
 exact ⟨g1,(Ch.set W b 0 v0).then (Ch.set _ b 1 v1)⟩
theorem wcells {M:Nat→Prop} {w:World} {x:PL} {a:Option Addr} {c:Nat} (h:LiesS M w a c x):CellsG EW M w [x] [.slice a x.len c]:=⟨[.slice a x.len c],[],rfl,⟨a,c,rfl,h⟩,rfl⟩
set_option maxHeartbeats 4000000 in
set_option maxRecDepth 100000 in
theorem choice_step (s:ByteArray) (hs:s.size≤400000) (n0:Nat) (IE:∀ m,m≤n0→EntryAt s m):ChoiceAt s (n0 + 1):=by
 intro S pb d o w hd h hfu
 have HE:=Lib.hid IE
 clear IE
 have hon:Fn EN 8 42 S pb s d w.heap.size w.heap.size w.heap.size w (w.alloc (.cells #[.int .i64 0,.string ⟨#[]⟩,.bool false,.slice none 0 0,.slice none 0 0,.slice none 0 0,.slice none 0 0,.slice none 0 0] 42)) o (.slice none 0 0) [] (.slice none 0 0) [] row0 row0 42 S (fun _=>True):=Fn.start h
 obtain ⟨R0,hR⟩:∃ R0,(choiceF s d (n0 + 1) o) = R0:=⟨_,rfl⟩
 rw [hR]
 rw [choiceF] at hR
 have H:=Lib.hid h;have HN:=Lib.hid hR;have HON:=Lib.hid hon;have HFU:=Lib.hid hfu
 clear h hR hon hfu
 go_enter Tryz.func129,Tryz.ntmps129
 go_wp2_with fail
 obtain ⟨i0,hi,hz0,hz1,hz2⟩:=info_parts infoC
 have HI:=Lib.hid hi;have HZ0:=Lib.hid hz0;have HZ1:=Lib.hid hz1;have HZ2:=Lib.hid hz2
 clear hi hz0 hz1 hz2
 have hc:=word_any _ pb s hs o d _ HON.out.hp
 have hdw:DownS s _ (wordF s o):=word_down HON.out.hp.ok
 have hn:=HN.out
 generalize (wordF s o) = rX at hc hdw hn
 clear HN
 have HC:=Lib.hid hc;have HD0:=Lib.hid hdw;have HN:=Lib.hid hn
 clear hc hdw hn
 cases rX with
 | bad i er =>
  go_wp2_with fail
  refine HC.out.mono ?_
  rintro e w2 ⟨hf,rfl⟩
  have HDD:Does S pb s d w VN R0 (thrownP i er) w2:=by rw [show R0 = .bad i er from HN.out.symm];exact ⟨HON.out.fr.trans hf,rfl⟩
  clear hf
  go_wp2_with fail
  exact ⟨rfl,HDD⟩
 | ok x p1 =>
  have hm:=HD0.out _ _ rfl
  have HM3:=Lib.hid hm.1
  have hn:=HN.out
  rw [Rs.bind_ok] at hn
  clear HN HD0 hm
  have HN:=Lib.hid hn
  clear hn
  go_wp2_with fail
  refine HC.out.mono ?_
  rintro e w2 ⟨hf,⟨v,rfl,aw,cw,rfl,hxl⟩,hp⟩
  have hon:=HON.out.call elemN hf hp
  clear HON HC hf hp
  have hks:=KS.row (m:=1) (row:=#[.slice aw x.len cw]) (ty:=82) elemW (wcells hxl) rfl (by decide)
  have hrb:=(Array.getElem?_eq_some_iff.1 hon.two.rr).1
  have hon:=(hon.grow elemN (bel1 w2 (.cells #[.slice aw x.len cw] 82))).keep hks
  have hon:=hon.var elemN (Row.nil (E:=EC) (k:=2) 166 _ _ ((w2.alloc (.cells #[.slice aw x.len cw] 82)).alloc (.cells #[.int .i64 10,.string ⟨#[]⟩,.bool false,.slice none 0 0,.slice (some ⟨w2.heap.size,0,none⟩) 1 1,.slice none 0 0,.slice none 0 0,.slice none 0 0] 42))) (fun _ h=>by cases h)
  have esz:(w2.alloc (.cells #[.slice aw x.len cw] 82)).heap.size = w2.heap.size + 1:=by simp
  rw [esz] at hon
  have HNB:Hid (w2.heap.size + 1 ≠ w.heap.size):=Lib.hid (by omega)
  clear esz hrb hks hxl
  have HON:=Lib.hid hon
  clear hon
  have hc:=lines_any _ pb s hs p1 d _ HON.out.hp
  have hdw:Down s _ (linesF s p1):=lines_down s (F s) p1 HON.out.hp.ok
  have hn:=HN.out
  generalize (linesF s p1) = rX at hc hdw hn
  clear HN
  have HC:=Lib.hid hc;have HD0:=Lib.hid hdw;have HN:=Lib.hid hn
  clear hc hdw hn
  cases rX with
  | bad i er =>
   go_wp2_with fail
   refine HC.out.mono ?_
   rintro e w2 ⟨hf,rfl⟩
   have HDD:Does S pb s d w VN R0 (thrownP i er) w2:=by rw [show R0 = .bad i er from HN.out.symm];exact ⟨HON.out.fr.trans hf,rfl⟩
   clear hf
   go_wp2_with fail
   exact ⟨rfl,HDD⟩
  | ok u p4 =>
   have hm:=HD0.out _ _ rfl
   have HM6:=Lib.hid hm.1
   have hn:=HN.out
   rw [Rs.bind_ok] at hn
   clear HN HD0 hm
   have HN:=Lib.hid hn
   clear hn
   go_wp2_with fail
   refine HC.out.mono ?_
   rintro e w5 ⟨hf,⟨v,rfl,rfl⟩,hp⟩
   have hon:=HON.out.call elemC hf hp
   clear HON HC hf hp
   have HON:=Lib.hid hon
   clear hon
   have hc:=take_row _ pb s hs p4 d [⟨#[105,110]⟩] _ HON.out.hp (by decide)
   try simp only [World.size_alloc,World.size_setCell] at hc
   try rw [HSZ.out] at hc
   have hdw:DownS s _ (takeF s [⟨#[105,110]⟩] p4):=take_down (s:=s) (o:=p4) (l:=[⟨#[105,110]⟩]) HON.out.hp.ok (by decide)
   have hn:=HN.out
   generalize (takeF s [⟨#[105,110]⟩] p4) = rX at hc hdw hn
   clear HN
   have HC:=Lib.hid hc;have HD0:=Lib.hid hdw;have HN:=Lib.hid hn
   clear hc hdw hn
   cases rX with
   | bad i er =>
    go_wp2_with fail
    refine HC.out.mono ?_
    rintro e w2 ⟨hf,rfl⟩
    have HDD:Does S pb s d w VN R0 (thrownP i er) w2:=by rw [show R0 = .bad i er from HN.out.symm];exact ⟨HON.out.fr.trans hf,rfl⟩
    clear hf
    go_wp2_with fail
    exact ⟨rfl,HDD⟩
   | ok u p7 =>
    have hm:=HD0.out _ _ rfl
    have HM9:=Lib.hid hm.1
    have hn:=HN.out
    rw [Rs.bind_ok] at hn
    clear HN HD0 hm
    have HN:=Lib.hid hn
    clear hn
    go_wp2_with fail
    refine HC.out.mono ?_
    rintro e w8 ⟨hf,⟨v,rfl,rfl⟩,hp⟩
    have hon:=HON.out.call elemC hf hp
    clear HON HC hf hp
    have HON:=Lib.hid hon
    clear hon
    have hc:=lines_any _ pb s hs p7 d _ HON.out.hp
    have hdw:Down s _ (linesF s p7):=lines_down s (F s) p7 HON.out.hp.ok
    have hn:=HN.out
    generalize (linesF s p7) = rX at hc hdw hn
    clear HN
    have HC:=Lib.hid hc;have HD0:=Lib.hid hdw;have HN:=Lib.hid hn
    clear hc hdw hn
    cases rX with
    | bad i er =>
     go_wp2_with fail
     refine HC.out.mono ?_
     rintro e w2 ⟨hf,rfl⟩
     have HDD:Does S pb s d w VN R0 (thrownP i er) w2:=by rw [show R0 = .bad i er from HN.out.symm];exact ⟨HON.out.fr.trans hf,rfl⟩
     clear hf
     go_wp2_with fail
     exact ⟨rfl,HDD⟩
    | ok u p10 =>
     have hm:=HD0.out _ _ rfl
     have HM12:=Lib.hid hm.1
     have hn:=HN.out
     rw [Rs.bind_ok] at hn
     clear HN HD0 hm
     have HN:=Lib.hid hn
     clear hn
     go_wp2_with fail
     refine HC.out.mono ?_
     rintro e w11 ⟨hf,⟨v,rfl,rfl⟩,hp⟩
     have hon:=HON.out.call elemC hf hp
     clear HON HC hf hp
     have HON:=Lib.hid hon
     clear hon
     go_wp2_with fail
     go_loopw [15] (fun kv wr=>∃ (n:Nat) (q:Tok) (cs:List CD) (v1:Value) (M:Nat→Prop),choiceL s d n x cs q = R0∧10 * mu s q + 2 < n∧n≤n0∧cs.length + mu s q≤F s∧Fn EC 2 166 S pb s d (w2.heap.size + 1) w.heap.size w.heap.size w wr q v1 cs (.slice none 0 0) [] #[.int .i64 10,.string ⟨#[]⟩,.bool false,.slice none 0 0,.slice (some ⟨w2.heap.size,0,none⟩) 1 1,.slice none 0 0,.slice none 0 0,v1] row0 42 M (fun wz=>Sl 1 (PW wz) (some ⟨w2.heap.size,0,none⟩) 1 [x])) (fun kv wr=>muW s pb wr)
     case atStart=>exact ⟨n0,p10,[],_,_,HN.out,(by have hm3:=HM3.out;have hm6:=HM6.out;have hm9:=HM9.out;have hm12:=HM12.out;have hfu:=HFU.out;omega),Nat.le_refl _,by have:=mu_F s p10;simp only [List.length_nil];omega,HON.out⟩
     case round =>
      obtain ⟨n,q,cs,v1,M,hn,hmu,hnn,hcl,hon⟩:=hrel
      obtain ⟨n,rfl⟩:∃ m,n = m + 1:=⟨n - 1,by omega⟩
      have hmw:=hon.hp.mW
      rw [choiceL] at hn
      have hcb:cs.length≤900000:=by unfold F at hcl;omega
      clear HON HN HFU
      have HON:=Lib.hid hon;have HN:=Lib.hid hn;have HFU:=Lib.hid hmu;have HMW:=Lib.hid hmw;have HCL:=Lib.hid hcl
      clear hon hn hmu hmw hcl
      have hc:=skip_row _ pb s hs q d [⟨#[101,115,97,99]⟩] _ HON.out.hp (by decide)
      try simp only [World.size_alloc,World.size_setCell] at hc
      try rw [HSZ.out] at hc
      have hdw:Down s _ (skipF s [⟨#[101,115,97,99]⟩] q):=skip_down (s:=s) (o:=q) (l:=[⟨#[101,115,97,99]⟩]) HON.out.hp.ok (by decide)
      have hn:=HN.out
      generalize (skipF s [⟨#[101,115,97,99]⟩] q) = rX at hc hdw hn
      clear HN
      have HC:=Lib.hid hc;have HD0:=Lib.hid hdw;have HN:=Lib.hid hn
      clear hc hdw hn
      cases rX with
      | bad i er =>
       go_wp2_with fail
       refine HC.out.mono ?_
       rintro e w2 ⟨hf,rfl⟩
       have HDD:Does S pb s d w VN R0 (thrownP i er) w2:=by rw [show R0 = .bad i er from HN.out.symm];exact ⟨HON.out.fr.trans hf,rfl⟩
       clear hf
       go_wp2_with fail
       exact ⟨rfl,HDD⟩
      | ok b p13 =>
       have hm:=HD0.out _ _ rfl
       have HM15:=Lib.hid hm.1
       have hn:=HN.out
       rw [Rs.bind_ok] at hn
       clear HN HD0 hm
       have HN:=Lib.hid hn
       clear hn
       go_wp2_with fail
       refine HC.out.mono ?_
       rintro e w14 ⟨hf,⟨v,rfl,rfl⟩,hp⟩
       have hon:=HON.out.call elemC hf hp
       clear HON HC hf hp
       have HON:=Lib.hid hon
       clear hon
       cases b
       ·have hn:=HN.out
        rw [if_neg (by decide)] at hn
        clear HN
        have HN:=Lib.hid hn
        clear hn
        go_wp2_with fail
        have hbd:Below w14.heap.size w14 w14.drew:=⟨rfl,rfl,rfl,Nat.le_refl _,fun _ _=>rfl⟩
        have hon:=HON.out.below elemC hbd
        clear HON hbd
        have HON:=Lib.hid hon
        clear hon
        have hc:=HE.out n (by omega) _ pb d p13 _ hd HON.out.hp (by have hm15:=HM15.out;have hfu:=HFU.out;omega)
        have hdw:DownS s _ (entryF s d n p13):=(downs_all s n).entry d p13 HON.out.hp.ok
        have hn:=HN.out
        generalize entryF s d n p13 = rX at hc hdw hn
        clear HN
        have HC:=Lib.hid hc;have HD0:=Lib.hid hdw;have HN:=Lib.hid hn
        clear hc hdw hn
        refine RN.begins (fun wz=>wz.heap[w2.heap.size + 1]? = some (.cells #[.int .i64 10,.string ⟨#[]⟩,.bool false,.slice none 0 0,.slice (some ⟨w2.heap.size,0,none⟩) 1 1,.slice none 0 0,.slice none 0 0,v1] 42 (0,0))) [7] (by kernel_rfl) ?_
        generalize w14.drew = wd at HON HC ⊢
        have hS:wd.heap[w2.heap.size + 1]? = some (.cells #[.int .i64 10,.string ⟨#[]⟩,.bool false,.slice none 0 0,.slice (some ⟨w2.heap.size,0,none⟩) 1 1,.slice none 0 0,.slice none 0 0,v1] 42 (0,0)):=HON.out.two.nr
        refine RN.tk (i:=0) (v:=?_) rfl hS ?_ ?_
        rotate_left 1
        ·(intro wq hq;have s7:=zc7 hq;go_simp;try with_reducible rfl)
        refine RN.tk (i:=1) (v:=?_) rfl hS ?_ ?_
        rotate_left 1
        ·(intro wq hq;have s7:=zc7 hq;go_simp;try with_reducible rfl)
        refine RN.tk (i:=2) (v:=?_) rfl hS ?_ ?_
        rotate_left 1
        ·(intro wq hq;have s7:=zc7 hq;go_simp;try with_reducible rfl)
        refine RN.all (rs:=[3]) (by kernel_rfl) (by simp) ?_
        refine RN.All.cons rfl (fun K hK=>?_) RN.All.nil
        go_simp
        cases rX with
        | bad i er =>
         refine HC.out.mono ?_
         rintro e w2 ⟨hf,rfl⟩
         have HDD:Does S pb s d w VN R0 (thrownP i er) w2:=by rw [show R0 = .bad i er from HN.out.symm];exact ⟨HON.out.fr.trans hf,rfl⟩
         clear hf hS
         go_wp2_with fail
         exact ⟨rfl,HDD⟩
        | ok c p16 =>
         have HM9:=Lib.hid (HD0.out _ _ rfl).1
         have hn:=HN.out
         rw [Rs.bind_ok] at hn
         clear HN HD0
         have HN:=Lib.hid hn
         clear hn
         refine HC.out.mono ?_
         rintro e w6 ⟨hf,⟨v,rfl,a1,c1,a2,c2,hv,hx1,hx2⟩,hp⟩
         obtain rfl:v = .agg #[.slice a1 c.1.length c1,.slice a2 c.2.length c2]:=hv
         have hze:EC _ w6 [.slice a1 c.1.length c1,.slice a2 c.2.length c2] c:=⟨a1,c1,a2,c2,rfl,hx1,hx2⟩
         have hon:=HON.out.call elemC hf hp
         clear HON HC hf hp hx1 hx2
         refine hK _ _ (fun _=>hon.two.nr) ?_
         clear hK K hS
         have hS:=hon.two.nr
         have HON:=Lib.hid hon
         clear hon
         refine RN.all (rs:=[4]) (by kernel_rfl) (by simp) ?_
         refine RN.All.cons rfl (fun K hK=>?_) RN.All.nil
         go_simp
         have hon:=HON.out.below elemC (bel1 w6 (.cells #[.slice a1 c.1.length c1,.slice a2 c.2.length c2] 166))
         have hze:=elemC.tq hze (bel1 w6 (.cells #[.slice a1 c.1.length c1,.slice a2 c.2.length c2] 166)).size (fun b _ hlt=>(bel1 w6 _).block b hlt) (fun _ hb _=>hb)
         have hlb:w.heap.size≤w6.heap.size:=HON.out.fr.size
         clear HON
         refine hK _ _ (fun _=>hon.two.nr) ?_
         clear hK K hS
         have hS:=hon.two.nr
         have HON:=Lib.hid hon
         clear hon
         obtain ⟨xs,hown,hcells⟩:=HON.out.two.r1.ex
         have HOWN:=Lib.hid hown;have HCE:=Lib.hid hcells;have HZE:=Lib.hid hze
         clear hown hcells hze
         refine RN.all (rs:=[5]) (by kernel_rfl) (by simp) ?_
         refine RN.All.cons rfl (fun K hK=>?_) RN.All.nil
         refine step_append_lies _ (by rfl) _ _ _ (by rfl) w.heap.size 166 i0 _ 2 48 Tryz.underlying40 HI.out HZ0.out HZ1.out HZ2.out rfl (by omega) v1 cs.length xs (by rfl) HOWN.out
          ⟨w6.heap.size,0,none⟩ 1 1 [.slice a1 c.1.length c1,.slice a2 c.2.length c2] (by rfl) (by rfl) (World.news_of_block (cs:=#[.slice a1 c.1.length c1,.slice a2 c.2.length c2]) (t:=166) (fr:=(0,0)) (heap_alloc_new w6 _)) (by simp [Value.oneCell'])
          (by omega) (by unfold maxLen;omega) (by omega) (by simp;omega) (w6.heap.size + 1) (by simp) ?_
         intro g capn w3 hown3 hgrow hat hlt
         have hon:=HON.out.app1 elemC HCE.out HZE.out hown3 hgrow (by simpa only [World.size_alloc] using hat)
         refine hK _ _ (fun _=>hon.two.nr) ?_
         clear hK K hS
         have hS:=hon.two.nr
         clear HON HOWN HCE HZE hown3 hgrow hat hlt hlb
         have HON:=Lib.hid hon
         clear hon
         refine RN.tk (i:=6) (v:=?_) rfl hS ?_ ?_
         rotate_left 1
         ·(intro wq hq;skip;go_simp;try with_reducible rfl)
         refine RN.all (rs:=[7]) (by kernel_rfl) (by simp) ?_
         refine RN.All.cons rfl (fun K hK=>?_) RN.All.nil
         have f7:=zf 7 HON.out.two.nr
         have k7:=zc7 HON.out.two.nr
         go_simp
         refine hK _ _ (fun h=>absurd h (by decide)) ?_
         clear hK K hS f7 k7
         refine RN.done (by kernel_rfl) ?_ _
         have hon:=HON.out.store elemC HNB.out 7 (.slice (some ⟨g,0,none⟩) (cs.length + 1) capn)
         clear HON
         have HON:=Lib.hid hon
         clear hon
         generalize w3.setCell ⟨w2.heap.size + 1,7,none⟩ (.slice (some ⟨g,0,none⟩) (cs.length + 1) capn) = wv at HON ⊢
         go_wp2_with fail
         go_roundw
         case rel =>
          have hall:mu s p16 < mu s q:=by have hm15:=HM15.out;have hm9:=HM9.out;omega
          have hfu:=HFU.out
          have hcl:=HCL.out
          exact ⟨n,p16,cs ++ [c],_,_,HN.out,by omega,by omega,by rw [List.length_append,List.length_singleton];omega,HON.out⟩
         case measure =>
          have hall:mu s p16 < mu s q:=by have hm15:=HM15.out;have hm9:=HM9.out;omega
          have e1:=HMW.out
          have e2:=HON.out.hp.mW
          omega
       ·have hn:=HN.out
        rw [if_pos rfl] at hn
        clear HN
        have HN:=Lib.hid hn
        clear hn
        obtain ⟨av,cv,hv1⟩:=HON.out.two.r1.shape
        subst hv1
        have r0:=zc0 HON.out.two.rr;have f0:=zf 0 HON.out.two.rr;have k0:=zc0 HON.out.two.nr
        have r1:=zc1 HON.out.two.rr;have f1:=zf 1 HON.out.two.rr;have k1:=zc1 HON.out.two.nr
        have r2:=zc2 HON.out.two.rr;have f2:=zf 2 HON.out.two.rr;have k2:=zc2 HON.out.two.nr
        have r3:=zc3 HON.out.two.rr;have f3:=zf 3 HON.out.two.rr;have k3:=zc3 HON.out.two.nr
        have r4:=zc4 HON.out.two.rr;have f4:=zf 4 HON.out.two.rr;have k4:=zc4 HON.out.two.nr
        have r5:=zc5 HON.out.two.rr;have f5:=zf 5 HON.out.two.rr;have k5:=zc5 HON.out.two.nr
        have r6:=zc6 HON.out.two.rr;have f6:=zf 6 HON.out.two.rr;have k6:=zc6 HON.out.two.nr
        have r7:=zc7 HON.out.two.rr;have f7:=zf 7 HON.out.two.rr;have k7:=zc7 HON.out.two.nr
        go_wp2_with fail
        have hst:=stored_rb w14 (w.heap.size) (.int .i64 10) (.string ⟨#[]⟩) (.bool false) (.slice none 0 0) (.slice (some ⟨w2.heap.size,0,none⟩) 1 1) (.slice none 0 0) (.slice none 0 0) (.slice av cs.length cv) _ _ _ _ _ _ _ _ _ HON.out.two.rr
        generalize ((((((((w14.setCell ⟨w.heap.size,0,none⟩ (.int .i64 10)).setCell ⟨w.heap.size,1,none⟩ (.string ⟨#[]⟩)).setCell ⟨w.heap.size,2,none⟩ (.bool false)).setCell ⟨w.heap.size,3,none⟩ (.slice none 0 0)).setCell ⟨w.heap.size,4,none⟩ (.slice (some ⟨w2.heap.size,0,none⟩) 1 1)).setCell ⟨w.heap.size,5,none⟩ (.slice none 0 0)).setCell ⟨w.heap.size,6,none⟩ (.slice none 0 0)).setCell ⟨w.heap.size,7,none⟩ (.slice av cs.length cv)) = W8 at hst ⊢
        obtain ⟨hr8,hch⟩:=hst
        have x0:=Lib.cell_of_heap hr8 0
        have x1:=Lib.cell_of_heap hr8 1
        have x2:=Lib.cell_of_heap hr8 2
        have x3:=Lib.cell_of_heap hr8 3
        have x4:=Lib.cell_of_heap hr8 4
        have x5:=Lib.cell_of_heap hr8 5
        have x6:=Lib.cell_of_heap hr8 6
        have x7:=Lib.cell_of_heap hr8 7
        refine bodyPost_ret (v:=.agg #[.int .i64 10,.string ⟨#[]⟩,.bool false,.slice none 0 0,.slice (some ⟨w2.heap.size,0,none⟩) 1 1,.slice none 0 0,.slice none 0 0,.slice av cs.length cv]) (by simp [results,Tryz.results129,go_sem,x0,x1,x2,x3,x4,x5,x6,x7]) rfl ?_
        rw [← HN.out]
        exact HON.out.done H.out hch (VN.choose (HON.out.ks hch) (HON.out.sl1 elemC (by unfold R;omega) hch))
end Ps
end Go.Proofs.YtoklgmbpgnimcaaGreatDoor
namespace Go.Proofs.YtoklgmbpgnimcaaGreatDoor
open Go.RowKit Go.Sort
namespace Ps
open Cls Pt Tr Sp Lx
theorem VC.of {S:Nat→Prop} {w:World} {ps:List PL} {bd:List ND} {v1:Value} {a2:Option Addr} {c2 m:Nat} (hm:bd.length = m) (h1:VSl 1 PW S w v1 ps) (h2:KS S w fun w2=>Sl 8 (PN w2) a2 c2 bd):VC S w (.agg #[v1,.slice a2 m c2]) (ps,bd):=by
 subst hm
 obtain ⟨a1,c1,rfl,h1⟩:=h1
 exact ⟨a1,c1,a2,c2,rfl,h1,h2⟩
set_option maxHeartbeats 4000000 in
set_option maxRecDepth 100000 in
theorem entry_step (s:ByteArray) (hs:s.size≤400000) (n:Nat) (IL:ListAt s n):EntryAt s (n + 1):=by
 intro S pb d o w hd h hfu
 have HL:=Lib.hid IL
 clear IL
 have hon:Fn EN 8 42 S pb s d w.heap.size w.heap.size w.heap.size w (w.alloc (.cells #[.slice none 0 0,.slice none 0 0] 166)) o (.slice none 0 0) [] (.slice none 0 0) [] #[.slice none 0 0,.slice none 0 0] #[.slice none 0 0,.slice none 0 0] 166 S (fun _=>True):=Fn.start h
 obtain ⟨i0,hi,hz0,hz1,hz2⟩:=info_parts infoW
 have HI:=Lib.hid hi;have HZ0:=Lib.hid hz0;have HZ1:=Lib.hid hz1;have HZ2:=Lib.hid hz2
 clear hi hz0 hz1 hz2
 obtain ⟨R0,hR⟩:∃ R0,(entryF s d (n + 1) o) = R0:=⟨_,rfl⟩
 rw [hR]
 rw [entryF] at hR
 have H:=Lib.hid h;have HN:=Lib.hid hR;have HON:=Lib.hid hon;have HFU:=Lib.hid hfu
 clear h hR hon hfu
 go_enter Tryz.func139,Tryz.ntmps139
 go_wp2_with fail
 have hc:=skip_row _ pb s hs o d [⟨#[40]⟩] _ HON.out.hp (by decide)
 try simp only [World.size_alloc,World.size_setCell] at hc
 try rw [HSZ.out] at hc
 have hdw:Down s _ (skipF s [⟨#[40]⟩] o):=skip_down (s:=s) (o:=o) (l:=[⟨#[40]⟩]) HON.out.hp.ok (by decide)
 have hn:=HN.out
 generalize (skipF s [⟨#[40]⟩] o) = rX at hc hdw hn
 clear HN
 have HC:=Lib.hid hc;have HD0:=Lib.hid hdw;have HN:=Lib.hid hn
 clear hc hdw hn
 cases rX with
 | bad i er =>
  go_wp2_with fail
  refine HC.out.mono ?_
  rintro e w2 ⟨hf,rfl⟩
  have HDD:Does S pb s d w VC R0 (thrownP i er) w2:=by rw [show R0 = .bad i er from HN.out.symm];exact ⟨HON.out.fr.trans hf,rfl⟩
  clear hf
  go_wp2_with fail
  exact ⟨rfl,HDD⟩
 | ok b p1 =>
  have hm:=HD0.out _ _ rfl
  have HM3:=Lib.hid hm.1
  have hn:=HN.out
  rw [Rs.bind_ok] at hn
  clear HN HD0 hm
  have HN:=Lib.hid hn
  clear hn
  go_wp2_with fail
  refine HC.out.mono ?_
  rintro e w2 ⟨hf,⟨v,rfl,rfl⟩,hp⟩
  have hon:=HON.out.call elemN hf hp
  clear HON HC hf hp
  have HON:=Lib.hid hon
  clear hon
  skip
  have hc:=word_any _ pb s hs p1 d _ HON.out.hp
  have hdw:DownS s _ (wordF s p1):=word_down HON.out.hp.ok
  have hn:=HN.out
  generalize (wordF s p1) = rX at hc hdw hn
  clear HN
  have HC:=Lib.hid hc;have HD0:=Lib.hid hdw;have HN:=Lib.hid hn
  clear hc hdw hn
  cases rX with
  | bad i er =>
   go_wp2_with fail
   refine HC.out.mono ?_
   rintro e w2 ⟨hf,rfl⟩
   have HDD:Does S pb s d w VC R0 (thrownP i er) w2:=by rw [show R0 = .bad i er from HN.out.symm];exact ⟨HON.out.fr.trans hf,rfl⟩
   clear hf
   go_wp2_with fail
   exact ⟨rfl,HDD⟩
  | ok x p4 =>
   have hm:=HD0.out _ _ rfl
   have HM6:=Lib.hid hm.1
   have hn:=HN.out
   rw [Rs.bind_ok] at hn
   clear HN HD0 hm
   have HN:=Lib.hid hn
   clear hn
   go_wp2_with fail
   refine HC.out.mono ?_
   rintro e w5 ⟨hf,⟨v,rfl,aw,cw,rfl,hxl⟩,hp⟩
   have hon:=HON.out.call elemN hf hp
   clear HON HC hf hp
   have hle:=hon.fr.size
   have hMlt:=hon.hp.lt
   have hrb:=(Array.getElem?_eq_some_iff.1 hon.two.rr).1
   have hce:=wcells hxl
   have hon:=hon.below elemN (bel1 w5 (.cells #[.slice aw x.len cw] 82))
   have hrow:Row EW 1 82 w.heap.size _ ((w5.alloc (.cells #[.slice aw x.len cw] 82)).alloc (.cells #[.slice (some ⟨w5.heap.size,0,none⟩) 1 1,.slice none 0 0] 166)) (.slice (some ⟨w5.heap.size,0,none⟩) 1 1) [x]:=Row.of (row:=#[.slice aw x.len cw]) (g:=w5.heap.size) (m:=1) hle ((Below.heap_alloc _ _ _ (by simp)).trans (heap_new' _ _)) rfl rfl (by decide) (CellsG.to elemW (Nat.le_trans (bel1 _ _).size (bel1 _ _).size) (fun b hb hlt=>((bel1 _ _).block b (Nat.lt_of_lt_of_le hlt (bel1 _ _).size)).trans ((bel1 _ _).block b hlt)) (fun _ hb _=>hb) hce) (fun hb=>by have:=hMlt _ hb;omega)
   have hon:=(hon.keep (fun _ _ _=>trivial:KS _ _ fun _=>True)).var elemN hrow (fun g hg=>⟨own_ne hg (by simp),own_ne hg (by omega)⟩)
   have esz:(w5.alloc (.cells #[.slice aw x.len cw] 82)).heap.size = w5.heap.size + 1:=by simp
   rw [esz] at hon
   have HNB:Hid (w5.heap.size + 1 ≠ w.heap.size):=Lib.hid (by omega)
   clear esz hle hMlt hrb hce hrow hxl
   have HON:=Lib.hid hon
   clear hon
   obtain ⟨fq,hq,hfq⟩:=ex_f HN.out
   have HFQ:=Lib.hid hfq
   have HQ:=Lib.hid hq
   clear HN hq hfq
   go_wp2_with fail
   have hq0:mu s p4 < mu s o:=by have hm3:=HM3.out;have hm6:=HM6.out;omega
   have HQ0:=Lib.hid hq0
   clear hq0
   go_loopw [13] (fun kv wr=>∃ (m:Nat) (q:Tok) (ps:List PL) (v1:Value) (M:Nat→Prop),(patsN s m ps q).bind fq = R0∧mu s q < m∧mu s q≤mu s p4∧ps.length + mu s q≤F s + 1∧Fn EW 1 82 S pb s d (w5.heap.size + 1) w.heap.size w.heap.size w wr q v1 ps (.slice none 0 0) [] #[v1,.slice none 0 0] #[.slice none 0 0,.slice none 0 0] 166 M (fun _=>True)) (fun kv wr=>muW s pb wr)
   case atStart=>exact ⟨F s,p4,[x],_,_,HQ.out,mu_F s p4,Nat.le_refl _,by have:=mu_F s p4;simp only [List.length_singleton];omega,HON.out⟩
   case round =>
    obtain ⟨m,q,ps,v1,M,hn,hmu,hmq,hcl,hon⟩:=hrel
    obtain ⟨m,rfl⟩:∃ m2,m = m2 + 1:=⟨m - 1,by omega⟩
    have hmw:=hon.hp.mW
    rw [patsN,Rs.bind_assoc] at hn
    have hcb:ps.length≤900000:=by unfold F at hcl;omega
    clear HON HQ
    have HON:=Lib.hid hon;have HN:=Lib.hid hn;have HMU:=Lib.hid hmu;have HMQ:=Lib.hid hmq;have HMW:=Lib.hid hmw;have HCL:=Lib.hid hcl
    clear hon hn hmu hmq hmw hcl
    have hc:=skip_row _ pb s hs q d [⟨#[124]⟩] _ HON.out.hp (by decide)
    try simp only [World.size_alloc,World.size_setCell] at hc
    try rw [HSZ.out] at hc
    have hdw:Down s _ (skipF s [⟨#[124]⟩] q):=skip_down (s:=s) (o:=q) (l:=[⟨#[124]⟩]) HON.out.hp.ok (by decide)
    have hn:=HN.out
    generalize (skipF s [⟨#[124]⟩] q) = rX at hc hdw hn
    clear HN
    have HC:=Lib.hid hc;have HD0:=Lib.hid hdw;have HN:=Lib.hid hn
    clear hc hdw hn
    cases rX with
    | bad i er =>
     go_wp2_with fail
     refine HC.out.mono ?_
     rintro e w2 ⟨hf,rfl⟩
     have HDD:Does S pb s d w VC R0 (thrownP i er) w2:=by rw [show R0 = .bad i er from HN.out.symm];exact ⟨HON.out.fr.trans hf,rfl⟩
     clear hf
     go_wp2_with fail
     exact ⟨rfl,HDD⟩
    | ok b p7 =>
     have hm:=HD0.out _ _ rfl
     have HM9:=Lib.hid hm.1
     have hn:=HN.out
     rw [Rs.bind_ok] at hn
     clear HN HD0 hm
     have HN:=Lib.hid hn
     clear hn
     go_wp2_with fail
     refine HC.out.mono ?_
     rintro e w8 ⟨hf,⟨v,rfl,rfl⟩,hp⟩
     have hon:=HON.out.call elemW hf hp
     clear HON HC hf hp
     have HON:=Lib.hid hon
     clear hon
     cases b
     ·skip
      have hn:=HN.out
      rw [if_neg (by decide),Rs.bind_ok,HFQ.out] at hn
      dsimp only at hn
      clear HN
      have HN:=Lib.hid hn
      clear hn
      obtain ⟨av,cv,hv1⟩:=HON.out.two.r1.shape
      subst hv1
      have hc:=take_row _ pb s hs p7 d [⟨#[41]⟩] _ HON.out.hp (by decide)
      try simp only [World.size_alloc,World.size_setCell] at hc
      try rw [HSZ.out] at hc
      have hdw:DownS s _ (takeF s [⟨#[41]⟩] p7):=take_down (s:=s) (o:=p7) (l:=[⟨#[41]⟩]) HON.out.hp.ok (by decide)
      have hn:=HN.out
      generalize (takeF s [⟨#[41]⟩] p7) = rX at hc hdw hn
      clear HN
      have HC:=Lib.hid hc;have HD0:=Lib.hid hdw;have HN:=Lib.hid hn
      clear hc hdw hn
      cases rX with
      | bad i er =>
       go_wp2_with fail
       refine HC.out.mono ?_
       rintro e w2 ⟨hf,rfl⟩
       have HDD:Does S pb s d w VC R0 (thrownP i er) w2:=by rw [show R0 = .bad i er from HN.out.symm];exact ⟨HON.out.fr.trans hf,rfl⟩
       clear hf
       go_wp2_with fail
       exact ⟨rfl,HDD⟩
      | ok u p10 =>
       have hm:=HD0.out _ _ rfl
       have HM12:=Lib.hid hm.1
       have hn:=HN.out
       rw [Rs.bind_ok] at hn
       clear HN HD0 hm
       have HN:=Lib.hid hn
       clear hn
       go_wp2_with fail
       refine HC.out.mono ?_
       rintro e w11 ⟨hf,⟨v,rfl,rfl⟩,hp⟩
       have hon:=HON.out.call elemW hf hp
       clear HON HC hf hp
       have HON:=Lib.hid hon
       clear hon
       have hc:=lines_any _ pb s hs p10 d _ HON.out.hp
       have hdw:Down s _ (linesF s p10):=lines_down s (F s) p10 HON.out.hp.ok
       have hn:=HN.out
       generalize (linesF s p10) = rX at hc hdw hn
       clear HN
       have HC:=Lib.hid hc;have HD0:=Lib.hid hdw;have HN:=Lib.hid hn
       clear hc hdw hn
       cases rX with
       | bad i er =>
        go_wp2_with fail
        refine HC.out.mono ?_
        rintro e w2 ⟨hf,rfl⟩
        have HDD:Does S pb s d w VC R0 (thrownP i er) w2:=by rw [show R0 = .bad i er from HN.out.symm];exact ⟨HON.out.fr.trans hf,rfl⟩
        clear hf
        go_wp2_with fail
        exact ⟨rfl,HDD⟩
       | ok u p13 =>
        have hm:=HD0.out _ _ rfl
        have HM15:=Lib.hid hm.1
        have hn:=HN.out
        rw [Rs.bind_ok] at hn
        clear HN HD0 hm
        have HN:=Lib.hid hn
        clear hn
        go_wp2_with fail
        refine HC.out.mono ?_
        rintro e w14 ⟨hf,⟨v,rfl,rfl⟩,hp⟩
        have hon:=HON.out.call elemW hf hp
        clear HON HC hf hp
        have HON:=Lib.hid hon
        clear hon
        have hc:=begins_any _ pb s p13 d _ HON.out.hp
        have hn:=HN.out
        generalize (beginsB p13) = B at hc hn
        clear HN
        have HC:=Lib.hid hc;have HN:=Lib.hid hn
        clear hc hn
        cases B
        ·have hn:=HN.out
         rw [if_neg (by decide)] at hn
         clear HN
         have HN:=Lib.hid hn
         clear hn
         go_wp2_with fail
         refine HC.out.mono ?_
         rintro e w16 ⟨rfl,hb⟩
         have hon:=HON.out.below elemW (by first | exact hb | simpa only [World.size_alloc,World.size_setCell] using hb)
         clear HON HC hb
         have HON:=Lib.hid hon
         clear hon
         have hn:=HN.out
         unfold entryE at hn
         clear HN
         have HN:=Lib.hid hn
         clear hn
         have hc:=sees_row _ pb s p13 d [⟨#[101,115,97,99]⟩] _ HON.out.hp (by decide)
         try simp only [World.size_alloc,World.size_setCell] at hc
         try rw [HSZ.out] at hc
         have hn:=HN.out
         generalize (seesF [⟨#[101,115,97,99]⟩] p13) = B at hc hn
         clear HN
         have HC:=Lib.hid hc;have HN:=Lib.hid hn
         clear hc hn
         cases B
         ·have hn:=HN.out
          rw [if_neg (by decide)] at hn
          clear HN
          have HN:=Lib.hid hn
          clear hn
          go_wp2_with fail
          refine HC.out.mono ?_
          rintro e w17 ⟨rfl,hb⟩
          have hon:=HON.out.below elemW (by first | exact hb | simpa only [World.size_alloc,World.size_setCell] using hb)
          clear HON HC hb
          have HON:=Lib.hid hon
          clear hon
          try clear k1 f1
          have hc:=take_row _ pb s hs p13 d [⟨#[59,59]⟩] _ HON.out.hp (by decide)
          try simp only [World.size_alloc,World.size_setCell] at hc
          try rw [HSZ.out] at hc
          have hdw:DownS s _ (takeF s [⟨#[59,59]⟩] p13):=take_down (s:=s) (o:=p13) (l:=[⟨#[59,59]⟩]) HON.out.hp.ok (by decide)
          have hn:=HN.out
          generalize (takeF s [⟨#[59,59]⟩] p13) = rX at hc hdw hn
          clear HN
          have HC:=Lib.hid hc;have HD0:=Lib.hid hdw;have HN:=Lib.hid hn
          clear hc hdw hn
          cases rX with
          | bad i er =>
           go_wp2_with fail
           refine HC.out.mono ?_
           rintro e w2 ⟨hf,rfl⟩
           have HDD:Does S pb s d w VC R0 (thrownP i er) w2:=by rw [show R0 = .bad i er from HN.out.symm];exact ⟨HON.out.fr.trans hf,rfl⟩
           clear hf
           go_wp2_with fail
           exact ⟨rfl,HDD⟩
          | ok u p18 =>
           have hm:=HD0.out _ _ rfl
           have HM20:=Lib.hid hm.1
           have hn:=HN.out
           rw [Rs.bind_ok] at hn
           clear HN HD0 hm
           have HN:=Lib.hid hn
           clear hn
           go_wp2_with fail
           refine HC.out.mono ?_
           rintro e w19 ⟨hf,⟨v,rfl,rfl⟩,hp⟩
           have hon:=HON.out.call elemW hf hp
           clear HON HC hf hp
           have HON:=Lib.hid hon
           clear hon
           have hc:=lines_any _ pb s hs p18 d _ HON.out.hp
           have hdw:Down s _ (linesF s p18):=lines_down s (F s) p18 HON.out.hp.ok
           have hn:=HN.out
           generalize (linesF s p18) = rX at hc hdw hn
           clear HN
           have HC:=Lib.hid hc;have HD0:=Lib.hid hdw;have HN:=Lib.hid hn
           clear hc hdw hn
           cases rX with
           | bad i er =>
            go_wp2_with fail
            refine HC.out.mono ?_
            rintro e w2 ⟨hf,rfl⟩
            have HDD:Does S pb s d w VC R0 (thrownP i er) w2:=by rw [show R0 = .bad i er from HN.out.symm];exact ⟨HON.out.fr.trans hf,rfl⟩
            clear hf
            go_wp2_with fail
            exact ⟨rfl,HDD⟩
           | ok u p21 =>
            have hm:=HD0.out _ _ rfl
            have HM23:=Lib.hid hm.1
            have hn:=HN.out
            rw [Rs.bind_ok] at hn
            clear HN HD0 hm
            have HN:=Lib.hid hn
            clear hn
            go_wp2_with fail
            refine HC.out.mono ?_
            rintro e w22 ⟨hf,⟨v,rfl,rfl⟩,hp⟩
            have hon:=HON.out.call elemW hf hp
            clear HON HC hf hp
            have HON:=Lib.hid hon
            clear hon
            have r0:=zc0 HON.out.two.rr;have f0:=zf 0 HON.out.two.rr;have k0:=zc0 HON.out.two.nr
            have r1:=zc1 HON.out.two.rr;have f1:=zf 1 HON.out.two.rr;have k1:=zc1 HON.out.two.nr
            go_wp2_with fail
            have hst:=stored_rb2 w22 (w.heap.size) (.slice av ps.length cv) (.slice none 0 0) _ _ _ HON.out.two.rr
            generalize ((w22.setCell ⟨w.heap.size,0,none⟩ (.slice av ps.length cv)).setCell ⟨w.heap.size,1,none⟩ (.slice none 0 0)) = W8 at hst ⊢
            obtain ⟨hr8,hch⟩:=hst
            have x0:=Lib.cell_of_heap hr8 0
            have x1:=Lib.cell_of_heap hr8 1
            refine bodyPost_ret (v:=.agg #[.slice av ps.length cv,.slice none 0 0]) (by simp [results,Tryz.results139,go_sem,x0,x1]) rfl ?_
            rw [← HN.out]
            exact HON.out.done H.out hch (VC.of (bd:=[]) rfl (HON.out.sl1 elemW (by unfold R;omega) hch) (KS.imp (HON.out.ks hch) fun _ _=>slNil 0))
         ·have hn:=HN.out
          rw [if_pos rfl] at hn
          clear HN
          have HN:=Lib.hid hn
          clear hn
          go_wp2_with fail
          refine HC.out.mono ?_
          rintro e w17 ⟨rfl,hb⟩
          have hon:=HON.out.below elemW (by first | exact hb | simpa only [World.size_alloc,World.size_setCell] using hb)
          clear HON HC hb
          have HON:=Lib.hid hon
          clear hon
          try clear k1 f1
          have r0:=zc0 HON.out.two.rr;have f0:=zf 0 HON.out.two.rr;have k0:=zc0 HON.out.two.nr
          have r1:=zc1 HON.out.two.rr;have f1:=zf 1 HON.out.two.rr;have k1:=zc1 HON.out.two.nr
          go_wp2_with fail
          have hst:=stored_rb2 w17 (w.heap.size) (.slice av ps.length cv) (.slice none 0 0) _ _ _ HON.out.two.rr
          generalize ((w17.setCell ⟨w.heap.size,0,none⟩ (.slice av ps.length cv)).setCell ⟨w.heap.size,1,none⟩ (.slice none 0 0)) = W8 at hst ⊢
          obtain ⟨hr8,hch⟩:=hst
          have x0:=Lib.cell_of_heap hr8 0
          have x1:=Lib.cell_of_heap hr8 1
          refine bodyPost_ret (v:=.agg #[.slice av ps.length cv,.slice none 0 0]) (by simp [results,Tryz.results139,go_sem,x0,x1]) rfl ?_
          rw [← HN.out]
          exact HON.out.done H.out hch (VC.of (bd:=[]) rfl (HON.out.sl1 elemW (by unfold R;omega) hch) (KS.imp (HON.out.ks hch) fun _ _=>slNil 0))
        ·have hn:=HN.out
         rw [if_pos rfl] at hn
         clear HN
         have HN:=Lib.hid hn
         clear hn
         go_wp2_with fail
         refine HC.out.mono ?_
         rintro e w16 ⟨rfl,hb⟩
         have hon:=HON.out.below elemW (by first | exact hb | simpa only [World.size_alloc,World.size_setCell] using hb)
         clear HON HC hb
         have HON:=Lib.hid hon
         clear hon
         have hc:=HL.out _ pb d p13 _ hd HON.out.hp (by have hm9:=HM9.out;have hm12:=HM12.out;have hm15:=HM15.out;have hfu:=HFU.out;have h1:=HMQ.out;have h2:=HQ0.out;omega)
         have hdw:Down s _ (listF s d n [] [] p13):=(downs_all s n).list d [] [] p13 HON.out.hp.ok
         have hn:=HN.out
         generalize (listF s d n [] [] p13) = rX at hc hdw hn
         clear HN
         have HC:=Lib.hid hc;have HD0:=Lib.hid hdw;have HN:=Lib.hid hn
         clear hc hdw hn
         cases rX with
         | bad i er =>
          go_wp2_with fail
          refine HC.out.mono ?_
          rintro e w2 ⟨hf,rfl⟩
          have HDD:Does S pb s d w VC R0 (thrownP i er) w2:=by rw [show R0 = .bad i er from HN.out.symm];exact ⟨HON.out.fr.trans hf,rfl⟩
          clear hf
          go_wp2_with fail
          exact ⟨rfl,HDD⟩
         | ok y p24 =>
          have hm:=HD0.out _ _ rfl
          have HM26:=Lib.hid hm.1
          have hn:=HN.out
          rw [Rs.bind_ok] at hn
          clear HN HD0 hm
          have HN:=Lib.hid hn
          clear hn
          go_wp2_with fail
          refine HC.out.mono ?_
          rintro e w25 ⟨hf,⟨v,rfl,a1,c1,a2,c2,a3,c3,a4,c4,a5,c5,hv,hx⟩,hp⟩
          have hon:=HON.out.call elemW hf hp
          clear HON HC hf hp
          obtain rfl:v = .agg #[.int .i64 y.k,.string y.nm,.bool y.g,.slice a1 y.az.length c1,.slice a2 y.ws.length c2,.slice a3 y.ks.len c3,.slice a4 y.bs.length c4,.slice a5 y.cz.len c5]:=hv
          have hon:=hon.hold hx
          clear hx
          have HON:=Lib.hid hon
          clear hon
          have hks:=KS.row (m:=1) (row:=#[.int .i64 y.k,.string y.nm,.bool y.g,.slice a1 y.az.length c1,.slice a2 y.ws.length c2,.slice a3 y.ks.len c3,.slice a4 y.bs.length c4,.slice a5 y.cz.len c5]) (ty:=42) elemN (cells1 (HON.out.held.imp fun _ h=>h.2)) rfl (by decide)
          have hon:=(HON.out.grow elemW (bel1 w25 (.cells #[.int .i64 y.k,.string y.nm,.bool y.g,.slice a1 y.az.length c1,.slice a2 y.ws.length c2,.slice a3 y.ks.len c3,.slice a4 y.bs.length c4,.slice a5 y.cz.len c5] 42))).hold hks
          clear HON hks
          have HON:=Lib.hid hon
          clear hon
          have k1:=zc1 HON.out.two.nr;have f1:=zf 1 HON.out.two.nr
          have hon:=HON.out.store elemW HNB.out 1 (.slice (some ⟨w25.heap.size,0,none⟩) 1 1)
          clear HON
          have HON:=Lib.hid hon
          clear hon
          have hn:=HN.out
          unfold entryE at hn
          clear HN
          have HN:=Lib.hid hn
          clear hn
          have hc:=sees_row _ pb s p24 d [⟨#[101,115,97,99]⟩] _ HON.out.hp (by decide)
          try simp only [World.size_alloc,World.size_setCell] at hc
          try rw [HSZ.out] at hc
          have hn:=HN.out
          generalize (seesF [⟨#[101,115,97,99]⟩] p24) = B at hc hn
          clear HN
          have HC:=Lib.hid hc;have HN:=Lib.hid hn
          clear hc hn
          cases B
          ·have hn:=HN.out
           rw [if_neg (by decide)] at hn
           clear HN
           have HN:=Lib.hid hn
           clear hn
           go_wp2_with fail
           refine HC.out.mono ?_
           rintro e w27 ⟨rfl,hb⟩
           have hon:=HON.out.below elemW (by first | exact hb | simpa only [World.size_alloc,World.size_setCell] using hb)
           clear HON HC hb
           have HON:=Lib.hid hon
           clear hon
           try clear k1 f1
           have hc:=take_row _ pb s hs p24 d [⟨#[59,59]⟩] _ HON.out.hp (by decide)
           try simp only [World.size_alloc,World.size_setCell] at hc
           try rw [HSZ.out] at hc
           have hdw:DownS s _ (takeF s [⟨#[59,59]⟩] p24):=take_down (s:=s) (o:=p24) (l:=[⟨#[59,59]⟩]) HON.out.hp.ok (by decide)
           have hn:=HN.out
           generalize (takeF s [⟨#[59,59]⟩] p24) = rX at hc hdw hn
           clear HN
           have HC:=Lib.hid hc;have HD0:=Lib.hid hdw;have HN:=Lib.hid hn
           clear hc hdw hn
           cases rX with
           | bad i er =>
            go_wp2_with fail
            refine HC.out.mono ?_
            rintro e w2 ⟨hf,rfl⟩
            have HDD:Does S pb s d w VC R0 (thrownP i er) w2:=by rw [show R0 = .bad i er from HN.out.symm];exact ⟨HON.out.fr.trans hf,rfl⟩
            clear hf
            go_wp2_with fail
            exact ⟨rfl,HDD⟩
           | ok u p28 =>
            have hm:=HD0.out _ _ rfl
            have HM30:=Lib.hid hm.1
            have hn:=HN.out
            rw [Rs.bind_ok] at hn
            clear HN HD0 hm
            have HN:=Lib.hid hn
            clear hn
            go_wp2_with fail
            refine HC.out.mono ?_
            rintro e w29 ⟨hf,⟨v,rfl,rfl⟩,hp⟩
            have hon:=HON.out.call elemW hf hp
            clear HON HC hf hp
            have HON:=Lib.hid hon
            clear hon
            have hc:=lines_any _ pb s hs p28 d _ HON.out.hp
            have hdw:Down s _ (linesF s p28):=lines_down s (F s) p28 HON.out.hp.ok
            have hn:=HN.out
            generalize (linesF s p28) = rX at hc hdw hn
            clear HN
            have HC:=Lib.hid hc;have HD0:=Lib.hid hdw;have HN:=Lib.hid hn
            clear hc hdw hn
            cases rX with
            | bad i er =>
             go_wp2_with fail
             refine HC.out.mono ?_
             rintro e w2 ⟨hf,rfl⟩
             have HDD:Does S pb s d w VC R0 (thrownP i er) w2:=by rw [show R0 = .bad i er from HN.out.symm];exact ⟨HON.out.fr.trans hf,rfl⟩
             clear hf
             go_wp2_with fail
             exact ⟨rfl,HDD⟩
            | ok u p31 =>
             have hm:=HD0.out _ _ rfl
             have HM33:=Lib.hid hm.1
             have hn:=HN.out
             rw [Rs.bind_ok] at hn
             clear HN HD0 hm
             have HN:=Lib.hid hn
             clear hn
             go_wp2_with fail
             refine HC.out.mono ?_
             rintro e w32 ⟨hf,⟨v,rfl,rfl⟩,hp⟩
             have hon:=HON.out.call elemW hf hp
             clear HON HC hf hp
             have HON:=Lib.hid hon
             clear hon
             have r0:=zc0 HON.out.two.rr;have f0:=zf 0 HON.out.two.rr;have k0:=zc0 HON.out.two.nr
             have r1:=zc1 HON.out.two.rr;have f1:=zf 1 HON.out.two.rr;have k1:=zc1 HON.out.two.nr
             go_wp2_with fail
             have hst:=stored_rb2 w32 (w.heap.size) (.slice av ps.length cv) (.slice (some ⟨w25.heap.size,0,none⟩) 1 1) _ _ _ HON.out.two.rr
             generalize ((w32.setCell ⟨w.heap.size,0,none⟩ (.slice av ps.length cv)).setCell ⟨w.heap.size,1,none⟩ (.slice (some ⟨w25.heap.size,0,none⟩) 1 1)) = W8 at hst ⊢
             obtain ⟨hr8,hch⟩:=hst
             have x0:=Lib.cell_of_heap hr8 0
             have x1:=Lib.cell_of_heap hr8 1
             refine bodyPost_ret (v:=.agg #[.slice av ps.length cv,.slice (some ⟨w25.heap.size,0,none⟩) 1 1]) (by simp [results,Tryz.results139,go_sem,x0,x1]) rfl ?_
             rw [← HN.out]
             exact HON.out.done H.out hch (VC.of (bd:=[y]) rfl (HON.out.sl1 elemW (by unfold R;omega) hch) ((HON.out.ks hch).imp fun _ h=>h.2))
          ·have hn:=HN.out
           rw [if_pos rfl] at hn
           clear HN
           have HN:=Lib.hid hn
           clear hn
           go_wp2_with fail
           refine HC.out.mono ?_
           rintro e w27 ⟨rfl,hb⟩
           have hon:=HON.out.below elemW (by first | exact hb | simpa only [World.size_alloc,World.size_setCell] using hb)
           clear HON HC hb
           have HON:=Lib.hid hon
           clear hon
           try clear k1 f1
           have r0:=zc0 HON.out.two.rr;have f0:=zf 0 HON.out.two.rr;have k0:=zc0 HON.out.two.nr
           have r1:=zc1 HON.out.two.rr;have f1:=zf 1 HON.out.two.rr;have k1:=zc1 HON.out.two.nr
           go_wp2_with fail
           have hst:=stored_rb2 w27 (w.heap.size) (.slice av ps.length cv) (.slice (some ⟨w25.heap.size,0,none⟩) 1 1) _ _ _ HON.out.two.rr
           generalize ((w27.setCell ⟨w.heap.size,0,none⟩ (.slice av ps.length cv)).setCell ⟨w.heap.size,1,none⟩ (.slice (some ⟨w25.heap.size,0,none⟩) 1 1)) = W8 at hst ⊢
           obtain ⟨hr8,hch⟩:=hst
           have x0:=Lib.cell_of_heap hr8 0
           have x1:=Lib.cell_of_heap hr8 1
           refine bodyPost_ret (v:=.agg #[.slice av ps.length cv,.slice (some ⟨w25.heap.size,0,none⟩) 1 1]) (by simp [results,Tryz.results139,go_sem,x0,x1]) rfl ?_
           rw [← HN.out]
           exact HON.out.done H.out hch (VC.of (bd:=[y]) rfl (HON.out.sl1 elemW (by unfold R;omega) hch) ((HON.out.ks hch).imp fun _ h=>h.2))
     ·skip
      have hn:=HN.out
      first | rw [if_pos rfl,Rs.bind_assoc] at hn | rw [if_pos trivial,Rs.bind_assoc] at hn
      clear HN
      have HN:=Lib.hid hn
      clear hn
      go_wp2_with fail
      have hbd:Below w8.heap.size w8 w8.drew:=⟨rfl,rfl,rfl,Nat.le_refl _,fun _ _=>rfl⟩
      have hon:=HON.out.below elemW hbd
      clear HON hbd
      have HON:=Lib.hid hon
      clear hon
      have hc:=word_any _ pb s hs p7 d _ HON.out.hp
      have hdw:DownS s _ (wordF s p7):=word_down HON.out.hp.ok
      have hn:=HN.out
      generalize wordF s p7 = rX at hc hdw hn
      clear HN
      have HC:=Lib.hid hc;have HD0:=Lib.hid hdw;have HN:=Lib.hid hn
      clear hc hdw hn
      refine RN.begins (fun wz=>wz.heap[w5.heap.size + 1]? = some (.cells #[v1,.slice none 0 0] 166 (0,0))) [7] (by kernel_rfl) ?_
      generalize w8.drew = wd at HON HC ⊢
      have hS:wd.heap[w5.heap.size + 1]? = some (.cells #[v1,.slice none 0 0] 166 (0,0)):=HON.out.two.nr
      refine RN.tk (i:=0) (v:=?_) rfl hS ?_ ?_
      rotate_left 1
      ·(intro wq hq;have s0:=zc0 hq;go_simp;try with_reducible rfl)
      refine RN.tk (i:=1) (v:=?_) rfl hS ?_ ?_
      rotate_left 1
      ·(intro wq hq;have s0:=zc0 hq;go_simp;try with_reducible rfl)
      refine RN.tk (i:=2) (v:=?_) rfl hS ?_ ?_
      rotate_left 1
      ·(intro wq hq;have s0:=zc0 hq;go_simp;try with_reducible rfl)
      refine RN.all (rs:=[3]) (by kernel_rfl) (by simp) ?_
      refine RN.All.cons rfl (fun K hK=>?_) RN.All.nil
      go_simp
      cases rX with
      | bad i er =>
       refine HC.out.mono ?_
       rintro e w2 ⟨hf,rfl⟩
       have HDD:Does S pb s d w VC R0 (thrownP i er) w2:=by rw [show R0 = .bad i er from HN.out.symm];exact ⟨HON.out.fr.trans hf,rfl⟩
       clear hf hS
       go_wp2_with fail
       exact ⟨rfl,HDD⟩
      | ok y p34 =>
       have HMZ:=Lib.hid (HD0.out _ _ rfl).1
       have hn:=HN.out
       rw [Rs.bind_ok] at hn
       clear HN HD0
       have HN:=Lib.hid hn
       clear hn
       refine HC.out.mono ?_
       rintro e w6 ⟨hf,⟨v,rfl,a1,c1,rfl,hx1⟩,hp⟩
       have hze:EW _ w6 [.slice a1 y.len c1] y:=⟨a1,c1,rfl,hx1⟩
       have hon:=HON.out.call elemW hf hp
       clear HON HC hf hp hx1
       refine hK _ _ (fun _=>hon.two.nr) ?_
       clear hK K hS
       have hS:=hon.two.nr
       have HON:=Lib.hid hon
       clear hon
       refine RN.all (rs:=[4]) (by kernel_rfl) (by simp) ?_
       refine RN.All.cons rfl (fun K hK=>?_) RN.All.nil
       go_simp
       have hon:=HON.out.below elemW (bel1 w6 (.cells #[.slice a1 y.len c1] 82))
       have hze:=elemW.tq hze (bel1 w6 (.cells #[.slice a1 y.len c1] 82)).size (fun b _ hlt=>(bel1 w6 _).block b hlt) (fun _ hb _=>hb)
       have hlb:w.heap.size≤w6.heap.size:=HON.out.fr.size
       clear HON
       refine hK _ _ (fun _=>hon.two.nr) ?_
       clear hK K hS
       have hS:=hon.two.nr
       have HON:=Lib.hid hon
       clear hon
       obtain ⟨xs,hown,hcells⟩:=HON.out.two.r1.ex
       have HOWN:=Lib.hid hown;have HCE:=Lib.hid hcells;have HZE:=Lib.hid hze
       clear hown hcells hze
       refine RN.all (rs:=[5]) (by kernel_rfl) (by simp) ?_
       refine RN.All.cons rfl (fun K hK=>?_) RN.All.nil
       refine step_append_lies _ (by rfl) _ _ _ (by rfl) w.heap.size 82 i0 _ 1 24 Tryz.underlying37 HI.out HZ0.out HZ1.out HZ2.out rfl (by omega) v1 ps.length xs (by rfl) HOWN.out
        ⟨w6.heap.size,0,none⟩ 1 1 [.slice a1 y.len c1] (by rfl) (by rfl) (World.news_of_block (cs:=#[.slice a1 y.len c1]) (t:=82) (fr:=(0,0)) (heap_alloc_new w6 _)) (by simp [Value.oneCell'])
        (by omega) (by unfold maxLen;omega) (by omega) (by simp;omega) (w6.heap.size + 1) (by simp) ?_
       intro g capn w3 hown3 hgrow hat hlt
       have hon:=HON.out.app1 elemW HCE.out HZE.out hown3 hgrow (by simpa only [World.size_alloc] using hat)
       refine hK _ _ (fun _=>hon.two.nr) ?_
       clear hK K hS
       have hS:=hon.two.nr
       clear HON HOWN HCE HZE hown3 hgrow hat hlt hlb
       have HON:=Lib.hid hon
       clear hon
       refine RN.tk (i:=6) (v:=?_) rfl hS ?_ ?_
       rotate_left 1
       ·(intro wq hq;skip;go_simp;try with_reducible rfl)
       refine RN.all (rs:=[7]) (by kernel_rfl) (by simp) ?_
       refine RN.All.cons rfl (fun K hK=>?_) RN.All.nil
       have f0:=zf 0 HON.out.two.nr
       have k0:=zc0 HON.out.two.nr
       go_simp
       refine hK _ _ (fun h=>absurd h (by decide)) ?_
       clear hK K hS f0 k0
       refine RN.done (by kernel_rfl) ?_ _
       have hon:=HON.out.store elemW HNB.out 0 (.slice (some ⟨g,0,none⟩) (ps.length + 1) capn)
       clear HON
       have HON:=Lib.hid hon
       clear hon
       generalize w3.setCell ⟨w5.heap.size + 1,0,none⟩ (.slice (some ⟨g,0,none⟩) (ps.length + 1) capn) = wv at HON ⊢
       go_wp2_with fail
       go_roundw
       case rel =>
        have hall:mu s p34 < mu s q:=by have hm9:=HM9.out;have hmz:=HMZ.out;omega
        have h1:=HMU.out
        have h2:=HMQ.out
        have hcl:=HCL.out
        exact ⟨m,p34,ps ++ [y],_,_,HN.out,by omega,by omega,by rw [List.length_append,List.length_singleton];omega,HON.out⟩
       case measure =>
        have hall:mu s p34 < mu s q:=by have hm9:=HM9.out;have hmz:=HMZ.out;omega
        have e1:=HMW.out
        have e2:=HON.out.hp.mW
        omega
end Ps
end Go.Proofs.YtoklgmbpgnimcaaGreatDoor
namespace Go.Proofs.YtoklgmbpgnimcaaGreatDoor
open Go.RowKit Go.Sort
namespace Ps
open Cls Pt Tr Sp Lx
structure All (s:ByteArray) (n:Nat):Prop where
 list:ListAt s n
 item:ItemAt s n
 unit:UnitAt s n
 command:CommandAt s n
 simple:SimpleAt s n
 compound:CompoundAt s n
 body:BodyAt s n
 behind:BehindAt s n
 loop:LoopAt s n
 branch:BranchAt s n
 each:EachAt s n
 choice:ChoiceAt s n
 entry:EntryAt s n
 enc:EncAt s n
theorem all_at (s:ByteArray) (hs:s.size≤400000) (n:Nat):All s n:=by
 induction n using Nat.strongRecOn with
 | ind n ih =>
  have hl:ListAt s n:=list_step s hs n fun m hm=>(ih m hm).item
  have hb:BodyAt s n:=body_step s hs n hl
  have he:EncAt s n:=enc_step s hs n hb
  match n,ih,hl,hb,he with
  | 0,_,hl,hb,he =>
   exact ⟨hl,fun _ _ _ _ _ _ _ h=>by omega,fun _ _ _ _ _ _ _ h=>by omega,fun _ _ _ _ _ _ _ h=>by omega,fun _ _ _ _ _ _ _ h=>by omega,fun _ _ _ _ _ _ _ h=>by omega,hb,fun _ _ _ _ _ _ _ _ _ h=>by omega,fun _ _ _ _ _ _ _ _ h=>by omega,fun _ _ _ _ _ _ _ h=>by omega,fun _ _ _ _ _ _ _ h=>by omega,fun _ _ _ _ _ _ _ h=>by omega,fun _ _ _ _ _ _ _ h=>by omega,he⟩
  | n + 1,ih,hl,hb,he =>
   have p:=ih n (Nat.lt_succ_self _)
   have hc:CompoundAt s (n + 1):=by
    match n,ih with
    | 0,_=>exact fun _ _ _ _ _ _ _ h=>by omega
    | n + 1,ih =>
     have q:=ih n (by omega)
     exact compound_step s hs n q.enc q.branch q.loop q.each q.choice
   exact ⟨hl,item_step s hs n fun m hm=>(ih m (by omega)).unit,unit_step s hs n p.command,command_step s hs n p.simple p.compound,simple_step s hs n p.compound,hc,hb,behind_step s hs n p.body,loop_step s hs n p.body p.behind,branch_step s hs n p.body p.behind p.branch,each_step s hs n p.behind,choice_step s hs n fun m hm=>(ih m (by omega)).entry,entry_step s hs n p.list,he⟩
end Ps
end Go.Proofs.YtoklgmbpgnimcaaGreatDoor
