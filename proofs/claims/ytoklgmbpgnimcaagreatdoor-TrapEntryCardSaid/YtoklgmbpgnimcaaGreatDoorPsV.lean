/- simple, given what a compound is. -/
/- branch, given what is in it. -/
import Derived.Test.YtoklgmbpgnimcaaGreatDoorRegN
import Derived.Test.YtoklgmbpgnimcaaGreatDoorPsS
namespace Go.Proofs.YtoklgmbpgnimcaaGreatDoor
open Go.RowKit Go.Sort
namespace Ps
open Cls Pt Tr Sp Lx
theorem VN.simple {S:Nat→Prop} {w:World} {az:List (ByteArray × PL)} {ws:List PL} {a1 a2:Option Addr} {c1 c2:Nat} (h1:KS S w fun w2=>Sl 2 (PA w2) a1 c1 az) (h2:KS S w fun w2=>Sl 1 (PW w2) a2 c2 ws) :
  VN S w (.agg #[.int .i64 1,.string ⟨#[]⟩,.bool false,.slice a1 az.length c1,.slice a2 ws.length c2,.slice none 0 0,.slice none 0 0,.slice none 0 0]) ⟨1,⟨#[]⟩,false,az,ws,.nil,[],.nil⟩ :=
 ⟨a1,c1,a2,c2,none,0,none,0,none,0,rfl,fun w2 hs hk=>⟨Nat.zero_le _,h1 w2 hs hk,h2 w2 hs hk,nlNil _ 0,slNil 0,nlNil _ 0,rfl,rfl⟩⟩
set_option maxHeartbeats 4000000 in
set_option maxRecDepth 100000 in
theorem simple_step (s:ByteArray) (hs:s.size≤400000) (n:Nat) (IC:CompoundAt s n):SimpleAt s (n + 1):=by
 intro S pb d o w hd h hfu
 have HC0:=Lib.hid IC
 clear IC
 have hon:Fn EN 8 42 S pb s d w.heap.size w.heap.size w.heap.size w (w.alloc (.cells #[.int .i64 0,.string ⟨#[]⟩,.bool false,.slice none 0 0,.slice none 0 0,.slice none 0 0,.slice none 0 0,.slice none 0 0] 42)) o (.slice none 0 0) [] (.slice none 0 0) [] row0 row0 42 S (fun _=>True):=Fn.start h
 obtain ⟨R0,hR⟩:∃ R0,(simpleF s d (n + 1) o) = R0:=⟨_,rfl⟩
 rw [hR]
 rw [simpleF] at hR
 have H:=Lib.hid h;have HN:=Lib.hid hR;have HON:=Lib.hid hon;have HFU:=Lib.hid hfu
 clear h hR hon hfu
 go_enter Tryz.func107,Tryz.ntmps107
 go_wp2_with fail
 have htx:=HON.out.hp.ok.text hs
 have hbd:Below (w.alloc (.cells #[.int .i64 0,.string ⟨#[]⟩,.bool false,.slice none 0 0,.slice none 0 0,.slice none 0 0,.slice none 0 0,.slice none 0 0] 42)).heap.size (w.alloc (.cells #[.int .i64 0,.string ⟨#[]⟩,.bool false,.slice none 0 0,.slice none 0 0,.slice none 0 0,.slice none 0 0,.slice none 0 0] 42)) (w.alloc (.cells #[.int .i64 0,.string ⟨#[]⟩,.bool false,.slice none 0 0,.slice none 0 0,.slice none 0 0,.slice none 0 0,.slice none 0 0] 42)).drew:=⟨rfl,rfl,rfl,Nat.le_refl _,fun _ _=>rfl⟩
 have hon:=HON.out.below elemN hbd
 clear HON hbd
 have HON:=Lib.hid hon
 clear hon
 have HC:=Lib.hid (named_any _ pb s o d _ HON.out.hp hs)
 refine RN.begins (fun w2=>w2.cell? ⟨pb,6,none⟩ = some (.string (textF o))) [] (by kernel_rfl) ?_
 generalize (w.alloc (.cells #[.int .i64 0,.string ⟨#[]⟩,.bool false,.slice none 0 0,.slice none 0 0,.slice none 0 0,.slice none 0 0,.slice none 0 0] 42)).drew = wd at HON HC ⊢
 have hS:wd.cell? ⟨pb,6,none⟩ = some (.string (textF o)):=by
  obtain ⟨a6,cap6,hr6,_⟩:=HON.out.hp.ex
  exact Lib.cell_of_heap hr6 6
 refine RN.tk (i:=0) (v:=?_) rfl hS ?_ ?_
 rotate_left 1
 ·(intro wq hq;have s6:wq.cell? ⟨pb,6,none⟩ = some (.string (textF o)):=hq;go_simp;try with_reducible rfl)
 refine RN.tk (i:=1) (v:=?_) rfl hS ?_ ?_
 rotate_left 1
 ·(intro wq hq;have s6:wq.cell? ⟨pb,6,none⟩ = some (.string (textF o)):=hq;go_simp;try with_reducible rfl)
 refine RN.tk (i:=2) (v:=?_) rfl hS ?_ ?_
 rotate_left 1
 ·(intro wq hq;have s6:wq.cell? ⟨pb,6,none⟩ = some (.string (textF o)):=hq;go_simp;try with_reducible rfl)
 refine RN.tk (i:=3) (v:=?_) rfl hS ?_ ?_
 rotate_left 1
 ·(intro wq hq;have s6:wq.cell? ⟨pb,6,none⟩ = some (.string (textF o)):=hq;go_simp;try with_reducible rfl)
 refine RN.tk (i:=4) (v:=?_) rfl hS ?_ ?_
 rotate_left 1
 ·(intro wq hq;have s6:wq.cell? ⟨pb,6,none⟩ = some (.string (textF o)):=hq;go_simp;try with_reducible rfl)
 refine RN.all (rs:=[5]) (by kernel_rfl) (by simp) ?_
 refine RN.All.cons rfl (fun K hK=>?_) RN.All.nil
 go_simp
 refine HC.out.mono ?_
 rintro e w1 ⟨rfl,hb⟩
 have hon:=HON.out.below elemN hb
 clear HON HC
 refine hK _ _ (fun _=>cell_below hb hS) ?_
 have hS1:=cell_below hb hS
 clear hK K hS hb
 have hS:=hS1
 clear hS1
 have HON:=Lib.hid hon
 clear hon
 refine RN.tk (i:=6) (v:=?_) rfl hS ?_ ?_
 rotate_left 1
 ·(intro wq hq;have s6:wq.cell? ⟨pb,6,none⟩ = some (.string (textF o)):=hq;go_simp;try with_reducible rfl)
 refine RN.tk (i:=7) (v:=?_) rfl hS ?_ ?_
 rotate_left 1
 ·(intro wq hq;have s6:wq.cell? ⟨pb,6,none⟩ = some (.string (textF o)):=hq;go_simp;try with_reducible rfl)
 refine RN.done (by kernel_rfl) ?_ _
 clear hS
 have hnm:(textF o).size≤R:=by unfold R;omega
 have HNM:=Lib.hid hnm
 clear hnm htx
 generalize namedB o = B at HN ⊢
 generalize textF o = tx at HN HNM ⊢
 have hc:=assigns_any _ pb s hs o d _ HON.out.hp
 have hdw:Down s _ (assignsF s o):=assigns_down s (F s) [] o HON.out.hp.ok
 have hn:=HN.out
 generalize (assignsF s o) = rX at hc hdw hn
 clear HN
 have HC:=Lib.hid hc;have HD0:=Lib.hid hdw;have HN:=Lib.hid hn
 clear hc hdw hn
 cases rX with
 | bad i er =>
  go_wp2_with fail
  refine HC.out.mono ?_
  rintro e w2 ⟨hf,rfl⟩
  have HDD:Does S pb s d w VN R0 (thrownP i er) w2:=by rw [show R0 = .bad i er from HN.out.symm];exact ⟨HON.out.fr.trans hf,rfl⟩
  clear hf
  go_wp2_with fail
  exact ⟨rfl,HDD⟩
 | ok az p1 =>
  have hm:=HD0.out _ _ rfl
  have HM4:=Lib.hid hm.1
  have hn:=HN.out
  rw [Rs.bind_ok] at hn
  clear HN HD0 hm
  have HN:=Lib.hid hn
  clear hn
  go_wp2_with fail
  refine HC.out.mono ?_
  rintro e w3 ⟨hf,⟨v,rfl,aa,ca,rfl,hka⟩,hp⟩
  have hon:=HON.out.call elemN hf hp
  clear HON HC hf hp
  have hon:=hon.hold hka
  clear hka
  have HON:=Lib.hid hon
  clear hon
  have hc:=words_any _ pb s hs p1 d _ HON.out.hp
  have hdw:Down s _ (wordsF s p1):=words_down s (F s) [] p1 HON.out.hp.ok
  have hn:=HN.out
  generalize (wordsF s p1) = rX at hc hdw hn
  clear HN
  have HC:=Lib.hid hc;have HD0:=Lib.hid hdw;have HN:=Lib.hid hn
  clear hc hdw hn
  cases rX with
  | bad i er =>
   go_wp2_with fail
   refine HC.out.mono ?_
   rintro e w2 ⟨hf,rfl⟩
   have HDD:Does S pb s d w VN R0 (thrownP i er) w2:=by rw [show R0 = .bad i er from HN.out.symm];exact ⟨HON.out.fr.trans hf,rfl⟩
   clear hf
   go_wp2_with fail
   exact ⟨rfl,HDD⟩
  | ok ws p2 =>
   have hm:=HD0.out _ _ rfl
   have HM6:=Lib.hid hm.1
   have hn:=HN.out
   rw [Rs.bind_ok] at hn
   clear HN HD0 hm
   have HN:=Lib.hid hn
   clear hn
   go_wp2_with fail
   refine HC.out.mono ?_
   rintro e w5 ⟨hf,⟨v,rfl,aw,cw,rfl,hkw⟩,hp⟩
   have hon:=HON.out.call elemN hf hp
   clear HON HC hf hp
   have hon:=hon.hold hkw
   clear hkw
   have HON:=Lib.hid hon
   clear hon
   have hon:Fn EN 8 42 S pb s d (w5).heap.size w.heap.size w.heap.size w (w5.alloc (.cells #[.int .i64 1,.string ⟨#[]⟩,.bool false,.slice aa az.length ca,.slice aw ws.length cw,.slice none 0 0,.slice none 0 0,.slice none 0 0] 42)) _ (.slice none 0 0) [] (.slice none 0 0) [] #[.int .i64 1,.string ⟨#[]⟩,.bool false,.slice aa az.length ca,.slice aw ws.length cw,.slice none 0 0,.slice none 0 0,.slice none 0 0] row0 42 _ _:=HON.out.var elemN (Row.nil _ _ _ _) (fun _ h=>by cases h)
   clear HON
   have HON:=Lib.hid hon
   clear hon
   skip
   cases B
   ·have hn:=HN.out
    rw [if_neg (by simp)] at hn
    clear HN
    have HN:=Lib.hid hn
    clear hn
    have r0:=zc0 HON.out.two.rr;have f0:=zf 0 HON.out.two.rr;have k0:=zc0 HON.out.two.nr
    have r1:=zc1 HON.out.two.rr;have f1:=zf 1 HON.out.two.rr;have k1:=zc1 HON.out.two.nr
    have r2:=zc2 HON.out.two.rr;have f2:=zf 2 HON.out.two.rr;have k2:=zc2 HON.out.two.nr
    have r3:=zc3 HON.out.two.rr;have f3:=zf 3 HON.out.two.rr;have k3:=zc3 HON.out.two.nr
    have r4:=zc4 HON.out.two.rr;have f4:=zf 4 HON.out.two.rr;have k4:=zc4 HON.out.two.nr
    have r5:=zc5 HON.out.two.rr;have f5:=zf 5 HON.out.two.rr;have k5:=zc5 HON.out.two.nr
    have r6:=zc6 HON.out.two.rr;have f6:=zf 6 HON.out.two.rr;have k6:=zc6 HON.out.two.nr
    have r7:=zc7 HON.out.two.rr;have f7:=zf 7 HON.out.two.rr;have k7:=zc7 HON.out.two.nr
    go_wp2_with fail
    have hst:=stored_rb (w5.alloc (.cells #[.int .i64 1,.string ⟨#[]⟩,.bool false,.slice aa az.length ca,.slice aw ws.length cw,.slice none 0 0,.slice none 0 0,.slice none 0 0] 42)) (w.heap.size) (.int .i64 1) (.string ⟨#[]⟩) (.bool false) (.slice aa az.length ca) (.slice aw ws.length cw) (.slice none 0 0) (.slice none 0 0) (.slice none 0 0) _ _ _ _ _ _ _ _ _ HON.out.two.rr
    generalize (((((((((w5.alloc (.cells #[.int .i64 1,.string ⟨#[]⟩,.bool false,.slice aa az.length ca,.slice aw ws.length cw,.slice none 0 0,.slice none 0 0,.slice none 0 0] 42)).setCell ⟨w.heap.size,0,none⟩ (.int .i64 1)).setCell ⟨w.heap.size,1,none⟩ (.string ⟨#[]⟩)).setCell ⟨w.heap.size,2,none⟩ (.bool false)).setCell ⟨w.heap.size,3,none⟩ (.slice aa az.length ca)).setCell ⟨w.heap.size,4,none⟩ (.slice aw ws.length cw)).setCell ⟨w.heap.size,5,none⟩ (.slice none 0 0)).setCell ⟨w.heap.size,6,none⟩ (.slice none 0 0)).setCell ⟨w.heap.size,7,none⟩ (.slice none 0 0)) = W8 at hst ⊢
    obtain ⟨hr8,hch⟩:=hst
    have x0:=Lib.cell_of_heap hr8 0
    have x1:=Lib.cell_of_heap hr8 1
    have x2:=Lib.cell_of_heap hr8 2
    have x3:=Lib.cell_of_heap hr8 3
    have x4:=Lib.cell_of_heap hr8 4
    have x5:=Lib.cell_of_heap hr8 5
    have x6:=Lib.cell_of_heap hr8 6
    have x7:=Lib.cell_of_heap hr8 7
    refine bodyPost_ret (v:=.agg #[.int .i64 1,.string ⟨#[]⟩,.bool false,.slice aa az.length ca,.slice aw ws.length cw,.slice none 0 0,.slice none 0 0,.slice none 0 0]) (by simp [results,Tryz.results107,go_sem,x0,x1,x2,x3,x4,x5,x6,x7]) rfl ?_
    rw [← HN.out]
    exact HON.out.done H.out hch (VN.simple ((HON.out.ks hch).imp fun _ h=>h.1.2) ((HON.out.ks hch).imp fun _ h=>h.2))
   ·by_cases hl:ws.length = 1
    ·have hl1:((ws.length:Int) == 1) = true:=by rw [hl];rfl
     have hn:=HN.out
     rw [if_pos (by simp [hl])] at hn
     clear HN
     have HN:=Lib.hid hn;have HL:=Lib.hid hl
     clear hn hl
     have k4:=zc4 HON.out.two.nr
     have hc:=skip_row _ pb s hs p2 d [⟨#[40]⟩] _ HON.out.hp (by decide)
     try simp only [World.size_alloc,World.size_setCell] at hc
     try rw [HSZ.out] at hc
     have hdw:Down s _ (skipF s [⟨#[40]⟩] p2):=skip_down (s:=s) (o:=p2) (l:=[⟨#[40]⟩]) HON.out.hp.ok (by decide)
     have hn:=HN.out
     generalize (skipF s [⟨#[40]⟩] p2) = rX at hc hdw hn
     clear HN
     have HC:=Lib.hid hc;have HD0:=Lib.hid hdw;have HN:=Lib.hid hn
     clear hc hdw hn
     cases rX with
     | bad i er =>
      go_wp2_with fail
      refine HC.out.mono ?_
      rintro e w2 ⟨hf,rfl⟩
      have HDD:Does S pb s d w VN R0 (thrownP i er) w2:=by rw [show R0 = .bad i er from HN.out.symm];exact ⟨HON.out.fr.trans hf,rfl⟩
      clear hf
      go_wp2_with fail
      exact ⟨rfl,HDD⟩
     | ok b p7 =>
      have hm:=HD0.out _ _ rfl
      have HM9:=Lib.hid hm.1
      have hn:=HN.out
      rw [Rs.bind_ok] at hn
      clear HN HD0 hm
      have HN:=Lib.hid hn
      clear hn
      go_wp2_with fail
      refine HC.out.mono ?_
      rintro e w8 ⟨hf,⟨v,rfl,rfl⟩,hp⟩
      have hon:=HON.out.call elemN hf hp
      clear HON HC hf hp
      have HON:=Lib.hid hon
      clear hon
      cases b
      ·skip
       have hn:=HN.out
       rw [if_neg (by decide)] at hn
       clear HN k4
       have HN:=Lib.hid hn
       clear hn
       have r0:=zc0 HON.out.two.rr;have f0:=zf 0 HON.out.two.rr;have k0:=zc0 HON.out.two.nr
       have r1:=zc1 HON.out.two.rr;have f1:=zf 1 HON.out.two.rr;have k1:=zc1 HON.out.two.nr
       have r2:=zc2 HON.out.two.rr;have f2:=zf 2 HON.out.two.rr;have k2:=zc2 HON.out.two.nr
       have r3:=zc3 HON.out.two.rr;have f3:=zf 3 HON.out.two.rr;have k3:=zc3 HON.out.two.nr
       have r4:=zc4 HON.out.two.rr;have f4:=zf 4 HON.out.two.rr;have k4:=zc4 HON.out.two.nr
       have r5:=zc5 HON.out.two.rr;have f5:=zf 5 HON.out.two.rr;have k5:=zc5 HON.out.two.nr
       have r6:=zc6 HON.out.two.rr;have f6:=zf 6 HON.out.two.rr;have k6:=zc6 HON.out.two.nr
       have r7:=zc7 HON.out.two.rr;have f7:=zf 7 HON.out.two.rr;have k7:=zc7 HON.out.two.nr
       go_wp2_with fail
       have hst:=stored_rb w8 (w.heap.size) (.int .i64 1) (.string ⟨#[]⟩) (.bool false) (.slice aa az.length ca) (.slice aw ws.length cw) (.slice none 0 0) (.slice none 0 0) (.slice none 0 0) _ _ _ _ _ _ _ _ _ HON.out.two.rr
       generalize ((((((((w8.setCell ⟨w.heap.size,0,none⟩ (.int .i64 1)).setCell ⟨w.heap.size,1,none⟩ (.string ⟨#[]⟩)).setCell ⟨w.heap.size,2,none⟩ (.bool false)).setCell ⟨w.heap.size,3,none⟩ (.slice aa az.length ca)).setCell ⟨w.heap.size,4,none⟩ (.slice aw ws.length cw)).setCell ⟨w.heap.size,5,none⟩ (.slice none 0 0)).setCell ⟨w.heap.size,6,none⟩ (.slice none 0 0)).setCell ⟨w.heap.size,7,none⟩ (.slice none 0 0)) = W8 at hst ⊢
       obtain ⟨hr8,hch⟩:=hst
       have x0:=Lib.cell_of_heap hr8 0
       have x1:=Lib.cell_of_heap hr8 1
       have x2:=Lib.cell_of_heap hr8 2
       have x3:=Lib.cell_of_heap hr8 3
       have x4:=Lib.cell_of_heap hr8 4
       have x5:=Lib.cell_of_heap hr8 5
       have x6:=Lib.cell_of_heap hr8 6
       have x7:=Lib.cell_of_heap hr8 7
       refine bodyPost_ret (v:=.agg #[.int .i64 1,.string ⟨#[]⟩,.bool false,.slice aa az.length ca,.slice aw ws.length cw,.slice none 0 0,.slice none 0 0,.slice none 0 0]) (by simp [results,Tryz.results107,go_sem,x0,x1,x2,x3,x4,x5,x6,x7]) rfl ?_
       rw [← HN.out]
       exact HON.out.done H.out hch (VN.simple ((HON.out.ks hch).imp fun _ h=>h.1.2) ((HON.out.ks hch).imp fun _ h=>h.2))
      ·skip
       have hn:=HN.out
       first | rw [if_pos rfl] at hn | rw [if_pos trivial] at hn
       clear HN k4
       have HN:=Lib.hid hn
       clear hn
       have hc:=take_row _ pb s hs p7 d [⟨#[41]⟩] _ HON.out.hp (by decide)
       try simp only [World.size_alloc,World.size_setCell] at hc
       try rw [HSZ.out] at hc
       have hdw:DownS s _ (takeF s [⟨#[41]⟩] p7):=take_down (s:=s) (o:=p7) (l:=[⟨#[41]⟩]) HON.out.hp.ok (by decide)
       have hn:=HN.out
       generalize (takeF s [⟨#[41]⟩] p7) = rX at hc hdw hn
       clear HN
       have HC:=Lib.hid hc;have HD0:=Lib.hid hdw;have HN:=Lib.hid hn
       clear hc hdw hn
       cases rX with
       | bad i er =>
        go_wp2_with fail
        refine HC.out.mono ?_
        rintro e w2 ⟨hf,rfl⟩
        have HDD:Does S pb s d w VN R0 (thrownP i er) w2:=by rw [show R0 = .bad i er from HN.out.symm];exact ⟨HON.out.fr.trans hf,rfl⟩
        clear hf
        go_wp2_with fail
        exact ⟨rfl,HDD⟩
       | ok u p10 =>
        have hm:=HD0.out _ _ rfl
        have HM12:=Lib.hid hm.1
        have hn:=HN.out
        rw [Rs.bind_ok] at hn
        clear HN HD0 hm
        have HN:=Lib.hid hn
        clear hn
        go_wp2_with fail
        refine HC.out.mono ?_
        rintro e w11 ⟨hf,⟨v,rfl,rfl⟩,hp⟩
        have hon:=HON.out.call elemN hf hp
        clear HON HC hf hp
        have HON:=Lib.hid hon
        clear hon
        have hc:=lines_any _ pb s hs p10 d _ HON.out.hp
        have hdw:Down s _ (linesF s p10):=lines_down s (F s) p10 HON.out.hp.ok
        have hn:=HN.out
        generalize (linesF s p10) = rX at hc hdw hn
        clear HN
        have HC:=Lib.hid hc;have HD0:=Lib.hid hdw;have HN:=Lib.hid hn
        clear hc hdw hn
        cases rX with
        | bad i er =>
         go_wp2_with fail
         refine HC.out.mono ?_
         rintro e w2 ⟨hf,rfl⟩
         have HDD:Does S pb s d w VN R0 (thrownP i er) w2:=by rw [show R0 = .bad i er from HN.out.symm];exact ⟨HON.out.fr.trans hf,rfl⟩
         clear hf
         go_wp2_with fail
         exact ⟨rfl,HDD⟩
        | ok u p13 =>
         have hm:=HD0.out _ _ rfl
         have HM15:=Lib.hid hm.1
         have hn:=HN.out
         rw [Rs.bind_ok] at hn
         clear HN HD0 hm
         have HN:=Lib.hid hn
         clear hn
         go_wp2_with fail
         refine HC.out.mono ?_
         rintro e w14 ⟨hf,⟨v,rfl,rfl⟩,hp⟩
         have hon:=HON.out.call elemN hf hp
         clear HON HC hf hp
         have HON:=Lib.hid hon
         clear hon
         have hc:=HC0.out _ pb d p13 _ hd HON.out.hp (by have hm4:=HM4.out;have hm6:=HM6.out;have hm9:=HM9.out;have hm12:=HM12.out;have hm15:=HM15.out;have hfu:=HFU.out;omega)
         have hdw:Down s _ (compoundF s d n p13):=(downs_all s n).compound d p13 HON.out.hp.ok
         have hn:=HN.out
         generalize (compoundF s d n p13) = rX at hc hdw hn
         clear HN
         have HC:=Lib.hid hc;have HD0:=Lib.hid hdw;have HN:=Lib.hid hn
         clear hc hdw hn
         cases rX with
         | bad i er =>
          go_wp2_with fail
          refine HC.out.mono ?_
          rintro e w2 ⟨hf,rfl⟩
          have HDD:Does S pb s d w VN R0 (thrownP i er) w2:=by rw [show R0 = .bad i er from HN.out.symm];exact ⟨HON.out.fr.trans hf,rfl⟩
          clear hf
          go_wp2_with fail
          exact ⟨rfl,HDD⟩
         | ok x p16 =>
          have hm:=HD0.out _ _ rfl
          have HM18:=Lib.hid hm.1
          have hn:=HN.out
          rw [Rs.bind_ok] at hn
          clear HN HD0 hm
          have HN:=Lib.hid hn
          clear hn
          go_wp2_with fail
          refine HC.out.mono ?_
          rintro e w17 ⟨hf,⟨v,rfl,a1,c1,a2,c2,a3,c3,a4,c4,a5,c5,hv,hx⟩,hp⟩
          have hon:=HON.out.call elemN hf hp
          clear HON HC hf hp
          obtain rfl:v = .agg #[.int .i64 x.k,.string x.nm,.bool x.g,.slice a1 x.az.length c1,.slice a2 x.ws.length c2,.slice a3 x.ks.len c3,.slice a4 x.bs.length c4,.slice a5 x.cz.len c5]:=hv
          have hon:=hon.hold hx
          clear hx
          have HON:=Lib.hid hon
          clear hon
          have hks:=KS.row (m:=1) (row:=#[.int .i64 x.k,.string x.nm,.bool x.g,.slice a1 x.az.length c1,.slice a2 x.ws.length c2,.slice a3 x.ks.len c3,.slice a4 x.bs.length c4,.slice a5 x.cz.len c5]) (ty:=42) elemN (cells1 (HON.out.held.imp fun _ h=>h.2)) rfl (by decide)
          have hon:=(HON.out.grow elemN (bel1 w17 (.cells #[.int .i64 x.k,.string x.nm,.bool x.g,.slice a1 x.az.length c1,.slice a2 x.ws.length c2,.slice a3 x.ks.len c3,.slice a4 x.bs.length c4,.slice a5 x.cz.len c5] 42))).keep hks
          clear HON hks
          have HON:=Lib.hid hon
          clear hon
          have r0:=zc0 HON.out.two.rr;have f0:=zf 0 HON.out.two.rr
          have r1:=zc1 HON.out.two.rr;have f1:=zf 1 HON.out.two.rr
          have r2:=zc2 HON.out.two.rr;have f2:=zf 2 HON.out.two.rr
          have r3:=zc3 HON.out.two.rr;have f3:=zf 3 HON.out.two.rr
          have r4:=zc4 HON.out.two.rr;have f4:=zf 4 HON.out.two.rr
          have r5:=zc5 HON.out.two.rr;have f5:=zf 5 HON.out.two.rr
          have r6:=zc6 HON.out.two.rr;have f6:=zf 6 HON.out.two.rr
          have r7:=zc7 HON.out.two.rr;have f7:=zf 7 HON.out.two.rr
          go_wp2_with fail
          have hst:=stored_rb (w17.alloc (.cells #[.int .i64 x.k,.string x.nm,.bool x.g,.slice a1 x.az.length c1,.slice a2 x.ws.length c2,.slice a3 x.ks.len c3,.slice a4 x.bs.length c4,.slice a5 x.cz.len c5] 42)) (w.heap.size) (.int .i64 13) (.string tx) (.bool false) (.slice none 0 0) (.slice none 0 0) (.slice (some ⟨w17.heap.size,0,none⟩) 1 1) (.slice none 0 0) (.slice none 0 0) _ _ _ _ _ _ _ _ _ HON.out.two.rr
          generalize (((((((((w17.alloc (.cells #[.int .i64 x.k,.string x.nm,.bool x.g,.slice a1 x.az.length c1,.slice a2 x.ws.length c2,.slice a3 x.ks.len c3,.slice a4 x.bs.length c4,.slice a5 x.cz.len c5] 42)).setCell ⟨w.heap.size,0,none⟩ (.int .i64 13)).setCell ⟨w.heap.size,1,none⟩ (.string tx)).setCell ⟨w.heap.size,2,none⟩ (.bool false)).setCell ⟨w.heap.size,3,none⟩ (.slice none 0 0)).setCell ⟨w.heap.size,4,none⟩ (.slice none 0 0)).setCell ⟨w.heap.size,5,none⟩ (.slice (some ⟨w17.heap.size,0,none⟩) 1 1)).setCell ⟨w.heap.size,6,none⟩ (.slice none 0 0)).setCell ⟨w.heap.size,7,none⟩ (.slice none 0 0)) = W8 at hst ⊢
          obtain ⟨hr8,hch⟩:=hst
          have x0:=Lib.cell_of_heap hr8 0
          have x1:=Lib.cell_of_heap hr8 1
          have x2:=Lib.cell_of_heap hr8 2
          have x3:=Lib.cell_of_heap hr8 3
          have x4:=Lib.cell_of_heap hr8 4
          have x5:=Lib.cell_of_heap hr8 5
          have x6:=Lib.cell_of_heap hr8 6
          have x7:=Lib.cell_of_heap hr8 7
          refine bodyPost_ret (v:=.agg #[.int .i64 13,.string tx,.bool false,.slice none 0 0,.slice none 0 0,.slice (some ⟨w17.heap.size,0,none⟩) 1 1,.slice none 0 0,.slice none 0 0]) (by simp [results,Tryz.results107,go_sem,x0,x1,x2,x3,x4,x5,x6,x7]) rfl ?_
          rw [← HN.out]
          exact HON.out.done H.out hch (VN.kids rfl HNM.out (HON.out.ks hch))
    ·have hl1:((ws.length:Int) == 1) = false:=by rw [beq_eq_false_iff_ne];omega
     have hn:=HN.out
     rw [if_neg (by simp [hl])] at hn
     clear HN
     have HN:=Lib.hid hn;have HL:=Lib.hid hl
     clear hn hl
     have r0:=zc0 HON.out.two.rr;have f0:=zf 0 HON.out.two.rr;have k0:=zc0 HON.out.two.nr
     have r1:=zc1 HON.out.two.rr;have f1:=zf 1 HON.out.two.rr;have k1:=zc1 HON.out.two.nr
     have r2:=zc2 HON.out.two.rr;have f2:=zf 2 HON.out.two.rr;have k2:=zc2 HON.out.two.nr
     have r3:=zc3 HON.out.two.rr;have f3:=zf 3 HON.out.two.rr;have k3:=zc3 HON.out.two.nr
     have r4:=zc4 HON.out.two.rr;have f4:=zf 4 HON.out.two.rr;have k4:=zc4 HON.out.two.nr
     have r5:=zc5 HON.out.two.rr;have f5:=zf 5 HON.out.two.rr;have k5:=zc5 HON.out.two.nr
     have r6:=zc6 HON.out.two.rr;have f6:=zf 6 HON.out.two.rr;have k6:=zc6 HON.out.two.nr
     have r7:=zc7 HON.out.two.rr;have f7:=zf 7 HON.out.two.rr;have k7:=zc7 HON.out.two.nr
     go_wp2_with fail
     have hst:=stored_rb (w5.alloc (.cells #[.int .i64 1,.string ⟨#[]⟩,.bool false,.slice aa az.length ca,.slice aw ws.length cw,.slice none 0 0,.slice none 0 0,.slice none 0 0] 42)) (w.heap.size) (.int .i64 1) (.string ⟨#[]⟩) (.bool false) (.slice aa az.length ca) (.slice aw ws.length cw) (.slice none 0 0) (.slice none 0 0) (.slice none 0 0) _ _ _ _ _ _ _ _ _ HON.out.two.rr
     generalize (((((((((w5.alloc (.cells #[.int .i64 1,.string ⟨#[]⟩,.bool false,.slice aa az.length ca,.slice aw ws.length cw,.slice none 0 0,.slice none 0 0,.slice none 0 0] 42)).setCell ⟨w.heap.size,0,none⟩ (.int .i64 1)).setCell ⟨w.heap.size,1,none⟩ (.string ⟨#[]⟩)).setCell ⟨w.heap.size,2,none⟩ (.bool false)).setCell ⟨w.heap.size,3,none⟩ (.slice aa az.length ca)).setCell ⟨w.heap.size,4,none⟩ (.slice aw ws.length cw)).setCell ⟨w.heap.size,5,none⟩ (.slice none 0 0)).setCell ⟨w.heap.size,6,none⟩ (.slice none 0 0)).setCell ⟨w.heap.size,7,none⟩ (.slice none 0 0)) = W8 at hst ⊢
     obtain ⟨hr8,hch⟩:=hst
     have x0:=Lib.cell_of_heap hr8 0
     have x1:=Lib.cell_of_heap hr8 1
     have x2:=Lib.cell_of_heap hr8 2
     have x3:=Lib.cell_of_heap hr8 3
     have x4:=Lib.cell_of_heap hr8 4
     have x5:=Lib.cell_of_heap hr8 5
     have x6:=Lib.cell_of_heap hr8 6
     have x7:=Lib.cell_of_heap hr8 7
     refine bodyPost_ret (v:=.agg #[.int .i64 1,.string ⟨#[]⟩,.bool false,.slice aa az.length ca,.slice aw ws.length cw,.slice none 0 0,.slice none 0 0,.slice none 0 0]) (by simp [results,Tryz.results107,go_sem,x0,x1,x2,x3,x4,x5,x6,x7]) rfl ?_
     rw [← HN.out]
     exact HON.out.done H.out hch (VN.simple ((HON.out.ks hch).imp fun _ h=>h.1.2) ((HON.out.ks hch).imp fun _ h=>h.2))
end Ps
end Go.Proofs.YtoklgmbpgnimcaaGreatDoor
namespace Go.Proofs.YtoklgmbpgnimcaaGreatDoor
open Go.RowKit Go.Sort
namespace Ps
open Cls Pt Tr Sp Lx
theorem Row.of {T:Type} {k:Nat} {E:(Nat→Prop)→World→List Value→T→Prop} {ty:TypeId} {base:Nat} {K:Nat→Prop} {w:World} {l:List T} {row:Array Value} {g m:Nat} (hb:base≤g) (hrow:w.heap[g]? = some (.cells row ty (0,0))) (hsz:row.size = m * k) (hl:l.length = m) (hm:m≤1000) (h:CellsG E K w l row.toList) (hK:¬ K g) :
  Row E k ty base K w (.slice (some ⟨g,0,none⟩) m m) l:=by
 subst hl
 refine ⟨⟨row.toList,⟨by simpa using hsz,.inr ⟨g,_,row,rfl,hb,hrow,Nat.le_refl _,by unfold maxLen;omega,hsz,?_⟩⟩,h⟩,fun g' hg'=>?_⟩
 ·rw [← hsz]
  exact List.take_of_length_le (by simp)
 ·have:g = g':=by simpa [Value.ownBlock] using hg'
  subst this
  exact hK
theorem VN.kidsR {S:Nat→Prop} {w:World} {k:Int} {ks:List ND} {v:Value} (h:VSl 8 PN S w v ks):VN S w (.agg #[.int .i64 k,.string ⟨#[]⟩,.bool false,.slice none 0 0,.slice none 0 0,v,.slice none 0 0,.slice none 0 0]) (nd k ks):=by
 obtain ⟨a,cap,rfl,h⟩:=h
 exact VN.kids rfl R_empty h
theorem KS.rowB (M:Nat→Prop) (w:World) (b:Bool):KS (Up M w (w.alloc (.cells #[.bool b] 4))) (w.alloc (.cells #[.bool b] 4)) fun w2=>Sl 1 (PB w2) (some ⟨w.heap.size,0,none⟩) 1 [b] :=
 KS.row (m:=1) elemB (⟨[.bool b],[],rfl,rfl,rfl⟩:CellsG EB M w [b] [.bool b]) rfl (by decide)
theorem own_ne {g g2 m c:Nat} {g':Nat} (h:(Value.slice (some ⟨g,0,none⟩) m c).ownBlock = some g') (hn:g ≠ g2):g' ≠ g2:=by
 have:g = g':=by simpa [Value.ownBlock] using h
 subst this
 exact hn
set_option maxHeartbeats 4000000 in
set_option maxRecDepth 100000 in
theorem branch_step (s:ByteArray) (hs:s.size≤400000) (n:Nat) (IH:BodyAt s n) (IB:BehindAt s n) (IR:BranchAt s n):BranchAt s (n + 1):=by
 intro S pb d o w hd h hfu
 have HIH:=Lib.hid IH;have HBH:=Lib.hid IB;have HBR:=Lib.hid IR
 clear IH IB IR
 have hon:Fn EN 8 42 S pb s d w.heap.size w.heap.size w.heap.size w (w.alloc (.cells #[.int .i64 0,.string ⟨#[]⟩,.bool false,.slice none 0 0,.slice none 0 0,.slice none 0 0,.slice none 0 0,.slice none 0 0] 42)) o (.slice none 0 0) [] (.slice none 0 0) [] row0 row0 42 S (fun _=>True):=Fn.start h
 obtain ⟨R0,hR⟩:∃ R0,(branchF s d (n + 1) o) = R0:=⟨_,rfl⟩
 rw [hR]
 rw [branchF] at hR
 have H:=Lib.hid h;have HN:=Lib.hid hR;have HON:=Lib.hid hon;have HFU:=Lib.hid hfu
 clear h hR hon hfu
 go_enter Tryz.func126,Tryz.ntmps126
 go_wp2_with fail
 obtain ⟨i0,hi,hz0,hz1,hz2⟩:=info_parts infoN
 have HI:=Lib.hid hi;have HZ0:=Lib.hid hz0;have HZ1:=Lib.hid hz1;have HZ2:=Lib.hid hz2
 clear hi hz0 hz1 hz2
 have hn:=HN.out
 rw [← Rs.bind_assoc] at hn
 clear HN
 have HN:=Lib.hid hn
 clear hn
 have hc:=HIH.out _ pb d o _ hd HON.out.hp (by have hfu:=HFU.out;omega)
 have hdw:Down s _ ((linesF s o).bind fun _ o=>listF s d n [] [] o):=(lines_down s (F s) o HON.out.hp.ok).bind fun _ q _ hq=>(downs_all s n).list d [] [] q hq
 have hn:=HN.out
 generalize ((linesF s o).bind fun _ o=>listF s d n [] [] o) = rX at hc hdw hn
 clear HN
 have HC:=Lib.hid hc;have HD0:=Lib.hid hdw;have HN:=Lib.hid hn
 clear hc hdw hn
 cases rX with
 | bad i er =>
  go_wp2_with fail
  refine HC.out.mono ?_
  rintro e w2 ⟨hf,rfl⟩
  have HDD:Does S pb s d w VN R0 (thrownP i er) w2:=by rw [show R0 = .bad i er from HN.out.symm];exact ⟨HON.out.fr.trans hf,rfl⟩
  clear hf
  go_wp2_with fail
  exact ⟨rfl,HDD⟩
 | ok x p1 =>
  have hm:=HD0.out _ _ rfl
  have HM3:=Lib.hid hm.1
  have hn:=HN.out
  rw [Rs.bind_ok] at hn
  clear HN HD0 hm
  have HN:=Lib.hid hn
  clear hn
  go_wp2_with fail
  refine HC.out.mono ?_
  rintro e w2 ⟨hf,⟨v,rfl,a1,c1,a2,c2,a3,c3,a4,c4,a5,c5,hv,hx⟩,hp⟩
  have hon:=HON.out.call elemN hf hp
  clear HON HC hf hp
  obtain rfl:v = .agg #[.int .i64 x.k,.string x.nm,.bool x.g,.slice a1 x.az.length c1,.slice a2 x.ws.length c2,.slice a3 x.ks.len c3,.slice a4 x.bs.length c4,.slice a5 x.cz.len c5]:=hv
  have hon:=hon.hold hx
  clear hx
  have HON:=Lib.hid hon
  clear hon
  have hc:=HBH.out _ pb d p1 _ ⟨#[116,104,101,110]⟩ (by decide) hd HON.out.hp (by have hm3:=HM3.out;have hfu:=HFU.out;omega)
  have hdw:Down s _ (behindF s d n ⟨#[116,104,101,110]⟩ p1):=((downs_all s n).behind d ⟨#[116,104,101,110]⟩ p1 (by decide) HON.out.hp.ok).to
  have hn:=HN.out
  generalize (behindF s d n ⟨#[116,104,101,110]⟩ p1) = rX at hc hdw hn
  clear HN
  have HC:=Lib.hid hc;have HD0:=Lib.hid hdw;have HN:=Lib.hid hn
  clear hc hdw hn
  cases rX with
  | bad i er =>
   go_wp2_with fail
   refine HC.out.mono ?_
   rintro e w2 ⟨hf,rfl⟩
   have HDD:Does S pb s d w VN R0 (thrownP i er) w2:=by rw [show R0 = .bad i er from HN.out.symm];exact ⟨HON.out.fr.trans hf,rfl⟩
   clear hf
   go_wp2_with fail
   exact ⟨rfl,HDD⟩
  | ok y p4 =>
   have hm:=HD0.out _ _ rfl
   have HM6:=Lib.hid hm.1
   have hn:=HN.out
   rw [Rs.bind_ok] at hn
   clear HN HD0 hm
   have HN:=Lib.hid hn
   clear hn
   go_wp2_with fail
   refine HC.out.mono ?_
   rintro e w5 ⟨hf,⟨v,rfl,a1b,c1b,a2b,c2b,a3b,c3b,a4b,c4b,a5b,c5b,hv,hx⟩,hp⟩
   have hon:=HON.out.call elemN hf hp
   clear HON HC hf hp
   obtain rfl:v = .agg #[.int .i64 y.k,.string y.nm,.bool y.g,.slice a1b y.az.length c1b,.slice a2b y.ws.length c2b,.slice a3b y.ks.len c3b,.slice a4b y.bs.length c4b,.slice a5b y.cz.len c5b]:=hv
   have hon:=hon.hold hx
   clear hx
   have HON:=Lib.hid hon
   clear hon
   have hle:=HON.out.fr.size
   have hMlt:=HON.out.hp.lt
   have hrb:=(Array.getElem?_eq_some_iff.1 HON.out.two.rr).1
   have hce:=cells2 (HON.out.held.imp fun _ h=>h.1.2) (HON.out.held.imp fun _ h=>h.2)
   have hon:=HON.out.below elemN (bel1 w5 (.cells #[.int .i64 x.k,.string x.nm,.bool x.g,.slice a1 x.az.length c1,.slice a2 x.ws.length c2,.slice a3 x.ks.len c3,.slice a4 x.bs.length c4,.slice a5 x.cz.len c5,.int .i64 y.k,.string y.nm,.bool y.g,.slice a1b y.az.length c1b,.slice a2b y.ws.length c2b,.slice a3b y.ks.len c3b,.slice a4b y.bs.length c4b,.slice a5b y.cz.len c5b] 42))
   clear HON
   have hrow:Row EN 8 42 w.heap.size _ ((w5.alloc (.cells #[.int .i64 x.k,.string x.nm,.bool x.g,.slice a1 x.az.length c1,.slice a2 x.ws.length c2,.slice a3 x.ks.len c3,.slice a4 x.bs.length c4,.slice a5 x.cz.len c5,.int .i64 y.k,.string y.nm,.bool y.g,.slice a1b y.az.length c1b,.slice a2b y.ws.length c2b,.slice a3b y.ks.len c3b,.slice a4b y.bs.length c4b,.slice a5b y.cz.len c5b] 42)).alloc (.cells #[.int .i64 6,.string ⟨#[]⟩,.bool false,.slice none 0 0,.slice none 0 0,.slice (some ⟨w5.heap.size,0,none⟩) 2 2,.slice none 0 0,.slice none 0 0] 42)) (.slice (some ⟨w5.heap.size,0,none⟩) 2 2) [x,y]:=Row.of (row:=#[.int .i64 x.k,.string x.nm,.bool x.g,.slice a1 x.az.length c1,.slice a2 x.ws.length c2,.slice a3 x.ks.len c3,.slice a4 x.bs.length c4,.slice a5 x.cz.len c5,.int .i64 y.k,.string y.nm,.bool y.g,.slice a1b y.az.length c1b,.slice a2b y.ws.length c2b,.slice a3b y.ks.len c3b,.slice a4b y.bs.length c4b,.slice a5b y.cz.len c5b]) (g:=w5.heap.size) (m:=2) hle ((Below.heap_alloc _ _ _ (by simp)).trans (heap_new' _ _)) rfl rfl (by decide) (CellsG.to elemN (Nat.le_trans (bel1 _ _).size (bel1 _ _).size) (fun b hb hlt=>((bel1 _ _).block b (Nat.lt_of_lt_of_le hlt (bel1 _ _).size)).trans ((bel1 _ _).block b hlt)) (fun _ hb _=>hb) hce) (fun hb=>by have:=hMlt _ hb;omega)
   have hon:=(hon.keep (fun _ _ _=>trivial:KS _ _ fun _=>True)).var elemN hrow (fun g hg=>⟨own_ne hg (by simp),own_ne hg (by omega)⟩)
   have esz:(w5.alloc (.cells #[.int .i64 x.k,.string x.nm,.bool x.g,.slice a1 x.az.length c1,.slice a2 x.ws.length c2,.slice a3 x.ks.len c3,.slice a4 x.bs.length c4,.slice a5 x.cz.len c5,.int .i64 y.k,.string y.nm,.bool y.g,.slice a1b y.az.length c1b,.slice a2b y.ws.length c2b,.slice a3b y.ks.len c3b,.slice a4b y.bs.length c4b,.slice a5b y.cz.len c5b] 42)).heap.size = w5.heap.size + 1:=by simp
   rw [esz] at hon
   have HNB:Hid (w5.heap.size + 1 ≠ w.heap.size):=Lib.hid (by omega)
   clear esz hle hMlt hrb hce hrow
   have HON:=Lib.hid hon
   clear hon
   have hc:=sees_row _ pb s p4 d [⟨#[101,108,115,101]⟩] _ HON.out.hp (by decide)
   try simp only [World.size_alloc,World.size_setCell] at hc
   try rw [HSZ.out] at hc
   have hn:=HN.out
   generalize (seesF [⟨#[101,108,115,101]⟩] p4) = B at hc hn
   clear HN
   have HC:=Lib.hid hc;have HN:=Lib.hid hn
   clear hc hn
   cases B
   ·have hn:=HN.out
    rw [if_neg (by decide)] at hn
    clear HN
    have HN:=Lib.hid hn
    clear hn
    go_wp2_with fail
    refine HC.out.mono ?_
    rintro e w7 ⟨rfl,hb⟩
    have hon:=HON.out.below elemN (by first | exact hb | simpa only [World.size_alloc,World.size_setCell] using hb)
    clear HON HC hb
    have HON:=Lib.hid hon
    clear hon
    have hke:seesF [⟨#[101,108,105,102]⟩] p4 = true→p4.k ≠ 4:=fun h=>sees_k HON.out.hp.ok (by decide) h
    have hc:=sees_row _ pb s p4 d [⟨#[101,108,105,102]⟩] _ HON.out.hp (by decide)
    try simp only [World.size_alloc,World.size_setCell] at hc
    try rw [HSZ.out] at hc
    have hn:=HN.out
    generalize (seesF [⟨#[101,108,105,102]⟩] p4) = B at hc hn hke
    clear HN
    have HC:=Lib.hid hc;have HN:=Lib.hid hn
    clear hc hn
    cases B
    ·have hn:=HN.out
     rw [if_neg (by decide)] at hn
     clear HN
     have HN:=Lib.hid hn
     clear hn
     go_wp2_with fail
     refine HC.out.mono ?_
     rintro e w8 ⟨rfl,hb⟩
     have hon:=HON.out.below elemN (by first | exact hb | simpa only [World.size_alloc,World.size_setCell] using hb)
     clear HON HC hb
     have HON:=Lib.hid hon
     clear hon
     clear hke
     have r0:=zc0 HON.out.two.rr;have f0:=zf 0 HON.out.two.rr;have k0:=zc0 HON.out.two.nr
     have r1:=zc1 HON.out.two.rr;have f1:=zf 1 HON.out.two.rr;have k1:=zc1 HON.out.two.nr
     have r2:=zc2 HON.out.two.rr;have f2:=zf 2 HON.out.two.rr;have k2:=zc2 HON.out.two.nr
     have r3:=zc3 HON.out.two.rr;have f3:=zf 3 HON.out.two.rr;have k3:=zc3 HON.out.two.nr
     have r4:=zc4 HON.out.two.rr;have f4:=zf 4 HON.out.two.rr;have k4:=zc4 HON.out.two.nr
     have r5:=zc5 HON.out.two.rr;have f5:=zf 5 HON.out.two.rr;have k5:=zc5 HON.out.two.nr
     have r6:=zc6 HON.out.two.rr;have f6:=zf 6 HON.out.two.rr;have k6:=zc6 HON.out.two.nr
     have r7:=zc7 HON.out.two.rr;have f7:=zf 7 HON.out.two.rr;have k7:=zc7 HON.out.two.nr
     go_wp2_with fail
     have hst:=stored_rb w8 (w.heap.size) (.int .i64 6) (.string ⟨#[]⟩) (.bool false) (.slice none 0 0) (.slice none 0 0) (.slice (some ⟨w5.heap.size,0,none⟩) 2 2) (.slice none 0 0) (.slice none 0 0) _ _ _ _ _ _ _ _ _ HON.out.two.rr
     generalize ((((((((w8.setCell ⟨w.heap.size,0,none⟩ (.int .i64 6)).setCell ⟨w.heap.size,1,none⟩ (.string ⟨#[]⟩)).setCell ⟨w.heap.size,2,none⟩ (.bool false)).setCell ⟨w.heap.size,3,none⟩ (.slice none 0 0)).setCell ⟨w.heap.size,4,none⟩ (.slice none 0 0)).setCell ⟨w.heap.size,5,none⟩ (.slice (some ⟨w5.heap.size,0,none⟩) 2 2)).setCell ⟨w.heap.size,6,none⟩ (.slice none 0 0)).setCell ⟨w.heap.size,7,none⟩ (.slice none 0 0)) = W8 at hst ⊢
     obtain ⟨hr8,hch⟩:=hst
     have x0:=Lib.cell_of_heap hr8 0
     have x1:=Lib.cell_of_heap hr8 1
     have x2:=Lib.cell_of_heap hr8 2
     have x3:=Lib.cell_of_heap hr8 3
     have x4:=Lib.cell_of_heap hr8 4
     have x5:=Lib.cell_of_heap hr8 5
     have x6:=Lib.cell_of_heap hr8 6
     have x7:=Lib.cell_of_heap hr8 7
     refine bodyPost_ret (v:=.agg #[.int .i64 6,.string ⟨#[]⟩,.bool false,.slice none 0 0,.slice none 0 0,.slice (some ⟨w5.heap.size,0,none⟩) 2 2,.slice none 0 0,.slice none 0 0]) (by simp [results,Tryz.results126,go_sem,x0,x1,x2,x3,x4,x5,x6,x7]) rfl ?_
     rw [← HN.out]
     exact HON.out.done H.out hch (VN.kidsR (HON.out.sl1 elemN (by simp only [List.length_append,List.length_cons,List.length_nil];unfold R;omega) hch))
    ·have hn:=HN.out
     rw [if_pos rfl] at hn
     clear HN
     have HN:=Lib.hid hn
     clear hn
     go_wp2_with fail
     refine HC.out.mono ?_
     rintro e w8 ⟨rfl,hb⟩
     have hon:=HON.out.below elemN (by first | exact hb | simpa only [World.size_alloc,World.size_setCell] using hb)
     clear HON HC hb
     have HON:=Lib.hid hon
     clear hon
     have HKE:=Lib.hid hke
     clear hke
     have hn:=HN.out
     rw [← enter_bind] at hn
     clear HN
     have HN:=Lib.hid hn
     clear hn
     have hent:=fun u q=>enter_ok (s:=s) (o:=p4) (q:=q) (u:=u) hd
     have hk4:=HKE.out (by first | rfl | trivial)
     have HK4:=Lib.hid hk4
     clear hk4 HKE
     have hc:=enter_any _ pb s hs p4 d hd _ HON.out.hp
     have hdw:DownS s _ (enterF s d p4):=enter_down HON.out.hp.ok HK4.out
     have hn:=HN.out
     generalize (enterF s d p4) = rX at hc hdw hn hent
     clear HN
     have HC:=Lib.hid hc;have HD0:=Lib.hid hdw;have HN:=Lib.hid hn
     clear hc hdw hn
     cases rX with
     | bad i er =>
      go_wp2_with fail
      refine HC.out.mono ?_
      rintro e w2 ⟨hf,rfl⟩
      have HDD:Does S pb s d w VN R0 (thrownP i er) w2:=by rw [show R0 = .bad i er from HN.out.symm];exact ⟨HON.out.fr.trans hf,rfl⟩
      clear hf
      go_wp2_with fail
      exact ⟨rfl,HDD⟩
     | ok u p9 =>
      have hm:=HD0.out _ _ rfl
      have HM11:=Lib.hid hm.1
      have hn:=HN.out
      rw [Rs.bind_ok] at hn
      clear HN HD0 hm
      have HN:=Lib.hid hn
      clear hn
      go_wp2_with fail
      refine HC.out.mono ?_
      rintro e w10 ⟨hf,⟨v,rfl,rfl⟩,hp⟩
      have hon:=HON.out.call elemN hf hp
      clear HON HC hf hp
      have HON:=Lib.hid hon
      clear hon
      have hd1:d + 1≤200:=hent _ _ rfl
      clear hent HK4
      go_wp2_with fail
      have hbd:Below w10.heap.size w10 w10.drew:=⟨rfl,rfl,rfl,Nat.le_refl _,fun _ _=>rfl⟩
      have hon:=HON.out.below elemN hbd
      clear HON hbd
      have HON:=Lib.hid hon
      clear hon
      have hfe:10 * mu s p9 + 7 < n:=(by have hm3:=HM3.out;have hm6:=HM6.out;have hm11:=HM11.out;have hfu:=HFU.out;omega)
      have hca:=fun M w2 (hp:PAt M w2 pb s p9 (d + 1))=>HBR.out M pb (d + 1) p9 w2 hd1 hp hfe
      have hc:=hca _ _ HON.out.hp
      have hdw:Down s _ (branchF s (d + 1) n p9):=(downs_all s n).branch (d + 1) p9 HON.out.hp.ok
      have hn:=HN.out
      generalize branchF s (d + 1) n p9 = rX at hc hdw hn hca
      clear HN
      have HC:=Lib.hid hc;have HN:=Lib.hid hn;have HCA:=Lib.hid hca
      clear hc hdw hn hca hfe
      refine RN.begins (fun w2=>w2.heap[w5.heap.size + 1]? = some (.cells #[.int .i64 6,.string ⟨#[]⟩,.bool false,.slice none 0 0,.slice none 0 0,.slice (some ⟨w5.heap.size,0,none⟩) 2 2,.slice none 0 0,.slice none 0 0] 42 (0,0))) [10] (by kernel_rfl) ?_
      generalize w10.drew = wd at HON HC ⊢
      have hS:wd.heap[w5.heap.size + 1]? = some (.cells #[.int .i64 6,.string ⟨#[]⟩,.bool false,.slice none 0 0,.slice none 0 0,.slice (some ⟨w5.heap.size,0,none⟩) 2 2,.slice none 0 0,.slice none 0 0] 42 (0,0)):=HON.out.two.nr
      refine RN.tk (i:=0) (v:=?_) rfl hS ?_ ?_
      rotate_left 1
      ·(intro wq hq;have s5:=zc5 hq;go_simp;try with_reducible rfl)
      refine RN.tk (i:=1) (v:=?_) rfl hS ?_ ?_
      rotate_left 1
      ·(intro wq hq;have s5:=zc5 hq;go_simp;try with_reducible rfl)
      refine RN.tk (i:=2) (v:=?_) rfl hS ?_ ?_
      rotate_left 1
      ·(intro wq hq;have s5:=zc5 hq;go_simp;try with_reducible rfl)
      refine RN.all (rs:=[3,5]) (by kernel_rfl) (by simp) ?_
      refine RN.All.cons rfl (fun K hK=>?_) (RN.All.cons rfl (fun K hK=>?_) RN.All.nil)
      ·go_simp
       cases rX with
       | bad i er =>
        refine HC.out.mono ?_
        rintro e w2 ⟨hf,rfl⟩
        have HDD:Does S pb s d w VN R0 (thrownP i er) w2:=by rw [show R0 = .bad i er from HN.out.symm];exact ⟨HON.out.fr.trans hf,rfl⟩
        clear hf hS
        go_wp2_with fail
        exact ⟨rfl,HDD⟩
       | ok z p12 =>
        have hn:=HN.out
        rw [Rs.bind_ok] at hn
        clear HN
        have HN:=Lib.hid hn
        clear hn
        refine HC.out.mono ?_
        rintro e wc ⟨hf,⟨v,rfl,a1z,c1z,a2z,c2z,a3z,c3z,a4z,c4z,a5z,c5z,hv,hx⟩,hp⟩
        obtain rfl:v = .agg #[.int .i64 z.k,.string z.nm,.bool z.g,.slice a1z z.az.length c1z,.slice a2z z.ws.length c2z,.slice a3z z.ks.len c3z,.slice a4z z.bs.length c4z,.slice a5z z.cz.len c5z]:=hv
        have hon:=(HON.out.call elemN hf hp).hold hx
        clear HON HC hf hp hx
        refine hK _ _ (fun _=>hon.two.nr) ?_
        clear hK K hS
        have hS:=hon.two.nr
        have HON:=Lib.hid hon
        clear hon
        refine RN.all (rs:=[4,5]) (by kernel_rfl) (by simp) ?_
        refine RN.All.cons rfl (fun K hK=>?_) (RN.All.cons rfl (fun K hK=>?_) RN.All.nil)
        ·go_simp
         have hks:=KS.row (m:=1) (row:=#[.int .i64 z.k,.string z.nm,.bool z.g,.slice a1z z.az.length c1z,.slice a2z z.ws.length c2z,.slice a3z z.ks.len c3z,.slice a4z z.bs.length c4z,.slice a5z z.cz.len c5z]) (ty:=42) elemN (cells1 (HON.out.held.imp fun _ h=>h.2)) rfl (by decide)
         have hon:=(HON.out.grow elemN (bel1 wc (.cells #[.int .i64 z.k,.string z.nm,.bool z.g,.slice a1z z.az.length c1z,.slice a2z z.ws.length c2z,.slice a3z z.ks.len c3z,.slice a4z z.bs.length c4z,.slice a5z z.cz.len c5z] 42))).hold hks
         clear HON hks
         refine hK _ _ (fun _=>hon.two.nr) ?_
         clear hK K hS
         have hS:=hon.two.nr
         have HON:=Lib.hid hon
         clear hon
         generalize wc.heap.size = bz at HON ⊢
         generalize wc.alloc (.cells #[.int .i64 z.k,.string z.nm,.bool z.g,.slice a1z z.az.length c1z,.slice a2z z.ws.length c2z,.slice a3z z.ks.len c3z,.slice a4z z.bs.length c4z,.slice a5z z.cz.len c5z] 42) = wm at HON hS ⊢
         refine RN.all (rs:=[5]) (by kernel_rfl) (by simp) ?_
         refine RN.All.cons rfl (fun K hK=>?_) RN.All.nil
         go_simp
         have hon:=(HON.out.grow elemN (bel1 wm (.cells #[.bool false] 4))).hold (KS.rowB _ wm false)
         clear HON
         refine hK _ _ (fun _=>hon.two.nr) ?_
         clear hK K hS
         have hS:=hon.two.nr
         have HON:=Lib.hid hon
         clear hon
         generalize wm.heap.size = bb at HON ⊢
         generalize wm.alloc (.cells #[.bool false] 4) = wl at HON hS ⊢
         have hon:=HON.out.keep (HON.out.held.imp fun _ h=>And.intro h.1.2 h.2)
         clear HON
         have HON:=Lib.hid hon
         clear hon
         refine RN.tk (i:=6) (v:=?_) rfl hS ?_ ?_
         rotate_left 1
         ·(intro wq hq;skip;go_simp;try with_reducible rfl)
         refine RN.all (rs:=[7]) (by kernel_rfl) (by simp) ?_
         refine RN.All.cons rfl (fun K hK=>?_) RN.All.nil
         go_simp
         have hze:EN _ wl [.int .i64 5,.string ⟨#[]⟩,.bool false,.slice none 0 0,.slice none 0 0,.slice (some ⟨bz,0,none⟩) 1 1,.slice (some ⟨bb,0,none⟩) 1 1,.slice none 0 0] (listD [z] [false]):=⟨none,0,none,0,some ⟨bz,0,none⟩,1,some ⟨bb,0,none⟩,1,none,0,rfl,HON.out.held.imp fun w2 h=>⟨R_empty,slNil 0,slNil 0,(slN h.1).1,h.2,nlNil _ 0,(slN h.1).2,rfl⟩⟩
         have hze:=elemN.tq hze (bel1 wl (.cells #[.int .i64 5,.string ⟨#[]⟩,.bool false,.slice none 0 0,.slice none 0 0,.slice (some ⟨bz,0,none⟩) 1 1,.slice (some ⟨bb,0,none⟩) 1 1,.slice none 0 0] 42)).size (fun b _ hlt=>(bel1 wl _).block b hlt) (fun _ hb _=>hb)
         have hon:=HON.out.below elemN (bel1 wl (.cells #[.int .i64 5,.string ⟨#[]⟩,.bool false,.slice none 0 0,.slice none 0 0,.slice (some ⟨bz,0,none⟩) 1 1,.slice (some ⟨bb,0,none⟩) 1 1,.slice none 0 0] 42))
         clear HON
         refine hK _ _ (fun _=>hon.two.nr) ?_
         clear hK K hS
         have hS:=hon.two.nr
         have HON:=Lib.hid hon
         clear hon
         obtain ⟨xs,hown,hcells⟩:=HON.out.two.r1.ex
         have HOWN:=Lib.hid hown;have HCE:=Lib.hid hcells;have HZE:=Lib.hid hze
         clear hown hcells hze
         have hlb:w.heap.size≤(wl.alloc (.cells #[.int .i64 5,.string ⟨#[]⟩,.bool false,.slice none 0 0,.slice none 0 0,.slice (some ⟨bz,0,none⟩) 1 1,.slice (some ⟨bb,0,none⟩) 1 1,.slice none 0 0] 42)).heap.size:=HON.out.fr.size
         simp only [World.size_alloc] at hlb
         refine RN.all (rs:=[8]) (by kernel_rfl) (by simp) ?_
         refine RN.All.cons rfl (fun K hK=>?_) RN.All.nil
         refine step_append_lies _ (by rfl) _ _ _ (by rfl) w.heap.size 42 i0 _ 8 152 Tryz.underlying38 HI.out HZ0.out HZ1.out HZ2.out rfl (by omega) (.slice (some ⟨w5.heap.size,0,none⟩) 2 2) 2 xs (by rfl) HOWN.out
          ⟨wl.heap.size,0,none⟩ 1 1 [.int .i64 5,.string ⟨#[]⟩,.bool false,.slice none 0 0,.slice none 0 0,.slice (some ⟨bz,0,none⟩) 1 1,.slice (some ⟨bb,0,none⟩) 1 1,.slice none 0 0] (by rfl) (by rfl) (World.news_of_block (cs:=#[.int .i64 5,.string ⟨#[]⟩,.bool false,.slice none 0 0,.slice none 0 0,.slice (some ⟨bz,0,none⟩) 1 1,.slice (some ⟨bb,0,none⟩) 1 1,.slice none 0 0]) (t:=42) (fr:=(0,0)) (heap_alloc_new wl _)) (by simp [Value.oneCell'])
          (by omega) (by unfold maxLen;omega) (by omega) (by simp;omega) (wl.heap.size + 1) (by simp) ?_
         intro g capn w3 hown3 hgrow hat hlt
         have hon:=HON.out.app1 elemN HCE.out HZE.out hown3 hgrow (by simpa only [World.size_alloc] using hat)
         refine hK _ _ (fun _=>hon.two.nr) ?_
         clear hK K hS
         have hS:=hon.two.nr
         clear HON HOWN HCE HZE hown3 hgrow hat hlt hlb
         have HON:=Lib.hid hon
         clear hon
         refine RN.tk (i:=9) (v:=?_) rfl hS ?_ ?_
         rotate_left 1
         ·(intro wq hq;skip;go_simp;try with_reducible rfl)
         refine RN.all (rs:=[10]) (by kernel_rfl) (by simp) ?_
         refine RN.All.cons rfl (fun K hK=>?_) RN.All.nil
         have f5:=zf 5 HON.out.two.nr
         have k5:=zc5 HON.out.two.nr
         go_simp
         refine hK _ _ (fun h=>absurd h (by decide)) ?_
         clear hK K hS f5 k5
         refine RN.done (by kernel_rfl) ?_ _
         have hon:=HON.out.store elemN HNB.out 5 (.slice (some ⟨g,0,none⟩) 3 capn)
         clear HON
         have HON:=Lib.hid hon
         clear hon
         generalize w3.setCell ⟨w5.heap.size + 1,5,none⟩ (.slice (some ⟨g,0,none⟩) 3 capn) = wv at HON ⊢
         have hc:=leave_does _ pb s p12 d hd _ HON.out.hp
         have HC:=Lib.hid hc
         clear hc
         go_wp2_with fail
         refine HC.out.mono ?_
         rintro e w9 ⟨hf,⟨v,rfl,rfl⟩,hp⟩
         have hon:=HON.out.call elemN hf hp
         clear HON HC hf hp
         have HON:=Lib.hid hon
         clear hon
         have r0:=zc0 HON.out.two.rr;have f0:=zf 0 HON.out.two.rr;have k0:=zc0 HON.out.two.nr
         have r1:=zc1 HON.out.two.rr;have f1:=zf 1 HON.out.two.rr;have k1:=zc1 HON.out.two.nr
         have r2:=zc2 HON.out.two.rr;have f2:=zf 2 HON.out.two.rr;have k2:=zc2 HON.out.two.nr
         have r3:=zc3 HON.out.two.rr;have f3:=zf 3 HON.out.two.rr;have k3:=zc3 HON.out.two.nr
         have r4:=zc4 HON.out.two.rr;have f4:=zf 4 HON.out.two.rr;have k4:=zc4 HON.out.two.nr
         have r5:=zc5 HON.out.two.rr;have f5:=zf 5 HON.out.two.rr;have k5:=zc5 HON.out.two.nr
         have r6:=zc6 HON.out.two.rr;have f6:=zf 6 HON.out.two.rr;have k6:=zc6 HON.out.two.nr
         have r7:=zc7 HON.out.two.rr;have f7:=zf 7 HON.out.two.rr;have k7:=zc7 HON.out.two.nr
         go_wp2_with fail
         have hst:=stored_rb w9 (w.heap.size) (.int .i64 6) (.string ⟨#[]⟩) (.bool false) (.slice none 0 0) (.slice none 0 0) (.slice (some ⟨g,0,none⟩) 3 capn) (.slice none 0 0) (.slice none 0 0) _ _ _ _ _ _ _ _ _ HON.out.two.rr
         generalize ((((((((w9.setCell ⟨w.heap.size,0,none⟩ (.int .i64 6)).setCell ⟨w.heap.size,1,none⟩ (.string ⟨#[]⟩)).setCell ⟨w.heap.size,2,none⟩ (.bool false)).setCell ⟨w.heap.size,3,none⟩ (.slice none 0 0)).setCell ⟨w.heap.size,4,none⟩ (.slice none 0 0)).setCell ⟨w.heap.size,5,none⟩ (.slice (some ⟨g,0,none⟩) 3 capn)).setCell ⟨w.heap.size,6,none⟩ (.slice none 0 0)).setCell ⟨w.heap.size,7,none⟩ (.slice none 0 0)) = W8 at hst ⊢
         obtain ⟨hr8,hch⟩:=hst
         have x0:=Lib.cell_of_heap hr8 0
         have x1:=Lib.cell_of_heap hr8 1
         have x2:=Lib.cell_of_heap hr8 2
         have x3:=Lib.cell_of_heap hr8 3
         have x4:=Lib.cell_of_heap hr8 4
         have x5:=Lib.cell_of_heap hr8 5
         have x6:=Lib.cell_of_heap hr8 6
         have x7:=Lib.cell_of_heap hr8 7
         refine bodyPost_ret (v:=.agg #[.int .i64 6,.string ⟨#[]⟩,.bool false,.slice none 0 0,.slice none 0 0,.slice (some ⟨g,0,none⟩) 3 capn,.slice none 0 0,.slice none 0 0]) (by simp [results,Tryz.results126,go_sem,x0,x1,x2,x3,x4,x5,x6,x7]) rfl ?_
         rw [← HN.out]
         exact HON.out.done H.out hch (VN.kidsR (HON.out.sl1 elemN (by simp only [List.length_append,List.length_cons,List.length_nil];unfold R;omega) hch))
        ·go_simp
         have hon:=(HON.out.grow elemN (bel1 wc (.cells #[.bool false] 4))).hold (KS.rowB _ wc false)
         clear HON
         refine hK _ _ (fun _=>hon.two.nr) ?_
         clear hK K hS
         have hS:=hon.two.nr
         have HON:=Lib.hid hon
         clear hon
         generalize wc.heap.size = bb at HON ⊢
         generalize wc.alloc (.cells #[.bool false] 4) = wm at HON hS ⊢
         refine RN.all (rs:=[4]) (by kernel_rfl) (by simp) ?_
         refine RN.All.cons rfl (fun K hK=>?_) RN.All.nil
         go_simp
         have hks:=KS.row (m:=1) (row:=#[.int .i64 z.k,.string z.nm,.bool z.g,.slice a1z z.az.length c1z,.slice a2z z.ws.length c2z,.slice a3z z.ks.len c3z,.slice a4z z.bs.length c4z,.slice a5z z.cz.len c5z]) (ty:=42) elemN (cells1 (HON.out.held.imp fun _ h=>h.1.2)) rfl (by decide)
         have hon:=(HON.out.grow elemN (bel1 wm (.cells #[.int .i64 z.k,.string z.nm,.bool z.g,.slice a1z z.az.length c1z,.slice a2z z.ws.length c2z,.slice a3z z.ks.len c3z,.slice a4z z.bs.length c4z,.slice a5z z.cz.len c5z] 42))).hold hks
         clear HON hks
         refine hK _ _ (fun _=>hon.two.nr) ?_
         clear hK K hS
         have hS:=hon.two.nr
         have HON:=Lib.hid hon
         clear hon
         generalize wm.heap.size = bz at HON ⊢
         generalize wm.alloc (.cells #[.int .i64 z.k,.string z.nm,.bool z.g,.slice a1z z.az.length c1z,.slice a2z z.ws.length c2z,.slice a3z z.ks.len c3z,.slice a4z z.bs.length c4z,.slice a5z z.cz.len c5z] 42) = wl at HON hS ⊢
         have hon:=HON.out.keep (HON.out.held.imp fun _ h=>And.intro h.2 h.1.2)
         clear HON
         have HON:=Lib.hid hon
         clear hon
         refine RN.tk (i:=6) (v:=?_) rfl hS ?_ ?_
         rotate_left 1
         ·(intro wq hq;skip;go_simp;try with_reducible rfl)
         refine RN.all (rs:=[7]) (by kernel_rfl) (by simp) ?_
         refine RN.All.cons rfl (fun K hK=>?_) RN.All.nil
         go_simp
         have hze:EN _ wl [.int .i64 5,.string ⟨#[]⟩,.bool false,.slice none 0 0,.slice none 0 0,.slice (some ⟨bz,0,none⟩) 1 1,.slice (some ⟨bb,0,none⟩) 1 1,.slice none 0 0] (listD [z] [false]):=⟨none,0,none,0,some ⟨bz,0,none⟩,1,some ⟨bb,0,none⟩,1,none,0,rfl,HON.out.held.imp fun w2 h=>⟨R_empty,slNil 0,slNil 0,(slN h.1).1,h.2,nlNil _ 0,(slN h.1).2,rfl⟩⟩
         have hze:=elemN.tq hze (bel1 wl (.cells #[.int .i64 5,.string ⟨#[]⟩,.bool false,.slice none 0 0,.slice none 0 0,.slice (some ⟨bz,0,none⟩) 1 1,.slice (some ⟨bb,0,none⟩) 1 1,.slice none 0 0] 42)).size (fun b _ hlt=>(bel1 wl _).block b hlt) (fun _ hb _=>hb)
         have hon:=HON.out.below elemN (bel1 wl (.cells #[.int .i64 5,.string ⟨#[]⟩,.bool false,.slice none 0 0,.slice none 0 0,.slice (some ⟨bz,0,none⟩) 1 1,.slice (some ⟨bb,0,none⟩) 1 1,.slice none 0 0] 42))
         clear HON
         refine hK _ _ (fun _=>hon.two.nr) ?_
         clear hK K hS
         have hS:=hon.two.nr
         have HON:=Lib.hid hon
         clear hon
         obtain ⟨xs,hown,hcells⟩:=HON.out.two.r1.ex
         have HOWN:=Lib.hid hown;have HCE:=Lib.hid hcells;have HZE:=Lib.hid hze
         clear hown hcells hze
         have hlb:w.heap.size≤(wl.alloc (.cells #[.int .i64 5,.string ⟨#[]⟩,.bool false,.slice none 0 0,.slice none 0 0,.slice (some ⟨bz,0,none⟩) 1 1,.slice (some ⟨bb,0,none⟩) 1 1,.slice none 0 0] 42)).heap.size:=HON.out.fr.size
         simp only [World.size_alloc] at hlb
         refine RN.all (rs:=[8]) (by kernel_rfl) (by simp) ?_
         refine RN.All.cons rfl (fun K hK=>?_) RN.All.nil
         refine step_append_lies _ (by rfl) _ _ _ (by rfl) w.heap.size 42 i0 _ 8 152 Tryz.underlying38 HI.out HZ0.out HZ1.out HZ2.out rfl (by omega) (.slice (some ⟨w5.heap.size,0,none⟩) 2 2) 2 xs (by rfl) HOWN.out
          ⟨wl.heap.size,0,none⟩ 1 1 [.int .i64 5,.string ⟨#[]⟩,.bool false,.slice none 0 0,.slice none 0 0,.slice (some ⟨bz,0,none⟩) 1 1,.slice (some ⟨bb,0,none⟩) 1 1,.slice none 0 0] (by rfl) (by rfl) (World.news_of_block (cs:=#[.int .i64 5,.string ⟨#[]⟩,.bool false,.slice none 0 0,.slice none 0 0,.slice (some ⟨bz,0,none⟩) 1 1,.slice (some ⟨bb,0,none⟩) 1 1,.slice none 0 0]) (t:=42) (fr:=(0,0)) (heap_alloc_new wl _)) (by simp [Value.oneCell'])
          (by omega) (by unfold maxLen;omega) (by omega) (by simp;omega) (wl.heap.size + 1) (by simp) ?_
         intro g capn w3 hown3 hgrow hat hlt
         have hon:=HON.out.app1 elemN HCE.out HZE.out hown3 hgrow (by simpa only [World.size_alloc] using hat)
         refine hK _ _ (fun _=>hon.two.nr) ?_
         clear hK K hS
         have hS:=hon.two.nr
         clear HON HOWN HCE HZE hown3 hgrow hat hlt hlb
         have HON:=Lib.hid hon
         clear hon
         refine RN.tk (i:=9) (v:=?_) rfl hS ?_ ?_
         rotate_left 1
         ·(intro wq hq;skip;go_simp;try with_reducible rfl)
         refine RN.all (rs:=[10]) (by kernel_rfl) (by simp) ?_
         refine RN.All.cons rfl (fun K hK=>?_) RN.All.nil
         have f5:=zf 5 HON.out.two.nr
         have k5:=zc5 HON.out.two.nr
         go_simp
         refine hK _ _ (fun h=>absurd h (by decide)) ?_
         clear hK K hS f5 k5
         refine RN.done (by kernel_rfl) ?_ _
         have hon:=HON.out.store elemN HNB.out 5 (.slice (some ⟨g,0,none⟩) 3 capn)
         clear HON
         have HON:=Lib.hid hon
         clear hon
         generalize w3.setCell ⟨w5.heap.size + 1,5,none⟩ (.slice (some ⟨g,0,none⟩) 3 capn) = wv at HON ⊢
         have hc:=leave_does _ pb s p12 d hd _ HON.out.hp
         have HC:=Lib.hid hc
         clear hc
         go_wp2_with fail
         refine HC.out.mono ?_
         rintro e w9 ⟨hf,⟨v,rfl,rfl⟩,hp⟩
         have hon:=HON.out.call elemN hf hp
         clear HON HC hf hp
         have HON:=Lib.hid hon
         clear hon
         have r0:=zc0 HON.out.two.rr;have f0:=zf 0 HON.out.two.rr;have k0:=zc0 HON.out.two.nr
         have r1:=zc1 HON.out.two.rr;have f1:=zf 1 HON.out.two.rr;have k1:=zc1 HON.out.two.nr
         have r2:=zc2 HON.out.two.rr;have f2:=zf 2 HON.out.two.rr;have k2:=zc2 HON.out.two.nr
         have r3:=zc3 HON.out.two.rr;have f3:=zf 3 HON.out.two.rr;have k3:=zc3 HON.out.two.nr
         have r4:=zc4 HON.out.two.rr;have f4:=zf 4 HON.out.two.rr;have k4:=zc4 HON.out.two.nr
         have r5:=zc5 HON.out.two.rr;have f5:=zf 5 HON.out.two.rr;have k5:=zc5 HON.out.two.nr
         have r6:=zc6 HON.out.two.rr;have f6:=zf 6 HON.out.two.rr;have k6:=zc6 HON.out.two.nr
         have r7:=zc7 HON.out.two.rr;have f7:=zf 7 HON.out.two.rr;have k7:=zc7 HON.out.two.nr
         go_wp2_with fail
         have hst:=stored_rb w9 (w.heap.size) (.int .i64 6) (.string ⟨#[]⟩) (.bool false) (.slice none 0 0) (.slice none 0 0) (.slice (some ⟨g,0,none⟩) 3 capn) (.slice none 0 0) (.slice none 0 0) _ _ _ _ _ _ _ _ _ HON.out.two.rr
         generalize ((((((((w9.setCell ⟨w.heap.size,0,none⟩ (.int .i64 6)).setCell ⟨w.heap.size,1,none⟩ (.string ⟨#[]⟩)).setCell ⟨w.heap.size,2,none⟩ (.bool false)).setCell ⟨w.heap.size,3,none⟩ (.slice none 0 0)).setCell ⟨w.heap.size,4,none⟩ (.slice none 0 0)).setCell ⟨w.heap.size,5,none⟩ (.slice (some ⟨g,0,none⟩) 3 capn)).setCell ⟨w.heap.size,6,none⟩ (.slice none 0 0)).setCell ⟨w.heap.size,7,none⟩ (.slice none 0 0)) = W8 at hst ⊢
         obtain ⟨hr8,hch⟩:=hst
         have x0:=Lib.cell_of_heap hr8 0
         have x1:=Lib.cell_of_heap hr8 1
         have x2:=Lib.cell_of_heap hr8 2
         have x3:=Lib.cell_of_heap hr8 3
         have x4:=Lib.cell_of_heap hr8 4
         have x5:=Lib.cell_of_heap hr8 5
         have x6:=Lib.cell_of_heap hr8 6
         have x7:=Lib.cell_of_heap hr8 7
         refine bodyPost_ret (v:=.agg #[.int .i64 6,.string ⟨#[]⟩,.bool false,.slice none 0 0,.slice none 0 0,.slice (some ⟨g,0,none⟩) 3 capn,.slice none 0 0,.slice none 0 0]) (by simp [results,Tryz.results126,go_sem,x0,x1,x2,x3,x4,x5,x6,x7]) rfl ?_
         rw [← HN.out]
         exact HON.out.done H.out hch (VN.kidsR (HON.out.sl1 elemN (by simp only [List.length_append,List.length_cons,List.length_nil];unfold R;omega) hch))
      ·go_simp
       have hon:=(HON.out.grow elemN (bel1 wd (.cells #[.bool false] 4))).hold (KS.rowB _ wd false)
       clear HON
       refine hK _ _ (fun _=>hon.two.nr) ?_
       clear hK K hS
       have hS:=hon.two.nr
       have HON:=Lib.hid hon
       clear hon
       generalize wd.heap.size = bb at HON ⊢
       generalize wd.alloc (.cells #[.bool false] 4) = we at HON hS ⊢
       clear HC
       skip
       refine RN.all (rs:=[3]) (by kernel_rfl) (by simp) ?_
       refine RN.All.cons rfl (fun K hK=>?_) RN.All.nil
       go_simp
       have HC:=Lib.hid (HCA.out _ _ HON.out.hp)
       cases rX with
       | bad i er =>
        refine HC.out.mono ?_
        rintro e w2 ⟨hf,rfl⟩
        have HDD:Does S pb s d w VN R0 (thrownP i er) w2:=by rw [show R0 = .bad i er from HN.out.symm];exact ⟨HON.out.fr.trans hf,rfl⟩
        clear hf hS
        go_wp2_with fail
        exact ⟨rfl,HDD⟩
       | ok z p12 =>
        have hn:=HN.out
        rw [Rs.bind_ok] at hn
        clear HN
        have HN:=Lib.hid hn
        clear hn
        refine HC.out.mono ?_
        rintro e wc ⟨hf,⟨v,rfl,a1z,c1z,a2z,c2z,a3z,c3z,a4z,c4z,a5z,c5z,hv,hx⟩,hp⟩
        obtain rfl:v = .agg #[.int .i64 z.k,.string z.nm,.bool z.g,.slice a1z z.az.length c1z,.slice a2z z.ws.length c2z,.slice a3z z.ks.len c3z,.slice a4z z.bs.length c4z,.slice a5z z.cz.len c5z]:=hv
        have hon:=(HON.out.call elemN hf hp).hold hx
        clear HON HC hf hp hx
        refine hK _ _ (fun _=>hon.two.nr) ?_
        clear hK K hS
        have hS:=hon.two.nr
        have HON:=Lib.hid hon
        clear hon
        refine RN.all (rs:=[4]) (by kernel_rfl) (by simp) ?_
        refine RN.All.cons rfl (fun K hK=>?_) RN.All.nil
        go_simp
        have hks:=KS.row (m:=1) (row:=#[.int .i64 z.k,.string z.nm,.bool z.g,.slice a1z z.az.length c1z,.slice a2z z.ws.length c2z,.slice a3z z.ks.len c3z,.slice a4z z.bs.length c4z,.slice a5z z.cz.len c5z]) (ty:=42) elemN (cells1 (HON.out.held.imp fun _ h=>h.2)) rfl (by decide)
        have hon:=(HON.out.grow elemN (bel1 wc (.cells #[.int .i64 z.k,.string z.nm,.bool z.g,.slice a1z z.az.length c1z,.slice a2z z.ws.length c2z,.slice a3z z.ks.len c3z,.slice a4z z.bs.length c4z,.slice a5z z.cz.len c5z] 42))).hold hks
        clear HON hks
        refine hK _ _ (fun _=>hon.two.nr) ?_
        clear hK K hS
        have hS:=hon.two.nr
        have HON:=Lib.hid hon
        clear hon
        generalize wc.heap.size = bz at HON ⊢
        generalize wc.alloc (.cells #[.int .i64 z.k,.string z.nm,.bool z.g,.slice a1z z.az.length c1z,.slice a2z z.ws.length c2z,.slice a3z z.ks.len c3z,.slice a4z z.bs.length c4z,.slice a5z z.cz.len c5z] 42) = wl at HON hS ⊢
        have hon:=HON.out.keep (HON.out.held.imp fun _ h=>And.intro h.2 h.1.1.2)
        clear HON
        have HON:=Lib.hid hon
        clear hon
        refine RN.tk (i:=6) (v:=?_) rfl hS ?_ ?_
        rotate_left 1
        ·(intro wq hq;skip;go_simp;try with_reducible rfl)
        refine RN.all (rs:=[7]) (by kernel_rfl) (by simp) ?_
        refine RN.All.cons rfl (fun K hK=>?_) RN.All.nil
        go_simp
        have hze:EN _ wl [.int .i64 5,.string ⟨#[]⟩,.bool false,.slice none 0 0,.slice none 0 0,.slice (some ⟨bz,0,none⟩) 1 1,.slice (some ⟨bb,0,none⟩) 1 1,.slice none 0 0] (listD [z] [false]):=⟨none,0,none,0,some ⟨bz,0,none⟩,1,some ⟨bb,0,none⟩,1,none,0,rfl,HON.out.held.imp fun w2 h=>⟨R_empty,slNil 0,slNil 0,(slN h.1).1,h.2,nlNil _ 0,(slN h.1).2,rfl⟩⟩
        have hze:=elemN.tq hze (bel1 wl (.cells #[.int .i64 5,.string ⟨#[]⟩,.bool false,.slice none 0 0,.slice none 0 0,.slice (some ⟨bz,0,none⟩) 1 1,.slice (some ⟨bb,0,none⟩) 1 1,.slice none 0 0] 42)).size (fun b _ hlt=>(bel1 wl _).block b hlt) (fun _ hb _=>hb)
        have hon:=HON.out.below elemN (bel1 wl (.cells #[.int .i64 5,.string ⟨#[]⟩,.bool false,.slice none 0 0,.slice none 0 0,.slice (some ⟨bz,0,none⟩) 1 1,.slice (some ⟨bb,0,none⟩) 1 1,.slice none 0 0] 42))
        clear HON
        refine hK _ _ (fun _=>hon.two.nr) ?_
        clear hK K hS
        have hS:=hon.two.nr
        have HON:=Lib.hid hon
        clear hon
        obtain ⟨xs,hown,hcells⟩:=HON.out.two.r1.ex
        have HOWN:=Lib.hid hown;have HCE:=Lib.hid hcells;have HZE:=Lib.hid hze
        clear hown hcells hze
        have hlb:w.heap.size≤(wl.alloc (.cells #[.int .i64 5,.string ⟨#[]⟩,.bool false,.slice none 0 0,.slice none 0 0,.slice (some ⟨bz,0,none⟩) 1 1,.slice (some ⟨bb,0,none⟩) 1 1,.slice none 0 0] 42)).heap.size:=HON.out.fr.size
        simp only [World.size_alloc] at hlb
        refine RN.all (rs:=[8]) (by kernel_rfl) (by simp) ?_
        refine RN.All.cons rfl (fun K hK=>?_) RN.All.nil
        refine step_append_lies _ (by rfl) _ _ _ (by rfl) w.heap.size 42 i0 _ 8 152 Tryz.underlying38 HI.out HZ0.out HZ1.out HZ2.out rfl (by omega) (.slice (some ⟨w5.heap.size,0,none⟩) 2 2) 2 xs (by rfl) HOWN.out
         ⟨wl.heap.size,0,none⟩ 1 1 [.int .i64 5,.string ⟨#[]⟩,.bool false,.slice none 0 0,.slice none 0 0,.slice (some ⟨bz,0,none⟩) 1 1,.slice (some ⟨bb,0,none⟩) 1 1,.slice none 0 0] (by rfl) (by rfl) (World.news_of_block (cs:=#[.int .i64 5,.string ⟨#[]⟩,.bool false,.slice none 0 0,.slice none 0 0,.slice (some ⟨bz,0,none⟩) 1 1,.slice (some ⟨bb,0,none⟩) 1 1,.slice none 0 0]) (t:=42) (fr:=(0,0)) (heap_alloc_new wl _)) (by simp [Value.oneCell'])
         (by omega) (by unfold maxLen;omega) (by omega) (by simp;omega) (wl.heap.size + 1) (by simp) ?_
        intro g capn w3 hown3 hgrow hat hlt
        have hon:=HON.out.app1 elemN HCE.out HZE.out hown3 hgrow (by simpa only [World.size_alloc] using hat)
        refine hK _ _ (fun _=>hon.two.nr) ?_
        clear hK K hS
        have hS:=hon.two.nr
        clear HON HOWN HCE HZE hown3 hgrow hat hlt hlb
        have HON:=Lib.hid hon
        clear hon
        refine RN.tk (i:=9) (v:=?_) rfl hS ?_ ?_
        rotate_left 1
        ·(intro wq hq;skip;go_simp;try with_reducible rfl)
        refine RN.all (rs:=[10]) (by kernel_rfl) (by simp) ?_
        refine RN.All.cons rfl (fun K hK=>?_) RN.All.nil
        have f5:=zf 5 HON.out.two.nr
        have k5:=zc5 HON.out.two.nr
        go_simp
        refine hK _ _ (fun h=>absurd h (by decide)) ?_
        clear hK K hS f5 k5
        refine RN.done (by kernel_rfl) ?_ _
        have hon:=HON.out.store elemN HNB.out 5 (.slice (some ⟨g,0,none⟩) 3 capn)
        clear HON
        have HON:=Lib.hid hon
        clear hon
        generalize w3.setCell ⟨w5.heap.size + 1,5,none⟩ (.slice (some ⟨g,0,none⟩) 3 capn) = wv at HON ⊢
        have hc:=leave_does _ pb s p12 d hd _ HON.out.hp
        have HC:=Lib.hid hc
        clear hc
        go_wp2_with fail
        refine HC.out.mono ?_
        rintro e w9 ⟨hf,⟨v,rfl,rfl⟩,hp⟩
        have hon:=HON.out.call elemN hf hp
        clear HON HC hf hp
        have HON:=Lib.hid hon
        clear hon
        have r0:=zc0 HON.out.two.rr;have f0:=zf 0 HON.out.two.rr;have k0:=zc0 HON.out.two.nr
        have r1:=zc1 HON.out.two.rr;have f1:=zf 1 HON.out.two.rr;have k1:=zc1 HON.out.two.nr
        have r2:=zc2 HON.out.two.rr;have f2:=zf 2 HON.out.two.rr;have k2:=zc2 HON.out.two.nr
        have r3:=zc3 HON.out.two.rr;have f3:=zf 3 HON.out.two.rr;have k3:=zc3 HON.out.two.nr
        have r4:=zc4 HON.out.two.rr;have f4:=zf 4 HON.out.two.rr;have k4:=zc4 HON.out.two.nr
        have r5:=zc5 HON.out.two.rr;have f5:=zf 5 HON.out.two.rr;have k5:=zc5 HON.out.two.nr
        have r6:=zc6 HON.out.two.rr;have f6:=zf 6 HON.out.two.rr;have k6:=zc6 HON.out.two.nr
        have r7:=zc7 HON.out.two.rr;have f7:=zf 7 HON.out.two.rr;have k7:=zc7 HON.out.two.nr
        go_wp2_with fail
        have hst:=stored_rb w9 (w.heap.size) (.int .i64 6) (.string ⟨#[]⟩) (.bool false) (.slice none 0 0) (.slice none 0 0) (.slice (some ⟨g,0,none⟩) 3 capn) (.slice none 0 0) (.slice none 0 0) _ _ _ _ _ _ _ _ _ HON.out.two.rr
        generalize ((((((((w9.setCell ⟨w.heap.size,0,none⟩ (.int .i64 6)).setCell ⟨w.heap.size,1,none⟩ (.string ⟨#[]⟩)).setCell ⟨w.heap.size,2,none⟩ (.bool false)).setCell ⟨w.heap.size,3,none⟩ (.slice none 0 0)).setCell ⟨w.heap.size,4,none⟩ (.slice none 0 0)).setCell ⟨w.heap.size,5,none⟩ (.slice (some ⟨g,0,none⟩) 3 capn)).setCell ⟨w.heap.size,6,none⟩ (.slice none 0 0)).setCell ⟨w.heap.size,7,none⟩ (.slice none 0 0)) = W8 at hst ⊢
        obtain ⟨hr8,hch⟩:=hst
        have x0:=Lib.cell_of_heap hr8 0
        have x1:=Lib.cell_of_heap hr8 1
        have x2:=Lib.cell_of_heap hr8 2
        have x3:=Lib.cell_of_heap hr8 3
        have x4:=Lib.cell_of_heap hr8 4
        have x5:=Lib.cell_of_heap hr8 5
        have x6:=Lib.cell_of_heap hr8 6
        have x7:=Lib.cell_of_heap hr8 7
        refine bodyPost_ret (v:=.agg #[.int .i64 6,.string ⟨#[]⟩,.bool false,.slice none 0 0,.slice none 0 0,.slice (some ⟨g,0,none⟩) 3 capn,.slice none 0 0,.slice none 0 0]) (by simp [results,Tryz.results126,go_sem,x0,x1,x2,x3,x4,x5,x6,x7]) rfl ?_
        rw [← HN.out]
        exact HON.out.done H.out hch (VN.kidsR (HON.out.sl1 elemN (by simp only [List.length_append,List.length_cons,List.length_nil];unfold R;omega) hch))
   ·have hn:=HN.out
    rw [if_pos rfl] at hn
    clear HN
    have HN:=Lib.hid hn
    clear hn
    go_wp2_with fail
    refine HC.out.mono ?_
    rintro e w7 ⟨rfl,hb⟩
    have hon:=HON.out.below elemN (by first | exact hb | simpa only [World.size_alloc,World.size_setCell] using hb)
    clear HON HC hb
    have HON:=Lib.hid hon
    clear hon
    go_wp2_with fail
    have hbd:Below w7.heap.size w7 w7.drew:=⟨rfl,rfl,rfl,Nat.le_refl _,fun _ _=>rfl⟩
    have hon:=HON.out.below elemN hbd
    clear HON hbd
    have HON:=Lib.hid hon
    clear hon
    have hc:=HBH.out _ pb d p4 _ ⟨#[101,108,115,101]⟩ (by decide) hd HON.out.hp (by have hm3:=HM3.out;have hm6:=HM6.out;have hfu:=HFU.out;omega)
    have hdw:Down s _ (behindF s d n ⟨#[101,108,115,101]⟩ p4):=((downs_all s n).behind d ⟨#[101,108,115,101]⟩ p4 (by decide) HON.out.hp.ok).to
    have hn:=HN.out
    generalize behindF s d n ⟨#[101,108,115,101]⟩ p4 = rX at hc hdw hn
    clear HN
    have HC:=Lib.hid hc;have HD0:=Lib.hid hdw;have HN:=Lib.hid hn
    clear hc hdw hn
    refine RN.begins (fun w2=>w2.heap[w5.heap.size + 1]? = some (.cells #[.int .i64 6,.string ⟨#[]⟩,.bool false,.slice none 0 0,.slice none 0 0,.slice (some ⟨w5.heap.size,0,none⟩) 2 2,.slice none 0 0,.slice none 0 0] 42 (0,0))) [7] (by kernel_rfl) ?_
    generalize w7.drew = wd at HON HC ⊢
    have hS:wd.heap[w5.heap.size + 1]? = some (.cells #[.int .i64 6,.string ⟨#[]⟩,.bool false,.slice none 0 0,.slice none 0 0,.slice (some ⟨w5.heap.size,0,none⟩) 2 2,.slice none 0 0,.slice none 0 0] 42 (0,0)):=HON.out.two.nr
    refine RN.tk (i:=0) (v:=?_) rfl hS ?_ ?_
    rotate_left 1
    ·(intro wq hq;have s5:=zc5 hq;go_simp;try with_reducible rfl)
    refine RN.tk (i:=1) (v:=?_) rfl hS ?_ ?_
    rotate_left 1
    ·(intro wq hq;have s5:=zc5 hq;go_simp;try with_reducible rfl)
    refine RN.tk (i:=2) (v:=?_) rfl hS ?_ ?_
    rotate_left 1
    ·(intro wq hq;have s5:=zc5 hq;go_simp;try with_reducible rfl)
    refine RN.all (rs:=[3]) (by kernel_rfl) (by simp) ?_
    refine RN.All.cons rfl (fun K hK=>?_) RN.All.nil
    go_simp
    cases rX with
    | bad i er =>
     refine HC.out.mono ?_
     rintro e w2 ⟨hf,rfl⟩
     have HDD:Does S pb s d w VN R0 (thrownP i er) w2:=by rw [show R0 = .bad i er from HN.out.symm];exact ⟨HON.out.fr.trans hf,rfl⟩
     clear hf hS
     go_wp2_with fail
     exact ⟨rfl,HDD⟩
    | ok z p13 =>
     have hn:=HN.out
     rw [Rs.bind_ok] at hn
     clear HN HD0
     have HN:=Lib.hid hn
     clear hn
     refine HC.out.mono ?_
     rintro e w6 ⟨hf,⟨v,rfl,a1z,c1z,a2z,c2z,a3z,c3z,a4z,c4z,a5z,c5z,hv,hx⟩,hp⟩
     obtain rfl:v = .agg #[.int .i64 z.k,.string z.nm,.bool z.g,.slice a1z z.az.length c1z,.slice a2z z.ws.length c2z,.slice a3z z.ks.len c3z,.slice a4z z.bs.length c4z,.slice a5z z.cz.len c5z]:=hv
     have hon:=(HON.out.call elemN hf hp).hold hx
     clear HON HC hf hp hx
     refine hK _ _ (fun _=>hon.two.nr) ?_
     clear hK K hS
     have hS:=hon.two.nr
     have HON:=Lib.hid hon
     clear hon
     refine RN.all (rs:=[4]) (by kernel_rfl) (by simp) ?_
     refine RN.All.cons rfl (fun K hK=>?_) RN.All.nil
     go_simp
     have hon:=HON.out.below elemN (bel1 w6 (.cells #[.int .i64 z.k,.string z.nm,.bool z.g,.slice a1z z.az.length c1z,.slice a2z z.ws.length c2z,.slice a3z z.ks.len c3z,.slice a4z z.bs.length c4z,.slice a5z z.cz.len c5z] 42))
     clear HON
     refine hK _ _ (fun _=>hon.two.nr) ?_
     clear hK K hS
     have hS:=hon.two.nr
     have HON:=Lib.hid hon
     clear hon
     have hze:=EN.ks (x:=z) (HON.out.held.imp fun _ h=>h.2)
     obtain ⟨xs,hown,hcells⟩:=HON.out.two.r1.ex
     have HOWN:=Lib.hid hown;have HCE:=Lib.hid hcells;have HZE:=Lib.hid hze
     clear hown hcells hze
     have hlb:w.heap.size≤(w6.alloc (.cells #[.int .i64 z.k,.string z.nm,.bool z.g,.slice a1z z.az.length c1z,.slice a2z z.ws.length c2z,.slice a3z z.ks.len c3z,.slice a4z z.bs.length c4z,.slice a5z z.cz.len c5z] 42)).heap.size:=HON.out.fr.size
     simp only [World.size_alloc] at hlb
     refine RN.all (rs:=[5]) (by kernel_rfl) (by simp) ?_
     refine RN.All.cons rfl (fun K hK=>?_) RN.All.nil
     refine step_append_lies _ (by rfl) _ _ _ (by rfl) w.heap.size 42 i0 _ 8 152 Tryz.underlying38 HI.out HZ0.out HZ1.out HZ2.out rfl (by omega) (.slice (some ⟨w5.heap.size,0,none⟩) 2 2) 2 xs (by rfl) HOWN.out
      ⟨w6.heap.size,0,none⟩ 1 1 [.int .i64 z.k,.string z.nm,.bool z.g,.slice a1z z.az.length c1z,.slice a2z z.ws.length c2z,.slice a3z z.ks.len c3z,.slice a4z z.bs.length c4z,.slice a5z z.cz.len c5z] (by rfl) (by rfl) (World.news_of_block (cs:=#[.int .i64 z.k,.string z.nm,.bool z.g,.slice a1z z.az.length c1z,.slice a2z z.ws.length c2z,.slice a3z z.ks.len c3z,.slice a4z z.bs.length c4z,.slice a5z z.cz.len c5z]) (t:=42) (fr:=(0,0)) (heap_alloc_new w6 _)) (by simp [Value.oneCell'])
      (by omega) (by unfold maxLen;omega) (by omega) (by simp;omega) (w6.heap.size + 1) (by simp) ?_
     intro g capn w3 hown3 hgrow hat hlt
     have hon:=HON.out.app1 elemN HCE.out HZE.out hown3 hgrow (by simpa only [World.size_alloc] using hat)
     refine hK _ _ (fun _=>hon.two.nr) ?_
     clear hK K hS
     have hS:=hon.two.nr
     clear HON HOWN HCE HZE hown3 hgrow hat hlt hlb
     have HON:=Lib.hid hon
     clear hon
     refine RN.tk (i:=6) (v:=?_) rfl hS ?_ ?_
     rotate_left 1
     ·(intro wq hq;skip;go_simp;try with_reducible rfl)
     refine RN.all (rs:=[7]) (by kernel_rfl) (by simp) ?_
     refine RN.All.cons rfl (fun K hK=>?_) RN.All.nil
     have f5:=zf 5 HON.out.two.nr
     have k5:=zc5 HON.out.two.nr
     go_simp
     refine hK _ _ (fun h=>absurd h (by decide)) ?_
     clear hK K hS f5 k5
     refine RN.done (by kernel_rfl) ?_ _
     have hon:=HON.out.store elemN HNB.out 5 (.slice (some ⟨g,0,none⟩) 3 capn)
     clear HON
     have HON:=Lib.hid hon
     clear hon
     generalize w3.setCell ⟨w5.heap.size + 1,5,none⟩ (.slice (some ⟨g,0,none⟩) 3 capn) = wv at HON ⊢
     have r0:=zc0 HON.out.two.rr;have f0:=zf 0 HON.out.two.rr;have k0:=zc0 HON.out.two.nr
     have r1:=zc1 HON.out.two.rr;have f1:=zf 1 HON.out.two.rr;have k1:=zc1 HON.out.two.nr
     have r2:=zc2 HON.out.two.rr;have f2:=zf 2 HON.out.two.rr;have k2:=zc2 HON.out.two.nr
     have r3:=zc3 HON.out.two.rr;have f3:=zf 3 HON.out.two.rr;have k3:=zc3 HON.out.two.nr
     have r4:=zc4 HON.out.two.rr;have f4:=zf 4 HON.out.two.rr;have k4:=zc4 HON.out.two.nr
     have r5:=zc5 HON.out.two.rr;have f5:=zf 5 HON.out.two.rr;have k5:=zc5 HON.out.two.nr
     have r6:=zc6 HON.out.two.rr;have f6:=zf 6 HON.out.two.rr;have k6:=zc6 HON.out.two.nr
     have r7:=zc7 HON.out.two.rr;have f7:=zf 7 HON.out.two.rr;have k7:=zc7 HON.out.two.nr
     go_wp2_with fail
     have hst:=stored_rb wv (w.heap.size) (.int .i64 6) (.string ⟨#[]⟩) (.bool false) (.slice none 0 0) (.slice none 0 0) (.slice (some ⟨g,0,none⟩) 3 capn) (.slice none 0 0) (.slice none 0 0) _ _ _ _ _ _ _ _ _ HON.out.two.rr
     generalize ((((((((wv.setCell ⟨w.heap.size,0,none⟩ (.int .i64 6)).setCell ⟨w.heap.size,1,none⟩ (.string ⟨#[]⟩)).setCell ⟨w.heap.size,2,none⟩ (.bool false)).setCell ⟨w.heap.size,3,none⟩ (.slice none 0 0)).setCell ⟨w.heap.size,4,none⟩ (.slice none 0 0)).setCell ⟨w.heap.size,5,none⟩ (.slice (some ⟨g,0,none⟩) 3 capn)).setCell ⟨w.heap.size,6,none⟩ (.slice none 0 0)).setCell ⟨w.heap.size,7,none⟩ (.slice none 0 0)) = W8 at hst ⊢
     obtain ⟨hr8,hch⟩:=hst
     have x0:=Lib.cell_of_heap hr8 0
     have x1:=Lib.cell_of_heap hr8 1
     have x2:=Lib.cell_of_heap hr8 2
     have x3:=Lib.cell_of_heap hr8 3
     have x4:=Lib.cell_of_heap hr8 4
     have x5:=Lib.cell_of_heap hr8 5
     have x6:=Lib.cell_of_heap hr8 6
     have x7:=Lib.cell_of_heap hr8 7
     refine bodyPost_ret (v:=.agg #[.int .i64 6,.string ⟨#[]⟩,.bool false,.slice none 0 0,.slice none 0 0,.slice (some ⟨g,0,none⟩) 3 capn,.slice none 0 0,.slice none 0 0]) (by simp [results,Tryz.results126,go_sem,x0,x1,x2,x3,x4,x5,x6,x7]) rfl ?_
     rw [← HN.out]
     exact HON.out.done H.out hch (VN.kidsR (HON.out.sl1 elemN (by simp only [List.length_append,List.length_cons,List.length_nil];unfold R;omega) hch))
end Ps
end Go.Proofs.YtoklgmbpgnimcaaGreatDoor
