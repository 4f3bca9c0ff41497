/- The walk of LexBack. -/
import Derived.Test.YtgpnleenejjnmaaGreatDoorRdB
import Derived.Test.YtgpnleenejjnmaaGreatDoorLxAl
import Derived.Test.YtgpnleenejjnmaaGreatDoorWl
import Derived.Test.YtgpnleenejjnmaaGreatDoorRfE
import Derived.Test.YtgpnleenejjnmaaGreatDoorWrD
import Derived.Test.YtgpnleenejjnmaaGreatDoorPtC
import Derived.Test.YtgpnleenejjnmaaGreatDoorPtK
namespace Go.Proofs.YtgpnleenejjnmaaGreatDoor
open Go.RowKit Go.Sort
namespace Lx
open Cls Pt Bd

theorem bodyS_app : ∀ a b : List PL, bodyS (a ++ b) = bodyS a ++ bodyS b
  | [], b => rfl
  | w :: r, b => by simp [bodyS, bodyS_app r b]
theorem take_snoc {ws : List PL} {n : Nat} {l : PL} (h : ws[n]? = some l) : ws.take (n + 1) = ws.take n ++ [l] := by
  rw [List.take_add_one, h]; rfl
theorem rightW_L {l : PL} (h : rightW l = true) : rightL none l 0 1 = true := by
  cases l with
  | nil => rfl
  | cons k q t o f r => simp only [rightW, Bool.and_eq_true] at h; exact h.2

set_option maxHeartbeats 3200000 in
set_option maxRecDepth 100000 in
theorem back_law (ws : List PL) (a : Option Addr) (cap : Nat) (m : Int) (w : World) (hl : WLies w a cap ws) (hm : w.cell? ⟨0, 0, none⟩ = some (.int .i64 m)) :
    Calls Tryz.prog 3 #[.slice a ws.length cap] w fun e w' => e = .returned (.bool true) ∧ Below w.heap.size w w' := by
  have hle := hl.le
  have hmlt := World.block_lt_of_cell? _ _ hm
  by_cases h30 : 30 < ws.length
  · clear hl hm
    go_enter Tryz.func3, Tryz.ntmps3
    go_wp2_with fail
    refine (lexAlive_any _).mono ?_
    rintro e w1 ⟨rfl, hb1⟩
    go_wp2_with fail
    go_ret
    exact ⟨rfl, hb1⟩
  · have HL := Lib.hid hl; have HM := Lib.hid hm; have HMLT := Lib.hid hmlt
    clear hl hm hmlt
    go_enter Tryz.func3, Tryz.ntmps3
    go_wp2_with fail
    refine (lexAlive_any _).mono ?_
    rintro e w1 ⟨rfl, hb1⟩
    have HB1 := Lib.hid hb1
    clear hb1
    go_wp2
    go_loopw [3, 16] (fun v x wr => ∃ (n : Nat) (S : ByteArray), n ≤ ws.length ∧ v = .string S ∧ x = .int .i64 n ∧ S.data.toList = bodyS (ws.take n) ∧ S.size ≤ n * 10001 ∧ (∀ l ∈ ws.take n, rightW l = true) ∧ Below w.heap.size w wr) (fun v x wr => ws.length - (intOf x).toNat)
    case atStart => exact ⟨0, ⟨#[]⟩, Nat.zero_le _, rfl, rfl, rfl, Nat.zero_le _, (fun _ h => by simp at h), HB1.out⟩
    case round =>
      obtain ⟨n, S, hn, rfl, rfl, hS, hSz, hrs, hbw⟩ := hrel
      have HS := Lib.hid hS; have HRS := Lib.hid hrs; have HBW := Lib.hid hbw
      clear hS hrs hbw
      by_cases hlt : n < ws.length
      · obtain ⟨l, hget⟩ : ∃ l, ws[n]? = some l := ⟨_, List.getElem?_eq_getElem hlt⟩
        obtain ⟨b1, o1, rfl, hb1, a1, c1, hc, hli⟩ := (HL.out.below HBW.out).get hget
        have hWt := weight_any (l.size + 1) l a1 c1 0 wr (by omega) (by omega) hli
        have hwl := weight_le l 0
        have hRt := fun w1 (hb : Below wr.heap.size wr w1) => (Rf.rright_any l a1 c1 w1 (hli.below hb)).mono fun e w' h => And.intro h.1 (thru hb h.2)
        have hmr : wr.cell? ⟨0, 0, none⟩ = some (.int .i64 m) := (HBW.out.cell (p := ⟨0, 0, none⟩) HMLT.out).trans HM.out
        have hTx := fun (hz : Bd.bytes l ≤ 100000) w1 (hb : Below wr.heap.size wr w1) => (Bd.text_any l a1 c1 m w1 (hli.below hb) ((hb.cell (p := ⟨0, 0, none⟩) (World.block_lt_of_cell? _ _ hmr)).trans hmr) hz).mono fun e w' h => And.intro h.1 (thru hb h.2)
        have hwb : weight l 0 ≤ 2000 → Bd.bytes l ≤ 2000 := fun h => by rw [weight_bytes (d := 0) (by omega)]; exact h
        generalize weight l 0 = W0 at hWt hwl hwb
        have hws := HBW.out.size
        have HG := Lib.hid hget; have HWT := Lib.hid hWt; have HRT := Lib.hid hRt; have HTX := Lib.hid hTx; have HWB := Lib.hid hwb
        clear hget hWt hRt hTx hwb hli hmr
        by_cases hw2 : 2000 < W0
        · go_wp2_with (go_at_call 5; refine (HWT.out).mono ?_; rintro e w2 ⟨rfl, hb2⟩)
          go_ret
          exact ⟨rfl, HBW.out.trans (Below.mono (by assumption) hws)⟩
        · have hby := HWB.out (by omega)
          cases hr : rightW l
          · rw [hr] at HRT
            have HR := Lib.hid hr
            clear hr
            go_wp2_with (first
              | (go_at_call 5; refine (HWT.out).mono ?_; rintro e w2 ⟨rfl, hb2⟩)
              | (go_at_call 6; refine (HRT.out _ (by assumption)).mono ?_; rintro e w3 ⟨rfl, hb3⟩))
            go_ret
            exact ⟨rfl, HBW.out.trans (Below.mono (by assumption) hws)⟩
          · have hvt : valueText l = textL l 0 := by unfold valueText; rw [if_pos (rightW_L hr)]
            have htl := text_len l 0
            rw [hr] at HRT
            rw [hvt] at HTX
            have hT0 : (⟨(textL l 0).toArray⟩ : ByteArray).data.toList = textL l 0 := by simp
            have hTz : (⟨(textL l 0).toArray⟩ : ByteArray).size = (textL l 0).length := by rw [← lenB, hT0]
            generalize (⟨(textL l 0).toArray⟩ : ByteArray) = T at HTX hT0 hTz
            have hTs : T.size ≤ 10000 := by omega
            have HR := Lib.hid hr; have HT0 := Lib.hid hT0
            clear hr hvt htl hT0 hTz
            go_wp2_with (first
              | (go_at_call 5; refine (HWT.out).mono ?_; rintro e w2 ⟨rfl, hb2⟩)
              | (go_at_call 6; refine (HRT.out _ (by assumption)).mono ?_; rintro e w3 ⟨rfl, hb3⟩)
              | (go_at_call 7; refine (HTX.out (by omega) _ (by assumption)).mono ?_; rintro e w4 ⟨rfl, hb4⟩))
            have hSn : (S ++ (T ++ ⟨#[32]⟩)).data.toList = bodyS (ws.take (n + 1)) := by
              rw [take_snoc HG.out, bodyS_app, ← HS.out]
              simp [ByteArray.data_append, HT0.out, bodyS]
            have hSz2 : (S ++ (T ++ ⟨#[32]⟩)).size ≤ (n + 1) * 10001 := by
              rw [ByteArray.size_append, ByteArray.size_append]
              have : (⟨#[32]⟩ : ByteArray).size = 1 := rfl
              omega
            have HSN := Lib.hid hSn; have HSZ2 := Lib.hid hSz2
            clear hSn hSz2
            go_roundw
            case rel => exact ⟨n + 1, S ++ (T ++ ⟨#[32]⟩), by omega, rfl, by go_num, HSN.out, HSZ2.out, fun l' h' => by
              rw [take_snoc HG.out, List.mem_append, List.mem_singleton] at h'
              rcases h' with h' | rfl
              · exact HRS.out l' h'
              · exact HR.out, HBW.out.trans (Below.mono (by assumption) hws)⟩
            case measure => simp [intOf]; omega
      · obtain rfl : n = ws.length := by omega
        have hS1 : restAt S 0 = bodyS ws := by
          have := HS.out
          rw [List.take_of_length_le (Nat.le_refl _)] at this
          exact this
        have hr1 : ∀ l ∈ ws, rightW l = true := by
          have := HRS.out
          rw [List.take_of_length_le (Nat.le_refl _)] at this
          exact this
        have hsz : S.size ≤ 1000000 := by omega
        have hBk := scan_back S ws (S.size + 1) 0 [] (.inl rfl) hr1 hS1 (Nat.zero_le _) (by omega)
        have hSc := fun w => scan_any S hsz w
        generalize scanF (S.size + 1) S 0 = L at hBk hSc
        have hLl := back_len hBk
        obtain ⟨te, hte, hte4⟩ := back_end hBk
        have HBK := Lib.hid hBk; have HSC := Lib.hid hSc; have HTE := Lib.hid hte
        clear hBk hSc hte hS1 hr1 HS HRS hSz
        go_wp2_with fail
        refine (HSC.out _).mono ?_
        rintro e w2 ⟨g, gc, rfl, hI, hb2⟩
        obtain ⟨⟨e0, _, _, _⟩, _⟩ := hI.get HTE.out
        rw [hte4] at e0
        simp only [Nat.zero_add] at e0
        have hne : ((L.length : Int) != (ws.length : Int) + 1) = false := by simp; omega
        have HI := Lib.hid hI; have HB2 := Lib.hid (HBW.out.trans (hb2.mono HBW.out.size))
        clear hI hb2
        go_wp2
        go_loopw [53] (fun x wr => ∃ n : Nat, n ≤ ws.length ∧ x = .int .i64 n ∧ TokI wr g 0 L ∧ Below w.heap.size w wr) (fun x wr => ws.length - (intOf x).toNat)
        case atStart => exact ⟨0, Nat.zero_le _, rfl, HI.out, HB2.out⟩
        case round =>
          obtain ⟨n, hn, rfl, hI3, hbw3⟩ := hrel
          by_cases hlt : n < ws.length
          · obtain ⟨l, hget⟩ : ∃ l, ws[n]? = some l := ⟨_, List.getElem?_eq_getElem hlt⟩
            obtain ⟨b1, o1, rfl, hb1, a1, c1, hc, hli⟩ := (HL.out.below hbw3).get hget
            obtain ⟨t, ht, htk, htl⟩ := back_get HBK.out hget
            obtain ⟨⟨d0, _, _, _⟩, a2, c2, d3, hli2⟩ := hI3.get ht
            rw [htk] at d0
            rw [htl] at d3 hli2
            simp only [Nat.zero_add] at d0 d3
            have hsm := rsame_any (l.size + 1) l l a2 a1 c2 c1 wr (by omega) hli2 hli
            rw [same_refl] at hsm
            have HSM := Lib.hid hsm; have HI3 := Lib.hid hI3; have HBW3 := Lib.hid hbw3
            have hw3 := hbw3.size
            have hlL : n < L.length := by omega
            clear hsm hI3 hbw3 hli hli2 hget ht htk htl
            go_wp2_with (go_at_call 9; refine (HSM.out).mono ?_; rintro e w5 ⟨rfl, hb5⟩)
            rename_i hb5
            have HB5 := Lib.hid hb5
            clear hb5
            go_roundw
            case rel => exact ⟨n + 1, by omega, by go_num, HI3.out.below HB5.out, HBW3.out.trans (HB5.out.mono hw3)⟩
            case measure => simp [intOf]; omega
          · obtain rfl : n = ws.length := by omega
            have HBW3 := Lib.hid hbw3
            clear hI3 hbw3
            go_wp2_with fail
            go_ret
            exact ⟨rfl, HBW3.out⟩
end Lx
end Go.Proofs.YtgpnleenejjnmaaGreatDoor
