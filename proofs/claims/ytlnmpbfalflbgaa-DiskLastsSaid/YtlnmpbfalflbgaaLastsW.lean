/-
  The walk of the law DiskLasts: it returns true, whatever its calls and bytes are, and turns nothing that was there.
-/
import Derived.Test.YtlnmpbfalflbgaaLastsB
import Derived.Deep.CutBlock
namespace Go.Proofs.Ytlnmpbfalflbgaa
open Go.RowKit

theorem calls_keep {w w' : World} {a : Option Addr} {len : Nat} {L : List CallR} (h : CallsAt w a len L) (hO : Only [] w w') : CallsAt w' a len L := by
  obtain ⟨h1, h2, h3⟩ := h
  refine ⟨h1, h2, fun hp => ?_⟩
  obtain ⟨b, o, e, hb, hc⟩ := h3 hp
  exact ⟨b, o, e, Nat.lt_of_lt_of_le hb hO.size, fun i c hi => (hc i c hi).keep hO w.heap.size hb (Nat.le_refl _) (fun hp x y e => (hc i c hi).src.lt hp e) (by simp)⟩

set_option maxRecDepth 100000 in
set_option maxHeartbeats 8000000 in
theorem lasts_walk (a : Option Addr) (len cap : Nat) (L : List CallR) (b : Option Addr) (blen bcap : Nat) (M : List CallR) (pa : Option Addr) (plen pcap : Nat) (l : List UInt8) (w : World) (h : CallsAt w a len L) (hM : CallsAt w b blen M) (hs : Src w pa plen l) :
    Calls Try.prog 5 #[.slice a len cap, .slice b blen bcap, .slice pa plen pcap] w fun e w' => e = .returned (.bool true) ∧ Only [] w w' := by
  have hmk : ∀ W : World, (Instr.makeSlice 34 (.int .i64 64) (.int .i64 64)).run Try.prog W = .ok (.slice (some ⟨W.heap.size, 0, none⟩) 64 64) (W.alloc (.cells (bv zeros).toArray 5)) := fun _ => by kernel_rfl
  have hmt := make_tab
  have hmm := make_marks
  have hml := h.2.1
  have hml2 := hM.2.1
  unfold maxLen at hml hml2
  have H := Lib.hid h
  have HM := Lib.hid hM
  have Hs := Lib.hid hs
  clear h hs hM
  go_enter Try.func5, Try.ntmps5
  go_wp2_with fail
  refine (known_any _).mono ?_
  rintro e w0 ⟨rfl, hO0⟩
  have hz0 := hO0.size
  go_wp2_with fail
  refine (few_any _ a len cap L (calls_keep H.out hO0)).mono ?_
  rintro e w' ⟨fb, rfl, rfl⟩
  cases fb with
  | false =>
    go_wp2
    go_ret
    exact ⟨rfl, hO0⟩
  | true =>
    go_wp2_with fail
    refine (few_any _ b blen bcap M (calls_keep HM.out hO0)).mono ?_
    rintro e w' ⟨fb, rfl, rfl⟩
    cases fb with
    | false =>
      go_wp2
      go_ret
      exact ⟨rfl, hO0⟩
    | true =>
      go_wp2_with fail
      refine (new_ok _ 16 (by omega) (by omega) (by omega)).mono ?_
      rintro e w1 ⟨p, bl, bm, rfl, hD, hO1, hp1, hp2, hp3⟩
      rw [new_mk] at hD
      have hO01 := hO0.andMore hO1
      have hRm : Rm w w1.heap.size p bl bm := ⟨by omega, by omega, by omega, hD.plt, hD.blt, hD.mlt⟩
      have HR := Lib.hid hRm
      have HD := Lib.hid hD
      have HO01 := Lib.hid hO01
      clear hD hO0 hO1 hO01 hRm
      go_upto_region 8 with fail
      go_cut [9, 10] (fun s9 s10 wx => ∃ gW gN, s9 = .slice (some ⟨gW, 0, none⟩) 16 16 ∧ s10 = .slice (some ⟨gN, 0, none⟩) 16 16 ∧ IsBlk wx gW (.cells nil16 34) ∧ IsBlk wx gN (.cells nil16 34) ∧ gW ≠ gN ∧ w1.heap.size ≤ gW ∧ w1.heap.size ≤ gN ∧ Only [] w1 wx)
      case first =>
        have hA := (IsBlk.made w1 (.cells nil16 34)).alloc (.cells nil16 34)
        have hB := IsBlk.made (w1.alloc (.cells nil16 34)) (.cells nil16 34)
        have hsz : (w1.alloc (.cells nil16 34)).heap.size = w1.heap.size + 1 := by simp
        have hOc : Only [] w1 ((w1.alloc (.cells nil16 34)).alloc (.cells nil16 34)) := ((Only.refl _ _).alloc _).alloc _
        rw [hsz] at hB
        have HA := Lib.hid hA
        have HB := Lib.hid hB
        have HOc := Lib.hid hOc
        clear hA hB hsz hOc
        go_region
        all_goals
          go_wp2_with fail
          go_meet
        · exact ⟨w1.heap.size, w1.heap.size + 1, rfl, rfl, HA.out.drew, HB.out.drew, by omega, by omega, by omega, HOc.out.drew⟩
        · exact ⟨w1.heap.size + 1, w1.heap.size, rfl, rfl, HB.out.drew, HA.out.drew, by omega, by omega, by omega, HOc.out.drew⟩
      case rest =>
        obtain ⟨gW, gN, rfl, rfl, hbW, hbN, hne, hgW, hgN, hOc⟩ := hcut
        generalize hB : w1.heap.size = B at *
        have HB := Lib.hid hB
        clear hB
        go_upto_region 9 with fail
        go_cut [11] (fun s11 wx => ∃ gF, s11 = .slice (some ⟨gF, 0, none⟩) 16 16 ∧ FillAt w wx B p bl bm gW gN gF 0 ∧ B ≤ gF)
        case first =>
          go_wp2_with fail
          go_meet
          have hF := IsBlk.made wc (.cells no16 4)
          have hBF : B ≤ wc.heap.size := by have := hOc.size; have := HB.out; omega
          have hT := tabs_made (B := B) (hbW.alloc _) (hbN.alloc _) hF hgW hgN hBF hne (by have := hbW.lt; omega) (by have := hbN.lt; omega)
          have hOd : Only [] w1 (wc.alloc (.cells no16 4)) := hOc.alloc _
          exact ⟨wc.heap.size, rfl, ⟨hT, fun i hi => by omega, fun i hi => no_cell hF i hi, HD.out.more hOd, HO01.out.andMore hOd⟩, hBF⟩
        case rest =>
        obtain ⟨gF, rfl, hFill, hgF⟩ := hcut
        have HF := Lib.hid hFill
        clear hFill hbW hbN hOc HD HO01 hne HB
        go_upto_block 0 with fail
        go_cut [12] (fun _ wx => OldAt w wx B p bl bm gW gN gF (fun _ => zeros) noF (fun _ => zeros) 0)
        case first =>
          go_wp2_with fail
          go_loopw [12] (fun i wr => ∃ k : Nat, k ≤ 16 ∧ i = .int .i64 k ∧ FillAt w wr B p bl bm gW gN gF k) (fun i _ => 16 - (intOf i).toNat)
          case atStart => exact ⟨0, by omega, rfl, HF.out⟩
          case round =>
            obtain ⟨k, hk, rfl, hFk⟩ := hrel
            by_cases hlt : k < 16
            · have hlti : (k : Int) < 16 := by omega
              obtain ⟨a0, l0, c0, hc0⟩ := hFk.t3.sW k hlt
              have hfz := hFk.t3.fW k
              have hgl := hFk.t3.lW
              have HFk := Lib.hid hFk
              clear hFk HF
              go_wp2
              exact ⟨⟨k + 1, by omega, by go_num, HFk.out.fill HR.out hlt _⟩, by simp [intOf]; omega⟩
            · have hlti : ¬ (k : Int) < 16 := by omega
              obtain rfl : k = 16 := by omega
              have HFk := Lib.hid hFk
              clear hFk HF
              go_wp2
              go_meet
              exact HFk.out.tab
        case rest =>
          have HO := Lib.hid hcut
          clear hcut HF
          go_upto_block 2 with fail
          go_cut [13] (fun _ wx => ∃ k last news was, k ≤ 30 ∧ OldAt w wx B p bl bm gW gN gF last news was k)
          case first =>
            go_wp2_with fail
            go_loopw [13] (fun i wr => ∃ k : Nat, k ≤ 30 ∧ k ≤ len ∧ i = .int .i64 k ∧ ∃ last news was, OldAt w wr B p bl bm gW gN gF last news was k) (fun i _ => 30 - (intOf i).toNat)
            case atStart => exact ⟨0, by omega, by omega, rfl, _, _, _, HO.out⟩
            case round =>
              obtain ⟨k, hk, hkl, rfl, last, news, was, hFk⟩ := hrel
              have HFk := Lib.hid hFk
              clear hFk HO
              by_cases hlt : k < len
              · have hlti : (k : Int) < (len : Int) := by omega
                by_cases h30 : k < 30
                · have h30i : (k : Int) < 30 := by omega
                  obtain ⟨cb, co, c, rfl, _, hca, hbl, hdl⟩ := H.out.at_ HFk.out.only (by simp) hlt
                  have hc1 := hca.c1
                  have Hca := Lib.hid hca
                  clear hca hdl
                  generalize c.at_ = at0 at *
                  go_wp2_with fail
                  refine (within_any _ at0 16 (by omega) (by omega)).mono ?_
                  rintro e w' ⟨rfl, rfl⟩
                  have hx8 := Int.emod_nonneg at0 (show (16 : Int) ≠ 0 by omega)
                  have hx9 := Int.emod_lt_of_pos at0 (show (0 : Int) < 16 by omega)
                  clear hc1
                  generalize at0 % 16 = at1 at *
                  obtain ⟨X, rfl⟩ := Int.eq_ofNat_of_zero_le hx8
                  have hX : X < 16 := by omega
                  go_wp2_with fail
                  have hc2 := Hca.out.c2
                  have hc3 := Hca.out.c3
                  have hsrc := Hca.out.src
                  have Hsrc := Lib.hid hsrc
                  have hlw : cb < wr.heap.size := by have := HFk.out.only.size; omega
                  have hcW : cb ≠ gW := by have := HR.out.p0; have := HR.out.p1; omega
                  have HcW := Lib.hid hcW
                  clear hsrc Hca hcW
                  generalize c.n = cn at *
                  generalize c.da = da at *
                  generalize c.dlen = dlen at *
                  generalize c.dcap = dcap at *
                  generalize c.bytes = bytes at *
                  have Hlen := Lib.hid (length_secB cn bytes)
                  have hgl0 := HFk.out.tab.t3.lW
                  go_region_held3 (fun W => W.cell? ⟨cb, co + k * 4 + 2, none⟩ = some (.int .i64 cn) ∧ W.cell? ⟨cb, co + k * 4 + 3, none⟩ = some (.slice da dlen dcap)) (first | assumption | exact ⟨by assumption, by assumption⟩ | go_keep | (rw [cell_far _ HcW.out, cell_far _ HcW.out]; exact ⟨by assumption, by assumption⟩))
                    (first
                      | (go_at_call 24
                         refine (sector_any _ cn da dlen dcap bytes (Hsrc.out.more ((Only.refl [] wr).drew))).mono ?_
                         rintro e w5 ⟨gs, rfl, hb5, hg5, hO5⟩
                         have hOw : Only [] wr w5 := ((Only.refl [] wr).drew).andMore hO5
                         have hc2' := (hOw.cell (p := ⟨cb, co + k * 4 + 2, none⟩) hlw (by simp)).trans hc2
                         have hc3' := (hOw.cell (p := ⟨cb, co + k * 4 + 3, none⟩) hlw (by simp)).trans hc3
                         have hO5' := HFk.out.more hOw
                         obtain ⟨a0, l0, c0, hc0⟩ := hO5'.tab.t3.sW X hX
                         have hfz := hO5'.tab.t3.fW X
                         have hgl := hO5'.tab.t3.lW
                         have HO5 := Lib.hid hO5'
                         have Hb5 := Lib.hid hb5
                         clear hO5' hb5 hOw hO5))
                  have hgs : B ≤ gs := by have : wr.drew.heap.size = wr.heap.size := rfl; omega
                  rename_i hheld
                  clear hheld
                  clear hc2 hc3 hc2' hc3'
                  generalize secB cn bytes = sb at *
                  go_wp2_with fail
                  refine (old_write HO5.out HR.out X gs sb hX (by omega) hgs Hb5.out Hlen.out).mono ?_
                  rintro e w7 ⟨rfl, hO7⟩
                  have HO7 := Lib.hid hO7
                  clear hO7 hc0 hfz hgl HO5 Hb5
                  go_wp2
                  go_roundw
                  case rel => exact ⟨k + 1, by omega, by omega, by go_num, _, _, _, HO7.out⟩
                  case measure => simp [intOf]; omega
                · have h30i : ¬ (k : Int) < 30 := by omega
                  go_wp2
                  go_meet
                  exact ⟨k, last, news, was, hk, HFk.out⟩
              · have hlti : ¬ (k : Int) < (len : Int) := by omega
                go_wp2
                go_meet
                exact ⟨k, last, news, was, hk, HFk.out⟩
          case rest =>
            obtain ⟨K, last0, news0, was, hK, hO3⟩ := hcut
            have HO3 := Lib.hid hO3
            clear hO3 HO
            go_wp2_with fail
            refine (old_flush HO3.out HR.out (by omega)).mono ?_
            rintro e w3 ⟨rfl, hN3⟩
            have HN3 := Lib.hid hN3
            clear hN3 HO3
            generalize nowF last0 news0 = last at *
            go_upto_block 4 with fail
            go_cut [15] (fun _ wx => ∃ k news fr, NewAt w wx B p bl bm gW gN gF last was news fr k)
            case first =>
              go_wp2_with fail
              go_loopw [15] (fun i wr => ∃ k : Nat, k ≤ 30 ∧ k ≤ blen ∧ i = .int .i64 k ∧ ∃ news fr, NewAt w wr B p bl bm gW gN gF last was news fr (K + 1 + k)) (fun i _ => 30 - (intOf i).toNat)
              case atStart => exact ⟨0, by omega, by omega, rfl, _, _, HN3.out⟩
              case round =>
                obtain ⟨k, hk, hkl, rfl, news, fr, hFk⟩ := hrel
                have HFk := Lib.hid hFk
                clear hFk HN3
                by_cases hlt : k < blen
                · have hlti : (k : Int) < (blen : Int) := by omega
                  by_cases h30 : k < 30
                  · have h30i : (k : Int) < 30 := by omega
                    obtain ⟨cb, co, c, rfl, _, hca, hbl, hdl⟩ := HM.out.at_ HFk.out.only (by simp) hlt
                    have hc1 := hca.c1
                    have Hca := Lib.hid hca
                    clear hca hdl
                    generalize c.at_ = at0 at *
                    go_wp2_with fail
                    refine (within_any _ at0 16 (by omega) (by omega)).mono ?_
                    rintro e w' ⟨rfl, rfl⟩
                    have hx8 := Int.emod_nonneg at0 (show (16 : Int) ≠ 0 by omega)
                    have hx9 := Int.emod_lt_of_pos at0 (show (0 : Int) < 16 by omega)
                    clear hc1
                    generalize at0 % 16 = at1 at *
                    obtain ⟨X, rfl⟩ := Int.eq_ofNat_of_zero_le hx8
                    have hX : X < 16 := by omega
                    go_wp2_with fail
                    have hc2 := Hca.out.c2
                    have hc3 := Hca.out.c3
                    have hsrc := Hca.out.src
                    have Hsrc := Lib.hid hsrc
                    have hlw : cb < wr.heap.size := by have := HFk.out.only.size; omega
                    have hcN : cb ≠ gN := by have := HR.out.p0; have := HR.out.p1; omega
                    have hcF : cb ≠ gF := by have := HR.out.p0; have := HR.out.p1; omega
                    have HcN := Lib.hid hcN
                    have HcF := Lib.hid hcF
                    have HFN := Lib.hid HFk.out.tab.t3.NF.symm
                    clear hsrc Hca hcN hcF
                    generalize c.n = cn at *
                    generalize c.da = da at *
                    generalize c.dlen = dlen at *
                    generalize c.dcap = dcap at *
                    generalize c.bytes = bytes at *
                    have Hlen := Lib.hid (length_secB cn bytes)
                    have hgl0 := HFk.out.tab.t3.lN
                    go_region_held3 (fun W => W.cell? ⟨cb, co + k * 4 + 2, none⟩ = some (.int .i64 cn) ∧ W.cell? ⟨cb, co + k * 4 + 3, none⟩ = some (.slice da dlen dcap)) (first | assumption | exact ⟨by assumption, by assumption⟩ | go_keep | (rw [cell_far _ HcN.out, cell_far _ HcN.out]; exact ⟨by assumption, by assumption⟩) | (rw [cell_far _ HcF.out, cell_far _ HcF.out, cell_far _ HcN.out, cell_far _ HcN.out]; exact ⟨by assumption, by assumption⟩) | (rw [cell_far _ HcF.out, cell_far _ HcF.out]; assumption))
                      (first
                        | (go_at_call 24
                           refine (sector_any _ cn da dlen dcap bytes (Hsrc.out.more ((Only.refl [] wr).drew))).mono ?_
                           rintro e w5 ⟨gs, rfl, hb5, hg5, hO5⟩
                           have hOw : Only [] wr w5 := ((Only.refl [] wr).drew).andMore hO5
                           have hc2' := (hOw.cell (p := ⟨cb, co + k * 4 + 2, none⟩) hlw (by simp)).trans hc2
                           have hc3' := (hOw.cell (p := ⟨cb, co + k * 4 + 3, none⟩) hlw (by simp)).trans hc3
                           have hO5' := HFk.out.more hOw
                           obtain ⟨a0, l0, c0, hc0⟩ := hO5'.tab.t3.sN X hX
                           obtain ⟨m0, hm0⟩ := hO5'.tab.t3.sF X hX
                           have hm0' : (w5.setCell ⟨gN, X, none⟩ (.slice (some ⟨gs, 0, none⟩) 64 64)).cell? ⟨gF, X, none⟩ = some (.bool m0) := (cell_far _ HFN.out).trans hm0
                           have hfz := hO5'.tab.t3.fN X
                           have hfy := hO5'.tab.t3.fF X
                           have hgl := hO5'.tab.t3.lN
                           have hgm := hO5'.tab.t3.lF
                           have HO5 := Lib.hid hO5'
                           have Hb5 := Lib.hid hb5
                           clear hO5' hb5 hOw hO5))
                    have hgs : B ≤ gs := by have : wr.drew.heap.size = wr.heap.size := rfl; omega
                    rename_i hheld
                    clear hheld
                    clear hc2 hc3 hc2' hc3'
                    generalize secB cn bytes = sb at *
                    have hld : ((w5.setCell ⟨gN, X, none⟩ (.slice (some ⟨gs, 0, none⟩) 64 64)).setCell ⟨gF, X, none⟩ (.bool true)).cell? ⟨gN, X, none⟩ = some (.slice (some ⟨gs, 0, none⟩) 64 64) := (cell_far _ HFN.out.symm).trans (World.cell?_setCell_same _ _ _ hc0)
                    go_wp2_with fail
                    refine (new_write HO5.out HR.out X gs sb hX (by omega) hgs Hb5.out Hlen.out).mono ?_
                    rintro e w7 ⟨rfl, hO7⟩
                    have HO7 := Lib.hid hO7
                    clear hO7 hc0 hfz hgl HO5 Hb5 hm0 hm0' hfy hgm hld
                    go_wp2
                    go_roundw
                    case rel => exact ⟨k + 1, by omega, by omega, by go_num, _, _, HO7.out⟩
                    case measure => simp [intOf]; omega
                  · have h30i : ¬ (k : Int) < 30 := by omega
                    go_wp2
                    go_meet
                    exact ⟨_, news, fr, HFk.out⟩
                · have hlti : ¬ (k : Int) < (blen : Int) := by omega
                  go_wp2
                  go_meet
                  exact ⟨_, news, fr, HFk.out⟩
            case rest =>
              obtain ⟨K2, news, fr, hN4⟩ := hcut
              have HN4 := Lib.hid hN4
              clear hN4 HN3
              go_wp2_with fail
              refine (new_crash HN4.out HR.out pa plen pcap Hs.out).mono ?_
              rintro e w4 ⟨rfl, hE4⟩
              have HE4 := Lib.hid hE4
              clear hE4 HN4
              go_wp2_with fail
              go_loopw [17, 18] (fun c i wr => ∃ k : Nat, k ≤ 16 ∧ i = .int .i64 k ∧ c = .int .i64 (cntF news k) ∧ EndAt w wr B p bl bm gW gN gF last was news fr l K2) (fun _ i _ => 16 - (intOf i).toNat)
              case atStart => exact ⟨0, by omega, rfl, rfl, HE4.out⟩
              case round =>
                obtain ⟨k, hk, rfl, rfl, hEk⟩ := hrel
                have hcn := cntF_le news k
                have HEk := Lib.hid hEk
                clear hEk HE4
                by_cases hlt : k < 16
                · have hlti : (k : Int) < 16 := by omega
                  obtain ⟨gi, ci, hci, hgi, hlt2, hri, hli⟩ := HEk.out.tab.was_ k hlt
                  have hmark : wr.cell? ⟨gF, k, none⟩ = some (.bool (fr k).isSome) := HEk.out.tab.mark k hlt
                  have Hri := Lib.hid hri
                  have Hli := Lib.hid hli
                  clear hri hli
                  cases hf : fr k with
                  | none =>
                    rw [hf] at hmark
                    have hm : wr.cell? ⟨gF, k, none⟩ = some (.bool false) := hmark
                    have Hc := Lib.hid (cntF_none HEk.out k hlt hf)
                    have Hf := Lib.hid hf
                    clear hmark hf
                    go_wp2_with fail
                    refine (HEk.out.read_old k hlt Hf.out).mono ?_
                    rintro e w5 ⟨g5, rfl, hb5, hg5, hO5⟩
                    have hE5 := HEk.out.more hO5
                    have q1 := conv_str w5 g5 0 64 64 (was k) Hli.out (blk_range hb5)
                    have q2 := conv_str w5 gi 0 ci 64 (was k) Hli.out (rangeAt_only Hri.out hO5 hlt2 (by simp))
                    have HE5 := Lib.hid hE5
                    clear hE5 hb5 hO5 hm hci
                    generalize strB (was k) = sw at *
                    go_wp2
                    go_roundw
                    case rel => exact ⟨k + 1, by omega, by go_num, by rw [Hc.out], HE5.out⟩
                    case measure => simp [intOf]; omega
                  | some bb =>
                    rw [hf] at hmark
                    have hm : wr.cell? ⟨gF, k, none⟩ = some (.bool true) := hmark
                    obtain ⟨gj, cj, hcj, hgj, hltj, hrj, hlj⟩ := HEk.out.tab.now k bb hlt hf
                    have Hrj := Lib.hid hrj
                    have Hlj := Lib.hid hlj
                    have Hc := Lib.hid (cntF_some HEk.out k hlt bb hf)
                    have Hf := Lib.hid hf
                    have hsk := Hs.out.more HEk.out.only
                    clear hmark hf hrj hlj
                    generalize hcc : cntF news k = cc at *
                    by_cases hpl : cc / 8 < plen
                    · obtain ⟨pb, po, ha, hpb, hpr⟩ := hsk.2 (by omega)
                      have hlp : cc / 8 < l.length := by rw [hsk.1]; exact hpl
                      have hpc : wr.cell? ⟨pb, po + cc / 8, none⟩ = some (.int .u8 (l[cc / 8]).toNat) := hpr (cc / 8) _ (by simp [bv, List.getElem?_eq_getElem hlp])
                      have epk : pickB l cc = bitB l[cc / 8] cc := by simp [pickB, List.getElem?_eq_getElem hlp]
                      have tp : (cc : Int) / 8 < (plen : Int) := by omega
                      have hvb : (l[cc / 8]).toNat < 256 := (l[cc / 8]).toNat_lt
                      generalize l[cc / 8] = v at *
                      subst ha
                      cases hbit : bitB v cc with
                      | true =>
                        have Hpk := Lib.hid (show pickB l (cntF news k) = true by rw [hcc, epk, hbit])
                        have hbit' : (bits BinOp.and IntKind.u8 ((v.toNat : Int) / 2 ^ (cc % 8)) 1 == 1) = true := hbit
                        have Hcc := Lib.hid hcc
                        clear hbit epk hcc hsk hpr
                        go_wp2_with fail
                        refine (HEk.out.read_kept k hlt bb Hf.out Hpk.out).mono ?_
                        rintro e w5 ⟨g5, rfl, hb5, hg5, hO5⟩
                        have hE5 := HEk.out.more hO5
                        have q1 := conv_str w5 g5 0 64 64 bb Hlj.out (blk_range hb5)
                        have q2 := conv_str w5 gj 0 cj 64 bb Hlj.out (rangeAt_only Hrj.out hO5 hltj (by simp))
                        have HE5 := Lib.hid hE5
                        clear hE5 hb5 hO5 hm hci hcj hpc hbit'
                        generalize strB bb = sw at *
                        go_wp2
                        go_roundw
                        case rel => exact ⟨k + 1, by omega, by go_num, by rw [Hc.out]; go_num, HE5.out⟩
                        case measure => simp [intOf]; omega
                      | false =>
                        have Hpk := Lib.hid (show pickB l (cntF news k) = false by rw [hcc, epk, hbit])
                        have hbit' : (bits BinOp.and IntKind.u8 ((v.toNat : Int) / 2 ^ (cc % 8)) 1 == 1) = false := hbit
                        have Hcc := Lib.hid hcc
                        clear hbit epk hcc hsk hpr
                        go_wp2_with fail
                        refine (HEk.out.read_lost k hlt Hpk.out).mono ?_
                        rintro e w5 ⟨g5, rfl, hb5, hg5, hO5⟩
                        have hE5 := HEk.out.more hO5
                        have q1 := conv_str w5 g5 0 64 64 (was k) Hli.out (blk_range hb5)
                        have q2 := conv_str w5 gi 0 ci 64 (was k) Hli.out (rangeAt_only Hri.out hO5 hlt2 (by simp))
                        have HE5 := Lib.hid hE5
                        clear hE5 hb5 hO5 hm hci hcj hpc hbit'
                        generalize strB (was k) = sw at *
                        go_wp2
                        go_roundw
                        case rel => exact ⟨k + 1, by omega, by go_num, by rw [Hc.out]; go_num, HE5.out⟩
                        case measure => simp [intOf]; omega
                    · have epk : pickB l cc = false := by
                        have : l[cc / 8]? = none := List.getElem?_eq_none (by rw [hsk.1]; omega)
                        simp [pickB, this]
                      have Hpk := Lib.hid (show pickB l (cntF news k) = false by rw [hcc, epk])
                      have tp : decide ((cc : Int) / 8 < (plen : Int)) = false := by simp; omega
                      have Hcc := Lib.hid hcc
                      clear epk hcc hsk
                      go_wp2_with fail
                      refine (HEk.out.read_lost k hlt Hpk.out).mono ?_
                      rintro e w5 ⟨g5, rfl, hb5, hg5, hO5⟩
                      have hE5 := HEk.out.more hO5
                      have q1 := conv_str w5 g5 0 64 64 (was k) Hli.out (blk_range hb5)
                      have q2 := conv_str w5 gi 0 ci 64 (was k) Hli.out (rangeAt_only Hri.out hO5 hlt2 (by simp))
                      have HE5 := Lib.hid hE5
                      clear hE5 hb5 hO5 hm hci hcj tp
                      generalize strB (was k) = sw at *
                      go_wp2
                      go_roundw
                      case rel => exact ⟨k + 1, by omega, by go_num, by rw [Hc.out]; go_num, HE5.out⟩
                      case measure => simp [intOf]; omega
                · have hlti : ¬ (k : Int) < 16 := by omega
                  go_wp2
                  go_ret
                  exact ⟨rfl, HEk.out.only⟩

end Go.Proofs.Ytlnmpbfalflbgaa
