/-
  The walk of the law DiskApart: it returns true, whatever its calls and bytes are, and turns nothing that was there.
-/
import Derived.Test.YtlnmpbfalflbgaaPlaysW
import Derived.Test.YtlnmpbfalflbgaaCountsW
namespace Go.Proofs.Ytlnmpbfalflbgaa
open Go.RowKit

theorem LiveAt.keep {w w' : World} {p bl bm : Nat} {k : Int} {S : List Nat} (h : LiveAt w p bl bm k) (ho : Only S w w') (h1 : p ∉ S) (h2 : bl ∉ S) (h3 : bm ∉ S) : LiveAt w' p bl bm k := by
  obtain ⟨D, hD, r⟩ := h; exact ⟨D, hD.keep ho h1 h2 h3, r⟩

theorem PairAt.keep {w w' : World} {p bl bm B : Nat} {R : RefP} {D : DS} {K : Int} {S : List Nat} (h : PairAt w p bl bm B R D K) (ho : Only S w w') (h1 : p ∉ S) (h2 : bl ∉ S) (h3 : bm ∉ S) (h4 : ∀ k ∈ S, k < B) : PairAt w' p bl bm B R D K :=
  ⟨h.disk.keep ho h1 h2 h3, h.ref.keep ho h4, h.calm, h.pB, h.lB, h.mB⟩

set_option maxRecDepth 100000 in
set_option maxHeartbeats 8000000 in
theorem apart_walk (a : Option Addr) (len cap : Nat) (L : List CallR) (pa : Option Addr) (plen pcap : Nat) (l : List UInt8) (w : World) (h : CallsAt w a len L) (hs : Src w pa plen l) :
    Calls Try.prog 9 #[.slice a len cap, .slice pa plen pcap] w fun e w' => e = .returned (.bool true) ∧ Only [] w w' := by
  have hml := h.2.1
  unfold maxLen at hml
  have H := Lib.hid h
  have Hs := Lib.hid hs
  clear h hs
  go_enter Try.func9, Try.ntmps9
  go_wp2_with fail
  refine (known_any _).mono ?_
  rintro e w0 ⟨rfl, hO0⟩
  have hz0 := hO0.size
  go_wp2_with fail
  refine (few_any _ a len cap L ?hcall).mono ?_
  case hcall =>
    obtain ⟨h1, h2, h3⟩ := H.out
    refine ⟨h1, h2, fun hp => ?_⟩
    obtain ⟨b, o, e, hb, hc⟩ := h3 hp
    exact ⟨b, o, e, by omega, fun i c hi => (hc i c hi).keep hO0 w.heap.size hb (Nat.le_refl _) (fun hp x y e => (hc i c hi).src.lt hp e) (by simp)⟩
  rintro e w' ⟨fb, rfl, rfl⟩
  cases fb with
  | false =>
    go_wp2
    go_ret
    exact ⟨rfl, hO0⟩
  | true =>
    go_wp2_with fail
    refine (new_ok _ 8 (by omega) (by omega) (by omega)).mono ?_
    rintro e w1 ⟨p, bl, bm, rfl, hD, hO1, hp1, hp2, hp3⟩
    have hz1 := hO1.size
    have l1 := hD.plt
    have l2 := hD.blt
    have l3 := hD.mlt
    go_wp2_with fail
    refine (new_ok _ 8 (by omega) (by omega) (by omega)).mono ?_
    rintro e w2 ⟨r, rl, rm, rfl, hE, hO2, hr1, hr2, hr3⟩
    have hz2 := hO2.size
    have m1 := hE.plt
    have m2 := hE.blt
    have m3 := hE.mlt
    have hD2 := hD.more hO2
    go_wp2_with fail
    refine (rnew_ok _ 8 (by omega) (by omega) (by omega)).mono ?_
    rintro e w3 ⟨R, rfl, hR, hO3⟩
    have hP := pair_new hD2 hR hO3
    have hL3 := live_new _ _ _ _ (hE.more hO3)
    have hO03 := ((hO0.andMore hO1).andMore hO2).andMore hO3
    have HP := Lib.hid hP
    have HL3 := Lib.hid hL3
    generalize w2.heap.size = B at *
    clear hD hD2 hE hR hP hL3 hO1 hO2 hO3 hO0
    go_wp2_with fail
    go_loopw [11] (fun i wr => ∃ k : Nat, k ≤ 40 ∧ k ≤ len ∧ i = .int .i64 k ∧ (∃ D, PairAt wr p bl bm B R D k) ∧ LiveAt wr r rl rm (2 * (k : Int)) ∧ Only ([p, bl, bm] ++ R.own ++ [r, rl, rm]) w wr) (fun i _ => 40 - (intOf i).toNat)
    case atStart => exact ⟨0, by omega, by omega, rfl, ⟨_, HP.out⟩, HL3.out, hO03.into (by simp)⟩
    case round =>
      obtain ⟨k, hk, hkl, rfl, ⟨D, hPk⟩, hLk, hOk⟩ := hrel
      have hge : ∀ j ∈ [p, bl, bm] ++ R.own ++ [r, rl, rm], w.heap.size ≤ j := by
        intro j hj
        rcases List.mem_append.1 hj with h1 | h1
        · rcases List.mem_append.1 h1 with h1 | h1
          · simp at h1; omega
          · have := own_ge hPk.ref j h1; omega
        · simp at h1; omega
      have Hge := Lib.hid hge
      have HPk := Lib.hid hPk
      have HLk := Lib.hid hLk
      clear hPk hLk HP HL3 hge
      by_cases hlt : k < len
      · have hlti : (k : Int) < (len : Int) := by omega
        by_cases h40 : k < 40
        · have h40i : (k : Int) < 40 := by omega
          obtain ⟨b, o, c, rfl, _, hca, hbl, hdl⟩ := H.out.at_ hOk Hge.out hlt
          have hc0 := hca.c0
          have hc1 := hca.c1
          have hc2 := hca.c2
          have hc3 := hca.c3
          have Hca := Lib.hid hca
          have Hdl := Lib.hid hdl
          clear hca hdl
          go_wp2_with fail
          refine (do_any _ p bl bm B w.heap.size R D k c HPk.out (by omega) Hca.out.src Hdl.out (by omega) (by omega) (by omega) (by omega)).mono ?_
          rintro e w4 ⟨rfl, ⟨D4, hP4, _⟩, hO4⟩
          have hwr : w.heap.size ≤ wr.heap.size := hOk.size
          have hL4 := HLk.out.keep hO4 (by have := own_ge HPk.out.ref; simp; refine ⟨by omega, by omega, by omega, fun hm => ?_⟩; have := this r hm; omega) (by have := own_ge HPk.out.ref; simp; refine ⟨by omega, by omega, by omega, fun hm => ?_⟩; have := this rl hm; omega) (by have := own_ge HPk.out.ref; simp; refine ⟨by omega, by omega, by omega, fun hm => ?_⟩; have := this rm hm; omega)
          have hO04 : Only ([p, bl, bm] ++ R.own ++ [r, rl, rm]) w w4 := (hOk.trans hO4).into (fun j hj => .inl (by rcases List.mem_append.1 hj with h1 | h1; exact h1; exact List.mem_append_left _ h1))
          have hb4 : b < wr.heap.size := by omega
          have hnin : b ∉ [p, bl, bm] ++ R.own := fun hm => by have := Hge.out b (List.mem_append_left _ hm); omega
          have f1 := (hO4.cell (p := ⟨b, o + k * 4 + 1, none⟩) hb4 hnin).trans hc1
          have f3 := (hO4.cell (p := ⟨b, o + k * 4 + 3, none⟩) hb4 hnin).trans hc3
          have hsrc4 := Hca.out.src.keep hO4 (fun hp x y e hm => by have := Hdl.out hp x y e; have := Hge.out x (List.mem_append_left _ hm); omega)
          have Hsrc4 := Lib.hid hsrc4
          have HP4 := Lib.hid hP4
          have HL4 := Lib.hid hL4
          have hlt4 : wr.heap.size ≤ w4.heap.size := hO4.size
          clear hc0 hc1 hc2 hc3 hsrc4 hP4 hL4 hOk HPk HLk
          generalize c.at_ = at0 at *
          generalize c.da = da at *
          generalize c.dlen = dlen at *
          generalize c.dcap = dcap at *
          generalize c.bytes = bytes at *
          go_wp2_with fail
          refine (within_any _ at0 8 (by omega) (by omega)).mono ?_
          rintro e w' ⟨rfl, rfl⟩
          have hx8 := Int.emod_nonneg at0 (show (8 : Int) ≠ 0 by omega)
          have hx9 := Int.emod_lt_of_pos at0 (show (0 : Int) < 8 by omega)
          generalize at0 % 8 = at1 at *
          obtain ⟨X, rfl⟩ := Int.eq_ofNat_of_zero_le hx8
          go_wp2_with fail
          refine (sector_any _ k da dlen dcap bytes Hsrc4.out).mono ?_
          rintro e w5 ⟨gs, rfl, hb5, hg5, hO5⟩
          have hL5 := HL4.out.more hO5
          have hll := HL4.out.lt
          have Hlen := Lib.hid (length_secB k bytes)
          generalize secB k bytes = sb at *
          go_wp2_with fail
          refine (live_write _ r rl rm _ X gs 0 64 sb hL5 (by omega) (by omega) (by omega) Hlen.out (blk_range hb5) hb5.lt (by omega)).mono ?_
          rintro e w6 ⟨rfl, hL6, hO6⟩
          clear hL5 hb5
          go_wp2_with fail
          refine (live_flush _ r rl rm _ hL6 (by omega) (by omega)).mono ?_
          rintro e w7 ⟨rfl, hL7, hO7⟩
          have hO47 : Only [r, rl, rm] w4 w7 := (((Only.refl [r, rl, rm] w4).andMore hO5).andSame hO6).andSame hO7
          have hO07 : Only ([p, bl, bm] ++ R.own ++ [r, rl, rm]) w w7 := (hO04.trans hO47).into (fun j hj => .inl (by rcases List.mem_append.1 hj with h1 | h1; exact h1; exact List.mem_append_right _ h1))
          have hs7 := Hs.out.keep hO07 (fun hp x y e hm => by have := Hs.out.lt hp e; have := Hge.out x hm; omega)
          have hP7 := HP4.out.keep hO47 (by simp; omega) (by simp; omega) (by simp; omega) (by simp; omega)
          have HP7 := Lib.hid hP7
          have HL7 := Lib.hid hL7
          have Hs7 := Lib.hid hs7
          clear hL6 hO5 hO6 hO7 hP7 hL7 hs7 HP4 HL4
          go_wp2_with fail
          refine (live_crash _ r rl rm _ pa plen pcap l HL7.out Hs7.out (fun hp x y e => by have := Hs.out.lt hp e; omega)).mono ?_
          rintro e w8 ⟨rfl, hL8, hO8⟩
          have hP8 := HP7.out.keep hO8 (by simp; omega) (by simp; omega) (by simp; omega) (by simp; omega)
          have hO08 : Only ([p, bl, bm] ++ R.own ++ [r, rl, rm]) w w8 := (hO07.trans hO8).into (fun j hj => .inl (by rcases List.mem_append.1 hj with h1 | h1; exact h1; exact List.mem_append_right _ h1))
          have HP8 := Lib.hid hP8
          have HL8 := Lib.hid hL8
          clear hP8 hL8
          go_wp2
          go_roundw
          case rel => exact ⟨k + 1, by omega, by omega, by go_num, ⟨D4, by have := HP8.out; exact this⟩, by have := HL8.out; rwa [show (2 * ((k + 1 : Nat) : Int)) = 2 * (k : Int) + 1 + 1 by omega], hO08⟩
          case measure => simp [intOf]; omega
        · have h40i : ¬ (k : Int) < 40 := by omega
          go_wp2_with fail
          have hsk := Hs.out.keep hOk (fun hp x y e hm => by have := Hs.out.lt hp e; have := Hge.out x hm; omega)
          refine (crash_any _ p bl bm D pa plen pcap l HPk.out.disk hsk (fun hp x y e => by have := Hs.out.lt hp e; omega)).mono ?_
          rintro e w4 ⟨rfl, hD4, hO4⟩
          have hH4 := HPk.out.half hD4 hO4
          have hs4 := hsk.keep hO4 (fun hp x y e => by have := Hs.out.lt hp e; simp; omega)
          clear hD4 hsk
          go_wp2_with fail
          refine (rcrash_all _ B R D pa plen pcap l hH4.ref hs4 (fun hp x y e hm => by have := Hs.out.lt hp e; have := own_ge HPk.out.ref x hm; omega)).mono ?_
          rintro e w5 ⟨rfl, hR5, hO5⟩
          have hP5 := hH4.whole hR5 hO5 (crashed_calm HPk.out.calm l) HPk.out.pB HPk.out.lB HPk.out.mB
          clear hH4 hR5
          go_wp2_with fail
          refine (same_any _ p bl bm B R _ _ hP5).mono ?_
          rintro e w6 ⟨rfl, hO6⟩
          go_wp2
          go_ret
          exact ⟨rfl, (((hOk.trans hO4).trans hO5).trans hO6).into (fun j hj => .inr (by
            rcases List.mem_append.1 hj with h1 | h1
            · rcases List.mem_append.1 h1 with h1 | h1
              · rcases List.mem_append.1 h1 with h1 | h1
                · exact Hge.out j h1
                · exact Hge.out j (List.mem_append_left _ (List.mem_append_left _ h1))
              · exact Hge.out j (List.mem_append_left _ (List.mem_append_right _ h1))
            · simp at h1))⟩
      · have hge2 : ¬ (k : Int) < (len : Int) := by omega
        go_wp2_with fail
        have hsk := Hs.out.keep hOk (fun hp x y e hm => by have := Hs.out.lt hp e; have := Hge.out x hm; omega)
        refine (crash_any _ p bl bm D pa plen pcap l HPk.out.disk hsk (fun hp x y e => by have := Hs.out.lt hp e; omega)).mono ?_
        rintro e w4 ⟨rfl, hD4, hO4⟩
        have hH4 := HPk.out.half hD4 hO4
        have hs4 := hsk.keep hO4 (fun hp x y e => by have := Hs.out.lt hp e; simp; omega)
        clear hD4 hsk
        go_wp2_with fail
        refine (rcrash_all _ B R D pa plen pcap l hH4.ref hs4 (fun hp x y e hm => by have := Hs.out.lt hp e; have := own_ge HPk.out.ref x hm; omega)).mono ?_
        rintro e w5 ⟨rfl, hR5, hO5⟩
        have hP5 := hH4.whole hR5 hO5 (crashed_calm HPk.out.calm l) HPk.out.pB HPk.out.lB HPk.out.mB
        clear hH4 hR5
        go_wp2_with fail
        refine (same_any _ p bl bm B R _ _ hP5).mono ?_
        rintro e w6 ⟨rfl, hO6⟩
        go_wp2
        go_ret
        exact ⟨rfl, (((hOk.trans hO4).trans hO5).trans hO6).into (fun j hj => .inr (by
          rcases List.mem_append.1 hj with h1 | h1
          · rcases List.mem_append.1 h1 with h1 | h1
            · rcases List.mem_append.1 h1 with h1 | h1
              · exact Hge.out j h1
              · exact Hge.out j (List.mem_append_left _ (List.mem_append_left _ h1))
            · exact Hge.out j (List.mem_append_left _ (List.mem_append_right _ h1))
          · simp at h1))⟩

end Go.Proofs.Ytlnmpbfalflbgaa
