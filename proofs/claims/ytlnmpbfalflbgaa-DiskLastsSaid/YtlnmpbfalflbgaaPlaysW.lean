/-
  The laws' helpers Few and Same; the walk of the law DiskPlays: it returns true, whatever its number and calls are, and turns nothing that was there.
-/
import Derived.Test.YtlnmpbfalflbgaaDoW
import Derived.Test.YtlnmpbfalflbgaaRefE
namespace Go.Proofs.Ytlnmpbfalflbgaa
open Go.RowKit

def FewOk (w : World) (e : Ending) (w' : World) : Prop := ∃ b : Bool, e = .returned (.bool b) ∧ w = w'

set_option maxHeartbeats 1000000 in
theorem few_any (w : World) (a : Option Addr) (len cap : Nat) (L : List CallR) (h : CallsAt w a len L) : Calls Try.prog 13 #[.slice a len cap] w (FewOk w) := by
  have hml := h.2.1
  unfold maxLen at hml
  have H := Lib.hid h
  clear h
  go_enter Try.func13, Try.ntmps13
  go_wp2_with fail
  go_loop [3] (fun i => ∃ k : Nat, k ≤ len ∧ i = .int .i64 k) (fun i => len - (intOf i).toNat)
  case atStart => exact ⟨0, Nat.zero_le _, rfl⟩
  case round =>
    obtain ⟨k, hk, rfl⟩ := hrel
    by_cases hlt : k < len
    · have hlti : (k : Int) < (len : Int) := by omega
      obtain ⟨b, o, c, rfl, _, hca, hbl, _⟩ := H.out.at_ (Only.refl [] w) (by simp) hlt
      have hc3 := hca.c3
      have hsl := hca.src.1
      clear hca
      generalize c.dlen = dl at *
      by_cases h100 : (100 : Int) < (dl : Int)
      · clear hsl
        go_wp2
        go_ret
        exact ⟨_, rfl, rfl⟩
      · clear hsl
        go_wp2
        go_round
        case rel => exact ⟨k + 1, by omega, by go_num⟩
        case measure => simp [intOf]; omega
    · have hge : ¬ (k : Int) < (len : Int) := by omega
      go_wp2
      go_ret
      exact ⟨_, rfl, rfl⟩

def SameOk (w : World) (e : Ending) (w' : World) : Prop := e = .returned (.bool true) ∧ Only [] w w'

set_option maxHeartbeats 2000000 in
theorem same_any (w : World) (p bl bm B : Nat) (R : RefP) (D : DS) (K : Int) (h : PairAt w p bl bm B R D K) :
    Calls Try.prog 20 #[.pointer (some ⟨p, 0, none⟩), .pointer (some ⟨R.q, 0, none⟩)] w (SameOk w) := by
  have hsm := h.disk.small
  have hstr := empty_str
  have H := Lib.hid h
  clear h
  go_enter Try.func20, Try.ntmps20
  go_wp2_with fail
  go_loopw [5] (fun i wr => ∃ k : Nat, k ≤ D.n + 2 ∧ i = .int .i64 ((k : Int) - 1) ∧ Only [] w wr) (fun i _ => D.n + 2 - ((intOf i) + 1).toNat)
  case atStart => exact ⟨0, by omega, rfl, Only.refl _ _⟩
  case round =>
    obtain ⟨k, hk, rfl, hOk⟩ := hrel
    have hPk := H.out.more hOk
    have HP := Lib.hid hPk
    clear hPk
    by_cases hlt : k < D.n + 2
    · have hlti : (k : Int) - 1 ≤ (D.n : Int) := by omega
      go_wp2_with fail
      refine (psize _ B R D HP.out.ref).mono ?_
      rintro e w' ⟨rfl, rfl⟩
      cases hdd : D.dead with
      | true =>
        have Hdd := Lib.hid hdd
        clear hdd
        go_wp2_with fail
        refine (read_dead _ p bl bm D _ HP.out.disk Hdd.out).mono ?_
        rintro e w' ⟨rfl, rfl⟩
        go_wp2_with fail
        refine (rread_dead _ B R (refOf D) _ HP.out.ref Hdd.out).mono ?_
        rintro e w' ⟨rfl, rfl⟩
        go_wp2
        exact ⟨⟨k + 1, by omega, by go_num, hOk⟩, by simp [intOf]; omega⟩
      | false =>
        have Hdd := Lib.hid hdd
        clear hdd
        cases hh : hasB ((k : Int) - 1) D.n with
        | false =>
          have Hhh := Lib.hid hh
          clear hh
          go_wp2_with fail
          refine (read_none _ p bl bm D _ HP.out.disk Hdd.out Hhh.out).mono ?_
          rintro e w' ⟨rfl, rfl⟩
          go_wp2_with fail
          refine (rread_none _ B R (refOf D) _ HP.out.ref Hdd.out Hhh.out).mono ?_
          rintro e w' ⟨rfl, rfl⟩
          go_wp2
          exact ⟨⟨k + 1, by omega, by go_num, hOk⟩, by simp [intOf]; omega⟩
        | true =>
          have hnx : 0 ≤ (k : Int) - 1 ∧ (k : Int) - 1 < D.n := by simpa [hasB] using hh
          obtain ⟨X, hX1⟩ := Int.eq_ofNat_of_zero_le hnx.1
          have hX : X < D.n := by omega
          have hkX : k = X + 1 := by omega
          clear hh hnx
          subst hkX
          have eX : (((X + 1 : Nat) : Int) - 1) = (X : Int) := by omega
          rw [eX] at *
          clear eX hX1
          go_wp2_with fail
          refine (read_ok _ p bl bm D X HP.out.disk Hdd.out hX).mono ?_
          rintro e w3 ⟨g3, rfl, hb3, hg3, hO3⟩
          have hlen : (D.now X).length = 64 := by obtain ⟨_, _, _, _, _, _, hl⟩ := HP.out.ref.now X hX; exact hl
          have hP3 := HP.out.more hO3
          go_wp2_with fail
          refine (rread_ok _ B R (refOf D) X hP3.ref Hdd.out hX).mono ?_
          rintro e w4 ⟨g4, c4, rfl, hr4, hg4, hlt4, hO4⟩
          have q1 := conv_str w4 g3 0 64 64 (D.now X) hlen (blk_range (hb3.only hO4 (by simp)))
          have q2 := conv_str w4 g4 0 c4 64 (D.now X) hlen hr4
          generalize D.now X = bx at *
          have hOn := (hOk.andMore hO3).andMore hO4
          clear hb3 hP3 hr4 hlen hO3 hO4
          go_wp2
          exact ⟨⟨X + 1 + 1, by omega, by go_num, hOn⟩, by simp [intOf]; omega⟩
    · have hge : ¬ ((k : Int) - 1 ≤ (D.n : Int)) := by omega
      go_wp2_with fail
      refine (psize _ B R D HP.out.ref).mono ?_
      rintro e w' ⟨rfl, rfl⟩
      go_wp2_with fail
      refine (size_any _ p bl _ bm _ _ _ HP.out.disk.blk).mono ?_
      rintro e w' ⟨rfl, rfl⟩
      go_wp2_with fail
      refine (psize _ B R D HP.out.ref).mono ?_
      rintro e w' ⟨rfl, rfl⟩
      go_wp2
      go_ret
      exact ⟨rfl, hOk⟩

theorem ref_new (n : Nat) : refOf (newDS n) = { n := n, now := fun _ => zeros, last := fun _ => zeros, new := fun _ => false, dead := false, left := -1, ops := 0 } := rfl
theorem pair_new {w1 w2 : World} {p bl bm n : Nat} {R : RefP} (hD : DiskAt w1 p bl bm (newDS n)) (hR : RefAt w2 w1.heap.size R { n := n, now := fun _ => zeros, last := fun _ => zeros, new := fun _ => false, dead := false, left := -1, ops := 0 }) (hO : Only [] w1 w2) :
    PairAt w2 p bl bm w1.heap.size R (newDS n) 0 :=
  ⟨hD.more hO, by rw [ref_new]; exact hR, ⟨by show (-1 : Int) ≤ -1; omega, by show (-1 : Int) < 1000; omega, by show (0 : Int) ≤ 0; omega, by show (0 : Int) ≤ 0; omega⟩, hD.plt, hD.blt, hD.mlt⟩

set_option maxRecDepth 100000 in
set_option maxHeartbeats 4000000 in
theorem plays_walk (s : Int) (a : Option Addr) (len cap : Nat) (L : List CallR) (w : World) (h : CallsAt w a len L) :
    Calls Try.prog 3 #[.int .i64 s, .slice a len cap] w fun e w' => e = .returned (.bool true) ∧ Only [] w w' := by
  have hml := h.2.1
  unfold maxLen at hml
  have H := Lib.hid h
  clear h
  have hs0 := Int.emod_nonneg s (show (5 : Int) ≠ 0 by omega)
  have hs1 := Int.emod_lt_of_pos s (show (0 : Int) < 5 by omega)
  obtain ⟨S, hS⟩ := Int.eq_ofNat_of_zero_le hs0
  have hS5 : S < 5 := by omega
  have HS := Lib.hid hS
  clear hS hs0 hs1
  go_enter Try.func3, Try.ntmps3
  go_wp2_with fail
  refine (known_any _).mono ?_
  rintro e w0 ⟨rfl, hO0⟩
  have hz0 := hO0.size
  go_wp2_with fail
  refine (few_any _ a len cap L ?hcall).mono ?_
  case hcall =>
    obtain ⟨h1, h2, h3⟩ := H.out
    refine ⟨h1, h2, fun hp => ?_⟩
    obtain ⟨b, o, e, hb, hc⟩ := h3 hp
    exact ⟨b, o, e, by omega, fun i c hi => (hc i c hi).keep hO0 w.heap.size hb (Nat.le_refl _) (fun hp x y e => (hc i c hi).src.lt hp e) (by simp)⟩
  rintro e w' ⟨fb, rfl, rfl⟩
  cases fb with
  | false =>
    go_wp2
    go_ret
    exact ⟨rfl, hO0⟩
  | true =>
    go_wp2_with fail
    refine (within_any _ s 5 (by omega) (by omega)).mono ?_
    rintro e w' ⟨he, rfl⟩
    rw [HS.out] at he
    subst he
    go_wp2_with fail
    have e8 : (8 : Int) + 2 * (S : Int) = ((8 + 2 * S : Nat) : Int) := by omega
    rw [e8]
    refine (new_ok _ (8 + 2 * S) (by omega) (by omega) (by omega)).mono ?_
    rintro e w1 ⟨p, bl, bm, rfl, hD, hO1, hp1, hp2, hp3⟩
    clear e8
    go_wp2_with fail
    refine (rnew_ok _ (8 + 2 * S) (by omega) (by omega) (by omega)).mono ?_
    rintro e w2 ⟨R, rfl, hR, hO2⟩
    have hP := pair_new hD hR hO2
    have hO02 := (hO0.andMore hO1).andMore hO2
    have HP := Lib.hid hP
    generalize w1.heap.size = B at *
    clear hD hR hP hO1 hO2 hO0
    go_wp2_with fail
    go_loopw [10] (fun i wr => ∃ k : Nat, k ≤ 80 ∧ k ≤ len ∧ i = .int .i64 k ∧ (∃ D, PairAt wr p bl bm B R D k) ∧ Only ([p, bl, bm] ++ R.own) w wr) (fun i _ => 80 - (intOf i).toNat)
    case atStart => exact ⟨0, by omega, by omega, rfl, ⟨_, HP.out⟩, hO02.into (by simp)⟩
    case round =>
      obtain ⟨k, hk, hkl, rfl, ⟨D, hPk⟩, hOk⟩ := hrel
      have hge : ∀ j ∈ [p, bl, bm] ++ R.own, w.heap.size ≤ j := by
        intro j hj
        rcases List.mem_append.1 hj with h1 | h1
        · simp at h1; omega
        · have := own_ge hPk.ref j h1; have := hPk.pB; omega
      have Hge := Lib.hid hge
      have HPk := Lib.hid hPk
      have hpB := hPk.pB
      clear hPk HP hge
      by_cases hlt : k < len
      · have hlti : (k : Int) < (len : Int) := by omega
        by_cases h80 : k < 80
        · have h80i : (k : Int) < 80 := by omega
          obtain ⟨b, o, c, rfl, _, hca, hbl, hdl⟩ := H.out.at_ hOk Hge.out hlt
          have hc0 := hca.c0
          have hc1 := hca.c1
          have hc2 := hca.c2
          have hc3 := hca.c3
          have Hca := Lib.hid hca
          have Hdl := Lib.hid hdl
          clear hca hdl
          go_wp2_with fail
          refine (do_any _ p bl bm B w.heap.size R D k c HPk.out (by omega) Hca.out.src Hdl.out (by omega) (by omega) (by omega) (by omega)).mono ?_
          rintro e w3 ⟨rfl, ⟨D3, hP3, _⟩, hO3⟩
          clear hc0 hc1 hc2 hc3
          go_wp2
          go_roundw
          case rel => exact ⟨k + 1, by omega, by omega, by go_num, ⟨D3, hP3⟩, hOk.andSame hO3⟩
          case measure => simp [intOf]; omega
        · have h80i : ¬ (k : Int) < 80 := by omega
          go_wp2_with fail
          refine (crash_any _ p bl bm D none 0 0 [] HPk.out.disk ⟨rfl, fun h => by omega⟩ (fun h => by omega)).mono ?_
          rintro e w4 ⟨rfl, hD4, hO4⟩
          have hH4 := HPk.out.half hD4 hO4
          clear hD4
          go_wp2_with fail
          refine (rcrash_all _ B R D none 0 0 [] hH4.ref ⟨rfl, fun h => by omega⟩ (fun h => by omega)).mono ?_
          rintro e w5 ⟨rfl, hR5, hO5⟩
          have hP5 := hH4.whole hR5 hO5 (crashed_calm HPk.out.calm []) HPk.out.pB HPk.out.lB HPk.out.mB
          clear hH4 hR5
          go_wp2_with fail
          refine (same_any _ p bl bm B R _ _ hP5).mono ?_
          rintro e w6 ⟨rfl, hO6⟩
          go_wp2
          go_ret
          exact ⟨rfl, (((hOk.trans hO4).trans hO5).trans hO6).into (fun j hj => .inr (Hge.out j (by simpa [or_assoc, or_comm, or_left_comm] using hj)))⟩
      · have hge2 : ¬ (k : Int) < (len : Int) := by omega
        go_wp2_with fail
        refine (crash_any _ p bl bm D none 0 0 [] HPk.out.disk ⟨rfl, fun h => by omega⟩ (fun h => by omega)).mono ?_
        rintro e w4 ⟨rfl, hD4, hO4⟩
        have hH4 := HPk.out.half hD4 hO4
        clear hD4
        go_wp2_with fail
        refine (rcrash_all _ B R D none 0 0 [] hH4.ref ⟨rfl, fun h => by omega⟩ (fun h => by omega)).mono ?_
        rintro e w5 ⟨rfl, hR5, hO5⟩
        have hP5 := hH4.whole hR5 hO5 (crashed_calm HPk.out.calm []) HPk.out.pB HPk.out.lB HPk.out.mB
        clear hH4 hR5
        go_wp2_with fail
        refine (same_any _ p bl bm B R _ _ hP5).mono ?_
        rintro e w6 ⟨rfl, hO6⟩
        go_wp2
        go_ret
        exact ⟨rfl, (((hOk.trans hO4).trans hO5).trans hO6).into (fun j hj => .inr (Hge.out j (by simpa [or_assoc, or_comm, or_left_comm] using hj)))⟩

end Go.Proofs.Ytlnmpbfalflbgaa
