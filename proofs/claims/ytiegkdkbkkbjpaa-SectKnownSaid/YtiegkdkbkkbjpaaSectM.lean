/-
  The walk of the law SectLong.
-/
import Derived.Test.YtiegkdkbkkbjpaaSectL
namespace Go.Proofs.Ytiegkdkbkkbjpaa
open Go.RowKit

theorem whole_nul (b : List UInt8) (x : Nat) (h1 : 4 + b.length ≤ x) (h2 : x < partsN b.length * 52) : (wholeB b)[x]? = some 0 := by
  have hl := length_wholeB b
  have : (wholeB b)[x]? = ((wholeB b).drop 4)[x - 4]? := by rw [List.getElem?_drop]; congr 1; omega
  rw [this, drop4_whole, List.getElem?_append_right (by omega), List.getElem?_replicate, if_pos (by omega)]
theorem blk_setB {w : World} {g i : Nat} {L : List UInt8} (h : IsBlk w g (.cells (bv L).toArray 5)) (z : Int) :
    ∃ L' : List UInt8, L'.length = L.length ∧ IsBlk (w.setCell ⟨g, i, none⟩ (.int .u8 (z % 256))) g (.cells (bv L').toArray 5) := by
  have h0 := Int.emod_nonneg z (show (256 : Int) ≠ 0 by omega)
  have h1 := Int.emod_lt_of_pos z (show (0 : Int) < 256 by omega)
  obtain ⟨t, ht⟩ := Int.eq_ofNat_of_zero_le h0
  refine ⟨L.set i (UInt8.ofNat t), by simp, ?_⟩
  have ht2 : t < 256 := by omega
  rw [ht]
  exact blk_put8 h t ht2

set_option maxHeartbeats 8000000 in
theorem long_walk (n gen : Int) (w : World) :
    Calls Try.prog 10 #[.int .i64 n, .int .i64 gen] w fun e w' => e = .returned (.bool true) ∧ Only [] w w' := by
  have hn0 := Int.emod_nonneg n (show (13262 : Int) ≠ 0 by omega)
  have hn1 := Int.emod_lt_of_pos n (show (0 : Int) < 13262 by omega)
  have hg0 := Int.emod_nonneg gen (show (99 : Int) ≠ 0 by omega)
  have hg1 := Int.emod_lt_of_pos gen (show (0 : Int) < 99 by omega)
  obtain ⟨k, hk⟩ := Int.eq_ofNat_of_zero_le hn0
  have Hk := Lib.hid hk
  have hk2 : k < 13262 := by omega
  clear hk hn0 hn1
  have hmk := fun W => make_bytes W k (by omega)
  go_enter Try.func10, Try.ntmps10
  go_wp2_with fail
  refine (known_any _).mono ?_
  rintro e w1 ⟨rfl, hO1⟩
  have HO1 := Lib.hid hO1
  have hsz1 := hO1.size
  clear hO1
  go_wp2_with fail
  refine (within_any _ n 13262 (by omega) (by omega)).mono ?_
  rw [Hk.out]
  rintro e w' ⟨rfl, rfl⟩
  go_wp2_with fail
  go_loopw [7] (fun i wr => ∃ j : Nat, j ≤ k ∧ i = .int .i64 j ∧ (∃ L : List UInt8, L.length = k ∧ IsBlk wr w1.heap.size (.cells (bv L).toArray 5)) ∧ Only [w1.heap.size] w1 wr) (fun i _ => k - (intOf i).toNat)
  case atStart => exact ⟨0, Nat.zero_le _, rfl, ⟨_, by simp, IsBlk.made w1 (.cells (bv (List.replicate k 0)).toArray 5)⟩, (Only.refl _ _).alloc _⟩
  case round =>
    obtain ⟨j, hj, rfl, ⟨L, hL, hb⟩, hOr⟩ := hrel
    have Hb := Lib.hid hb
    have HL := Lib.hid hL
    have HOr := Lib.hid hOr
    clear hOr hmk
    by_cases hlt : j < k
    · have hlti : (j : Int) < (k : Int) := by omega
      obtain ⟨u, hc⟩ : ∃ u : Nat, wr.cell? ⟨w1.heap.size, j, none⟩ = some (.int .u8 (u : Int)) := ⟨_, (hb.cell j).trans (bv_getElem L j (by omega))⟩
      have hf := hb.notFrozen j
      clear hb hL
      go_wp2
      go_roundw
      case rel =>
        obtain ⟨L', hL', hb'⟩ := blk_setB (i := j) Hb.out ((j : Int) * 7 + 1)
        exact ⟨j + 1, by omega, by go_num, ⟨L', by rw [hL', HL.out], hb'⟩, HOr.out.setCell (by simp) _⟩
      case measure => simp [intOf]; omega
    · have hge : ¬ (j : Int) < (k : Int) := by omega
      obtain rfl : j = k := by omega
      have hO2 : Only [] w wr := HO1.out.then HOr.out [] (by simp) (by simp; omega)
      have hs2 := src_blk hb 0 j (by omega)
      rw [List.drop_zero, List.take_of_length_le (by omega)] at hs2
      have Hs2 := Lib.hid hs2
      have HO2 := Lib.hid hO2
      clear hb hs2 hO2 HOr HO1 hL
      go_wp2_with fail
      refine (within_any _ gen 99 (by omega) (by omega)).mono ?_
      rintro e w' ⟨rfl, rfl⟩
      generalize gen % 99 = G at *
      have hm : mayB (1 + G) 3 = true := mayB_iff.2 ⟨by omega, by omega, by omega, by omega⟩
      have Hm := Lib.hid hm
      clear hm
      by_cases hbig : j > 13256
      · have hbi : (13256 : Int) < (j : Int) := by omega
        go_wp2_with fail
        refine (cut_long _ (1 + G) 3 _ j _ Hm.out (by unfold partsN; omega) (by omega)).mono ?_
        rintro e w' ⟨rfl, rfl⟩
        go_wp2
        go_ret
        exact ⟨rfl, HO2.out⟩
      · have hbi : ¬ (13256 : Int) < (j : Int) := by omega
        have hL2 := HL.out
        subst hL2
        have hkp : partsN L.length ≤ 255 := partsN_small (by omega)
        go_wp2_with fail
        refine (cut_ok _ (1 + G) 3 _ _ L Hs2.out Hm.out hkp).mono ?_
        rintro e w3 ⟨gl, gw, rfl, hps, hbw, hw1, hw2, hw3, hO3⟩
        have hC3 : CutAt w3 gl gw (1 + G) 3 L (partsN L.length) := ⟨hps, hbw, hw3, rfl⟩
        have hO3' : Only [] w w3 := HO2.out.then hO3 [] (by simp) (by simp)
        have hle := partsN_le L.length
        have hdiv : ((L.length : Int) + 4 + 51) / 52 = (partsN L.length : Int) := by unfold partsN; omega
        have hne : ((partsN L.length : Int) != ((L.length : Int) + 4 + 51) / 52) = false := by rw [hdiv]; simp
        have hused : partsN L.length * 52 < 4 + L.length + 52 := by unfold partsN; omega
        have hposN : 0 < partsN L.length := partsN_pos _
        have hlast := hps (partsN L.length - 1) (by omega) 4 _ rfl
        have hwn := Lib.hid (fun x h1 h2 => whole_nul L x h1 h2)
        have hs3 := Lib.hid (Hs2.out.more hO3)
        have hwl := Lib.hid (length_wholeB L)
        generalize hN : partsN L.length = N at *
        have HN := Lib.hid hN
        have hlast' : w3.cell? ⟨gl, (N - 1) * 5 + 4, none⟩ = some (.slice (some ⟨gw, (N - 1) * 52, none⟩) 52 52) := hlast
        have HC3 := Lib.hid hC3
        have HO3 := Lib.hid hO3'
        have Hbw := Lib.hid hbw
        clear hps hbw hC3 hO3' hO3 Hs2 HO2 Hb hN hlast hdiv
        have hNi : ((N : Int) - 1) < (N : Int) := by omega
        have hNi0 : (0 : Int) ≤ (N : Int) - 1 := by omega
        have hNt : ((N : Int) - 1).toNat = N - 1 := by omega
        go_wp2_with fail
        go_loopw [12] (fun i wr => ∃ j : Nat, L.length + 4 ≤ 52 * (N - 1) + j ∧ j ≤ 52 ∧ i = .int .i64 j ∧ w3 = wr) (fun i _ => 52 - (intOf i).toNat)
        case atStart => exact ⟨L.length + 4 - 52 * (N - 1), by omega, by omega, by go_num, rfl⟩
        case round =>
          obtain ⟨j, hj1, hj2, rfl, rfl⟩ := hrel
          by_cases hlt : j < 52
          · have hlti : (j : Int) < 52 := by omega
            have hz : w3.cell? ⟨gw, (N - 1) * 52 + j, none⟩ = some (.int .u8 0) := by
              have h0 := hwn.out ((N - 1) * 52 + j) (by omega) (by omega)
              rw [Hbw.out.cell]
              simp [bv, h0]
            go_wp2
            go_roundw
            case rel => exact ⟨j + 1, by omega, by omega, by go_num, trivial⟩
            case measure => simp [intOf]; omega
          · have hge : ¬ (j : Int) < 52 := by omega
            obtain rfl : j = 52 := by omega
            go_wp2_with fail
            refine (join_any _ _ N N _ HC3.out.parts (by omega)).mono ?_
            rw [join_cut (b := L) Hm.out (by rw [HN.out]; exact hkp)]
            rintro e w5 ⟨ja, rfl, hsj, _, hO5⟩
            have hO5' : Only [] w w5 := HO3.out.then hO5 [] (by simp) (by simp)
            have cv1 := conv_src w5 ja L.length L.length L hsj
            have cv2 := fun c => conv_src w5 _ L.length c L (hs3.out.more hO5)
            have HO5 := Lib.hid hO5'
            clear hsj hO5 hO5'
            go_wp2
            go_ret
            exact ⟨rfl, HO5.out⟩

end Go.Proofs.Ytiegkdkbkkbjpaa
