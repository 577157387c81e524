/-
  The walk of the law WalRoom: it returns true, whatever its two numbers are, and turns nothing that was there.
-/
import Derived.Test.YtdfnclfmmohpeaaWalK
import Derived.Deep.DeepCutAuto
namespace Go.Proofs.Ytdfnclfmmohpeaa
set_option maxRecDepth 100000
open Go.RowKit

theorem src_noughts {W : World} (s : Nat) (t : TypeId) : Src (W.alloc (.cells (bv (List.replicate s 0)).toArray t)) (some ⟨W.heap.size, 0, none⟩) (List.replicate s (0 : UInt8)).length (List.replicate s 0) := src_new W (List.replicate s 0) t _ rfl

set_option maxHeartbeats 4000000 in
theorem room_walk (sectors n : Int) (w : World) :
    Calls Try.prog 7 #[.int .i64 sectors, .int .i64 n] w fun e w' => e = .returned (.bool true) ∧ Only [] w w' := by
  go_enter Try.func7, Try.ntmps7
  go_wp2_with fail
  refine (known_any _).mono ?_
  rintro e w0 ⟨rfl, hO0⟩
  go_wp2_with fail
  refine (within_to _ sectors 13 (by omega) (by omega)).mono ?_
  rintro e w' ⟨m, rfl, hm, -, rfl⟩
  go_wp2_with fail
  have ek : (8 : Int) + 2 * (m : Int) = ((2 * (m + 4) : Nat) : Int) := by omega
  rw [ek]
  clear ek
  refine (new_even _ (m + 4) (by omega) (by omega)).mono ?_
  rintro e w1 ⟨pd, bl, bm, rfl, hD, hO1, hp1, hp2, hp3⟩
  generalize hM : m + 4 = M at *
  have hM1 : 4 ≤ M ∧ M ≤ 16 := by omega
  clear hM hm
  have hO1' := hO0.plus hO1
  have hsz0 := hO0.size
  have hsz1 := hO1.size
  have Hsz := Lib.hid (show w.heap.size ≤ pd ∧ w.heap.size ≤ bl ∧ w.heap.size ≤ bm by omega)
  clear hO0 hO1 hp1 hp2 hp3
  go_wp2_with fail
  refine (opened_new _ pd bl bm M hD).mono ?_
  rintro e w2 ⟨lp, a, cap, rfl, hN, hlp, hO2⟩
  have hlpw : Hid (w.heap.size ≤ lp) := Lib.hid (by omega)
  have HN := Lib.hid hN
  have HO := Lib.hid (hO1'.plus hO2)
  clear hN hO2 hO1' hD hlp hsz0 hsz1
  go_wp2_with fail
  refine (within_to _ n 7 (by omega) (by omega)).mono ?_
  rintro e w' ⟨j, rfl, hj, -, rfl⟩
  have hdiv : ((2 * M : Nat) : Int) / 2 = (M : Int) := by omega
  clear hdiv
  obtain ⟨s, hs⟩ : ∃ s : Nat, s = M * 52 - 7 + j := ⟨_, rfl⟩
  obtain ⟨b, hb⟩ : ∃ b : List UInt8, b = List.replicate s 0 := ⟨_, rfl⟩
  have hbl : b.length = s := by rw [hb]; simp
  subst hbl
  have hsi : (b.length : Int) = (M : Int) * 52 - 4 - 3 + (j : Int) := by omega
  have hmk := fun W => make_bytes W b.length (by omega)
  rw [hsi] at hmk
  rw [← hb] at hmk
  have hpn : partsN b.length = (b.length + 55) / 52 := rfl
  have Hs := Lib.hid hs
  have Hpn := Lib.hid hpn
  have Hsi := Lib.hid hsi
  clear hsi hs hb hpn
  go_wp2_with fail
  have hsrc := src_new w2 b 5 _ rfl
  have hA := (Only.refl [] w2).alloc (.cells (bv b).toArray 5)
  have HN1 := Lib.hid (HN.out.more hA)
  have HO1 := Lib.hid (HO.out.plus hA)
  generalize w2.alloc (.cells (bv b).toArray 5) = w3 at *
  generalize hgb : w2.heap.size = gb at *
  clear hA HN HO hmk
  have hb255 : partsN b.length ≤ 255 := by have := Hpn.out; have := Hs.out; omega
  refine (fits_any _ lp pd _ _ _ b HN1.out.log hsrc hb255).mono ?_
  rintro e w4 ⟨rfl, hO4⟩
  have HN4 := Lib.hid (HN1.out.more hO4)
  have HO4 := Lib.hid (HO1.out.plus hO4)
  have hs4 := Lib.hid (hsrc.more hO4)
  clear hO4 HN1 HO1 hsrc
  by_cases hj3 : j ≤ 3
  · have hfit : partsN b.length ≤ M := by have := Hpn.out; have := Hs.out; omega
    have hf1 : decide (partsN b.length ≤ M) = true := decide_eq_true hfit
    have hc1 : ((M : Int) * 52 - 4 - 3 + (j : Int) ≤ (M : Int) * 52 - 4) := by omega
    have hc2 : ¬ ((M : Int) * 52 - 4 < (M : Int) * 52 - 4 - 3 + (j : Int)) := by omega
    simp only [hf1]
    go_wp2_with fail
    refine (freshened_new _ lp pd bl bm M _ _ b HN4.out hs4.out hb255 hfit).mono ?_
    rintro e w5 ⟨rfl, D', hW, hO5⟩
    have hpM : partsN b.length = M := by have := Hpn.out; have := Hs.out; omega
    rw [hpM] at hW
    have HW := Lib.hid hW
    have HO5 := Lib.hid (HO4.out.then hO5 [] (by simp) (by have := Hsz.out; have := hlpw.out; simp; omega))
    clear hW hO5 HO4 HN4 hs4 hpM hf1 hfit hb255 Hpn Hs Hsi
    go_wp2_with fail
    refine (app_no _ lp pd bl bm D' _ [b] _ none 0 [] HW.out ⟨rfl, fun h => by simp at h⟩ (by decide) (by omega) (by omega) (by show M < M + 1; omega)).mono ?_
    rintro e w6 ⟨rfl, hW6, hO6⟩
    have hO6' := HO5.out.then hO6 [] (by simp) (by have := Hsz.out; have := hlpw.out; simp; omega)
    have hops := hW6.live.ops
    have hblk := hW6.disk.blk
    rw [hops] at hblk
    clear hW6 HW HO5 hO6 hops
    go_wp2_with (go_at_call 18; refine (ops_any _ pd bl _ bm _ _ _ hblk).mono ?_; rintro e w' ⟨rfl, rfl⟩)
    go_ret
    exact ⟨rfl, hO6'⟩
  · have hfit : M < partsN b.length := by have := Hpn.out; have := Hs.out; omega
    have hf1 : decide (partsN b.length ≤ M) = false := decide_eq_false (by omega)
    have hc1 : ¬ ((M : Int) * 52 - 4 - 3 + (j : Int) ≤ (M : Int) * 52 - 4) := by omega
    have hc2 : ((M : Int) * 52 - 4 < (M : Int) * 52 - 4 - 3 + (j : Int)) := by omega
    simp only [hf1]
    go_wp2_with fail
    refine (fresh_full _ lp pd bl bm M _ _ b HN4.out hs4.out hb255 hfit).mono ?_
    rintro e w5 ⟨rfl, hW, hO5⟩
    have hO5' := HO4.out.then hO5 [] (by simp) (by have := Hsz.out; have := hlpw.out; simp; omega)
    have hblk : DBlk w5 pd bl (2 * M) bm (-1) false 0 := hW.disk.blk
    clear hW hO5 HO4 HN4 hs4
    go_wp2_with (go_at_call 18; refine (ops_any _ pd bl _ bm _ _ _ hblk).mono ?_; rintro e w' ⟨rfl, rfl⟩)
    go_ret
    exact ⟨rfl, hO5'⟩

end Go.Proofs.Ytdfnclfmmohpeaa
