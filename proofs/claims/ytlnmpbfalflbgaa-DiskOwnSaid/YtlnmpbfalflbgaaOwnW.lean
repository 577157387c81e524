/-
  The walk of the law DiskOwn: it returns true, whatever its number, bytes and byte are, and turns nothing that was there.
-/
import Derived.Test.YtlnmpbfalflbgaaDiskH
namespace Go.Proofs.Ytlnmpbfalflbgaa
open Go.RowKit

set_option maxHeartbeats 2000000 in
theorem own_walk (n : Int) (a : Option Addr) (len cap : Nat) (l : List UInt8) (x : Int) (w : World) (h : Src w a len l) :
    Calls Try.prog 7 #[.int .i64 n, .slice a len cap, .int .u8 x] w fun e w' => e = .returned (.bool true) ∧ Only [] w w' := by
  have hk0 := Int.emod_nonneg n (show (8 : Int) ≠ 0 by omega)
  have hk1 := Int.emod_lt_of_pos n (show (0 : Int) < 8 by omega)
  obtain ⟨k, hk⟩ := Int.eq_ofNat_of_zero_le hk0
  have hk8 : k < 8 := by omega
  have Hk := Lib.hid hk
  have H := Lib.hid h
  clear hk hk0 hk1 h
  go_enter Try.func7, Try.ntmps7
  go_wp2_with fail
  refine (known_any _).mono ?_
  rintro e w0 ⟨rfl, hO0⟩
  go_wp2_with fail
  refine (new_ok _ 8 (by omega) (by omega) (by omega)).mono ?_
  rintro e w1 ⟨p, bl, bm, rfl, hD, hO1, hp1, hp2, hp3⟩
  have hO01 := hO0.then hO1 [] (by simp) (by simp)
  go_wp2_with fail
  refine (sector_any _ n a len cap l (H.out.more hO01)).mono ?_
  rintro e w2 ⟨g, rfl, hb2, hg2, hO2⟩
  have hcv := conv_str w2 g 0 64 64 (secB n l) (length_secB n l) (blk_range hb2)
  have hD2 := hD.more hO2
  have hlt1 := hD.plt
  have hlt2 := hD.blt
  have hlt3 := hD.mlt
  have Hlen := Lib.hid (length_secB n l)
  generalize secB n l = sb at *
  go_wp2_with fail
  refine (within_any _ n 8 (by omega) (by omega)).mono ?_
  rintro e w' ⟨he, rfl⟩
  rw [Hk.out] at he
  subst he
  go_wp2_with fail
  refine (write_ok _ p bl bm _ k g 0 64 sb hD2 rfl hk8 (by decide) (by decide) (by decide) (by decide) (by decide) Hlen.out (blk_range hb2) hb2.lt (by omega)).mono ?_
  rintro e w3 ⟨rfl, hD3, hO3⟩
  have hb3 := hb2.only hO3 (by simp; omega)
  obtain ⟨v0, hv0⟩ : ∃ v : UInt8, (bv sb)[0]? = some (.int .u8 v.toNat) := by
    have hl := Hlen.out
    exact ⟨sb[0]'(by omega), by simp [bv, List.getElem?_eq_getElem (show 0 < sb.length by omega)]⟩
  have hc3 : w3.cell? ⟨g, 0, none⟩ = some (.int .u8 v0.toNat) := by rw [hb3.cell]; simpa using hv0
  have hf3 := hb3.notFrozen 0
  clear hcv
  go_wp2_with fail
  have hO4 : Only [g] w3 (w3.setCell ⟨g, 0, none⟩ (.int .u8 (((v0.toNat : Int) + x) % 256))) := (Only.refl _ _).setCell (by simp) _
  have hD4 := hD3.keep hO4 (by simp; omega) (by simp; omega) (by simp; omega)
  clear hc3 hf3
  generalize w3.setCell ⟨g, 0, none⟩ (.int .u8 (((v0.toNat : Int) + x) % 256)) = w4 at *
  have hnow : ({ newDS 8 with }.put (burnt (newDS 8).fuse) ((newDS 8).ops + 1) k sb).now k = sb := by simp [DS.put, DS.now]
  have Hnow := Lib.hid hnow
  clear hnow hv0
  refine (read_ok _ p bl bm _ k hD4 rfl hk8).mono ?_
  rintro e w5 ⟨g5, rfl, hb5, hg5, hO5⟩
  have hnw := Hnow.out
  rw [hnw] at hb5
  clear hnw
  have hcv5 := conv_str w5 g5 0 64 64 sb Hlen.out (blk_range hb5)
  have hD5 := hD4.more hO5
  obtain ⟨v5, hv5⟩ : ∃ v : UInt8, (bv sb)[0]? = some (.int .u8 v.toNat) := by
    have hl := Hlen.out
    exact ⟨sb[0]'(by omega), by simp [bv, List.getElem?_eq_getElem (show 0 < sb.length by omega)]⟩
  have hc5 : w5.cell? ⟨g5, 0, none⟩ = some (.int .u8 v5.toNat) := by rw [hb5.cell]; simpa using hv5
  have hf5 := hb5.notFrozen 0
  clear hv5
  go_wp2_with fail
  have hO6 : Only [g5] w5 (w5.setCell ⟨g5, 0, none⟩ (.int .u8 (((v5.toNat : Int) + x) % 256))) := (Only.refl _ _).setCell (by simp) _
  have hz2 := hO2.size
  have hz3 := hO3.size
  have hz4 := hO4.size
  have hD6 := hD5.keep hO6 (by simp; omega) (by simp; omega) (by simp; omega)
  clear hc5 hf5 hcv5
  generalize w5.setCell ⟨g5, 0, none⟩ (.int .u8 (((v5.toNat : Int) + x) % 256)) = w6 at *
  refine (read_ok _ p bl bm _ k hD6 rfl hk8).mono ?_
  rintro e w7 ⟨g7, rfl, hb7, hg7, hO7⟩
  have hnw := Hnow.out
  rw [hnw] at hb7
  clear hnw
  have hcv7 := conv_str w7 g7 0 64 64 sb Hlen.out (blk_range hb7)
  go_wp2
  go_ret
  have hz0 := hO0.size
  have hz1 := hO1.size
  refine ⟨rfl, ((((((hO01.trans hO2).trans hO3).trans hO4).trans hO5).trans hO6).trans hO7).into ?_⟩
  simp
  omega

end Go.Proofs.Ytlnmpbfalflbgaa
