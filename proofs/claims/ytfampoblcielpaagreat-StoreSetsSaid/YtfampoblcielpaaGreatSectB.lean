/-
  The sums, and small functions of the package sect and of the reference, by contracts.
-/
import Derived.Test.YtfampoblcielpaaGreatChecked
import Derived.Test.YtfampoblcielpaaGreatSectA
import Derived.Test.YtfampoblcielpaaGreatLaws
import Derived.WalkSpells
import Derived.WalkLawsBesides
import Derived.Laws.BytesArg
import Derived.Laws.OwnMore
namespace Go.Proofs.YtfampoblcielpaaGreat
set_option linter.unusedVariables false
set_option maxRecDepth 100000
open Go.RowKit

theorem step_sect (d : Nat) (h : d < 4294967296) : bits .xor .u32 ((d : Int) / 2) (3988292384 * bits .and .u32 (d : Int) 1 % 4294967296) = (stepC d : Int) := by
  have e1 : bits .and .u32 (d : Int) 1 = ((d % 2 : Nat) : Int) := by
    have := u32_and_nat d 1 h (by omega); rw [nat_mask1] at this; exact this
  rw [e1]
  have e2 : (3988292384 * ((d % 2 : Nat) : Int) % 4294967296) = ((if d % 2 = 1 then 3988292384 else 0 : Nat) : Int) := by
    rcases Nat.mod_two_eq_zero_or_one d with h2 | h2 <;> simp [h2]
  rw [e2, show (d : Int) / 2 = ((d / 2 : Nat) : Int) by omega, u32_xor_nat _ _ (by omega) (by split <;> decide)]
  rfl
theorem and_one (d : Nat) (h : d < 4294967296) : bits .and .u32 (d : Int) 1 = ((d % 2 : Nat) : Int) := by
  have := u32_and_nat d 1 h (by omega); rw [nat_mask1] at this; exact this
theorem step_ref (d : Nat) (h : d < 4294967296) (h1 : d % 2 = 1) : bits .xor .u32 ((d : Int) / 2) 3988292384 = (stepC d : Int) := by
  rw [show (d : Int) / 2 = ((d / 2 : Nat) : Int) by omega]
  have := u32_xor_nat (d / 2) 3988292384 (by omega) (by omega)
  simp only [stepC, h1, if_true]
  exact this
theorem step_ref0 (d : Nat) (h1 : d % 2 = 0) : ((d : Int) / 2) = (stepC d : Int) := by
  simp only [stepC, h1]; simp
theorem not_sum (c : Nat) (h : c < 4294967296) : bits .xor .u32 IntKind.u32.max (c : Int) = ((c ^^^ 4294967295 : Nat) : Int) := by
  have := u32_xor_nat 4294967295 c (by omega) h
  rw [Nat.xor_comm] at this
  exact this
theorem xor_sum (c : Nat) (h : c < 4294967296) : bits .xor .u32 (c : Int) 4294967295 = ((c ^^^ 4294967295 : Nat) : Int) := u32_xor_nat c 4294967295 h (by omega)

set_option maxHeartbeats 1000000 in
theorem crc_any (w : World) (a : Option Addr) (len cap : Nat) (l : List UInt8) (h : Src w a len l) (hl : len ≤ 1000000) :
    Calls Tryz.prog 76 #[.slice a len cap] w fun e w' => e = .returned (.int .u32 (crcN l)) ∧ w = w' := by
  have H := Lib.hid h
  clear h
  go_enter Tryz.func76, Tryz.ntmps76
  go_wp2
  go_loopw [3, 9] (fun s i wr => ∃ k : Nat, k ≤ len ∧ i = .int .i64 k ∧ s = .int .u32 (rawC 4294967295 (l.take k)) ∧ w = wr) (fun _ i _ => len - (intOf i).toNat)
  case atStart => exact ⟨0, Nat.zero_le _, rfl, rfl, rfl⟩
  case round =>
    obtain ⟨k, hk, rfl, rfl, rfl⟩ := hrel
    have hb := rawC_lt (l.take k) (show 4294967295 < 4294967296 by omega)
    by_cases hlt : k < len
    · have hlti : (k : Int) < (len : Int) := by omega
      have hkl : k < l.length := by rw [H.out.1]; exact hlt
      obtain ⟨b, o, rfl, hbb, hr⟩ := H.out.2 (by omega)
      have hc := Src.cell hr k hkl
      have hs := Lib.hid (rawC_take 4294967295 l k hkl)
      generalize hv : l[k] = v at *
      have hvb : v.toNat < 256 := v.toNat_lt
      clear hv
      generalize rawC 4294967295 (l.take k) = c at *
      have hx : bits .xor .u32 (c : Int) (v.toNat : Int) = ((c ^^^ v.toNat : Nat) : Int) := u32_xor_nat _ _ hb (by omega)
      have hx2 : c ^^^ v.toNat < 4294967296 := xor_lt32 hb (by omega)
      go_wp2
      go_loopw [3, 17] (fun s i wr => ∃ j : Nat, j ≤ 8 ∧ i = .int .i64 j ∧ s = .int .u32 (stepsC j (c ^^^ v.toNat)) ∧ w = wr) (fun _ i _ => 8 - (intOf i).toNat)
      case atStart => exact ⟨0, Nat.zero_le _, rfl, rfl, rfl⟩
      case round =>
        obtain ⟨j, hj, rfl, rfl, rfl⟩ := hrel
        have hb2 := stepsC_lt j hx2
        by_cases hlt8 : j < 8
        · have hlti8 : (j : Int) < 8 := by omega
          have hs2 : Hid (stepsC (j + 1) (c ^^^ v.toNat) = stepC (stepsC j (c ^^^ v.toNat))) := Lib.hid rfl
          generalize stepsC j (c ^^^ v.toNat) = d at *
          go_wp2
          go_roundw
          case rel => exact ⟨j + 1, by omega, by go_num, by rw [hs2.out, step_sect d hb2], trivial⟩
          case measure => simp [intOf]; omega
        · have hge8 : ¬ (j : Int) < 8 := by omega
          obtain rfl : j = 8 := by omega
          go_wp2
          go_roundw
          case rel => exact ⟨k + 1, by omega, by go_num, by rw [hs.out]; rfl, trivial⟩
          case measure => simp [intOf]; omega
    · have hge : ¬ (k : Int) < (len : Int) := by omega
      obtain rfl : k = len := by omega
      have hn := Lib.hid (not_sum _ hb)
      have ht : Hid (l.take k = l) := Lib.hid (List.take_of_length_le (by rw [H.out.1]; exact Nat.le_refl _))
      go_wp2
      go_ret
      refine ⟨ret_int ?_, rfl⟩
      rw [hn.out, ht.out]
      rfl

theorem tmod_bounds (x : Int) (n : Nat) (hn0 : 0 < n) : -(n : Int) < x.tmod n ∧ x.tmod n < n ∧ (0 ≤ x.tmod n → x.tmod n = x % n) ∧ (x.tmod n < 0 → x.tmod n + n = x % n) := by
  have h1 := Int.tmod_lt_of_pos x (show (0 : Int) < n by omega)
  have h2 := Int.lt_tmod_of_pos x (show (0 : Int) < n by omega)
  have h3 : (x.tmod n) % (n : Int) = x % n := by rw [Int.tmod_eq_emod]; split <;> simp
  refine ⟨h2, h1, fun h => ?_, fun h => ?_⟩
  · rw [← h3]; exact (Int.emod_eq_of_lt h h1).symm
  · rw [← h3, ← Int.add_emod_right]; exact (Int.emod_eq_of_lt (by omega) (by omega)).symm

theorem partsFor_any (w : World) (n : Nat) (hn : n < 1000000000000) :
    Calls Tryz.prog 56 #[.int .i64 n] w fun e w' => e = .returned (.int .i64 ((n + 55) / 52 : Nat)) ∧ w = w' := by
  go_enter Tryz.func56, Tryz.ntmps56
  go_wp2
  go_ret
  refine ⟨ret_int ?_, rfl⟩
  omega

set_option maxHeartbeats 400000 in
theorem mayMark_any (w : World) (g r : Int) : Calls Tryz.prog 55 #[.int .i64 g, .int .i64 r] w fun e w' => e = .returned (.bool (mayB g r)) ∧ w = w' := by
  unfold mayB
  by_cases h1 : 1 ≤ g <;> by_cases h2 : g ≤ 4294967295 <;> by_cases h3 : 0 ≤ r <;> by_cases h4 : r ≤ 65535
  all_goals
    go_enter Tryz.func55, Tryz.ntmps55
    go_wp2
    go_ret
    refine ⟨ret_bool ?_, rfl⟩
    simp [h1, h2, h3, h4]

end Go.Proofs.YtfampoblcielpaaGreat
