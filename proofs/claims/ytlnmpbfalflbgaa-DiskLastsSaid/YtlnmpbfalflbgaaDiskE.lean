/-
  Flush of a disk that is dead or dies of it; the laws' small helpers known and within.
-/
import Derived.Test.YtlnmpbfalflbgaaDiskD
namespace Go.Proofs.Ytlnmpbfalflbgaa
open Go.RowKit

set_option maxHeartbeats 400000 in
theorem flush_dead (w : World) (p bl bm : Nat) (D : DS) (h : DiskAt w p bl bm D) (hd : D.dead = true) :
    Calls Try.prog 26 #[.pointer (some ⟨p, 0, none⟩)] w fun e w' => e = .returned (.int .i64 3) ∧ w = w' := by
  have c3 := h.blk.c3
  rw [hd] at c3
  clear hd
  go_enter Try.func26, Try.ntmps26
  go_wp2
  go_ret
  exact ⟨rfl, rfl⟩

set_option maxHeartbeats 400000 in
theorem flush_spent (w : World) (p bl bm : Nat) (D : DS) (h : DiskAt w p bl bm D) (hd : D.dead = false) (hf : D.fuse = 0) :
    Calls Try.prog 26 #[.pointer (some ⟨p, 0, none⟩)] w fun e w' => e = .returned (.int .i64 3) ∧ DiskAt w' p bl bm { D with fuse := 0, dead := true, ops := D.ops } ∧ Only [p] w w' := by
  have hb2 := h.blk
  have c3 := h.blk.c3
  rw [hd] at c3
  rw [hf] at hb2
  clear hd hf
  go_enter Try.func26, Try.ntmps26
  go_wp2_with (go_at_call 38; refine (burn_spent _ p bl _ bm _ _ hb2).mono ?_; rintro e w1 ⟨rfl, hb1, hO⟩)
  go_ret
  exact ⟨rfl, h.reblk hO 0 true D.ops hb1, hO⟩

set_option maxHeartbeats 400000 in
theorem known_any (w : World) : Calls Try.prog 12 #[] w fun e w' => e = .returned (.bool true) ∧ Only [] w w' := by
  go_enter Try.func12, Try.ntmps12
  go_wp2_with (first
    | (go_at_call 15; refine (new_ok _ 8 (by omega) (by omega) (by omega)).mono ?_; rintro e w1 ⟨p, bl, bm, rfl, hD, hO, _, _, _⟩)
    | (go_at_call 22; refine (size_any _ p bl _ bm _ _ _ hD.blk).mono ?_; rintro e w' ⟨rfl, rfl⟩))
  go_ret
  exact ⟨rfl, hO⟩

theorem tmod_bounds (x : Int) (n : Nat) (hn0 : 0 < n) : -(n : Int) < x.tmod n ∧ x.tmod n < n ∧ (0 ≤ x.tmod n → x.tmod n = x % n) ∧ (x.tmod n < 0 → x.tmod n + n = x % n) := by
  have h1 := Int.tmod_lt_of_pos x (show (0 : Int) < n by omega)
  have h2 := Int.lt_tmod_of_pos x (show (0 : Int) < n by omega)
  have h3 : (x.tmod n) % (n : Int) = x % n := by rw [Int.tmod_eq_emod]; split <;> simp
  refine ⟨h2, h1, fun h => ?_, fun h => ?_⟩
  · rw [← h3]; exact (Int.emod_eq_of_lt h h1).symm
  · rw [← h3, ← Int.add_emod_right]; exact (Int.emod_eq_of_lt (by omega) (by omega)).symm

set_option maxHeartbeats 400000 in
theorem within_nat (w : World) (x : Int) (n : Nat) (hn0 : 0 < n) (hn : n < 1000000) :
    Calls Try.prog 14 #[.int .i64 x, .int .i64 n] w fun e w' => e = .returned (.int .i64 (x % n)) ∧ w = w' := by
  obtain ⟨h1, h2, h3, h4⟩ := tmod_bounds x n hn0
  have H3 := Lib.hid h3
  have H4 := Lib.hid h4
  clear h3 h4
  have hnz : ((n : Int) == 0) = false := by simp; omega
  by_cases hs : x.tmod n < 0
  · have e1 := H4.out hs
    rw [← e1]
    clear H3 H4 e1
    go_enter Try.func14, Try.ntmps14
    go_wp2
    go_ret
    exact ⟨rfl, rfl⟩
  · have e1 := H3.out (by omega)
    rw [← e1]
    clear H3 H4 e1
    go_enter Try.func14, Try.ntmps14
    go_wp2
    go_ret
    exact ⟨rfl, rfl⟩

theorem within_any (w : World) (x n : Int) (hn0 : 0 < n) (hn : n < 1000000) :
    Calls Try.prog 14 #[.int .i64 x, .int .i64 n] w fun e w' => e = .returned (.int .i64 (x % n)) ∧ w = w' := by
  obtain ⟨m, rfl⟩ := Int.eq_ofNat_of_zero_le (show 0 ≤ n by omega)
  exact within_nat w x m (by omega) (by omega)

end Go.Proofs.Ytlnmpbfalflbgaa
