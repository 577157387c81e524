/-
  The walk of the law DiskErrs: it returns true, whatever its three numbers are, and turns nothing that was there.
-/
import Derived.Test.YtlnmpbfalflbgaaDiskE
namespace Go.Proofs.Ytlnmpbfalflbgaa
open Go.RowKit

theorem make_bytes (w : World) (n : Nat) (hn : n ≤ 100000) : (Instr.makeSlice 34 (.int .i64 n) (.int .i64 n)).run Try.prog w =
    .ok (.slice (some ⟨w.heap.size, 0, none⟩) n n) (w.alloc (.cells (bv (List.replicate n 0)).toArray 5)) := by
  have info5 : (Try.prog.info? 5).map (fun i => (i.zero, i.size, i.bytes)) = some (some (.int .u8 0), 1, 1) := by kernel_rfl
  obtain ⟨i0, hi, hz0, hz1, hz2⟩ := info_parts info5
  have := run_make (P := Try.prog) w 34 5 i0 _ Try.underlying34 hi hz0 .i64 .i64 n n (by omega) (by omega) (by rw [hz2]; omega) (by omega)
  rw [this, hz1]
  have e1 : madeCells (Value.int .u8 0).cells n = (bv (List.replicate n 0)).toArray := by
    apply Array.ext
    · simp [madeCells, bv]
    · intro i h1 h2
      simp [madeCells, bv, Value.cells, Nat.mod_one]
  simp [e1]

theorem new_range (W : World) (b : List UInt8) (t : TypeId) (g : Nat) (hg : g = W.heap.size) : (W.alloc (.cells (bv b).toArray t)).rangeAt g 0 (bv b) := by subst hg; exact range_new W b t
theorem only_fin {p bm : Nat} {w w2 W w3 w4 : World} (hOa : Only [p] w w2) (hx : Only [] w2 W) (hO3 : Only [p, bm] W w3) (hO4 : Only [p] w3 w4) (hp : w.heap.size ≤ p) (hbm : w.heap.size ≤ bm) : Only [] w w4 :=
  (((hOa.trans hx).trans hO3).trans hO4).into (by simp; omega)
theorem has_not (x : Int) (h : x < 0 ∨ 8 ≤ x) : hasB x 8 = false := by simp [hasB]; omega

set_option maxHeartbeats 4000000 in
theorem errs_walk_other (a0 a1 a2 : Int) (w : World) (m : Nat) (hm2 : m < 130) (Hm : Hid (a1 % 130 = m)) (Hne : Hid (m ≠ 64)) :
    Calls Try.prog 8 #[.int .i64 a0, .int .i64 a1, .int .i64 a2] w fun e w' => e = .returned (.bool true) ∧ Only [] w w' := by
  have hmk := fun W => make_bytes W m (by omega)
  have hne : ((m : Int) == 64) = false := by have := Hne.out; simp; omega
  have hi := Int.emod_nonneg a0 (show (5 : Int) ≠ 0 by omega)
  have hi2 := Int.emod_lt_of_pos a0 (show (0 : Int) < 5 by omega)
  have hmk64 : ∀ W : World, (Instr.makeSlice 34 (.int .i64 64) (.int .i64 64)).run Try.prog W = .ok (.slice (some ⟨W.heap.size, 0, none⟩) 64 64) (W.alloc (.cells (bv zeros).toArray 5)) := fun _ => by kernel_rfl
  go_enter Try.func8, Try.ntmps8
  go_wp2_with fail
  refine (known_any _).mono ?_
  rintro e w0 ⟨rfl, hO0⟩
  go_wp2_with fail
  refine (new_ok _ 8 (by omega) (by omega) (by omega)).mono ?_
  rintro e w1 ⟨p, bl, bm, rfl, hD, hO, hp1, hp2, hp3⟩
  go_wp2_with fail
  refine (fuse_set _ p bl _ bm _ _ _ 1 hD.blk (by omega)).mono ?_
  rintro e w2 ⟨rfl, hb2, hO2⟩
  have hD2 := hD.reblk hO2 1 false 0 hb2
  have hOa := (hO0.then hO [] (by simp) (by simp)).then hO2 [p] (by simp) (by simp)
  clear hD hb2 hO2 hO
  go_wp2_with fail
  refine (within_any _ a0 5 (by omega) (by omega)).mono ?_
  rintro e w' ⟨rfl, rfl⟩
  generalize a0 % 5 = i at *
  obtain rfl | rfl | rfl | rfl | rfl : i = 0 ∨ i = 1 ∨ i = 2 ∨ i = 3 ∨ i = 4 := by omega
  all_goals go_wp2_with fail
  all_goals
    refine (within_any _ a1 130 (by omega) (by omega)).mono ?_
    rintro e w' ⟨he, rfl⟩
    rw [Hm.out] at he
    subst he
    go_wp2_with fail
    refine (write_bad _ p bl bm _ _ _ _ _ (hD2.more (by repeat (first | exact Only.refl _ _ | refine Only.alloc ?_ _))) rfl (by
      have hz : ∀ x : Int, (x < 0 ∨ 8 ≤ x) → badW x 8 64 = true := fun x hx => by simp [badW, has_not x hx]
      exact hz _ (by omega))).mono ?_
    rintro e w' ⟨rfl, rfl⟩
    go_wp2_with fail
    refine (write_bad _ p bl bm _ _ _ _ _ (hD2.more (by repeat (first | exact Only.refl _ _ | refine Only.alloc ?_ _))) rfl (by
      have hn := Hne.out
      have hz : badW 3 8 m = true := by simp [badW, hn]
      exact hz)).mono ?_
    rintro e w' ⟨rfl, rfl⟩
    go_wp2_with fail
    refine (read_none _ p bl bm _ _ (hD2.more (by repeat (first | exact Only.refl _ _ | refine Only.alloc ?_ _))) rfl (has_not _ (by omega))).mono ?_
    rintro e w' ⟨rfl, rfl⟩
    go_wp2_with fail
    refine (write_ok _ p bl bm _ 2 _ 0 _ zeros (hD2.more (by repeat (first | exact Only.refl _ _ | refine Only.alloc ?_ _))) rfl (show 2 < 8 by omega) (show (1 : Int) ≠ 0 by omega) (show (-1 : Int) ≤ 1 by omega) (show (1 : Int) < 1000000000000 by omega)
      (show (0 : Int) ≤ 0 by omega) (show (0 : Int) < 1000000000000 by omega) rfl (by exact new_range _ _ _ _ (by simp)) (by simp) (by have := hD2.plt; omega)).mono ?_
    rintro e w3 ⟨rfl, hD3, hO3⟩
    go_wp2_with fail
    refine (flush_spent _ p bl bm _ hD3 rfl rfl).mono ?_
    rintro e w4 ⟨rfl, hD4, hO4⟩
    go_wp2_with fail
    refine (ops_any _ p bl _ bm _ _ _ hD4.blk).mono ?_
    rintro e w' ⟨rfl, rfl⟩
    go_wp2
    go_ret
    exact ⟨rfl, only_fin hOa (by repeat (first | exact Only.refl _ _ | refine Only.alloc ?_ _)) hO3 hO4 (by have := hO0.size; omega) (by have := hO0.size; omega)⟩

set_option maxHeartbeats 4000000 in
theorem errs_walk_64 (a0 a1 a2 : Int) (w : World) (Hm : Hid (a1 % 130 = 64)) :
    Calls Try.prog 8 #[.int .i64 a0, .int .i64 a1, .int .i64 a2] w fun e w' => e = .returned (.bool true) ∧ Only [] w w' := by
  have hi := Int.emod_nonneg a0 (show (5 : Int) ≠ 0 by omega)
  have hi2 := Int.emod_lt_of_pos a0 (show (0 : Int) < 5 by omega)
  have hmk64 : ∀ W : World, (Instr.makeSlice 34 (.int .i64 64) (.int .i64 64)).run Try.prog W = .ok (.slice (some ⟨W.heap.size, 0, none⟩) 64 64) (W.alloc (.cells (bv zeros).toArray 5)) := fun _ => by kernel_rfl
  go_enter Try.func8, Try.ntmps8
  go_wp2_with fail
  refine (known_any _).mono ?_
  rintro e w0 ⟨rfl, hO0⟩
  go_wp2_with fail
  refine (new_ok _ 8 (by omega) (by omega) (by omega)).mono ?_
  rintro e w1 ⟨p, bl, bm, rfl, hD, hO, hp1, hp2, hp3⟩
  go_wp2_with fail
  refine (fuse_set _ p bl _ bm _ _ _ 1 hD.blk (by omega)).mono ?_
  rintro e w2 ⟨rfl, hb2, hO2⟩
  have hD2 := hD.reblk hO2 1 false 0 hb2
  have hOa := (hO0.then hO [] (by simp) (by simp)).then hO2 [p] (by simp) (by simp)
  clear hD hb2 hO2 hO
  go_wp2_with fail
  refine (within_any _ a0 5 (by omega) (by omega)).mono ?_
  rintro e w' ⟨rfl, rfl⟩
  generalize a0 % 5 = i at *
  obtain rfl | rfl | rfl | rfl | rfl : i = 0 ∨ i = 1 ∨ i = 2 ∨ i = 3 ∨ i = 4 := by omega
  all_goals go_wp2_with fail
  all_goals
    refine (within_any _ a1 130 (by omega) (by omega)).mono ?_
    rintro e w' ⟨he, rfl⟩
    rw [Hm.out] at he
    subst he
    go_wp2_with fail
    refine (write_bad _ p bl bm _ _ _ _ _ (hD2.more (by repeat (first | exact Only.refl _ _ | refine Only.alloc ?_ _))) rfl (by
      have hz : ∀ x : Int, (x < 0 ∨ 8 ≤ x) → badW x 8 64 = true := fun x hx => by simp [badW, has_not x hx]
      exact hz _ (by omega))).mono ?_
    rintro e w' ⟨rfl, rfl⟩
    go_wp2_with fail
    refine (write_ok _ p bl bm _ 3 _ 0 _ zeros (hD2.more (by repeat (first | exact Only.refl _ _ | refine Only.alloc ?_ _))) rfl (show 3 < 8 by omega) (show (1 : Int) ≠ 0 by omega) (show (-1 : Int) ≤ 1 by omega) (show (1 : Int) < 1000000000000 by omega)
      (show (0 : Int) ≤ 0 by omega) (show (0 : Int) < 1000000000000 by omega) rfl (by exact World.rangeAt_alloc (new_range _ _ _ _ (by simp)) _) (by simp) (by have := hD2.plt; omega)).mono ?_
    rintro e w3 ⟨rfl, hD3, hO3⟩
    go_wp2_with fail
    refine (read_none _ p bl bm _ _ hD3 rfl (has_not _ (by omega))).mono ?_
    rintro e w' ⟨rfl, rfl⟩
    go_wp2_with fail
    refine (write_spent _ p bl bm _ 2 _ _ (hD3.more (by repeat (first | exact Only.refl _ _ | refine Only.alloc ?_ _))) rfl (show 2 < 8 by omega) rfl).mono ?_
    rintro e w4 ⟨rfl, hD4, hO4⟩
    go_wp2_with fail
    refine (flush_dead _ p bl bm _ hD4 rfl).mono ?_
    rintro e w' ⟨rfl, rfl⟩
    go_wp2
    go_ret
    exact ⟨rfl, only_fin hOa (by repeat (first | exact Only.refl _ _ | refine Only.alloc ?_ _)) hO3 (((Only.refl [p] w3).alloc (.cells (bv zeros).toArray 5)).then hO4 [p] (by simp) (by simp)) (by have := hO0.size; omega) (by have := hO0.size; omega)⟩

theorem errs_walk (a0 a1 a2 : Int) (w : World) : Calls Try.prog 8 #[.int .i64 a0, .int .i64 a1, .int .i64 a2] w fun e w' => e = .returned (.bool true) ∧ Only [] w w' := by
  have hm := Int.emod_nonneg a1 (show (130 : Int) ≠ 0 by omega)
  have hm2 := Int.emod_lt_of_pos a1 (show (0 : Int) < 130 by omega)
  by_cases h : a1 % 130 = 64
  · exact errs_walk_64 a0 a1 a2 w h
  · obtain ⟨m, e⟩ := Int.eq_ofNat_of_zero_le hm
    exact errs_walk_other a0 a1 a2 w m (by omega) e (show m ≠ 64 by omega)

end Go.Proofs.Ytlnmpbfalflbgaa
