/-
  The walk of the law DiskNew: it returns true, whatever its two numbers are, and turns nothing that was there.
-/
import Derived.Test.YtlnmpbfalflbgaaRefE
namespace Go.Proofs.Ytlnmpbfalflbgaa
open Go.RowKit

theorem DBlk.more {w w' : World} {p bl n bm : Nat} {f : Int} {d : Bool} {k : Int} (h : DBlk w p bl n bm f d k) (ho : Only [] w w') : DBlk w' p bl n bm f d k := IsBlk.only h ho (by simp)

set_option maxRecDepth 100000 in
set_option maxHeartbeats 16000000 in
theorem new_walk (n r : Int) (w : World) :
    Calls Try.prog 4 #[.int .i64 n, .int .i64 r] w fun e w' => e = .returned (.bool true) ∧ Only [] w w' := by
  have hmk : ∀ W : World, (Instr.makeSlice 34 (.int .i64 64) (.int .i64 64)).run Try.prog W = .ok (.slice (some ⟨W.heap.size, 0, none⟩) 64 64) (W.alloc (.cells (bv zeros).toArray 5)) := fun _ => by kernel_rfl
  go_enter Try.func4, Try.ntmps4
  go_wp2_with fail
  refine (known_any _).mono ?_
  rintro e w0 ⟨rfl, hO0⟩
  go_wp2_with fail
  refine (within_any _ r 270 (by omega) (by omega)).mono ?_
  rintro e w' ⟨rfl, rfl⟩
  generalize r % 270 = r1
  go_wp2_with fail
  have hL : IsBlk (w0.alloc (.cells #[.int .i64 n, .int .i64 r1, .int .i64 6, .int .i64 7, .int .i64 9, .int .i64 256, .int .i64 257, .int .i64 258] 3)) w0.heap.size (.cells #[.int .i64 n, .int .i64 r1, .int .i64 6, .int .i64 7, .int .i64 9, .int .i64 256, .int .i64 257, .int .i64 258] 3) := IsBlk.made _ _
  have hO1 := hO0.alloc (.cells #[.int .i64 n, .int .i64 r1, .int .i64 6, .int .i64 7, .int .i64 9, .int .i64 256, .int .i64 257, .int .i64 258] 3)
  have HL := Lib.hid hL
  clear hL
  generalize hls : w0.heap.size = gl at *
  have hz0 : w.heap.size ≤ gl := by have := hO0.size; omega
  clear hls hO0
  go_loopw [6] (fun i wr => ∃ k : Nat, k ≤ 8 ∧ i = .int .i64 k ∧ IsBlk wr gl (.cells #[.int .i64 n, .int .i64 r1, .int .i64 6, .int .i64 7, .int .i64 9, .int .i64 256, .int .i64 257, .int .i64 258] 3) ∧ Only [] w wr) (fun i _ => 8 - (intOf i).toNat)
  case atStart => exact ⟨0, by omega, rfl, HL.out, hO1⟩
  case round =>
    obtain ⟨k, hk, rfl, hLk, hOk⟩ := hrel
    clear HL hO1
    by_cases hlt : k < 8
    · have hlti : (k : Int) < 8 := by omega
      obtain ⟨m, hm⟩ : ∃ m : Int, wr.cell? ⟨gl, k, none⟩ = some (.int .i64 m) := by
        have hc := hLk.cell k
        obtain rfl | rfl | rfl | rfl | rfl | rfl | rfl | rfl : k = 0 ∨ k = 1 ∨ k = 2 ∨ k = 3 ∨ k = 4 ∨ k = 5 ∨ k = 6 ∨ k = 7 := by omega
        all_goals exact ⟨_, hc⟩
      have hltg := hLk.lt
      have HLk := Lib.hid hLk
      clear hLk
      cases hbad : newBad m with
      | true =>
        have Hbad := Lib.hid hbad
        clear hbad
        go_wp2_with fail
        refine (new_bad _ m Hbad.out).mono ?_
        rintro e w' ⟨rfl, rfl⟩
        go_wp2_with fail
        refine (rnew_bad _ m Hbad.out).mono ?_
        rintro e w' ⟨rfl, rfl⟩
        go_wp2
        exact ⟨⟨k + 1, by omega, by go_num, HLk.out, hOk⟩, by simp [intOf]; omega⟩
      | false =>
        have hM : ∃ M : Nat, m = M ∧ 8 ≤ M ∧ M ≤ 256 ∧ M % 2 = 0 := by
          simp [newBad] at hbad
          exact ⟨m.toNat, by omega, by omega, by omega, by omega⟩
        obtain ⟨M, rfl, h8, h256, hev⟩ := hM
        clear hbad
        go_wp2_with fail
        refine (new_ok _ M h8 h256 hev).mono ?_
        rintro e w1 ⟨p, bl, bm, rfl, hD, hO1, _, _, _⟩
        have hm1 := (hO1.cell (p := ⟨gl, k, none⟩) hltg (by simp)).trans hm
        go_wp2_with fail
        refine (rnew_ok _ M h8 h256 hev).mono ?_
        rintro e w2 ⟨R, rfl, _, hO2⟩
        have hltg1 : gl < w1.heap.size := Nat.lt_of_lt_of_le hltg hO1.size
        have hm2 := (hO2.cell (p := ⟨gl, k, none⟩) hltg1 (by simp)).trans hm1
        have hD2 := hD.more hO2
        clear hm1 hD
        go_wp2_with fail
        have ex : ((M : Int) - 1) = ((M - 1 : Nat) : Int) := by omega
        rw [ex]
        refine (read_ok _ p bl bm _ (M - 1) hD2 rfl (by show M - 1 < M; omega)).mono ?_
        rintro e w3 ⟨g3, rfl, hb3, hg3, hO3⟩
        have hltg2 : gl < w2.heap.size := Nat.lt_of_lt_of_le hltg1 hO2.size
        have hm3 := (hO3.cell (p := ⟨gl, k, none⟩) hltg2 (by simp)).trans hm2
        have hltg3 : gl < w3.heap.size := Nat.lt_of_lt_of_le hltg2 hO3.size
        have hD3 := hD2.more hO3
        have hb3' : IsBlk w3 g3 (.cells (bv zeros).toArray 5) := hb3
        have q1 := conv_str w3.drew g3 0 64 64 zeros rfl (blk_range hb3'.drew)
        have q2 := conv_str (w3.alloc (.cells (bv zeros).toArray 5)).drew g3 0 64 64 zeros rfl (blk_range (hb3'.alloc _).drew)
        have q3 := conv_str (w3.alloc (.cells (bv zeros).toArray 5)).drew w3.heap.size 0 64 64 zeros rfl (blk_range (IsBlk.made _ _).drew)
        have hO4 : Only [] w w3 := ((hOk.trans hO1).trans hO2).trans hO3 |>.into (by simp)
        have hL3 := ((HLk.out.only hO1 (by simp)).only hO2 (by simp)).only hO3 (by simp)
        have HL3 := Lib.hid hL3
        have hB3 : DBlk w3 p bl M bm (-1) false 0 := hD3.blk
        have HB3 := Lib.hid hB3
        clear hm2 hb3 hb3' hD2 hL3 hD3 hB3 ex hO1 hO2 hO3 hm
        go_wp2_with fail
        go_region_with (first
          | (go_at_call 22; refine (size_any _ p bl M bm (-1) false 0 (HB3.out.more (by repeat (first | exact Only.refl _ _ | refine Only.alloc ?_ _ | refine Only.drew ?_)))).mono ?_; rintro e w' ⟨rfl, rfl⟩)
          | (go_at_call 23; refine (ops_any _ p bl M bm (-1) false 0 (HB3.out.more (by repeat (first | exact Only.refl _ _ | refine Only.alloc ?_ _ | refine Only.drew ?_)))).mono ?_; rintro e w' ⟨rfl, rfl⟩))
        all_goals
          go_wp2
          exact ⟨⟨k + 1, by omega, by go_num, (HL3.out.alloc _).drew, (hO4.alloc (.cells (bv zeros).toArray 5)).drew⟩, by simp [intOf]; omega⟩
    · have hge : ¬ (k : Int) < 8 := by omega
      go_wp2
      go_ret
      exact ⟨rfl, hOk⟩

end Go.Proofs.Ytlnmpbfalflbgaa
