/-
  The walk of the law DiskFuse: it returns true, whatever its number and calls are, and turns nothing that was there.
-/
import Derived.Test.YtlnmpbfalflbgaaCallArg
import Derived.Deep.RegionWith
namespace Go.Proofs.Ytlnmpbfalflbgaa
open Go.RowKit

/-- A disk of 8 sectors whose fuse was n, k operations later. -/
def FuseAt (w : World) (p bl bm : Nat) (n k : Nat) : Prop :=
  ∃ D, DiskAt w p bl bm D ∧ D.n = 8 ∧ ((k ≤ n ∧ D.fuse = (n : Int) - k ∧ D.dead = false ∧ D.ops = k) ∨ (n < k ∧ D.dead = true ∧ D.ops = n))
theorem FuseAt.more {w w' : World} {p bl bm n k : Nat} (h : FuseAt w p bl bm n k) (ho : Only [] w w') : FuseAt w' p bl bm n k := by
  obtain ⟨D, hD, r⟩ := h; exact ⟨D, hD.more ho, r⟩
theorem FuseAt.lt {w : World} {p bl bm n k : Nat} (h : FuseAt w p bl bm n k) : p < w.heap.size ∧ bl < w.heap.size ∧ bm < w.heap.size := by
  obtain ⟨D, hD, _⟩ := h; exact ⟨hD.plt, hD.blt, hD.mlt⟩
def FuseOk (w : World) (p bl bm n k : Nat) (v : Value) (e : Ending) (w' : World) : Prop := e = .returned v ∧ FuseAt w' p bl bm n k ∧ Only [p, bl, bm] w w'

theorem fuse_write_ok (w : World) (p bl bm n k : Nat) (x g o c : Nat) (b : List UInt8) (h : FuseAt w p bl bm n k) (hkn : k < n) (hn : n < 100) (hx : x < 8) (hb : b.length = 64) (hr : w.rangeAt g o (bv b)) (hg : g < w.heap.size) (hgp : g ≠ p) :
    Calls Try.prog 25 #[.pointer (some ⟨p, 0, none⟩), .int .i64 x, .slice (some ⟨g, o, none⟩) 64 c] w (FuseOk w p bl bm n (k + 1) (.int .i64 0)) := by
  obtain ⟨D, hD, hn8, ⟨h1, hf, hd, ho⟩ | ⟨h1, _⟩⟩ := h
  · refine (write_ok w p bl bm D x g o c b hD hd (by omega) (by omega) (by omega) (by omega) (by omega) (by omega) hb hr hg hgp).mono ?_
    rintro e w' ⟨rfl, hD', hO⟩
    refine ⟨rfl, ⟨_, hD', hn8, .inl ⟨by omega, ?_, hd, ?_⟩⟩, hO.into (by simp)⟩
    · simp only [DS.put, burnt]; rw [if_neg (by omega)]; omega
    · simp only [DS.put]; omega
  · omega
theorem fuse_write_no (w : World) (p bl bm n k : Nat) (x : Nat) (a : Option Addr) (c : Nat) (h : FuseAt w p bl bm n k) (hkn : n ≤ k) (hx : x < 8) :
    Calls Try.prog 25 #[.pointer (some ⟨p, 0, none⟩), .int .i64 x, .slice a 64 c] w (FuseOk w p bl bm n (k + 1) (.int .i64 3)) := by
  obtain ⟨D, hD, hn8, ⟨h1, hf, hd, ho⟩ | ⟨h1, hd, ho⟩⟩ := h
  · refine (write_spent w p bl bm D x a c hD hd (by omega) (by omega)).mono ?_
    rintro e w' ⟨rfl, hD', hO⟩
    exact ⟨rfl, ⟨_, hD', hn8, .inr ⟨by omega, rfl, by show D.ops = n; omega⟩⟩, hO.into (by simp)⟩
  · refine (write_dead w p bl bm D x _ hD hd).mono ?_
    rintro e w' ⟨rfl, rfl⟩
    exact ⟨rfl, ⟨_, hD, hn8, .inr ⟨by omega, hd, ho⟩⟩, Only.refl _ _⟩
theorem fuse_flush_ok (w : World) (p bl bm n k : Nat) (h : FuseAt w p bl bm n k) (hkn : k < n) (hn : n < 100) :
    Calls Try.prog 26 #[.pointer (some ⟨p, 0, none⟩)] w (FuseOk w p bl bm n (k + 1) (.int .i64 0)) := by
  obtain ⟨D, hD, hn8, ⟨h1, hf, hd, ho⟩ | ⟨h1, _⟩⟩ := h
  · refine (flush_ok w p bl bm D hD hd (by omega) (by omega) (by omega) (by omega) (by omega)).mono ?_
    rintro e w' ⟨rfl, hD', hO⟩
    refine ⟨rfl, ⟨_, hD', hn8, .inl ⟨by omega, ?_, hd, ?_⟩⟩, hO⟩
    · simp only [DS.flushed, burnt]; rw [if_neg (by omega)]; omega
    · simp only [DS.flushed]; omega
  · omega
theorem fuse_flush_no (w : World) (p bl bm n k : Nat) (h : FuseAt w p bl bm n k) (hkn : n ≤ k) :
    Calls Try.prog 26 #[.pointer (some ⟨p, 0, none⟩)] w (FuseOk w p bl bm n (k + 1) (.int .i64 3)) := by
  obtain ⟨D, hD, hn8, ⟨h1, hf, hd, ho⟩ | ⟨h1, hd, ho⟩⟩ := h
  · refine (flush_spent w p bl bm D hD hd (by omega)).mono ?_
    rintro e w' ⟨rfl, hD', hO⟩
    exact ⟨rfl, ⟨_, hD', hn8, .inr ⟨by omega, rfl, by show D.ops = n; omega⟩⟩, hO.into (by simp)⟩
  · refine (flush_dead w p bl bm D hD hd).mono ?_
    rintro e w' ⟨rfl, rfl⟩
    exact ⟨rfl, ⟨_, hD, hn8, .inr ⟨by omega, hd, ho⟩⟩, Only.refl _ _⟩
theorem fuse_ops (w : World) (p bl bm n k : Nat) (h : FuseAt w p bl bm n k) :
    Calls Try.prog 23 #[.pointer (some ⟨p, 0, none⟩)] w fun e w' => e = .returned (.int .i64 (min k n : Nat)) ∧ w = w' := by
  obtain ⟨D, hD, _, hr⟩ := h
  refine (ops_any w p bl _ bm _ _ _ hD.blk).mono ?_
  rintro e w' ⟨rfl, rfl⟩
  refine ⟨ret_int ?_, rfl⟩
  rcases hr with ⟨h1, _, _, ho⟩ | ⟨h1, _, ho⟩ <;> rw [ho] <;> omega

set_option maxHeartbeats 4000000 in
theorem fuse_walk (n : Int) (a : Option Addr) (len cap : Nat) (L : List CallR) (w : World) (h : CallsAt w a len L) :
    Calls Try.prog 6 #[.int .i64 n, .slice a len cap] w fun e w' => e = .returned (.bool true) ∧ Only [] w w' := by
  have hmk : ∀ W : World, (Instr.makeSlice 34 (.int .i64 64) (.int .i64 64)).run Try.prog W = .ok (.slice (some ⟨W.heap.size, 0, none⟩) 64 64) (W.alloc (.cells (bv zeros).toArray 5)) := fun _ => by kernel_rfl
  have hn0 := Int.emod_nonneg n (show (20 : Int) ≠ 0 by omega)
  have hn1 := Int.emod_lt_of_pos n (show (0 : Int) < 20 by omega)
  obtain ⟨N, hN⟩ := Int.eq_ofNat_of_zero_le hn0
  have hN20 : N < 20 := by omega
  have HN := Lib.hid hN
  have H := Lib.hid h
  clear hN hn0 hn1 h
  go_enter Try.func6, Try.ntmps6
  go_wp2_with fail
  refine (known_any _).mono ?_
  rintro e w0 ⟨rfl, hO0⟩
  go_wp2_with fail
  refine (new_ok _ 8 (by omega) (by omega) (by omega)).mono ?_
  rintro e w1 ⟨p, bl, bm, rfl, hD, hO1, hp1, hp2, hp3⟩
  have hO01 := hO0.then hO1 [] (by simp) (by simp)
  have hz0 := hO0.size
  clear hO1 hO0
  go_wp2_with fail
  refine (within_any _ n 20 (by omega) (by omega)).mono ?_
  rintro e w' ⟨he, rfl⟩
  rw [HN.out] at he
  subst he
  go_wp2_with fail
  refine (fuse_set _ p bl _ bm _ _ _ N hD.blk (by omega)).mono ?_
  rintro e w2 ⟨rfl, hb2, hO2⟩
  have hD2 := hD.reblk hO2 N false 0 hb2
  have hF2 : FuseAt w2 p bl bm N 0 := ⟨_, hD2, rfl, .inl ⟨by omega, by simp, rfl, rfl⟩⟩
  have hO02 := hO01.then hO2 [p, bl, bm] (by simp) (by simp)
  clear hD hD2 hb2 hO2 hO01
  go_wp2_with fail
  go_loopw [7] (fun i wr => ∃ k : Nat, k ≤ 25 ∧ i = .int .i64 k ∧ FuseAt wr p bl bm N k ∧ Only [p, bl, bm] w wr) (fun i _ => 25 - (intOf i).toNat)
  case atStart => exact ⟨0, by omega, rfl, hF2, hO02⟩
  case round =>
    obtain ⟨k, hk, rfl, hFk, hOk⟩ := hrel
    have hlts := hFk.lt
    have HF := Lib.hid hFk
    clear hFk hF2 hO02
    by_cases hlt : k < 25
    · have hlti : (k : Int) < 25 := by omega
      by_cases h3 : k % 3 = 2
      · have t3 : ((k : Int) % 3 == 2) = true := by simp; omega
        clear h3
        by_cases hkn : k < N
        · have tk : (k : Int) < (N : Int) := by omega
          go_wp2_with fail
          refine (fuse_flush_ok _ p bl bm N k HF.out hkn (by omega)).mono ?_
          rintro e w3 ⟨rfl, hF3, hO3⟩
          have HF3 := Lib.hid hF3
          clear hF3
          go_wp2_with fail
          refine (fuse_ops _ p bl bm N (k + 1) HF3.out).mono ?_
          rintro e w' ⟨rfl, rfl⟩
          go_wp2
          exact ⟨⟨k + 1, by omega, by go_num, HF3.out, hOk.then hO3 _ (by simp) (by simp)⟩, by simp [intOf]; omega⟩
        · have tk : ¬ (k : Int) < (N : Int) := by omega
          go_wp2_with fail
          refine (fuse_flush_no _ p bl bm N k HF.out (by omega)).mono ?_
          rintro e w3 ⟨rfl, hF3, hO3⟩
          have HF3 := Lib.hid hF3
          clear hF3
          go_wp2_with fail
          refine (fuse_ops _ p bl bm N (k + 1) HF3.out).mono ?_
          rintro e w' ⟨rfl, rfl⟩
          go_wp2
          exact ⟨⟨k + 1, by omega, by go_num, HF3.out, hOk.then hO3 _ (by simp) (by simp)⟩, by simp [intOf]; omega⟩
      · have t3 : ((k : Int) % 3 == 2) = false := by simp; omega
        clear h3
        by_cases hkl : k < len
        · have tl : (k : Int) < (len : Int) := by omega
          obtain ⟨b, o, c, rfl, _, hca, hbl, _⟩ := H.out.at_ hOk (by simp; omega) hkl
          have hc1 := hca.c1
          clear hca
          generalize c.at_ = at0 at *
          go_wp2_with fail
          refine (within_any _ at0 8 (by omega) (by omega)).mono ?_
          rintro e w' ⟨rfl, rfl⟩
          generalize at0 % 8 = at1 at *
          clear hc1
          go_wp2_with fail
          have hx8 := Int.emod_nonneg at1 (show (8 : Int) ≠ 0 by omega)
          have hx9 := Int.emod_lt_of_pos at1 (show (0 : Int) < 8 by omega)
          obtain ⟨x, hx⟩ := Int.eq_ofNat_of_zero_le hx8
          have hxlt : x < 8 := by omega
          have Hx := Lib.hid hx
          clear hx hx8 hx9
          by_cases hkn : k < N
          · have tk : (k : Int) < (N : Int) := by omega
            go_region_with (first
              | (go_at_call 14; refine (within_any _ _ 8 (by omega) (by omega)).mono ?_; rintro e w' ⟨he, rfl⟩; rw [Hx.out] at he; subst he)
              | (go_at_call 25; refine (fuse_write_ok _ p bl bm N k x _ 0 _ zeros (HF.out.more (by repeat (first | exact Only.refl _ _ | refine Only.alloc ?_ _ | refine Only.drew ?_))) hkn (by omega) hxlt rfl (by simp only [World.rangeAt_drew]; exact range_new _ _ _) (by simp) (by omega)).mono ?_; rintro e w3 ⟨rfl, hF3, hO3⟩))
            all_goals
              have HF3 := Lib.hid hF3
              clear hF3
              go_wp2_with fail
              refine (fuse_ops _ p bl bm N (k + 1) HF3.out).mono ?_
              rintro e w' ⟨rfl, rfl⟩
              go_wp2
              exact ⟨⟨k + 1, by omega, by go_num, HF3.out, ((((hOk.alloc (.cells (bv zeros).toArray 5)).drew).trans hO3).into (by simp))⟩, by simp [intOf]; omega⟩
          · have tk : ¬ (k : Int) < (N : Int) := by omega
            go_region_with (first
              | (go_at_call 14; refine (within_any _ _ 8 (by omega) (by omega)).mono ?_; rintro e w' ⟨he, rfl⟩; rw [Hx.out] at he; subst he)
              | (go_at_call 25; refine (fuse_write_no _ p bl bm N k x _ _ (HF.out.more (by repeat (first | exact Only.refl _ _ | refine Only.alloc ?_ _ | refine Only.drew ?_))) (by omega) hxlt).mono ?_; rintro e w3 ⟨rfl, hF3, hO3⟩))
            all_goals
              have HF3 := Lib.hid hF3
              clear hF3
              go_wp2_with fail
              refine (fuse_ops _ p bl bm N (k + 1) HF3.out).mono ?_
              rintro e w' ⟨rfl, rfl⟩
              go_wp2
              exact ⟨⟨k + 1, by omega, by go_num, HF3.out, ((((hOk.alloc (.cells (bv zeros).toArray 5)).drew).trans hO3).into (by simp))⟩, by simp [intOf]; omega⟩
        · have tl : ¬ (k : Int) < (len : Int) := by omega
          go_wp2_with fail
          have hx8 := Int.emod_nonneg (k : Int) (show (8 : Int) ≠ 0 by omega)
          have hx9 := Int.emod_lt_of_pos (k : Int) (show (0 : Int) < 8 by omega)
          obtain ⟨x, hx⟩ := Int.eq_ofNat_of_zero_le hx8
          have hxlt : x < 8 := by omega
          have Hx := Lib.hid hx
          clear hx hx8 hx9
          by_cases hkn : k < N
          · have tk : (k : Int) < (N : Int) := by omega
            go_region_with (first
              | (go_at_call 14; refine (within_any _ _ 8 (by omega) (by omega)).mono ?_; rintro e w' ⟨he, rfl⟩; rw [Hx.out] at he; subst he)
              | (go_at_call 25; refine (fuse_write_ok _ p bl bm N k x _ 0 _ zeros (HF.out.more (by repeat (first | exact Only.refl _ _ | refine Only.alloc ?_ _ | refine Only.drew ?_))) hkn (by omega) hxlt rfl (by simp only [World.rangeAt_drew]; exact range_new _ _ _) (by simp) (by omega)).mono ?_; rintro e w3 ⟨rfl, hF3, hO3⟩))
            all_goals
              have HF3 := Lib.hid hF3
              clear hF3
              go_wp2_with fail
              refine (fuse_ops _ p bl bm N (k + 1) HF3.out).mono ?_
              rintro e w' ⟨rfl, rfl⟩
              go_wp2
              exact ⟨⟨k + 1, by omega, by go_num, HF3.out, ((((hOk.alloc (.cells (bv zeros).toArray 5)).drew).trans hO3).into (by simp))⟩, by simp [intOf]; omega⟩
          · have tk : ¬ (k : Int) < (N : Int) := by omega
            go_region_with (first
              | (go_at_call 14; refine (within_any _ _ 8 (by omega) (by omega)).mono ?_; rintro e w' ⟨he, rfl⟩; rw [Hx.out] at he; subst he)
              | (go_at_call 25; refine (fuse_write_no _ p bl bm N k x _ _ (HF.out.more (by repeat (first | exact Only.refl _ _ | refine Only.alloc ?_ _ | refine Only.drew ?_))) (by omega) hxlt).mono ?_; rintro e w3 ⟨rfl, hF3, hO3⟩))
            all_goals
              have HF3 := Lib.hid hF3
              clear hF3
              go_wp2_with fail
              refine (fuse_ops _ p bl bm N (k + 1) HF3.out).mono ?_
              rintro e w' ⟨rfl, rfl⟩
              go_wp2
              exact ⟨⟨k + 1, by omega, by go_num, HF3.out, ((((hOk.alloc (.cells (bv zeros).toArray 5)).drew).trans hO3).into (by simp))⟩, by simp [intOf]; omega⟩
    · have hge : ¬ (k : Int) < 25 := by omega
      obtain rfl : k = 25 := by omega
      obtain ⟨D, hD, hn8, ⟨h1, _⟩ | ⟨h1, hdead, hops⟩⟩ := HF.out
      · omega
      have HD := Lib.hid hD
      have Hdead := Lib.hid hdead
      have Hops := Lib.hid hops
      have hlts2 := hD.plt
      clear hD hdead hops HF hlts
      go_wp2_with fail
      refine (read_dead _ p bl bm D _ HD.out Hdead.out).mono ?_
      rintro e w' ⟨rfl, rfl⟩
      go_wp2_with fail
      refine (crash_any _ p bl bm D none 0 0 [] HD.out ⟨rfl, fun h => by omega⟩ (fun h => by omega)).mono ?_
      rintro e w4 ⟨rfl, hD4, hO4⟩
      go_wp2_with fail
      refine (read_ok _ p bl bm _ 0 hD4 rfl (by show 0 < D.n; omega)).mono ?_
      rintro e w5 ⟨g5, rfl, _, _, hO5⟩
      have hD5 := hD4.more hO5
      go_wp2_with fail
      refine (flush_ok _ p bl bm _ hD5 rfl (show (-1 : Int) ≠ 0 by omega) (show (-1 : Int) ≤ -1 by omega) (show (-1 : Int) < 1000000000000 by omega) ?_ ?_).mono ?_
      · have := Hops.out; show 0 ≤ D.ops; omega
      · have := Hops.out; show D.ops < 1000000000000; omega
      rintro e w6 ⟨rfl, hD6, hO6⟩
      go_wp2
      go_ret
      exact ⟨rfl, (((hOk.trans hO4).trans hO5).trans hO6).into (by simp; omega)⟩

end Go.Proofs.Ytlnmpbfalflbgaa
