/-
  The walk of the law DiskCounts: it returns true, whatever its numbers and bytes are, and turns nothing that was there.
-/
import Derived.Test.YtlnmpbfalflbgaaDiskH
namespace Go.Proofs.Ytlnmpbfalflbgaa
open Go.RowKit

/-- A disk of 8 sectors that lives without a fuse and has counted k. -/
def LiveAt (w : World) (p bl bm : Nat) (k : Int) : Prop := ∃ D, DiskAt w p bl bm D ∧ D.n = 8 ∧ D.fuse = -1 ∧ D.dead = false ∧ D.ops = k
theorem LiveAt.more {w w' : World} {p bl bm : Nat} {k : Int} (h : LiveAt w p bl bm k) (ho : Only [] w w') : LiveAt w' p bl bm k := by
  obtain ⟨D, hD, r⟩ := h; exact ⟨D, hD.more ho, r⟩
theorem LiveAt.lt {w : World} {p bl bm : Nat} {k : Int} (h : LiveAt w p bl bm k) : p < w.heap.size ∧ bl < w.heap.size ∧ bm < w.heap.size := by
  obtain ⟨D, hD, _⟩ := h; exact ⟨hD.plt, hD.blt, hD.mlt⟩

def LiveOk (w : World) (p bl bm : Nat) (k : Int) (v : Value) (e : Ending) (w' : World) : Prop := e = .returned v ∧ LiveAt w' p bl bm k ∧ Only [p, bl, bm] w w'

theorem live_write (w : World) (p bl bm : Nat) (k : Int) (x g o c : Nat) (b : List UInt8) (h : LiveAt w p bl bm k) (hx : x < 8) (hk0 : 0 ≤ k) (hk : k < 1000000000000) (hb : b.length = 64) (hr : w.rangeAt g o (bv b)) (hg : g < w.heap.size) (hgp : g ≠ p) :
    Calls Try.prog 25 #[.pointer (some ⟨p, 0, none⟩), .int .i64 x, .slice (some ⟨g, o, none⟩) 64 c] w (LiveOk w p bl bm (k + 1) (.int .i64 0)) := by
  obtain ⟨D, hD, hn, hf, hd, rfl⟩ := h
  refine (write_ok w p bl bm D x g o c b hD hd (by omega) (by omega) (by omega) (by omega) hk0 hk hb hr hg hgp).mono ?_
  rintro e w' ⟨rfl, hD', hO⟩
  exact ⟨rfl, ⟨_, hD', hn, by simp [DS.put, hf, burnt], hd, rfl⟩, hO.into (by simp)⟩

theorem live_flush (w : World) (p bl bm : Nat) (k : Int) (h : LiveAt w p bl bm k) (hk0 : 0 ≤ k) (hk : k < 1000000000000) :
    Calls Try.prog 26 #[.pointer (some ⟨p, 0, none⟩)] w (LiveOk w p bl bm (k + 1) (.int .i64 0)) := by
  obtain ⟨D, hD, hn, hf, hd, rfl⟩ := h
  refine (flush_ok w p bl bm D hD hd (by omega) (by omega) (by omega) hk0 hk).mono ?_
  rintro e w' ⟨rfl, hD', hO⟩
  exact ⟨rfl, ⟨_, hD', hn, by simp [DS.flushed, hf, burnt], hd, rfl⟩, hO⟩

theorem live_crash (w : World) (p bl bm : Nat) (k : Int) (a : Option Addr) (len cap : Nat) (l : List UInt8) (h : LiveAt w p bl bm k) (hs : Src w a len l) (hne : 0 < len → ∀ b o, a = some ⟨b, o, none⟩ → b ≠ bl ∧ b ≠ bm) :
    Calls Try.prog 18 #[.pointer (some ⟨p, 0, none⟩), .slice a len cap] w (LiveOk w p bl bm k (.tuple #[])) := by
  obtain ⟨D, hD, hn, hf, hd, rfl⟩ := h
  refine (crash_any w p bl bm D a len cap l hD hs hne).mono ?_
  rintro e w' ⟨rfl, hD', hO⟩
  exact ⟨rfl, ⟨_, hD', hn, rfl, rfl, rfl⟩, hO⟩

/-- A read, whatever it tells. -/
def LiveRead (w : World) (p bl bm : Nat) (k : Int) (e : Ending) (w' : World) : Prop := ∃ g, e = .returned (.tuple #[.slice (some ⟨g, 0, none⟩) 64 64, .int .i64 0]) ∧ LiveAt w' p bl bm k ∧ Only [] w w'
theorem live_read (w : World) (p bl bm : Nat) (k : Int) (x : Nat) (h : LiveAt w p bl bm k) (hx : x < 8) :
    Calls Try.prog 21 #[.pointer (some ⟨p, 0, none⟩), .int .i64 x] w (LiveRead w p bl bm k) := by
  obtain ⟨D, hD, hn, hf, hd, rfl⟩ := h
  refine (read_ok w p bl bm D x hD hd (by omega)).mono ?_
  rintro e w' ⟨g, rfl, _, _, hO⟩
  exact ⟨g, rfl, ⟨D, hD.more hO, hn, hf, hd, rfl⟩, hO⟩

theorem live_ops (w : World) (p bl bm : Nat) (k : Int) (h : LiveAt w p bl bm k) :
    Calls Try.prog 23 #[.pointer (some ⟨p, 0, none⟩)] w fun e w' => e = .returned (.int .i64 k) ∧ w = w' := by
  obtain ⟨D, hD, _, _, _, rfl⟩ := h; exact ops_any w p bl _ bm _ _ _ hD.blk
theorem live_size (w : World) (p bl bm : Nat) (k : Int) (h : LiveAt w p bl bm k) :
    Calls Try.prog 22 #[.pointer (some ⟨p, 0, none⟩)] w fun e w' => e = .returned (.int .i64 8) ∧ w = w' := by
  obtain ⟨D, hD, hn, _⟩ := h
  have := size_any w p bl _ bm _ _ _ hD.blk
  rw [hn] at this
  exact this

theorem live_new (w : World) (p bl bm : Nat) (h : DiskAt w p bl bm (newDS 8)) : LiveAt w p bl bm 0 := ⟨_, h, rfl, rfl, rfl, rfl⟩

set_option maxHeartbeats 2000000 in
theorem counts_walk (n m : Int) (a : Option Addr) (len cap : Nat) (l : List UInt8) (w : World) (h : Src w a len l) :
    Calls Try.prog 11 #[.int .i64 n, .int .i64 m, .slice a len cap] w fun e w' => e = .returned (.bool true) ∧ Only [] w w' := by
  have hmk : ∀ W : World, (Instr.makeSlice 34 (.int .i64 64) (.int .i64 64)).run Try.prog W = .ok (.slice (some ⟨W.heap.size, 0, none⟩) 64 64) (W.alloc (.cells (bv zeros).toArray 5)) := fun _ => by kernel_rfl
  have hn0 := Int.emod_nonneg n (show (30 : Int) ≠ 0 by omega)
  have hn1 := Int.emod_lt_of_pos n (show (0 : Int) < 30 by omega)
  have hm0 := Int.emod_nonneg m (show (10 : Int) ≠ 0 by omega)
  have hm1 := Int.emod_lt_of_pos m (show (0 : Int) < 10 by omega)
  obtain ⟨N, hN⟩ := Int.eq_ofNat_of_zero_le hn0
  obtain ⟨M, hM⟩ := Int.eq_ofNat_of_zero_le hm0
  have hN30 : N < 30 := by omega
  have hM10 : M < 10 := by omega
  have HN := Lib.hid hN
  have HM := Lib.hid hM
  have H := Lib.hid h
  clear hN hM hn0 hn1 hm0 hm1 h
  go_enter Try.func11, Try.ntmps11
  go_wp2_with fail
  refine (known_any _).mono ?_
  rintro e w0 ⟨rfl, hO0⟩
  go_wp2_with fail
  refine (new_ok _ 8 (by omega) (by omega) (by omega)).mono ?_
  rintro e w1 ⟨p, bl, bm, rfl, hD, hO1, hp1, hp2, hp3⟩
  have hL1 := live_new _ _ _ _ hD
  have hO01 := hO0.then hO1 [] (by simp) (by simp)
  have hz0 := hO0.size
  clear hD hO1 hO0
  go_wp2_with fail
  refine (within_any _ n 30 (by omega) (by omega)).mono ?_
  rintro e w' ⟨he, rfl⟩
  rw [HN.out] at he
  subst he
  go_wp2_with fail
  refine (within_any _ m 10 (by omega) (by omega)).mono ?_
  rintro e w' ⟨he, rfl⟩
  rw [HM.out] at he
  subst he
  go_wp2_with fail
  go_loopw [9] (fun i wr => ∃ k : Nat, k ≤ N ∧ i = .int .i64 k ∧ LiveAt wr p bl bm k ∧ Only [p, bl, bm] w wr) (fun i _ => N - (intOf i).toNat)
  case atStart => exact ⟨0, Nat.zero_le _, rfl, hL1, hO01.into (by simp)⟩
  case round =>
    obtain ⟨k, hk, rfl, hLk, hOk⟩ := hrel
    have hlts := hLk.lt
    have HL := Lib.hid hLk
    clear hLk hL1
    by_cases hlt : k < N
    · have hlti : (k : Int) < (N : Int) := by omega
      have hk8 : k % 8 < 8 := Nat.mod_lt _ (by omega)
      go_wp2_with fail
      refine (live_write _ p bl bm k (k % 8) _ 0 64 zeros (HL.out.more ((Only.refl _ _).alloc _)) hk8 (by omega) (by omega) rfl (by exact range_new _ _ _) (by simp) (by omega)).mono ?_
      rintro e w2 ⟨rfl, hL2, hO2⟩
      have HL2 := Lib.hid hL2
      clear hL2
      go_wp2_with fail
      refine (live_read _ p bl bm _ (k % 8) HL2.out hk8).mono ?_
      rintro e w3 ⟨g3, rfl, hL3, hO3⟩
      have HL3 := Lib.hid hL3
      clear hL3
      go_wp2
      go_roundw
      case rel => exact ⟨k + 1, by omega, by go_num, HL3.out, ((((hOk.alloc (.cells (bv zeros).toArray 5)).trans hO2).trans hO3).into (by simp))⟩
      case measure => simp [intOf]; omega
    · have hge : ¬ (k : Int) < (N : Int) := by omega
      obtain rfl : k = N := by omega
      go_wp2_with fail
      go_loopw [10] (fun i wr => ∃ j : Nat, j ≤ M ∧ i = .int .i64 j ∧ LiveAt wr p bl bm (k + j) ∧ Only [p, bl, bm] w wr) (fun i _ => M - (intOf i).toNat)
      case atStart => exact ⟨0, Nat.zero_le _, rfl, by simpa using HL.out, hOk⟩
      case round =>
        obtain ⟨j, hj, rfl, hLj, hOj⟩ := hrel
        have HLj := Lib.hid hLj
        clear hLj HL hOk hlts
        by_cases hlt : j < M
        · have hlti : (j : Int) < (M : Int) := by omega
          go_wp2_with fail
          refine (live_flush _ p bl bm _ HLj.out (by omega) (by omega)).mono ?_
          rintro e w2 ⟨rfl, hL2, hO2⟩
          have HL2 := Lib.hid hL2
          clear hL2
          go_wp2_with fail
          refine (live_crash _ p bl bm _ a len cap l HL2.out (H.out.keep (hOj.then hO2 [p, bl, bm] (by simp) (by simp)) (fun hp b o e => ?hh)) (fun hp b o e => ?hg)).mono ?_
          case hh => have := H.out.lt hp e; simp; omega
          case hg => have := H.out.lt hp e; omega
          rintro e w3 ⟨rfl, hL3, hO3⟩
          have HL3 := Lib.hid hL3
          clear hL3
          go_wp2
          go_roundw
          case rel => exact ⟨j + 1, by omega, by go_num, by have := HL3.out; rwa [show ((k : Int) + (j + 1 : Nat)) = k + j + 1 by omega], ((hOj.trans hO2).trans hO3).into (by simp)⟩
          case measure => simp [intOf]; omega
        · have hge : ¬ (j : Int) < (M : Int) := by omega
          obtain rfl : j = M := by omega
          go_wp2_with fail
          refine (live_ops _ p bl bm _ HLj.out).mono ?_
          rintro e w' ⟨rfl, rfl⟩
          go_wp2_with fail
          refine (live_size _ p bl bm _ HLj.out).mono ?_
          rintro e w' ⟨rfl, rfl⟩
          go_wp2
          go_ret
          exact ⟨rfl, hOj.into (by simp; omega)⟩

end Go.Proofs.Ytlnmpbfalflbgaa
