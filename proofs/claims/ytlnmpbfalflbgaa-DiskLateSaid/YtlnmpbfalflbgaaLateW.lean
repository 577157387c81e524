/-
  The walk of the law DiskLate: it returns true, whatever its numbers, bytes and bool are, and turns nothing that was there.
-/
import Derived.Test.YtlnmpbfalflbgaaDiskI
namespace Go.Proofs.Ytlnmpbfalflbgaa
open Go.RowKit

theorem one_src (W : World) (t : TypeId) (g : Nat) (hg : g = W.heap.size) : Src (W.alloc (.cells #[.int .u8 1] t)) (some ⟨g, 0, none⟩) 1 [1] := by
  subst hg
  refine ⟨rfl, fun _ => ⟨_, 0, rfl, by simp, fun j v hv => ?_⟩⟩
  have hj : j < 1 := by have := (List.getElem?_eq_some_iff.1 hv).1; simpa [bv] using this
  obtain rfl : j = 0 := by omega
  rw [(IsBlk.made W _).cell]; simpa [bv] using hv

theorem pick_one : pickB [1] 0 = true := by kernel_rfl
theorem pick_nil (i : Nat) : pickB [] i = false := by simp [pickB]

theorem cnt_alone (fresh : News) (j : Nat) (hf : ∀ y : Int, y ≠ j → fresh y = none) : ∀ k, k ≤ j → cntF fresh k = 0
  | 0, _ => rfl
  | k + 1, h => by simp only [cntF]; rw [cnt_alone fresh j hf k (by omega), hf k (by omega)]; rfl

/-- The sectors behind the first flush; behind the crash; at i, at j. -/
def lateA (i : Nat) (xb : List UInt8) : Secs := nowF (fun _ => zeros) (putF noF i xb)
theorem lateA_at (i : Nat) (xb : List UInt8) (y : Nat) : lateA i xb y = if y = i then xb else zeros := by
  by_cases e : y = i
  · subst e; simp [lateA, nowF, putF]
  · have : ¬ (y : Int) = (i : Int) := by omega
    simp [lateA, nowF, putF, noF, e, this]
theorem late_p (i j : Nat) (xb yb : List UInt8) : nowF (lateA i xb) (putF noF j yb) j = yb := by simp [nowF, putF]
theorem late_keep (i j : Nat) (xb yb : List UInt8) (y : Nat) : nowF (crF (lateA i xb) (putF noF j yb) [1]) noF y = if y = j then yb else lateA i xb y := by
  have hc := cnt_alone (putF noF j yb) j (fun y hy => by simp [putF, noF, hy])
  by_cases e : y = j
  · subst e
    have h0 : cntF (putF noF y yb) y = 0 := hc y (Nat.le_refl _)
    simp [nowF, noF, crF, h0, pick_one, putF]
  · have : ¬ (y : Int) = (j : Int) := by omega
    simp [nowF, noF, crF, putF, e, this]
theorem late_lose (i j : Nat) (xb yb : List UInt8) (y : Nat) : nowF (crF (lateA i xb) (putF noF j yb) []) noF y = lateA i xb y := by
  simp [nowF, noF, crF, pick_nil]

set_option maxHeartbeats 4000000 in
theorem late_walk (n m : Int) (a2 : Option Addr) (len2 cap2 : Nat) (l2 : List UInt8) (a3 : Option Addr) (len3 cap3 : Nat) (l3 : List UInt8) (keep : Bool) (w : World) (h2 : Src w a2 len2 l2) (h3 : Src w a3 len3 l3) :
    Calls Try.prog 10 #[.int .i64 n, .int .i64 m, .slice a2 len2 cap2, .slice a3 len3 cap3, .bool keep] w fun e w' => e = .returned (.bool true) ∧ Only [] w w' := by
  have hmk : ∀ W : World, (Instr.makeSlice 34 (.int .i64 64) (.int .i64 64)).run Try.prog W = .ok (.slice (some ⟨W.heap.size, 0, none⟩) 64 64) (W.alloc (.cells (bv zeros).toArray 5)) := fun _ => by kernel_rfl
  have hn0 := Int.emod_nonneg n (show (10 : Int) ≠ 0 by omega)
  have hn1 := Int.emod_lt_of_pos n (show (0 : Int) < 10 by omega)
  have hm0 := Int.emod_nonneg m (show (10 : Int) ≠ 0 by omega)
  have hm1 := Int.emod_lt_of_pos m (show (0 : Int) < 10 by omega)
  obtain ⟨i, hi⟩ := Int.eq_ofNat_of_zero_le hn0
  obtain ⟨j, hj⟩ := Int.eq_ofNat_of_zero_le hm0
  have hi10 : i < 10 := by omega
  have hj10 : j < 10 := by omega
  have Hi := Lib.hid hi
  have Hj := Lib.hid hj
  have H2 := Lib.hid h2
  have H3 := Lib.hid h3
  clear hi hj hn0 hn1 hm0 hm1 h2 h3
  go_enter Try.func10, Try.ntmps10
  go_wp2_with fail
  refine (known_any _).mono ?_
  rintro e w0 ⟨rfl, hO0⟩
  go_wp2_with fail
  refine (new_ok _ 10 (by omega) (by omega) (by omega)).mono ?_
  rintro e w1 ⟨p, bl, bm, rfl, hD, hO1, hp1, hp2, hp3⟩
  rw [new_mk] at hD
  have hO01 := hO0.then hO1 [] (by simp) (by simp)
  have hz0 := hO0.size
  have hlt1 := hD.plt
  have hlt2 := hD.blt
  have hlt3 := hD.mlt
  clear hO1 hO0
  go_wp2_with fail
  refine (within_any _ n 10 (by omega) (by omega)).mono ?_
  rintro e w' ⟨he, rfl⟩
  rw [Hi.out] at he
  subst he
  go_wp2_with fail
  refine (within_any _ m 10 (by omega) (by omega)).mono ?_
  rintro e w' ⟨he, rfl⟩
  rw [Hj.out] at he
  subst he
  go_wp2_with fail
  refine (sector_any _ 1 a2 len2 cap2 l2 (H2.out.more hO01)).mono ?_
  rintro e w2 ⟨gx, rfl, hbx, hgx, hO2⟩
  have hD2 := hD.more hO2
  have hO02 := hO01.then hO2 [] (by simp) (by simp)
  have hz2 := hO2.size
  have Hx := Lib.hid (length_secB 1 l2)
  generalize secB 1 l2 = xb at *
  clear hD hO2 hO01
  go_wp2_with fail
  refine (sector_any _ 2 a3 len3 cap3 l3 (H3.out.more hO02)).mono ?_
  rintro e w3 ⟨gy, rfl, hby, hgy, hO3⟩
  have hD3 := hD2.more hO3
  have hO03 := hO02.then hO3 [] (by simp) (by simp)
  have hbx3 := hbx.only hO3 (by simp)
  have hgxlt := hbx.lt
  have hz3 := hO3.size
  have Hy := Lib.hid (length_secB 2 l3)
  generalize secB 2 l3 = yb at *
  clear hD2 hO02 hbx hO3
  go_wp2_with fail
  refine (v_write i gx 0 64 xb hD3 hi10 (by decide) (by decide) Hx.out (blk_range hbx3) (by omega) (by omega)).mono ?_
  rintro e w4 ⟨rfl, hD4, hO4⟩
  have hbx4 := hbx3.only hO4 (by simp; omega)
  have hby4 := hby.only hO4 (by simp; omega)
  have hO04 := hO03.then hO4 [p, bl, bm] (by simp) (by simp)
  have hz4 := hO4.size
  clear hD3 hbx3 hby hO4 hO03
  go_wp2_with fail
  refine (v_flush hD4 (by decide) (by decide)).mono ?_
  rintro e w5 ⟨rfl, hD5, hO5⟩
  have hbx5 := hbx4.only hO5 (by simp; omega)
  have hby5 := hby4.only hO5 (by simp; omega)
  have hO05 := hO04.then hO5 [p, bl, bm] (by simp) (by simp)
  have hz5 := hO5.size
  clear hD4 hbx4 hby4 hO5 hO04
  go_wp2_with fail
  have hgylt := hby5.lt
  refine (v_write j gy 0 64 yb hD5 hj10 (by decide) (by decide) Hy.out (blk_range hby5) hgylt (by omega)).mono ?_
  rintro e w6 ⟨rfl, hD6, hO6⟩
  have hbx6 := hbx5.only hO6 (by simp; omega)
  have hby6 := hby5.only hO6 (by simp; omega)
  have hO06 := hO05.then hO6 [p, bl, bm] (by simp) (by simp)
  have hz6 := hO6.size
  clear hD5 hbx5 hby5 hO6 hO05
  have hD6' : DiskAt w6 p bl bm (mkD 10 (lateA i xb) (putF noF j yb) (0 + 1 + 1 + 1)) := hD6
  clear hD6
  go_wp2_with fail
  refine (v_read j hD6' hj10).mono ?_
  rintro e w7 ⟨g7, rfl, hb7, hg7, hO7⟩
  rw [late_p] at hb7
  have hD7 := hD6'.more hO7
  have hbx7 := hbx6.only hO7 (by simp)
  have hby7 := hby6.only hO7 (by simp)
  have hO07 := hO06.then hO7 [p, bl, bm] (by simp) (by simp)
  have hz7 := hO7.size
  have hg7lt := hb7.lt
  clear hD6' hbx6 hby6 hO7 hO06
  cases keep with
  | true =>
    go_wp2_with fail
    refine (v_crash _ 1 1 [1] (hD7.more ((Only.refl _ _).alloc _)) (by exact one_src _ _ _ rfl) (fun _ b o e => by injection e with e; injection e with e1; omega)).mono ?_
    rintro e w8 ⟨rfl, hD8, hO8⟩
    have hbx8 := (hbx7.alloc _).only hO8 (by simp; omega)
    have hby8 := (hby7.alloc _).only hO8 (by simp; omega)
    have hb78 := (hb7.alloc _).only hO8 (by simp; omega)
    have hz8 : w7.heap.size ≤ w8.heap.size := by have := hO8.size; simp at this; omega
    have hO08 : Only [p, bl, bm] w w8 := ((hO07.alloc (.cells #[.int .u8 1] 5)).trans hO8).into (by simp)
    clear hbx7 hby7 hb7 hD7 hO8
    go_wp2_with fail
    refine (v_read j hD8 hj10).mono ?_
    rintro e w9 ⟨g9, rfl, hb9, hg9, hO9⟩
    have hD9 := hD8.more hO9
    have hO09 := hO08.then hO9 [p, bl, bm] (by simp) (by simp)
    have hbx9 := hbx8.only hO9 (by simp)
    have hby9 := hby8.only hO9 (by simp)
    have hb79 := hb78.only hO9 (by simp)
    have hz9 := hO9.size
    clear hbx8 hby8 hb78 hD8 hO9 hO08
    go_wp2_with fail
    refine (v_read i hD9 hi10).mono ?_
    rintro e w10 ⟨g10, rfl, hb10, hg10, hO10⟩
    have hbx10 := blk_range ((hbx9.only hO10 (by simp)).alloc (.cells (bv zeros).toArray 5))
    have hby10 := blk_range ((hby9.only hO10 (by simp)).alloc (.cells (bv zeros).toArray 5))
    have hb710 := blk_range ((hb79.only hO10 (by simp)).alloc (.cells (bv zeros).toArray 5))
    have hb910 := blk_range ((hb9.only hO10 (by simp)).alloc (.cells (bv zeros).toArray 5))
    have hb1010 := blk_range (hb10.alloc (.cells (bv zeros).toArray 5))
    have hO0a := (hO09.then hO10 [p, bl, bm] (by simp) (by simp)).alloc (.cells (bv zeros).toArray 5)
    rw [late_keep] at hb910 hb1010
    clear hbx9 hby9 hb79 hb9 hb10 hD9 hO09 hO10
    have q1 := conv_str _ gx 0 64 64 xb Hx.out hbx10
    have q2 := conv_str _ gy 0 64 64 yb Hy.out hby10
    have q3 := conv_str _ g7 0 64 64 yb Hy.out hb710
    have q6 := conv_str _ w10.heap.size 0 64 64 zeros rfl (range_new w10 zeros 5)
    clear hbx10 hby10 hb710
    have e9 : (if j = j then yb else lateA i xb j) = yb := if_pos rfl
    rw [e9] at hb910
    have q4 := conv_str _ g9 0 64 64 yb Hy.out hb910
    clear hb910 e9
    by_cases eij : i = j
    · subst eij
      clear hb1010
      go_wp2
      go_ret
      exact ⟨rfl, hO0a.into (by simp; omega)⟩
    · have e10 : (if i = j then yb else lateA i xb i) = xb := by rw [if_neg eij, lateA_at, if_pos rfl]
      rw [e10] at hb1010
      have q5 := conv_str _ g10 0 64 64 xb Hx.out hb1010
      clear hb1010 e10
      have t1 : ((i : Int) == (j : Int)) = false := by simp; omega
      clear eij
      go_wp2
      go_ret
      exact ⟨rfl, hO0a.into (by simp; omega)⟩
  | false =>
    go_wp2_with fail
    refine (v_crash _ 0 0 [] hD7 (by exact ⟨rfl, fun h => by omega⟩) (fun h => by omega)).mono ?_
    rintro e w8 ⟨rfl, hD8, hO8⟩
    have hbx8 := hbx7.only hO8 (by simp; omega)
    have hby8 := hby7.only hO8 (by simp; omega)
    have hb78 := hb7.only hO8 (by simp; omega)
    have hz8 : w7.heap.size ≤ w8.heap.size := hO8.size
    have hO08 : Only [p, bl, bm] w w8 := (hO07.trans hO8).into (by simp)
    clear hbx7 hby7 hb7 hD7 hO8
    go_wp2_with fail
    refine (v_read j hD8 hj10).mono ?_
    rintro e w9 ⟨g9, rfl, hb9, hg9, hO9⟩
    have hD9 := hD8.more hO9
    have hO09 := hO08.then hO9 [p, bl, bm] (by simp) (by simp)
    have hbx9 := hbx8.only hO9 (by simp)
    have hby9 := hby8.only hO9 (by simp)
    have hb79 := hb78.only hO9 (by simp)
    have hz9 := hO9.size
    clear hbx8 hby8 hb78 hD8 hO9 hO08
    go_wp2_with fail
    refine (v_read i hD9 hi10).mono ?_
    rintro e w10 ⟨g10, rfl, hb10, hg10, hO10⟩
    have hbx10 := blk_range ((hbx9.only hO10 (by simp)).alloc (.cells (bv zeros).toArray 5))
    have hby10 := blk_range ((hby9.only hO10 (by simp)).alloc (.cells (bv zeros).toArray 5))
    have hb710 := blk_range ((hb79.only hO10 (by simp)).alloc (.cells (bv zeros).toArray 5))
    have hb910 := blk_range ((hb9.only hO10 (by simp)).alloc (.cells (bv zeros).toArray 5))
    have hb1010 := blk_range (hb10.alloc (.cells (bv zeros).toArray 5))
    have hO0a := (hO09.then hO10 [p, bl, bm] (by simp) (by simp)).alloc (.cells (bv zeros).toArray 5)
    rw [late_lose] at hb910 hb1010
    clear hbx9 hby9 hb79 hb9 hb10 hD9 hO09 hO10
    have q1 := conv_str _ gx 0 64 64 xb Hx.out hbx10
    have q2 := conv_str _ gy 0 64 64 yb Hy.out hby10
    have q3 := conv_str _ g7 0 64 64 yb Hy.out hb710
    have q6 := conv_str _ w10.heap.size 0 64 64 zeros rfl (range_new w10 zeros 5)
    clear hbx10 hby10 hb710
    by_cases eij : i = j
    · subst eij
      have e10 : lateA i xb i = xb := by rw [lateA_at, if_pos rfl]
      rw [e10] at hb910 hb1010
      have q4 := conv_str _ g9 0 64 64 xb Hx.out hb910
      clear hb910 hb1010 e10
      go_wp2
      go_ret
      exact ⟨rfl, hO0a.into (by simp; omega)⟩
    · have e9 : lateA i xb j = zeros := by rw [lateA_at, if_neg (by omega)]
      have e10 : lateA i xb i = xb := by rw [lateA_at, if_pos rfl]
      rw [e9] at hb910
      rw [e10] at hb1010
      have q4 := conv_str _ g9 0 64 64 zeros rfl hb910
      have q5 := conv_str _ g10 0 64 64 xb Hx.out hb1010
      clear hb910 hb1010 e9 e10
      have t1 : ((i : Int) == (j : Int)) = false := by simp; omega
      clear eij
      go_wp2
      go_ret
      exact ⟨rfl, hO0a.into (by simp; omega)⟩

end Go.Proofs.Ytlnmpbfalflbgaa
