/-
  The function Write of the package disk, by contracts over what a disk holds.
-/
import Derived.Test.YtfampoblcielpaaGreatDiskC
namespace Go.Proofs.YtfampoblcielpaaGreat
set_option linter.unusedVariables false
set_option maxRecDepth 100000
open Go.RowKit

set_option maxHeartbeats 1000000 in
theorem read_ok (w : World) (p bl bm : Nat) (D : DS) (x : Nat) (h : DiskAt w p bl bm D) (hd : D.dead = false) (hx : x < D.n) :
    Calls Tryz.prog 46 #[.pointer (some ⟨p, 0, none⟩), .int .i64 x] w (Made w (D.now x) 0) := by
  cases hf : D.fresh x with
  | none => have := read_last w p bl bm D x h hd hx hf; rwa [show D.now x = D.last x by simp [DS.now, hf]]
  | some b => have := read_fresh w p bl bm D x b h hd hx hf; rwa [show D.now x = b by simp [DS.now, hf]]

set_option maxHeartbeats 400000 in
theorem write_dead (w : World) (p bl bm : Nat) (D : DS) (x : Int) (s : Value) (h : DiskAt w p bl bm D) (hd : D.dead = true) :
    Calls Tryz.prog 59 #[.pointer (some ⟨p, 0, none⟩), .int .i64 x, s] w fun e w' => e = .returned (.int .i64 3) ∧ w = w' := by
  have c3 := h.blk.c3
  rw [hd] at c3
  clear hd
  go_enter Tryz.func59, Tryz.ntmps59
  go_wp2
  go_ret
  exact ⟨rfl, rfl⟩

def badW (x : Int) (n m : Nat) : Bool := !hasB x n || decide (m ≠ 64)

set_option maxHeartbeats 400000 in
theorem write_bad (w : World) (p bl bm : Nat) (D : DS) (x : Int) (a : Option Addr) (m c : Nat) (h : DiskAt w p bl bm D) (hd : D.dead = false) (hbad : badW x D.n m = true) :
    Calls Tryz.prog 59 #[.pointer (some ⟨p, 0, none⟩), .int .i64 x, .slice a m c] w fun e w' => e = .returned (.int .i64 1) ∧ w = w' := by
  have hb := h.blk
  have c3 := h.blk.c3
  rw [hd] at c3
  clear hd
  by_cases hh : hasB x D.n = true
  · have hm : ((m : Int) != 64) = true := by simp [badW, hh] at hbad; simp; omega
    clear hbad
    go_enter Tryz.func59, Tryz.ntmps59
    go_wp2_with (go_at_call 70; refine (has_any _ p bl _ bm _ _ _ x hb).mono ?_; rintro e w' ⟨rfl, rfl⟩)
    go_ret
    exact ⟨rfl, rfl⟩
  · have hh' : hasB x D.n = false := by simpa using hh
    clear hbad hh
    go_enter Tryz.func59, Tryz.ntmps59
    go_wp2_with (go_at_call 70; refine (has_any _ p bl _ bm _ _ _ x hb).mono ?_; rintro e w' ⟨rfl, rfl⟩)
    go_ret
    exact ⟨rfl, rfl⟩

set_option maxHeartbeats 400000 in
/-- The fuse has burnt down: the disk dies. -/
theorem write_spent (w : World) (p bl bm : Nat) (D : DS) (x : Nat) (a : Option Addr) (c : Nat) (h : DiskAt w p bl bm D) (hd : D.dead = false) (hx : x < D.n) (hf : D.fuse = 0) :
    Calls Tryz.prog 59 #[.pointer (some ⟨p, 0, none⟩), .int .i64 x, .slice a 64 c] w fun e w' => e = .returned (.int .i64 3) ∧ DiskAt w' p bl bm { D with fuse := 0, dead := true, ops := D.ops } ∧ Only [p] w w' := by
  have hb := h.blk
  have hb2 := h.blk
  have c3 := h.blk.c3
  rw [hd] at c3
  rw [hf] at hb2
  have hh : hasB x D.n = true := by simp [hasB]; omega
  clear hd hf
  go_enter Tryz.func59, Tryz.ntmps59
  go_wp2_with (first
    | (go_at_call 70; refine (has_any _ p bl _ bm _ _ _ x hb).mono ?_; rintro e w' ⟨rfl, rfl⟩)
    | (go_at_call 77; refine (burn_spent _ p bl _ bm _ _ hb2).mono ?_; rintro e w1 ⟨rfl, hb1, hO⟩))
  go_ret
  exact ⟨rfl, h.reblk hO 0 true D.ops hb1, hO⟩

/-- What a write leaves. -/
def DS.put (D : DS) (f k : Int) (x : Nat) (b : List UInt8) : DS := { D with fuse := f, ops := k, fresh := fun y => if y = (x : Int) then some b else D.fresh y }

theorem put_disk (w : World) (p bl bm : Nat) (D : DS) (x : Nat) (b : List UInt8) (hb : b.length = 64) (hx : x < D.n) (h : DiskAt w p bl bm D) (E : List (Int × Value × Nat)) (clk clk' : Nat) (hE : IsBlk w bm (mapObj E clk)) (hone : OneE E) (hg : ∀ x, getE x E = (D.fresh x).map sec) :
    DiskAt (withObj w bm (mapObj (putE x (sec b) clk E) clk')) p bl bm (D.put D.fuse D.ops x b) := by
  have hO : Only [bm] w (withObj w bm (mapObj (putE x (sec b) clk E) clk')) := (Only.refl _ w).withObj _ _ (by simp)
  refine ⟨IsBlk.only h.blk hO (by simp; exact h.pm), fun i hi => rangeAt_only (h.rows i hi) hO h.blt (by simp; exact h.lm), h.lens, there_only h.room hO h.blt (by simp; exact h.lm), Nat.lt_of_lt_of_le h.blt hO.size,
    ⟨_, clk', withObj_same hE _, one_put _ _ _ _ hone, fun y => ?_⟩, fun y c hc => ?_, h.pl, h.pm, h.lm, h.small, fun y hy => by
      have := h.fin y hy
      have hyn : (y < 0 ∨ (D.n : Int) ≤ y) := hy
      have e : ¬ y = (x : Int) := by omega
      simp [DS.put, e]; exact this⟩
  · rw [get_put, hg y]
    by_cases e : y = (x : Int) <;> simp [DS.put, e]
  · by_cases e : y = (x : Int)
    · simp [DS.put, e] at hc; rw [← hc]; exact hb
    · simp [DS.put, e] at hc; exact h.flen y c hc

/-- What Write answers where it writes. -/
def Wrote (w : World) (p bl bm : Nat) (D : DS) (e : Ending) (w' : World) : Prop :=
  e = .returned (.int .i64 0) ∧ DiskAt w' p bl bm D ∧ Only [p, bm] w w'

set_option maxHeartbeats 1000000 in
theorem write_ok (w : World) (p bl bm : Nat) (D : DS) (x : Nat) (g o c : Nat) (b : List UInt8) (h : DiskAt w p bl bm D) (hd : D.dead = false) (hx : x < D.n) (hf : D.fuse ≠ 0) (hf1 : -1 ≤ D.fuse) (hf2 : D.fuse < 1000000000000) (hk0 : 0 ≤ D.ops) (hk : D.ops < 1000000000000)
    (hb : b.length = 64) (hr : w.rangeAt g o (bv b)) (hg : g < w.heap.size) (hgp : g ≠ p) :
    Calls Tryz.prog 59 #[.pointer (some ⟨p, 0, none⟩), .int .i64 x, .slice (some ⟨g, o, none⟩) 64 c] w (Wrote w p bl bm (D.put (burnt D.fuse) (D.ops + 1) x b)) := by
  have hb0 := h.blk
  have c3 := h.blk.c3
  rw [hd] at c3
  have Hf := Lib.hid hf
  have hh : hasB x D.n = true := by simp [hasB]; omega
  have Hb := Lib.hid hb
  have Hr := Lib.hid hr
  have Hgp := Lib.hid hgp
  have H := Lib.hid h
  clear hd hf hb hr hgp h
  go_enter Tryz.func59, Tryz.ntmps59
  go_wp2_with (first
    | (go_at_call 70; refine (has_any _ p bl _ bm _ _ _ x hb0).mono ?_; rintro e w' ⟨rfl, rfl⟩)
    | (go_at_call 77; refine (burn_ok _ p bl _ bm _ _ _ hb0 Hf.out hf1 hf2 hk0 hk).mono ?_; rintro e w1 ⟨rfl, hb1, hO⟩)
    | (refine cp_sec b Hb.out rfl _ _ rfl _ _ ?_ _ _ rfl ?_ _ _ _ rfl ?_ ?_; (rfl); (simp); exact World.rangeAt_alloc (rangeAt_only Hr.out hO hg (by simpa using Hgp.out)) _))
  have hD1 := (H.out).reblk hO (burnt D.fuse) D.dead (D.ops + 1) hb1
  have hD2 : DiskAt (w1.alloc (.cells (bv b).toArray 133)).drew p bl bm _ := hD1.keep (S := []) ((Only.refl [] w1).alloc _).drew (by simp) (by simp) (by simp)
  have hO2 : Only [p, bm] w (w1.alloc (.cells (bv b).toArray 133)).drew := ((hO.into (T := [p, bm]) (by simp)).alloc _).drew
  have hr2 : (w1.alloc (.cells (bv b).toArray 133)).drew.rangeAt w1.heap.size 0 (bv b) := (World.rangeAt_drew _ _ _ _).2 (range_new w1 b _)
  refine still_tail 6 (by kernel_rfl) (by kernel_rfl) ?_
  simp only [List.take_succ_cons, List.take_zero, List.drop_succ_cons, List.drop_zero]
  generalize (w1.alloc (.cells (bv b).toArray 133)).drew = w2 at *
  have c1 := hD2.blk.c1
  have HD2 := Lib.hid hD2
  have Hr2 := Lib.hid hr2
  clear hD1 hD2 hr2 hb1 hO hb0 c3
  iterate 5 still_step
  refine still_sec b Hb.out rfl _ rfl _ _ rfl Hr2.out ?_
  refine wpStill_nil ?_
  obtain ⟨E, clk, hE, hone, hge⟩ := HD2.out.map
  refine wpList_put _ _ _ bm E clk x (sec b) Tryz.underlying70 Tryz.underlying3 hE rfl _ _ _ rfl rfl rfl rfl fun clk' => ?_
  have hD3 := put_disk _ p bl bm _ x b Hb.out (by exact hx) HD2.out E clk clk' hE hone hge
  have hO3 := hO2.withObj bm (mapObj (putE x (sec b) clk E) clk') (by simp)
  generalize withObj w2 bm (mapObj (putE x (sec b) clk E) clk') = w3 at *
  clear hge hE hone
  go_wp2
  go_ret
  exact ⟨rfl, hD3, hO3⟩

end Go.Proofs.YtfampoblcielpaaGreat
