/-
  What a disk holds, in plain words, and disk.New by its contract.
-/
import Derived.Test.YtfampoblcielpaaGreatDiskA
import Derived.Test.YtfampoblcielpaaGreatMap
namespace Go.Proofs.YtfampoblcielpaaGreat
set_option linter.unusedVariables false
set_option maxRecDepth 100000
open Go.RowKit

/-- What a disk is: how many sectors; what lasts; what was written since; the fuse (-1: none); dead; its count. -/
structure DS where
  n : Nat
  last : Nat → List UInt8
  fresh : Int → Option (List UInt8)
  fuse : Int
  dead : Bool
  ops : Int

/-- A sector's value. -/
def sec (b : List UInt8) : Value := .agg (bv b).toArray

/-- The disk behind pointer p is D. -/
structure DiskAt (w : World) (p bl bm : Nat) (D : DS) : Prop where
  blk : DBlk w p bl D.n bm D.fuse D.dead D.ops
  rows : ∀ i, i < D.n → w.rangeAt bl (64 * i) (bv (D.last i))
  lens : ∀ i, i < D.n → (D.last i).length = 64
  room : w.there bl 0 (64 * D.n)
  blt : bl < w.heap.size
  map : ∃ E clk, IsBlk w bm (mapObj E clk) ∧ OneE E ∧ ∀ x, getE x E = (D.fresh x).map sec
  flen : ∀ x b, D.fresh x = some b → b.length = 64
  pl : p ≠ bl
  pm : p ≠ bm
  lm : bl ≠ bm
  small : D.n ≤ 256
  fin : ∀ y : Int, (y < 0 ∨ (D.n : Int) ≤ y) → D.fresh y = none

theorem DiskAt.mlt {w : World} {p bl bm : Nat} {D : DS} (h : DiskAt w p bl bm D) : bm < w.heap.size := by
  obtain ⟨E, clk, hb, _⟩ := h.map; exact hb.lt
theorem DiskAt.plt {w : World} {p bl bm : Nat} {D : DS} (h : DiskAt w p bl bm D) : p < w.heap.size := IsBlk.lt h.blk

/-- What has turned elsewhere does not touch it. -/
theorem DiskAt.keep {w w' : World} {p bl bm : Nat} {D : DS} {S : List Nat} (h : DiskAt w p bl bm D) (ho : Only S w w') (h1 : p ∉ S) (h2 : bl ∉ S) (h3 : bm ∉ S) : DiskAt w' p bl bm D where
  blk := IsBlk.only h.blk ho h1
  rows i hi := rangeAt_only (h.rows i hi) ho h.blt h2
  lens := h.lens
  room := there_only h.room ho h.blt h2
  blt := Nat.lt_of_lt_of_le h.blt ho.size
  map := by obtain ⟨E, clk, hb, hr⟩ := h.map; exact ⟨E, clk, hb.only ho h3, hr⟩
  flen := h.flen
  pl := h.pl
  pm := h.pm
  lm := h.lm
  small := h.small
  fin := h.fin

theorem DiskAt.more {w w' : World} {p bl bm : Nat} {D : DS} (h : DiskAt w p bl bm D) (ho : Only [] w w') : DiskAt w' p bl bm D := h.keep ho (by simp) (by simp) (by simp)

/-- The disk's own block turned: fuse, dead, count. -/
theorem DiskAt.reblk {w w' : World} {p bl bm : Nat} {D : DS} (h : DiskAt w p bl bm D) (ho : Only [p] w w') (f : Int) (d : Bool) (k : Int) (hb : DBlk w' p bl D.n bm f d k) :
    DiskAt w' p bl bm { D with fuse := f, dead := d, ops := k } where
  blk := hb
  rows i hi := rangeAt_only (h.rows i hi) ho h.blt (by simp; exact h.pl.symm)
  lens := h.lens
  room := there_only h.room ho h.blt (by simp; exact h.pl.symm)
  blt := Nat.lt_of_lt_of_le h.blt ho.size
  map := by obtain ⟨E, clk, hb, hr⟩ := h.map; exact ⟨E, clk, hb.only ho (by simp; exact h.pm.symm), hr⟩
  flen := h.flen
  pl := h.pl
  pm := h.pm
  lm := h.lm
  small := h.small
  fin := h.fin

def zeros : List UInt8 := List.replicate 64 0
/-- A new disk. -/
def newDS (n : Nat) : DS := { n := n, last := fun _ => zeros, fresh := fun _ => none, fuse := -1, dead := false, ops := 0 }

/-- The cells of n sectors of noughts. -/
def zrow (n : Nat) : Array Value := madeCells (Array.replicate 64 (.int .u8 0)) (n * 64)
theorem zrow_size (n : Nat) : (zrow n).size = n * 64 := by simp [zrow, madeCells]
theorem zrow_get (n j : Nat) (h : j < n * 64) : (zrow n)[j]? = some (.int .u8 0) := by
  have hg : ∀ m i : Nat, i < m → (Array.replicate m (Value.int .u8 0))[i]! = .int .u8 0 := fun m i hi => by simp [hi]
  have hm : j % 64 < 64 := Nat.mod_lt _ (by omega)
  simp only [zrow, madeCells, Array.getElem?_map, Array.getElem?_range, h, if_true, Option.map_some, Array.size_replicate]
  rw [hg 64 (j % 64) hm]
theorem info71 : (Tryz.prog.info? 133).map (fun i => (i.zero, i.size, i.bytes)) = some (some (.agg (Array.replicate 64 (.int .u8 0))), 64, 64) := by kernel_rfl

theorem make_sectors (w : World) (n : Nat) (hn : n ≤ 256) : (Instr.makeSlice 69 (.int .i64 n) (.int .i64 n)).run Tryz.prog w =
    .ok (.slice (some ⟨w.heap.size, 0, none⟩) n n) (w.alloc (.cells (zrow n) 133)) := by
  obtain ⟨i0, hi, hz0, hz1, hz2⟩ := info_parts info71
  have := run_make (P := Tryz.prog) w 69 133 i0 _ Tryz.underlying69 hi hz0 .i64 .i64 n n (by omega) (by omega) (by rw [hz2]; omega) (by omega)
  rw [this, hz1]
  simp [zrow, Value.cells]

theorem bv_zeros (j : Nat) (hj : j < 64) : (bv zeros)[j]? = some (.int .u8 0) := by
  have hg : ∀ m : Nat, j < m → (bv (List.replicate m 0))[j]? = some (.int .u8 0) := fun m hm => by simp [bv, hm]
  exact hg 64 hj
theorem sector_row (w : World) (b n : Nat) (h : IsBlk w b (.cells (zrow n) 133)) (i : Nat) (hi : i < n) : w.rangeAt b (64 * i) (bv zeros) := fun j v hv => by
  have hj : j < 64 := by have := (List.getElem?_eq_some_iff.1 hv).1; simpa [bv, zeros] using this
  rw [h.cell, zrow_get n _ (by omega), bv_zeros j hj] at *
  exact hv

/-- What New answers where it makes one. -/
def NewOk (w : World) (n : Nat) (e : Ending) (w' : World) : Prop :=
  ∃ p bl bm, e = .returned (.tuple #[.pointer (some ⟨p, 0, none⟩), .int .i64 0]) ∧ DiskAt w' p bl bm (newDS n) ∧ Only [] w w' ∧ w.heap.size ≤ p ∧ w.heap.size ≤ bl ∧ w.heap.size ≤ bm

theorem newOk_of (w : World) (n : Nat) (hn : n ≤ 256) :
    DiskAt (((w.alloc (.cells (zrow n) 133)).alloc (.map #[] 0)).alloc (.cells (dcells w.heap.size n (w.heap.size + 1) (-1) false 0) 72)) (w.heap.size + 2) w.heap.size (w.heap.size + 1) (newDS n) := by
  have hb : IsBlk (((w.alloc (.cells (zrow n) 133)).alloc (.map #[] 0)).alloc (.cells (dcells w.heap.size n (w.heap.size + 1) (-1) false 0) 72)) w.heap.size (.cells (zrow n) 133) :=
    ((IsBlk.made w _).alloc _).alloc _
  refine ⟨?_, fun i hi => sector_row _ _ n hb i hi, fun _ _ => by simp [newDS, zeros], fun j hj => ?_, by simp; omega, ?_, fun _ _ h => by simp [newDS] at h, by omega, by omega, by omega, hn, fun _ _ => rfl⟩
  · have := IsBlk.made ((w.alloc (.cells (zrow n) 133)).alloc (.map #[] 0)) (.cells (dcells w.heap.size n (w.heap.size + 1) (-1) false 0) 72)
    simpa [DBlk, newDS] using this
  · refine ⟨?_, hb.notFrozen _⟩
    rw [hb.cell, zrow_get n _ (by simpa [newDS, Nat.mul_comm] using hj)]; rfl
  · refine ⟨[], 0, ?_, by simp [OneE], fun x => rfl⟩
    have := (IsBlk.made (w.alloc (.cells (zrow n) 133)) (.map #[] 0)).alloc (.cells (dcells w.heap.size n (w.heap.size + 1) (-1) false 0) 72)
    simpa [mapObj] using this

set_option maxHeartbeats 400000 in
theorem new_ok (w : World) (n : Nat) (h8 : 8 ≤ n) (hn : n ≤ 256) (h2 : n % 2 = 0) :
    Calls Tryz.prog 14 #[.int .i64 n] w (NewOk w n) := by
  have hmk := fun W => make_sectors W n hn
  have hmm := @run_makeMap Tryz.prog
  have hD := newOk_of w n hn
  have hO : Only [] w (((w.alloc (.cells (zrow n) 133)).alloc (.map #[] 0)).alloc (.cells (dcells w.heap.size n (w.heap.size + 1) (-1) false 0) 72)) :=
    (((Only.refl [] w).alloc _).alloc _).alloc _
  have t1 : decide ((n : Int) < 8) = false := by simp; omega
  have t2 : decide ((256 : Int) < (n : Int)) = false := by simp; omega
  have t3 : ((n : Int) % 2 != 0) = false := by simp; omega
  go_enter Tryz.func14, Tryz.ntmps14
  go_wp2
  go_ret2
  exact ⟨_, _, _, rfl, hD, hO, by omega, by omega, by omega⟩

def newBad (x : Int) : Bool := decide (x < 8) || decide (256 < x) || (x % 2 != 0)

set_option maxHeartbeats 400000 in
theorem new_bad (w : World) (x : Int) (h : newBad x = true) :
    Calls Tryz.prog 14 #[.int .i64 x] w fun e w' => e = .returned (.tuple #[.pointer none, .int .i64 1]) ∧ w = w' := by
  by_cases h1 : x < 8
  · clear h
    have t1 : decide (x < 8) = true := by simpa using h1
    go_enter Tryz.func14, Tryz.ntmps14
    go_wp2
    go_ret2
    exact ⟨rfl, rfl⟩
  by_cases h2 : 256 < x
  · clear h
    have t1 : decide (x < 8) = false := by simpa using h1
    have t2 : decide (256 < x) = true := by simpa using h2
    go_enter Tryz.func14, Tryz.ntmps14
    go_wp2
    go_ret2
    exact ⟨rfl, rfl⟩
  · have t3 : (x % 2 != 0) = true := by simpa [newBad, h1, h2] using h
    clear h
    have t1 : decide (x < 8) = false := by simpa using h1
    have t2 : decide (256 < x) = false := by simpa using h2
    have h8 : 8 ≤ x := by omega
    have h9 : x ≤ 256 := by omega
    go_enter Tryz.func14, Tryz.ntmps14
    go_wp2
    go_ret2
    exact ⟨rfl, rfl⟩

end Go.Proofs.YtfampoblcielpaaGreat
