/-
  The functions Flush, picked and Crash of the package disk, by contracts over what a disk holds.
-/
import Derived.Test.YtfampoblcielpaaGreatSectA
import Derived.Test.YtfampoblcielpaaGreatDiskF
namespace Go.Proofs.YtfampoblcielpaaGreat
set_option linter.unusedVariables false
set_option maxRecDepth 100000
open Go.RowKit

/-- Flushed up to sector k. -/
def DS.flushTo (D : DS) (k : Nat) : DS :=
  { D with last := fun i => if i < k then D.now i else D.last i, fresh := fun y => if 0 ≤ y ∧ y < (k : Int) then none else D.fresh y }
theorem flushTo_zero (D : DS) : D.flushTo 0 = D := by
  have h2 : (fun y : Int => if 0 ≤ y ∧ y < ((0 : Nat) : Int) then none else D.fresh y) = D.fresh := by funext y; rw [if_neg (by omega)]
  simp only [DS.flushTo, h2]; simp
theorem flushTo_succ (D : DS) (k : Nat) : (D.flushTo k).settle k true = D.flushTo (k + 1) := by
  have h1 : (fun i => if i = k ∧ true = true then ((D.flushTo k).fresh k).getD ((D.flushTo k).last i) else (D.flushTo k).last i) = fun i => if i < k + 1 then D.now i else D.last i := by
    funext i
    by_cases e : i = k
    · subst e; simp [DS.flushTo, DS.now]
    · by_cases l : i < k
      · have : i < k + 1 := by omega
        simp [DS.flushTo, e, l, this]
      · have : ¬ i < k + 1 := by omega
        simp [DS.flushTo, e, l, this]
  have h2 : (fun y : Int => if y = (k : Int) then none else (D.flushTo k).fresh y) = fun y => if 0 ≤ y ∧ y < ((k + 1 : Nat) : Int) then none else D.fresh y := by
    funext y
    by_cases e : y = (k : Int)
    · have : 0 ≤ y ∧ y < ((k + 1 : Nat) : Int) := by omega
      rw [if_pos e, if_pos this]
    · rw [if_neg e]
      by_cases l : 0 ≤ y ∧ y < (k : Int)
      · have : 0 ≤ y ∧ y < ((k + 1 : Nat) : Int) := by omega
        simp only [DS.flushTo, if_pos l, if_pos this]
      · have : ¬ (0 ≤ y ∧ y < ((k + 1 : Nat) : Int)) := by omega
        simp only [DS.flushTo, if_neg l, if_neg this]
  unfold DS.settle; rw [h1, h2]; rfl

/-- Flushed whole. -/
def DS.flushed (D : DS) : DS := { D with last := D.now, fresh := fun _ => none }
theorem flushed_at {w : World} {p bl bm : Nat} {D : DS} (h : DiskAt w p bl bm (D.flushTo D.n)) : DiskAt w p bl bm D.flushed where
  blk := h.blk
  rows i hi := by have := h.rows i hi; simpa [DS.flushTo, DS.flushed, show i < D.n from hi] using this
  lens i hi := by have := h.lens i hi; simpa [DS.flushTo, DS.flushed, show i < D.n from hi] using this
  room := h.room
  blt := h.blt
  map := by
    obtain ⟨E, clk, hE, hone, hg⟩ := h.map
    refine ⟨E, clk, hE, hone, fun x => ?_⟩
    rw [hg x]
    by_cases l : 0 ≤ x ∧ x < (D.n : Int)
    · simp [DS.flushTo, DS.flushed, l]
    · have := h.fin x (by simp only [DS.flushTo]; omega)
      rw [this]; rfl
  flen x b hb := by simp [DS.flushed] at hb
  pl := h.pl
  pm := h.pm
  lm := h.lm
  small := h.small
  fin _ _ := rfl

def Flushed (w : World) (p bl bm : Nat) (D : DS) (e : Ending) (w' : World) : Prop :=
  e = .returned (.int .i64 0) ∧ DiskAt w' p bl bm D ∧ Only [p, bl, bm] w w'

set_option maxHeartbeats 1000000 in
theorem flush_ok (w : World) (p bl bm : Nat) (D : DS) (h : DiskAt w p bl bm D) (hd : D.dead = false) (hf : D.fuse ≠ 0) (hf1 : -1 ≤ D.fuse) (hf2 : D.fuse < 1000000000000) (hk0 : 0 ≤ D.ops) (hk : D.ops < 1000000000000) :
    Calls Tryz.prog 60 #[.pointer (some ⟨p, 0, none⟩)] w (Flushed w p bl bm { D with fuse := burnt D.fuse, ops := D.ops + 1 }.flushed) := by
  have hb0 := h.blk
  have c3 := h.blk.c3
  rw [hd] at c3
  have Hf := Lib.hid hf
  have H := Lib.hid h
  have hsm := h.small
  clear hd hf h
  go_enter Tryz.func60, Tryz.ntmps60
  go_wp2_with fail
  refine (burn_ok _ p bl _ bm _ _ _ hb0 Hf.out hf1 hf2 hk0 hk).mono ?_
  rintro e w1 ⟨rfl, hb1, hO1⟩
  have hD1 := (H.out).reblk hO1 (burnt D.fuse) D.dead (D.ops + 1) hb1
  have c0 := hb1.c0
  have hO1' : Only [p, bl, bm] w w1 := hO1.into (by simp)
  clear hb0 c3 hb1 hO1
  go_wp2_with fail
  go_loopw [18] (fun i wr => ∃ k : Nat, k ≤ D.n ∧ i = .int .i64 k ∧ DiskAt wr p bl bm ({ D with fuse := burnt D.fuse, ops := D.ops + 1 }.flushTo k) ∧ Only [p, bl, bm] w wr) (fun i _ => D.n - (intOf i).toNat)
  case atStart => exact ⟨0, Nat.zero_le _, rfl, by rw [flushTo_zero]; exact hD1, hO1'⟩
  case round =>
    obtain ⟨k, hk, rfl, hDk, hOk⟩ := hrel
    by_cases hlt : k < D.n
    · have hlti : (k : Int) < (D.n : Int) := by omega
      have HD := Lib.hid hDk
      clear hDk hD1
      go_wp2_with fail
      refine (settle_any _ p bl bm _ k true HD.out hlt).mono ?_
      rintro e w2 ⟨rfl, hD2, hO2⟩
      rw [flushTo_succ] at hD2
      go_wp2
      go_roundw
      case rel => exact ⟨k + 1, by omega, by go_num, hD2, hOk.then hO2 _ (by simp) (by simp)⟩
      case measure => simp [intOf]; omega
    · have hge : ¬ (k : Int) < (D.n : Int) := by omega
      obtain rfl : k = D.n := by omega
      have HD := Lib.hid hDk
      clear hDk hD1
      go_wp2
      go_ret
      exact ⟨rfl, flushed_at HD.out, hOk⟩

/-- Bit i % 8 of a byte, as the code reckons it. -/
def bitB (v : UInt8) (i : Nat) : Bool := bits BinOp.and IntKind.u8 ((v.toNat : Int) / 2 ^ (i % 8)) 1 == 1
/-- Bit i of bytes; behind their end none is set. -/
def pickB (l : List UInt8) (i : Nat) : Bool := match l[i / 8]? with | some v => bitB v i | none => false

/-- How many of the first k sectors were written. -/
def DS.cnt (D : DS) : Nat → Nat
  | 0 => 0
  | k + 1 => D.cnt k + if (D.fresh k).isSome then 1 else 0
theorem cnt_le (D : DS) : ∀ k, D.cnt k ≤ k
  | 0 => Nat.le_refl _
  | k + 1 => by have := cnt_le D k; simp only [DS.cnt]; split <;> omega

/-- Crashed up to sector k. -/
def DS.crashTo (D : DS) (l : List UInt8) (k : Nat) : DS :=
  { D with last := fun i => if i < k ∧ pickB l (D.cnt i) = true then D.now i else D.last i, fresh := fun y => if 0 ≤ y ∧ y < (k : Int) then none else D.fresh y }
theorem crashTo_zero (D : DS) (l : List UInt8) : D.crashTo l 0 = D := by
  have h2 : (fun y : Int => if 0 ≤ y ∧ y < ((0 : Nat) : Int) then none else D.fresh y) = D.fresh := by funext y; rw [if_neg (by omega)]
  simp only [DS.crashTo, h2]; simp
theorem crashTo_fresh (D : DS) (l : List UInt8) (k : Nat) : (D.crashTo l k).fresh k = D.fresh k := by
  simp only [DS.crashTo]; rw [if_neg (by omega)]
theorem crashTo_succ (D : DS) (l : List UInt8) (k : Nat) : (D.crashTo l k).settle k (pickB l (D.cnt k)) = D.crashTo l (k + 1) := by
  have h1 : (fun i => if i = k ∧ pickB l (D.cnt k) = true then ((D.crashTo l k).fresh k).getD ((D.crashTo l k).last i) else (D.crashTo l k).last i) = fun i => if i < k + 1 ∧ pickB l (D.cnt i) = true then D.now i else D.last i := by
    funext i
    rw [crashTo_fresh]
    by_cases e : i = k
    · subst e; by_cases hp : pickB l (D.cnt i) = true <;> simp [DS.crashTo, DS.now, hp]
    · by_cases lt : i < k
      · have : i < k + 1 := by omega
        simp [DS.crashTo, e, lt, this]
      · have : ¬ i < k + 1 := by omega
        simp [DS.crashTo, e, lt, this]
  have h2 : (fun y : Int => if y = (k : Int) then none else (D.crashTo l k).fresh y) = fun y => if 0 ≤ y ∧ y < ((k + 1 : Nat) : Int) then none else D.fresh y := by
    funext y
    by_cases e : y = (k : Int)
    · have : 0 ≤ y ∧ y < ((k + 1 : Nat) : Int) := by omega
      rw [if_pos e, if_pos this]
    · rw [if_neg e]
      by_cases l0 : 0 ≤ y ∧ y < (k : Int)
      · have : 0 ≤ y ∧ y < ((k + 1 : Nat) : Int) := by omega
        simp only [DS.crashTo, if_pos l0, if_pos this]
      · have : ¬ (0 ≤ y ∧ y < ((k + 1 : Nat) : Int)) := by omega
        simp only [DS.crashTo, if_neg l0, if_neg this]
  unfold DS.settle; rw [h1, h2]; rfl

/-- Crashed whole. -/
def DS.crashed (D : DS) (l : List UInt8) : DS :=
  { D with last := fun i => if pickB l (D.cnt i) = true then D.now i else D.last i, fresh := fun _ => none, fuse := -1, dead := false }
theorem crashed_at {w : World} {p bl bm : Nat} {D : DS} {l : List UInt8} (h : DiskAt w p bl bm { D.crashTo l D.n with fuse := -1, dead := false, ops := D.ops }) : DiskAt w p bl bm (D.crashed l) where
  blk := h.blk
  rows i hi := by have := h.rows i hi; simpa [DS.crashTo, DS.crashed, show i < D.n from hi] using this
  lens i hi := by have := h.lens i hi; simpa [DS.crashTo, DS.crashed, show i < D.n from hi] using this
  room := h.room
  blt := h.blt
  map := by
    obtain ⟨E, clk, hE, hone, hg⟩ := h.map
    refine ⟨E, clk, hE, hone, fun x => ?_⟩
    rw [hg x]
    by_cases l0 : 0 ≤ x ∧ x < (D.n : Int)
    · simp [DS.crashTo, DS.crashed, l0]
    · have := h.fin x (by simp only [DS.crashTo]; omega)
      rw [this]; rfl
  flen x b hb := by simp [DS.crashed] at hb
  pl := h.pl
  pm := h.pm
  lm := h.lm
  small := h.small
  fin _ _ := rfl

def Crashed (w : World) (p bl bm : Nat) (D : DS) (e : Ending) (w' : World) : Prop :=
  e = .returned (.tuple #[]) ∧ DiskAt w' p bl bm D ∧ Only [p, bl, bm] w w'

end Go.Proofs.YtfampoblcielpaaGreat
