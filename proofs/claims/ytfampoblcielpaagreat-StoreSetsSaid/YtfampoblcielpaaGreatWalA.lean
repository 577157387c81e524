/-
  A log's block; the functions State, other and Fits of the package wal, by contracts.
-/
import Derived.Test.YtfampoblcielpaaGreatSectK
import Derived.Test.YtfampoblcielpaaGreatDiskI
namespace Go.Proofs.YtfampoblcielpaaGreat
set_option maxRecDepth 100000
open Go.RowKit

/-- A log: its half's sectors, the greatest generation, its own, its half, the next sector, the next record. -/
structure LS where
  size : Nat
  top : Int
  gen : Int
  half : Nat
  next : Nat
  seq : Int

def lcells (pd : Nat) (L : LS) : Array Value :=
  #[.pointer (some ⟨pd, 0, none⟩), .int .i64 L.size, .int .i64 L.top, .int .i64 L.gen, .int .i64 L.half, .int .i64 L.next, .int .i64 L.seq]
def LogAt (w : World) (lp pd : Nat) (L : LS) : Prop := IsBlk w lp (.cells (lcells pd L) 78)

section
variable {w w' : World} {lp pd : Nat} {L : LS}
theorem LogAt.c0 (h : LogAt w lp pd L) : w.cell? ⟨lp, 0, none⟩ = some (.pointer (some ⟨pd, 0, none⟩)) := IsBlk.cell h 0
theorem LogAt.c1 (h : LogAt w lp pd L) : w.cell? ⟨lp, 1, none⟩ = some (.int .i64 L.size) := IsBlk.cell h 1
theorem LogAt.c2 (h : LogAt w lp pd L) : w.cell? ⟨lp, 2, none⟩ = some (.int .i64 L.top) := IsBlk.cell h 2
theorem LogAt.c3 (h : LogAt w lp pd L) : w.cell? ⟨lp, 3, none⟩ = some (.int .i64 L.gen) := IsBlk.cell h 3
theorem LogAt.c4 (h : LogAt w lp pd L) : w.cell? ⟨lp, 4, none⟩ = some (.int .i64 L.half) := IsBlk.cell h 4
theorem LogAt.c5 (h : LogAt w lp pd L) : w.cell? ⟨lp, 5, none⟩ = some (.int .i64 L.next) := IsBlk.cell h 5
theorem LogAt.c6 (h : LogAt w lp pd L) : w.cell? ⟨lp, 6, none⟩ = some (.int .i64 L.seq) := IsBlk.cell h 6
theorem LogAt.fz (h : LogAt w lp pd L) (i : Nat) : w.frozen? ⟨lp, i, none⟩ = false := IsBlk.notFrozen h i
theorem LogAt.keep {S : List Nat} (h : LogAt w lp pd L) (ho : Only S w w') (hn : lp ∉ S) : LogAt w' lp pd L := IsBlk.only h ho hn
theorem LogAt.more (h : LogAt w lp pd L) (ho : Only [] w w') : LogAt w' lp pd L := h.keep ho (by simp)
theorem LogAt.put2 (h : LogAt w lp pd L) (x : Int) : LogAt (w.setCell ⟨lp, 2, none⟩ (.int .i64 x)) lp pd { L with top := x } := IsBlk.put h 2 _
theorem LogAt.put3 (h : LogAt w lp pd L) (x : Int) : LogAt (w.setCell ⟨lp, 3, none⟩ (.int .i64 x)) lp pd { L with gen := x } := IsBlk.put h 3 _
theorem LogAt.put4 (h : LogAt w lp pd L) (x : Nat) : LogAt (w.setCell ⟨lp, 4, none⟩ (.int .i64 x)) lp pd { L with half := x } := IsBlk.put h 4 _
theorem LogAt.put5 (h : LogAt w lp pd L) (x : Nat) : LogAt (w.setCell ⟨lp, 5, none⟩ (.int .i64 x)) lp pd { L with next := x } := IsBlk.put h 5 _
theorem LogAt.put6 (h : LogAt w lp pd L) (x : Int) : LogAt (w.setCell ⟨lp, 6, none⟩ (.int .i64 x)) lp pd { L with seq := x } := IsBlk.put h 6 _
end

theorem Only.plus {S : List Nat} {a b c : World} (h : Only S a b) (k : Only [] b c) : Only S a c := (h.trans k).into (fun i hi => .inl (by simpa using hi))
theorem Only.same {S : List Nat} {a b c : World} (h : Only S a b) (k : Only S b c) : Only S a c := (h.trans k).into (fun i hi => .inl (by simpa using hi))
theorem Only.drewN {S : List Nat} {a b : World} (h : Only S a b) (n : Nat) : Only S a (b.drewN n) := ⟨h.os, h.tape, h.output, h.size, h.block⟩

theorem results_tmp4 {fn : Func} {t u v x : Tmp} (h : fn.results = #[.tmp t, .tmp u, .tmp v, .tmp x]) (tmps : Array Value) (P : Program) (w : World) :
    (results fn tmps).run P w = .ok (.tuple #[tmps.getD t undef, tmps.getD u undef, tmps.getD v undef, tmps.getD x undef]) w := by
  simp [results, h]

set_option maxHeartbeats 1000000 in
theorem other_any (w : World) (lp pd : Nat) (L : LS) (h : LogAt w lp pd L) (hh : L.half ≤ 1) :
    Calls Tryz.prog 37 #[.pointer (some ⟨lp, 0, none⟩)] w fun e w' => e = .returned (.int .i64 ((if L.gen = 0 then 0 else 1 - L.half : Nat))) ∧ w = w' := by
  have c3 := h.c3
  have c4 := h.c4
  by_cases hg : L.gen = 0
  · rw [if_pos hg]
    rw [hg] at c3
    clear hg
    go_enter Tryz.func37, Tryz.ntmps37
    go_wp2
    go_ret
    exact ⟨rfl, rfl⟩
  · rw [if_neg hg]
    have hg' : (L.gen == 0) = false := by simpa using hg
    have e1 : ((1 - L.half : Nat) : Int) = 1 - (L.half : Int) := by omega
    rw [e1]
    go_enter Tryz.func37, Tryz.ntmps37
    go_wp2
    go_ret
    exact ⟨rfl, rfl⟩

set_option maxHeartbeats 1000000 in
theorem fits_any (w : World) (lp pd : Nat) (L : LS) (a : Option Addr) (cap : Nat) (b : List UInt8) (h : LogAt w lp pd L) (hs : Src w a b.length b) (hl : partsN b.length ≤ 255) :
    Calls Tryz.prog 24 #[.pointer (some ⟨lp, 0, none⟩), .slice a b.length cap] w fun e w' => e = .returned (.bool (decide (partsN b.length ≤ L.size))) ∧ Only [] w w' := by
  have H := Lib.hid h
  go_enter Tryz.func24, Tryz.ntmps24
  go_wp2_with fail
  refine (cut_ok _ 1 0 a cap b hs (by decide) hl).mono ?_
  rintro e w1 ⟨gl, gw, rfl, -, -, -, -, -, hO⟩
  have c1 := (H.out.more hO).c1
  go_wp2
  go_ret
  exact ⟨rfl, hO⟩

end Go.Proofs.YtfampoblcielpaaGreat
