/-
  A store that is opened on a new disk; its files.
-/
import Derived.Test.YtnieaeoijdmheaaStH
namespace Go.Proofs.Ytnieaeoijdmheaa
set_option maxRecDepth 100000
set_option linter.unusedVariables false
open Go.RowKit Go.Sort Go.Maps

def stcells (lp b : Nat) : Array Value := #[.pointer (some ⟨lp, 0, none⟩), .map (some b)]
/-- A store, its log by chapter 3 itself, its files. -/
structure StAt (w : World) (sp lp pd bl bm b : Nat) (D : DS) (L : LS) (rs : List (List UInt8)) (k : Int) (F : List FileM) : Prop where
  blk : IsBlk w sp (.cells (stcells lp b) 61)
  wl : WL w lp pd bl bm D L rs k
  set : SetAt w b F
  ns : sp ∉ [lp, pd, bl, bm]
  nb : b ∉ [lp, pd, bl, bm]
theorem StAt.more {w w' : World} {sp lp pd bl bm b : Nat} {D : DS} {L : LS} {rs : List (List UInt8)} {k : Int} {F : List FileM} (h : StAt w sp lp pd bl bm b D L rs k F) (hO : Only [] w w') : StAt w' sp lp pd bl bm b D L rs k F :=
  ⟨h.blk.only hO (by simp), h.wl.more hO, h.set.more hO, h.ns, h.nb⟩
theorem StAt.c0 {w : World} {sp lp pd bl bm b : Nat} {D : DS} {L : LS} {rs : List (List UInt8)} {k : Int} {F : List FileM} (h : StAt w sp lp pd bl bm b D L rs k F) : w.cell? ⟨sp, 0, none⟩ = some (.pointer (some ⟨lp, 0, none⟩)) := h.blk.cell 0
theorem StAt.c1 {w : World} {sp lp pd bl bm b : Nat} {D : DS} {L : LS} {rs : List (List UInt8)} {k : Int} {F : List FileM} (h : StAt w sp lp pd bl bm b D L rs k F) : w.cell? ⟨sp, 1, none⟩ = some (.map (some b)) := h.blk.cell 1

theorem filesOf_none (w : World) (a : Option Addr) (cap : Nat) : Calls Try.prog 20 #[.slice a 0 cap] w fun e w' => e = .returned (.map (some w.heap.size)) ∧ w' = w.alloc (.map #[] 0) := by
  have hmk : ∀ W : World, (Instr.makeMap 56 none).run Try.prog W = .ok (.map (some W.heap.size)) (W.alloc (.map #[] 0)) := fun W => run_makeMap _ W
  go_enter Try.func20, Try.ntmps20
  go_wp2
  go_ret
  exact ⟨rfl, rfl⟩

theorem files_any (w : World) (sp lp pd bl bm b : Nat) (D : DS) (L : LS) (rs : List (List UInt8)) (k : Int) (F : List FileM) (h : StAt w sp lp pd bl bm b D L rs k F) (hF : F.length ≤ 100000) :
    Calls Try.prog 12 #[.pointer (some ⟨sp, 0, none⟩)] w fun e w' => ∃ v, e = .returned v ∧ OwnF w' w.heap.size v F ∧ Only [] w w' := by
  have c1 := h.c1
  have H := Lib.hid h
  clear h
  go_enter Try.func12, Try.ntmps12
  go_wp2_with fail
  refine (list_any _ b F H.out.set hF).mono ?_
  rintro e w' ⟨v, rfl, ho, hO⟩
  go_wp2
  go_ret
  exact ⟨v, rfl, ho, hO⟩

set_option maxHeartbeats 4000000 in
theorem openS_new (w : World) (pd bl bm n : Nat) (h : DiskAt w pd bl bm (newDS (2 * n))) (hn : 1 ≤ n) :
    Calls Try.prog 10 #[.pointer (some ⟨pd, 0, none⟩)] w fun e w' => ∃ sp lp b D, e = .returned (.tuple #[.pointer (some ⟨sp, 0, none⟩), .int .i64 0]) ∧ StAt w' sp lp pd bl bm b D ⟨n, 1, 1, 0, 1, 1⟩ [setB []] 2 [] ∧ w.heap.size ≤ sp ∧ w.heap.size ≤ lp ∧ w.heap.size ≤ b ∧ Only [pd, bl, bm] w w' := by
  have h1 := h.plt
  have h2 := h.blt
  have h3 := h.mlt
  have H := Lib.hid h
  clear h
  go_enter Try.func10, Try.ntmps10
  go_wp2_with fail
  refine (opened_new _ pd bl bm n H.out).mono ?_
  rintro e w1 ⟨lp, a, cap, rfl, hN, hlp, hO1⟩
  have HN := Lib.hid hN
  have HO1 := Lib.hid hO1
  have hlw := IsBlk.lt hN.log
  clear hN hO1
  go_wp2_with fail
  refine (filesOf_none _ a cap).mono ?_
  rintro e w2 ⟨rfl, hw2⟩
  have hO2 : Only [] w1 w2 := by rw [hw2]; exact (Only.refl _ _).alloc _
  have hS2 : SetAt w2 w1.heap.size [] := by rw [hw2]; exact set_made w1
  have hsz2 : w1.heap.size < w2.heap.size := hS2.lt
  have HN2 := Lib.hid (HN.out.more hO2)
  have HS2 := Lib.hid hS2
  have HO2 := Lib.hid (HO1.out.plus hO2)
  have hs1 := HO1.out.size
  generalize w1.heap.size = b at *
  clear hw2 hO2 hS2 HN HO1
  go_wp2_with fail
  refine (whole_any _ b [] HS2.out ⟨by simp, by simp⟩).mono ?_
  rintro e w3 ⟨v3, rfl, hv3, hO3⟩
  obtain ⟨a3, c3, rfl, hs3, hn3, -⟩ := OwnB.shape hv3
  have HN3 := Lib.hid (HN2.out.more hO3)
  have HS3 := Lib.hid (HS2.out.more hO3)
  have HO3 := Lib.hid (HO2.out.plus hO3)
  have Hs3 := Lib.hid hs3
  have hl1 : (setB []).length = 1 := by simp [setB, length_leB]
  have hp1 : partsN 1 = 1 := by decide
  clear hv3 hn3 hs3 hO3 HN2 HS2 HO2
  have Hl1 := Lib.hid hl1
  rw [hl1] at Hs3 ⊢
  clear hl1
  go_wp2_with fail
  refine (freshened_new _ lp pd bl bm n a3 c3 (setB []) HN3.out (by rw [Hl1.out]; exact Hs3.out) (by rw [Hl1.out, hp1]; omega) (by rw [Hl1.out, hp1]; exact hn)).mono ?_
  rintro e w4 ⟨rfl, D4, hW4, hO4⟩
  rw [Hl1.out, hp1] at hW4
  have hbn : b ∉ [lp, pd, bl, bm] := by simp; omega
  have HW4 := Lib.hid hW4
  have HS4 := Lib.hid (HS3.out.keep hO4 hbn)
  have HO4 := Lib.hid (HO3.out.trans hO4)
  have hsz4 := HO4.out.size
  have hb4 := HS4.out.lt
  clear hW4 hO4 HN3 HS3 HO3 Hs3
  go_wp2
  go_ret2
  have hO5 := (Only.refl [] w4).alloc (.cells (stcells lp b) 61)
  refine ⟨w4.heap.size, lp, b, D4, rfl, ⟨IsBlk.made w4 _, HW4.out.more hO5, HS4.out.more hO5, ?_, hbn⟩, hsz4, hlp, by omega, ?_⟩
  · have q1 := HW4.out.disk.plt; have q2 := HW4.out.disk.blt; have q3 := HW4.out.disk.mlt; have q4 := IsBlk.lt HW4.out.log
    simp; omega
  · exact (HO4.out.plus hO5).into (fun j hj => by simp at hj; rcases hj with rfl | hj; exact .inr hlp; exact .inl (by simpa using hj))

end Go.Proofs.Ytnieaeoijdmheaa
