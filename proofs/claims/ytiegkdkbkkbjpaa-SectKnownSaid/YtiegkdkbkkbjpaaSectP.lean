/-
  The laws' helper Make, by a contract.
-/
import Derived.Test.YtiegkdkbkkbjpaaSectO
namespace Go.Proofs.Ytiegkdkbkkbjpaa
open Go.RowKit

/-- The Part that Make makes. -/
def makeP (gen rec' n of : Int) (l : List UInt8) : PartM := ⟨1 + gen % 4294967295, rec' % 65536, n % (1 + of % 255), 1 + of % 255, putB (nul 52) 0 (l.take 52)⟩
theorem length_pad52 (l : List UInt8) : (putB (nul 52) 0 (l.take 52)).length = 52 := by
  rw [length_putB _ _ _ (by rw [length_nul, List.length_take]; omega), length_nul]
theorem makeP_ok (gen rec' n of : Int) (l : List UInt8) : okB (makeP gen rec' n of l) = true := by
  have h1 := Int.emod_nonneg gen (show (4294967295 : Int) ≠ 0 by omega)
  have h2 := Int.emod_lt_of_pos gen (show (0 : Int) < 4294967295 by omega)
  have h3 := Int.emod_nonneg rec' (show (65536 : Int) ≠ 0 by omega)
  have h4 := Int.emod_lt_of_pos rec' (show (0 : Int) < 65536 by omega)
  have h5 := Int.emod_nonneg of (show (255 : Int) ≠ 0 by omega)
  have h6 := Int.emod_lt_of_pos of (show (0 : Int) < 255 by omega)
  have h7 := Int.emod_nonneg n (show (1 + of % 255 : Int) ≠ 0 by omega)
  have h8 := Int.emod_lt_of_pos n (show (0 : Int) < 1 + of % 255 by omega)
  exact okB_iff.2 ⟨⟨by simp only [makeP]; omega, by simp only [makeP]; omega, by simp only [makeP]; omega, by simp only [makeP]; omega⟩, by simp only [makeP]; omega, by simp only [makeP]; omega, by simp only [makeP]; omega, by simp only [makeP]; omega, length_pad52 l⟩

theorem sizeRef : (Try.prog.info? 28).map (·.size) = some 5 := by kernel_rfl
theorem load_ref (w : World) (g : Nat) (cs : Array Value) (hg : IsBlk w g (.cells cs 28)) (h5 : cs.size = 5) : (loadVar 28 ⟨g, 0, none⟩).run Try.prog w = .ok (.agg cs) w :=
  run_loadVar_row w g 28 28 cs (0, 0) _ hg Try.underlying28 rfl (by rw [h5]; exact sizeRef)
theorem results_c {P : Program} {fn : Func} {p : Tmp} {ty : TypeId} (h : fn.results = #[.cell p ty]) (tmps : Array Value) (w : World) (g : Nat) (cs : Array Value)
    (hp : tmps.getD p undef = .pointer (some ⟨g, 0, none⟩)) (hl : (loadVar ty ⟨g, 0, none⟩).run P w = .ok (.agg cs) w) : (results fn tmps).run P w = .ok (.agg cs) w := by
  have hp' : tmps[p]?.getD undef = .pointer (some ⟨g, 0, none⟩) := by simpa using hp
  simp [results, h, hp', asAddr, hl]

/-- What Make leaves. -/
def MakeTo (w : World) (p : PartM) (e : Ending) (w' : World) : Prop :=
  ∃ gd, e = .returned (.agg #[.int .i64 p.g, .int .i64 p.r, .int .i64 p.n, .int .i64 p.o, .slice (some ⟨gd, 0, none⟩) 52 52]) ∧ IsBlk w' gd (.cells (bv p.d).toArray 5) ∧ w.heap.size ≤ gd ∧ Only [] w w'

theorem three_made (w : World) (t u : TypeId) (g r n o : Int) (c1 c3 : Array Value) :
    PBox (((w.alloc (.cells c1 t)).alloc (.cells #[.int .i64 g, .int .i64 r, .int .i64 n, .int .i64 o, .slice (some ⟨w.heap.size + 1 + 1, 0, none⟩) 52 52] t)).alloc (.cells c3 u)) (w.heap.size + 1) g r n o (some ⟨w.heap.size + 1 + 1, 0, none⟩) 52 52 t ∧
    IsBlk (((w.alloc (.cells c1 t)).alloc (.cells #[.int .i64 g, .int .i64 r, .int .i64 n, .int .i64 o, .slice (some ⟨w.heap.size + 1 + 1, 0, none⟩) 52 52] t)).alloc (.cells c3 u)) (w.heap.size + 1 + 1) (.cells c3 u) ∧
    IsBlk (((w.alloc (.cells c1 t)).alloc (.cells #[.int .i64 g, .int .i64 r, .int .i64 n, .int .i64 o, .slice (some ⟨w.heap.size + 1 + 1, 0, none⟩) 52 52] t)).alloc (.cells c3 u)) w.heap.size (.cells c1 t) ∧
    Only [] w (((w.alloc (.cells c1 t)).alloc (.cells #[.int .i64 g, .int .i64 r, .int .i64 n, .int .i64 o, .slice (some ⟨w.heap.size + 1 + 1, 0, none⟩) 52 52] t)).alloc (.cells c3 u)) := by
  have h1 := IsBlk.made w (.cells c1 t)
  have h2 := IsBlk.made (w.alloc (.cells c1 t)) (.cells #[.int .i64 g, .int .i64 r, .int .i64 n, .int .i64 o, .slice (some ⟨w.heap.size + 1 + 1, 0, none⟩) 52 52] t)
  have h3 := IsBlk.made ((w.alloc (.cells c1 t)).alloc (.cells #[.int .i64 g, .int .i64 r, .int .i64 n, .int .i64 o, .slice (some ⟨w.heap.size + 1 + 1, 0, none⟩) 52 52] t)) (.cells c3 u)
  simp only [World.size_alloc] at h2 h3
  exact ⟨h2.alloc _, h3, (h1.alloc _).alloc _, (((Only.refl _ _).alloc _).alloc _).alloc _⟩

set_option maxHeartbeats 4000000 in
theorem make_any (w : World) (gen rec' n of : Int) (a : Option Addr) (len cap : Nat) (l : List UInt8) (h : Src w a len l) :
    Calls Try.prog 15 #[.int .i64 gen, .int .i64 rec', .int .i64 n, .int .i64 of, .slice a len cap] w (MakeTo w (makeP gen rec' n of l)) := by
  have h1 := Int.emod_nonneg gen (show (4294967295 : Int) ≠ 0 by omega)
  have h2 := Int.emod_lt_of_pos gen (show (0 : Int) < 4294967295 by omega)
  have h3 := Int.emod_nonneg rec' (show (65536 : Int) ≠ 0 by omega)
  have h4 := Int.emod_lt_of_pos rec' (show (0 : Int) < 65536 by omega)
  have h5 := Int.emod_nonneg of (show (255 : Int) ≠ 0 by omega)
  have h6 := Int.emod_lt_of_pos of (show (0 : Int) < 255 by omega)
  have hmk : ∀ W : World, (Instr.makeSlice 22 (.int .i64 52) (.int .i64 52)).run Try.prog W = .ok (.slice (some ⟨W.heap.size, 0, none⟩) 52 52) (W.alloc (.cells (bv (nul 52)).toArray 5)) := fun W => make_bytes W 52 (by omega)
  have H := Lib.hid h
  clear h
  unfold makeP
  go_enter Try.func15, Try.ntmps15
  go_wp2_with fail
  refine (within_any _ gen 4294967295 (by omega) (by omega)).mono ?_
  rintro e w' ⟨rfl, rfl⟩
  go_wp2_with fail
  refine (within_any _ rec' 65536 (by omega) (by omega)).mono ?_
  rintro e w' ⟨rfl, rfl⟩
  go_wp2_with fail
  refine (within_any _ of 255 (by omega) (by omega)).mono ?_
  rintro e w' ⟨rfl, rfl⟩
  generalize gen % 4294967295 = G at *
  generalize rec' % 65536 = R at *
  generalize of % 255 = O at *
  go_wp2_with fail
  refine (within_any _ n (1 + O) (by omega) (by omega)).mono ?_
  rintro e w' ⟨rfl, rfl⟩
  generalize n % (1 + O) = N at *
  go_upto_region 4 with fail
  obtain ⟨hbox, hblk, hout, hO⟩ := three_made w 28 5 (1 + G) R N (1 + O) #[.int .i64 0, .int .i64 0, .int .i64 0, .int .i64 0, .slice none 0 0] (bv (nul 52)).toArray
  generalize (((w.alloc (.cells #[.int .i64 0, .int .i64 0, .int .i64 0, .int .i64 0, .slice none 0 0] 28)).alloc (.cells #[.int .i64 (1 + G), .int .i64 R, .int .i64 N, .int .i64 (1 + O), .slice (some ⟨w.heap.size + 1 + 1, 0, none⟩) 52 52] 28)).alloc (.cells (bv (nul 52)).toArray 5)) = W at *
  have hs := Lib.hid (H.out.more hO)
  have c4 : W.cell? ⟨w.heap.size + 1, 4, none⟩ = some (.slice (some ⟨w.heap.size + 1 + 1, 0, none⟩) 52 52) := IsBlk.cell hbox 4
  have Hbox := Lib.hid hbox
  have Hblk := Lib.hid hblk
  have Hout := Lib.hid hout
  have HO := Lib.hid hO
  clear hbox hblk hout hO
  go_wp2_with (first | (refine wpList_copy_b rfl _ _ rfl (w.heap.size + 1 + 1) 0 52 52 rfl a len cap rfl (nul 52) l Hblk.out hs.out (by rw [length_nul]; omega) ?_; intro W2 nn hb2 hO2; have d0 : W2.cell? ⟨w.heap.size + 1, 0, none⟩ = some (.int .i64 (1 + G)) := IsBlk.cell (IsBlk.only Hbox.out hO2 (by simp)) 0; have d1 : W2.cell? ⟨w.heap.size + 1, 1, none⟩ = some (.int .i64 R) := IsBlk.cell (IsBlk.only Hbox.out hO2 (by simp)) 1; have d2 : W2.cell? ⟨w.heap.size + 1, 2, none⟩ = some (.int .i64 N) := IsBlk.cell (IsBlk.only Hbox.out hO2 (by simp)) 2; have d3 : W2.cell? ⟨w.heap.size + 1, 3, none⟩ = some (.int .i64 (1 + O)) := IsBlk.cell (IsBlk.only Hbox.out hO2 (by simp)) 3; have d4 : W2.cell? ⟨w.heap.size + 1, 4, none⟩ = some (.slice (some ⟨w.heap.size + 1 + 1, 0, none⟩) 52 52) := IsBlk.cell (IsBlk.only Hbox.out hO2 (by simp)) 4; have Hout2 := Lib.hid (IsBlk.only Hout.out hO2 (by simp; omega)); have Hb2 := Lib.hid hb2; have HO2 := Lib.hid hO2; clear hb2 hO2) | (refine wpList_store_part rfl _ sizeRef _ _ rfl w.heap.size 0 (1 + G) R N (1 + O) (some ⟨w.heap.size + 1 + 1, 0, none⟩) 52 52 rfl rfl (there_blk Hout2.out 0 5 (by simp)) ?_; intro w3 Hw3))
  have hE := blk_setPart Hout2.out (1 + G) R N (1 + O) (some ⟨w.heap.size + 1 + 1, 0, none⟩) 52 52
  rw [← Hw3.out] at hE
  have hb3 : IsBlk w3 (w.heap.size + 1 + 1) (.cells (bv (putB (nul 52) 0 (l.take 52))).toArray 5) := by rw [Hw3.out]; exact (heap_setCells_other w.heap.size _ _ _ (w.heap.size + 1 + 1) (by omega)).trans Hb2.out
  have hO3 : Only [] w w3 := by rw [Hw3.out]; exact (HO.out.then HO2.out [] (by simp) (by simp; omega)).setCells _ _ _ (.inr (Nat.le_refl _))
  (try simp only [Exit.inBlock, Exit.then])
  refine bodyPost_ret_by (results_c rfl _ _ w.heap.size _ rfl (load_ref _ _ _ hE rfl)) rfl ?_
  exact ⟨w.heap.size + 1 + 1, rfl, hb3, by omega, hO3⟩

end Go.Proofs.Ytiegkdkbkkbjpaa
