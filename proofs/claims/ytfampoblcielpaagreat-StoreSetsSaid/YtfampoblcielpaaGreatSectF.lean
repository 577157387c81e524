/-
  The laws' example, and the walk of the law SectSums.
-/
import Derived.Test.YtfampoblcielpaaGreatSectE
import Derived.Lib.SlBytesConst
import Derived.ProofKit
import Derived.OpenShut
namespace Go.Proofs.YtfampoblcielpaaGreat
set_option linter.unusedVariables false
set_option maxRecDepth 100000
open Go.RowKit Go.ChangeShapes Go.WideShapes Go.ChangeAt

/-- What a slice of bytes among the arguments is to a walk. -/
theorem src_of_read {H : Type} {enc : TypeId × Value → H} {W : World} {a : Option Addr} {len cap : Nat} {d : DataW H} {p : List MemPlace}
    (h : DataW.Trod enc Tryz.prog W 0 (fun _ => true) true 37 (.slice a len cap) d p) : ∃ l, Src W a len l := by
  obtain ⟨fuel, hf⟩ := h
  rcases open_ints Tryz.underlying37 Tryz.underlying5 (by kernel_rfl) hf with ⟨hcs, _⟩ | ⟨x, l, c, zs, hcs, _, hl, hm, hz, _, hcell, hwz⟩
  · simp [Value.cells] at hcs
    obtain ⟨rfl, rfl, rfl⟩ := hcs
    exact ⟨[], rfl, fun h => by omega⟩
  · simp [Value.cells] at hcs
    obtain ⟨rfl, rfl, rfl⟩ := hcs
    have hz' : zs.length = cap := by simpa using hz
    refine ⟨(zs.take len).map fun z => UInt8.ofNat z.toNat, by simp [hz']; omega, fun hp => ?_⟩
    have h0 := hcell 0 (by omega)
    obtain ⟨b, o, sp0⟩ := x
    have hspot : sp0 = none := by simpa [Addr.add] using World.cell?_spot h0
    subst hspot
    have hb : b < W.heap.size := by have := World.block_lt_of_cell? W _ h0; simpa [Addr.add] using this
    refine ⟨b, o, rfl, hb, fun j v hv => ?_⟩
    have hj : j < len := by have := (List.getElem?_eq_some_iff.1 hv).1; simp [bv] at this; omega
    have hjz : j < zs.length := by omega
    have hc := hcell j hjz
    rw [Addr.add_mid] at hc
    rw [hc, ← hv]
    have hw := hwz (zs[j]) (List.getElem_mem hjz)
    have hbd : 0 ≤ zs[j] ∧ zs[j] ≤ 255 := bounds_u8 hw
    simp [bv, hj, List.getElem?_eq_getElem hjz]
    omega

theorem src_new (W : World) (l : List UInt8) (t : TypeId) (g : Nat) (hg : g = W.heap.size) : Src (W.alloc (.cells (bv l).toArray t)) (some ⟨g, 0, none⟩) l.length l := by
  subst hg
  refine ⟨rfl, fun _ => ⟨_, _, rfl, by simp, fun j v hv => ?_⟩⟩
  rw [(IsBlk.made W _).cell, Nat.zero_add]; simpa using hv
theorem src_blk {W : World} {g : Nat} {l : List UInt8} {t : TypeId} (h : IsBlk W g (.cells (bv l).toArray t)) (o n : Nat) (hn : o + n ≤ l.length) : Src W (some ⟨g, o, none⟩) n ((l.drop o).take n) := by
  refine ⟨by simp; omega, fun _ => ⟨_, _, rfl, h.lt, fun j v hv => ?_⟩⟩
  rw [h.cell]
  rw [bv_take, bv_drop, List.getElem?_take] at hv
  split at hv
  · simpa using hv
  · cases hv
theorem Src.sub {w : World} {b o len : Nat} {l : List UInt8} (h : Src w (some ⟨b, o, none⟩) len l) (x n : Nat) (hn : x + n ≤ len) : Src w (some ⟨b, o + x, none⟩) n ((l.drop x).take n) := by
  have h1 := h.1
  refine ⟨by simp; omega, fun hp => ?_⟩
  obtain ⟨b', o', e, hb, hr⟩ := h.2 (by omega)
  injection e with e; injection e with e1 e2; subst e1; subst e2
  refine ⟨_, _, rfl, hb, fun j v hv => ?_⟩
  rw [Nat.add_assoc]
  rw [bv_take, bv_drop, List.getElem?_take] at hv
  split at hv
  · exact hr _ _ (by simpa using hv)
  · cases hv

theorem src_const (W : World) (l : List UInt8) (t : TypeId) (fr : Nat × Nat) : Src (W.alloc (.cells (bv l).toArray t fr)) (some ⟨W.heap.size, 0, none⟩) l.length l := by
  refine ⟨rfl, fun _ => ⟨_, _, rfl, by simp, fun j v hv => ?_⟩⟩
  rw [cell_of_row _ _ _ _ _ fr (heap_alloc_new W _), Nat.zero_add]; simpa using hv
theorem cut_one (w : World) : Calls Tryz.prog 35 #[.int .i64 1, .int .i64 0, .slice (some ⟨w.heap.size, 0, none⟩) 1 1] (w.alloc (.cells #[.int .u8 97] 5 (1, 2))) (CutTo (w.alloc (.cells #[.int .u8 97] 5 (1, 2))) 1 0 [97] 1) :=
  cut_ok _ 1 0 _ 1 [97] (src_const w [97] 5 (1, 2)) rfl (by decide)

end Go.Proofs.YtfampoblcielpaaGreat
