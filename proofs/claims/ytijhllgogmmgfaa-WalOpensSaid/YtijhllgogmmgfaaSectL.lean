/-
  Facts for the laws' walks; the walk of the law SectOwn.
-/
import Derived.Test.YtijhllgogmmgfaaSectK
namespace Go.Proofs.Ytijhllgogmmgfaa
set_option linter.unusedVariables false
set_option maxRecDepth 100000
open Go.RowKit

/-- The Parts of b, as Cut lays them. -/
structure CutAt (w : World) (gl gw : Nat) (g r : Int) (b : List UInt8) (k : Nat) : Prop where
  ps : ∀ i, i < k → w.rangeAt gl (i * 5) (partC g r (i : Nat) (k : Nat) (some ⟨gw, i * 52, none⟩) 52 52)
  blk : IsBlk w gw (.cells (bv (wholeB b)).toArray 5)
  lt : gl < w.heap.size
  num : k = partsN b.length
theorem CutAt.keep {S : List Nat} {w w' : World} {gl gw : Nat} {g r : Int} {b : List UInt8} {k : Nat} (h : CutAt w gl gw g r b k) (hO : Only S w w') (h1 : gl ∉ S) (h2 : gw ∉ S) : CutAt w' gl gw g r b k :=
  ⟨fun i hi => rangeAt_only (h.ps i hi) hO h.lt h1, h.blk.only hO h2, Nat.lt_of_lt_of_le h.lt hO.size, h.num⟩
theorem CutAt.parts {w : World} {gl gw : Nat} {g r : Int} {b : List UInt8} {k : Nat} (h : CutAt w gl gw g r b k) : PartsAt w (some ⟨gl, 0, none⟩) k (cutP g r b) := by
  refine ⟨by rw [length_cutP, h.num], fun _ => ⟨gl, 0, rfl, h.lt, fun i p hp => ?_⟩⟩
  obtain ⟨rfl, hi⟩ := cutP_get g r b i p hp
  rw [← h.num] at hi
  have hpl : (pieceB (wholeB b) i).length = 52 := length_pieceB _ _ (by rw [length_wholeB, ← h.num]; omega)
  refine ⟨some ⟨gw, i * 52, none⟩, 52, ?_, ?_⟩
  · have := h.ps i hi
    simp only [hpl, ← h.num]
    rw [Nat.zero_add]; exact this
  · have := src_blk h.blk (i * 52) 52 (by rw [length_wholeB, ← h.num]; omega)
    simp only [hpl]
    exact this

/-- Bytes that may be written, in a row somewhere. -/
def ByteRow (w : World) (g o len : Nat) : Prop := (∃ cur, IsBlk w g (.cells cur 5)) ∧ ∃ L : List UInt8, L.length = len ∧ w.rangeAt g o (bv L)
theorem ByteRow.put {w : World} {g o len : Nat} (h : ByteRow w g o len) (i m : Nat) (hi : i < len) (hm : m < 256) : ByteRow (w.setCell ⟨g, o + i, none⟩ (.int .u8 (m : Int))) g o len := by
  obtain ⟨⟨cur, hb⟩, L, hL, hr⟩ := h
  refine ⟨⟨_, hb.put (o + i) _⟩, L.set i (UInt8.ofNat m), by simpa using hL, fun j v hv => ?_⟩
  rw [(hb.put (o + i) _).cell]
  rw [bv_set, List.getElem?_set] at hv
  have hoi : o + i < cur.size := by
    have := hr i (.int .u8 (L[i]'(by omega)).toNat) (by simp [bv, List.getElem?_eq_getElem (show i < L.length by omega)])
    rw [hb.cell] at this
    exact (Array.getElem?_eq_some_iff.1 this).1
  by_cases hij : i = j
  · subst hij
    rw [if_pos rfl] at hv
    split at hv
    · rw [← hv, Array.getElem?_setIfInBounds_self_of_lt hoi]
      simp; omega
    · cases hv
  · rw [if_neg hij] at hv
    rw [Array.getElem?_setIfInBounds_ne (by omega), ← hb.cell]
    exact hr j v hv
theorem ByteRow.cell {w : World} {g o len : Nat} (h : ByteRow w g o len) (i : Nat) (hi : i < len) : (∃ m : Nat, m < 256 ∧ w.cell? ⟨g, o + i, none⟩ = some (.int .u8 (m : Int))) ∧ w.frozen? ⟨g, o + i, none⟩ = false := by
  obtain ⟨⟨cur, hb⟩, L, hL, hr⟩ := h
  exact ⟨⟨(L[i]'(by omega)).toNat, UInt8.toNat_lt _, Src.cell hr i (by omega)⟩, hb.notFrozen _⟩
/-- The block of a slice that may be written. -/
def ownA (a : Option Addr) : List Nat := match a with | some ⟨b, _, none⟩ => [b] | _ => []
theorem ownA_at {a : Option Addr} {x : Nat} (h : x ∈ ownA a) : ∃ y, a = some ⟨x, y, none⟩ := by
  unfold ownA at h
  split at h
  · simp at h; subst h; exact ⟨_, rfl⟩
  · simp at h
def Bump (w : World) (a : Option Addr) (len : Nat) : Prop := 0 < len → ∃ x y, a = some ⟨x, y, none⟩ ∧ ByteRow w x y len
theorem OwnB.notNil {w : World} {base : Nat} {v : Value} {l : List UInt8} (h : OwnB w base v l) (hne : v ≠ .slice none 0 0) : ∃ g cap cur, v = .slice (some ⟨g, 0, none⟩) l.length cap ∧ base ≤ g ∧ IsBlk w g (.cells cur 5) ∧ l.length ≤ cap ∧ w.rangeAt g 0 (bv l) := by
  rcases h.2 with ⟨rfl, h0⟩ | ⟨g, cap, cur, rfl, hb, hg, hnc, _, hsz, htake⟩
  · exact absurd rfl hne
  · refine ⟨g, cap, cur, rfl, hb, hg, hnc, fun j u hu => ?_⟩
    have := World.ownsRow.cells h (g := g) rfl j u hu
    rw [Addr.add_mid] at this
    exact this

theorem ByteRow.putI {w : World} {g o len : Nat} (h : ByteRow w g o len) (i : Nat) (z : Int) (hi : i < len) : ByteRow (w.setCell ⟨g, o + i, none⟩ (.int .u8 (z % 256))) g o len := by
  have h0 := Int.emod_nonneg z (show (256 : Int) ≠ 0 by omega)
  have h1 := Int.emod_lt_of_pos z (show (0 : Int) < 256 by omega)
  obtain ⟨t, ht⟩ := Int.eq_ofNat_of_zero_le h0
  rw [ht]
  exact h.put i t hi (by omega)
theorem Src.row {w : World} {a : Option Addr} {len : Nat} {l : List UInt8} (h : Src w a len l) (hb : ∀ x y, a = some ⟨x, y, none⟩ → ∃ cur, IsBlk w x (.cells cur 5)) : Bump w a len := fun hp => by
  obtain ⟨x, y, rfl, _, hr⟩ := h.2 hp
  exact ⟨x, y, rfl, hb x y rfl, l, h.1, hr⟩
theorem partsN_small {n : Nat} (h : n ≤ 13256) : partsN n ≤ 255 := by unfold partsN; omega

end Go.Proofs.Ytijhllgogmmgfaa
