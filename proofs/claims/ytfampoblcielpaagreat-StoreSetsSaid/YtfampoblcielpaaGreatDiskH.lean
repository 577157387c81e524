/-
  Bytes that came in, the laws' helper Sector, and strings out of bytes.
-/
import Derived.Test.YtfampoblcielpaaGreatSectF
import Derived.Test.YtfampoblcielpaaGreatDiskG
import Derived.Laws.BytesArg
import Derived.ProofKit
import Derived.OpenShut
namespace Go.Proofs.YtfampoblcielpaaGreat
set_option linter.unusedVariables false
set_option maxRecDepth 100000
open Go.RowKit Go.ChangeShapes Go.WideShapes Go.ChangeAt

/-- Sixty-four bytes, the last one n: what Sector makes. -/
def pad (l : List UInt8) : List UInt8 := l.take 64 ++ zeros.drop (l.take 64).length
theorem length_pad (l : List UInt8) : (pad l).length = 64 := by
  have : (l.take 64).length ≤ 64 := by rw [List.length_take]; omega
  have e : (zeros.drop (l.take 64).length).length = 64 - (l.take 64).length := by rw [List.length_drop]; rfl
  unfold pad; rw [List.length_append, e]; omega
/-- A slice of 64 bytes in new memory. -/
def Made1 (w : World) (b : List UInt8) (e : Ending) (w' : World) : Prop :=
  ∃ g, e = .returned (.slice (some ⟨g, 0, none⟩) 64 64) ∧ IsBlk w' g (.cells (bv b).toArray 5) ∧ w.heap.size ≤ g ∧ Only [] w w'

theorem cp_pad {ops : Array Oper} {rest : List Oper} {op : Oper} {a : Act} {W : World} {Q : Exit → Act → World → Prop} (sa : Option Addr) (len : Nat) (l : List UInt8) (hsrc : Src W sa len l)
    (hgd : op.guard = none) (d s : Operand) (ho : op.op = .call { callee := .builtin .copy, args := #[d, s], argTypes := #[37, 37] })
    (g dCap : Nat) (hd : a.eval d = .slice (some ⟨g, 0, none⟩) 64 dCap) (hg : g = W.heap.size) (sCap : Nat) (hs : a.eval s = .slice sa len sCap)
    (h : wpList Tryz.prog ops Q rest (a.put op.dst (goInt (l.take 64).length)) (W.alloc (.cells (bv (pad l)).toArray 5))) : wpList Tryz.prog ops Q (op :: rest) a (W.alloc (.cells (bv zeros).toArray 5)) := by
  have e1 : (bv (l.take 64) ++ (bv zeros).toArray.toList.drop (bv (l.take 64)).length).toArray = (bv (pad l)).toArray := by
    simp only [pad, bv_append, bv_drop, length_bv]
  refine wpList_copy_part hgd d s _ _ ho 5 Tryz.underlying37 size5 _ _ g 64 dCap hg hd sa len sCap hs (bv (l.take 64)) (by rw [length_bv, List.length_take, hsrc.1, Nat.min_comm]) (by simp [length_bv, zeros]) (fun hp => ?_) (bv_one _) ?_
  · have hlen : 0 < len := by rw [← hsrc.1]; rw [length_bv, List.length_take] at hp; omega
    obtain ⟨b, o, rfl, hb, hr⟩ := hsrc.2 hlen
    refine ⟨b, o, rfl, World.rangeAt_alloc (fun j v hv => hr j v ?_) _⟩
    rw [bv_take, List.getElem?_take] at hv
    split at hv
    · exact hv
    · cases hv
  · rw [e1, length_bv]; exact h

theorem byte_of_int (n : Int) : ((UInt8.ofNat (n % 256).toNat).toNat : Int) = n % 256 := by
  have h0 := Int.emod_nonneg n (show (256 : Int) ≠ 0 by omega)
  have h1 := Int.emod_lt_of_pos n (show (0 : Int) < 256 by omega)
  simp [UInt8.toNat_ofNat']; omega
theorem blk_range {w : World} {g : Nat} {l : List UInt8} {t : TypeId} (h : IsBlk w g (.cells (bv l).toArray t)) : w.rangeAt g 0 (bv l) := fun j v hv => by
  rw [h.cell, Nat.zero_add]; simpa using hv

end Go.Proofs.YtfampoblcielpaaGreat
