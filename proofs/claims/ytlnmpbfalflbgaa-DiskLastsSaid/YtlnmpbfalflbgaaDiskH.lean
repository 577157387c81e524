/-
  Bytes that came in, the laws' helper Sector, and strings out of bytes.
-/
import Derived.Test.YtlnmpbfalflbgaaDiskG
import Derived.Laws.BytesArg
import Derived.ProofKit
import Derived.OpenShut
namespace Go.Proofs.Ytlnmpbfalflbgaa
open Go.RowKit Go.ChangeShapes Go.WideShapes Go.ChangeAt

/-- What a slice of bytes among the arguments is to a walk. -/
theorem src_of_read {H : Type} {enc : TypeId × Value → H} {W : World} {a : Option Addr} {len cap : Nat} {d : DataW H} {p : List MemPlace}
    (h : DataW.Trod enc Try.prog W 0 (fun _ => true) true 34 (.slice a len cap) d p) : ∃ l, Src W a len l := by
  obtain ⟨fuel, hf⟩ := h
  rcases open_ints Try.underlying34 Try.underlying5 (by kernel_rfl) hf with ⟨hcs, _⟩ | ⟨x, l, c, zs, hcs, _, hl, hm, hz, _, hcell, hwz⟩
  · simp [Value.cells] at hcs
    obtain ⟨rfl, rfl, rfl⟩ := hcs
    exact ⟨[], rfl, fun h => by omega⟩
  · simp [Value.cells] at hcs
    obtain ⟨rfl, rfl, rfl⟩ := hcs
    have hz' : zs.length = cap := by simpa using hz
    refine ⟨(zs.take len).map fun z => UInt8.ofNat z.toNat, by simp [hz']; omega, fun hp => ?_⟩
    have h0 := hcell 0 (by omega)
    obtain ⟨b, o, sp0⟩ := x
    have hspot : sp0 = none := by simpa [Addr.add] using World.cell?_spot h0
    subst hspot
    have hb : b < W.heap.size := by have := World.block_lt_of_cell? W _ h0; simpa [Addr.add] using this
    refine ⟨b, o, rfl, hb, fun j v hv => ?_⟩
    have hj : j < len := by have := (List.getElem?_eq_some_iff.1 hv).1; simp [bv] at this; omega
    have hjz : j < zs.length := by omega
    have hc := hcell j hjz
    rw [Addr.add_mid] at hc
    rw [hc, ← hv]
    have hw := hwz (zs[j]) (List.getElem_mem hjz)
    have hbd : 0 ≤ zs[j] ∧ zs[j] ≤ 255 := bounds_u8 hw
    simp [bv, hj, List.getElem?_eq_getElem hjz]
    omega

/-- Sixty-four bytes, the last one n: what Sector makes. -/
def pad (l : List UInt8) : List UInt8 := l.take 64 ++ zeros.drop (l.take 64).length
def secB (n : Int) (l : List UInt8) : List UInt8 := (pad l).set 63 (UInt8.ofNat (n % 256).toNat)
theorem length_pad (l : List UInt8) : (pad l).length = 64 := by
  have : (l.take 64).length ≤ 64 := by rw [List.length_take]; omega
  have e : (zeros.drop (l.take 64).length).length = 64 - (l.take 64).length := by rw [List.length_drop]; rfl
  unfold pad; rw [List.length_append, e]; omega
theorem length_secB (n : Int) (l : List UInt8) : (secB n l).length = 64 := by simp [secB, length_pad]
theorem bv_append (a b : List UInt8) : bv (a ++ b) = bv a ++ bv b := by simp [bv]
theorem bv_drop (a : List UInt8) (n : Nat) : bv (a.drop n) = (bv a).drop n := by simp [bv]
theorem bv_take (a : List UInt8) (n : Nat) : bv (a.take n) = (bv a).take n := by simp [bv]
theorem bv_set (a : List UInt8) (n : Nat) (v : UInt8) : bv (a.set n v) = (bv a).set n (.int .u8 v.toNat) := by simp [bv]

/-- A slice of 64 bytes in new memory. -/
def Made1 (w : World) (b : List UInt8) (e : Ending) (w' : World) : Prop :=
  ∃ g, e = .returned (.slice (some ⟨g, 0, none⟩) 64 64) ∧ IsBlk w' g (.cells (bv b).toArray 5) ∧ w.heap.size ≤ g ∧ Only [] w w'

theorem cp_pad {ops : Array Oper} {rest : List Oper} {op : Oper} {a : Act} {W : World} {Q : Exit → Act → World → Prop} (sa : Option Addr) (len : Nat) (l : List UInt8) (hsrc : Src W sa len l)
    (hgd : op.guard = none) (d s : Operand) (ho : op.op = .call { callee := .builtin .copy, args := #[d, s], argTypes := #[34, 34] })
    (g dCap : Nat) (hd : a.eval d = .slice (some ⟨g, 0, none⟩) 64 dCap) (hg : g = W.heap.size) (sCap : Nat) (hs : a.eval s = .slice sa len sCap)
    (h : wpList Try.prog ops Q rest (a.put op.dst (goInt (l.take 64).length)) (W.alloc (.cells (bv (pad l)).toArray 5))) : wpList Try.prog ops Q (op :: rest) a (W.alloc (.cells (bv zeros).toArray 5)) := by
  have e1 : (bv (l.take 64) ++ (bv zeros).toArray.toList.drop (bv (l.take 64)).length).toArray = (bv (pad l)).toArray := by
    simp only [pad, bv_append, bv_drop, length_bv]
  refine wpList_copy_part hgd d s _ _ ho 5 Try.underlying34 size5 _ _ g 64 dCap hg hd sa len sCap hs (bv (l.take 64)) (by rw [length_bv, List.length_take, hsrc.1, Nat.min_comm]) (by simp [length_bv, zeros]) (fun hp => ?_) (bv_one _) ?_
  · have hlen : 0 < len := by rw [← hsrc.1]; rw [length_bv, List.length_take] at hp; omega
    obtain ⟨b, o, rfl, hb, hr⟩ := hsrc.2 hlen
    refine ⟨b, o, rfl, World.rangeAt_alloc (fun j v hv => hr j v ?_) _⟩
    rw [bv_take, List.getElem?_take] at hv
    split at hv
    · exact hv
    · cases hv
  · rw [e1, length_bv]; exact h

theorem byte_of_int (n : Int) : ((UInt8.ofNat (n % 256).toNat).toNat : Int) = n % 256 := by
  have h0 := Int.emod_nonneg n (show (256 : Int) ≠ 0 by omega)
  have h1 := Int.emod_lt_of_pos n (show (0 : Int) < 256 by omega)
  simp [UInt8.toNat_ofNat']; omega
theorem set_pad (n : Int) (l : List UInt8) : (bv (pad l)).toArray.setIfInBounds 63 (.int .u8 (n % 256)) = (bv (secB n l)).toArray := by
  rw [secB, bv_set, byte_of_int]; simp

set_option maxHeartbeats 1000000 in
theorem sector_any (w : World) (n : Int) (a : Option Addr) (len cap : Nat) (l : List UInt8) (h : Src w a len l) :
    Calls Try.prog 24 #[.int .i64 n, .slice a len cap] w (Made1 w (secB n l)) := by
  have hmk : ∀ W : World, (Instr.makeSlice 34 (.int .i64 64) (.int .i64 64)).run Try.prog W = .ok (.slice (some ⟨W.heap.size, 0, none⟩) 64 64) (W.alloc (.cells (bv zeros).toArray 5)) := fun _ => by kernel_rfl
  have H := Lib.hid h
  clear h
  obtain ⟨v63, hv63⟩ : ∃ v, (bv (pad l))[63]? = some v := ⟨_, List.getElem?_eq_getElem (by rw [length_bv, length_pad]; omega)⟩
  have hsp := Lib.hid (set_pad n l)
  go_enter Try.func24, Try.ntmps24
  go_wp2_with (refine cp_pad a len l H.out rfl _ _ rfl _ _ rfl rfl _ rfl ?_)
  go_ret
  refine ⟨_, rfl, ?_, Nat.le_refl _, (Only.refl _ _).alloc _⟩
  have hm := IsBlk.made w (.cells (bv (secB n l)).toArray 5)
  have e1 : ((bv (pad l)).set 63 (.int .u8 (n % 256))).toArray = (bv (secB n l)).toArray := by rw [← hsp.out]; simp
  rw [e1]
  exact hm

/-- Bytes as a string. -/
def strB (l : List UInt8) : ByteArray := ⟨l.toArray⟩
theorem conv_str (w : World) (g o cap len : Nat) (l : List UInt8) (hl : l.length = len) (hr : w.rangeAt g o (bv l)) : (convert 34 9 (.slice (some ⟨g, o, none⟩) len cap)).run Try.prog w = .ok (.string (strB l)) w := by
  have := run_convert_bytes_arg (P := Try.prog) w 34 5 Try.underlying34 Try.underlying5 g o len cap (l.map fun b => (b.toNat : Int)) (by simpa using hl) (fun i hi => by
    have hi' : i < l.length := by omega
    rw [hr i (.int .u8 l[i].toNat) (by simp [bv, List.getElem?_eq_getElem hi'])]
    simp [List.getD, List.getElem?_eq_getElem hi']) 9 Try.underlying9
  rw [this]
  congr 2
  simp only [strOfNums, strB, List.map_map]
  have e1 : l.map ((fun n : Int => UInt8.ofNat n.toNat) ∘ fun b : UInt8 => (b.toNat : Int)) = l := by
    have : ((fun n : Int => UInt8.ofNat n.toNat) ∘ fun b : UInt8 => (b.toNat : Int)) = id := by funext b; simp
    rw [this, List.map_id]
  rw [e1]
theorem blk_range {w : World} {g : Nat} {l : List UInt8} {t : TypeId} (h : IsBlk w g (.cells (bv l).toArray t)) : w.rangeAt g 0 (bv l) := fun j v hv => by
  rw [h.cell, Nat.zero_add]; simpa using hv

end Go.Proofs.Ytlnmpbfalflbgaa
