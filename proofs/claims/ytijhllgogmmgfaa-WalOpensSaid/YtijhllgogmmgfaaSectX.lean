/-
  The walk of the law SectCuts.
-/
import Derived.Test.YtijhllgogmmgfaaSectU
import Derived.Test.YtijhllgogmmgfaaSectS
namespace Go.Proofs.Ytijhllgogmmgfaa
set_option linter.unusedVariables false
set_option maxRecDepth 100000
open Go.RowKit

/-- What Cut answers: the Parts, or none, and the number. -/
def cutX (g r : Int) (b : List UInt8) : List PartM × Nat := if mayB g r = true then (if partsN b.length ≤ 255 then (cutP g r b, 0) else ([], 2)) else ([], 1)
theorem cutX_len {g r : Int} {b : List UInt8} {ps : List PartM} {code : Nat} (h : cutX g r b = (ps, code)) : ps.length ≤ 255 := by
  unfold cutX at h
  split at h
  · split at h
    · injection h with h1 h2; rw [← h1, length_cutP]; assumption
    · injection h with h1 h2; rw [← h1]; simp
  · injection h with h1 h2; rw [← h1]; simp
theorem cutX_zero {g r : Int} {b : List UInt8} {ps : List PartM} (h : cutX g r b = (ps, 0)) : mayB g r = true ∧ partsN b.length ≤ 255 ∧ ps = cutP g r b := by
  unfold cutX at h
  split at h
  · split at h
    · injection h with h1 h2; exact ⟨by assumption, by assumption, h1.symm⟩
    · injection h with h1 h2; cases h2
  · injection h with h1 h2; cases h2
def CutG (w : World) (ps : List PartM) (code : Nat) (e : Ending) (w' : World) : Prop :=
  ∃ a c, e = .returned (.tuple #[.slice a ps.length c, .int .i64 code]) ∧ PartsAt w' a ps.length ps ∧ Only [] w w'
theorem cut_gen (w : World) (g r : Int) (a : Option Addr) (cap : Nat) (b : List UInt8) (hs : Src w a b.length b) (hl : b.length ≤ 100000) :
    Calls Try.prog 39 #[.int .i64 g, .int .i64 r, .slice a b.length cap] w (CutG w (cutX g r b).1 (cutX g r b).2) := by
  cases hm : mayB g r with
  | false =>
    have e : cutX g r b = ([], 1) := by simp [cutX, hm]
    rw [e]
    exact (cut_bad w g r a b.length cap hm).mono fun e w' ⟨h1, h2⟩ => ⟨none, 0, h1, ⟨rfl, fun h => by simp at h⟩, by rw [h2]; exact Only.refl _ _⟩
  | true =>
    by_cases hp : partsN b.length ≤ 255
    · have e : cutX g r b = (cutP g r b, 0) := by simp [cutX, hm, hp]
      rw [e]
      refine (cut_ok w g r a cap b hs hm hp).mono fun e w' ⟨gl, gw, h1, h2, h3, h4, h5, h6, h7⟩ => ?_
      have hC : CutAt w' gl gw g r b (partsN b.length) := ⟨h2, h3, h6, rfl⟩
      exact ⟨some ⟨gl, 0, none⟩, partsN b.length, by rw [h1, length_cutP]; rfl, by rw [length_cutP]; exact hC.parts, h7⟩
    · have e : cutX g r b = ([], 2) := by simp [cutX, hm, hp]
      rw [e]
      exact (cut_long w g r a b.length cap hm (by omega) (by omega)).mono fun e w' ⟨h1, h2⟩ => ⟨none, 0, h1, ⟨rfl, fun h => by simp at h⟩, by rw [h2]; exact Only.refl _ _⟩
theorem refcut_gen (w : World) (g r : Int) (a : Option Addr) (cap : Nat) (b : List UInt8) (hs : Src w a b.length b) (hl : b.length ≤ 100000) :
    Calls Try.prog 23 #[.int .i64 g, .int .i64 r, .slice a b.length cap] w (CutG w (cutX g r b).1 (cutX g r b).2) := by
  cases hm : mayB g r with
  | false =>
    have e : cutX g r b = ([], 1) := by simp [cutX, hm]
    rw [e]
    exact (refcut_bad w g r a b.length cap hm).mono fun e w' ⟨h1, h2⟩ => ⟨none, 0, h1, ⟨rfl, fun h => by simp at h⟩, h2⟩
  | true =>
    by_cases hp : partsN b.length ≤ 255
    · have e : cutX g r b = (cutP g r b, 0) := by simp [cutX, hm, hp]
      rw [e]
      refine (refcut_any w g r a cap b hs hm hl).mono fun e w' ⟨h1, h2, h3⟩ => ?_
      obtain ⟨v, hv, hrow⟩ := h1 hp
      obtain ⟨a', c', rfl, hp'⟩ := hrow.parts
      exact ⟨a', c', hv, hp', h3⟩
    · have e : cutX g r b = ([], 2) := by simp [cutX, hm, hp]
      rw [e]
      exact (refcut_any w g r a cap b hs hm hl).mono fun e w' ⟨h1, h2, h3⟩ => ⟨none, 0, h2 (by omega), ⟨rfl, fun h => by simp at h⟩, h3⟩

/-- The worlds on the way through the test of two Parts. -/
def TenC (w0 : World) (b o b' o' : Nat) (p : PartM) (da : Option Addr) (dc : Nat) (ea : Option Addr) (ec : Nat) (W : World) : Prop :=
  (W.rangeAt b o (partC p.g p.r p.n p.o da p.d.length dc) ∧ W.rangeAt b' o' (partC p.g p.r p.n p.o ea p.d.length ec)) ∧ Only [] w0 W
theorem TenC.more {w0 W W' : World} {b o b' o' : Nat} {p : PartM} {da : Option Addr} {dc : Nat} {ea : Option Addr} {ec : Nat} (h : TenC w0 b o b' o' p da dc ea ec W) (hO : Only [] W W') (hb : b < W.heap.size) (hb' : b' < W.heap.size) : TenC w0 b o b' o' p da dc ea ec W' :=
  ⟨⟨rangeAt_only h.1.1 hO hb (by simp), rangeAt_only h.1.2 hO hb' (by simp)⟩, h.2.then hO [] (by simp) (by simp)⟩
theorem region_ten {P : Program} {id : Nat} {Q : Exit → Act → World → Prop} {a : Act} {w w0 : World} {l : List Oper} {b o b' o' : Nat} {p : PartM} {da : Option Addr} {dc : Nat} {ea : Option Addr} {ec : Nat} (hm : P.follows .mixedOrders = true) (hB : Region.lexB .any l.toArray = true) (hC : TenC w0 b o b' o' p da dc ea ec w.drew)
    (h : wpQuiet P l.toArray (TenC w0 b o b' o' p da dc ea ec) (fun a' => ∀ w', TenC w0 b o b' o' p da dc ea ec w' → Q .normal a' w') l a) : (Code.region id l.toArray true).wp P Q a w :=
  region_quiet_lit hm hB hC h

end Go.Proofs.Ytijhllgogmmgfaa
