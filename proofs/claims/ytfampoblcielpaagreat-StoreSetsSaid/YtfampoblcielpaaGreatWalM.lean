/-
  The laws' helpers Both and Rows.
-/
import Derived.Test.YtfampoblcielpaaGreatWalK
import Derived.Test.YtfampoblcielpaaGreatRefE
namespace Go.Proofs.YtfampoblcielpaaGreat
set_option maxRecDepth 100000
open Go.RowKit

/-- The document's own disk when it is new. -/
def newRS (n : Nat) : RS := { n := n, now := fun _ => zeros, last := fun _ => zeros, new := fun _ => false, dead := false, left := -1, ops := 0 }

def BothTo (w : World) (s : Int) (e : Ending) (w' : World) : Prop :=
  ∃ (pd bl bm : Nat) (R : RefP) (B M : Nat), e = .returned (.tuple #[.pointer (some ⟨pd, 0, none⟩), .pointer (some ⟨R.q, 0, none⟩)]) ∧ DiskAt w' pd bl bm (newDS (2 * M)) ∧ RefAt w' B R (newRS (2 * M)) ∧ (M : Int) = 4 + s % 13 ∧ 4 ≤ M ∧ M ≤ 16 ∧
    w.heap.size ≤ pd ∧ w.heap.size ≤ bl ∧ w.heap.size ≤ bm ∧ w.heap.size ≤ B ∧ pd < B ∧ bl < B ∧ bm < B ∧ Only [] w w'

set_option maxHeartbeats 2000000 in
theorem both_any (w : World) (s : Int) : Calls Tryz.prog 6 #[.int .i64 s] w (BothTo w s) := by
  go_enter Tryz.func6, Tryz.ntmps6
  go_wp2_with fail
  refine (within_to _ s 13 (by omega) (by omega)).mono ?_
  rintro e w' ⟨m, rfl, hm, hms, rfl⟩
  have Hms := Lib.hid hms
  clear hms
  go_wp2_with fail
  have ek : (8 : Int) + 2 * (m : Int) = ((2 * (m + 4) : Nat) : Int) := by omega
  rw [ek]
  clear ek
  refine (new_even _ (m + 4) (by omega) (by omega)).mono ?_
  rintro e w1 ⟨pd, bl, bm, rfl, hD, hO1, hp1, hp2, hp3⟩
  have HD := Lib.hid hD
  have HO1 := Lib.hid hO1
  have h4 := hD.plt
  have h5 := hD.blt
  have h6 := hD.mlt
  have hsz := hO1.size
  clear hD hO1
  go_wp2_with fail
  have ek : 2 * ((m : Int) + 4) = ((2 * (m + 4) : Nat) : Int) := by omega
  rw [ek]
  clear ek
  refine (rnew_ok _ (2 * (m + 4)) (by omega) (by omega) (by omega)).mono ?_
  rintro e w2 ⟨R, rfl, hR, hO2⟩
  have HR := Lib.hid hR
  have HO2 := Lib.hid hO2
  clear hR hO2
  go_wp2
  go_ret2
  exact ⟨pd, bl, bm, R, w1.heap.size, m + 4, rfl, HD.out.more HO2.out, HR.out, by have := Hms.out; omega, by omega, by omega, hp1, hp2, hp3, hsz, h4, h5, h6, HO1.out.plus HO2.out⟩

theorem take_succ_eq {α : Type} {a b : List α} {k : Nat} {x y : α} (hx : a[k]? = some x) (hy : b[k]? = some y) (h : a.take k = b.take k) (hxy : x = y) : a.take (k + 1) = b.take (k + 1) := by
  obtain ⟨h1, rfl⟩ := List.getElem?_eq_some_iff.1 hx
  obtain ⟨h2, rfl⟩ := List.getElem?_eq_some_iff.1 hy
  rw [take_snoc a k h1, take_snoc b k h2, h, hxy]

end Go.Proofs.YtfampoblcielpaaGreat
