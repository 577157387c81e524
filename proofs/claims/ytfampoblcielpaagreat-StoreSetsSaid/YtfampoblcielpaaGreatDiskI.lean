/-
  A disk that lives without a fuse, told by its sectors alone: Write, Read, Flush, Crash once more, in those words.
-/
import Derived.Test.YtfampoblcielpaaGreatDiskH
namespace Go.Proofs.YtfampoblcielpaaGreat
set_option linter.unusedVariables false
set_option maxRecDepth 100000
open Go.RowKit

abbrev Secs := Nat → List UInt8
abbrev News := Int → Option (List UInt8)
/-- A living disk without a fuse. -/
def mkD (n : Nat) (last : Secs) (fresh : News) (k : Int) : DS := { n := n, last := last, fresh := fresh, fuse := -1, dead := false, ops := k }
def nowF (last : Secs) (fresh : News) : Secs := fun i => (fresh i).getD (last i)
def putF (fresh : News) (x : Nat) (b : List UInt8) : News := fun y => if y = (x : Int) then some b else fresh y
def noF : News := fun _ => none
def cntF (fresh : News) : Nat → Nat
  | 0 => 0
  | k + 1 => cntF fresh k + if (fresh k).isSome then 1 else 0
def crF (last : Secs) (fresh : News) (l : List UInt8) : Secs := fun i => if pickB l (cntF fresh i) = true then nowF last fresh i else last i

theorem new_mk (n : Nat) : newDS n = mkD n (fun _ => zeros) noF 0 := rfl

variable {w : World} {p bl bm n : Nat} {last : Secs} {fresh : News} {k : Int}

def VOk (w : World) (p bl bm : Nat) (D : DS) (v : Value) (e : Ending) (w' : World) : Prop := e = .returned v ∧ DiskAt w' p bl bm D ∧ Only [p, bl, bm] w w'

theorem v_write (x g o c : Nat) (b : List UInt8) (h : DiskAt w p bl bm (mkD n last fresh k)) (hx : x < n) (hk0 : 0 ≤ k) (hk : k < 1000000000000) (hb : b.length = 64) (hr : w.rangeAt g o (bv b)) (hg : g < w.heap.size) (hgp : g ≠ p) :
    Calls Tryz.prog 59 #[.pointer (some ⟨p, 0, none⟩), .int .i64 x, .slice (some ⟨g, o, none⟩) 64 c] w (VOk w p bl bm (mkD n last (putF fresh x b) (k + 1)) (.int .i64 0)) := by
  refine (write_ok w p bl bm _ x g o c b h rfl hx (show (-1 : Int) ≠ 0 by omega) (show (-1 : Int) ≤ -1 by omega) (show (-1 : Int) < 1000000000000 by omega) hk0 hk hb hr hg hgp).mono ?_
  rintro e w' ⟨rfl, hD', hO⟩
  exact ⟨rfl, hD', hO.into (by simp)⟩

theorem v_flush (h : DiskAt w p bl bm (mkD n last fresh k)) (hk0 : 0 ≤ k) (hk : k < 1000000000000) :
    Calls Tryz.prog 60 #[.pointer (some ⟨p, 0, none⟩)] w (VOk w p bl bm (mkD n (nowF last fresh) noF (k + 1)) (.int .i64 0)) := by
  refine (flush_ok w p bl bm _ h rfl (show (-1 : Int) ≠ 0 by omega) (show (-1 : Int) ≤ -1 by omega) (show (-1 : Int) < 1000000000000 by omega) hk0 hk).mono ?_
  rintro e w' ⟨rfl, hD', hO⟩
  exact ⟨rfl, hD', hO⟩

theorem cnt_mk (n : Nat) (last : Secs) (fresh : News) (k : Int) : ∀ i, (mkD n last fresh k).cnt i = cntF fresh i
  | 0 => rfl
  | i + 1 => by simp only [DS.cnt, cntF, cnt_mk n last fresh k i]; rfl
theorem v_read (x : Nat) (h : DiskAt w p bl bm (mkD n last fresh k)) (hx : x < n) :
    Calls Tryz.prog 46 #[.pointer (some ⟨p, 0, none⟩), .int .i64 x] w (Made w (nowF last fresh x) 0) := read_ok w p bl bm _ x h rfl hx

theorem v_len (h : DiskAt w p bl bm (mkD n last fresh k)) (x : Nat) (hx : x < n) : (nowF last fresh x).length = 64 := by
  unfold nowF
  cases hf : fresh x with
  | none => exact h.lens x hx
  | some b => exact h.flen x b hf

end Go.Proofs.YtfampoblcielpaaGreat
