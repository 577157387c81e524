/-
  Flush of a disk that is dead or dies of it; the laws' small helpers known and within.
-/
import Derived.Test.YtfampoblcielpaaGreatDiskD
namespace Go.Proofs.YtfampoblcielpaaGreat
set_option linter.unusedVariables false
set_option maxRecDepth 100000
open Go.RowKit

set_option maxHeartbeats 400000 in
theorem flush_dead (w : World) (p bl bm : Nat) (D : DS) (h : DiskAt w p bl bm D) (hd : D.dead = true) :
    Calls Tryz.prog 60 #[.pointer (some ⟨p, 0, none⟩)] w fun e w' => e = .returned (.int .i64 3) ∧ w = w' := by
  have c3 := h.blk.c3
  rw [hd] at c3
  clear hd
  go_enter Tryz.func60, Tryz.ntmps60
  go_wp2
  go_ret
  exact ⟨rfl, rfl⟩

set_option maxHeartbeats 400000 in
theorem flush_spent (w : World) (p bl bm : Nat) (D : DS) (h : DiskAt w p bl bm D) (hd : D.dead = false) (hf : D.fuse = 0) :
    Calls Tryz.prog 60 #[.pointer (some ⟨p, 0, none⟩)] w fun e w' => e = .returned (.int .i64 3) ∧ DiskAt w' p bl bm { D with fuse := 0, dead := true, ops := D.ops } ∧ Only [p] w w' := by
  have hb2 := h.blk
  have c3 := h.blk.c3
  rw [hd] at c3
  rw [hf] at hb2
  clear hd hf
  go_enter Tryz.func60, Tryz.ntmps60
  go_wp2_with (go_at_call 77; refine (burn_spent _ p bl _ bm _ _ hb2).mono ?_; rintro e w1 ⟨rfl, hb1, hO⟩)
  go_ret
  exact ⟨rfl, h.reblk hO 0 true D.ops hb1, hO⟩

end Go.Proofs.YtfampoblcielpaaGreat
