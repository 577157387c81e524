/-
  The function choose of the package wal, by a contract.
-/
import Derived.Test.YtfampoblcielpaaGreatWalD
namespace Go.Proofs.YtfampoblcielpaaGreat
set_option maxRecDepth 100000
open Go.RowKit

/-- The generation and the half of a log, by its halves' Parts. -/
def chooseM (p q : List PartM) : Int × Nat := if beginM p < beginM q then (beginM q, 1) else (beginM p, 0)

set_option maxHeartbeats 2000000 in
theorem choose_any (w : World) (lp pd g0 g1 n : Nat) (L : LS) (p q : List PartM) (h : LogAt w lp pd { L with gen := 0, half := 0 }) (hp : ∀ i x, p[i]? = some x → PartN w g0 (i * 5) x) (hq : ∀ i x, q[i]? = some x → PartN w g1 (i * 5) x) (hsp : Sane p) (hsq : Sane q) (hpn : p.length = n) (hqn : q.length = n) (hn : n ≤ 256)
    (h0 : g0 < w.heap.size) (h1 : g1 < w.heap.size) (hl0 : lp < g0) (hl1 : lp < g1) :
    Calls Tryz.prog 31 #[.pointer (some ⟨lp, 0, none⟩), .agg #[.slice (some ⟨g0, 0, none⟩) n n, .slice (some ⟨g1, 0, none⟩) n n]] w fun e w' => e = .returned (.tuple #[]) ∧ LogAt w' lp pd { L with gen := (chooseM p q).1, half := (chooseM p q).2 } ∧ Only [lp] w w' := by
  have hbp := (beginM_nonneg hsp).1
  have hbq := (beginM_nonneg hsq).1
  have hlt := IsBlk.lt h
  have H := Lib.hid h
  have Hp := Lib.hid hp
  have Hq := Lib.hid hq
  have Hsp := Lib.hid hsp
  have Hsq := Lib.hid hsq
  have Hpn := Lib.hid hpn
  have Hqn := Lib.hid hqn
  clear h hp hq hsp hsq hpn hqn
  have hi0 : ∀ W : World, (Instr.index 80 (.agg #[.slice (some ⟨g0, 0, none⟩) n n, .slice (some ⟨g1, 0, none⟩) n n]) (.int .i64 0)).run Tryz.prog W = .ok (.slice (some ⟨g0, 0, none⟩) n n) W := fun _ => by kernel_rfl
  have hi1 : ∀ W : World, (Instr.index 80 (.agg #[.slice (some ⟨g0, 0, none⟩) n n, .slice (some ⟨g1, 0, none⟩) n n]) (.int .i64 1)).run Tryz.prog W = .ok (.slice (some ⟨g1, 0, none⟩) n n) W := fun _ => by kernel_rfl
  go_enter Tryz.func31, Tryz.ntmps31
  go_wp2_with fail
  go_loopw [8] (fun i wr => (i = .int .i64 0 ∧ LogAt wr lp pd { L with gen := 0, half := 0 } ∨ i = .int .i64 1 ∧ LogAt wr lp pd { L with gen := beginM p, half := 0 } ∨ i = .int .i64 2 ∧ LogAt wr lp pd { L with gen := (chooseM p q).1, half := (chooseM p q).2 }) ∧ Only [lp] w wr) (fun i _ => 2 - (intOf i).toNat)
  case atStart => exact ⟨.inl ⟨rfl, H.out.more ((Only.refl [] w).alloc _)⟩, (Only.refl [lp] w).alloc _⟩
  case round =>
    obtain ⟨hc, hO⟩ := hrel
    have HO := Lib.hid hO
    clear hO
    rcases hc with ⟨rfl, hL⟩ | ⟨rfl, hL⟩ | ⟨rfl, hL⟩
    · have HL := Lib.hid hL
      clear hL
      go_wp2_with fail
      refine (beginning_any _ _ n n p (by have := partsOf Hp.out HO.out h0 hl0 0; simpa [Hpn.out] using this) Hsp.out (by omega) (by omega)).mono ?_
      rintro e w1 ⟨rfl, hO1⟩
      have hL1 := HL.out.more hO1
      have d3 := hL1.c3
      have z3 := hL1.fz 3
      have z4 := hL1.fz 4
      have d4 := hL1.c4
      simp only at d3 d4
      have HL1 := Lib.hid hL1
      have HO1 := Lib.hid (HO.out.plus hO1)
      clear HL HO hO1 hL1
      by_cases hb : 0 < beginM p
      · go_wp2
        go_roundw
        case rel => exact ⟨.inr (.inl ⟨rfl, (HL1.out.put3 _).put4 0⟩), (HO1.out.setCell (by simp) _).setCell (by simp) _⟩
        case measure => simp [intOf]
      · have hb0 : Hid (beginM p = 0) := Lib.hid (by omega)
        go_wp2
        go_roundw
        case rel => exact ⟨.inr (.inl ⟨rfl, by rw [hb0.out]; exact HL1.out⟩), HO1.out⟩
        case measure => simp [intOf]
    · have HL := Lib.hid hL
      clear hL
      go_wp2_with fail
      refine (beginning_any _ _ n n q (by have := partsOf Hq.out HO.out h1 hl1 0; simpa [Hqn.out] using this) Hsq.out (by omega) (by omega)).mono ?_
      rintro e w1 ⟨rfl, hO1⟩
      have hL1 := HL.out.more hO1
      have d3 := hL1.c3
      have z3 := hL1.fz 3
      have z4 := hL1.fz 4
      have d4 := hL1.c4
      simp only at d3 d4
      have HL1 := Lib.hid hL1
      have HO1 := Lib.hid (HO.out.plus hO1)
      clear HL HO hO1 hL1
      by_cases hb : beginM p < beginM q
      · have hc : Hid (chooseM p q = (beginM q, 1)) := Lib.hid (by unfold chooseM; rw [if_pos hb])
        go_wp2
        go_roundw
        case rel => exact ⟨.inr (.inr ⟨rfl, by rw [hc.out]; exact (HL1.out.put3 _).put4 1⟩), (HO1.out.setCell (by simp) _).setCell (by simp) _⟩
        case measure => simp [intOf]
      · have hc : Hid (chooseM p q = (beginM p, 0)) := Lib.hid (by unfold chooseM; rw [if_neg hb])
        go_wp2
        go_roundw
        case rel => exact ⟨.inr (.inr ⟨rfl, by rw [hc.out]; exact HL1.out⟩), HO1.out⟩
        case measure => simp [intOf]
    · have HL := Lib.hid hL
      clear hL
      go_wp2
      go_end0
      exact ⟨rfl, HL.out, HO.out⟩

end Go.Proofs.YtfampoblcielpaaGreat
