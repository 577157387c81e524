/-
  The document's own disk: Crash by its contract.
-/
import Derived.Test.YtijhllgogmmgfaaRefB
namespace Go.Proofs.Ytijhllgogmmgfaa
set_option linter.unusedVariables false
set_option maxRecDepth 100000
open Go.RowKit

set_option maxHeartbeats 400000 in
theorem rflush_dead (w : World) (B : Nat) (R : RefP) (D : RS) (h : RefAt w B R D) (hd : D.dead = true) :
    Calls Try.prog 28 #[.pointer (some ⟨R.q, 0, none⟩)] w fun e w' => e = .returned (.int .i64 3) ∧ w = w' := by
  have c3 := h.c3
  rw [hd] at c3
  clear hd h
  go_enter Try.func28, Try.ntmps28
  go_wp2
  go_ret
  exact ⟨rfl, rfl⟩

set_option maxHeartbeats 1000000 in
theorem rflush_spent (w : World) (B : Nat) (R : RefP) (D : RS) (h : RefAt w B R D) (hd : D.dead = false) (hl : D.left = 0) :
    Calls Try.prog 28 #[.pointer (some ⟨R.q, 0, none⟩)] w (RefOk w B R { D with dead := true, left := 0, ops := D.ops } (.int .i64 3)) := by
  have c3 := h.c3
  rw [hd] at c3
  have H := Lib.hid h
  have Hl := Lib.hid hl
  clear hd h hl
  go_enter Try.func28, Try.ntmps28
  go_wp2_with (go_at_call 50; refine (spend_no _ B R D H.out Hl.out).mono ?_; rintro e w1 ⟨rfl, hR1, hO1⟩)
  go_ret
  exact ⟨rfl, hR1, hO1⟩

/-- Flushed up to sector k. -/
def RS.flushTo (D : RS) (k : Nat) : RS := { D with last := fun i => if i < k then D.now i else D.last i, new := fun i => if i < k then false else D.new i }
theorem rflush_zero (D : RS) : D.flushTo 0 = D := by simp [RS.flushTo]
theorem rflush_succ (D : RS) (k : Nat) : ({ D.flushTo k with last := fun i => if i = k then D.now k else (D.flushTo k).last i, new := fun i => if i = k then false else (D.flushTo k).new i } : RS) = D.flushTo (k + 1) := by
  have h1 : (fun i => if i = k then D.now k else (D.flushTo k).last i) = fun i => if i < k + 1 then D.now i else D.last i := by
    funext i
    by_cases e : i = k
    · subst e; simp
    · by_cases l : i < k
      · have : i < k + 1 := by omega
        simp [RS.flushTo, e, l, this]
      · have : ¬ i < k + 1 := by omega
        simp [RS.flushTo, e, l, this]
  have h2 : (fun i => if i = k then false else (D.flushTo k).new i) = fun i => if i < k + 1 then false else D.new i := by
    funext i
    by_cases e : i = k
    · subst e; simp
    · by_cases l : i < k
      · have : i < k + 1 := by omega
        simp [RS.flushTo, e, l, this]
      · have : ¬ i < k + 1 := by omega
        simp [RS.flushTo, e, l, this]
  rw [h1, h2]; rfl
/-- Flushed whole. -/
def RS.flushed (D : RS) : RS := { D with last := D.now, new := fun _ => false }
theorem rflushed_at {w : World} {B : Nat} {R : RefP} {D : RS} (h : RefAt w B R (D.flushTo D.n)) : RefAt w B R D.flushed where
  blk := h.blk
  now := h.now
  last i hi := by have := h.last i hi; simpa [RS.flushTo, RS.flushed, show i < D.n from hi] using this
  new i hi := by have := h.new i hi; simpa [RS.flushTo, RS.flushed, show i < D.n from hi] using this
  fN := h.fN
  fL := h.fL
  fB := h.fB
  gq := h.gq
  gN := h.gN
  gL := h.gL
  gB := h.gB
  lN := h.lN
  lL := h.lL
  lB := h.lB
  qN := h.qN
  qL := h.qL
  qB := h.qB
  NL := h.NL
  NB_ := h.NB_
  LB := h.LB
  pos := h.pos
  small := h.small

set_option maxHeartbeats 2000000 in
theorem rflush_ok (w : World) (B : Nat) (R : RefP) (D : RS) (h : RefAt w B R D) (hd : D.dead = false) (hl : D.left ≠ 0) (hl0 : -1 ≤ D.left) (hl1 : D.left < 1000000000000) (hk0 : 0 ≤ D.ops) (hk : D.ops < 1000000000000) :
    Calls Try.prog 28 #[.pointer (some ⟨R.q, 0, none⟩)] w (RefOk w B R { D with dead := D.dead, left := burnt D.left, ops := D.ops + 1 }.flushed (.int .i64 0)) := by
  have c3 := h.c3
  rw [hd] at c3
  have hes := empty_bytes
  have H := Lib.hid h
  have Hl := Lib.hid hl
  have hsm := h.small
  clear hd h hl
  go_enter Try.func28, Try.ntmps28
  go_wp2_with fail
  refine (spend_ok _ B R D H.out Hl.out hl0 hl1 hk0 hk).mono ?_
  rintro e w1 ⟨rfl, hR1, hO1⟩
  clear c3
  go_wp2_with fail
  generalize hDD : ({ D with dead := D.dead, left := burnt D.left, ops := D.ops + 1 } : RS) = DD at *
  have hDn : DD.n = D.n := by rw [← hDD]
  have hsm' : DD.n ≤ 256 := by omega
  clear hDD hDn
  go_loopw [3] (fun i wr => ∃ k : Nat, k ≤ DD.n ∧ i = .int .i64 k ∧ RefAt wr B R (DD.flushTo k) ∧ Only R.own w wr) (fun i _ => DD.n - (intOf i).toNat)
  case atStart => exact ⟨0, Nat.zero_le _, rfl, by rw [rflush_zero]; exact hR1, hO1⟩
  case round =>
    obtain ⟨k, hk, rfl, hRk, hOk⟩ := hrel
    have c0 := hRk.c0
    have e0 : (DD.flushTo k).n = DD.n := rfl
    rw [e0] at c0
    clear e0
    by_cases hlt : k < DD.n
    · have hlti : (k : Int) < (DD.n : Int) := by omega
      obtain ⟨gi, ci, hci, hBi, hlti2, hri, hli⟩ := hRk.now k hlt
      obtain ⟨gx, cx, hcx, _⟩ := hRk.last k hlt
      have c1 := hRk.c1
      have e1 : (DD.flushTo k).n = DD.n := rfl
      rw [e1] at c1
      have hlq := hRk.lq
      have hlN := hRk.lN
      have hlL := hRk.lL
      have hfx := hRk.fL k
      have HqL := Lib.hid hRk.qL
      have HNL := Lib.hid hRk.NL
      have HR := Lib.hid hRk
      have enow : (DD.flushTo k).now k = DD.now k := rfl
      rw [enow] at hri hli
      have Hri := Lib.hid hri
      have Hli := Lib.hid hli
      clear e1 hRk hri hli hR1 enow hO1 H
      go_wp2_with fail
      go_region_held3 (fun W => W.cell? ⟨R.q, 0, none⟩ = some (.slice (some ⟨R.gN, 0, none⟩) DD.n R.cN) ∧ W.cell? ⟨R.q, 1, none⟩ = some (.slice (some ⟨R.gL, 0, none⟩) DD.n R.cL) ∧ W.cell? ⟨R.gN, k, none⟩ = some (.slice (some ⟨gi, 0, none⟩) 64 ci)) (first | assumption | exact ⟨by assumption, by assumption, by assumption⟩ | go_keep | (rw [cell_far _ HqL.out, cell_far _ HqL.out, cell_far _ HNL.out]; exact ⟨by assumption, by assumption, by assumption⟩))
        (first
          | (refine step_app (DD.now k) Hli.out rfl _ _ rfl _ rfl ?_ _ _ _ rfl ?_ ?_
             (first | exact IsBlk.made _ _ | exact (IsBlk.made _ _).drew)
             (simp only [World.rangeAt_drew]; exact World.rangeAt_alloc Hri.out _)
             intro g' c' w' hge hr' hlt' hO'
             have hO2 : Only [] wr w' := ((((Only.refl [] wr).alloc (.cells #[] 5)).drew).trans hO').into (by simp)
             have hq0 : w'.cell? ⟨R.q, 0, none⟩ = some (.slice (some ⟨R.gN, 0, none⟩) DD.n R.cN) := (hO2.cell (p := ⟨R.q, 0, none⟩) hlq (by simp)).trans c0
             have hq1 : w'.cell? ⟨R.q, 1, none⟩ = some (.slice (some ⟨R.gL, 0, none⟩) DD.n R.cL) := (hO2.cell (p := ⟨R.q, 1, none⟩) hlq (by simp)).trans c1
             have hci' := (hO2.cell (p := ⟨R.gN, k, none⟩) hlN (by simp)).trans hci
             have hcx' := (hO2.cell (p := ⟨R.gL, k, none⟩) hlL (by simp)).trans hcx
             have hfx' := (hO2.frozen (p := ⟨R.gL, k, none⟩) hlL (by simp)).trans hfx))
      have hR2 := HR.out.more hO2
      have hR3 := hR2.putLast k g' c' (DD.now k) hlt (by have := HR.out.gq; omega) hlt' hr' Hli.out
      have hO3 : Only R.own w (w'.setCell ⟨R.gL, k, none⟩ (.slice (some ⟨g', 0, none⟩) 64 c')) := (hOk.andMore hO2).setCell (by simp [RefP.own]) _
      clear hq0 hq1 hci' hcx' hfx'
      rename_i hheld
      clear hheld
      generalize w'.setCell ⟨R.gL, k, none⟩ (.slice (some ⟨g', 0, none⟩) 64 c') = w3 at *
      have c2 := hR3.c2
      have e2 : (DD.flushTo k).n = DD.n := rfl
      rw [e2] at c2
      have hnx := hR3.new k hlt
      have hfb := hR3.fB k
      have hR4 := hR3.putNew k false hlt
      have hO4 := hO3.setCell (p := ⟨R.gB, k, none⟩) (by simp [RefP.own]) (.bool false)
      have hR4' : RefAt (w3.setCell ⟨R.gB, k, none⟩ (.bool false)) B R (DD.flushTo (k + 1)) := by rw [← rflush_succ]; exact hR4
      have HR4 := Lib.hid hR4'
      clear e2 hR2 hR3 hR4 hR4' hO2 hO' HR Hri hr' c0 c1 hci hcx hfx hOk hO3
      go_wp2
      go_roundw
      case rel => exact ⟨k + 1, by omega, by go_num, HR4.out, hO4⟩
      case measure => simp [intOf]; omega
    · have hge : ¬ (k : Int) < (DD.n : Int) := by omega
      obtain rfl : k = DD.n := by omega
      have HR := Lib.hid hRk
      clear hRk hR1 H
      go_wp2
      go_ret
      exact ⟨rfl, rflushed_at HR.out, hOk⟩

end Go.Proofs.Ytijhllgogmmgfaa
namespace Go.Proofs.Ytijhllgogmmgfaa
set_option linter.unusedVariables false
set_option maxRecDepth 100000
open Go.RowKit

/-- How many of the first k sectors were written. -/
def cntN (new : Nat → Bool) : Nat → Nat
  | 0 => 0
  | k + 1 => cntN new k + if new k then 1 else 0
theorem cntN_le (new : Nat → Bool) : ∀ k, cntN new k ≤ k
  | 0 => Nat.le_refl _
  | k + 1 => by have := cntN_le new k; simp only [cntN]; split <;> omega

/-- A sector behind a crash. -/
def RS.kept (D : RS) (l : List UInt8) (i : Nat) : List UInt8 := if D.new i = true ∧ pickB l (cntN D.new i) = true then D.now i else D.last i
/-- Crashed up to sector k. -/
def RS.crashTo (D : RS) (l : List UInt8) (k : Nat) : RS :=
  { D with last := fun i => if i < k then D.kept l i else D.last i, now := fun i => if i < k ∧ D.new i = true then D.kept l i else D.now i, new := fun i => if i < k then false else D.new i }
theorem rcrash_zero (D : RS) (l : List UInt8) : D.crashTo l 0 = D := by simp [RS.crashTo]

theorem rs_ext {D E : RS} (h1 : D.n = E.n) (h2 : D.now = E.now) (h3 : D.last = E.last) (h4 : D.new = E.new) (h5 : D.dead = E.dead) (h6 : D.left = E.left) (h7 : D.ops = E.ops) : D = E := by
  cases D; cases E; simp_all

/-- A sector that was not written. -/
theorem rcrash_skip (D : RS) (l : List UInt8) (k : Nat) (h : D.new k = false) : D.crashTo l k = D.crashTo l (k + 1) := by
  refine rs_ext rfl (funext fun i => ?_) (funext fun i => ?_) (funext fun i => ?_) rfl rfl rfl
  all_goals
    by_cases e : i = k
    · subst e; simp [RS.crashTo, RS.kept, h]
    · by_cases lt : i < k
      · have : i < k + 1 := by omega
        simp [RS.crashTo, lt, this]
      · have : ¬ i < k + 1 := by omega
        simp [RS.crashTo, lt, this]
/-- One that was, and is kept. -/
theorem rcrash_keep (D : RS) (l : List UInt8) (k : Nat) (h : D.new k = true) (hp : pickB l (cntN D.new k) = true) :
    ({ D.crashTo l k with last := fun i => if i = k then D.now k else (D.crashTo l k).last i, now := fun i => if i = k then D.now k else (D.crashTo l k).now i, new := fun i => if i = k then false else (D.crashTo l k).new i } : RS) = D.crashTo l (k + 1) := by
  refine rs_ext rfl (funext fun i => ?_) (funext fun i => ?_) (funext fun i => ?_) rfl rfl rfl
  all_goals
    by_cases e : i = k
    · subst e; simp [RS.crashTo, RS.kept, h, hp]
    · by_cases lt : i < k
      · have : i < k + 1 := by omega
        simp [RS.crashTo, lt, this, e]
      · have : ¬ i < k + 1 := by omega
        simp [RS.crashTo, lt, this, e]
/-- One that was, and is lost. -/
theorem rcrash_lose (D : RS) (l : List UInt8) (k : Nat) (h : D.new k = true) (hp : pickB l (cntN D.new k) = false) :
    ({ D.crashTo l k with now := fun i => if i = k then D.last k else (D.crashTo l k).now i, new := fun i => if i = k then false else (D.crashTo l k).new i } : RS) = D.crashTo l (k + 1) := by
  refine rs_ext rfl (funext fun i => ?_) (funext fun i => ?_) (funext fun i => ?_) rfl rfl rfl
  all_goals
    by_cases e : i = k
    · subst e; simp [RS.crashTo, RS.kept, h, hp]
    · by_cases lt : i < k
      · have : i < k + 1 := by omega
        simp [RS.crashTo, lt, this, e]
      · have : ¬ i < k + 1 := by omega
        simp [RS.crashTo, lt, this, e]

/-- Crashed whole. -/
def RS.crashed (D : RS) (l : List UInt8) : RS :=
  { D with last := D.kept l, now := fun i => if D.new i = true then D.kept l i else D.now i, new := fun _ => false, dead := false, left := -1 }
theorem rcrashed_at {w : World} {B : Nat} {R : RefP} {D : RS} {l : List UInt8} (h : RefAt w B R { D.crashTo l D.n with dead := false, left := -1, ops := D.ops }) : RefAt w B R (D.crashed l) where
  blk := h.blk
  now i hi := by have := h.now i hi; simpa [RS.crashTo, RS.crashed, show i < D.n from hi] using this
  last i hi := by have := h.last i hi; simpa [RS.crashTo, RS.crashed, show i < D.n from hi] using this
  new i hi := by have := h.new i hi; simpa [RS.crashTo, RS.crashed, show i < D.n from hi] using this
  fN := h.fN
  fL := h.fL
  fB := h.fB
  gq := h.gq
  gN := h.gN
  gL := h.gL
  gB := h.gB
  lN := h.lN
  lL := h.lL
  lB := h.lB
  qN := h.qN
  qL := h.qL
  qB := h.qB
  NL := h.NL
  NB_ := h.NB_
  LB := h.LB
  pos := h.pos
  small := h.small

end Go.Proofs.Ytijhllgogmmgfaa
