/-
  The document's own disk: Crash by its contract.
-/
import Derived.Test.YtlnmpbfalflbgaaRefC
namespace Go.Proofs.Ytlnmpbfalflbgaa
open Go.RowKit

/-- How many of the first k sectors were written. -/
def cntN (new : Nat → Bool) : Nat → Nat
  | 0 => 0
  | k + 1 => cntN new k + if new k then 1 else 0
theorem cntN_le (new : Nat → Bool) : ∀ k, cntN new k ≤ k
  | 0 => Nat.le_refl _
  | k + 1 => by have := cntN_le new k; simp only [cntN]; split <;> omega

/-- A sector behind a crash. -/
def RS.kept (D : RS) (l : List UInt8) (i : Nat) : List UInt8 := if D.new i = true ∧ pickB l (cntN D.new i) = true then D.now i else D.last i
/-- Crashed up to sector k. -/
def RS.crashTo (D : RS) (l : List UInt8) (k : Nat) : RS :=
  { D with last := fun i => if i < k then D.kept l i else D.last i, now := fun i => if i < k ∧ D.new i = true then D.kept l i else D.now i, new := fun i => if i < k then false else D.new i }
theorem rcrash_zero (D : RS) (l : List UInt8) : D.crashTo l 0 = D := by simp [RS.crashTo]

theorem rs_ext {D E : RS} (h1 : D.n = E.n) (h2 : D.now = E.now) (h3 : D.last = E.last) (h4 : D.new = E.new) (h5 : D.dead = E.dead) (h6 : D.left = E.left) (h7 : D.ops = E.ops) : D = E := by
  cases D; cases E; simp_all

/-- A sector that was not written. -/
theorem rcrash_skip (D : RS) (l : List UInt8) (k : Nat) (h : D.new k = false) : D.crashTo l k = D.crashTo l (k + 1) := by
  refine rs_ext rfl (funext fun i => ?_) (funext fun i => ?_) (funext fun i => ?_) rfl rfl rfl
  all_goals
    by_cases e : i = k
    · subst e; simp [RS.crashTo, RS.kept, h]
    · by_cases lt : i < k
      · have : i < k + 1 := by omega
        simp [RS.crashTo, lt, this]
      · have : ¬ i < k + 1 := by omega
        simp [RS.crashTo, lt, this]
/-- One that was, and is kept. -/
theorem rcrash_keep (D : RS) (l : List UInt8) (k : Nat) (h : D.new k = true) (hp : pickB l (cntN D.new k) = true) :
    ({ D.crashTo l k with last := fun i => if i = k then D.now k else (D.crashTo l k).last i, now := fun i => if i = k then D.now k else (D.crashTo l k).now i, new := fun i => if i = k then false else (D.crashTo l k).new i } : RS) = D.crashTo l (k + 1) := by
  refine rs_ext rfl (funext fun i => ?_) (funext fun i => ?_) (funext fun i => ?_) rfl rfl rfl
  all_goals
    by_cases e : i = k
    · subst e; simp [RS.crashTo, RS.kept, h, hp]
    · by_cases lt : i < k
      · have : i < k + 1 := by omega
        simp [RS.crashTo, lt, this, e]
      · have : ¬ i < k + 1 := by omega
        simp [RS.crashTo, lt, this, e]
/-- One that was, and is lost. -/
theorem rcrash_lose (D : RS) (l : List UInt8) (k : Nat) (h : D.new k = true) (hp : pickB l (cntN D.new k) = false) :
    ({ D.crashTo l k with now := fun i => if i = k then D.last k else (D.crashTo l k).now i, new := fun i => if i = k then false else (D.crashTo l k).new i } : RS) = D.crashTo l (k + 1) := by
  refine rs_ext rfl (funext fun i => ?_) (funext fun i => ?_) (funext fun i => ?_) rfl rfl rfl
  all_goals
    by_cases e : i = k
    · subst e; simp [RS.crashTo, RS.kept, h, hp]
    · by_cases lt : i < k
      · have : i < k + 1 := by omega
        simp [RS.crashTo, lt, this, e]
      · have : ¬ i < k + 1 := by omega
        simp [RS.crashTo, lt, this, e]

/-- Crashed whole. -/
def RS.crashed (D : RS) (l : List UInt8) : RS :=
  { D with last := D.kept l, now := fun i => if D.new i = true then D.kept l i else D.now i, new := fun _ => false, dead := false, left := -1 }
theorem rcrashed_at {w : World} {B : Nat} {R : RefP} {D : RS} {l : List UInt8} (h : RefAt w B R { D.crashTo l D.n with dead := false, left := -1, ops := D.ops }) : RefAt w B R (D.crashed l) where
  blk := h.blk
  now i hi := by have := h.now i hi; simpa [RS.crashTo, RS.crashed, show i < D.n from hi] using this
  last i hi := by have := h.last i hi; simpa [RS.crashTo, RS.crashed, show i < D.n from hi] using this
  new i hi := by have := h.new i hi; simpa [RS.crashTo, RS.crashed, show i < D.n from hi] using this
  fN := h.fN
  fL := h.fL
  fB := h.fB
  gq := h.gq
  gN := h.gN
  gL := h.gL
  gB := h.gB
  lN := h.lN
  lL := h.lL
  lB := h.lB
  qN := h.qN
  qL := h.qL
  qB := h.qB
  NL := h.NL
  NB_ := h.NB_
  LB := h.LB
  pos := h.pos
  small := h.small

set_option maxRecDepth 100000 in
set_option maxHeartbeats 4000000 in
theorem rcrash_any (w : World) (B : Nat) (R : RefP) (D : RS) (a : Option Addr) (len cap : Nat) (l : List UInt8) (h : RefAt w B R D) (hs : Src w a len l) (hne : 0 < len → ∀ b o, a = some ⟨b, o, none⟩ → b ∉ R.own) :
    Calls Try.prog 19 #[.pointer (some ⟨R.q, 0, none⟩), .slice a len cap] w (RefOk w B R (D.crashed l) (.tuple #[])) := by
  have hes := empty_bytes
  have H := Lib.hid h
  have hsm := h.small
  have Hs := Lib.hid hs
  have Hne := Lib.hid hne
  clear h hs hne
  go_enter Try.func19, Try.ntmps19
  go_wp2_with fail
  go_loopw [4, 5] (fun c i wr => ∃ k : Nat, k ≤ D.n ∧ i = .int .i64 k ∧ c = .int .i64 (cntN D.new k) ∧ RefAt wr B R (D.crashTo l k) ∧ Only R.own w wr) (fun _ i _ => D.n - (intOf i).toNat)
  case atStart => exact ⟨0, Nat.zero_le _, rfl, rfl, by rw [rcrash_zero]; exact H.out, Only.refl _ _⟩
  case round =>
    obtain ⟨k, hk, rfl, rfl, hRk, hOk⟩ := hrel
    have hcn := cntN_le D.new k
    have c0 := hRk.c0
    have c2 := hRk.c2
    have e0 : (D.crashTo l k).n = D.n := rfl
    rw [e0] at c0 c2
    clear e0
    by_cases hlt : k < D.n
    · have hlti : (k : Int) < (D.n : Int) := by omega
      have hnk := hRk.new k hlt
      have enk : (D.crashTo l k).new k = D.new k := by simp [RS.crashTo]
      rw [enk] at hnk
      clear enk
      have hcs : cntN D.new (k + 1) = cntN D.new k + if D.new k then 1 else 0 := rfl
      cases hnew : D.new k with
      | false =>
        rw [hnew] at hnk hcs
        have Hcs := Lib.hid (show cntN D.new (k + 1) = cntN D.new k by simpa using hcs)
        have hRn : RefAt wr B R (D.crashTo l (k + 1)) := by rw [← rcrash_skip D l k hnew]; exact hRk
        have HR := Lib.hid hRn
        clear hcs hRk hRn hnew H
        go_wp2
        go_roundw
        case rel => exact ⟨k + 1, by omega, by go_num, by rw [Hcs.out], HR.out, hOk⟩
        case measure => simp [intOf]; omega
      | true =>
        rw [hnew] at hnk hcs
        have Hcs := Lib.hid (show cntN D.new (k + 1) = cntN D.new k + 1 by simpa using hcs)
        clear hcs
        have c1 := hRk.c1
        have e1 : (D.crashTo l k).n = D.n := rfl
        rw [e1] at c1
        obtain ⟨gn, cn, hcn2, _, hltn, hrn, hnl⟩ := hRk.now k hlt
        obtain ⟨gl, cl, hcl, _, hltl, hrl, hll⟩ := hRk.last k hlt
        have en : (D.crashTo l k).now k = D.now k := by simp [RS.crashTo]
        have el : (D.crashTo l k).last k = D.last k := by simp [RS.crashTo]
        rw [en] at hrn hnl
        rw [el] at hrl hll
        have hfn := hRk.fN k
        have hfl := hRk.fL k
        have HqL := Lib.hid hRk.qL
        have HqN := Lib.hid hRk.qN
        have HNL := Lib.hid hRk.NL
        have HLN := Lib.hid hRk.NL.symm
        have HR := Lib.hid hRk
        have Hrn := Lib.hid hrn
        have Hrl := Lib.hid hrl
        have Hnl := Lib.hid hnl
        have Hll := Lib.hid hll
        have Hnew := Lib.hid hnew
        have hsk := Hs.out.keep hOk Hne.out
        have hcnt : cntN D.new k < 1000000 := by omega
        clear e1 en el hRk hrn hrl hnl hll hnew H
        generalize hcc : cntN D.new k = cc at *
        by_cases hpl : cc / 8 < len
        · obtain ⟨pb, po, ha, hpb, hpr⟩ := hsk.2 (by omega)
          have hlp : cc / 8 < l.length := by rw [hsk.1]; exact hpl
          have hpc : wr.cell? ⟨pb, po + cc / 8, none⟩ = some (.int .u8 (l[cc / 8]).toNat) := hpr (cc / 8) _ (by simp [bv, List.getElem?_eq_getElem hlp])
          have epk : pickB l cc = bitB l[cc / 8] cc := by simp [pickB, List.getElem?_eq_getElem hlp]
          have tp : (cc : Int) / 8 < (len : Int) := by omega
          have hvb : (l[cc / 8]).toNat < 256 := (l[cc / 8]).toNat_lt
          generalize l[cc / 8] = v at *
          subst ha
          cases hbit : bitB v cc with
          | true =>
            have Hpk := Lib.hid (show pickB l (cntN D.new k) = true by rw [hcc, epk, hbit])
            have hbit' : (bits BinOp.and IntKind.u8 ((v.toNat : Int) / 2 ^ (cc % 8)) 1 == 1) = true := hbit
            have Hcc := Lib.hid hcc
            clear hbit epk hcc hsk hpr
            go_wp2_with fail
            go_region_held3 (fun W => W.cell? ⟨R.q, 0, none⟩ = some (.slice (some ⟨R.gN, 0, none⟩) D.n R.cN) ∧ W.cell? ⟨R.q, 1, none⟩ = some (.slice (some ⟨R.gL, 0, none⟩) D.n R.cL) ∧ W.cell? ⟨R.gN, k, none⟩ = some (.slice (some ⟨gn, 0, none⟩) 64 cn)) (first | assumption | exact ⟨by assumption, by assumption, by assumption⟩ | go_keep | (rw [cell_far _ HqL.out, cell_far _ HqL.out, cell_far _ HNL.out]; exact ⟨by assumption, by assumption, by assumption⟩))
              (first
                | (refine step_app (D.now k) Hnl.out rfl _ _ rfl _ rfl ?_ _ _ _ rfl ?_ ?_
                   (first | exact IsBlk.made _ _ | exact (IsBlk.made _ _).drew)
                   (simp only [World.rangeAt_drew]; exact World.rangeAt_alloc Hrn.out _)
                   intro g' c' w' hge hr' hlt' hO'
                   have hO2 : Only [] wr w' := ((((Only.refl [] wr).alloc (.cells #[] 5)).drew).trans hO').into (by simp)
                   have hq0 : w'.cell? ⟨R.q, 0, none⟩ = some (.slice (some ⟨R.gN, 0, none⟩) D.n R.cN) := (hO2.cell (p := ⟨R.q, 0, none⟩) HR.out.lq (by simp)).trans c0
                   have hq1 : w'.cell? ⟨R.q, 1, none⟩ = some (.slice (some ⟨R.gL, 0, none⟩) D.n R.cL) := (hO2.cell (p := ⟨R.q, 1, none⟩) HR.out.lq (by simp)).trans c1
                   have hci' := (hO2.cell (p := ⟨R.gN, k, none⟩) HR.out.lN (by simp)).trans hcn2
                   have hcx' := (hO2.cell (p := ⟨R.gL, k, none⟩) HR.out.lL (by simp)).trans hcl
                   have hfx' := (hO2.frozen (p := ⟨R.gL, k, none⟩) HR.out.lL (by simp)).trans hfl))
            have hR2 := HR.out.more hO2
            have hR3 := hR2.putLast k g' c' (D.now k) hlt (by have := HR.out.gq; have := HR.out.lq; omega) hlt' hr' Hnl.out
            have hO3 : Only R.own w (w'.setCell ⟨R.gL, k, none⟩ (.slice (some ⟨g', 0, none⟩) 64 c')) := (hOk.andMore hO2).setCell (by simp [RefP.own]) _
            clear hq0 hq1 hci' hcx' hfx'
            rename_i hheld
            clear hheld
            generalize w'.setCell ⟨R.gL, k, none⟩ (.slice (some ⟨g', 0, none⟩) 64 c') = w5 at *
            clear c0 c1 c2 hnk hcl hcn2 hfl hfn
            have HR5 := Lib.hid hR3
            have c0 := hR3.c0
            have c1 := hR3.c1
            have e5 : (D.crashTo l k).n = D.n := rfl
            rw [e5] at c0 c1
            obtain ⟨gl5, cl5, hcl5, _, hltl5, hrl5, hll5⟩ := hR3.last k hlt
            obtain ⟨gn5, cn5, hcn5, _⟩ := hR3.now k hlt
            have hfn5 := hR3.fN k
            have el5 : (if k = k then D.now k else (D.crashTo l k).last k) = D.now k := if_pos rfl
            have hrl5' : w5.rangeAt gl5 0 (bv (D.now k)) := by rw [← el5]; exact hrl5
            have Hrl5 := Lib.hid hrl5'
            have hOk5 := hO3
            clear e5 hrl5 hll5 el5 hrl5' hR2 hR3 hO2 hO' hr' hOk hO3 hge hlt' HR
            have hOk := hOk5
            clear hOk5
            go_wp2_with fail
            go_region_held3 (fun W => W.cell? ⟨R.q, 0, none⟩ = some (.slice (some ⟨R.gN, 0, none⟩) D.n R.cN) ∧ W.cell? ⟨R.q, 1, none⟩ = some (.slice (some ⟨R.gL, 0, none⟩) D.n R.cL) ∧ W.cell? ⟨R.gL, k, none⟩ = some (.slice (some ⟨gl5, 0, none⟩) 64 cl5)) (first | assumption | exact ⟨by assumption, by assumption, by assumption⟩ | go_keep | (rw [cell_far _ HqN.out, cell_far _ HqN.out, cell_far _ HLN.out]; exact ⟨by assumption, by assumption, by assumption⟩))
              (first
                | (refine step_app (D.now k) Hnl.out rfl _ _ rfl _ rfl ?_ _ _ _ rfl ?_ ?_
                   (first | exact IsBlk.made _ _ | exact (IsBlk.made _ _).drew)
                   (simp only [World.rangeAt_drew]; exact World.rangeAt_alloc Hrl5.out _)
                   intro g' c' w' hge hr' hlt' hO'
                   have hO2 : Only [] w5 w' := ((((Only.refl [] w5).alloc (.cells #[] 5)).drew).trans hO').into (by simp)
                   have hq0 : w'.cell? ⟨R.q, 0, none⟩ = some (.slice (some ⟨R.gN, 0, none⟩) D.n R.cN) := (hO2.cell (p := ⟨R.q, 0, none⟩) HR5.out.lq (by simp)).trans c0
                   have hq1 : w'.cell? ⟨R.q, 1, none⟩ = some (.slice (some ⟨R.gL, 0, none⟩) D.n R.cL) := (hO2.cell (p := ⟨R.q, 1, none⟩) HR5.out.lq (by simp)).trans c1
                   have hci' := (hO2.cell (p := ⟨R.gL, k, none⟩) HR5.out.lL (by simp)).trans hcl5
                   have hcx' := (hO2.cell (p := ⟨R.gN, k, none⟩) HR5.out.lN (by simp)).trans hcn5
                   have hfx' := (hO2.frozen (p := ⟨R.gN, k, none⟩) HR5.out.lN (by simp)).trans hfn5))
            have hR2 := HR5.out.more hO2
            have hR3 := hR2.putNow k g' c' (D.now k) hlt (by have := HR5.out.gq; have := HR5.out.lq; omega) hlt' hr' Hnl.out
            have hO3 : Only R.own w (w'.setCell ⟨R.gN, k, none⟩ (.slice (some ⟨g', 0, none⟩) 64 c')) := (hOk.andMore hO2).setCell (by simp [RefP.own]) _
            clear hq0 hq1 hci' hcx' hfx'
            rename_i hheld
            clear hheld
            generalize w'.setCell ⟨R.gN, k, none⟩ (.slice (some ⟨g', 0, none⟩) 64 c') = w6 at *
            have c2b := hR3.c2
            have e2 : (D.crashTo l k).n = D.n := rfl
            rw [e2] at c2b
            have hnx := hR3.new k hlt
            have hfb := hR3.fB k
            have hR4 := hR3.putNew k false hlt
            have hO4 := hO3.setCell (p := ⟨R.gB, k, none⟩) (by simp [RefP.own]) (.bool false)
            have hR4' : RefAt (w6.setCell ⟨R.gB, k, none⟩ (.bool false)) B R (D.crashTo l (k + 1)) := by rw [← rcrash_keep D l k Hnew.out Hpk.out]; exact hR4
            have HR4 := Lib.hid hR4'
            clear e2 hR2 hR3 hR4 hR4' hO2 hO' HR5 hr' c0 c1 hcl5 hcn5 hfn5 hOk hO3
            go_wp2
            go_roundw
            case rel => exact ⟨k + 1, by omega, by go_num, by rw [Hcs.out]; go_num, HR4.out, hO4⟩
            case measure => simp [intOf]; omega
          | false =>
            have Hpk := Lib.hid (show pickB l (cntN D.new k) = false by rw [hcc, epk, hbit])
            have hbit' : (bits BinOp.and IntKind.u8 ((v.toNat : Int) / 2 ^ (cc % 8)) 1 == 1) = false := hbit
            have Hcc := Lib.hid hcc
            clear hbit epk hcc hsk hpr
            go_wp2_with fail
            go_region_held3 (fun W => W.cell? ⟨R.q, 0, none⟩ = some (.slice (some ⟨R.gN, 0, none⟩) D.n R.cN) ∧ W.cell? ⟨R.q, 1, none⟩ = some (.slice (some ⟨R.gL, 0, none⟩) D.n R.cL) ∧ W.cell? ⟨R.gL, k, none⟩ = some (.slice (some ⟨gl, 0, none⟩) 64 cl)) (first | assumption | exact ⟨by assumption, by assumption, by assumption⟩ | go_keep | (rw [cell_far _ HqN.out, cell_far _ HqN.out, cell_far _ HLN.out]; exact ⟨by assumption, by assumption, by assumption⟩))
              (first
                | (refine step_app (D.last k) Hll.out rfl _ _ rfl _ rfl ?_ _ _ _ rfl ?_ ?_
                   (first | exact IsBlk.made _ _ | exact (IsBlk.made _ _).drew)
                   (simp only [World.rangeAt_drew]; exact World.rangeAt_alloc Hrl.out _)
                   intro g' c' w' hge hr' hlt' hO'
                   have hO2 : Only [] wr w' := ((((Only.refl [] wr).alloc (.cells #[] 5)).drew).trans hO').into (by simp)
                   have hq0 : w'.cell? ⟨R.q, 0, none⟩ = some (.slice (some ⟨R.gN, 0, none⟩) D.n R.cN) := (hO2.cell (p := ⟨R.q, 0, none⟩) HR.out.lq (by simp)).trans c0
                   have hq1 : w'.cell? ⟨R.q, 1, none⟩ = some (.slice (some ⟨R.gL, 0, none⟩) D.n R.cL) := (hO2.cell (p := ⟨R.q, 1, none⟩) HR.out.lq (by simp)).trans c1
                   have hci' := (hO2.cell (p := ⟨R.gL, k, none⟩) HR.out.lL (by simp)).trans hcl
                   have hcx' := (hO2.cell (p := ⟨R.gN, k, none⟩) HR.out.lN (by simp)).trans hcn2
                   have hfx' := (hO2.frozen (p := ⟨R.gN, k, none⟩) HR.out.lN (by simp)).trans hfn))
            have hR2 := HR.out.more hO2
            have hR3 := hR2.putNow k g' c' (D.last k) hlt (by have := HR.out.gq; have := HR.out.lq; omega) hlt' hr' Hll.out
            have hO3 : Only R.own w (w'.setCell ⟨R.gN, k, none⟩ (.slice (some ⟨g', 0, none⟩) 64 c')) := (hOk.andMore hO2).setCell (by simp [RefP.own]) _
            clear hq0 hq1 hci' hcx' hfx'
            rename_i hheld
            clear hheld
            generalize w'.setCell ⟨R.gN, k, none⟩ (.slice (some ⟨g', 0, none⟩) 64 c') = w5 at *
            have c2b := hR3.c2
            have e2 : (D.crashTo l k).n = D.n := rfl
            rw [e2] at c2b
            have hnx := hR3.new k hlt
            have hfb := hR3.fB k
            have hR4 := hR3.putNew k false hlt
            have hO4 := hO3.setCell (p := ⟨R.gB, k, none⟩) (by simp [RefP.own]) (.bool false)
            have hR4' : RefAt (w5.setCell ⟨R.gB, k, none⟩ (.bool false)) B R (D.crashTo l (k + 1)) := by rw [← rcrash_lose D l k Hnew.out Hpk.out]; exact hR4
            have HR4 := Lib.hid hR4'
            clear e2 hR2 hR3 hR4 hR4' hO2 hO' HR hr' c0 c1 c2 hnk hcl hcn2 hfn hOk hO3
            go_wp2
            go_roundw
            case rel => exact ⟨k + 1, by omega, by go_num, by rw [Hcs.out]; go_num, HR4.out, hO4⟩
            case measure => simp [intOf]; omega
        · have epk : pickB l cc = false := by
            have : l[cc / 8]? = none := List.getElem?_eq_none (by rw [hsk.1]; omega)
            simp [pickB, this]
          have Hpk := Lib.hid (show pickB l (cntN D.new k) = false by rw [hcc, epk])
          have tp : decide ((cc : Int) / 8 < (len : Int)) = false := by simp; omega
          have Hcc := Lib.hid hcc
          clear epk hcc hsk
          go_wp2_with fail
          go_region_held3 (fun W => W.cell? ⟨R.q, 0, none⟩ = some (.slice (some ⟨R.gN, 0, none⟩) D.n R.cN) ∧ W.cell? ⟨R.q, 1, none⟩ = some (.slice (some ⟨R.gL, 0, none⟩) D.n R.cL) ∧ W.cell? ⟨R.gL, k, none⟩ = some (.slice (some ⟨gl, 0, none⟩) 64 cl)) (first | assumption | exact ⟨by assumption, by assumption, by assumption⟩ | go_keep | (rw [cell_far _ HqN.out, cell_far _ HqN.out, cell_far _ HLN.out]; exact ⟨by assumption, by assumption, by assumption⟩))
            (first
              | (refine step_app (D.last k) Hll.out rfl _ _ rfl _ rfl ?_ _ _ _ rfl ?_ ?_
                 (first | exact IsBlk.made _ _ | exact (IsBlk.made _ _).drew)
                 (simp only [World.rangeAt_drew]; exact World.rangeAt_alloc Hrl.out _)
                 intro g' c' w' hge hr' hlt' hO'
                 have hO2 : Only [] wr w' := ((((Only.refl [] wr).alloc (.cells #[] 5)).drew).trans hO').into (by simp)
                 have hq0 : w'.cell? ⟨R.q, 0, none⟩ = some (.slice (some ⟨R.gN, 0, none⟩) D.n R.cN) := (hO2.cell (p := ⟨R.q, 0, none⟩) HR.out.lq (by simp)).trans c0
                 have hq1 : w'.cell? ⟨R.q, 1, none⟩ = some (.slice (some ⟨R.gL, 0, none⟩) D.n R.cL) := (hO2.cell (p := ⟨R.q, 1, none⟩) HR.out.lq (by simp)).trans c1
                 have hci' := (hO2.cell (p := ⟨R.gL, k, none⟩) HR.out.lL (by simp)).trans hcl
                 have hcx' := (hO2.cell (p := ⟨R.gN, k, none⟩) HR.out.lN (by simp)).trans hcn2
                 have hfx' := (hO2.frozen (p := ⟨R.gN, k, none⟩) HR.out.lN (by simp)).trans hfn))
          have hR2 := HR.out.more hO2
          have hR3 := hR2.putNow k g' c' (D.last k) hlt (by have := HR.out.gq; have := HR.out.lq; omega) hlt' hr' Hll.out
          have hO3 : Only R.own w (w'.setCell ⟨R.gN, k, none⟩ (.slice (some ⟨g', 0, none⟩) 64 c')) := (hOk.andMore hO2).setCell (by simp [RefP.own]) _
          clear hq0 hq1 hci' hcx' hfx'
          rename_i hheld
          clear hheld
          generalize w'.setCell ⟨R.gN, k, none⟩ (.slice (some ⟨g', 0, none⟩) 64 c') = w5 at *
          have c2b := hR3.c2
          have e2 : (D.crashTo l k).n = D.n := rfl
          rw [e2] at c2b
          have hnx := hR3.new k hlt
          have hfb := hR3.fB k
          have hR4 := hR3.putNew k false hlt
          have hO4 := hO3.setCell (p := ⟨R.gB, k, none⟩) (by simp [RefP.own]) (.bool false)
          have hR4' : RefAt (w5.setCell ⟨R.gB, k, none⟩ (.bool false)) B R (D.crashTo l (k + 1)) := by rw [← rcrash_lose D l k Hnew.out Hpk.out]; exact hR4
          have HR4 := Lib.hid hR4'
          clear e2 hR2 hR3 hR4 hR4' hO2 hO' HR hr' c0 c1 c2 hnk hcl hcn2 hfn hOk hO3
          go_wp2
          go_roundw
          case rel => exact ⟨k + 1, by omega, by go_num, by rw [Hcs.out]; go_num, HR4.out, hO4⟩
          case measure => simp [intOf]; omega
    · have hge : ¬ (k : Int) < (D.n : Int) := by omega
      obtain rfl : k = D.n := by omega
      have c3 := hRk.c3
      have c4 := hRk.c4
      have f3 := hRk.fz 3
      have f4 := hRk.fz 4
      have hO3 := (only_put (p := R.q) (i := 3) wr (.bool false)).setCell (p := ⟨R.q, 4, none⟩) (by simp) (.int .i64 (-1))
      have hb : IsBlk ((wr.setCell ⟨R.q, 3, none⟩ (.bool false)).setCell ⟨R.q, 4, none⟩ (.int .i64 (-1))) R.q (.cells (rcells R { D.crashTo l D.n with dead := false, left := -1, ops := D.ops }) 63) := IsBlk.put (rput3 hRk false) 4 _
      have hR3 := hRk.reblk hO3 false (-1) D.ops hb
      have HR3 := Lib.hid hR3
      have hO4 : Only R.own w _ := hOk.andSame (hO3.into (T := R.own) (by simp [RefP.own]))
      clear hRk hR3 hb H hO3
      go_wp2
      go_end0
      exact ⟨rfl, rcrashed_at HR3.out, hO4⟩

end Go.Proofs.Ytlnmpbfalflbgaa
