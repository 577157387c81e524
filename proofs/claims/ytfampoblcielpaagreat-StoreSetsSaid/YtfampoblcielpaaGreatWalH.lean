/-
  The functions Append and Fresh of the package wal, by contracts.
-/
import Derived.Test.YtfampoblcielpaaGreatWalG
namespace Go.Proofs.YtfampoblcielpaaGreat
set_option maxRecDepth 100000
open Go.RowKit

/-- Append by chapter 3: the log, the disk, whether, the error. -/
def appM (L : LS) (D : DS) (b : List UInt8) : LS × DS × Bool × Int :=
  if L.gen = 0 ∨ L.size < L.next + partsN b.length then (L, D, false, 0)
  else
    let R := wrM D (L.half * L.size + L.next) (secsB L.gen L.seq b)
    (if R.2 = 0 then { L with next := L.next + partsN b.length, seq := L.seq + 1 } else L, R.1, decide (R.2 = 0), R.2)

def otherM (L : LS) : Nat := if L.gen = 0 then 0 else 1 - L.half
/-- Fresh by chapter 3. -/
def freshM (L : LS) (D : DS) (b : List UInt8) : LS × DS × Int :=
  if L.size < partsN b.length ∨ 4294967295 ≤ L.top then (L, D, 4)
  else
    let R := wrM D (otherM L * L.size) (secsB (L.top + 1) 0 b)
    (if R.2 = 0 then { L with top := L.top + 1, gen := L.top + 1, half := otherM L, next := partsN b.length, seq := 1 } else { L with top := L.top + 1 }, R.1, R.2)

def AppTo (w : World) (lp pd bl bm : Nat) (x : LS × DS × Bool × Int) (e : Ending) (w' : World) : Prop :=
  e = .returned (.tuple #[.bool x.2.2.1, .int .i64 x.2.2.2]) ∧ LogAt w' lp pd x.1 ∧ DiskAt w' pd bl bm x.2.1 ∧ Only [lp, pd, bl, bm] w w'
def FreshTo (w : World) (lp pd bl bm : Nat) (x : LS × DS × Int) (e : Ending) (w' : World) : Prop :=
  e = .returned (.int .i64 x.2.2) ∧ LogAt w' lp pd x.1 ∧ DiskAt w' pd bl bm x.2.1 ∧ Only [lp, pd, bl, bm] w w'

set_option maxHeartbeats 2000000 in
theorem append_none (w : World) (lp pd : Nat) (L : LS) (s : Value) (h : LogAt w lp pd L) (hg : L.gen = 0) :
    Calls Tryz.prog 43 #[.pointer (some ⟨lp, 0, none⟩), s] w fun e w' => e = .returned (.tuple #[.bool false, .int .i64 0]) ∧ w = w' := by
  have c3 := h.c3
  rw [hg] at c3
  clear hg
  go_enter Tryz.func43, Tryz.ntmps43
  go_wp2
  go_ret2
  exact ⟨rfl, rfl⟩

set_option maxHeartbeats 4000000 in
theorem append_any (w : World) (lp pd bl bm : Nat) (L : LS) (D : DS) (K : Int) (a : Option Addr) (cap : Nat) (b : List UInt8) (h : LogAt w lp pd L) (hd : DiskAt w pd bl bm D) (hc : D.calm K) (hK : K < 100000) (hs : Src w a b.length b)
    (hl : partsN b.length ≤ 255) (hm : L.gen ≠ 0 → mayB L.gen L.seq = true) (hlp : lp ∉ [pd, bl, bm]) (hh : L.half ≤ 1) (hsz : L.size ≤ 1000) (hnx : L.next ≤ 1000) :
    Calls Tryz.prog 43 #[.pointer (some ⟨lp, 0, none⟩), .slice a b.length cap] w (AppTo w lp pd bl bm (appM L D b)) := by
  by_cases hg : L.gen = 0
  · have e1 : appM L D b = (L, D, false, 0) := by unfold appM; rw [if_pos (.inl hg)]
    rw [e1]
    refine (append_none w lp pd L _ h hg).mono ?_
    rintro e w' ⟨rfl, rfl⟩
    exact ⟨rfl, h, hd, Only.refl _ _⟩
  have hmm := hm hg
  have hg' : (L.gen == 0) = false := by simpa using hg
  have c3 := h.c3
  have c6 := h.c6
  have hlplt := IsBlk.lt h
  have hpdlt := hd.plt
  have hbllt := hd.blt
  have hbmlt := hd.mlt
  have H := Lib.hid h
  have Hd := Lib.hid hd
  have Hc := Lib.hid hc
  have Hs := Lib.hid hs
  have Hm := Lib.hid hmm
  have Hg := Lib.hid hg
  clear h hd hc hs hm hmm hg
  go_enter Tryz.func43, Tryz.ntmps43
  go_wp2_with fail
  go_upto_region 4 with fail
  go_cut [6, 5] (fun s6 s5 wx => ∃ gl gw, s6 = .slice (some ⟨gl, 0, none⟩) (partsN b.length) (partsN b.length) ∧ s5 = .int .i64 0 ∧ (∀ i, i < partsN b.length → wx.rangeAt gl (i * 5) (partC L.gen L.seq (i : Nat) (partsN b.length : Nat) (some ⟨gw, i * 52, none⟩) 52 52)) ∧
    IsBlk wx gw (.cells (bv (wholeB b)).toArray 5) ∧ w.heap.size ≤ gw ∧ gw < gl ∧ gl < wx.heap.size ∧ Only [] w wx)
  case first =>
    go_region_held3 (fun W => W.cell? ⟨lp, 3, none⟩ = some (.int .i64 L.gen) ∧ W.cell? ⟨lp, 6, none⟩ = some (.int .i64 L.seq)) (first | exact ⟨c3, c6⟩ | assumption)
      (first
        | (go_at_call 35
           refine (cut_ok _ L.gen L.seq a cap b (Hs.out.more (Only.refl [] w).drew) Hm.out hl).mono ?_
           rintro e w1 ⟨gl, gw, rfl, hp1, hb1, hgw1, hgl1, hgl2, hO1⟩
           have hO1' := ((Only.refl [] w).drew).plus hO1
           have hS1 : w1.cell? ⟨lp, 3, none⟩ = some (.int .i64 L.gen) ∧ w1.cell? ⟨lp, 6, none⟩ = some (.int .i64 L.seq) := ⟨(H.out.more hO1').c3, (H.out.more hO1').c6⟩))
    all_goals
      go_wp2_with fail
      go_meet
      exact ⟨gl, gw, rfl, rfl, hp1, hb1, hgw1, hgl1, hgl2, hO1'⟩
  case rest =>
    obtain ⟨gl, gw, rfl, rfl, hp1, hb1, hgw1, hgl1, hgl2, hO1⟩ := hcut
    have hL1 := H.out.more hO1
    have hD1 := Hd.out.more hO1
    have d1 := hL1.c1
    have d5 := hL1.c5
    have HL1 := Lib.hid hL1
    have HD1 := Lib.hid hD1
    have Hp1 := Lib.hid hp1
    have Hb1 := Lib.hid hb1
    have HO1 := Lib.hid hO1
    have hpos := partsN_pos b.length
    clear c3 c6 hL1 hD1 hp1 hb1 hO1
    have happ : Hid (appM L D b = if L.size < L.next + partsN b.length then (L, D, false, 0) else
        (if (wrM D (L.half * L.size + L.next) (secsB L.gen L.seq b)).2 = 0 then { L with next := L.next + partsN b.length, seq := L.seq + 1 } else L, (wrM D (L.half * L.size + L.next) (secsB L.gen L.seq b)).1, decide ((wrM D (L.half * L.size + L.next) (secsB L.gen L.seq b)).2 = 0), (wrM D (L.half * L.size + L.next) (secsB L.gen L.seq b)).2)) := Lib.hid (by
      unfold appM
      by_cases hx : L.size < L.next + partsN b.length
      · rw [if_pos (.inr hx), if_pos hx]
      · rw [if_neg (fun hc => hc.elim Hg.out hx), if_neg hx])
    by_cases hfit : L.size < L.next + partsN b.length
    · have hfi : (L.size : Int) - (L.next : Int) < (partsN b.length : Int) := by omega
      have HA := Lib.hid (happ.out.trans (if_pos hfit))
      clear happ hfit
      go_wp2_with fail
      go_quiet (fail)
      go_wp2
      go_ret2
      rw [HA.out]
      exact ⟨rfl, HL1.out.more ((Only.refl [] wc).drewN _), HD1.out.more ((Only.refl [] wc).drewN _), (HO1.out.plus ((Only.refl [] wc).drewN _)).into (by simp)⟩
    · have hfi : ¬ ((L.size : Int) - (L.next : Int) < (partsN b.length : Int)) := by omega
      have HA := Lib.hid (happ.out.trans (if_neg hfit))
      clear happ hfit
      go_wp2_with fail
      go_quiet (fail)
      have hdn := (Only.refl [] wc).drewN nq
      have hsm : ∀ m, Only [] wc ((wc.drewN m).drew) := fun m => ((Only.refl [] wc).drewN m).drew
      go_wp2_with fail
      have hL2 := HL1.out.more (hsm nq)
      have HD2 := Lib.hid (HD1.out.more (hsm nq))
      have HO2 := Lib.hid (HO1.out.plus (hsm nq))
      have Hb2 := Lib.hid (Hb1.out.only (hsm nq) (by simp))
      have Hp2 : Hid (∀ i, i < partsN b.length → ((wc.drewN nq).drew).rangeAt gl (i * 5) (partC L.gen L.seq (i : Nat) (partsN b.length : Nat) (some ⟨gw, i * 52, none⟩) 52 52)) := Lib.hid (fun i hi => rangeAt_only (Hp1.out i hi) (hsm nq) hgl2 (by simp))
      have hgl3 : gl < ((wc.drewN nq).drew).heap.size := hgl2
      have q4 := hL2.c4
      have q5 := hL2.c5
      have HL2 := Lib.hid hL2
      clear hL2 HL1 HD1 HO1 Hb1 Hp1 hdn hsm hgl2 d1 d5
      refine still_tail 10 (by kernel_rfl) (by kernel_rfl) ?_
      simp only [List.take_succ_cons, List.take_zero, List.drop_succ_cons, List.drop_zero]
      generalize (wc.drewN nq).drew = W at *
      iterate 10 still_step
      refine wpStill_nil ?_
      go_wp2_with fail
      refine (write_parts _ lp pd bl bm gl gw L D K L.half L.next L.gen L.seq b HL2.out HD2.out Hc.out hK Hm.out hl Hp2.out Hb2.out hgl3 (by simp; omega) (by simp; omega) hlp hh hsz hnx).mono ?_
      generalize hR : wrM D (L.half * L.size + L.next) (secsB L.gen L.seq b) = R at *
      clear hR
      obtain ⟨D', ec⟩ := R
      rintro e w3 ⟨rfl, hD3, hL3, hO3⟩
      simp only at hD3 hL3 HA
      have HD3 := Lib.hid hD3
      have HL3 := Lib.hid hL3
      have HO3 := Lib.hid (((HO2.out.into (T := [lp, pd, bl, bm]) (by simp))).same hO3)
      clear hD3 hL3 hO3 q4 q5
      by_cases hec : ec = 0
      · subst hec
        go_wp2
        go_ret2
        rw [HA.out]
        exact ⟨rfl, HL3.out, HD3.out, HO3.out⟩
      · have hecb : (ec == 0) = false := by simpa using hec
        have hed : decide (ec = 0) = false := by simpa using hec
        go_wp2
        go_ret2
        rw [HA.out]
        exact ⟨by rw [hed]; rfl, HL3.out, HD3.out, HO3.out⟩

set_option maxHeartbeats 4000000 in
theorem fresh_any (w : World) (lp pd bl bm : Nat) (L : LS) (D : DS) (K : Int) (a : Option Addr) (cap : Nat) (b : List UInt8) (h : LogAt w lp pd L) (hd : DiskAt w pd bl bm D) (hc : D.calm K) (hK : K < 100000) (hs : Src w a b.length b)
    (hl : partsN b.length ≤ 255) (hlp : lp ∉ [pd, bl, bm]) (hh : L.half ≤ 1) (hsz : L.size ≤ 1000) (ht0 : 0 ≤ L.top) (ht1 : L.top ≤ 4294967295) :
    Calls Tryz.prog 20 #[.pointer (some ⟨lp, 0, none⟩), .slice a b.length cap] w (FreshTo w lp pd bl bm (freshM L D b)) := by
  have hlplt := IsBlk.lt h
  have hpdlt := hd.plt
  have hbllt := hd.blt
  have hbmlt := hd.mlt
  have H := Lib.hid h
  have Hd := Lib.hid hd
  have Hc := Lib.hid hc
  have Hs := Lib.hid hs
  clear h hd hc hs
  go_enter Tryz.func20, Tryz.ntmps20
  go_wp2_with fail
  refine (fits_any _ lp pd L a cap b H.out Hs.out hl).mono ?_
  rintro e w1 ⟨rfl, hO1⟩
  have hL1 := H.out.more hO1
  have HL1 := Lib.hid hL1
  have HD1 := Lib.hid (Hd.out.more hO1)
  have HO1 := Lib.hid hO1
  have Hs1 := Lib.hid (Hs.out.more hO1)
  have hsz1 := hO1.size
  have c2 := hL1.c2
  clear hL1 hO1
  by_cases hfit : L.size < partsN b.length
  · have hfd : decide (partsN b.length ≤ L.size) = false := by simp; omega
    have HA : Hid (freshM L D b = (L, D, 4)) := Lib.hid (by unfold freshM; rw [if_pos (.inl hfit)])
    clear hfit
    rw [hfd]
    go_wp2
    go_ret
    rw [HA.out]
    exact ⟨rfl, HL1.out, HD1.out, HO1.out.into (by simp)⟩
  have hfd : decide (partsN b.length ≤ L.size) = true := by simp; omega
  rw [hfd]
  clear hfd
  by_cases htop : 4294967295 ≤ L.top
  · have HA : Hid (freshM L D b = (L, D, 4)) := Lib.hid (by unfold freshM; rw [if_pos (.inr htop)])
    have hmb : mayB (L.top + 1) 0 = false := by
      cases hx : mayB (L.top + 1) 0 with
      | false => rfl
      | true => have := (mayB_iff.1 hx).2.1; omega
    go_wp2_with fail
    refine (cut_bad _ (L.top + 1) 0 a b.length cap hmb).mono ?_
    rintro e w' ⟨rfl, rfl⟩
    go_wp2
    go_ret
    rw [HA.out]
    exact ⟨rfl, HL1.out, HD1.out, HO1.out.into (by simp)⟩
  have hmb : mayB (L.top + 1) 0 = true := mayB_iff.2 ⟨by omega, by omega, by omega, by omega⟩
  have Hmb := Lib.hid hmb
  have HA : Hid (freshM L D b = (if (wrM D (otherM L * L.size) (secsB (L.top + 1) 0 b)).2 = 0 then { L with top := L.top + 1, gen := L.top + 1, half := otherM L, next := partsN b.length, seq := 1 } else { L with top := L.top + 1 }, (wrM D (otherM L * L.size) (secsB (L.top + 1) 0 b)).1, (wrM D (otherM L * L.size) (secsB (L.top + 1) 0 b)).2)) := Lib.hid (by
    unfold freshM; rw [if_neg (fun hc => hc.elim hfit htop)])
  clear hmb hfit
  go_wp2_with fail
  refine (cut_ok _ (L.top + 1) 0 a cap b Hs1.out Hmb.out hl).mono ?_
  rintro e w2 ⟨gl, gw, rfl, hp2, hb2, hgw2, hgl2, hglw, hO2⟩
  have hL2 := HL1.out.more hO2
  have HL2 := Lib.hid hL2
  have HD2 := Lib.hid (HD1.out.more hO2)
  have HO2 := Lib.hid (HO1.out.plus hO2)
  have Hp2 := Lib.hid hp2
  have Hb2 := Lib.hid hb2
  have e2 := hL2.c2
  have f2 := hL2.fz 2
  clear hL2 hO2 hp2 hb2 c2
  go_wp2_with fail
  have hOx : Only [lp] w2 (w2.setCell ⟨lp, 2, none⟩ (.int .i64 (L.top + 1))) := only_put w2 _
  have HL3 := Lib.hid (HL2.out.put2 (L.top + 1))
  have HD3 := Lib.hid (HD2.out.keep hOx (by simp at hlp ⊢; exact Ne.symm hlp.1) (by simp at hlp ⊢; exact Ne.symm hlp.2.1) (by simp at hlp ⊢; exact Ne.symm hlp.2.2))
  have HO3 := Lib.hid (HO2.out.then hOx [lp] (by simp) (by simp))
  have Hb3 := Lib.hid (Hb2.out.only hOx (by simp; omega))
  have Hp3 : Hid (∀ i, i < partsN b.length → (w2.setCell ⟨lp, 2, none⟩ (.int .i64 (L.top + 1))).rangeAt gl (i * 5) (partC (L.top + 1) 0 (i : Nat) (partsN b.length : Nat) (some ⟨gw, i * 52, none⟩) 52 52)) := Lib.hid (fun i hi => rangeAt_only (Hp2.out i hi) hOx hglw (by simp; omega))
  have hgl3 : gl < (w2.setCell ⟨lp, 2, none⟩ (.int .i64 (L.top + 1))).heap.size := by simp; exact hglw
  generalize w2.setCell ⟨lp, 2, none⟩ (.int .i64 (L.top + 1)) = W at *
  clear HL2 HD2 HO2 Hb2 Hp2 e2 f2 hOx
  refine (other_any _ lp pd _ HL3.out hh).mono ?_
  rintro e w' ⟨rfl, rfl⟩
  have hoth : (if ({ L with top := L.top + 1 } : LS).gen = 0 then 0 else 1 - ({ L with top := L.top + 1 } : LS).half) = otherM L := rfl
  rw [hoth]
  have ho1 : otherM L ≤ 1 := by unfold otherM; split <;> omega
  clear hoth
  generalize otherM L = ot at *
  go_wp2_with fail
  refine (write_parts _ lp pd bl bm gl gw { L with top := L.top + 1 } D K ot 0 (L.top + 1) 0 b HL3.out HD3.out Hc.out hK Hmb.out hl Hp3.out Hb3.out hgl3 (by simp; omega) (by simp; omega) hlp ho1 hsz (by omega)).mono ?_
  simp only [Nat.add_zero, Nat.zero_add]
  generalize hR : wrM D (ot * L.size) (secsB (L.top + 1) 0 b) = R at *
  clear hR
  obtain ⟨D', ec⟩ := R
  rintro e w3 ⟨rfl, hD4, hL4, hO4⟩
  simp only at hD4 hL4 HA
  have HD4 := Lib.hid hD4
  have HL4 := Lib.hid hL4
  have HO4 := Lib.hid (((HO3.out.into (T := [lp, pd, bl, bm]) (by simp))).same hO4)
  clear hD4 hL4 hO4
  go_wp2
  go_ret
  rw [HA.out]
  refine ⟨rfl, ?_, HD4.out, HO4.out⟩
  have := HL4.out
  by_cases hec : ec = 0
  · simp only [hec, if_true] at this ⊢; exact this
  · simp only [hec, if_false] at this ⊢; exact this

end Go.Proofs.YtfampoblcielpaaGreat
