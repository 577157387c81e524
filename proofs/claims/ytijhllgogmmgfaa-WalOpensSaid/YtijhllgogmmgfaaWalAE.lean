/-
  The walk of the law WalOpens: it returns true, whatever its arguments are, and turns nothing that was there.
-/
import Derived.Test.YtijhllgogmmgfaaWalAD
namespace Go.Proofs.Ytijhllgogmmgfaa
set_option maxRecDepth 100000
set_option linter.unusedVariables false
open Go.RowKit

theorem follow_len (ps : List PartM) (gen : Int) : ∀ (f next : Nat) (seq : Int), (followM ps gen f next seq).1.length ≤ f
  | 0, next, seq => Nat.le_refl _
  | f + 1, next, seq => by
    unfold followM
    cases recM (ps.drop next) gen seq with
    | none => exact Nat.zero_le _
    | some x =>
      obtain ⟨b, k⟩ := x
      have := follow_len ps gen f (next + k) (seq + 1)
      simp only [List.length_cons]; omega
theorem found_len (S : Secs) (size : Nat) : (foundM S size).1.length ≤ size + 1 := by
  unfold foundM
  simp only
  split
  · exact Nat.zero_le _
  · exact follow_len _ _ _ _ _
theorem LogAt.nb {w : World} {lp pd : Nat} {L : LS} (h : LogAt w lp pd L) : NB w lp := fun m e => by
  rw [h.c0] at e; cases e

/-- Both logs, alike, on both disks. -/
structure Logs (w : World) (lp lq p bl bm B : Nat) (R : RefP) (L : LS) (D : DS) (K : Int) : Prop where
  pair : PairAt w p bl bm B R D K
  log : LogAt w lp p L
  rlog : RLogAt w lq R.q L
  n1 : lp ∉ R.own
  n2 : lq ∉ R.own
  n3 : lp ≠ lq
  n4 : lp ∉ [p, bl, bm]
  n5 : lq ∉ [p, bl, bm]
structure Mid (w : World) (lp lq p bl bm B : Nat) (R : RefP) (L L1 : LS) (D D1 : DS) : Prop where
  disk : DiskAt w p bl bm D1
  log : LogAt w lp p L1
  ref : RefAt w B R (refOf D)
  rlog : RLogAt w lq R.q L
theorem Logs.more {w w' : World} {lp lq p bl bm B : Nat} {R : RefP} {L : LS} {D : DS} {K : Int} (h : Logs w lp lq p bl bm B R L D K) (hO : Only [] w w') : Logs w' lp lq p bl bm B R L D K :=
  ⟨h.pair.more hO, h.log.more hO, h.rlog.more hO, h.n1, h.n2, h.n3, h.n4, h.n5⟩
theorem Logs.mid {w w' : World} {lp lq p bl bm B : Nat} {R : RefP} {L L1 : LS} {D D1 : DS} {K : Int} (h : Logs w lp lq p bl bm B R L D K) (h1 : LogAt w' lp p L1) (h2 : DiskAt w' p bl bm D1) (hO : Only [lp, p, bl, bm] w w') : Mid w' lp lq p bl bm B R L L1 D D1 := by
  refine ⟨h2, h1, h.pair.ref.keep' hO (fun k hk => ?_), h.rlog.keep hO ?_⟩
  · simp only [List.mem_cons, List.not_mem_nil, or_false] at hk
    rcases hk with rfl | rfl | rfl | rfl
    · exact .inr ⟨h.n1, h.log.nb⟩
    · exact .inl h.pair.pB
    · exact .inl h.pair.lB
    · exact .inl h.pair.mB
  · have := h.n5; have := h.n3; simp at *; omega
theorem Mid.done {w w' : World} {lp lq p bl bm B : Nat} {R : RefP} {L L1 : LS} {D D1 : DS} {K K0 : Int} {w0 : World} {L0 : LS} {D0 : DS} (h : Mid w lp lq p bl bm B R L L1 D D1) (hl : Logs w0 lp lq p bl bm B R L0 D0 K0) (h3 : RLogAt w' lq R.q L1) (h4 : RefAt w' B R (refOf D1)) (hO : Only (lq :: R.own) w w') (hc : D1.calm K) : Logs w' lp lq p bl bm B R L1 D1 K := by
  have g := own_ge hl.pair.ref
  have q1 := hl.pair.pB; have q2 := hl.pair.lB; have q3 := hl.pair.mB
  have n5 := hl.n5
  simp only [List.mem_cons, List.not_mem_nil, or_false, not_or] at n5
  have nn : ∀ k, k < B → k ≠ lq → k ∉ lq :: R.own := fun k hk hq hm => by
    rcases List.mem_cons.1 hm with e | e
    · exact hq e
    · have := g k e; omega
  refine ⟨⟨h.disk.keep hO (nn _ q1 (fun e => n5.1 e.symm)) (nn _ q2 (fun e => n5.2.1 e.symm)) (nn _ q3 (fun e => n5.2.2 e.symm)), h4, hc, q1, q2, q3⟩, h.log.keep hO (fun hm => ?_), h3, hl.n1, hl.n2, hl.n3, hl.n4, hl.n5⟩
  rcases List.mem_cons.1 hm with e | e
  · exact hl.n3 e
  · exact hl.n1 e
theorem Mid.more {w w' : World} {lp lq p bl bm B : Nat} {R : RefP} {L L1 : LS} {D D1 : DS} (h : Mid w lp lq p bl bm B R L L1 D D1) (hO : Only [] w w') : Mid w' lp lq p bl bm B R L L1 D D1 :=
  ⟨h.disk.more hO, h.log.more hO, h.ref.more hO, h.rlog.more hO⟩

theorem rappend_any (w : World) (B lp : Nat) (R : RefP) (L : LS) (D : DS) (K : Int) (a : Option Addr) (cap : Nat) (b : List UInt8) (h : RLogAt w lp R.q L) (hd : RefAt w B R (refOf D)) (hn : D.n = 2 * L.size) (hc : D.calm K) (hK : K < 100000) (hs : Src w a b.length b) (hl : partsN b.length ≤ 255) (hbl : b.length ≤ 100000) (hlp : lp ∉ R.own) (ho : LSok L) :
    Calls Try.prog 15 #[.pointer (some ⟨lp, 0, none⟩), .slice a b.length cap] w (RAppTo w B lp R (appM L D b)) := by
  by_cases hg : L.gen = 0
  · exact rappend_none w B lp R L D a cap b h hd hs hl hbl hg ho.seq0 ho.seq1
  · exact rappend_some w B lp R L D K a cap b h hd hn hc hK hs hl hbl (ho.may hg) hlp ho.half ho.next

set_option maxHeartbeats 8000000 in
theorem opens_walk (s : Int) (a : Option Addr) (len cap : Nat) (L : List CallR) (wa : Option Addr) (wl wc : Nat) (wb : List UInt8) (w : World) (h : CallsAt w a len L) (hs : Src w wa wl wb) :
    Calls Try.prog 3 #[.int .i64 s, .slice a len cap, .slice wa wl wc] w fun e w' => e = .returned (.bool true) ∧ Only [] w w' := by
  have H := Lib.hid h
  have Hs := Lib.hid hs
  obtain rfl := hs.1
  clear h hs
  go_enter Try.func3, Try.ntmps3
  go_wp2_with fail
  refine (known_any _).mono ?_
  rintro e w0 ⟨rfl, hO0⟩
  have hz0 := hO0.size
  have HO0 := Lib.hid hO0
  clear hO0
  go_wp2_with fail
  refine (few_any _ a len cap L ?hcall).mono ?_
  case hcall =>
    obtain ⟨h1, h2, h3⟩ := H.out
    refine ⟨h1, h2, fun hp => ?_⟩
    obtain ⟨b, o, e, hb, hc⟩ := h3 hp
    exact ⟨b, o, e, by omega, fun i c hi => (hc i c hi).keep HO0.out w.heap.size hb (Nat.le_refl _) (fun hp x y e => (hc i c hi).src.lt hp e) (by simp)⟩
  rintro e w' ⟨fb, rfl, rfl, hfew⟩
  cases fb with
  | false =>
    go_wp2
    go_ret
    exact ⟨rfl, HO0.out⟩
  | true =>
    have Hfew := Lib.hid (hfew rfl)
    clear hfew
    by_cases h300 : 300 < wb.length
    · have h300i : (300 : Int) < (wb.length : Int) := by omega
      go_wp2
      go_ret
      exact ⟨rfl, HO0.out⟩
    have h300i : ¬ (300 : Int) < (wb.length : Int) := by omega
    have hpn : partsN wb.length ≤ 255 := by unfold partsN; omega
    go_wp2_with fail
    refine (both_any _ s).mono ?_
    rintro e w1 ⟨pd, bl, bm, R, B, M, rfl, hD, hRf, hMs, hM4, hM16, hp1, hp2, hp3, hB0, hpB, hlB, hmB, hO1⟩
    have HO1 := Lib.hid (HO0.out.plus hO1)
    have HP1 : Hid (PairAt w1 pd bl bm B R (newDS (2 * M)) 0) := Lib.hid ⟨hD, hRf, ⟨by show (-1 : Int) ≤ -1; omega, by show (-1 : Int) < 1000; omega, by show (0 : Int) ≤ 0; omega, by show (0 : Int) ≤ 0; omega⟩, hpB, hlB, hmB⟩
    have hge : ∀ k ∈ [pd, bl, bm] ++ R.own, w.heap.size ≤ k := fun k hk => by
      rcases List.mem_append.1 hk with h1 | h1
      · simp at h1; omega
      · have := own_ge hRf k h1; omega
    have Hge := Lib.hid hge
    clear hge hD hRf hO1 hMs
    go_wp2_with fail
    refine (laying_any w _ pd bl bm B R (newDS (2 * M)) 0 a len cap L HP1.out (by omega) (by show 2 * M ≤ 32; omega) (by show 8 ≤ 2 * M; omega) rfl rfl H.out (HO1.out.into (by simp)) Hge.out Hfew.out).mono ?_
    rintro e w2 ⟨rfl, D, hP2, hDn, hDd, hDf, hO2⟩
    have hDn' : D.n = 2 * M := hDn
    have HP2 := Lib.hid hP2
    have HO2 := Lib.hid hO2
    have HDn := Lib.hid hDn'
    have HDd := Lib.hid hDd
    have hsz2 := hO2.size
    clear hP2 hDn hDn' hDd hDf hO2
    go_wp2_with fail
    refine (open_any _ pd bl bm D HP2.out.disk HDd.out).mono ?_
    have e2 : D.n / 2 = M := by have := HDn.out; omega
    unfold OpenTo
    rw [e2]
    rintro e w3 ⟨lp, ra, rc, rfl, hL3, hD3, hr3, hlp3, hO3⟩
    have HL3 := Lib.hid hL3
    have Hr3 := Lib.hid hr3
    have HO3 := Lib.hid hO3
    have hlt3 := IsBlk.lt hL3
    have hs3 := hO3.size
    have HP3 := Lib.hid (HP2.out.more hO3)
    clear hL3 hD3 hr3 hO3 e2
    go_wp2_with fail
    refine (ropen_any _ B R (refOf D) M HP3.out.ref HDd.out HDn.out).mono ?_
    have er : (refOf D).now = D.now := rfl
    unfold ROpenTo
    rw [er]
    clear er
    rintro e w4 ⟨lq, sa, sc, rfl, hL4, hr4, hlq4, hO4⟩
    have hlt4 := IsBlk.lt hL4
    have hOK := openL_ok D.now M (by omega)
    have hfl := found_len D.now M
    have HG : Hid (Logs w4 lp lq pd bl bm B R (openL D.now M) D 5000) := Lib.hid (by
      have q := own_lt HP2.out.ref
      have q1 := HP2.out.disk.plt; have q2 := HP2.out.disk.blt; have q3 := HP2.out.disk.mlt
      exact ⟨HP3.out.more hO4, HL3.out.more hO4, hL4, fun hm => by have := q _ hm; omega, fun hm => by have := q _ hm; omega, by omega, by simp; omega, by simp; omega⟩)
    have Hr3' := Lib.hid (Hr3.out.more hO4)
    have Hr4 := Lib.hid hr4
    have HO4 := Lib.hid (HO2.out.andMore (HO3.out.plus hO4))
    have Hs4 : Hid (Src w4 wa wb.length wb) := Lib.hid (Hs.out.keep HO4.out (fun hp b o e hm => by have := Hs.out.lt hp e; have := Hge.out b hm; omega))
    have HOK := Lib.hid hOK
    have hws : w.heap.size ≤ w2.heap.size := hsz2
    clear hL4 hr4 hO4 hOK HL3 Hr3 HO3 HP3
    generalize foundM D.now M = fm at *
    go_wp2_with fail
    refine (rows_any _ ra sa rc sc fm.1 fm.1 Hr3'.out Hr4.out (by omega)).mono ?_
    rintro e w5 ⟨rfl, hO5⟩
    rw [decide_eq_true (rfl : fm.1 = fm.1)]
    have HG5 := Lib.hid (HG.out.more hO5)
    have HO5 := Lib.hid (HO4.out.andMore hO5)
    have Hs5 := Lib.hid (Hs4.out.more hO5)
    clear hO5 HG HO4 Hs4 Hr3' Hr4
    go_wp2_with fail
    refine (state_same _ lp pd lq R.q _ HG5.out.log HG5.out.rlog).mono ?_
    rintro e w6 ⟨rfl, hO6⟩
    have HG6 := Lib.hid (HG5.out.more hO6)
    have HO6 := Lib.hid (HO5.out.andMore hO6)
    have Hs6 := Lib.hid (Hs5.out.more hO6)
    clear hO6 HG5 HO5 Hs5
    go_wp2_with fail
    refine (ops_any _ pd bl _ bm _ _ _ HG6.out.pair.disk.blk).mono ?_
    rintro e w' ⟨rfl, rfl⟩
    go_wp2_with fail
    refine (pops _ B R D HG6.out.pair.ref).mono ?_
    rintro e w' ⟨rfl, rfl⟩
    have hsz : (openL D.now M).size = M := rfl
    have hnn : Hid (D.n = 2 * (openL D.now M).size) := HDn
    generalize openL D.now M = L0 at *
    have hoA : Hid (0 < wb.length → ∀ x y, wa = some ⟨x, y, none⟩ → x < w.heap.size) := Lib.hid (fun hp x y e => Hs.out.lt hp e)
    go_wp2_with fail
    have Happ := Lib.hid (app_ok (D := D) (b := wb) HOK.out)
    have Hapd := Lib.hid (app_disk (L := L0) (b := wb) HG6.out.pair.calm hpn)
    refine (append_any _ lp pd bl bm L0 D 5000 wa wc wb HG6.out.log HG6.out.pair.disk HG6.out.pair.calm (by omega) Hs6.out hpn HOK.out.may HG6.out.n4 HOK.out.half (by omega) (by have := HOK.out.next; omega)).mono ?_
    have Hrapp := fun (W : World) (h : RLogAt W lq R.q L0) (hd : RefAt W B R (refOf D)) (hs : Src W wa wb.length wb) => rappend_any W B lq R L0 D 5000 wa wc wb h hd hnn.out HG6.out.pair.calm (by omega) hs hpn (by omega) HG6.out.n2 HOK.out
    generalize hx : appM L0 D wb = x at *
    clear hx
    obtain ⟨L1, D1, p1, g1⟩ := x
    simp only at Happ Hapd
    rintro e w7 ⟨rfl, hL7, hD7, hO7⟩
    have HM7 := Lib.hid (HG6.out.mid hL7 hD7 hO7)
    have HO7 := Lib.hid (HO6.out.trans hO7)
    have hnw : ∀ k ∈ [lp, pd, bl, bm], w.heap.size ≤ k := fun k hk => by
      rcases List.mem_cons.1 hk with rfl | h1
      · omega
      · exact Hge.out k (List.mem_append_left _ h1)
    have Hs7 := Lib.hid (Hs6.out.keep hO7 (fun hp b o e hm => by have := hoA.out hp b o e; have := hnw b hm; omega))
    have Hnw := Lib.hid hnw
    clear hL7 hD7 hO7 hnw
    go_wp2_with fail
    refine (Hrapp _ HM7.out.rlog HM7.out.ref Hs7.out).mono ?_
    rintro e w8 ⟨rfl, hL8, hR8, hO8⟩
    have HG8 := Lib.hid (HM7.out.done HG6.out hL8 hR8 hO8 Hapd.out.1)
    have hnq : ∀ k ∈ lq :: R.own, w.heap.size ≤ k := fun k hk => by
      rcases List.mem_cons.1 hk with rfl | h1
      · omega
      · exact Hge.out k (List.mem_append_right _ h1)
    have Hnq := Lib.hid hnq
    have HO8 := Lib.hid (HO7.out.trans hO8)
    have Hs8 := Lib.hid (Hs7.out.keep hO8 (fun hp b o e hm => by have := hoA.out hp b o e; have := hnq b hm; omega))
    clear hL8 hR8 hO8 hnq Hrapp HG6 HM7
    have hn1 : Hid (D1.n = 2 * L1.size) := Lib.hid (by have h1 := Hapd.out.2; have h2 := Happ.out.2.2.2; rw [h1, h2]; exact hnn.out)
    have hs1000 : L1.size ≤ 1000 := by have := Happ.out.2.2.2; omega
    go_wp2_with fail
    have Hfrd := Lib.hid (fresh_disk (L := L1) (b := wb) HG8.out.pair.calm hpn)
    refine (fresh_any _ lp pd bl bm L1 D1 _ wa wc wb HG8.out.log HG8.out.pair.disk HG8.out.pair.calm (by omega) Hs8.out hpn HG8.out.n4 Happ.out.1 hs1000 Happ.out.2.1 Happ.out.2.2.1).mono ?_
    have Hrfr := fun (W : World) (h : RLogAt W lq R.q L1) (hd : RefAt W B R (refOf D1)) (hs : Src W wa wb.length wb) => rfresh_any W B lq R L1 D1 _ wa wc wb h hd hn1.out HG8.out.pair.calm (by omega) hs hpn (by omega) HG8.out.n2 (fun hp x y e => by have := hoA.out hp x y e; omega) Happ.out.1 Happ.out.2.1 Happ.out.2.2.1
    generalize hx : freshM L1 D1 wb = x at *
    clear hx
    obtain ⟨L2, D2, g2⟩ := x
    simp only at Hfrd
    rintro e w9 ⟨rfl, hL9, hD9, hO9⟩
    have HM9 := Lib.hid (HG8.out.mid hL9 hD9 hO9)
    have HO9 := Lib.hid (HO8.out.trans hO9)
    have Hs9 := Lib.hid (Hs8.out.keep hO9 (fun hp b o e hm => by have := hoA.out hp b o e; have := Hnw.out b hm; omega))
    clear hL9 hD9 hO9
    go_wp2_with fail
    refine (Hrfr _ HM9.out.rlog HM9.out.ref Hs9.out).mono ?_
    rintro e w10 ⟨rfl, hL10, hR10, hO10⟩
    have HG10 := Lib.hid (HM9.out.done HG8.out hL10 hR10 hO10 Hfrd.out.1)
    have HO10 := Lib.hid (HO9.out.trans hO10)
    clear hL10 hR10 hO10 Hrfr HM9
    go_wp2_with fail
    refine (state_same _ lp pd lq R.q _ HG10.out.log HG10.out.rlog).mono ?_
    rintro e w11 ⟨rfl, hO11⟩
    have HG11 := Lib.hid (HG10.out.more hO11)
    have HO11 := Lib.hid (HO10.out.andMore hO11)
    clear hO11
    go_wp2_with fail
    refine (same_any _ pd bl bm B R D2 _ HG11.out.pair).mono ?_
    rintro e w12 ⟨rfl, hO12⟩
    have HO12 := Lib.hid (HO11.out.andMore hO12)
    clear hO12
    go_wp2
    go_ret
    refine ⟨rfl, HO12.out.into (fun j hj => .inr ?_)⟩
    by_cases ho : j ∈ R.own
    · exact Hge.out j (List.mem_append_right _ ho)
    · have q1 := Hnw.out j
      have q2 := Hnq.out j
      have q3 := Hge.out j
      simp only [List.mem_append, List.mem_cons, List.not_mem_nil, or_false, ho, false_or] at hj q1 q2 q3
      omega

end Go.Proofs.Ytijhllgogmmgfaa
