/-
  The document's own log (package deadboltref3): State, Fits, write, by contracts.
-/
import Derived.Test.YtijhllgogmmgfaaWalX
import Derived.Test.YtijhllgogmmgfaaSectX
namespace Go.Proofs.Ytijhllgogmmgfaa
set_option maxRecDepth 100000
set_option linter.unusedVariables false
open Go.RowKit

/-- Parts in a row in newer memory, and their bytes. -/
def PartsN (w : World) (B g : Nat) (ps : List PartM) : Prop :=
  B ≤ g ∧ g < w.heap.size ∧ ∀ i p, ps[i]? = some p → ∃ gi ci, w.rangeAt g (i * 5) (partC p.g p.r p.n p.o (some ⟨gi, 0, none⟩) p.d.length ci) ∧ Src w (some ⟨gi, 0, none⟩) p.d.length p.d ∧ B ≤ gi
theorem PartsN.keep {w w' : World} {B g : Nat} {ps : List PartM} {S : List Nat} (h : PartsN w B g ps) (hO : Only S w w') (hS : ∀ k ∈ S, k < B) : PartsN w' B g ps := by
  obtain ⟨h1, h2, h3⟩ := h
  refine ⟨h1, Nat.lt_of_lt_of_le h2 hO.size, fun i p hi => ?_⟩
  obtain ⟨gi, ci, hr, hs, hb⟩ := h3 i p hi
  exact ⟨gi, ci, rangeAt_only hr hO h2 (fun hm => by have := hS g hm; omega), hs.keep hO (fun _ b o e hm => by injection e with e; injection e with e1 e2; have := hS b hm; omega), hb⟩
theorem RefRow.news {w : World} {B : Nat} {v : Value} {ps : List PartM} (h : RefRow w B v ps) (hp0 : 0 < ps.length) : ∃ g cap, v = .slice (some ⟨g, 0, none⟩) ps.length cap ∧ PartsN w B g ps := by
  obtain ⟨xs, ho, hp⟩ := h
  rcases ho.2 with ⟨rfl, h0⟩ | ⟨g, cap, cur, rfl, hb, hg, hnc, _, hsz, htake⟩
  · omega
  · refine ⟨g, cap, rfl, hb, IsBlk.lt hg, fun i p hi => ?_⟩
    obtain ⟨gi, ci, cur', hc, hb', hr, hB, _⟩ := hp i p hi
    refine ⟨gi, ci, fun j u hu => ?_, ⟨rfl, fun _ => ⟨gi, 0, rfl, hb'.lt, hr⟩⟩, hB⟩
    have := World.ownsRow.cells ho (g := g) rfl (i * 5 + j) u (hc j u hu)
    rw [Addr.add_mid] at this
    rw [← Nat.zero_add (i * 5 + j)]
    exact this

theorem refbytes_okI (w : World) (g r n o : Int) (a : Option Addr) (k cap : Nat) (d : List UInt8) (hm : okB ⟨g, r, n, o, d⟩ = true) (hs : Src w a k d) :
    Calls Try.prog 24 #[.agg #[.int .i64 g, .int .i64 r, .int .i64 n, .int .i64 o, .slice a k cap]] w (RefTo w ⟨g, r, n, o, d⟩) := by
  obtain ⟨⟨h1, h2, h3, h4⟩, h5, h6, h7, h8, h9⟩ := okB_iff.1 hm
  simp only at h1 h2 h3 h4 h5 h6 h7 h8
  obtain ⟨g', rfl⟩ := Int.eq_ofNat_of_zero_le (show 0 ≤ g by omega)
  obtain ⟨r', rfl⟩ := Int.eq_ofNat_of_zero_le h3
  obtain ⟨n', rfl⟩ := Int.eq_ofNat_of_zero_le h7
  obtain ⟨o', rfl⟩ := Int.eq_ofNat_of_zero_le (show 0 ≤ o by omega)
  exact refbytes_ok w g' r' n' o' a k cap d hm hs

set_option maxHeartbeats 1000000 in
theorem rstate_any (w : World) (lp q : Nat) (L : LS) (h : RLogAt w lp q L) :
    Calls Try.prog 38 #[.pointer (some ⟨lp, 0, none⟩)] w fun e w' => e = .returned (.tuple #[.int .i64 L.gen, .int .i64 L.half, .int .i64 L.next, .int .i64 L.seq]) ∧ Only [] w w' := by
  have c2 := h.c2
  have c3 := h.c3
  have c4 := h.c4
  have c5 := h.c5
  clear h
  go_enter Try.func38, Try.ntmps38
  go_wp2_with fail
  go_quiet (fail)
  go_wp2
  (try simp only [Exit.inBlock, Exit.then])
  first
    | (go_ret; exact ⟨rfl, (Only.refl [] w).drewN _⟩)
    | (refine bodyPost_ret (by simp [results]; rfl) rfl ?_; exact ⟨rfl, (Only.refl [] w).drewN _⟩)

set_option maxHeartbeats 1000000 in
theorem rfits_any (w : World) (B : Nat) (R : RefP) (D : RS) (lp size : Nat) (L : LS) (a : Option Addr) (cap : Nat) (b : List UInt8) (h : RLogAt w lp R.q L) (hr : RefAt w B R D) (hn : D.n = 2 * size) (hs : Src w a b.length b) (hl : partsN b.length ≤ 255) (hbl : b.length ≤ 100000) :
    Calls Try.prog 44 #[.pointer (some ⟨lp, 0, none⟩), .slice a b.length cap] w fun e w' => e = .returned (.bool (decide (partsN b.length ≤ size))) ∧ Only [] w w' := by
  have hsm := hr.small
  have H := Lib.hid h
  have Hr := Lib.hid hr
  clear h hr
  go_enter Try.func44, Try.ntmps44
  go_wp2_with fail
  refine (refcut_any _ 1 0 a cap b hs (by decide) hbl).mono ?_
  rintro e w1 ⟨h1, -, hO⟩
  obtain ⟨v, rfl, hrow⟩ := h1 hl
  obtain ⟨ga, gc, rfl, -⟩ := hrow.parts
  rw [length_cutP]
  have c0 := (H.out.more hO).c0
  clear h1 hrow
  go_wp2_with fail
  refine (rsize_any _ B R D (Hr.out.more hO)).mono ?_
  rintro e w' ⟨rfl, rfl⟩
  rw [hn]
  go_wp2
  go_ret
  exact ⟨by simp, hO⟩

set_option maxHeartbeats 4000000 in
theorem rwr_parts (w : World) (B N g cap lp : Nat) (R : RefP) (L : LS) (D : DS) (K : Int) (at_ : Nat) (gen rec : Int) (b : List UInt8) (h : RLogAt w lp R.q L) (hd : RefAt w B R (refOf D)) (hc : D.calm K) (hK : K < 100000) (hm : mayB gen rec = true) (hl : partsN b.length ≤ 255)
    (hp : PartsN w N g (cutP gen rec b)) (hN : ∀ k ∈ R.own, k < N) (hlp : lp ∉ R.own) (hat : at_ ≤ 1000) :
    Calls Try.prog 41 #[.pointer (some ⟨lp, 0, none⟩), .int .i64 at_, .slice (some ⟨g, 0, none⟩) (partsN b.length) cap] w
      fun e w' => e = .returned (.int .i64 (wrM D at_ (secsB gen rec b)).2) ∧ RefAt w' B R (refOf (wrM D at_ (secsB gen rec b)).1) ∧ Only R.own w w' := by
  have H := Lib.hid h
  have Hd := Lib.hid hd
  have Hp := Lib.hid hp
  have Hc := Lib.hid hc
  have HN := Lib.hid hN
  have Hcut : Hid (∀ j : Nat, j < partsN b.length → okB ⟨gen, rec, (j : Int), (partsN b.length : Int), pieceB (wholeB b) j⟩ = true) := Lib.hid (fun j hj => cut_okB (b := b) hm hl hj)
  have Hget : Hid (∀ j : Nat, j < partsN b.length → (cutP gen rec b)[j]? = some ⟨gen, rec, (j : Int), (partsN b.length : Int), pieceB (wholeB b) j⟩) := Lib.hid (fun j hj => by
    simp only [cutP, List.getElem?_map, List.getElem?_range hj, Option.map_some])
  have Hsec : Hid (∀ j, j < partsN b.length → (secsB gen rec b)[j]? = some (bytesB ⟨gen, rec, j, partsN b.length, pieceB (wholeB b) j⟩)) := Lib.hid (fun j hj => by
    simp only [secsB, cutP, List.getElem?_map, List.getElem?_range hj, Option.map_some])
  have Hlen := Lib.hid (length_secsB gen rec b)
  clear h hd hp hc hm hN
  generalize hk : partsN b.length = k at *
  clear hk
  go_enter Try.func41, Try.ntmps41
  go_wp2_with fail
  go_loopw [7] (fun i wr => ∃ (j : Nat) (Dj : DS), j ≤ k ∧ i = .int .i64 j ∧ RefAt wr B R (refOf Dj) ∧ Dj.calm (K + j) ∧ Only R.own w wr ∧ wrM D at_ (secsB gen rec b) = wrM Dj (at_ + j) ((secsB gen rec b).drop j)) (fun i _ => k - (intOf i).toNat)
  case atStart => exact ⟨0, D, Nat.zero_le _, rfl, Hd.out, by simpa using Hc.out, Only.refl _ _, by simp⟩
  case round =>
    obtain ⟨j, Dj, hj, rfl, hD, hcj, hO, hwr⟩ := hrel
    have HD := Lib.hid hD
    have Hcj := Lib.hid hcj
    have HL := Lib.hid (H.out.keep hO hlp)
    have HO := Lib.hid hO
    have Hwr := Lib.hid hwr
    clear hD hcj hO hwr
    have d0 := HL.out.c0
    by_cases hlt : j < k
    · have hlti : (j : Int) < (k : Int) := by omega
      obtain ⟨hPg, hPl, hPa⟩ := Hp.out.keep HO.out HN.out
      obtain ⟨gi, ci, hr, hsrc, hgi⟩ := hPa j _ (Hget.out j hlt)
      simp only at hr hsrc
      have hl52 : (pieceB (wholeB b) j).length = 52 := (okB_iff.1 (Hcut.out j hlt)).2.2.2.2.2
      rw [hl52] at hr hsrc
      have k0 : wr.cell? ⟨g, j * 5, none⟩ = some (.int .i64 gen) := hr 0 _ rfl
      have k1 : wr.cell? ⟨g, j * 5 + 1, none⟩ = some (.int .i64 rec) := hr 1 _ rfl
      have k2 : wr.cell? ⟨g, j * 5 + 2, none⟩ = some (.int .i64 j) := hr 2 _ rfl
      have k3 : wr.cell? ⟨g, j * 5 + 3, none⟩ = some (.int .i64 k) := hr 3 _ rfl
      have k4 : wr.cell? ⟨g, j * 5 + 4, none⟩ = some (.slice (some ⟨gi, 0, none⟩) 52 ci) := hr 4 _ rfl
      have Hsrc := Lib.hid hsrc
      have hokj := Hcut.out j hlt
      have hsj := Lib.hid (Hsec.out j hlt)
      have hblen : Hid ((bytesB ⟨gen, rec, j, k, pieceB (wholeB b) j⟩).length = 64) := Lib.hid (length_bytesB (okB_iff.1 hokj).2.2.2.2.2)
      clear hsrc hr hPa hl52
      go_wp2_with fail
      refine (refbytes_okI _ gen rec j k _ 52 ci _ hokj Hsrc.out).mono ?_
      rintro e w1 ⟨v1, rfl, hb1, hO1⟩
      obtain ⟨a1, c1, rfl, hs1, hn1, -⟩ := hb1.shape
      rw [hblen.out] at hs1 ⊢
      generalize hX : bytesB ⟨gen, rec, j, k, pieceB (wholeB b) j⟩ = X at *
      have e0 := (HL.out.more hO1).c0
      have HD1 := Lib.hid (HD.out.more hO1)
      have HO1 := Lib.hid (HO.out.plus hO1)
      have Hs1 := Lib.hid hs1
      have Hn1 : Hid (∀ b' o, a1 = some ⟨b', o, none⟩ → b' ∉ R.own) := Lib.hid (fun b' o e hm => by
        have h1 := (hn1 b' o e).1
        have h2 := HN.out b' hm
        omega)
      clear hb1 hs1 hn1 hO1 k0 k1 k2 k3 k4 Hsrc hX d0
      go_wp2_with fail
      have ex : (at_ : Int) + (j : Int) = ((at_ + j : Nat) : Int) := by omega
      rw [ex]
      clear ex
      have Hun : Hid (wrM Dj (at_ + j) ((secsB gen rec b).drop j) = if (Dj.writeR (at_ + j : Nat) X).2 = 0 then wrM (Dj.writeR (at_ + j : Nat) X).1 (at_ + j + 1) ((secsB gen rec b).drop (j + 1)) else Dj.writeR (at_ + j : Nat) X) := Lib.hid (by
        have hjl : j < (secsB gen rec b).length := by rw [Hlen.out]; exact hlt
        have e1 : (secsB gen rec b)[j] = X := by have := hsj.out; rw [List.getElem?_eq_getElem hjl] at this; injection this
        rw [List.drop_eq_getElem_cons hjl, e1]; rfl)
      have Hcn := Lib.hid (calm_write (x := ((at_ + j : Nat) : Int)) (l := X) Hcj.out)
      refine (rwrite_any _ B R Dj _ _ 64 c1 X (K + j) HD1.out Hcj.out (by omega) Hs1.out (fun _ b' o e => Hn1.out b' o e)).mono ?_
      generalize hW : Dj.writeR ((at_ + j : Nat) : Int) X = RR at *
      clear hW
      obtain ⟨D', ec⟩ := RR
      rintro e w3 ⟨rfl, hD3, hO3⟩
      simp only at hD3 Hun Hcn
      have HD3 := Lib.hid hD3
      have HO3 := Lib.hid (HO1.out.same hO3)
      clear hD3 hO3 e0
      by_cases hec : ec = 0
      · subst hec
        go_wp2_with fail
        go_roundw
        case rel => exact ⟨j + 1, D', by omega, by go_num, HD3.out, by have := Hcn.out; rw [show K + ((j + 1 : Nat) : Int) = K + (j : Int) + 1 by omega]; exact this, HO3.out, by rw [Hwr.out, Hun.out]; first | rw [if_pos rfl] | rw [if_pos trivial]; rfl⟩
        case measure => simp [intOf]; omega
      · have hecb : (ec != 0) = true := by simpa using hec
        have Hfin := Lib.hid (Hwr.out.trans (Hun.out.trans (if_neg hec)))
        clear hec
        go_wp2
        go_ret
        rw [Hfin.out]
        exact ⟨rfl, HD3.out, HO3.out⟩
    · have hge : ¬ (j : Int) < (k : Int) := by omega
      obtain rfl : j = k := by omega
      have Hun : Hid (wrM Dj (at_ + j) ((secsB gen rec b).drop j) = Dj.flushR) := Lib.hid (by
        rw [List.drop_eq_nil_of_le (by rw [Hlen.out]; exact Nat.le_refl _)]; rfl)
      have Hfin := Lib.hid (Hwr.out.trans Hun.out)
      go_wp2_with fail
      refine (rflush_any _ B R Dj (K + j) HD.out Hcj.out (by omega)).mono ?_
      rintro e w3 ⟨rfl, hD3, hO3⟩
      have HD3 := Lib.hid hD3
      have HO3 := Lib.hid (HO.out.same hO3)
      clear hD3 hO3
      go_wp2
      go_ret
      rw [Hfin.out]
      exact ⟨rfl, HD3.out, HO3.out⟩

end Go.Proofs.Ytijhllgogmmgfaa
