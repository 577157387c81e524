/-
  The functions Append and Fresh of the package wal, by contracts.
-/
import Derived.Test.YtdfnclfmmohpeaaWalF
import Derived.Test.YtdfnclfmmohpeaaPairA
import Derived.BigRegion
namespace Go.Proofs.Ytdfnclfmmohpeaa
set_option maxRecDepth 100000
open Go.RowKit

/-- Sectors written from one on, as long as they are OK, and flushed. -/
def wrM (D : DS) (x : Nat) : List (List UInt8) → DS × Int
  | [] => D.flushR
  | b :: l => if (D.writeR x b).2 = 0 then wrM (D.writeR x b).1 (x + 1) l else D.writeR x b

/-- The sectors of a record. -/
def secsB (g r : Int) (b : List UInt8) : List (List UInt8) := (cutP g r b).map bytesB
theorem length_secsB (g r : Int) (b : List UInt8) : (secsB g r b).length = partsN b.length := by simp [secsB, length_cutP]

theorem calm_write {D : DS} {K : Int} {x : Int} {l : List UInt8} (h : D.calm K) : (D.writeR x l).1.calm (K + 1) := by
  obtain ⟨h1, h2, h3, h4⟩ := h
  unfold DS.writeR
  split
  · exact ⟨h1, h2, h3, by show D.ops ≤ K + 1; omega⟩
  · split
    · exact ⟨h1, h2, h3, by show D.ops ≤ K + 1; omega⟩
    · split
      · exact ⟨by simp, by simp, h3, by show D.ops ≤ K + 1; omega⟩
      · refine ⟨?_, ?_, ?_, ?_⟩ <;> simp only [DS.put, burnt] <;> (try split) <;> omega

theorem write_n {D : DS} {x : Int} {l : List UInt8} : (D.writeR x l).1.n = D.n := by
  unfold DS.writeR DS.put
  split
  · rfl
  · split
    · rfl
    · split <;> rfl

theorem bytes_okI (w : World) (g r n o : Int) (a : Option Addr) (k cap : Nat) (d : List UInt8) (hm : okB ⟨g, r, n, o, d⟩ = true) (hs : Src w a k d) :
    Calls Try.prog 70 #[.agg #[.int .i64 g, .int .i64 r, .int .i64 n, .int .i64 o, .slice a k cap]] w (BytesTo w ⟨g, r, n, o, d⟩) := by
  obtain ⟨⟨h1, h2, h3, h4⟩, h5, h6, h7, h8, h9⟩ := okB_iff.1 hm
  simp only at h1 h2 h3 h4 h5 h6 h7 h8
  obtain ⟨g', rfl⟩ := Int.eq_ofNat_of_zero_le (show 0 ≤ g by omega)
  obtain ⟨r', rfl⟩ := Int.eq_ofNat_of_zero_le h3
  obtain ⟨n', rfl⟩ := Int.eq_ofNat_of_zero_le h7
  obtain ⟨o', rfl⟩ := Int.eq_ofNat_of_zero_le (show 0 ≤ o by omega)
  exact bytes_ok w g' r' n' o' a k cap d hm hs

/-- What write answers. -/
def WriteTo (w : World) (lp pd bl bm : Nat) (L : LS) (R : DS × Int) (g : Int) (h nx : Nat) (r : Int) (e : Ending) (w' : World) : Prop :=
  e = .returned (.int .i64 R.2) ∧ DiskAt w' pd bl bm R.1 ∧ LogAt w' lp pd (if R.2 = 0 then { L with gen := g, half := h, next := nx, seq := r + 1 } else L) ∧ Only [lp, pd, bl, bm] w w'

set_option maxHeartbeats 4000000 in
theorem write_parts (w : World) (lp pd bl bm gl gw : Nat) (L : LS) (D : DS) (K : Int) (half at_ : Nat) (g r : Int) (b : List UInt8) (h : LogAt w lp pd L) (hd : DiskAt w pd bl bm D) (hc : D.calm K) (hK : K < 100000) (hm : mayB g r = true) (hl : partsN b.length ≤ 255)
    (hp : ∀ i, i < partsN b.length → w.rangeAt gl (i * 5) (partC g r (i : Nat) (partsN b.length : Nat) (some ⟨gw, i * 52, none⟩) 52 52)) (hw : IsBlk w gw (.cells (bv (wholeB b)).toArray 5)) (hgl : gl < w.heap.size)
    (hS1 : gl ∉ [lp, pd, bl, bm]) (hS2 : gw ∉ [lp, pd, bl, bm]) (hlp : lp ∉ [pd, bl, bm]) (hh : half ≤ 1) (hsz : L.size ≤ 1000) (hat : at_ ≤ 1000) :
    Calls Try.prog 49 #[.pointer (some ⟨lp, 0, none⟩), .int .i64 half, .int .i64 at_, .slice (some ⟨gl, 0, none⟩) (partsN b.length) (partsN b.length)] w
      (WriteTo w lp pd bl bm L (wrM D (half * L.size + at_) (secsB g r b)) g half (at_ + partsN b.length) r) := by
  have hpos := partsN_pos b.length
  have H := Lib.hid h
  have Hd := Lib.hid hd
  have Hp := Lib.hid hp
  have Hw := Lib.hid hw
  have Hc := Lib.hid hc
  have Hcut : Hid (∀ j : Nat, j < partsN b.length → okB ⟨g, r, (j : Int), (partsN b.length : Int), pieceB (wholeB b) j⟩ = true) := Lib.hid (fun j hj => cut_okB (b := b) hm hl hj)
  have Hsec : Hid (∀ j, j < partsN b.length → (secsB g r b)[j]? = some (bytesB ⟨g, r, j, partsN b.length, pieceB (wholeB b) j⟩)) := Lib.hid (fun j hj => by
    simp only [secsB, cutP, List.getElem?_map, List.getElem?_range hj, Option.map_some])
  have Hlen := Lib.hid (length_secsB g r b)
  have Hwl := Lib.hid (length_wholeB b)
  obtain ⟨-, -, hr0, hr1⟩ := mayB_iff.1 hm
  clear h hd hp hw hc hm
  generalize hk : partsN b.length = k at *
  clear hk
  go_enter Try.func49, Try.ntmps49
  go_wp2_with fail
  go_loopw [18] (fun i wr => ∃ (j : Nat) (Dj : DS), j ≤ k ∧ i = .int .i64 j ∧ DiskAt wr pd bl bm Dj ∧ Dj.calm (K + j) ∧ LogAt wr lp pd L ∧ Only [pd, bl, bm] w wr ∧ wrM D (half * L.size + at_) (secsB g r b) = wrM Dj (half * L.size + at_ + j) ((secsB g r b).drop j)) (fun i _ => k - (intOf i).toNat)
  case atStart => exact ⟨0, D, Nat.zero_le _, rfl, Hd.out, by simpa using Hc.out, H.out, Only.refl _ _, by simp⟩
  case round =>
    obtain ⟨j, Dj, hj, rfl, hD, hcj, hL, hO, hwr⟩ := hrel
    have HD := Lib.hid hD
    have Hcj := Lib.hid hcj
    have HL := Lib.hid hL
    have HO := Lib.hid hO
    have Hwr := Lib.hid hwr
    have hszr := hO.size
    clear hD hcj hL hO hwr
    by_cases hlt : j < k
    · have hlti : (j : Int) < (k : Int) := by omega
      have hr := rangeAt_only (Hp.out j hlt) HO.out hgl (by simp at hS1 ⊢; exact ⟨hS1.2.1, hS1.2.2.1, hS1.2.2.2⟩)
      have k0 : wr.cell? ⟨gl, j * 5, none⟩ = some (.int .i64 g) := hr 0 _ rfl
      have k1 : wr.cell? ⟨gl, j * 5 + 1, none⟩ = some (.int .i64 r) := hr 1 _ rfl
      have k2 : wr.cell? ⟨gl, j * 5 + 2, none⟩ = some (.int .i64 j) := hr 2 _ rfl
      have k3 : wr.cell? ⟨gl, j * 5 + 3, none⟩ = some (.int .i64 k) := hr 3 _ rfl
      have k4 : wr.cell? ⟨gl, j * 5 + 4, none⟩ = some (.slice (some ⟨gw, j * 52, none⟩) 52 52) := hr 4 _ rfl
      clear hr
      have hgw : gw ∉ [pd, bl, bm] := by simp at hS2 ⊢; exact ⟨hS2.2.1, hS2.2.2.1, hS2.2.2.2⟩
      have hbw : IsBlk wr gw (.cells (bv (wholeB b)).toArray 5) := Hw.out.only HO.out hgw
      have hsrc : Src wr (some ⟨gw, j * 52, none⟩) 52 (pieceB (wholeB b) j) := src_blk hbw (j * 52) 52 (by rw [Hwl.out]; omega)
      have Hsrc := Lib.hid hsrc
      have hokj := Hcut.out j hlt
      have hsj := Lib.hid (Hsec.out j hlt)
      have hblen : Hid ((bytesB ⟨g, r, j, k, pieceB (wholeB b) j⟩).length = 64) := Lib.hid (length_bytesB (okB_iff.1 hokj).2.2.2.2.2)
      clear hsrc hbw
      have d0 := HL.out.c0
      have d1 := HL.out.c1
      go_wp2_with fail
      refine (bytes_okI _ g r j k _ 52 52 _ hokj (Hsrc.out.more ((Only.refl [] wr).alloc _))).mono ?_
      rintro e w1 ⟨gb, rfl, hb1, hg1, hO1⟩
      have hO1' : Only [] wr w1 := ((Only.refl [] wr).alloc _).plus hO1
      have hg1' : wr.heap.size ≤ gb := by simp at hg1; omega
      have hs1 : Src w1 (some ⟨gb, 0, none⟩) 64 (bytesB ⟨g, r, j, k, pieceB (wholeB b) j⟩) := by
        have := src_blk hb1 0 64 (by rw [hblen.out]; omega)
        rwa [List.drop_zero, List.take_of_length_le (by rw [hblen.out]; omega)] at this
      have hL1 := HL.out.more hO1'
      have hD1 := HD.out.more hO1'
      generalize hX : bytesB ⟨g, r, j, k, pieceB (wholeB b) j⟩ = X at *
      have em : (half : Int) * (L.size : Int) = ((half * L.size : Nat) : Int) := by simp
      have hsz2 : half * L.size ≤ 1000 := by
        rcases Nat.le_one_iff_eq_zero_or_eq_one.1 hh with rfl | rfl <;> omega
      obtain ⟨x, hx⟩ : ∃ x, x = half * L.size + at_ + j := ⟨_, rfl⟩
      have Hx := Lib.hid hx
      have HD2 := Lib.hid (hD1.more (Only.refl [] w1).drew)
      have HL2 := Lib.hid (hL1.more (Only.refl [] w1).drew)
      have Hs2 := Lib.hid (hs1.more (Only.refl [] w1).drew)
      have hO2 : Hid (Only [] wr w1.drew) := Lib.hid (hO1'.plus (Only.refl [] w1).drew)
      have e0 : w1.drew.cell? ⟨lp, 0, none⟩ = some (.pointer (some ⟨pd, 0, none⟩)) := HL2.out.c0
      have e1 : w1.drew.cell? ⟨lp, 1, none⟩ = some (.int .i64 L.size) := HL2.out.c1
      have hpd := HD.out.plt
      clear hO1 hO1' hb1 hg1 hs1 hL1 hD1 d0 d1 k0 k1 k2 k3 k4 Hsrc hX hx
      go_wp2_with fail
      refine still_tail 15 (by kernel_rfl) (by kernel_rfl) ?_
      simp only [List.take_succ_cons, List.take_zero, List.drop_succ_cons, List.drop_zero]
      generalize w1.drew = w2 at *
      generalize hat2 : half * L.size = hl2 at *
      have Hat2 := Lib.hid hat2
      clear hat2
      have hw1 : IntKind.i64.wrap (hl2 : Int) = (hl2 : Int) := wrap_nat hl2 (by omega)
      iterate 15 still_step
      refine wpStill_nil ?_
      go_wp2_with fail
      have ex : (hl2 : Int) + (at_ : Int) + (j : Int) = ((hl2 + at_ + j : Nat) : Int) := by omega
      rw [ex]
      clear ex
      have Hun : Hid (wrM Dj (hl2 + at_ + j) ((secsB g r b).drop j) = if (Dj.writeR (hl2 + at_ + j : Nat) X).2 = 0 then wrM (Dj.writeR (hl2 + at_ + j : Nat) X).1 (hl2 + at_ + j + 1) ((secsB g r b).drop (j + 1)) else Dj.writeR (hl2 + at_ + j : Nat) X) := Lib.hid (by
        have hjl : j < (secsB g r b).length := by rw [Hlen.out]; exact hlt
        have e1 : (secsB g r b)[j] = X := by have := hsj.out; rw [List.getElem?_eq_getElem hjl] at this; injection this
        rw [List.drop_eq_getElem_cons hjl, e1]; rfl)
      have Hcn := Lib.hid (calm_write (x := ((hl2 + at_ + j : Nat) : Int)) (l := X) Hcj.out)
      refine (write_any _ pd bl bm Dj _ _ 64 64 X (K + j) HD2.out Hcj.out (by omega) Hs2.out (fun _ b' o e => by injection e with e; injection e with e1 e2; omega)).mono ?_
      generalize hW : Dj.writeR ((hl2 + at_ + j : Nat) : Int) X = R at *
      clear hW
      obtain ⟨D', ec⟩ := R
      rintro e w3 ⟨rfl, hD3, hO3⟩
      simp only at hD3 Hun Hcn
      have hlp3 : lp ∉ [pd, bl, bm] := hlp
      have hL3 := HL2.out.keep hO3 hlp3
      have hO3' : Only [pd, bl, bm] w w3 := (HO.out.plus hO2.out).same hO3
      have HL3 := Lib.hid hL3
      have HD3 := Lib.hid hD3
      have HO3 := Lib.hid hO3'
      clear hL3 hD3 hO3' hO3 e0 e1
      by_cases hec : ec = 0
      · subst hec
        go_wp2_with fail
        go_roundw
        case rel => exact ⟨j + 1, D', by omega, by go_num, HD3.out, by have := Hcn.out; rw [show K + ((j + 1 : Nat) : Int) = K + (j : Int) + 1 by omega]; exact this, HL3.out, HO3.out, by rw [Hat2.out, Hwr.out, Hun.out]; first | rw [if_pos rfl] | rw [if_pos trivial]; rfl⟩
        case measure => simp [intOf]; omega
      · have hecb : (ec != 0) = true := by simpa using hec
        have Hfin := Lib.hid (Hwr.out.trans (Hun.out.trans (if_neg hec)))
        have hne : Hid (¬ ec = 0) := Lib.hid hec
        clear hec
        go_wp2
        go_ret
        rw [Hat2.out, Hfin.out]
        exact ⟨rfl, HD3.out, by simp only; rw [if_neg hne.out]; exact HL3.out, HO3.out.into (by simp)⟩
    · have hge : ¬ (j : Int) < (k : Int) := by omega
      obtain rfl : j = k := by omega
      have d0 := HL.out.c0
      have Hun : Hid (wrM Dj (half * L.size + at_ + j) ((secsB g r b).drop j) = Dj.flushR) := Lib.hid (by
        rw [List.drop_eq_nil_of_le (by rw [Hlen.out]; exact Nat.le_refl _)]; rfl)
      have Hfin := Lib.hid (Hwr.out.trans Hun.out)
      go_wp2_with fail
      refine (flush_any _ pd bl bm Dj (K + j) HD.out Hcj.out (by omega)).mono ?_
      generalize hW : Dj.flushR = R at *
      clear hW
      obtain ⟨D', ec⟩ := R
      rintro e w3 ⟨rfl, hD3, hO3⟩
      simp only at hD3
      have hL3 := HL.out.keep hO3 hlp
      have hO3' : Only [pd, bl, bm] w w3 := HO.out.same hO3
      have HD3 := Lib.hid hD3
      have HO3 := Lib.hid hO3'
      have HL3 := Lib.hid hL3
      clear hD3 hO3' hL3 hO3 d0
      by_cases hec : ec = 0
      · subst hec
        have hr := rangeAt_only (Hp.out 0 hpos) HO3.out hgl (by simp at hS1 ⊢; exact ⟨hS1.2.1, hS1.2.2.1, hS1.2.2.2⟩)
        rw [Nat.zero_mul] at hr
        have k0 : w3.cell? ⟨gl, 0, none⟩ = some (.int .i64 g) := hr 0 _ rfl
        have k1 : w3.cell? ⟨gl, 0 + 1, none⟩ = some (.int .i64 r) := hr 1 _ rfl
        have k2 : w3.cell? ⟨gl, 0 + 2, none⟩ = some (.int .i64 (0 : Nat)) := hr 2 _ rfl
        have k3 : w3.cell? ⟨gl, 0 + 3, none⟩ = some (.int .i64 j) := hr 3 _ rfl
        have k4 : w3.cell? ⟨gl, 0 + 4, none⟩ = some (.slice (some ⟨gw, 0 * 52, none⟩) 52 52) := hr 4 _ rfl
        simp at k1 k2 k3 k4
        have hpi : (0 : Int) < (j : Int) := by omega
        go_wp2_with fail
        have hA : Only [] w3 (w3.alloc (.cells #[.int .i64 g, .int .i64 r, .int .i64 0, .int .i64 j, .slice (some ⟨gw, 0, none⟩) 52 52] 113)) := (Only.refl [] w3).alloc _
        have hbx := IsBlk.made w3 (.cells #[.int .i64 g, .int .i64 r, .int .i64 0, .int .i64 j, .slice (some ⟨gw, 0, none⟩) 52 52] 113)
        have hL4 := HL3.out.more hA
        have HD4 := Lib.hid (HD3.out.more hA)
        have HO4 := Lib.hid (HO3.out.plus hA)
        generalize w3.alloc (.cells #[.int .i64 g, .int .i64 r, .int .i64 0, .int .i64 j, .slice (some ⟨gw, 0, none⟩) 52 52] 113) = W at *
        have hbl : Hid (lp < w3.heap.size) := Lib.hid (IsBlk.lt HL3.out)
        generalize hq : w3.heap.size = q at *
        have b0 : W.cell? ⟨q, 0, none⟩ = some (.int .i64 g) := hbx.cell 0
        have b1 : W.cell? ⟨q, 1, none⟩ = some (.int .i64 r) := hbx.cell 1
        have l3 := hL4.c3
        have l4 := hL4.c4
        have l5 := hL4.c5
        have l6 := hL4.c6
        have f3 := hL4.fz 3
        have f4 := hL4.fz 4
        have f5 := hL4.fz 5
        have f6 := hL4.fz 6
        have hqlp : lp ≠ q := by have := hbl.out; omega
        have HL4 := Lib.hid hL4
        clear hL4 hbx hA k0 k1 k2 k3 k4 hq HL3 HD3 HO3
        go_region
        have hL5 := (((HL4.out.put3 g).put4 half).put5 (at_ + j)).put6 (r + 1)
        have ea : ((at_ + j : Nat) : Int) = (at_ : Int) + (j : Int) := by omega
        rw [ea] at hL5
        have hO5 : Only [lp] W ((((W.setCell ⟨lp, 3, none⟩ (.int .i64 g)).setCell ⟨lp, 4, none⟩ (.int .i64 half)).setCell ⟨lp, 5, none⟩ (.int .i64 ((at_ : Int) + (j : Int)))).setCell ⟨lp, 6, none⟩ (.int .i64 (r + 1))).drew := (((((Only.refl _ W).setCell (by simp) _).setCell (by simp) _).setCell (by simp) _).setCell (by simp) _).drew
        have hL6 := LogAt.more hL5 (Only.refl [] _).drew
        generalize ((((W.setCell ⟨lp, 3, none⟩ (.int .i64 g)).setCell ⟨lp, 4, none⟩ (.int .i64 half)).setCell ⟨lp, 5, none⟩ (.int .i64 ((at_ : Int) + (j : Int)))).setCell ⟨lp, 6, none⟩ (.int .i64 (r + 1))).drew = W6 at *
        clear hL5 b0 b1 l3 l4 l5 l6 f3 f4 f5 f6
        have hD6 := HD4.out.keep hO5 (by simp at hlp ⊢; exact Ne.symm hlp.1) (by simp at hlp ⊢; exact Ne.symm hlp.2.1) (by simp at hlp ⊢; exact Ne.symm hlp.2.2)
        have HL6 := Lib.hid hL6
        clear hL6
        go_wp2
        go_ret
        rw [Hfin.out]
        exact ⟨rfl, hD6, by simpa using HL6.out, HO4.out.then hO5 _ (by simp) (by simp)⟩
      · have hecb : (ec != 0) = true := by simpa using hec
        have hne : Hid (¬ ec = 0) := Lib.hid hec
        clear hec
        go_wp2
        go_ret
        rw [Hfin.out]
        exact ⟨rfl, HD3.out, by simp only; rw [if_neg hne.out]; exact HL3.out, HO3.out.into (by simp)⟩

end Go.Proofs.Ytdfnclfmmohpeaa
namespace Go.Proofs.Ytdfnclfmmohpeaa
set_option maxRecDepth 100000
open Go.RowKit

/-- Append by chapter 3: the log, the disk, whether, the error. -/
def appM (L : LS) (D : DS) (b : List UInt8) : LS × DS × Bool × Int :=
  if L.gen = 0 ∨ L.size < L.next + partsN b.length then (L, D, false, 0)
  else
    let R := wrM D (L.half * L.size + L.next) (secsB L.gen L.seq b)
    (if R.2 = 0 then { L with next := L.next + partsN b.length, seq := L.seq + 1 } else L, R.1, decide (R.2 = 0), R.2)

def otherM (L : LS) : Nat := if L.gen = 0 then 0 else 1 - L.half
/-- Fresh by chapter 3. -/
def freshM (L : LS) (D : DS) (b : List UInt8) : LS × DS × Int :=
  if L.size < partsN b.length ∨ 4294967295 ≤ L.top then (L, D, 4)
  else
    let R := wrM D (otherM L * L.size) (secsB (L.top + 1) 0 b)
    (if R.2 = 0 then { L with top := L.top + 1, gen := L.top + 1, half := otherM L, next := partsN b.length, seq := 1 } else { L with top := L.top + 1 }, R.1, R.2)

def AppTo (w : World) (lp pd bl bm : Nat) (x : LS × DS × Bool × Int) (e : Ending) (w' : World) : Prop :=
  e = .returned (.tuple #[.bool x.2.2.1, .int .i64 x.2.2.2]) ∧ LogAt w' lp pd x.1 ∧ DiskAt w' pd bl bm x.2.1 ∧ Only [lp, pd, bl, bm] w w'
def FreshTo (w : World) (lp pd bl bm : Nat) (x : LS × DS × Int) (e : Ending) (w' : World) : Prop :=
  e = .returned (.int .i64 x.2.2) ∧ LogAt w' lp pd x.1 ∧ DiskAt w' pd bl bm x.2.1 ∧ Only [lp, pd, bl, bm] w w'

set_option maxHeartbeats 2000000 in
theorem append_none (w : World) (lp pd : Nat) (L : LS) (s : Value) (h : LogAt w lp pd L) (hg : L.gen = 0) :
    Calls Try.prog 20 #[.pointer (some ⟨lp, 0, none⟩), s] w fun e w' => e = .returned (.tuple #[.bool false, .int .i64 0]) ∧ w = w' := by
  have c3 := h.c3
  rw [hg] at c3
  clear hg
  go_enter Try.func20, Try.ntmps20
  go_wp2
  go_ret2
  exact ⟨rfl, rfl⟩

set_option maxHeartbeats 4000000 in
theorem append_any (w : World) (lp pd bl bm : Nat) (L : LS) (D : DS) (K : Int) (a : Option Addr) (cap : Nat) (b : List UInt8) (h : LogAt w lp pd L) (hd : DiskAt w pd bl bm D) (hc : D.calm K) (hK : K < 100000) (hs : Src w a b.length b)
    (hl : partsN b.length ≤ 255) (hm : L.gen ≠ 0 → mayB L.gen L.seq = true) (hlp : lp ∉ [pd, bl, bm]) (hh : L.half ≤ 1) (hsz : L.size ≤ 1000) (hnx : L.next ≤ 1000) :
    Calls Try.prog 20 #[.pointer (some ⟨lp, 0, none⟩), .slice a b.length cap] w (AppTo w lp pd bl bm (appM L D b)) := by
  by_cases hg : L.gen = 0
  · have e1 : appM L D b = (L, D, false, 0) := by unfold appM; rw [if_pos (.inl hg)]
    rw [e1]
    refine (append_none w lp pd L _ h hg).mono ?_
    rintro e w' ⟨rfl, rfl⟩
    exact ⟨rfl, h, hd, Only.refl _ _⟩
  have hmm := hm hg
  have hg' : (L.gen == 0) = false := by simpa using hg
  have c3 := h.c3
  have c6 := h.c6
  have hlplt := IsBlk.lt h
  have hpdlt := hd.plt
  have hbllt := hd.blt
  have hbmlt := hd.mlt
  have H := Lib.hid h
  have Hd := Lib.hid hd
  have Hc := Lib.hid hc
  have Hs := Lib.hid hs
  have Hm := Lib.hid hmm
  have Hg := Lib.hid hg
  clear h hd hc hs hm hmm hg
  go_enter Try.func20, Try.ntmps20
  go_wp2_with fail
  go_upto_region 4 with fail
  go_cut [6, 5] (fun s6 s5 wx => ∃ gl gw, s6 = .slice (some ⟨gl, 0, none⟩) (partsN b.length) (partsN b.length) ∧ s5 = .int .i64 0 ∧ (∀ i, i < partsN b.length → wx.rangeAt gl (i * 5) (partC L.gen L.seq (i : Nat) (partsN b.length : Nat) (some ⟨gw, i * 52, none⟩) 52 52)) ∧
    IsBlk wx gw (.cells (bv (wholeB b)).toArray 5) ∧ w.heap.size ≤ gw ∧ gw < gl ∧ gl < wx.heap.size ∧ Only [] w wx)
  case first =>
    go_region_held3 (fun W => W.cell? ⟨lp, 3, none⟩ = some (.int .i64 L.gen) ∧ W.cell? ⟨lp, 6, none⟩ = some (.int .i64 L.seq)) (first | exact ⟨c3, c6⟩ | assumption)
      (first
        | (go_at_call 48
           refine (cut_ok _ L.gen L.seq a cap b (Hs.out.more (Only.refl [] w).drew) Hm.out hl).mono ?_
           rintro e w1 ⟨gl, gw, rfl, hp1, hb1, hgw1, hgl1, hgl2, hO1⟩
           have hO1' := ((Only.refl [] w).drew).plus hO1
           have hS1 : w1.cell? ⟨lp, 3, none⟩ = some (.int .i64 L.gen) ∧ w1.cell? ⟨lp, 6, none⟩ = some (.int .i64 L.seq) := ⟨(H.out.more hO1').c3, (H.out.more hO1').c6⟩))
    all_goals
      go_wp2_with fail
      go_meet
      exact ⟨gl, gw, rfl, rfl, hp1, hb1, hgw1, hgl1, hgl2, hO1'⟩
  case rest =>
    obtain ⟨gl, gw, rfl, rfl, hp1, hb1, hgw1, hgl1, hgl2, hO1⟩ := hcut
    have hL1 := H.out.more hO1
    have hD1 := Hd.out.more hO1
    have d1 := hL1.c1
    have d5 := hL1.c5
    have HL1 := Lib.hid hL1
    have HD1 := Lib.hid hD1
    have Hp1 := Lib.hid hp1
    have Hb1 := Lib.hid hb1
    have HO1 := Lib.hid hO1
    have hpos := partsN_pos b.length
    clear c3 c6 hL1 hD1 hp1 hb1 hO1
    have happ : Hid (appM L D b = if L.size < L.next + partsN b.length then (L, D, false, 0) else
        (if (wrM D (L.half * L.size + L.next) (secsB L.gen L.seq b)).2 = 0 then { L with next := L.next + partsN b.length, seq := L.seq + 1 } else L, (wrM D (L.half * L.size + L.next) (secsB L.gen L.seq b)).1, decide ((wrM D (L.half * L.size + L.next) (secsB L.gen L.seq b)).2 = 0), (wrM D (L.half * L.size + L.next) (secsB L.gen L.seq b)).2)) := Lib.hid (by
      unfold appM
      by_cases hx : L.size < L.next + partsN b.length
      · rw [if_pos (.inr hx), if_pos hx]
      · rw [if_neg (fun hc => hc.elim Hg.out hx), if_neg hx])
    by_cases hfit : L.size < L.next + partsN b.length
    · have hfi : (L.size : Int) - (L.next : Int) < (partsN b.length : Int) := by omega
      have HA := Lib.hid (happ.out.trans (if_pos hfit))
      clear happ hfit
      go_wp2_with fail
      go_quiet (fail)
      go_wp2
      go_ret2
      rw [HA.out]
      exact ⟨rfl, HL1.out.more ((Only.refl [] wc).drewN _), HD1.out.more ((Only.refl [] wc).drewN _), (HO1.out.plus ((Only.refl [] wc).drewN _)).into (by simp)⟩
    · have hfi : ¬ ((L.size : Int) - (L.next : Int) < (partsN b.length : Int)) := by omega
      have HA := Lib.hid (happ.out.trans (if_neg hfit))
      clear happ hfit
      go_wp2_with fail
      go_quiet (fail)
      have hdn := (Only.refl [] wc).drewN nq
      have hsm : ∀ m, Only [] wc ((wc.drewN m).drew) := fun m => ((Only.refl [] wc).drewN m).drew
      go_wp2_with fail
      have hL2 := HL1.out.more (hsm nq)
      have HD2 := Lib.hid (HD1.out.more (hsm nq))
      have HO2 := Lib.hid (HO1.out.plus (hsm nq))
      have Hb2 := Lib.hid (Hb1.out.only (hsm nq) (by simp))
      have Hp2 : Hid (∀ i, i < partsN b.length → ((wc.drewN nq).drew).rangeAt gl (i * 5) (partC L.gen L.seq (i : Nat) (partsN b.length : Nat) (some ⟨gw, i * 52, none⟩) 52 52)) := Lib.hid (fun i hi => rangeAt_only (Hp1.out i hi) (hsm nq) hgl2 (by simp))
      have hgl3 : gl < ((wc.drewN nq).drew).heap.size := hgl2
      have q4 := hL2.c4
      have q5 := hL2.c5
      have HL2 := Lib.hid hL2
      clear hL2 HL1 HD1 HO1 Hb1 Hp1 hdn hsm hgl2 d1 d5
      refine still_tail 10 (by kernel_rfl) (by kernel_rfl) ?_
      simp only [List.take_succ_cons, List.take_zero, List.drop_succ_cons, List.drop_zero]
      generalize (wc.drewN nq).drew = W at *
      iterate 10 still_step
      refine wpStill_nil ?_
      go_wp2_with fail
      refine (write_parts _ lp pd bl bm gl gw L D K L.half L.next L.gen L.seq b HL2.out HD2.out Hc.out hK Hm.out hl Hp2.out Hb2.out hgl3 (by simp; omega) (by simp; omega) hlp hh hsz hnx).mono ?_
      generalize hR : wrM D (L.half * L.size + L.next) (secsB L.gen L.seq b) = R at *
      clear hR
      obtain ⟨D', ec⟩ := R
      rintro e w3 ⟨rfl, hD3, hL3, hO3⟩
      simp only at hD3 hL3 HA
      have HD3 := Lib.hid hD3
      have HL3 := Lib.hid hL3
      have HO3 := Lib.hid (((HO2.out.into (T := [lp, pd, bl, bm]) (by simp))).same hO3)
      clear hD3 hL3 hO3 q4 q5
      by_cases hec : ec = 0
      · subst hec
        go_wp2
        go_ret2
        rw [HA.out]
        exact ⟨rfl, HL3.out, HD3.out, HO3.out⟩
      · have hecb : (ec == 0) = false := by simpa using hec
        have hed : decide (ec = 0) = false := by simpa using hec
        go_wp2
        go_ret2
        rw [HA.out]
        exact ⟨by rw [hed]; rfl, HL3.out, HD3.out, HO3.out⟩

set_option maxHeartbeats 4000000 in
theorem fresh_any (w : World) (lp pd bl bm : Nat) (L : LS) (D : DS) (K : Int) (a : Option Addr) (cap : Nat) (b : List UInt8) (h : LogAt w lp pd L) (hd : DiskAt w pd bl bm D) (hc : D.calm K) (hK : K < 100000) (hs : Src w a b.length b)
    (hl : partsN b.length ≤ 255) (hlp : lp ∉ [pd, bl, bm]) (hh : L.half ≤ 1) (hsz : L.size ≤ 1000) (ht0 : 0 ≤ L.top) (ht1 : L.top ≤ 4294967295) :
    Calls Try.prog 22 #[.pointer (some ⟨lp, 0, none⟩), .slice a b.length cap] w (FreshTo w lp pd bl bm (freshM L D b)) := by
  have hlplt := IsBlk.lt h
  have hpdlt := hd.plt
  have hbllt := hd.blt
  have hbmlt := hd.mlt
  have H := Lib.hid h
  have Hd := Lib.hid hd
  have Hc := Lib.hid hc
  have Hs := Lib.hid hs
  clear h hd hc hs
  go_enter Try.func22, Try.ntmps22
  go_wp2_with fail
  refine (fits_any _ lp pd L a cap b H.out Hs.out hl).mono ?_
  rintro e w1 ⟨rfl, hO1⟩
  have hL1 := H.out.more hO1
  have HL1 := Lib.hid hL1
  have HD1 := Lib.hid (Hd.out.more hO1)
  have HO1 := Lib.hid hO1
  have Hs1 := Lib.hid (Hs.out.more hO1)
  have hsz1 := hO1.size
  have c2 := hL1.c2
  clear hL1 hO1
  by_cases hfit : L.size < partsN b.length
  · have hfd : decide (partsN b.length ≤ L.size) = false := by simp; omega
    have HA : Hid (freshM L D b = (L, D, 4)) := Lib.hid (by unfold freshM; rw [if_pos (.inl hfit)])
    clear hfit
    rw [hfd]
    go_wp2
    go_ret
    rw [HA.out]
    exact ⟨rfl, HL1.out, HD1.out, HO1.out.into (by simp)⟩
  have hfd : decide (partsN b.length ≤ L.size) = true := by simp; omega
  rw [hfd]
  clear hfd
  by_cases htop : 4294967295 ≤ L.top
  · have HA : Hid (freshM L D b = (L, D, 4)) := Lib.hid (by unfold freshM; rw [if_pos (.inr htop)])
    have hmb : mayB (L.top + 1) 0 = false := by
      cases hx : mayB (L.top + 1) 0 with
      | false => rfl
      | true => have := (mayB_iff.1 hx).2.1; omega
    go_wp2_with fail
    refine (cut_bad _ (L.top + 1) 0 a b.length cap hmb).mono ?_
    rintro e w' ⟨rfl, rfl⟩
    go_wp2
    go_ret
    rw [HA.out]
    exact ⟨rfl, HL1.out, HD1.out, HO1.out.into (by simp)⟩
  have hmb : mayB (L.top + 1) 0 = true := mayB_iff.2 ⟨by omega, by omega, by omega, by omega⟩
  have Hmb := Lib.hid hmb
  have HA : Hid (freshM L D b = (if (wrM D (otherM L * L.size) (secsB (L.top + 1) 0 b)).2 = 0 then { L with top := L.top + 1, gen := L.top + 1, half := otherM L, next := partsN b.length, seq := 1 } else { L with top := L.top + 1 }, (wrM D (otherM L * L.size) (secsB (L.top + 1) 0 b)).1, (wrM D (otherM L * L.size) (secsB (L.top + 1) 0 b)).2)) := Lib.hid (by
    unfold freshM; rw [if_neg (fun hc => hc.elim hfit htop)])
  clear hmb hfit
  go_wp2_with fail
  refine (cut_ok _ (L.top + 1) 0 a cap b Hs1.out Hmb.out hl).mono ?_
  rintro e w2 ⟨gl, gw, rfl, hp2, hb2, hgw2, hgl2, hglw, hO2⟩
  have hL2 := HL1.out.more hO2
  have HL2 := Lib.hid hL2
  have HD2 := Lib.hid (HD1.out.more hO2)
  have HO2 := Lib.hid (HO1.out.plus hO2)
  have Hp2 := Lib.hid hp2
  have Hb2 := Lib.hid hb2
  have e2 := hL2.c2
  have f2 := hL2.fz 2
  clear hL2 hO2 hp2 hb2 c2
  go_wp2_with fail
  have hOx : Only [lp] w2 (w2.setCell ⟨lp, 2, none⟩ (.int .i64 (L.top + 1))) := only_put w2 _
  have HL3 := Lib.hid (HL2.out.put2 (L.top + 1))
  have HD3 := Lib.hid (HD2.out.keep hOx (by simp at hlp ⊢; exact Ne.symm hlp.1) (by simp at hlp ⊢; exact Ne.symm hlp.2.1) (by simp at hlp ⊢; exact Ne.symm hlp.2.2))
  have HO3 := Lib.hid (HO2.out.then hOx [lp] (by simp) (by simp))
  have Hb3 := Lib.hid (Hb2.out.only hOx (by simp; omega))
  have Hp3 : Hid (∀ i, i < partsN b.length → (w2.setCell ⟨lp, 2, none⟩ (.int .i64 (L.top + 1))).rangeAt gl (i * 5) (partC (L.top + 1) 0 (i : Nat) (partsN b.length : Nat) (some ⟨gw, i * 52, none⟩) 52 52)) := Lib.hid (fun i hi => rangeAt_only (Hp2.out i hi) hOx hglw (by simp; omega))
  have hgl3 : gl < (w2.setCell ⟨lp, 2, none⟩ (.int .i64 (L.top + 1))).heap.size := by simp; exact hglw
  generalize w2.setCell ⟨lp, 2, none⟩ (.int .i64 (L.top + 1)) = W at *
  clear HL2 HD2 HO2 Hb2 Hp2 e2 f2 hOx
  refine (other_any _ lp pd _ HL3.out hh).mono ?_
  rintro e w' ⟨rfl, rfl⟩
  have hoth : (if ({ L with top := L.top + 1 } : LS).gen = 0 then 0 else 1 - ({ L with top := L.top + 1 } : LS).half) = otherM L := rfl
  rw [hoth]
  have ho1 : otherM L ≤ 1 := by unfold otherM; split <;> omega
  clear hoth
  generalize otherM L = ot at *
  go_wp2_with fail
  refine (write_parts _ lp pd bl bm gl gw { L with top := L.top + 1 } D K ot 0 (L.top + 1) 0 b HL3.out HD3.out Hc.out hK Hmb.out hl Hp3.out Hb3.out hgl3 (by simp; omega) (by simp; omega) hlp ho1 hsz (by omega)).mono ?_
  simp only [Nat.add_zero, Nat.zero_add]
  generalize hR : wrM D (ot * L.size) (secsB (L.top + 1) 0 b) = R at *
  clear hR
  obtain ⟨D', ec⟩ := R
  rintro e w3 ⟨rfl, hD4, hL4, hO4⟩
  simp only at hD4 hL4 HA
  have HD4 := Lib.hid hD4
  have HL4 := Lib.hid hL4
  have HO4 := Lib.hid (((HO3.out.into (T := [lp, pd, bl, bm]) (by simp))).same hO4)
  clear hD4 hL4 hO4
  go_wp2
  go_ret
  rw [HA.out]
  refine ⟨rfl, ?_, HD4.out, HO4.out⟩
  have := HL4.out
  by_cases hec : ec = 0
  · simp only [hec, if_true] at this ⊢; exact this
  · simp only [hec, if_false] at this ⊢; exact this

end Go.Proofs.Ytdfnclfmmohpeaa
