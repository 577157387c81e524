/-
  The function write of the package wal, by a contract over a disk that may die of it.
-/
import Derived.Test.YtfampoblcielpaaGreatWalF
import Derived.Test.YtfampoblcielpaaGreatPairA
import Derived.BigRegion
namespace Go.Proofs.YtfampoblcielpaaGreat
set_option maxRecDepth 100000
open Go.RowKit

/-- Sectors written from one on, as long as they are OK, and flushed. -/
def wrM (D : DS) (x : Nat) : List (List UInt8) → DS × Int
  | [] => D.flushR
  | b :: l => if (D.writeR x b).2 = 0 then wrM (D.writeR x b).1 (x + 1) l else D.writeR x b

/-- The sectors of a record. -/
def secsB (g r : Int) (b : List UInt8) : List (List UInt8) := (cutP g r b).map bytesB
theorem length_secsB (g r : Int) (b : List UInt8) : (secsB g r b).length = partsN b.length := by simp [secsB, length_cutP]

theorem calm_write {D : DS} {K : Int} {x : Int} {l : List UInt8} (h : D.calm K) : (D.writeR x l).1.calm (K + 1) := by
  obtain ⟨h1, h2, h3, h4⟩ := h
  unfold DS.writeR
  split
  · exact ⟨h1, h2, h3, by show D.ops ≤ K + 1; omega⟩
  · split
    · exact ⟨h1, h2, h3, by show D.ops ≤ K + 1; omega⟩
    · split
      · exact ⟨by simp, by simp, h3, by show D.ops ≤ K + 1; omega⟩
      · refine ⟨?_, ?_, ?_, ?_⟩ <;> simp only [DS.put, burnt] <;> (try split) <;> omega

theorem write_n {D : DS} {x : Int} {l : List UInt8} : (D.writeR x l).1.n = D.n := by
  unfold DS.writeR DS.put
  split
  · rfl
  · split
    · rfl
    · split <;> rfl

theorem bytes_okI (w : World) (g r n o : Int) (a : Option Addr) (k cap : Nat) (d : List UInt8) (hm : okB ⟨g, r, n, o, d⟩ = true) (hs : Src w a k d) :
    Calls Tryz.prog 58 #[.agg #[.int .i64 g, .int .i64 r, .int .i64 n, .int .i64 o, .slice a k cap]] w (BytesTo w ⟨g, r, n, o, d⟩) := by
  obtain ⟨⟨h1, h2, h3, h4⟩, h5, h6, h7, h8, h9⟩ := okB_iff.1 hm
  simp only at h1 h2 h3 h4 h5 h6 h7 h8
  obtain ⟨g', rfl⟩ := Int.eq_ofNat_of_zero_le (show 0 ≤ g by omega)
  obtain ⟨r', rfl⟩ := Int.eq_ofNat_of_zero_le h3
  obtain ⟨n', rfl⟩ := Int.eq_ofNat_of_zero_le h7
  obtain ⟨o', rfl⟩ := Int.eq_ofNat_of_zero_le (show 0 ≤ o by omega)
  exact bytes_ok w g' r' n' o' a k cap d hm hs

/-- What write answers. -/
def WriteTo (w : World) (lp pd bl bm : Nat) (L : LS) (R : DS × Int) (g : Int) (h nx : Nat) (r : Int) (e : Ending) (w' : World) : Prop :=
  e = .returned (.int .i64 R.2) ∧ DiskAt w' pd bl bm R.1 ∧ LogAt w' lp pd (if R.2 = 0 then { L with gen := g, half := h, next := nx, seq := r + 1 } else L) ∧ Only [lp, pd, bl, bm] w w'

set_option maxHeartbeats 4000000 in
theorem write_parts (w : World) (lp pd bl bm gl gw : Nat) (L : LS) (D : DS) (K : Int) (half at_ : Nat) (g r : Int) (b : List UInt8) (h : LogAt w lp pd L) (hd : DiskAt w pd bl bm D) (hc : D.calm K) (hK : K < 100000) (hm : mayB g r = true) (hl : partsN b.length ≤ 255)
    (hp : ∀ i, i < partsN b.length → w.rangeAt gl (i * 5) (partC g r (i : Nat) (partsN b.length : Nat) (some ⟨gw, i * 52, none⟩) 52 52)) (hw : IsBlk w gw (.cells (bv (wholeB b)).toArray 5)) (hgl : gl < w.heap.size)
    (hS1 : gl ∉ [lp, pd, bl, bm]) (hS2 : gw ∉ [lp, pd, bl, bm]) (hlp : lp ∉ [pd, bl, bm]) (hh : half ≤ 1) (hsz : L.size ≤ 1000) (hat : at_ ≤ 1000) :
    Calls Tryz.prog 36 #[.pointer (some ⟨lp, 0, none⟩), .int .i64 half, .int .i64 at_, .slice (some ⟨gl, 0, none⟩) (partsN b.length) (partsN b.length)] w
      (WriteTo w lp pd bl bm L (wrM D (half * L.size + at_) (secsB g r b)) g half (at_ + partsN b.length) r) := by
  have hpos := partsN_pos b.length
  have H := Lib.hid h
  have Hd := Lib.hid hd
  have Hp := Lib.hid hp
  have Hw := Lib.hid hw
  have Hc := Lib.hid hc
  have Hcut : Hid (∀ j : Nat, j < partsN b.length → okB ⟨g, r, (j : Int), (partsN b.length : Int), pieceB (wholeB b) j⟩ = true) := Lib.hid (fun j hj => cut_okB (b := b) hm hl hj)
  have Hsec : Hid (∀ j, j < partsN b.length → (secsB g r b)[j]? = some (bytesB ⟨g, r, j, partsN b.length, pieceB (wholeB b) j⟩)) := Lib.hid (fun j hj => by
    simp only [secsB, cutP, List.getElem?_map, List.getElem?_range hj, Option.map_some])
  have Hlen := Lib.hid (length_secsB g r b)
  have Hwl := Lib.hid (length_wholeB b)
  obtain ⟨-, -, hr0, hr1⟩ := mayB_iff.1 hm
  clear h hd hp hw hc hm
  generalize hk : partsN b.length = k at *
  clear hk
  go_enter Tryz.func36, Tryz.ntmps36
  go_wp2_with fail
  go_loopw [18] (fun i wr => ∃ (j : Nat) (Dj : DS), j ≤ k ∧ i = .int .i64 j ∧ DiskAt wr pd bl bm Dj ∧ Dj.calm (K + j) ∧ LogAt wr lp pd L ∧ Only [pd, bl, bm] w wr ∧ wrM D (half * L.size + at_) (secsB g r b) = wrM Dj (half * L.size + at_ + j) ((secsB g r b).drop j)) (fun i _ => k - (intOf i).toNat)
  case atStart => exact ⟨0, D, Nat.zero_le _, rfl, Hd.out, by simpa using Hc.out, H.out, Only.refl _ _, by simp⟩
  case round =>
    obtain ⟨j, Dj, hj, rfl, hD, hcj, hL, hO, hwr⟩ := hrel
    have HD := Lib.hid hD
    have Hcj := Lib.hid hcj
    have HL := Lib.hid hL
    have HO := Lib.hid hO
    have Hwr := Lib.hid hwr
    have hszr := hO.size
    clear hD hcj hL hO hwr
    by_cases hlt : j < k
    · have hlti : (j : Int) < (k : Int) := by omega
      have hr := rangeAt_only (Hp.out j hlt) HO.out hgl (by simp at hS1 ⊢; exact ⟨hS1.2.1, hS1.2.2.1, hS1.2.2.2⟩)
      have k0 : wr.cell? ⟨gl, j * 5, none⟩ = some (.int .i64 g) := hr 0 _ rfl
      have k1 : wr.cell? ⟨gl, j * 5 + 1, none⟩ = some (.int .i64 r) := hr 1 _ rfl
      have k2 : wr.cell? ⟨gl, j * 5 + 2, none⟩ = some (.int .i64 j) := hr 2 _ rfl
      have k3 : wr.cell? ⟨gl, j * 5 + 3, none⟩ = some (.int .i64 k) := hr 3 _ rfl
      have k4 : wr.cell? ⟨gl, j * 5 + 4, none⟩ = some (.slice (some ⟨gw, j * 52, none⟩) 52 52) := hr 4 _ rfl
      clear hr
      have hgw : gw ∉ [pd, bl, bm] := by simp at hS2 ⊢; exact ⟨hS2.2.1, hS2.2.2.1, hS2.2.2.2⟩
      have hbw : IsBlk wr gw (.cells (bv (wholeB b)).toArray 5) := Hw.out.only HO.out hgw
      have hsrc : Src wr (some ⟨gw, j * 52, none⟩) 52 (pieceB (wholeB b) j) := src_blk hbw (j * 52) 52 (by rw [Hwl.out]; omega)
      have Hsrc := Lib.hid hsrc
      have hokj := Hcut.out j hlt
      have hsj := Lib.hid (Hsec.out j hlt)
      have hblen : Hid ((bytesB ⟨g, r, j, k, pieceB (wholeB b) j⟩).length = 64) := Lib.hid (length_bytesB (okB_iff.1 hokj).2.2.2.2.2)
      clear hsrc hbw
      have d0 := HL.out.c0
      have d1 := HL.out.c1
      go_wp2_with fail
      refine (bytes_okI _ g r j k _ 52 52 _ hokj (Hsrc.out.more ((Only.refl [] wr).alloc _))).mono ?_
      rintro e w1 ⟨gb, rfl, hb1, hg1, hO1⟩
      have hO1' : Only [] wr w1 := ((Only.refl [] wr).alloc _).plus hO1
      have hg1' : wr.heap.size ≤ gb := by simp at hg1; omega
      have hs1 : Src w1 (some ⟨gb, 0, none⟩) 64 (bytesB ⟨g, r, j, k, pieceB (wholeB b) j⟩) := by
        have := src_blk hb1 0 64 (by rw [hblen.out]; omega)
        rwa [List.drop_zero, List.take_of_length_le (by rw [hblen.out]; omega)] at this
      have hL1 := HL.out.more hO1'
      have hD1 := HD.out.more hO1'
      generalize hX : bytesB ⟨g, r, j, k, pieceB (wholeB b) j⟩ = X at *
      have em : (half : Int) * (L.size : Int) = ((half * L.size : Nat) : Int) := by simp
      have hsz2 : half * L.size ≤ 1000 := by
        rcases Nat.le_one_iff_eq_zero_or_eq_one.1 hh with rfl | rfl <;> omega
      obtain ⟨x, hx⟩ : ∃ x, x = half * L.size + at_ + j := ⟨_, rfl⟩
      have Hx := Lib.hid hx
      have HD2 := Lib.hid (hD1.more (Only.refl [] w1).drew)
      have HL2 := Lib.hid (hL1.more (Only.refl [] w1).drew)
      have Hs2 := Lib.hid (hs1.more (Only.refl [] w1).drew)
      have hO2 : Hid (Only [] wr w1.drew) := Lib.hid (hO1'.plus (Only.refl [] w1).drew)
      have e0 : w1.drew.cell? ⟨lp, 0, none⟩ = some (.pointer (some ⟨pd, 0, none⟩)) := HL2.out.c0
      have e1 : w1.drew.cell? ⟨lp, 1, none⟩ = some (.int .i64 L.size) := HL2.out.c1
      have hpd := HD.out.plt
      clear hO1 hO1' hb1 hg1 hs1 hL1 hD1 d0 d1 k0 k1 k2 k3 k4 Hsrc hX hx
      go_wp2_with fail
      refine still_tail 15 (by kernel_rfl) (by kernel_rfl) ?_
      simp only [List.take_succ_cons, List.take_zero, List.drop_succ_cons, List.drop_zero]
      generalize w1.drew = w2 at *
      generalize hat2 : half * L.size = hl2 at *
      have Hat2 := Lib.hid hat2
      clear hat2
      have hw1 : IntKind.i64.wrap (hl2 : Int) = (hl2 : Int) := wrap_nat hl2 (by omega)
      iterate 15 still_step
      refine wpStill_nil ?_
      go_wp2_with fail
      have ex : (hl2 : Int) + (at_ : Int) + (j : Int) = ((hl2 + at_ + j : Nat) : Int) := by omega
      rw [ex]
      clear ex
      have Hun : Hid (wrM Dj (hl2 + at_ + j) ((secsB g r b).drop j) = if (Dj.writeR (hl2 + at_ + j : Nat) X).2 = 0 then wrM (Dj.writeR (hl2 + at_ + j : Nat) X).1 (hl2 + at_ + j + 1) ((secsB g r b).drop (j + 1)) else Dj.writeR (hl2 + at_ + j : Nat) X) := Lib.hid (by
        have hjl : j < (secsB g r b).length := by rw [Hlen.out]; exact hlt
        have e1 : (secsB g r b)[j] = X := by have := hsj.out; rw [List.getElem?_eq_getElem hjl] at this; injection this
        rw [List.drop_eq_getElem_cons hjl, e1]; rfl)
      have Hcn := Lib.hid (calm_write (x := ((hl2 + at_ + j : Nat) : Int)) (l := X) Hcj.out)
      refine (write_any _ pd bl bm Dj _ _ 64 64 X (K + j) HD2.out Hcj.out (by omega) Hs2.out (fun _ b' o e => by injection e with e; injection e with e1 e2; omega)).mono ?_
      generalize hW : Dj.writeR ((hl2 + at_ + j : Nat) : Int) X = R at *
      clear hW
      obtain ⟨D', ec⟩ := R
      rintro e w3 ⟨rfl, hD3, hO3⟩
      simp only at hD3 Hun Hcn
      have hlp3 : lp ∉ [pd, bl, bm] := hlp
      have hL3 := HL2.out.keep hO3 hlp3
      have hO3' : Only [pd, bl, bm] w w3 := (HO.out.plus hO2.out).same hO3
      have HL3 := Lib.hid hL3
      have HD3 := Lib.hid hD3
      have HO3 := Lib.hid hO3'
      clear hL3 hD3 hO3' hO3 e0 e1
      by_cases hec : ec = 0
      · subst hec
        go_wp2_with fail
        go_roundw
        case rel => exact ⟨j + 1, D', by omega, by go_num, HD3.out, by have := Hcn.out; rw [show K + ((j + 1 : Nat) : Int) = K + (j : Int) + 1 by omega]; exact this, HL3.out, HO3.out, by rw [Hat2.out, Hwr.out, Hun.out]; first | rw [if_pos rfl] | rw [if_pos trivial]; rfl⟩
        case measure => simp [intOf]; omega
      · have hecb : (ec != 0) = true := by simpa using hec
        have Hfin := Lib.hid (Hwr.out.trans (Hun.out.trans (if_neg hec)))
        have hne : Hid (¬ ec = 0) := Lib.hid hec
        clear hec
        go_wp2
        go_ret
        rw [Hat2.out, Hfin.out]
        exact ⟨rfl, HD3.out, by simp only; rw [if_neg hne.out]; exact HL3.out, HO3.out.into (by simp)⟩
    · have hge : ¬ (j : Int) < (k : Int) := by omega
      obtain rfl : j = k := by omega
      have d0 := HL.out.c0
      have Hun : Hid (wrM Dj (half * L.size + at_ + j) ((secsB g r b).drop j) = Dj.flushR) := Lib.hid (by
        rw [List.drop_eq_nil_of_le (by rw [Hlen.out]; exact Nat.le_refl _)]; rfl)
      have Hfin := Lib.hid (Hwr.out.trans Hun.out)
      go_wp2_with fail
      refine (flush_any _ pd bl bm Dj (K + j) HD.out Hcj.out (by omega)).mono ?_
      generalize hW : Dj.flushR = R at *
      clear hW
      obtain ⟨D', ec⟩ := R
      rintro e w3 ⟨rfl, hD3, hO3⟩
      simp only at hD3
      have hL3 := HL.out.keep hO3 hlp
      have hO3' : Only [pd, bl, bm] w w3 := HO.out.same hO3
      have HD3 := Lib.hid hD3
      have HO3 := Lib.hid hO3'
      have HL3 := Lib.hid hL3
      clear hD3 hO3' hL3 hO3 d0
      by_cases hec : ec = 0
      · subst hec
        have hr := rangeAt_only (Hp.out 0 hpos) HO3.out hgl (by simp at hS1 ⊢; exact ⟨hS1.2.1, hS1.2.2.1, hS1.2.2.2⟩)
        rw [Nat.zero_mul] at hr
        have k0 : w3.cell? ⟨gl, 0, none⟩ = some (.int .i64 g) := hr 0 _ rfl
        have k1 : w3.cell? ⟨gl, 0 + 1, none⟩ = some (.int .i64 r) := hr 1 _ rfl
        have k2 : w3.cell? ⟨gl, 0 + 2, none⟩ = some (.int .i64 (0 : Nat)) := hr 2 _ rfl
        have k3 : w3.cell? ⟨gl, 0 + 3, none⟩ = some (.int .i64 j) := hr 3 _ rfl
        have k4 : w3.cell? ⟨gl, 0 + 4, none⟩ = some (.slice (some ⟨gw, 0 * 52, none⟩) 52 52) := hr 4 _ rfl
        simp at k1 k2 k3 k4
        have hpi : (0 : Int) < (j : Int) := by omega
        go_wp2_with fail
        have hA : Only [] w3 (w3.alloc (.cells #[.int .i64 g, .int .i64 r, .int .i64 0, .int .i64 j, .slice (some ⟨gw, 0, none⟩) 52 52] 102)) := (Only.refl [] w3).alloc _
        have hbx := IsBlk.made w3 (.cells #[.int .i64 g, .int .i64 r, .int .i64 0, .int .i64 j, .slice (some ⟨gw, 0, none⟩) 52 52] 102)
        have hL4 := HL3.out.more hA
        have HD4 := Lib.hid (HD3.out.more hA)
        have HO4 := Lib.hid (HO3.out.plus hA)
        generalize w3.alloc (.cells #[.int .i64 g, .int .i64 r, .int .i64 0, .int .i64 j, .slice (some ⟨gw, 0, none⟩) 52 52] 102) = W at *
        have hbl : Hid (lp < w3.heap.size) := Lib.hid (IsBlk.lt HL3.out)
        generalize hq : w3.heap.size = q at *
        have b0 : W.cell? ⟨q, 0, none⟩ = some (.int .i64 g) := hbx.cell 0
        have b1 : W.cell? ⟨q, 1, none⟩ = some (.int .i64 r) := hbx.cell 1
        have l3 := hL4.c3
        have l4 := hL4.c4
        have l5 := hL4.c5
        have l6 := hL4.c6
        have f3 := hL4.fz 3
        have f4 := hL4.fz 4
        have f5 := hL4.fz 5
        have f6 := hL4.fz 6
        have hqlp : lp ≠ q := by have := hbl.out; omega
        have HL4 := Lib.hid hL4
        clear hL4 hbx hA k0 k1 k2 k3 k4 hq HL3 HD3 HO3
        go_region
        have hL5 := (((HL4.out.put3 g).put4 half).put5 (at_ + j)).put6 (r + 1)
        have ea : ((at_ + j : Nat) : Int) = (at_ : Int) + (j : Int) := by omega
        rw [ea] at hL5
        have hO5 : Only [lp] W ((((W.setCell ⟨lp, 3, none⟩ (.int .i64 g)).setCell ⟨lp, 4, none⟩ (.int .i64 half)).setCell ⟨lp, 5, none⟩ (.int .i64 ((at_ : Int) + (j : Int)))).setCell ⟨lp, 6, none⟩ (.int .i64 (r + 1))).drew := (((((Only.refl _ W).setCell (by simp) _).setCell (by simp) _).setCell (by simp) _).setCell (by simp) _).drew
        have hL6 := LogAt.more hL5 (Only.refl [] _).drew
        generalize ((((W.setCell ⟨lp, 3, none⟩ (.int .i64 g)).setCell ⟨lp, 4, none⟩ (.int .i64 half)).setCell ⟨lp, 5, none⟩ (.int .i64 ((at_ : Int) + (j : Int)))).setCell ⟨lp, 6, none⟩ (.int .i64 (r + 1))).drew = W6 at *
        clear hL5 b0 b1 l3 l4 l5 l6 f3 f4 f5 f6
        have hD6 := HD4.out.keep hO5 (by simp at hlp ⊢; exact Ne.symm hlp.1) (by simp at hlp ⊢; exact Ne.symm hlp.2.1) (by simp at hlp ⊢; exact Ne.symm hlp.2.2)
        have HL6 := Lib.hid hL6
        clear hL6
        go_wp2
        go_ret
        rw [Hfin.out]
        exact ⟨rfl, hD6, by simpa using HL6.out, HO4.out.then hO5 _ (by simp) (by simp)⟩
      · have hecb : (ec != 0) = true := by simpa using hec
        have hne : Hid (¬ ec = 0) := Lib.hid hec
        clear hec
        go_wp2
        go_ret
        rw [Hfin.out]
        exact ⟨rfl, HD3.out, by simp only; rw [if_neg hne.out]; exact HL3.out, HO3.out.into (by simp)⟩

end Go.Proofs.YtfampoblcielpaaGreat
