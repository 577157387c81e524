/-
  Facts for the laws' walks; the walk of the law SectOwn.
-/
import Derived.Test.YtiegkdkbkkbjpaaSectK
namespace Go.Proofs.Ytiegkdkbkkbjpaa
open Go.RowKit

/-- The Parts of b, as Cut lays them. -/
structure CutAt (w : World) (gl gw : Nat) (g r : Int) (b : List UInt8) (k : Nat) : Prop where
  ps : ∀ i, i < k → w.rangeAt gl (i * 5) (partC g r (i : Nat) (k : Nat) (some ⟨gw, i * 52, none⟩) 52 52)
  blk : IsBlk w gw (.cells (bv (wholeB b)).toArray 5)
  lt : gl < w.heap.size
  num : k = partsN b.length
theorem CutAt.keep {S : List Nat} {w w' : World} {gl gw : Nat} {g r : Int} {b : List UInt8} {k : Nat} (h : CutAt w gl gw g r b k) (hO : Only S w w') (h1 : gl ∉ S) (h2 : gw ∉ S) : CutAt w' gl gw g r b k :=
  ⟨fun i hi => rangeAt_only (h.ps i hi) hO h.lt h1, h.blk.only hO h2, Nat.lt_of_lt_of_le h.lt hO.size, h.num⟩
theorem CutAt.parts {w : World} {gl gw : Nat} {g r : Int} {b : List UInt8} {k : Nat} (h : CutAt w gl gw g r b k) : PartsAt w (some ⟨gl, 0, none⟩) k (cutP g r b) := by
  refine ⟨by rw [length_cutP, h.num], fun _ => ⟨gl, 0, rfl, h.lt, fun i p hp => ?_⟩⟩
  obtain ⟨rfl, hi⟩ := cutP_get g r b i p hp
  rw [← h.num] at hi
  have hpl : (pieceB (wholeB b) i).length = 52 := length_pieceB _ _ (by rw [length_wholeB, ← h.num]; omega)
  refine ⟨some ⟨gw, i * 52, none⟩, 52, ?_, ?_⟩
  · have := h.ps i hi
    simp only [hpl, ← h.num]
    rw [Nat.zero_add]; exact this
  · have := src_blk h.blk (i * 52) 52 (by rw [length_wholeB, ← h.num]; omega)
    simp only [hpl]
    exact this

/-- Bytes that may be written, in a row somewhere. -/
def ByteRow (w : World) (g o len : Nat) : Prop := (∃ cur, IsBlk w g (.cells cur 5)) ∧ ∃ L : List UInt8, L.length = len ∧ w.rangeAt g o (bv L)
theorem ByteRow.put {w : World} {g o len : Nat} (h : ByteRow w g o len) (i m : Nat) (hi : i < len) (hm : m < 256) : ByteRow (w.setCell ⟨g, o + i, none⟩ (.int .u8 (m : Int))) g o len := by
  obtain ⟨⟨cur, hb⟩, L, hL, hr⟩ := h
  refine ⟨⟨_, hb.put (o + i) _⟩, L.set i (UInt8.ofNat m), by simpa using hL, fun j v hv => ?_⟩
  rw [(hb.put (o + i) _).cell]
  rw [bv_set, List.getElem?_set] at hv
  have hoi : o + i < cur.size := by
    have := hr i (.int .u8 (L[i]'(by omega)).toNat) (by simp [bv, List.getElem?_eq_getElem (show i < L.length by omega)])
    rw [hb.cell] at this
    exact (Array.getElem?_eq_some_iff.1 this).1
  by_cases hij : i = j
  · subst hij
    rw [if_pos rfl] at hv
    split at hv
    · rw [← hv, Array.getElem?_setIfInBounds_self_of_lt hoi]
      simp; omega
    · cases hv
  · rw [if_neg hij] at hv
    rw [Array.getElem?_setIfInBounds_ne (by omega), ← hb.cell]
    exact hr j v hv
theorem ByteRow.cell {w : World} {g o len : Nat} (h : ByteRow w g o len) (i : Nat) (hi : i < len) : (∃ m : Nat, m < 256 ∧ w.cell? ⟨g, o + i, none⟩ = some (.int .u8 (m : Int))) ∧ w.frozen? ⟨g, o + i, none⟩ = false := by
  obtain ⟨⟨cur, hb⟩, L, hL, hr⟩ := h
  exact ⟨⟨(L[i]'(by omega)).toNat, UInt8.toNat_lt _, Src.cell hr i (by omega)⟩, hb.notFrozen _⟩
/-- The block of a slice that may be written. -/
def ownA (a : Option Addr) : List Nat := match a with | some ⟨b, _, none⟩ => [b] | _ => []
theorem ownA_at {a : Option Addr} {x : Nat} (h : x ∈ ownA a) : ∃ y, a = some ⟨x, y, none⟩ := by
  unfold ownA at h
  split at h
  · simp at h; subst h; exact ⟨_, rfl⟩
  · simp at h
def Bump (w : World) (a : Option Addr) (len : Nat) : Prop := 0 < len → ∃ x y, a = some ⟨x, y, none⟩ ∧ ByteRow w x y len
theorem OwnB.notNil {w : World} {base : Nat} {v : Value} {l : List UInt8} (h : OwnB w base v l) (hne : v ≠ .slice none 0 0) : ∃ g cap cur, v = .slice (some ⟨g, 0, none⟩) l.length cap ∧ base ≤ g ∧ IsBlk w g (.cells cur 5) ∧ l.length ≤ cap ∧ w.rangeAt g 0 (bv l) := by
  rcases h.2 with ⟨rfl, h0⟩ | ⟨g, cap, cur, rfl, hb, hg, hnc, _, hsz, htake⟩
  · exact absurd rfl hne
  · refine ⟨g, cap, cur, rfl, hb, hg, hnc, fun j u hu => ?_⟩
    have := World.ownsRow.cells h (g := g) rfl j u hu
    rw [Addr.add_mid] at this
    exact this

theorem ByteRow.putI {w : World} {g o len : Nat} (h : ByteRow w g o len) (i : Nat) (z : Int) (hi : i < len) : ByteRow (w.setCell ⟨g, o + i, none⟩ (.int .u8 (z % 256))) g o len := by
  have h0 := Int.emod_nonneg z (show (256 : Int) ≠ 0 by omega)
  have h1 := Int.emod_lt_of_pos z (show (0 : Int) < 256 by omega)
  obtain ⟨t, ht⟩ := Int.eq_ofNat_of_zero_le h0
  rw [ht]
  exact h.put i t hi (by omega)
theorem Src.row {w : World} {a : Option Addr} {len : Nat} {l : List UInt8} (h : Src w a len l) (hb : ∀ x y, a = some ⟨x, y, none⟩ → ∃ cur, IsBlk w x (.cells cur 5)) : Bump w a len := fun hp => by
  obtain ⟨x, y, rfl, _, hr⟩ := h.2 hp
  exact ⟨x, y, rfl, hb x y rfl, l, h.1, hr⟩
theorem partsN_small {n : Nat} (h : n ≤ 13256) : partsN n ≤ 255 := by unfold partsN; omega

set_option maxHeartbeats 8000000 in
theorem own_walk (a : Option Addr) (len cap : Nat) (l : List UInt8) (by' : Int) (w : World) (h : Src w a len l) :
    Calls Try.prog 11 #[.slice a len cap, .int .u8 by'] w fun e w' => e = .returned (.bool true) ∧ Only [] w w' := by
  have hlen := h.1
  subst hlen
  by_cases hl : l.length > 300
  · have hli : (300 : Int) < (l.length : Int) := by omega
    go_enter Try.func11, Try.ntmps11
    go_wp2_with fail
    refine (known_any _).mono ?_
    rintro e w1 ⟨rfl, hO⟩
    go_wp2
    go_ret
    exact ⟨rfl, hO⟩
  · have hli : ¬ (300 : Int) < (l.length : Int) := by omega
    have H := Lib.hid h
    clear h
    go_enter Try.func11, Try.ntmps11
    go_wp2_with fail
    refine (known_any _).mono ?_
    rintro e w1 ⟨rfl, hO1⟩
    have hs1 := fun ob => Lib.hid (H.out.more (hO1.alloc ob))
    have HO1 := Lib.hid hO1
    have hsz1 := hO1.size
    clear hO1
    go_wp2_with (at_builtin; refine wpList_append_b rfl _ _ rfl w1.heap.size _ [] rfl (OwnB.empty w1 w1.heap.size (Nat.le_refl _)) a l.length cap l rfl (hs1 _).out (by simp; omega) (by simp) ?_; intro v' w2 h2 h3 h4; obtain ⟨g, xcap, cur, rfl, hg, hb2, hcp, hr2⟩ := h2.notNil (fun e => by have := h4 e; simp [Act.eval] at this); clear h4)
    have hO2 : Only [] w w2 := HO1.out.then (only_below (((Below.refl _ _).alloc (Nat.le_refl _) _).trans h3)) [] (by simp) (by simp)
    have hs2 := rangeSrc hr2 hb2.lt
    have hg2 := hb2.lt
    have Hr2 := Lib.hid hr2
    have Hb2 := Lib.hid hb2
    have HO2 := Lib.hid hO2
    clear h2 h3 hO2 hb2 hr2 hs1 HO1
    refine (cut_ok _ 1 0 _ xcap l hs2 rfl (partsN_small (by omega))).mono ?_
    rintro e w3 ⟨gl, gw, rfl, hps, hbw, hw1, hw2, hw3, hO3⟩
    have hC3 : CutAt w3 gl gw 1 0 l (partsN l.length) := ⟨hps, hbw, hw3, rfl⟩
    have hrow : ByteRow w3 g 0 l.length := ⟨⟨_, Hb2.out.only hO3 (by simp)⟩, l, rfl, rangeAt_only Hr2.out hO3 hg2 (by simp)⟩
    have hO3' : Only [] w w3 := HO2.out.then hO3 [] (by simp) (by simp)
    have hkp : partsN l.length ≤ 255 := partsN_small (by omega)
    generalize partsN l.length = k at *
    have HC3 := Lib.hid hC3
    have Hrow := Lib.hid hrow
    have HO3 := Lib.hid hO3'
    clear hps hbw hC3 hrow hO3' hO3 hs2 HO2 Hb2 Hr2
    go_wp2_with fail
    go_loopw [8] (fun i wr => ∃ j : Nat, j ≤ l.length ∧ i = .int .i64 j ∧ ByteRow wr g 0 l.length ∧ Only [g] w3 wr) (fun i _ => l.length - (intOf i).toNat)
    case atStart => exact ⟨0, Nat.zero_le _, rfl, Hrow.out, Only.refl _ _⟩
    case round =>
      obtain ⟨j, hj, rfl, hbr, hOr⟩ := hrel
      have Hbr := Lib.hid hbr
      have HOr := Lib.hid hOr
      clear hOr
      by_cases hlt : j < l.length
      · have hlti : (j : Int) < (l.length : Int) := by omega
        obtain ⟨⟨m, hm, hc⟩, hf⟩ := hbr.cell j hlt
        rw [Nat.zero_add] at hc hf
        clear hbr
        go_wp2
        go_roundw
        case rel => exact ⟨j + 1, by omega, by go_num, by have := Hbr.out.putI j (m + by') hlt; rw [Nat.zero_add] at this; exact this, HOr.out.setCell (by simp) _⟩
        case measure => simp [intOf]; omega
      · have hge : ¬ (j : Int) < (l.length : Int) := by omega
        obtain rfl : j = l.length := by omega
        have hC4 := HC3.out.keep HOr.out (by simp; omega) (by simp; omega)
        have hO4 : Only [] w wr := HO3.out.then HOr.out [] (by simp) (by simp; omega)
        have HC4 := Lib.hid hC4
        have HO4 := Lib.hid hO4
        clear hbr Hbr HOr HC3 HO3 Hrow hC4 hO4
        go_wp2_with fail
        refine (join_any _ _ k k _ HC4.out.parts (by omega)).mono ?_
        rw [join_cut (g := 1) (r := 0) (b := l) rfl (by rw [← HC4.out.num]; exact hkp)]
        rintro e w5 ⟨ja, rfl, hsj, hnew, hO5⟩
        have hO5' : Only [] w w5 := HO4.out.then hO5 [] (by simp) (by simp)
        have cv1 := conv_src w5 ja l.length l.length l hsj
        have cv2 := conv_src w5 a l.length cap l (H.out.more hO5')
        have hC5 := HC4.out.keep hO5 (by simp) (by simp)
        have hbump := hsj.row (fun x y e => (hnew x y e).2)
        have hlt4 := HC4.out.lt
        have HO3s : Hid (w.heap.size ≤ gl) := Lib.hid (by omega)
        have HC5 := Lib.hid hC5
        have HO5 := Lib.hid hO5'
        have Hbump := Lib.hid hbump
        have Hnew := Lib.hid hnew
        have heq : ((strB l).toList == (strB l).toList) = true := by simp
        clear hsj hnew hO5 hO5' hC5 hbump HC4 HO4
        go_wp2_with fail
        go_loopw [11] (fun i wx => ∃ j : Nat, j ≤ l.length ∧ i = .int .i64 j ∧ Bump wx ja l.length ∧ Only (ownA ja) w5 wx) (fun i _ => l.length - (intOf i).toNat)
        case atStart => exact ⟨0, Nat.zero_le _, rfl, Hbump.out, Only.refl _ _⟩
        case round =>
          obtain ⟨j, hj, rfl, hbr, hOr⟩ := hrel
          have HOr := Lib.hid hOr
          clear hOr
          by_cases hlt : j < l.length
          · have hlti : (j : Int) < (l.length : Int) := by omega
            obtain ⟨x, y, rfl, hrow⟩ := hbr (by omega)
            obtain ⟨⟨m, hm, hc⟩, hf⟩ := hrow.cell j hlt
            have Hrow := Lib.hid hrow
            clear hbr hrow
            go_wp2
            go_roundw
            case rel => exact ⟨j + 1, by omega, by go_num, fun _ => ⟨x, y, rfl, Hrow.out.putI j (m + by') hlt⟩, HOr.out.setCell (by simp [ownA]) _⟩
            case measure => simp [intOf]; omega
          · have hge : ¬ (j : Int) < (l.length : Int) := by omega
            obtain rfl : j = l.length := by omega
            have hfar : ∀ x ∈ ownA ja, gl < x := fun x hx => by
              obtain ⟨y, e⟩ := ownA_at hx
              have := (Hnew.out x y e).1
              omega
            have hsz3 := HO3s.out
            have hC6 := HC5.out.keep HOr.out (fun hm => by have := hfar _ hm; omega) (fun hm => by have := hfar _ hm; omega)
            have hO6 : Only [] w wr := HO5.out.then HOr.out [] (by simp) (fun x hx => .inr (by have := hfar x hx; omega))
            have HC6 := Lib.hid hC6
            have HO6 := Lib.hid hO6
            clear hbr HOr HC5 HO5 Hbump hC6 hO6 Hnew hfar
            go_wp2_with fail
            refine (join_any _ _ k k _ HC6.out.parts (by omega)).mono ?_
            rw [join_cut (g := 1) (r := 0) (b := l) rfl (by rw [← HC6.out.num]; exact hkp)]
            rintro e w7 ⟨ka, rfl, hsk, _, hO7⟩
            have hO7' : Only [] w w7 := HO6.out.then hO7 [] (by simp) (by simp)
            have cv3 := conv_src w7 ka l.length l.length l hsk
            have cv4 := conv_src w7 a l.length cap l (H.out.more hO7')
            have HO7 := Lib.hid hO7'
            clear hsk hO7 hO7' cv1 cv2
            go_wp2
            go_ret
            exact ⟨rfl, HO7.out⟩

end Go.Proofs.Ytiegkdkbkkbjpaa
