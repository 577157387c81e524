/-
  The walk of the law SectBytes.
-/
import Derived.Test.YtiegkdkbkkbjpaaSectR
import Derived.Test.YtiegkdkbkkbjpaaSectS
namespace Go.Proofs.Ytiegkdkbkkbjpaa
open Go.RowKit

theorem refbytes_any (w : World) (p : PartM) (a : Option Addr) (k cap : Nat) (hs : Src w a k p.d) :
    Calls Try.prog 18 #[.agg #[.int .i64 p.g, .int .i64 p.r, .int .i64 p.n, .int .i64 p.o, .slice a k cap]] w fun e w' =>
      (okB p = true → ∃ x c, e = .returned (.tuple #[.slice (some ⟨x, 0, none⟩) 64 c, .int .i64 0]) ∧ Src w' (some ⟨x, 0, none⟩) 64 (bytesB p)) ∧ (okB p = false → e = .returned (.tuple #[.slice none 0 0, .int .i64 1])) ∧ Only [] w w' := by
  cases hok : okB p with
  | false => exact (refbytes_bad w p.g p.r p.n p.o a k cap p.d hs.1 hok).mono fun e w' ⟨h1, h2⟩ => ⟨(fun h => by cases h), fun _ => h1, h2⟩
  | true =>
    have h52 : k = 52 := by rw [← hs.1]; exact (okB_iff.1 hok).2.2.2.2.2
    subst h52
    refine (refbytes_P w p a cap hok hs).mono fun e w' ⟨v, h1, h2, h3⟩ => ⟨fun _ => ?_, (fun h => by cases h), h3⟩
    have hlen : (bytesB p).length = 64 := length_bytesB (okB_iff.1 hok).2.2.2.2.2
    obtain ⟨x, c, cur, rfl, _, hb, _, hr⟩ := h2.full (by omega)
    rw [hlen] at h1
    have := rangeSrc hr hb.lt
    rw [hlen] at this
    exact ⟨x, c, h1, this⟩
theorem bytes_any (w : World) (p : PartM) (a : Option Addr) (k cap : Nat) (hs : Src w a k p.d) :
    Calls Try.prog 16 #[.agg #[.int .i64 p.g, .int .i64 p.r, .int .i64 p.n, .int .i64 p.o, .slice a k cap]] w fun e w' =>
      (okB p = true → ∃ x, e = .returned (.tuple #[.slice (some ⟨x, 0, none⟩) 64 64, .int .i64 0]) ∧ Src w' (some ⟨x, 0, none⟩) 64 (bytesB p)) ∧ (okB p = false → e = .returned (.tuple #[.slice none 0 0, .int .i64 1])) ∧ Only [] w w' := by
  cases hok : okB p with
  | false => exact (bytes_bad w p.g p.r p.n p.o a k cap p.d hs.1 hok).mono fun e w' ⟨h1, h2⟩ => ⟨(fun h => by cases h), fun _ => h1, h2⟩
  | true =>
    have h52 : k = 52 := by rw [← hs.1]; exact (okB_iff.1 hok).2.2.2.2.2
    subst h52
    exact (bytes_P w p a cap hok hs).mono fun e w' ⟨x, h1, h2, _, h3⟩ => ⟨fun _ => ⟨x, h1, src_all h2 (length_bytesB (okB_iff.1 hok).2.2.2.2.2)⟩, (fun h => by cases h), h3⟩

section
variable {w W : World} {q : Nat} {g r n o : Int} {a : Option Addr} {k cap : Nat} {t : TypeId}
theorem PBox.set0 (h : PBox W q g r n o a k cap t) (x : Int) : PBox (W.setCell ⟨q, 0, none⟩ (.int .i64 x)) q x r n o a k cap t := IsBlk.put h 0 _
theorem PBox.set1 (h : PBox W q g r n o a k cap t) (x : Int) : PBox (W.setCell ⟨q, 1, none⟩ (.int .i64 x)) q g x n o a k cap t := IsBlk.put h 1 _
theorem PBox.set2 (h : PBox W q g r n o a k cap t) (x : Int) : PBox (W.setCell ⟨q, 2, none⟩ (.int .i64 x)) q g r x o a k cap t := IsBlk.put h 2 _
theorem PBox.set3 (h : PBox W q g r n o a k cap t) (x : Int) : PBox (W.setCell ⟨q, 3, none⟩ (.int .i64 x)) q g r n x a k cap t := IsBlk.put h 3 _
theorem PBox.set4 (h : PBox W q g r n o a k cap t) (b : Option Addr) (k' c' : Nat) : PBox (W.setCell ⟨q, 4, none⟩ (.slice b k' c')) q g r n o b k' c' t := IsBlk.put h 4 _
end
/-- What the switch leaves. -/
def Switched (w : World) (q : Nat) (wx : World) : Prop :=
  ∃ (p' : PartM) (a' : Option Addr) (cap' : Nat), PBox wx q p'.g p'.r p'.n p'.o a' p'.d.length cap' 28 ∧ Src wx a' p'.d.length p'.d ∧ Only [] w wx
theorem switched {w W wx : World} {q : Nat} {g r n o : Int} {a : Option Addr} {k cap : Nat} {d : List UInt8} (hq : PBox wx q g r n o a k cap 28) (hs : Src W a k d) (hO : Only [q] W wx) (hx : 0 < k → ∀ x y, a = some ⟨x, y, none⟩ → x ≠ q) (hw : Only [] w W) (hqw : w.heap.size ≤ q) : Switched w q wx := by
  have hk := hs.1
  subst hk
  exact ⟨⟨g, r, n, o, d⟩, a, cap, hq, hs.keep hO (fun hp x y e => by have := hx hp x y e; simpa using this), hw.then hO [] (by simp) (by simp; omega)⟩

set_option maxRecDepth 100000 in
set_option maxHeartbeats 8000000 in
theorem bytes_walk (gen rec' n of : Int) (a : Option Addr) (len cap : Nat) (l : List UInt8) (which raw : Int) (w : World) (h : Src w a len l) :
    Calls Try.prog 4 #[.int .i64 gen, .int .i64 rec', .int .i64 n, .int .i64 of, .slice a len cap, .int .i64 which, .int .i64 raw] w fun e w' => e = .returned (.bool true) ∧ Only [] w w' := by
  by_cases hl : len > 200
  · have hli : (200 : Int) < (len : Int) := by omega
    go_enter Try.func4, Try.ntmps4
    go_wp2_with fail
    refine (known_any _).mono ?_
    rintro e w1 ⟨rfl, hO⟩
    go_wp2
    go_ret
    exact ⟨rfl, hO⟩
  have hli : ¬ (200 : Int) < (len : Int) := by omega
  have hi0 := Int.emod_nonneg which (show (6 : Int) ≠ 0 by omega)
  have hi1 := Int.emod_lt_of_pos which (show (0 : Int) < 6 by omega)
  have hj0 := Int.emod_nonneg raw (show (3 : Int) ≠ 0 by omega)
  have hj1 := Int.emod_lt_of_pos raw (show (0 : Int) < 3 by omega)
  have H := Lib.hid h
  clear h
  have Hok := Lib.hid (makeP_ok gen rec' n of l)
  have hd52 := length_pad52 l
  go_enter Try.func4, Try.ntmps4
  go_wp2_with fail
  refine (known_any _).mono ?_
  rintro e w1 ⟨rfl, hO1⟩
  have hs1 := Lib.hid (H.out.more hO1)
  go_wp2_with fail
  refine (make_any _ gen rec' n of a len cap l hs1.out).mono ?_
  rintro e w2 ⟨gd, rfl, hb2, hg2, hO2⟩
  have hsd := src_all hb2 (show (makeP gen rec' n of l).d.length = 52 from hd52)
  have hO2' : Only [] w w2 := hO1.then hO2 [] (by simp) (by simp)
  have hgdlt := hb2.lt
  generalize makeP gen rec' n of l = p at *
  have hq := IsBlk.made w2 (.cells #[.int .i64 p.g, .int .i64 p.r, .int .i64 p.n, .int .i64 p.o, .slice (some ⟨gd, 0, none⟩) 52 52] 28)
  have hO3 := (Only.refl [] w2).alloc (.cells #[.int .i64 p.g, .int .i64 p.r, .int .i64 p.n, .int .i64 p.o, .slice (some ⟨gd, 0, none⟩) 52 52] 28)
  have hsd3 := hsd.more hO3
  have hO3' : Only [] w _ := hO2'.then hO3 [] (by simp) (by simp)
  have hsz2 := hO2'.size
  have Hq := Lib.hid hq
  have Hsd3 := Lib.hid hsd3
  have HO3 := Lib.hid hO3'
  clear hO1 hO2 hO2' hb2 hsd hs1 hd52 hq hsd3 hO3 hO3'
  go_upto_region 6 with fail
  generalize w2.alloc (.cells #[.int .i64 p.g, .int .i64 p.r, .int .i64 p.n, .int .i64 p.o, .slice (some ⟨gd, 0, none⟩) 52 52] 28) = w3 at *
  have hqlt := Hq.out.lt
  generalize w2.heap.size = q at *
  have c0 : w3.cell? ⟨q, 0, none⟩ = some (.int .i64 p.g) := IsBlk.cell Hq.out 0
  have c1 : w3.cell? ⟨q, 1, none⟩ = some (.int .i64 p.r) := IsBlk.cell Hq.out 1
  have c2 : w3.cell? ⟨q, 2, none⟩ = some (.int .i64 p.n) := IsBlk.cell Hq.out 2
  have c3 : w3.cell? ⟨q, 3, none⟩ = some (.int .i64 p.o) := IsBlk.cell Hq.out 3
  have c4 : w3.cell? ⟨q, 4, none⟩ = some (.slice (some ⟨gd, 0, none⟩) 52 52) := IsBlk.cell Hq.out 4
  go_wp2_with fail
  refine (bytes_P _ p _ 52 Hok.out Hsd3.out).mono ?_
  rintro e w4 ⟨gb, rfl, hb4, hg4, hO4⟩
  have hlen : (bytesB p).length = 64 := length_bytesB (okB_iff.1 Hok.out).2.2.2.2.2
  have hs4 := src_all hb4 hlen
  have Hs4 := Lib.hid hs4
  have HO4 := Lib.hid hO4
  have Hlen := Lib.hid hlen
  clear hb4 hs4 hO4 hlen c0 c1 c2 c3 c4
  go_wp2_with fail
  refine (parse_any _ gb 0 64 (by omega) _ Hs4.out).mono ?_
  rw [parse_bytes Hok.out]
  rintro e w5 ⟨ge, rfl, hb5, hl5, hg5, hO5⟩
  have hse := src_all hb5 hl5
  have hO35 : Only [] w3 w5 := HO4.out.then hO5 [] (by simp) (by simp)
  have hO6 := hO35.alloc (.cells #[.int .i64 p.g, .int .i64 p.r, .int .i64 p.n, .int .i64 p.o, .slice (some ⟨ge, 0, none⟩) 52 52] 33)
  have hx := IsBlk.made w5 (.cells #[.int .i64 p.g, .int .i64 p.r, .int .i64 p.n, .int .i64 p.o, .slice (some ⟨ge, 0, none⟩) 52 52] 33)
  have hs46 := Hs4.out.more (hO5.alloc (.cells #[.int .i64 p.g, .int .i64 p.r, .int .i64 p.n, .int .i64 p.o, .slice (some ⟨ge, 0, none⟩) 52 52] 33))
  have hse6 := hse.more ((Only.refl [] w5).alloc (.cells #[.int .i64 p.g, .int .i64 p.r, .int .i64 p.n, .int .i64 p.o, .slice (some ⟨ge, 0, none⟩) 52 52] 33))
  have HO6 := Lib.hid hO6
  have Hx := Lib.hid hx
  have Hs46 := Lib.hid hs46
  have Hse6 := Lib.hid hse6
  clear hO5 hO35 hO6 hx hs46 hse6 hse hb5 hl5 Hs4 HO4
  go_upto_region 8 with fail
  generalize w5.alloc (.cells #[.int .i64 p.g, .int .i64 p.r, .int .i64 p.n, .int .i64 p.o, .slice (some ⟨ge, 0, none⟩) 52 52] 33) = w6 at *
  have hxlt := Hx.out.lt
  generalize w5.heap.size = xq at *
  have hq6 := IsBlk.only Hq.out HO6.out (by simp)
  have d0 : w6.cell? ⟨q, 0, none⟩ = some (.int .i64 p.g) := IsBlk.cell hq6 0
  have d1 : w6.cell? ⟨q, 1, none⟩ = some (.int .i64 p.r) := IsBlk.cell hq6 1
  have d2 : w6.cell? ⟨q, 2, none⟩ = some (.int .i64 p.n) := IsBlk.cell hq6 2
  have d3 : w6.cell? ⟨q, 3, none⟩ = some (.int .i64 p.o) := IsBlk.cell hq6 3
  have d4 : w6.cell? ⟨q, 4, none⟩ = some (.slice (some ⟨gd, 0, none⟩) 52 52) := IsBlk.cell hq6 4
  clear hq6
  go_wp2_with fail
  refine (refbytes_any _ p _ 52 52 (Hsd3.out.more HO6.out)).mono ?_
  rintro e w7 ⟨hyes, _, hO7⟩
  obtain ⟨y, yc, rfl, hs7⟩ := hyes Hok.out
  have hO37 : Only [] w3 w7 := HO6.out.then hO7 [] (by simp) (by simp)
  have cv1 := conv_src w7 (some ⟨gb, 0, none⟩) 64 64 _ (Hs46.out.more hO7)
  have cv2 := conv_src w7 (some ⟨y, 0, none⟩) 64 yc _ hs7
  have hq7 := IsBlk.only Hq.out hO37 (by simp)
  have hx7 := IsBlk.only Hx.out hO7 (by simp)
  have e0 : w7.cell? ⟨q, 0, none⟩ = some (.int .i64 p.g) := IsBlk.cell hq7 0
  have e1 : w7.cell? ⟨q, 1, none⟩ = some (.int .i64 p.r) := IsBlk.cell hq7 1
  have e2 : w7.cell? ⟨q, 2, none⟩ = some (.int .i64 p.n) := IsBlk.cell hq7 2
  have e3 : w7.cell? ⟨q, 3, none⟩ = some (.int .i64 p.o) := IsBlk.cell hq7 3
  have e4 : w7.cell? ⟨q, 4, none⟩ = some (.slice (some ⟨gd, 0, none⟩) 52 52) := IsBlk.cell hq7 4
  have f0 : w7.cell? ⟨xq, 0, none⟩ = some (.int .i64 p.g) := IsBlk.cell hx7 0
  have f1 : w7.cell? ⟨xq, 1, none⟩ = some (.int .i64 p.r) := IsBlk.cell hx7 1
  have f2 : w7.cell? ⟨xq, 2, none⟩ = some (.int .i64 p.n) := IsBlk.cell hx7 2
  have f3 : w7.cell? ⟨xq, 3, none⟩ = some (.int .i64 p.o) := IsBlk.cell hx7 3
  have f4 : w7.cell? ⟨xq, 4, none⟩ = some (.slice (some ⟨ge, 0, none⟩) 52 52) := IsBlk.cell hx7 4
  have Hse7 := Lib.hid (Hse6.out.more hO7)
  have Hsd7 := Lib.hid (Hsd3.out.more hO37)
  have Hq7 := Lib.hid hq7
  have HO37 := Lib.hid hO37
  clear hyes hs7 hO7 hO37 hq7 hx7 d0 d1 d2 d3 d4
  go_wp2_with fail
  refine (same_eq _ p.g p.r p.n p.o _ _ 52 52 52 p.d Hse7.out Hsd7.out).mono ?_
  rintro e w8 ⟨rfl, hO8⟩
  have hO38 : Only [] w3 w8 := HO37.out.then hO8 [] (by simp) (by simp)
  have hq8 : PBox w8 q p.g p.r p.n p.o (some ⟨gd, 0, none⟩) 52 52 28 := IsBlk.only Hq7.out hO8 (by simp)
  have hs8 := Hsd7.out.more hO8
  have hO8w : Only [] w w8 := HO3.out.then hO38 [] (by simp) (by simp)
  have ha8 := H.out.more hO8w
  have Hq8 := Lib.hid hq8
  have Hs8 := Lib.hid hs8
  have Ha8 := Lib.hid ha8
  have HO8 := Lib.hid hO8w
  clear cv1 cv2 e0 e1 e2 e3 e4 f0 f1 f2 f3 f4 hO8 hO38 hq8 hs8 hO8w ha8 Hse7 Hsd7 Hq7 HO37 Hs46 Hse6 HO6 Hx Hq Hsd3 HO3
  go_wp2_with fail
  refine (within_any _ which 6 (by omega) (by omega)).mono ?_
  rintro e w' ⟨rfl, rfl⟩
  generalize which % 6 = m at *
  go_upto_block 0 with fail
  go_cut [83] (fun _ wx => Switched w q wx)
  case first =>
    have hc0 : w8.cell? ⟨q, 0, none⟩ = some (.int .i64 p.g) := IsBlk.cell Hq8.out 0
    have hc1 : w8.cell? ⟨q, 1, none⟩ = some (.int .i64 p.r) := IsBlk.cell Hq8.out 1
    have hc2 : w8.cell? ⟨q, 2, none⟩ = some (.int .i64 p.n) := IsBlk.cell Hq8.out 2
    have hc3 : w8.cell? ⟨q, 3, none⟩ = some (.int .i64 p.o) := IsBlk.cell Hq8.out 3
    have hc4 : w8.cell? ⟨q, 4, none⟩ = some (.slice (some ⟨gd, 0, none⟩) 52 52) := IsBlk.cell Hq8.out 4
    have hf0 := IsBlk.notFrozen Hq8.out 0
    have hf1 := IsBlk.notFrozen Hq8.out 1
    have hf2 := IsBlk.notFrozen Hq8.out 2
    have hf3 := IsBlk.notFrozen Hq8.out 3
    have hf4 := IsBlk.notFrozen Hq8.out 4
    have hq8l := IsBlk.lt Hq8.out
    have hqne : q ≠ w8.heap.size := by omega
    have hgdq : Hid (∀ x y, some (Addr.mk gd 0 none) = some ⟨x, y, none⟩ → x ≠ q) := Lib.hid (fun x y e => by injection e with e; injection e with e1; omega)
    have haq : Hid (0 < len → ∀ x y, a = some ⟨x, y, none⟩ → x ≠ q) := Lib.hid (fun hp x y e => by have := H.out.lt hp e; omega)
    have hqw : w.heap.size ≤ q := hsz2
    obtain rfl | rfl | rfl | rfl | rfl | rfl : m = 0 ∨ m = 1 ∨ m = 2 ∨ m = 3 ∨ m = 4 ∨ m = 5 := by omega
    · go_wp2_with fail
      refine (within_any _ raw 3 (by omega) (by omega)).mono ?_
      rintro e w' ⟨rfl, rfl⟩
      generalize raw % 3 = t at *
      obtain rfl | rfl | rfl : t = 0 ∨ t = 1 ∨ t = 2 := by omega
      all_goals
        go_wp2_with fail
        go_meet
        exact switched (IsBlk.alloc (PBox.set0 Hq8.out _) _) Hs8.out (((Only.refl [q] w8).setCell (by simp) _).alloc _) (fun _ => hgdq.out) HO8.out hqw
    · go_wp2_with fail
      refine (within_any _ raw 3 (by omega) (by omega)).mono ?_
      rintro e w' ⟨rfl, rfl⟩
      generalize raw % 3 = t at *
      obtain rfl | rfl | rfl : t = 0 ∨ t = 1 ∨ t = 2 := by omega
      all_goals
        go_wp2_with fail
        go_meet
        exact switched (IsBlk.alloc (PBox.set1 Hq8.out _) _) Hs8.out (((Only.refl [q] w8).setCell (by simp) _).alloc _) (fun _ => hgdq.out) HO8.out hqw
    · generalize ht : raw % 3 = t at *
      have Ht := Lib.hid ht
      clear ht
      go_wp2_with fail
      obtain rfl | rfl | rfl : t = 0 ∨ t = 1 ∨ t = 2 := by omega
      all_goals
        go_region_with (go_at_call 20; refine Calls.mono (within_any _ raw 3 (by omega) (by omega)) ?_; rw [Ht.out]; rintro e w' ⟨rfl, rfl⟩)
        all_goals
          go_wp2_with fail
          go_meet
          exact switched (IsBlk.drew (IsBlk.alloc (PBox.set2 Hq8.out _) _)) Hs8.out (((Only.refl [q] w8).setCell (by simp) _).alloc _).drew (fun _ => hgdq.out) HO8.out hqw
    · go_wp2_with fail
      refine (within_any _ raw 3 (by omega) (by omega)).mono ?_
      rintro e w' ⟨rfl, rfl⟩
      generalize raw % 3 = t at *
      obtain rfl | rfl | rfl : t = 0 ∨ t = 1 ∨ t = 2 := by omega
      all_goals
        go_wp2_with fail
        go_meet
        exact switched (IsBlk.alloc (PBox.set3 Hq8.out _) _) Hs8.out (((Only.refl [q] w8).setCell (by simp) _).alloc _) (fun _ => hgdq.out) HO8.out hqw
    · go_wp2_with fail
      go_meet
      exact switched (PBox.set4 Hq8.out a len cap) Ha8.out ((Only.refl [q] w8).setCell (by simp) _) haq.out HO8.out hqw
    · go_wp2_with fail
      go_meet
      exact switched Hq8.out Hs8.out (Only.refl [q] w8) (fun _ => hgdq.out) HO8.out hqw
  case rest =>
    obtain ⟨p', a', cap', hq9, hs9, hO9⟩ := hcut
    have c0 : wc.cell? ⟨q, 0, none⟩ = some (.int .i64 p'.g) := IsBlk.cell hq9 0
    have c1 : wc.cell? ⟨q, 1, none⟩ = some (.int .i64 p'.r) := IsBlk.cell hq9 1
    have c2 : wc.cell? ⟨q, 2, none⟩ = some (.int .i64 p'.n) := IsBlk.cell hq9 2
    have c3 : wc.cell? ⟨q, 3, none⟩ = some (.int .i64 p'.o) := IsBlk.cell hq9 3
    have c4 : wc.cell? ⟨q, 4, none⟩ = some (.slice a' p'.d.length cap') := IsBlk.cell hq9 4
    have Hq9 := Lib.hid hq9
    have Hs9 := Lib.hid hs9
    have HO9 := Lib.hid hO9
    clear hq9 hs9 hO9 Hq8 Hs8 Ha8 HO8
    go_wp2_with fail
    refine (bytes_any _ p' a' p'.d.length cap' Hs9.out).mono ?_
    rintro e wA ⟨hyes, hno, hOA⟩
    have hqA := IsBlk.only Hq9.out hOA (by simp)
    have d0 : wA.cell? ⟨q, 0, none⟩ = some (.int .i64 p'.g) := IsBlk.cell hqA 0
    have d1 : wA.cell? ⟨q, 1, none⟩ = some (.int .i64 p'.r) := IsBlk.cell hqA 1
    have d2 : wA.cell? ⟨q, 2, none⟩ = some (.int .i64 p'.n) := IsBlk.cell hqA 2
    have d3 : wA.cell? ⟨q, 3, none⟩ = some (.int .i64 p'.o) := IsBlk.cell hqA 3
    have d4 : wA.cell? ⟨q, 4, none⟩ = some (.slice a' p'.d.length cap') := IsBlk.cell hqA 4
    have hsA := Hs9.out.more hOA
    have hOAw : Only [] w wA := HO9.out.then hOA [] (by simp) (by simp)
    have HsA := Lib.hid hsA
    have HOA := Lib.hid hOAw
    clear hqA hsA hOA hOAw c0 c1 c2 c3 c4 Hs9 HO9 Hq9
    cases hokp : okB p' with
    | true =>
      obtain ⟨x, rfl, hsx⟩ := hyes hokp
      have Hsx := Lib.hid hsx
      clear hyes hno hsx
      go_wp2_with fail
      refine (refbytes_any _ p' a' p'.d.length cap' HsA.out).mono ?_
      rintro e wB ⟨hyes, _, hOB⟩
      obtain ⟨y2, yc2, rfl, hsy⟩ := hyes hokp
      have cv1 := conv_src wB (some ⟨x, 0, none⟩) 64 64 _ (Hsx.out.more hOB)
      have cv2 := conv_src wB (some ⟨y2, 0, none⟩) 64 yc2 _ hsy
      have hOBw : Only [] w wB := HOA.out.then hOB [] (by simp) (by simp)
      have HOB := Lib.hid hOBw
      clear hyes hsy hOB hOBw
      go_wp2
      go_ret
      exact ⟨rfl, HOB.out⟩
    | false =>
      obtain rfl := hno hokp
      clear hyes hno
      go_wp2_with fail
      refine (refbytes_any _ p' a' p'.d.length cap' HsA.out).mono ?_
      rintro e wB ⟨_, hno, hOB⟩
      obtain rfl := hno hokp
      have cv1 := conv_src wB none 0 0 [] ⟨rfl, fun h => by omega⟩
      have hOBw : Only [] w wB := HOA.out.then hOB [] (by simp) (by simp)
      have HOB := Lib.hid hOBw
      clear hno hOB hOBw
      go_wp2
      go_ret
      exact ⟨rfl, HOB.out⟩

end Go.Proofs.Ytiegkdkbkkbjpaa
