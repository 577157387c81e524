/-
  The walk of the law SectTurn.
-/
import Derived.Test.YtiegkdkbkkbjpaaSectP
import Derived.Test.YtiegkdkbkkbjpaaSectQ
import Derived.Test.YtiegkdkbkkbjpaaSectL
namespace Go.Proofs.Ytiegkdkbkkbjpaa
open Go.RowKit

theorem refbytes_P (w : World) (p : PartM) (a : Option Addr) (cap : Nat) (hm : okB p = true) (hs : Src w a 52 p.d) :
    Calls Try.prog 18 #[.agg #[.int .i64 p.g, .int .i64 p.r, .int .i64 p.n, .int .i64 p.o, .slice a 52 cap]] w (RefTo w p) := by
  obtain ⟨⟨h1, h2, h3, h4⟩, h5, h6, h7, h8, h9⟩ := okB_iff.1 hm
  obtain ⟨g, r, n, o, d⟩ := p
  simp only at *
  obtain ⟨g, rfl⟩ := Int.eq_ofNat_of_zero_le (show 0 ≤ g by omega)
  obtain ⟨r, rfl⟩ := Int.eq_ofNat_of_zero_le (show 0 ≤ r by omega)
  obtain ⟨n, rfl⟩ := Int.eq_ofNat_of_zero_le (show 0 ≤ n by omega)
  obtain ⟨o, rfl⟩ := Int.eq_ofNat_of_zero_le (show 0 ≤ o by omega)
  exact refbytes_ok w g r n o a 52 cap d hm hs
theorem bytes_P (w : World) (p : PartM) (a : Option Addr) (cap : Nat) (hm : okB p = true) (hs : Src w a 52 p.d) :
    Calls Try.prog 16 #[.agg #[.int .i64 p.g, .int .i64 p.r, .int .i64 p.n, .int .i64 p.o, .slice a 52 cap]] w (BytesTo w p) := by
  obtain ⟨⟨h1, h2, h3, h4⟩, h5, h6, h7, h8, h9⟩ := okB_iff.1 hm
  obtain ⟨g, r, n, o, d⟩ := p
  simp only at *
  obtain ⟨g, rfl⟩ := Int.eq_ofNat_of_zero_le (show 0 ≤ g by omega)
  obtain ⟨r, rfl⟩ := Int.eq_ofNat_of_zero_le (show 0 ≤ r by omega)
  obtain ⟨n, rfl⟩ := Int.eq_ofNat_of_zero_le (show 0 ≤ n by omega)
  obtain ⟨o, rfl⟩ := Int.eq_ofNat_of_zero_le (show 0 ≤ o by omega)
  exact bytes_ok w g r n o a 52 cap d hm hs
theorem src_all {W : World} {g n : Nat} {l : List UInt8} {t : TypeId} (h : IsBlk W g (.cells (bv l).toArray t)) (hn : l.length = n) : Src W (some ⟨g, 0, none⟩) n l := by
  have := src_blk h 0 n (by omega); rwa [List.drop_zero, List.take_of_length_le (by omega)] at this

theorem OwnB.set {w : World} {base g cap n : Nat} {l : List UInt8} (h : OwnB w base (.slice (some ⟨g, 0, none⟩) n cap) l) (i m : Nat) (hi : i < l.length) (hm : m < 256) :
    OwnB (w.setCell ⟨g, i, none⟩ (.int .u8 (m : Int))) base (.slice (some ⟨g, 0, none⟩) n cap) (l.set i (UInt8.ofNat m)) := by
  rcases h.2 with ⟨h', _⟩ | ⟨g', cap', cur, h', hb, hg, hnc, hml, hsz, htake⟩
  · simp at h'
  · simp only [Value.slice.injEq, Option.some.injEq, Addr.mk.injEq, and_true, true_and] at h'
    obtain ⟨rfl, hn, rfl⟩ := h'
    refine ⟨by simp [length_bv], .inr ⟨g, cap, cur.setIfInBounds i (.int .u8 (m : Int)), ?_, hb, IsBlk.put hg i _, by simpa using hnc, hml, by simpa using hsz, ?_⟩⟩
    · rw [List.length_set]; rw [hn]
    · rw [List.length_set, Array.toList_setIfInBounds, List.take_set, htake, bv_set]
      congr 2
      simp; omega
theorem OwnB.byte {w : World} {base g cap n : Nat} {l : List UInt8} (h : OwnB w base (.slice (some ⟨g, 0, none⟩) n cap) l) (i : Nat) (hi : i < l.length) :
    w.cell? ⟨g, i, none⟩ = some (.int .u8 (l[i]'hi).toNat) ∧ w.frozen? ⟨g, i, none⟩ = false := by
  rcases h.2 with ⟨h', _⟩ | ⟨g', cap', cur, h', hb, hg, hnc, hml, hsz, htake⟩
  · simp at h'
  · simp only [Value.slice.injEq, Option.some.injEq, Addr.mk.injEq, and_true, true_and] at h'
    obtain ⟨rfl, hn, rfl⟩ := h'
    refine ⟨?_, IsBlk.notFrozen hg i⟩
    have := World.ownsRow.cells h (g := g) rfl i (.int .u8 (l[i]'hi).toNat) (by simp [bv, List.getElem?_eq_getElem hi])
    rw [Addr.add_mid, Nat.zero_add] at this
    exact this

theorem flip_val (v : UInt8) (i : Nat) : bits .xor .u8 (v.toNat : Int) (2 ^ (i % 8) % 256) = ((v.toNat ^^^ 2 ^ (i % 8) : Nat) : Int) := by
  have h := pow_lt i
  have e : (2 : Int) ^ (i % 8) % 256 = ((2 ^ (i % 8) : Nat) : Int) := by
    rw [show (2 : Int) ^ (i % 8) = ((2 ^ (i % 8) : Nat) : Int) by simp]
    have hall : ∀ x : Nat, x < 256 → ((x : Int) % 256) = (x : Int) := fun x hx => by omega
    exact hall _ h
  rw [e]
  exact u8_xor_nat _ _ v.toNat_lt h
theorem flip_set {l : List UInt8} {i : Nat} {v : UInt8} (h : i / 8 < l.length) (hv : l[i / 8] = v) : l.set (i / 8) (UInt8.ofNat (v.toNat ^^^ 2 ^ (i % 8))) = flipB l i := by
  unfold flipB
  congr 1
  apply UInt8.toNat_inj.1
  rw [xor_toNat]
  have hx : v.toNat ^^^ 2 ^ (i % 8) < 256 := Nat.xor_lt_two_pow (n := 8) v.toNat_lt (pow_lt i)
  simp [List.getD, List.getElem?_eq_getElem h, hv, Nat.mod_eq_of_lt hx, Nat.mod_eq_of_lt (pow_lt i)]
theorem own_flip {w : World} {base g cap : Nat} {l : List UInt8} {i : Nat} {v : UInt8} (h : OwnB w base (.slice (some ⟨g, 0, none⟩) 64 cap) l) (hi : i / 8 < l.length) (hv : l[i / 8] = v) :
    OwnB (w.setCell ⟨g, i / 8, none⟩ (.int .u8 (bits .xor .u8 (v.toNat : Int) (2 ^ (i % 8) % 256)))) base (.slice (some ⟨g, 0, none⟩) 64 cap) (flipB l i) := by
  rw [flip_val, ← flip_set hi hv]
  exact h.set (i / 8) _ hi (Nat.xor_lt_two_pow (n := 8) v.toNat_lt (pow_lt i))

set_option maxRecDepth 100000 in
set_option maxHeartbeats 8000000 in
theorem turn_walk (gen rec' n of : Int) (a : Option Addr) (len cap : Nat) (l : List UInt8) (at' bt : Int) (w : World) (h : Src w a len l) :
    Calls Try.prog 9 #[.int .i64 gen, .int .i64 rec', .int .i64 n, .int .i64 of, .slice a len cap, .int .i64 at', .int .i64 bt] w fun e w' => e = .returned (.bool true) ∧ Only [] w w' := by
  have hi0 := Int.emod_nonneg at' (show (512 : Int) ≠ 0 by omega)
  have hi1 := Int.emod_lt_of_pos at' (show (0 : Int) < 512 by omega)
  have hj0 := Int.emod_nonneg bt (show (512 : Int) ≠ 0 by omega)
  have hj1 := Int.emod_lt_of_pos bt (show (0 : Int) < 512 by omega)
  obtain ⟨i, hi⟩ := Int.eq_ofNat_of_zero_le hi0
  obtain ⟨j, hj⟩ := Int.eq_ofNat_of_zero_le hj0
  have hi2 : i < 512 := by omega
  have hj2 : j < 512 := by omega
  have Hi := Lib.hid hi
  have Hj := Lib.hid hj
  have H := Lib.hid h
  clear hi hj hi0 hi1 hj0 hj1 h
  have hok := makeP_ok gen rec' n of l
  have hd52 := length_pad52 l
  have Hok := Lib.hid hok
  go_enter Try.func9, Try.ntmps9
  go_wp2_with fail
  refine (known_any _).mono ?_
  rintro e w1 ⟨rfl, hO1⟩
  have hs1 := Lib.hid (H.out.more hO1)
  go_wp2_with fail
  refine (make_any _ gen rec' n of a len cap l hs1.out).mono ?_
  rintro e w2 ⟨gd, rfl, hb2, hg2, hO2⟩
  have hsd := src_all hb2 (show (makeP gen rec' n of l).d.length = 52 from hd52)
  have hO2' : Only [] w w2 := hO1.then hO2 [] (by simp) (by simp)
  generalize makeP gen rec' n of l = p at *
  have Hsd := Lib.hid hsd
  have HO2 := Lib.hid hO2'
  clear hO1 hO2 hO2' hb2 hsd hs1 hok hd52
  go_wp2_with fail
  refine (refbytes_P _ p _ 52 Hok.out Hsd.out).mono ?_
  rintro e w3 ⟨v3, rfl, hown3, hO3⟩
  have hlen : (bytesB p).length = 64 := length_bytesB (okB_iff.1 Hok.out).2.2.2.2.2
  have Hlen := Lib.hid hlen
  obtain ⟨g3, c3, cur3, hv3, hg3, hb3, hc3, hr3⟩ := hown3.full (by omega)
  rw [hlen] at hv3
  subst hv3
  have hs3 := rangeSrc hr3 hb3.lt
  rw [hlen] at hs3
  have hO3' : Only [] w w3 := HO2.out.then hO3 [] (by simp) (by simp)
  have HO3 := Lib.hid hO3'
  have HO3s : Hid (w.heap.size ≤ w3.heap.size) := Lib.hid hO3'.size
  have hs3a := fun ob => Lib.hid (hs3.more ((Only.refl [] w3).alloc ob))
  clear hown3 hb3 hr3 hO3 hO3' HO2 Hsd hlen
  go_wp2_with fail
  refine (within_any _ at' 512 (by omega) (by omega)).mono ?_
  rw [Hi.out]
  rintro e w' ⟨rfl, rfl⟩
  go_wp2_with fail
  refine (within_any _ bt 512 (by omega) (by omega)).mono ?_
  rw [Hj.out]
  rintro e w' ⟨rfl, rfl⟩
  go_upto_region 6 with (at_builtin; refine wpList_append_b rfl _ _ rfl w3.heap.size _ [] rfl (OwnB.empty w3 w3.heap.size (Nat.le_refl _)) (some ⟨g3, 0, none⟩) 64 c3 (bytesB p) rfl (hs3a _).out (by simp) (by simp) ?_; intro v4 w4 h4 hb4 h4n; clear h4n)
  rw [List.nil_append] at h4
  have hlen := Hlen.out
  obtain ⟨g4, c4, cur4, hv4, hg4, hb4', hc4, hr4⟩ := h4.full (by omega)
  rw [hlen] at hv4
  subst hv4
  have hO4 : Only [] w w4 := HO3.out.then (only_below (((Below.refl _ w3).alloc (Nat.le_refl _) _).trans hb4)) [] (by simp) (by simp)
  have hbi := h4.byte (i / 8) (by omega)
  have hci := hbi.1
  have hfi := hbi.2
  have hgl4 := hb4'.lt
  have H4 := Lib.hid h4
  have HO4 := Lib.hid hO4
  clear hbi h4 hb4 hb4' hr4 hO4 hs3 hs3a HO3
  generalize hv : (bytesB p)[i / 8] = v at *
  have hvl := v.toNat_lt
  have Hv := Lib.hid hv
  clear hv
  have hd64 : i / 8 < 64 := by omega
  go_upto_region 7 with fail
  have h5 := own_flip H4.out (by rw [Hlen.out]; exact hd64) Hv.out
  have hO5 := HO4.out.setCell (p := ⟨g4, i / 8, none⟩) (.inr (show w.heap.size ≤ g4 by have := HO3s.out; omega)) (.int .u8 (bits .xor .u8 (v.toNat : Int) (2 ^ (i % 8) % 256)))
  generalize w4.setCell ⟨g4, i / 8, none⟩ (.int .u8 (bits .xor .u8 (v.toNat : Int) (2 ^ (i % 8) % 256))) = w5 at *
  have hlf : (flipB (bytesB p) i).length = 64 := by rw [length_flipB]; exact Hlen.out
  obtain ⟨g5, c5, cur5, hv5, _, hb5, _, hr5⟩ := h5.full (by omega)
  injection hv5 with hv5 hn5 hc5
  injection hv5 with hv5
  injection hv5 with hv5
  subst hv5
  clear hn5 hc5
  have hs5 := rangeSrc hr5 hb5.lt
  rw [hlf] at hs5
  have hs5a := fun ob => Lib.hid (hs5.more ((Only.refl [] w5).alloc ob))
  have H5 := Lib.hid h5
  have HO5 := Lib.hid hO5
  have Hlf := Lib.hid hlf
  clear h5 hO5 hb5 hr5 hs5 hlf hlen H4 HO4 hci hfi Hv
  go_wp2_with (at_builtin; refine wpList_append_b rfl _ _ rfl w5.heap.size _ [] rfl (OwnB.empty w5 w5.heap.size (Nat.le_refl _)) (some ⟨g4, 0, none⟩) 64 c4 (flipB (bytesB p) i) rfl (hs5a _).out (by simp) (by simp) ?_; intro v6 w6 h6 hb6 h6n; clear h6n; rw [List.nil_append] at h6; obtain ⟨g6, c6, cur6, hv6, hg6, hb6', hc6, hr6⟩ := h6.full (by rw [Hlf.out]; omega); rw [Hlf.out] at hv6; subst hv6)
  have hO6 : Only [] w w6 := HO5.out.then (only_below (((Below.refl _ w5).alloc (Nat.le_refl _) _).trans hb6)) [] (by simp) (by simp)
  have hs6 := rangeSrc hr6 hb6'.lt
  rw [Hlf.out] at hs6 hc6
  have H6 := Lib.hid (H5.out.more ((((Below.refl _ w5).alloc (Nat.le_refl _) _).trans hb6)))
  have HO6 := Lib.hid hO6
  clear h6 hb6 hb6' hr6 hO6 H5 HO5
  refine (parse_any _ g6 0 c6 hc6 _ hs6).mono ?_
  rw [turn_one Hok.out hi2]
  rintro e w7 ⟨rfl, hO7⟩
  unfold part0
  have hO7' : Only [] w w7 := HO6.out.then hO7 [] (by simp) (by simp)
  have h7 := (H6.out.more ⟨hO7.os, hO7.tape, hO7.output, hO7.size, fun k hk => hO7.block k hk (by simp)⟩).alloc (.cells #[.int .i64 0, .int .i64 0, .int .i64 0, .int .i64 0, .slice none 0 0] 33)
  have hO8 := hO7'.alloc (.cells #[.int .i64 0, .int .i64 0, .int .i64 0, .int .i64 0, .slice none 0 0] 33)
  have H7 := Lib.hid h7
  have HO8 := Lib.hid hO8
  clear hs6 H6 HO6 hO7 hO7' h7 hO8
  go_upto_region 8 with fail
  generalize w7.alloc (.cells #[.int .i64 0, .int .i64 0, .int .i64 0, .int .i64 0, .slice none 0 0] 33) = w8 at *
  have hbj := H7.out.byte (j / 8) (by rw [Hlf.out]; omega)
  have hcj := hbj.1
  have hfj := hbj.2
  clear hbj
  generalize hv : (flipB (bytesB p) i)[j / 8]'(by rw [Hlf.out]; omega) = u at *
  have hul := u.toNat_lt
  have Hu := Lib.hid hv
  clear hv
  have hd64j : j / 8 < 64 := by omega
  go_upto_region 9 with fail
  have h9 := own_flip H7.out (by rw [Hlf.out]; exact hd64j) Hu.out
  have hO9 := HO8.out.setCell (p := ⟨g4, j / 8, none⟩) (.inr (show w.heap.size ≤ g4 by have := HO3s.out; omega)) (.int .u8 (bits .xor .u8 (u.toNat : Int) (2 ^ (j % 8) % 256)))
  generalize w8.setCell ⟨g4, j / 8, none⟩ (.int .u8 (bits .xor .u8 (u.toNat : Int) (2 ^ (j % 8) % 256))) = w9 at *
  have hlf2 : (flipB (flipB (bytesB p) i) j).length = 64 := by rw [length_flipB, Hlf.out]
  obtain ⟨g9, c9, cur9, hv9, _, hb9, hc9, hr9⟩ := h9.full (by omega)
  injection hv9 with hv9 hn9 hcc9
  injection hv9 with hv9
  injection hv9 with hv9
  subst hv9
  subst hcc9
  clear hn9
  have hs9 := rangeSrc hr9 hb9.lt
  rw [hlf2] at hs9 hc9
  have HO9 := Lib.hid hO9
  clear h9 hO9 hb9 hr9 hlf2 H7 HO8 hcj hfj Hu
  go_wp2_with fail
  refine (parse_any _ g4 0 c4 hc9 _ hs9).mono ?_
  by_cases hij : i = j
  · subst hij
    rw [turn_back Hok.out hi2]
    rintro e wA ⟨gp, rfl, _, _, _, hOA⟩
    have hOA' : Only [] w wA := HO9.out.then hOA [] (by simp) (by simp)
    have HOA := Lib.hid hOA'
    clear hOA hOA' hs9
    go_wp2
    go_ret
    exact ⟨rfl, HOA.out.alloc _⟩
  · rw [turn_two Hok.out hi2 hj2 hij]
    rintro e wA ⟨rfl, hOA⟩
    unfold part0
    have hOA' : Only [] w wA := HO9.out.then hOA [] (by simp) (by simp)
    have HOA := Lib.hid hOA'
    have hne : ((i : Int) == (j : Int)) = false := by simp; omega
    clear hOA hOA' hs9 hij
    go_wp2
    go_ret
    exact ⟨rfl, HOA.out.alloc _⟩

end Go.Proofs.Ytiegkdkbkkbjpaa
