/-
  The walk of the law WalTorn: it returns true, whatever came in, and turns nothing that was there.
-/
import Derived.Test.YtdfnclfmmohpeaaWalR
namespace Go.Proofs.Ytdfnclfmmohpeaa
set_option maxRecDepth 100000
set_option linter.unusedVariables false
open Go.RowKit

/-- A sector of noughts, written and flushed. -/
theorem zero_live {D : DS} {n : Nat} {k : Int} (h : Live D n k) (x : Nat) (hx : x < n) (hk : 0 ≤ k) : ∃ E E' : DS, D.writeR x zeros = (E, 0) ∧ E.calm (k + 1) ∧ E.flushR = (E', 0) ∧ E'.now = (fun i => if i = x then zeros else D.now i) ∧ E'.dead = false ∧ E'.n = n := by
  have hbad : badW (x : Int) D.n zeros.length = false := by have := h.n; simp [badW, hasB, zeros]; omega
  have hw : D.writeR x zeros = (D.put (-1) (D.ops + 1) x zeros, 0) := by
    unfold DS.writeR; simp [h.dead, hbad, h.fuse, burnt]
  refine ⟨D.put (-1) (D.ops + 1) x zeros, { D.put (-1) (D.ops + 1) x zeros with fuse := burnt (-1), ops := D.ops + 1 + 1 }.flushed, hw, ⟨by simp [DS.put], by simp [DS.put], by show 0 ≤ D.ops + 1; rw [h.ops]; omega, by show D.ops + 1 ≤ _; rw [h.ops]; exact Int.le_refl _⟩, ?_, ?_, h.dead, h.n⟩
  · unfold DS.flushR
    rw [if_neg (by show ¬ D.dead = true; rw [h.dead]; simp), if_neg (by show ¬ ((-1 : Int) = 0); omega)]
    rfl
  · show (D.put (-1) (D.ops + 1) x zeros).now = _
    rw [put_now]

set_option maxHeartbeats 4000000 in
theorem torn_walk (a1 : Option Addr) (len1 cap1 : Nat) (rs : List (List UInt8)) (a2 : Option Addr) (len2 cap2 : Nat) (l2 : List UInt8) (lost sectors : Int) (w : World) (h1 : RowsArg w a1 len1 rs) (h2 : Src w a2 len2 l2) :
    Calls Try.prog 9 #[.slice a1 len1 cap1, .slice a2 len2 cap2, .int .i64 lost, .int .i64 sectors] w fun e w' => e = .returned (.bool true) ∧ Only [] w w' := by
  have hl2 := h2.1
  subst hl2
  have H1 := Lib.hid h1
  have H2 := Lib.hid h2
  have hmx := h1.2.1
  clear h1 h2
  by_cases hr5 : 5 < len1
  · have hri : (5 : Int) < (len1 : Int) := by omega
    go_enter Try.func9, Try.ntmps9
    go_wp2_with fail
    refine (known_any _).mono ?_
    rintro e w0 ⟨rfl, hO0⟩
    go_wp2
    go_ret
    exact ⟨rfl, hO0⟩
  have hri : ¬ (5 : Int) < (len1 : Int) := by omega
  by_cases hw250 : 250 < l2.length
  · have hwi : (250 : Int) < (l2.length : Int) := by omega
    go_enter Try.func9, Try.ntmps9
    go_wp2_with fail
    refine (known_any _).mono ?_
    rintro e w0 ⟨rfl, hO0⟩
    go_wp2
    go_ret
    exact ⟨rfl, hO0⟩
  have hwi : ¬ (250 : Int) < (l2.length : Int) := by omega
  go_enter Try.func9, Try.ntmps9
  go_wp2_with fail
  refine (known_any _).mono ?_
  rintro e w0 ⟨rfl, hO0⟩
  go_wp2_with fail
  refine (within_to _ sectors 4 (by omega) (by omega)).mono ?_
  rintro e w' ⟨m, rfl, hm, -, rfl⟩
  go_wp2_with fail
  refine (both_any _ (9 + (m : Int))).mono ?_
  rintro e w1 ⟨pd, bl, bm, R, B, M, rfl, hD, -, hMs, hM4, hM16, hp1, hp2, hp3, -, -, -, -, hO1⟩
  have hM13 : 13 ≤ M := by omega
  have hsz0 := hO0.size
  have hsz1 := hO1.size
  have HO1 := Lib.hid (hO0.plus hO1)
  have hd1 := hD.plt
  have hd2 := hD.blt
  have hd3 := hD.mlt
  clear hO0 hO1 hMs
  go_wp2_with fail
  refine (opened_new _ pd bl bm M hD).mono ?_
  rintro e w2 ⟨lp, a, cap, rfl, hN, hlp, hO2⟩
  have HN := Lib.hid hN
  have HO2 := Lib.hid (HO1.out.plus hO2)
  have Hsz : Hid (w.heap.size ≤ lp ∧ w.heap.size ≤ pd ∧ w.heap.size ≤ bl ∧ w.heap.size ≤ bm) := Lib.hid (by omega)
  have hdl := IsBlk.lt hN.log
  have hsz2 := hO2.size
  have Hlt : Hid (lp < w2.heap.size ∧ pd < w2.heap.size ∧ bl < w2.heap.size ∧ bm < w2.heap.size) := Lib.hid (by omega)
  clear hN hO2 HO1 hD hlp hsz0 hsz1 hp1 hp2 hp3 hd1 hd2 hd3 hdl hsz2
  go_wp2_with fail
  refine (freshened_new _ lp pd bl bm M none 0 [] HN.out ⟨rfl, fun h => by simp at h⟩ (by decide) (by show 1 ≤ M; omega)).mono ?_
  rintro e w3 ⟨rfl, D, hW, hO3⟩
  have hsz3 := hO3.size
  have hO3' := HO2.out.then hO3 [] (by simp) (by have := Hsz.out; simp; omega)
  have hWX : WX w (w3.alloc (.cells #[.slice none 0 0] 23)) lp pd bl bm w3.heap.size D ⟨M, 1, 1, 0, 1, 1⟩ (.slice (some ⟨w3.heap.size, 0, none⟩) 1 1) [[]] 2 :=
    ⟨hW.more ((Only.refl [] w3).alloc _), OwnBs.one (r := []) ⟨rfl, fun h => by simp at h⟩ (Nat.le_refl _) (fun hp => by simp at hp), by omega, hO3'.alloc _, Hsz.out.1, Hsz.out.2.1, Hsz.out.2.2.1, Hsz.out.2.2.2,
      by have := Hlt.out; omega, by have := Hlt.out; omega, by have := Hlt.out; omega, by have := Hlt.out; omega, by simp⟩
  have HWX := Lib.hid hWX
  clear hW hO3 hO3' HN HO2 hWX hsz3 Hlt
  go_wp2_with fail
  generalize hb0 : w3.heap.size = base at *
  go_loopw [15, 14] (fun i v wr => ∃ (j : Nat) (rr : List (List UInt8)) (k : Int) (D : DS) (L : LS), j ≤ len1 ∧ i = .int .i64 j ∧ WX w wr lp pd bl bm base D L v rr k ∧ k = 2 + 2 * j ∧ L.size = M ∧ L.gen = 1 ∧ L.half = 0 ∧ L.next = j + 1) (fun i _ _ => len1 - (intOf i).toNat)
  case atStart => exact ⟨0, [[]], _, D, _, Nat.zero_le _, rfl, HWX.out, by omega, rfl, rfl, rfl, rfl⟩
  case round =>
    obtain ⟨j, rr, k, Dj, L, hj, rfl, hX, hk, hLM, hLg, hLh, hLn⟩ := hrel
    have HX := Lib.hid hX
    clear hX HWX
    by_cases hlt : j < len1
    · have hlti : (j : Int) < (len1 : Int) := by omega
      obtain ⟨b, o, r, da, dc, rfl, hrj, hcj, hsj, hdc, hdl⟩ := H1.out.at_ HX.out.only hlt
      have hdci : (r.length : Int) ≤ (dc : Int) := by omega
      have Hsj := Lib.hid hsj
      have Hdl := Lib.hid hdl
      clear hrj hsj hdl
      go_upto_region 16 with fail
      go_cut [16] (fun s16 wx => s16 = .slice da (r.take 40).length dc ∧ Only [] wr wx)
      case first =>
        by_cases h40 : 40 < r.length
        · have h40i : (40 : Int) < (r.length : Int) := by omega
          have hln : Hid ((r.take 40).length = 40) := Lib.hid (by rw [List.length_take]; omega)
          go_quiet (fail)
          go_wp2_with fail
          go_meet
          exact ⟨by rw [hln.out], (Only.refl [] wr).drewN _⟩
        · have h40i : ¬ (40 : Int) < (r.length : Int) := by omega
          have hln : Hid ((r.take 40).length = r.length) := Lib.hid (by rw [List.length_take]; omega)
          go_quiet (fail)
          go_wp2_with fail
          go_meet
          exact ⟨by rw [hln.out], (Only.refl [] wr).drewN _⟩
      case rest =>
        obtain ⟨rfl, hOc⟩ := hcut
        have hsc := (Hsj.out.more hOc).head (r.take 40).length (by rw [List.length_take]; omega)
        rw [take_len] at hsc
        have hdl' : 0 < (r.take 40).length → ∀ x y, da = some ⟨x, y, none⟩ → x < w.heap.size := fun hp x y e => Hdl.out (by rw [List.length_take] at hp; omega) x y e
        have hpb : partsN (r.take 40).length = 1 := by unfold partsN; rw [List.length_take]; omega
        have HXc := Lib.hid (HX.out.more hOc)
        generalize r.take 40 = c at *
        have Hsc := Lib.hid hsc
        have Hdl' := Lib.hid hdl'
        clear hsc hdl' HX Hsj Hdl hcj hdci hdc hOc
        go_wp2_with fail
        refine (app_yes _ lp pd bl bm Dj L rr k da dc c HXc.out.log Hsc.out (by omega) (by omega) (by omega) (by omega)).mono ?_
        rintro e W1 ⟨rfl, D1, hW1, hO1⟩
        have HW1 := Lib.hid hW1
        have HO1 := Lib.hid hO1
        have Hs1 : Hid (Src W1 da c.length c) := Lib.hid (Hsc.out.keep hO1 (fun hp x y e hm => by have := Hdl'.out hp x y e; have := (HXc.out.news x hm).1; omega))
        clear hW1 hO1
        go_wp2_with (at_builtin; refine wpList_push HXc.out HO1.out HW1.out (by omega) Hs1.out Hdl'.out rfl _ _ rfl rfl _ _ rfl rfl ?_; intro v' W2 hX2)
        have HX2 := Lib.hid hX2
        clear hX2
        go_roundw
        case rel => exact ⟨j + 1, rr ++ [c], _, D1, _, by omega, by go_num, HX2.out, by rw [hpb]; omega, hLM, hLg, hLh, by show L.next + partsN c.length = _; omega⟩
        case measure => simp [intOf]; omega
    · have hge : ¬ (j : Int) < (len1 : Int) := by omega
      go_wp2_with fail
      refine (state_any _ lp pd L HX.out.log.log).mono ?_
      rintro e w4 ⟨rfl, hO4⟩
      have hX4 := HX.out.more hO4
      have HX4 := Lib.hid hX4
      have hs4 := H2.out.more hX4.only
      have Hs4 := Lib.hid hs4
      rw [hLh, hLn]
      have hpl : partsN l2.length = (l2.length + 55) / 52 := rfl
      have hpl5 : partsN l2.length ≤ 5 := by omega
      have Hpl := Lib.hid hpl
      clear hpl
      clear hX4 hs4 hO4 HX
      go_wp2_with fail
      refine (app_yes _ lp pd bl bm Dj L rr k a2 cap2 l2 HX4.out.log Hs4.out (by omega) (by omega) (by omega) (by omega)).mono ?_
      rintro e w5 ⟨rfl, D5, hW5, hO5⟩
      have HW5 := Lib.hid hW5
      have HO5 := Lib.hid hO5
      clear hW5 hO5
      go_wp2_with fail
      refine (size_any _ pd bl D5.n bm _ _ _ HW5.out.disk.blk).mono ?_
      rintro e w' ⟨rfl, rfl⟩
      have hD5n : D5.n = 2 * M := by have := HW5.out.live.n; rw [this]; show 2 * L.size = _; rw [hLM]
      have en : ((l2.length : Int) + 4 + 51) / 52 = (partsN l2.length : Int) := by have := Hpl.out; omega
      have hpos := partsN_pos l2.length
      have hmk : ∀ W : World, (Instr.makeSlice 23 (.int .i64 64) (.int .i64 64)).run Try.prog W = .ok (.slice (some ⟨W.heap.size, 0, none⟩) 64 64) (W.alloc (.cells (bv zeros).toArray 5)) := fun _ => by kernel_rfl
      rw [hD5n]
      go_wp2_with fail
      refine (within_to _ lost (partsN l2.length : Int) (by omega) (by omega)).mono ?_
      rintro e w' ⟨t, rfl, ht, -, rfl⟩
      have htn : t < partsN l2.length := by omega
      have Hen := Lib.hid en
      clear en ht
      go_wp2_with fail
      have hk5 : 0 ≤ k + (partsN l2.length : Int) + 1 ∧ k + (partsN l2.length : Int) + 1 < 1000 := by omega
      obtain ⟨E, E', hw1, hcE, hw2, hnow, hdead, hEn⟩ := zero_live HW5.out.live (j + 1 + t) (by show j + 1 + t < 2 * L.size; omega) hk5.1
      have ex : (j : Int) + 1 + (t : Int) = ((j + 1 + t : Nat) : Int) := by omega
      rw [ex]
      clear ex
      have hA5 : Only [] w5 (w5.alloc (.cells (bv zeros).toArray 5)) := (Only.refl [] w5).alloc _
      have hpl5' := HW5.out.disk.plt
      refine (write_any _ pd bl bm D5 _ _ 64 64 zeros (k + (partsN l2.length : Int) + 1) (HW5.out.disk.more hA5) (HW5.out.live.calm hk5.1) (by omega) (by have := src_new w5 zeros 5 _ rfl; exact this) (fun _ b' o e => by injection e with e; injection e with e1 e2; omega)).mono ?_
      rw [hw1]
      rintro e w6 ⟨rfl, hD6, hO6⟩
      have HD6 := Lib.hid hD6
      have HO6 := Lib.hid ((HO5.out.plus hA5).then hO6 [lp, pd, bl, bm] (by simp) (by simp))
      clear hD6 hO6 hA5 hmk
      go_wp2_with fail
      refine (flush_any _ pd bl bm E (k + (partsN l2.length : Int) + 1 + 1) HD6.out hcE (by omega)).mono ?_
      rw [hw2]
      rintro e w7 ⟨rfl, hD7, hO7⟩
      have HD7 := Lib.hid hD7
      have HO7 := Lib.hid (HO6.out.then hO7 [lp, pd, bl, bm] (by simp) (by simp))
      have hX7 := HX4.out.turn HO7.out
      clear hD7 hO7 HD6
      go_wp2_with fail
      refine (open_any _ pd bl bm E' HD7.out hdead).mono ?_
      rintro e w8 ⟨lp', ra, rc, rfl, -, -, hB8, -, hO8⟩
      have hn2 : E'.n / 2 = L.size := by rw [hEn]; show 2 * L.size / 2 = _; omega
      have hok := HX4.out.log.ok
      have hfound : (foundM E'.now (E'.n / 2)).1 = rr := by
        rw [hn2]
        refine torn_zero (S := D5.now) (t := t) HW5.out.ok hok.ne hok.seq hok.next htn ?_ ?_
        · rw [hnow, hLh, hLn, Nat.zero_mul, Nat.zero_add]; simp
        · intro i hi
          rw [hLh, hLn, Nat.zero_mul, Nat.zero_add] at hi
          rw [hnow]; simp [hi]
      rw [hfound] at hB8 ⊢
      obtain ⟨va, vc, rfl, hBv, -⟩ := (hX7.1.more hO8).shape
      have hrl : rr.length ≤ 128 := HX4.out.log.seqB
      have HB8 := Lib.hid hB8
      have HBv := Lib.hid hBv
      have HO8 := Lib.hid (hX7.2.1.plus hO8)
      clear hB8 hBv hO8 hX7 hfound hok
      go_wp2_with fail
      refine (rows_any _ ra va rc vc rr rr HB8.out HBv.out (by omega)).mono ?_
      rw [decide_eq_true rfl]
      rintro e w9 ⟨rfl, hO9⟩
      go_wp2
      go_ret
      exact ⟨rfl, HO8.out.plus hO9⟩

end Go.Proofs.Ytdfnclfmmohpeaa
