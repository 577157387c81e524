/-
  The walk of the law WalRows: it returns true, whatever came in, and turns nothing that was there.
-/
import Derived.Test.YtdfnclfmmohpeaaWalO
namespace Go.Proofs.Ytdfnclfmmohpeaa
set_option maxRecDepth 100000
open Go.RowKit

/-- A log with its rows written down beside it. -/
structure WR (w W : World) (lp pd bl bm base M : Nat) (g : Int) (v : Value) (rs : List (List UInt8)) (k : Int) : Prop where
  log : ∃ D L, WL W lp pd bl bm D L rs k ∧ L.size = M ∧ L.gen = g
  row : OwnBs W base [lp, pd, bl, bm] v rs
  k0 : 0 ≤ k
  only : Only [] w W
  lpw : w.heap.size ≤ lp
  pdw : w.heap.size ≤ pd
  blw : w.heap.size ≤ bl
  bmw : w.heap.size ≤ bm
  lpb : lp < base
  pdb : pd < base
  blb : bl < base
  bmb : bm < base
  bsz : base ≤ W.heap.size

theorem WR.more {w W W' : World} {lp pd bl bm base M : Nat} {g : Int} {v : Value} {rs : List (List UInt8)} {k : Int} (h : WR w W lp pd bl bm base M g v rs k) (hO : Only [] W W') : WR w W' lp pd bl bm base M g v rs k := by
  obtain ⟨D, L, h1, h2, h3⟩ := h.log
  exact ⟨⟨D, L, h1.more hO, h2, h3⟩, h.row.more hO, h.k0, h.only.plus hO, h.lpw, h.pdw, h.blw, h.bmw, h.lpb, h.pdb, h.blb, h.bmb, Nat.le_trans h.bsz hO.size⟩

theorem WL.keep {w w' : World} {lp pd bl bm : Nat} {D : DS} {L : LS} {rs : List (List UInt8)} {k : Int} {S : List Nat} (h : WL w lp pd bl bm D L rs k) (hO : Only S w w') (h0 : lp ∉ S) (h1 : pd ∉ S) (h2 : bl ∉ S) (h3 : bm ∉ S) : WL w' lp pd bl bm D L rs k :=
  ⟨h.disk.keep hO h1 h2 h3, h.log.keep hO h0, h.live, h.ok, h.ne⟩

/-- Append onto such a log: it is told whether it fitted; the row is as it was. -/
theorem wr_append (w W : World) (lp pd bl bm base M : Nat) (g : Int) (v : Value) (rs : List (List UInt8)) (k : Int) (a : Option Addr) (cap : Nat) (b : List UInt8) (h : WR w W lp pd bl bm base M g v rs k) (hs : Src W a b.length b) (hb : partsN b.length ≤ 200) (hk : k < 10000) :
    Calls Try.prog 20 #[.pointer (some ⟨lp, 0, none⟩), .slice a b.length cap] W fun e W' => ∃ is : Bool, e = .returned (.tuple #[.bool is, .int .i64 0]) ∧
      (is = false ∧ WR w W' lp pd bl bm base M g v rs k ∨ is = true ∧ ∃ D L, WL W' lp pd bl bm D L (rs ++ [b]) (k + partsN b.length + 1) ∧ L.size = M ∧ L.gen = g ∧ OwnBs W' base [lp, pd, bl, bm] v rs) ∧ Only [lp, pd, bl, bm] W W' := by
  obtain ⟨D, L, h1, h2, h3⟩ := h.log
  have hk0 := h.k0
  by_cases hf : L.next + partsN b.length ≤ L.size
  · refine (app_yes W lp pd bl bm D L rs k a cap b h1 hs (by omega) hk0 (by omega) hf).mono ?_
    rintro e W' ⟨rfl, D', hW, hO⟩
    exact ⟨true, rfl, .inr ⟨rfl, D', _, hW, h2, h3, h.row.keep hO (by have := h.lpb; have := h.pdb; have := h.blb; have := h.bmb; simp; omega)⟩, hO⟩
  · refine (app_no W lp pd bl bm D L rs k a cap b h1 hs (by omega) hk0 (by omega) (by omega)).mono ?_
    rintro e W' ⟨rfl, hW, hO⟩
    exact ⟨false, rfl, .inl ⟨rfl, ⟨D, L, hW, h2, h3⟩, h.row.keep hO (by have := h.lpb; have := h.pdb; have := h.blb; have := h.bmb; simp; omega), h.k0, h.only.then hO [] (by simp) (by have := h.lpw; have := h.pdw; have := h.blw; have := h.bmw; simp; omega), h.lpw, h.pdw, h.blw, h.bmw, h.lpb, h.pdb, h.blb, h.bmb, Nat.le_trans h.bsz hO.size⟩, hO⟩

set_option maxHeartbeats 4000000 in
theorem rows_walk (sectors : Int) (a1 : Option Addr) (len1 cap1 : Nat) (rs : List (List UInt8)) (a2 : Option Addr) (len2 cap2 : Nat) (l2 : List UInt8) (anew : Bool) (w : World) (h1 : RowsArg w a1 len1 rs) (h2 : Src w a2 len2 l2) :
    Calls Try.prog 5 #[.int .i64 sectors, .slice a1 len1 cap1, .slice a2 len2 cap2, .bool anew] w fun e w' => e = .returned (.bool true) ∧ Only [] w w' := by
  have hl2 := h2.1
  subst hl2
  have H1 := Lib.hid h1
  have H2 := Lib.hid h2
  have hmx := h1.2.1
  clear h1 h2
  by_cases hr12 : 12 < len1
  · have hri : (12 : Int) < (len1 : Int) := by omega
    go_enter Try.func5, Try.ntmps5
    go_wp2_with fail
    refine (known_any _).mono ?_
    rintro e w0 ⟨rfl, hO0⟩
    go_wp2
    go_ret
    exact ⟨rfl, hO0⟩
  have hri : ¬ (12 : Int) < (len1 : Int) := by omega
  by_cases hw150 : 150 < l2.length
  · have hwi : (150 : Int) < (l2.length : Int) := by omega
    go_enter Try.func5, Try.ntmps5
    go_wp2_with fail
    refine (known_any _).mono ?_
    rintro e w0 ⟨rfl, hO0⟩
    go_wp2
    go_ret
    exact ⟨rfl, hO0⟩
  have hwi : ¬ (150 : Int) < (l2.length : Int) := by omega
  have hcv := fun (w : World) (C : Array Value) (n c : Nat) => Lib.run_convert_bytes_const (P := Try.prog) w 23 5 C n c Try.underlying23 Try.underlying5
  go_enter Try.func5, Try.ntmps5
  go_wp2_with fail
  refine (known_any _).mono ?_
  rintro e w0 ⟨rfl, hO0⟩
  go_wp2_with fail
  refine (within_to _ sectors 10 (by omega) (by omega)).mono ?_
  rintro e w' ⟨m, rfl, hm, -, rfl⟩
  go_wp2_with fail
  refine (both_any _ (2 + (m : Int))).mono ?_
  rintro e w1 ⟨pd, bl, bm, R, B, M, rfl, hD, -, hMs, hM4, hM16, hp1, hp2, hp3, -, -, -, -, hO1⟩
  have hM6 : 6 ≤ M := by omega
  have hsz0 := hO0.size
  have hsz1 := hO1.size
  have HO1 := Lib.hid (hO0.plus hO1)
  have hd1 := hD.plt
  have hd2 := hD.blt
  have hd3 := hD.mlt
  clear hO0 hO1 hMs
  go_wp2_with fail
  refine (opened_new _ pd bl bm M hD).mono ?_
  rintro e w2 ⟨lp, a, cap, rfl, hN, hlp, hO2⟩
  have HN := Lib.hid hN
  have HO2 := Lib.hid (HO1.out.plus hO2)
  have Hsz : Hid (w.heap.size ≤ lp ∧ w.heap.size ≤ pd ∧ w.heap.size ≤ bl ∧ w.heap.size ≤ bm) := Lib.hid (by omega)
  have hdl := IsBlk.lt hN.log
  have hsz2 := hO2.size
  have Hlt : Hid (lp < w2.heap.size ∧ pd < w2.heap.size ∧ bl < w2.heap.size ∧ bm < w2.heap.size) := Lib.hid (by omega)
  clear hN hO2 HO1 hD hlp hsz0 hsz1 hp1 hp2 hp3 hd1 hd2 hd3 hdl hsz2
  have hpl : partsN l2.length ≤ 4 := by unfold partsN; omega
  go_wp2_with fail
  refine (freshened_new _ lp pd bl bm M a2 cap2 l2 HN.out (H2.out.more HO2.out) (by omega) (by omega)).mono ?_
  rintro e w3 ⟨rfl, D, hW, hO3⟩
  have hsz3 := hO3.size
  have hO3' := HO2.out.then hO3 [] (by simp) (by have := Hsz.out; simp; omega)
  have hsrc3 := H2.out.more hO3'
  have hWR : WR w (w3.alloc (.cells #[.slice a2 l2.length cap2] 23)) lp pd bl bm w3.heap.size M 1 (.slice (some ⟨w3.heap.size, 0, none⟩) 1 1) [l2] (partsN l2.length + 1) :=
    ⟨⟨D, _, hW.more ((Only.refl [] w3).alloc _), rfl, rfl⟩, OwnBs.one hsrc3 (Nat.le_refl _) (fun hp x y e hm => by have h1 := H2.out.lt hp e; have := Hsz.out; simp at hm; omega), by omega, hO3'.alloc _, Hsz.out.1, Hsz.out.2.1, Hsz.out.2.2.1, Hsz.out.2.2.2,
      by have := Hlt.out; omega, by have := Hlt.out; omega, by have := Hlt.out; omega, by have := Hlt.out; omega, by simp⟩
  have HWR := Lib.hid hWR
  clear hW hO3 hO3' hsrc3 HN HO2 hWR hsz3 Hlt
  go_wp2_with fail
  generalize hb0 : w3.heap.size = base at *
  go_loopw [15, 14] (fun i v wr => ∃ (j : Nat) (rr : List (List UInt8)) (k : Int), j ≤ len1 ∧ i = .int .i64 j ∧ WR w wr lp pd bl bm base M 1 v rr k ∧ k ≤ 5 + 4 * j) (fun i _ _ => len1 - (intOf i).toNat)
  case atStart => exact ⟨0, [l2], _, Nat.zero_le _, rfl, HWR.out, by omega⟩
  case round =>
    obtain ⟨j, rr, k, hj, rfl, hR, hk⟩ := hrel
    have HR := Lib.hid hR
    clear hR HWR
    by_cases hlt : j < len1
    · have hlti : (j : Int) < (len1 : Int) := by omega
      obtain ⟨b, o, r, da, dc, rfl, hrj, hcj, hsj, hdc, hdl⟩ := H1.out.at_ HR.out.only hlt
      have hdci : (r.length : Int) ≤ (dc : Int) := by omega
      have Hsj := Lib.hid hsj
      have Hdl := Lib.hid hdl
      clear hrj hsj hdl
      go_upto_region 16 with fail
      go_cut [16] (fun s16 wx => s16 = .slice da (r.take 100).length dc ∧ Only [] wr wx)
      case first =>
        by_cases h100 : 100 ≤ r.length
        · have h100i : (100 : Int) < (r.length : Int) ∨ (100 : Int) = (r.length : Int) := by omega
          have hln : Hid ((r.take 100).length = 100) := Lib.hid (by rw [List.length_take]; omega)
          rcases h100i with h100i | h100i
          · go_quiet (fail)
            go_wp2_with fail
            go_meet
            exact ⟨by rw [hln.out], (Only.refl [] wr).drewN _⟩
          · have h100j : ¬ (100 : Int) < (r.length : Int) := by omega
            have h100k : r.length = 100 := by omega
            rw [h100k] at hcj hdci
            clear h100i h100j
            go_quiet (fail)
            go_wp2_with fail
            go_meet
            exact ⟨by rw [hln.out], (Only.refl [] wr).drewN _⟩
        · have h100i : ¬ (100 : Int) < (r.length : Int) := by omega
          have hln : Hid ((r.take 100).length = r.length) := Lib.hid (by rw [List.length_take]; omega)
          go_quiet (fail)
          go_wp2_with fail
          go_meet
          exact ⟨by rw [hln.out], (Only.refl [] wr).drewN _⟩
      case rest =>
        obtain ⟨rfl, hOc⟩ := hcut
        have hsc := (Hsj.out.more hOc).head (r.take 100).length (by rw [List.length_take]; omega)
        rw [show r.take (r.take 100).length = r.take 100 by rw [List.length_take]; by_cases hx : 100 ≤ r.length; rw [Nat.min_eq_left hx]; rw [Nat.min_eq_right (by omega), List.take_of_length_le (Nat.le_refl _), List.take_of_length_le (by omega)]] at hsc
        have hdl' : 0 < (r.take 100).length → ∀ x y, da = some ⟨x, y, none⟩ → x < w.heap.size := fun hp x y e => Hdl.out (by rw [List.length_take] at hp; omega) x y e
        have hpb : partsN (r.take 100).length ≤ 3 := by unfold partsN; rw [List.length_take]; omega
        have HRc := Lib.hid (HR.out.more hOc)
        generalize r.take 100 = c at *
        have Hsc := Lib.hid hsc
        have Hdl' := Lib.hid hdl'
        clear hsc hdl' HR Hsj Hdl hcj hdci hdc
        go_wp2_with fail
        refine (wr_append w wc lp pd bl bm base M 1 _ rr k da dc c HRc.out Hsc.out (by omega) (by omega)).mono ?_
        rintro e W1 ⟨is, rfl, hcase, hO1⟩
        rcases hcase with ⟨rfl, hR1⟩ | ⟨rfl, D1, L1, hW1, hM1, hg1, hB1⟩
        · have HR1 := Lib.hid hR1
          clear hR1 HRc hO1
          go_wp2_with fail
          go_roundw
          case rel => exact ⟨j + 1, rr, k, by omega, by go_num, HR1.out, by omega⟩
          case measure => simp [intOf]; omega
        · have hsz1 := hO1.size
          have hRc := HRc.out
          have hO1' : Only [] w W1 := hRc.only.then hO1 [] (by simp) (by have := hRc.lpw; have := hRc.pdw; have := hRc.blw; have := hRc.bmw; simp; omega)
          have hs1 : Src W1 da c.length c := Hsc.out.keep hO1 (fun hp x y e hm => by have := Hdl'.out hp x y e; have := hRc.lpw; have := hRc.pdw; have := hRc.blw; have := hRc.bmw; simp at hm; omega)
          obtain ⟨xs, hown, hxs⟩ := hB1
          have hA : Only [] W1 (W1.alloc (.cells #[.slice da c.length dc] 23)) := (Only.refl [] W1).alloc _
          have hlen := hown.1
          have hrl : rr.length ≤ 128 := by have := hW1.seqB; simp at this; omega
          have Hown := Lib.hid (hown.alloc (.cells #[.slice da c.length dc] 23))
          have Hxs : Hid (∀ (i : Nat) (r : List UInt8), rr[i]? = some r → ∃ da' dc', xs[i]? = some (Value.slice da' r.length dc') ∧ Src (W1.alloc (.cells #[.slice da c.length dc] 23)) da' r.length r ∧ (0 < r.length → ∀ b o, da' = some ⟨b, o, none⟩ → b ∉ [lp, pd, bl, bm] ∧ _ ≠ some b)) :=
            Lib.hid (fun i r hi => by obtain ⟨d1, c1, h1, h2, h3⟩ := hxs i r hi; exact ⟨d1, c1, h1, h2.more hA, h3⟩)
          have Hsb := Lib.hid (hs1.more hA)
          have Hdb := Lib.hid (fun (hp : 0 < c.length) (b' o : Nat) (e : da = some ⟨b', o, none⟩) => (show b' ∉ [lp, pd, bl, bm] ∧ _ ≠ some b' from by
            have h1 := Hdl'.out hp b' o e
            refine ⟨by have := hRc.lpw; have := hRc.pdw; have := hRc.blw; have := hRc.bmw; simp; omega, fun e2 => ?_⟩
            have h2 := (owns_lt hown e2).1
            have := hRc.lpb; have := hRc.lpw; omega))
          have HWA := Lib.hid (hW1.more hA)
          have HOA := Lib.hid (hO1'.plus hA)
          have hcel : (W1.alloc (.cells #[.slice da c.length dc] 23)).cell? ⟨W1.heap.size, 0, none⟩ = some (.slice da c.length dc) := IsBlk.cell (IsBlk.made W1 _) 0
          have hbz : base ≤ (W1.alloc (.cells #[.slice da c.length dc] 23)).heap.size := by have := hRc.bsz; have := hA.size; omega
          clear hRc hO1' hs1 hown hxs hlen hW1 hO1
          go_wp2_with (at_builtin; refine wpList_app1 32 23 (.slice none 0 0) 24 Try.underlying32 info34 rfl (by omega) rfl _ _ rfl base _ rr.length xs rfl Hown.out (by omega) _ _ _ rfl hcel rfl hbz ?_; intro g2 c2 w2 ho2 hO2 hat2)
          have hown2 : ∀ x, x < base → x ∉ ownL u14 := fun x hx hm => by have := (owns_lt Hown.out (mem_ownL.1 hm)).1; omega
          have hRc := HRc.out
          have hb1 := hRc.lpb
          have hb2 := hRc.pdb
          have hb3 := hRc.blb
          have hb4 := hRc.bmb
          go_roundw
          case rel =>
            exact ⟨j + 1, rr ++ [c], k + partsN c.length + 1, by omega, by go_num, ⟨⟨D1, L1, HWA.out.keep hO2 (hown2 _ hb1) (hown2 _ hb2) (hown2 _ hb3) (hown2 _ hb4), hM1, hg1⟩, OwnBs.app Hown.out Hxs.out Hsb.out Hdb.out ho2 hO2 hat2,
              by have := hRc.k0; omega, HOA.out.then hO2 [] (by simp) (fun i hi => .inr (by have := (owns_lt Hown.out (mem_ownL.1 hi)).1; have := hRc.lpw; omega)), hRc.lpw, hRc.pdw, hRc.blw, hRc.bmw, hb1, hb2, hb3, hb4, Nat.le_trans hbz hO2.size⟩, by omega⟩
          case measure => simp [intOf]; omega
    · have hge : ¬ (j : Int) < (len1 : Int) := by omega
      cases anew with
      | true =>
        obtain ⟨D, L, hW, hLM, hLg⟩ := HR.out.log
        have hk0 := HR.out.k0
        have hRr := HR.out
        go_wp2_with fail
        refine (freshened _ lp pd bl bm D L rr k _ 4 [97, 110, 101, 119] (hW.more ((Only.refl [] wr).alloc _)) (src_const wr [97, 110, 101, 119] 5 (4, 5)) (by decide) (by rw [hLM]; show 1 ≤ M; omega) (by rw [hLg]; omega) hk0 (by omega)).mono ?_
        rintro e w4 ⟨rfl, D', hW4, hO4⟩
        have hO4' : Only [] w w4 := (hRr.only.plus ((Only.refl [] wr).alloc _)).then hO4 [] (by simp) (by have := hRr.lpw; have := hRr.pdw; have := hRr.blw; have := hRr.bmw; simp; omega)
        have HW4 := Lib.hid hW4
        have HO4 := Lib.hid hO4'
        clear hW4 hO4 hO4' hW hRr
        go_wp2_with fail
        have hsr : Src (w4.alloc (.cells (bv [97, 110, 101, 119]).toArray 5 (4, 5))) (some ⟨w4.heap.size, 0, none⟩) ([97, 110, 101, 119] : List UInt8).length [97, 110, 101, 119] := src_const w4 [97, 110, 101, 119] 5 (4, 5)
        have hB4 : BytesAt ((w4.alloc (.cells (bv [97, 110, 101, 119]).toArray 5 (4, 5))).alloc (.cells #[.slice (some ⟨w4.heap.size, 0, none⟩) 4 4] 23)) (some ⟨w4.heap.size + 1, 0, none⟩) ([[97, 110, 101, 119]] : List (List UInt8)).length [[97, 110, 101, 119]] := by
          have h1 := OwnBs.one (T := []) (base := 0) (dc := 4) hsr (Nat.zero_le _) (by simp)
          obtain ⟨va, vc, e1, hb, -⟩ := h1.shape
          have e2 : (w4.alloc (.cells (bv [97, 110, 101, 119]).toArray 5 (4, 5))).heap.size = w4.heap.size + 1 := by simp
          rw [e2] at e1
          injection e1 with e1 _ _
          rw [← e1] at hb
          exact hb
        have hA4 : Only [] w4 ((w4.alloc (.cells (bv [97, 110, 101, 119]).toArray 5 (4, 5))).alloc (.cells #[.slice (some ⟨w4.heap.size, 0, none⟩) 4 4] 23)) := ((Only.refl [] w4).alloc _).alloc _
        refine (opened _ lp pd bl bm D' _ _ _ (HW4.out.more hA4)).mono ?_
        rintro e w5 ⟨lp', ra, rc, rfl, hW5, hB5, hlp5, hO5⟩
        have HO5 := Lib.hid ((HO4.out.plus hA4).plus hO5)
        have HB5 := Lib.hid hB5
        have HBv := Lib.hid (hB4.more hO5)
        clear hW5 hB5 hB4 hO5 hA4 hsr HW4 HO4
        go_wp2_with fail
        refine (rows_any _ ra (some ⟨w4.heap.size + 1, 0, none⟩) rc 1 [[97, 110, 101, 119]] [[97, 110, 101, 119]] HB5.out HBv.out (by simp)).mono ?_
        rw [decide_eq_true rfl]
        rintro e w6 ⟨rfl, hO6⟩
        go_wp2
        go_ret
        exact ⟨rfl, HO5.out.plus hO6⟩
      | false =>
        obtain ⟨D, L, hW, hLM, hLg⟩ := HR.out.log
        go_wp2_with fail
        refine (opened _ lp pd bl bm D L rr k hW).mono ?_
        rintro e w5 ⟨lp', ra, rc, rfl, hW5, hB5, hlp5, hO5⟩
        obtain ⟨va, vc, rfl, hBv, -⟩ := (HR.out.row.more hO5).shape
        have hrl : rr.length ≤ 128 := hW.seqB
        have HO5 := Lib.hid (HR.out.only.plus hO5)
        have HB5 := Lib.hid hB5
        have HBv := Lib.hid hBv
        clear hW hW5 hB5 hBv hO5
        go_wp2_with fail
        refine (rows_any _ ra va rc vc rr rr HB5.out HBv.out (by omega)).mono ?_
        rw [decide_eq_true rfl]
        rintro e w6 ⟨rfl, hO6⟩
        go_wp2
        go_ret
        exact ⟨rfl, HO5.out.plus hO6⟩

end Go.Proofs.Ytdfnclfmmohpeaa
