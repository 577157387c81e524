/-
  The walk of the law WalCrash: it returns true, whatever came in, and turns nothing that was there.
-/
import Derived.Test.YtdfnclfmmohpeaaWalT
namespace Go.Proofs.Ytdfnclfmmohpeaa
set_option maxRecDepth 100000
set_option linter.unusedVariables false
open Go.RowKit

/-- Two rows beside one another: what was, what would be now. -/
theorem copy_row {W : World} {base : Nat} {T : List Nat} {v : Value} {rs : List (List UInt8)} (h : OwnBs W base T v rs) (h0 : 0 < rs.length) :
    ∃ (g c : Nat) (xs : List Value), v = .slice (some ⟨g, 0, none⟩) rs.length c ∧ xs.length = rs.length ∧ (∀ j u, xs[j]? = some u → W.cell? ⟨g, j, none⟩ = some u) ∧ (∀ y ∈ xs, y.oneCell' = true) ∧ base ≤ g ∧ g < W.heap.size ∧
      ∀ (i : Nat) (r : List UInt8), rs[i]? = some r → ∃ da dc, xs[i]? = some (Value.slice da r.length dc) ∧ Src W da r.length r ∧ (0 < r.length → ∀ b o, da = some ⟨b, o, none⟩ → b ∉ T) := by
  obtain ⟨xs, ho, hx⟩ := h
  have hl := ho.1
  rcases ho.2 with ⟨rfl, hz⟩ | ⟨g, cap, cur, rfl, hb, hg, hc, hm, hsz, ht⟩
  · omega
  · refine ⟨g, cap, xs, rfl, by omega, fun j u hu => ?_, fun y hy => ?_, hb, IsBlk.lt (o := .cells cur 23) hg, fun i r hi => ?_⟩
    · have hj := (List.getElem?_eq_some_iff.1 hu).1
      rw [ho.cellAt j (by omega)]; exact hu
    · obtain ⟨i, hi⟩ := List.getElem?_of_mem hy
      have hil := (List.getElem?_eq_some_iff.1 hi).1
      obtain ⟨da, dc, h1, -, -⟩ := hx i rs[i] (List.getElem?_eq_getElem (by omega))
      rw [hi] at h1; injection h1 with h1; rw [h1]; rfl
    · obtain ⟨da, dc, h1, h2, h3⟩ := hx i r hi
      exact ⟨da, dc, h1, h2, fun hp b o e => (h3 hp b o e).1⟩

theorem own_copy {W W' : World} {base : Nat} {T : List Nat} {rs : List (List UInt8)} {xs : List Value} {g c : Nat}
    (hx : ∀ (i : Nat) (r : List UInt8), rs[i]? = some r → ∃ da dc, xs[i]? = some (Value.slice da r.length dc) ∧ Src W da r.length r ∧ (0 < r.length → ∀ b o, da = some ⟨b, o, none⟩ → b ∉ T))
    (ho : W'.ownsRow base 23 1 (.slice (some ⟨g, 0, none⟩) (0 + rs.length) c) (0 + rs.length) ([] ++ xs)) (hO : Only [] W W') (hg : W.heap.size ≤ g) : OwnBs W' base T (.slice (some ⟨g, 0, none⟩) rs.length c) rs := by
  simp only [Nat.zero_add, List.nil_append] at ho
  refine ⟨xs, ho, fun i r hi => ?_⟩
  obtain ⟨da, dc, h1, h2, h3⟩ := hx i r hi
  refine ⟨da, dc, h1, h2.more hO, fun hp b o e => ⟨h3 hp b o e, fun e2 => ?_⟩⟩
  have := h2.lt hp e
  simp [Value.ownBlock] at e2
  omega

set_option maxHeartbeats 4000000 in
theorem crash_walk (sectors : Int) (a1 : Option Addr) (len1 cap1 : Nat) (rs : List (List UInt8)) (a2 : Option Addr) (len2 cap2 : Nat) (l2 : List UInt8) (fuse : Int) (a4 : Option Addr) (len4 cap4 : Nat) (l4 : List UInt8) (fresh : Bool) (w : World) (h1 : RowsArg w a1 len1 rs) (h2 : Src w a2 len2 l2) (h4 : Src w a4 len4 l4) :
    Calls Try.prog 4 #[.int .i64 sectors, .slice a1 len1 cap1, .slice a2 len2 cap2, .int .i64 fuse, .slice a4 len4 cap4, .bool fresh] w fun e w' => e = .returned (.bool true) ∧ Only [] w w' := by
  have hl2 := h2.1
  subst hl2
  have H1 := Lib.hid h1
  have H2 := Lib.hid h2
  have H4 := Lib.hid h4
  have hmx := h1.2.1
  clear h1 h2 h4
  by_cases hr10 : 10 < len1
  · have hri : (10 : Int) < (len1 : Int) := by omega
    go_enter Try.func4, Try.ntmps4
    go_wp2_with fail
    refine (known_any _).mono ?_
    rintro e w0 ⟨rfl, hO0⟩
    go_wp2
    go_ret
    exact ⟨rfl, hO0⟩
  have hri : ¬ (10 : Int) < (len1 : Int) := by omega
  by_cases hw200 : 200 < l2.length
  · have hwi : (200 : Int) < (l2.length : Int) := by omega
    go_enter Try.func4, Try.ntmps4
    go_wp2_with fail
    refine (known_any _).mono ?_
    rintro e w0 ⟨rfl, hO0⟩
    go_wp2
    go_ret
    exact ⟨rfl, hO0⟩
  have hwi : ¬ (200 : Int) < (l2.length : Int) := by omega
  have hcv := fun (w : World) (C : Array Value) (n c : Nat) => Lib.run_convert_bytes_const (P := Try.prog) w 23 5 C n c Try.underlying23 Try.underlying5
  go_enter Try.func4, Try.ntmps4
  go_wp2_with fail
  refine (known_any _).mono ?_
  rintro e w0 ⟨rfl, hO0⟩
  go_wp2_with fail
  refine (within_to _ sectors 8 (by omega) (by omega)).mono ?_
  rintro e w' ⟨m, rfl, hm, -, rfl⟩
  go_wp2_with fail
  refine (both_any _ (2 + (m : Int))).mono ?_
  rintro e w1 ⟨pd, bl, bm, R, B, M, rfl, hD, -, hMs, hM4, hM16, hp1, hp2, hp3, -, -, -, -, hO1⟩
  have hM6 : 6 ≤ M := by omega
  have hsz0 := hO0.size
  have hsz1 := hO1.size
  have HO1 := Lib.hid (hO0.plus hO1)
  have hd1 := hD.plt
  have hd2 := hD.blt
  have hd3 := hD.mlt
  clear hO0 hO1 hMs
  go_wp2_with fail
  refine (opened_new _ pd bl bm M hD).mono ?_
  rintro e w2 ⟨lp, a, cap, rfl, hN, hlp, hO2⟩
  have HN := Lib.hid hN
  have HO2 := Lib.hid (HO1.out.plus hO2)
  have Hsz : Hid (w.heap.size ≤ lp ∧ w.heap.size ≤ pd ∧ w.heap.size ≤ bl ∧ w.heap.size ≤ bm) := Lib.hid (by omega)
  have hdl := IsBlk.lt hN.log
  have hsz2 := hO2.size
  have Hlt : Hid (lp < w2.heap.size ∧ pd < w2.heap.size ∧ bl < w2.heap.size ∧ bm < w2.heap.size) := Lib.hid (by omega)
  clear hN hO2 HO1 hD hlp hsz0 hsz1 hp1 hp2 hp3 hd1 hd2 hd3 hdl hsz2
  go_wp2_with fail
  refine (freshened_new _ lp pd bl bm M _ 5 [98, 101, 103, 105, 110] (HN.out.more ((Only.refl [] w2).alloc _)) (src_const w2 [98, 101, 103, 105, 110] 5 (5, 6)) (by decide) (by show 1 ≤ M; omega)).mono ?_
  rintro e w3 ⟨rfl, D, hW, hO3⟩
  have hsz3 := hO3.size
  have hO3' := (HO2.out.plus ((Only.refl [] w2).alloc _)).then hO3 [] (by simp) (by have := Hsz.out; simp; omega)
  have hszA : w2.heap.size ≤ w3.heap.size := by simp at hsz3; omega
  have hsr : Src (w3.alloc (.cells (bv [98, 101, 103, 105, 110]).toArray 5 (5, 6))) (some ⟨w3.heap.size, 0, none⟩) ([98, 101, 103, 105, 110] : List UInt8).length [98, 101, 103, 105, 110] := src_const w3 [98, 101, 103, 105, 110] 5 (5, 6)
  have hWX : WX w ((w3.alloc (.cells (bv [98, 101, 103, 105, 110]).toArray 5 (5, 6))).alloc (.cells #[.slice (some ⟨w3.heap.size, 0, none⟩) 5 5] 23)) lp pd bl bm w3.heap.size D ⟨M, 1, 1, 0, 1, 1⟩ (.slice (some ⟨w3.heap.size + 1, 0, none⟩) 1 1) [[98, 101, 103, 105, 110]] 2 :=
    ⟨hW.more (((Only.refl [] w3).alloc _).alloc _), by
      have := OwnBs.one (T := [lp, pd, bl, bm]) (base := w3.heap.size) (dc := 5) hsr (by simp) (fun hp x y e hm => by injection e with e; injection e with e1 e2; have := Hlt.out; simp at hm; omega)
      simpa using this, by omega, (hO3'.alloc _).alloc _, Hsz.out.1, Hsz.out.2.1, Hsz.out.2.2.1, Hsz.out.2.2.2,
      by have := Hlt.out; omega, by have := Hlt.out; omega, by have := Hlt.out; omega, by have := Hlt.out; omega, by simp; omega⟩
  have HWX := Lib.hid hWX
  clear hW hO3 hO3' HN HO2 hWX hsz3 hszA hsr Hlt
  go_wp2_with fail
  generalize hb0 : w3.heap.size = base at *
  go_loopw [19, 18] (fun i v wr => ∃ (j : Nat) (rr : List (List UInt8)) (k : Int) (D : DS) (L : LS), j ≤ len1 ∧ i = .int .i64 j ∧ WX w wr lp pd bl bm base D L v rr k ∧ k ≤ 2 + 4 * j ∧ L.size = M ∧ L.gen = 1) (fun i _ _ => len1 - (intOf i).toNat)
  case atStart => exact ⟨0, [[98, 101, 103, 105, 110]], _, D, _, Nat.zero_le _, rfl, HWX.out, by omega, rfl, rfl⟩
  case round =>
    obtain ⟨j, rr, k, Dj, L, hj, rfl, hX, hk, hLM, hLg⟩ := hrel
    have HX := Lib.hid hX
    have hk0 := hX.k0
    clear hX HWX
    by_cases hlt : j < len1
    · have hlti : (j : Int) < (len1 : Int) := by omega
      obtain ⟨b, o, r, da, dc, rfl, hrj, hcj, hsj, hdc, hdl⟩ := H1.out.at_ HX.out.only hlt
      have hdci : (r.length : Int) ≤ (dc : Int) := by omega
      have Hsj := Lib.hid hsj
      have Hdl := Lib.hid hdl
      clear hrj hsj hdl
      go_upto_region 16 with fail
      go_cut [20] (fun s16 wx => s16 = .slice da (r.take 150).length dc ∧ Only [] wr wx)
      case first =>
        by_cases h40 : 150 < r.length
        · have h40i : (150 : Int) < (r.length : Int) := by omega
          have hln : Hid ((r.take 150).length = 150) := Lib.hid (by rw [List.length_take]; omega)
          go_quiet (fail)
          go_wp2_with fail
          go_meet
          exact ⟨by rw [hln.out], (Only.refl [] wr).drewN _⟩
        · have h40i : ¬ (150 : Int) < (r.length : Int) := by omega
          have hln : Hid ((r.take 150).length = r.length) := Lib.hid (by rw [List.length_take]; omega)
          go_quiet (fail)
          go_wp2_with fail
          go_meet
          exact ⟨by rw [hln.out], (Only.refl [] wr).drewN _⟩
      case rest =>
        obtain ⟨rfl, hOc⟩ := hcut
        have hsc := (Hsj.out.more hOc).head (r.take 150).length (by rw [List.length_take]; omega)
        rw [take_len] at hsc
        have hdl' : 0 < (r.take 150).length → ∀ x y, da = some ⟨x, y, none⟩ → x < w.heap.size := fun hp x y e => Hdl.out (by rw [List.length_take] at hp; omega) x y e
        have hpb : partsN (r.take 150).length ≤ 3 := by unfold partsN; rw [List.length_take]; omega
        have HXc := Lib.hid (HX.out.more hOc)
        generalize r.take 150 = c at *
        have Hsc := Lib.hid hsc
        have Hdl' := Lib.hid hdl'
        clear hsc hdl' HX Hsj Hdl hcj hdci hdc hOc
        go_wp2_with fail
        by_cases hfit : L.next + partsN c.length ≤ L.size
        · refine (app_yes _ lp pd bl bm Dj L rr k da dc c HXc.out.log Hsc.out (by omega) (by omega) (by omega) hfit).mono ?_
          rintro e W1 ⟨rfl, D1, hW1, hO1⟩
          have HW1 := Lib.hid hW1
          have HO1 := Lib.hid hO1
          have Hs1 : Hid (Src W1 da c.length c) := Lib.hid (Hsc.out.keep hO1 (fun hp x y e hm => by have := Hdl'.out hp x y e; have := (HXc.out.news x hm).1; omega))
          clear hW1 hO1
          go_wp2_with (at_builtin; refine wpList_push HXc.out HO1.out HW1.out (by omega) Hs1.out Hdl'.out rfl _ _ rfl rfl _ _ rfl rfl ?_; intro v' W2 hX2)
          have HX2 := Lib.hid hX2
          clear hX2
          go_roundw
          case rel => exact ⟨j + 1, rr ++ [c], _, D1, _, by omega, by go_num, HX2.out, by omega, hLM, hLg⟩
          case measure => simp [intOf]; omega
        · refine (app_no _ lp pd bl bm Dj L rr k da dc c HXc.out.log Hsc.out (by omega) (by omega) (by omega) (by omega)).mono ?_
          rintro e W1 ⟨rfl, hW1, hO1⟩
          have HX2 := Lib.hid (HXc.out.mk' hO1 hW1 (by omega))
          clear hW1 hO1
          go_wp2_with fail
          go_roundw
          case rel => exact ⟨j + 1, rr, k, Dj, L, by omega, by go_num, HX2.out, by omega, hLM, hLg⟩
          case measure => simp [intOf]; omega
    · have hge : ¬ (j : Int) < (len1 : Int) := by omega
      go_wp2_with fail
      refine (within_to _ fuse 8 (by omega) (by omega)).mono ?_
      rintro e w' ⟨f, rfl, hf8, -, rfl⟩
      go_wp2_with fail
      refine (fuse_any _ pd bl bm Dj (f : Int) HX.out.log.disk).mono ?_
      rintro e w4 ⟨rfl, hD4, hO4⟩
      have hT4 := HX.out.turn (hO4.into (T := [lp, pd, bl, bm]) (by simp))
      have hfr : Dj.fuseR (f : Int) = { Dj with fuse := (f : Int), dead := Dj.dead, ops := Dj.ops } := by unfold DS.fuseR; rw [if_neg (by omega)]
      rw [hfr] at hD4
      have hlive := HX.out.log.live
      have hok := HX.out.log.ok
      have hL4 := HX.out.log.log.keep hO4 HX.out.log.ne
      have hlpne := HX.out.log.ne
      have hrl : rr.length ≤ 128 := HX.out.log.seqB
      have hr0 : 0 < rr.length := by have := hok.ne; cases rr with | nil => exact absurd rfl this | cons _ _ => simp
      have hEn : ({ Dj with fuse := (f : Int), dead := Dj.dead, ops := Dj.ops } : DS).n = 2 * L.size := hlive.n
      have hEd : ({ Dj with fuse := (f : Int), dead := Dj.dead, ops := Dj.ops } : DS).dead = false := hlive.dead
      have hEf : ({ Dj with fuse := (f : Int), dead := Dj.dead, ops := Dj.ops } : DS).fresh = fun _ => none := hlive.none
      have hEc : ({ Dj with fuse := (f : Int), dead := Dj.dead, ops := Dj.ops } : DS).calm k := ⟨by show -1 ≤ (f : Int); omega, by show (f : Int) < 1000; omega, by show 0 ≤ Dj.ops; rw [hlive.ops]; exact hk0, by show Dj.ops ≤ k; rw [hlive.ops]; exact Int.le_refl _⟩
      have hok1 : LogOk ({ Dj with fuse := (f : Int), dead := Dj.dead, ops := Dj.ops } : DS).now L rr := hok
      have hnews := HX.out.news
      generalize ({ Dj with fuse := (f : Int), dead := Dj.dead, ops := Dj.ops } : DS) = D1 at *
      have HD4 := Lib.hid hD4
      have HL4 := Lib.hid hL4
      have HT4 := Lib.hid hT4
      have Hok1 := Lib.hid hok1
      have Hnews := Lib.hid hnews
      have hszw : base ≤ w4.heap.size := hT4.2.2
      clear hD4 hL4 hT4 hok1 hok hlive hnews hfr hO4 HX
      obtain ⟨g3, c3, xs3, rfl, hx3l, hx3c, hx3o, hg3, hg3w, hx3⟩ := copy_row HT4.out.1 hr0
      have Hx3 := Lib.hid hx3
      have Hx3c := Lib.hid hx3c
      have Hx3o := Lib.hid hx3o
      clear hx3 hx3c hx3o
      have hA5 : Only [] w4 (w4.alloc (.cells #[] 23)) := (Only.refl [] w4).alloc _
      have hbs : Instr.buildSlice 32 0 #[] = Instr.buildSlice 32 0 #[] := rfl
      have hempty : ∀ W : World, (Instr.buildSlice 32 0 #[]).run Try.prog W = .ok (.slice (some ⟨W.heap.size, 0, none⟩) 0 0) (W.alloc (.cells #[] 23)) := fun _ => by kernel_rfl
      clear hbs
      have hpl : partsN l2.length ≤ 4 := by unfold partsN; omega
      go_upto_if 107 with (first
        | (at_builtin
           refine wpList_app1 32 23 (.slice none 0 0) 24 Try.underlying32 info34 rfl (by omega) rfl _ _ rfl base (.slice (some ⟨g6, 0, none⟩) rr.length c6) rr.length xs3 rfl ho6' (by omega) _ _ (.slice a2 l2.length cap2) rfl (IsBlk.cell (IsBlk.made w6 _) 0) rfl (by simp; omega) ?_
           intro g8 c8 w8 ho8 hO8 hat8)
        | (at_builtin
           refine wpList_appN 32 23 (.slice none 0 0) 24 Try.underlying32 info34 rfl (by omega) rfl _ _ rfl base (.slice (some ⟨w4.heap.size, 0, none⟩) 0 0) 0 [] rfl (World.ownsRow_lit (base := base) (e := 23) (size := 1) w4 #[] 0 hszw (by simp [maxLen]) rfl) (by omega) g3 rr.length c3 xs3 rfl hx3l hr0 (by omega) (fun j u hu => by have := Hx3c.out j u hu; exact (hA5.cell (p := ⟨g3, j, none⟩) hg3w (by simp)).trans this) Hx3o.out (by simp; omega) ?_
           intro g6 c6 w6 ho6 hO6 hat6
           have ho6' : (w6.alloc (.cells #[.slice a2 l2.length cap2] 23)).ownsRow base 23 1 (.slice (some ⟨g6, 0, none⟩) rr.length c6) rr.length xs3 := by
             have := ho6.alloc (.cells #[.slice a2 l2.length cap2] 23)
             simpa only [Nat.zero_add, List.nil_append] using this
           have hb6 : base ≤ w6.heap.size := by have := hO6.size; simp at this; omega))
      have hO6' : Only [] w4 w6 := hA5.then hO6 [] (by simp) (fun i hi => .inr (by have := mem_ownL.1 hi; simp [Value.ownBlock] at this; omega))
      have hg6 : w4.heap.size ≤ g6 := by rcases hat6 with h | h; (simp [Value.ownBlock] at h; omega); (simp at h; omega)
      have hcp := own_copy Hx3.out ho6 hO6' hg6
      have hA7 : Only [] w6 (w6.alloc (.cells #[.slice a2 l2.length cap2] 23)) := (Only.refl [] w6).alloc _
      have hO46 : Only [] w4 (w6.alloc (.cells #[.slice a2 l2.length cap2] 23)) := hO6'.plus hA7
      have hO48 : Only [] w4 w8 := hO46.then hO8 [] (by simp) (fun i hi => .inr (by have := mem_ownL.1 hi; simp [Value.ownBlock] at this; omega))
      have hs7 : Src (w6.alloc (.cells #[.slice a2 l2.length cap2] 23)) a2 l2.length l2 := H2.out.more (HT4.out.2.1.plus hO46)
      have hold2 : 0 < l2.length → ∀ b o, a2 = some ⟨b, o, none⟩ → b ∉ [lp, pd, bl, bm] ∧ (Value.slice (some ⟨g6, 0, none⟩) rr.length c6).ownBlock ≠ some b := fun hp b o e => by
        have h1 := H2.out.lt hp e
        have h2 := HT4.out.2.1.size
        refine ⟨fun hm => by have := (Hnews.out b hm).1; omega, fun e2 => ?_⟩
        simp [Value.ownBlock] at e2
        omega
      have hB8 : OwnBs w8 base [lp, pd, bl, bm] (.slice (some ⟨g8, 0, none⟩) (rr.length + 1) c8) (rr ++ [l2]) := by
        refine OwnBs.app (xs := xs3) ho6' (fun i r hi => ?_) hs7 hold2 ho8 hO8 hat8
        obtain ⟨da, dc, h1, h2, h3⟩ := Hx3.out i r hi
        refine ⟨da, dc, h1, h2.more hO46, fun hp b o e => ⟨h3 hp b o e, fun e2 => ?_⟩⟩
        have := h2.lt hp e
        simp [Value.ownBlock] at e2
        omega
      have hBw8 : OwnBs w8 base [lp, pd, bl, bm] (.slice (some ⟨g3, 0, none⟩) rr.length c3) rr := HT4.out.1.more hO48
      have hL8 := HL4.out.more hO48
      have hD8 := HD4.out.more hO48
      have hOw8 := HT4.out.2.1.plus hO48
      have hs8 := H2.out.more hOw8
      have HB8 := Lib.hid hB8
      have HBw8 := Lib.hid hBw8
      have HL8 := Lib.hid hL8
      have HD8 := Lib.hid hD8
      have HOw8 := Lib.hid hOw8
      have Hs8 := Lib.hid hs8
      have hsz8 := hO48.size
      clear hB8 hBw8 hL8 hD8 hOw8 hs8 hO48 hO46 hA7 hs7 hold2 ho8 hO8 hat8 ho6 hO6 hat6 ho6' hcp hO6' hg6 hA5 Hx3 Hx3c Hx3o hempty HL4 HD4 hb6
      go_cut [23, 24] (fun s23 s24 wx => ∃ (E : DS) (nw : List (List UInt8)) (dn : Bool), s24 = .bool dn ∧ OwnBs wx base [lp, pd, bl, bm] s23 nw ∧ OwnBs wx base [lp, pd, bl, bm] (.slice (some ⟨g3, 0, none⟩) rr.length c3) rr ∧ DiskAt wx pd bl bm E ∧ E.n = 2 * M ∧
        (∀ l, (foundM (E.crashed l).now M).1 = nw ∨ dn = false ∧ (foundM (E.crashed l).now M).1 = rr) ∧ Only [] w wx ∧ nw.length ≤ 200)
      case first =>
        cases fresh with
        | true =>
          have hFC := fresh_crashed (b := l2) Hok1.out hEn hEd hEf (by omega) (by omega) (by omega)
          have HFC := Lib.hid hFC
          clear hFC
          go_wp2_with fail
          have hA9 : Only [] w8 (w8.alloc (.cells #[.slice a2 l2.length cap2] 23)) := (Only.refl [] w8).alloc _
          refine (fresh_any _ lp pd bl bm L D1 k a2 cap2 l2 (HL8.out.more hA9) (HD8.out.more hA9) hEc (by omega) (Hs8.out.more hA9) (by omega) hlpne Hok1.out.half (by omega) (by rw [Hok1.out.top]; omega) (by rw [Hok1.out.top]; omega)).mono ?_
          generalize hRR : freshM L D1 l2 = RR at *
          clear hRR
          obtain ⟨L', E, ec⟩ := RR
          rintro e w9 ⟨rfl, -, hD9, hO9⟩
          simp only at hD9 HFC
          have hone := OwnBs.one (T := [lp, pd, bl, bm]) (base := base) (dc := cap2) Hs8.out (by omega) (fun hp x y e hm => by have h1 := H2.out.lt hp e; have := (Hnews.out x hm).1; omega)
          have hB9 := hone.keep hO9 (fun i hi => ⟨hi, (Hnews.out i hi).2⟩)
          have hBw9 := (HBw8.out.more hA9).keep hO9 (fun i hi => ⟨hi, (Hnews.out i hi).2⟩)
          have hOw9 := (HOw8.out.plus hA9).then hO9 [] (by simp) (fun i hi => .inr (Hnews.out i hi).1)
          have HB9 := Lib.hid hB9
          have HBw9 := Lib.hid hBw9
          have HOw9 := Lib.hid hOw9
          have HD9 := Lib.hid hD9
          have HEn : Hid (E.n = 2 * M) := Lib.hid (by rw [HFC.out.1, hEn, hLM])
          have HF9 : Hid (∀ l, (foundM (E.crashed l).now M).1 = [l2] ∨ ec ≠ 0 ∧ (foundM (E.crashed l).now M).1 = rr) := Lib.hid (fun l => by have := HFC.out.2 l; rwa [hLM] at this)
          clear hone hB9 hBw9 hOw9 hD9 hO9 hA9 HFC
          simp only
          by_cases hec : ec = 0
          · subst hec
            go_wp2_with fail
            go_meet
            exact ⟨E, [l2], true, rfl, HB9.out, HBw9.out, HD9.out, HEn.out, fun l => (HF9.out l).elim .inl (fun h => absurd rfl h.1), HOw9.out, by simp <;> omega⟩
          · have hecb : (ec == 0) = false := by simpa using hec
            go_wp2_with fail
            go_meet
            exact ⟨E, [l2], false, rfl, HB9.out, HBw9.out, HD9.out, HEn.out, fun l => (HF9.out l).elim .inl (fun h => .inr ⟨rfl, h.2⟩), HOw9.out, by simp <;> omega⟩
        | false =>
          have hFC := append_crashed (b := l2) Hok1.out hEn hEd hEf (by omega) (by omega)
          have HFC := Lib.hid hFC
          clear hFC
          go_wp2_with fail
          have hgp := Hok1.out.gen_pos
          have hsq := Hok1.out.seq
          have hft := Hok1.out.fit
          refine (append_any _ lp pd bl bm L D1 k a2 cap2 l2 HL8.out HD8.out hEc (by omega) Hs8.out (by omega) (fun _ => mayB_iff.2 ⟨by omega, by omega, by omega, by omega⟩) hlpne Hok1.out.half (by omega) (by omega)).mono ?_
          generalize hRR : appM L D1 l2 = RR at *
          clear hRR
          obtain ⟨L', E, is, ec⟩ := RR
          rintro e w9 ⟨rfl, -, hD9, hO9⟩
          simp only at hD9 HFC
          have hB9 := HB8.out.keep hO9 (fun i hi => ⟨hi, (Hnews.out i hi).2⟩)
          have hBw9 := HBw8.out.keep hO9 (fun i hi => ⟨hi, (Hnews.out i hi).2⟩)
          have hOw9 := HOw8.out.then hO9 [] (by simp) (fun i hi => .inr (Hnews.out i hi).1)
          have HB9 := Lib.hid hB9
          have HBw9 := Lib.hid hBw9
          have HOw9 := Lib.hid hOw9
          have HD9 := Lib.hid hD9
          have HEn : Hid (E.n = 2 * M) := Lib.hid (by rw [HFC.out.1, hEn, hLM])
          clear hB9 hBw9 hOw9 hD9 hO9 hgp hsq hft
          simp only
          rcases HFC.out.2 with ⟨h1, h2, h3⟩ | ⟨h1, h3⟩
          · subst h1; subst h2
            rw [hLM] at h3
            have H3 := Lib.hid h3
            clear h3 HFC
            go_wp2_with fail
            go_meet
            exact ⟨E, rr, false, rfl, HBw9.out, HBw9.out, HD9.out, HEn.out, fun l => .inl (H3.out l), HOw9.out, by omega⟩
          · rw [hLM] at h3
            have H3 := Lib.hid h3
            clear h3 HFC
            by_cases hec : ec = 0
            · subst hec
              have h1' : is = true := by simpa using h1
              subst h1'
              clear h1
              go_wp2_with fail
              go_meet
              exact ⟨E, rr ++ [l2], true, rfl, by simpa using HB9.out, HBw9.out, HD9.out, HEn.out, fun l => (H3.out l).elim .inl (fun h => absurd rfl h.1), HOw9.out, by simp <;> omega⟩
            · have h1' : is = false := by rw [h1]; simpa using hec
              subst h1'
              clear h1
              have hecb : (ec == 0) = false := by simpa using hec
              go_wp2_with fail
              go_meet
              exact ⟨E, rr ++ [l2], false, rfl, by simpa using HB9.out, HBw9.out, HD9.out, HEn.out, fun l => (H3.out l).elim .inl (fun h => .inr ⟨rfl, h.2⟩), HOw9.out, by simp <;> omega⟩
      case rest =>
        obtain ⟨E, nw, dn, rfl, hBn, hBw, hDE, hEn2, hF, hOw, hnw⟩ := hcut
        have HBn := Lib.hid hBn
        have HBw := Lib.hid hBw
        have HF := Lib.hid hF
        have HOw := Lib.hid hOw
        have HDE := Lib.hid hDE
        have Hs4 := Lib.hid (H4.out.more hOw)
        clear hBn hBw hDE hF hOw HB8 HBw8 HL8 HD8 HOw8 Hs8
        go_wp2_with fail
        refine (crash_any _ pd bl bm E a4 len4 cap4 l4 HDE.out Hs4.out (fun hp b o e => by have h1 := H4.out.lt hp e; have h2 := (Hnews.out bl (by simp)).1; have h3 := (Hnews.out bm (by simp)).1; omega)).mono ?_
        rintro e w10 ⟨rfl, hD10, hO10⟩
        have hO10' := hO10.into (T := [lp, pd, bl, bm]) (by simp)
        have HBn10 := Lib.hid (HBn.out.keep hO10' (fun i hi => ⟨hi, (Hnews.out i hi).2⟩))
        have HBw10 := Lib.hid (HBw.out.keep hO10' (fun i hi => ⟨hi, (Hnews.out i hi).2⟩))
        have HOw10 := Lib.hid (HOw.out.then hO10' [] (by simp) (fun i hi => .inr (Hnews.out i hi).1))
        have HD10 := Lib.hid hD10
        clear hD10 hO10 hO10' HBn HBw HOw HDE
        go_wp2_with fail
        refine (open_any _ pd bl bm (E.crashed l4) HD10.out rfl).mono ?_
        rintro e w11 ⟨lp', ra, rc, rfl, -, -, hB11, -, hO11⟩
        have hn2 : (E.crashed l4).n / 2 = M := by show E.n / 2 = M; omega
        rw [hn2] at hB11 ⊢
        have hF4 := HF.out l4
        generalize (foundM (E.crashed l4).now M).1 = Fd at *
        obtain ⟨na, nc, rfl, hBn11, -⟩ := (HBn10.out.more hO11).shape
        obtain ⟨wa, wc', ew, hBw11, -⟩ := (HBw10.out.more hO11).shape
        injection ew with ew1 ew2 ew3
        subst ew1; subst ew3
        have HB11 := Lib.hid hB11
        have HBn11 := Lib.hid hBn11
        have HBw11 := Lib.hid hBw11
        have HOw11 := Lib.hid (HOw10.out.plus hO11)
        have hFl : Fd.length ≤ 1000 := by rcases hF4 with h | h; (rw [h]; omega); (rw [h.2]; omega)
        clear hB11 hBn11 hBw11 hO11 HBn10 HBw10 HOw10 HD10
        go_wp2_with fail
        refine (rows_any _ ra na rc nc Fd nw HB11.out HBn11.out hFl).mono ?_
        by_cases hfn : Fd = nw
        · rw [decide_eq_true hfn]
          rintro e w12 ⟨rfl, hO12⟩
          clear hfn hF4
          go_wp2
          go_ret
          exact ⟨rfl, HOw11.out.plus hO12⟩
        · obtain ⟨rfl, hfr⟩ := hF4.resolve_left hfn
          rw [decide_eq_false hfn]
          rintro e w12 ⟨rfl, hO12⟩
          have Hfr := Lib.hid hfr
          clear hfn hfr hF4
          go_wp2_with fail
          refine (rows_any _ ra (some ⟨g3, 0, none⟩) rc c3 Fd rr (HB11.out.more hO12) (HBw11.out.more hO12) hFl).mono ?_
          rw [decide_eq_true Hfr.out]
          rintro e w13 ⟨rfl, hO13⟩
          go_wp2
          go_ret
          exact ⟨rfl, (HOw11.out.plus hO12).plus hO13⟩

end Go.Proofs.Ytdfnclfmmohpeaa
