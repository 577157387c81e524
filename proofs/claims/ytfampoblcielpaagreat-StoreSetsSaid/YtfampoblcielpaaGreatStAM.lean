/-
  The walk of the law StoreSets.
-/
import Derived.Test.YtfampoblcielpaaGreatStW
import Derived.Test.YtfampoblcielpaaGreatStAH
import Derived.Test.YtfampoblcielpaaGreatStAD
import Derived.Test.YtfampoblcielpaaGreatStS
import Derived.Test.YtfampoblcielpaaGreatStM
import Derived.Test.YtfampoblcielpaaGreatWalM
namespace Go.Proofs.YtfampoblcielpaaGreat
set_option maxRecDepth 100000
set_option linter.unusedVariables false
open Go.RowKit Go.Sort Go.Maps

/-- Records that make the files N: these alone, or none and a change to them. -/
def RowsOf (N : List FileM) (rs : List (List UInt8)) : Prop := rs = [setB [], changeB [] N (N.map (·.1))] ∨ rs = [setB N]
def FilesTo (w : World) (N : List FileM) (e : Ending) (w' : World) : Prop := ∃ bn, e = .returned (.map (some bn)) ∧ SetAt w' bn N ∧ w.heap.size ≤ bn ∧ Only [] w w'
theorem kept_none : Kept [] := ⟨⟨by simp, by simp⟩, by simp, rfl⟩
theorem setB_pos (N : List FileM) : 0 < (setB N).length := by unfold setB; rw [List.length_append, length_leB]; omega
theorem changeB_pos (N : List FileM) (ns : List (List UInt8)) : 0 < (changeB [] N ns).length := by unfold changeB; rw [List.length_append, length_leB]; omega

set_option maxHeartbeats 4000000 in
theorem filesOf_one (w : World) (a : Option Addr) (cap : Nat) (N : List FileM) (hN : Kept N) (h : BytesAt w a 1 [setB N]) (hc : 1 ≤ cap) :
    Calls Tryz.prog 19 #[.slice a 1 cap] w (FilesTo w N) := by
  obtain ⟨b, o, rfl, hb, hr⟩ := h.2 (by omega)
  obtain ⟨da, dc, c0, hs, hl⟩ := hr 0 _ rfl
  obtain ⟨sb, so, rfl, hsb, -⟩ := hs.2 (setB_pos N)
  have Hs := Lib.hid hs
  rw [Nat.add_zero] at c0
  clear h hr hs
  go_enter Tryz.func19, Tryz.ntmps19
  go_wp2_with fail
  refine (readWhole_any _ sb so dc N hN Hs.out hsb hl).mono ?_
  rintro e w1 ⟨bn, rfl, hset, hbn, hO⟩
  have Hset := Lib.hid hset
  have HO := Lib.hid hO
  clear hset hO
  by_cases h1 : cap = 1
  · subst h1
    go_wp2_with fail
    go_loopw [26, 3] (fun i m wr => i = .int .i64 0 ∧ m = .map (some bn) ∧ w1 = wr) (fun i _ _ => 1 - (intOf i).toNat)
    case atStart => exact ⟨rfl, rfl, rfl⟩
    case round =>
      obtain ⟨rfl, rfl, rfl⟩ := hrel
      go_wp2
      go_ret
      exact ⟨bn, rfl, Hset.out, hbn, HO.out⟩
  · go_wp2_with fail
    go_loopw [26, 3] (fun i m wr => i = .int .i64 0 ∧ m = .map (some bn) ∧ w1 = wr) (fun i _ _ => 1 - (intOf i).toNat)
    case atStart => exact ⟨rfl, rfl, rfl⟩
    case round =>
      obtain ⟨rfl, rfl, rfl⟩ := hrel
      go_wp2
      go_ret
      exact ⟨bn, rfl, Hset.out, hbn, HO.out⟩

set_option maxHeartbeats 4000000 in
theorem filesOf_two (w : World) (a : Option Addr) (cap : Nat) (N : List FileM) (hN : Kept N) (h : BytesAt w a 2 [setB [], changeB [] N (N.map (·.1))]) (hc : 2 ≤ cap) :
    Calls Tryz.prog 19 #[.slice a 2 cap] w (FilesTo w N) := by
  obtain ⟨b, o, rfl, hb, hr⟩ := h.2 (by omega)
  obtain ⟨da, dc, c0, hs, hl⟩ := hr 0 _ rfl
  obtain ⟨ea, ec, c1, hs1, hl1⟩ := hr 1 _ rfl
  obtain ⟨sb, so, rfl, hsb, -⟩ := hs.2 (setB_pos [])
  obtain ⟨tb, tq, rfl, htb, -⟩ := hs1.2 (changeB_pos N _)
  have Hs := Lib.hid hs
  have Hs1 := Lib.hid hs1
  have HN := Lib.hid hN
  rw [Nat.add_zero] at c0
  clear h hr hs hs1 hN
  have hc1 : ¬ cap = 1 := by omega
  go_enter Tryz.func19, Tryz.ntmps19
  go_wp2_with fail
  refine (readWhole_any _ sb so dc [] kept_none Hs.out hsb hl).mono ?_
  rintro e w1 ⟨bn, rfl, hset, hbn, hO⟩
  have Hset := Lib.hid hset
  have HO := Lib.hid hO
  have hsz := hO.size
  have c1' : w1.cell? ⟨b, o + 1, none⟩ = some (.slice (some ⟨tb, tq, none⟩) (changeB [] N (N.map (·.1))).length ec) := (hO.cell (p := ⟨b, o + 1, none⟩) hb (by simp)).trans c1
  have Hs2 := Lib.hid (Hs1.out.more hO)
  clear hset hO c0 c1
  go_wp2_with fail
  go_loopw [26, 3] (fun i m wr => (i = .int .i64 0 ∧ m = .map (some bn) ∧ w1 = wr) ∨ (i = .int .i64 1 ∧ ∃ bm, m = .map (some bm) ∧ SetAt wr bm N ∧ w.heap.size ≤ bm ∧ Only [] w wr)) (fun i _ _ => 2 - (intOf i).toNat)
  case atStart => exact .inl ⟨rfl, rfl, rfl⟩
  case round =>
    rcases hrel with ⟨rfl, rfl, rfl⟩ | ⟨rfl, bm, rfl, hsm, hbm, hOm⟩
    · go_wp2_with fail
      refine (readChange_any _ bn tb tq ec N Hset.out HN.out Hs2.out (by omega) hl1).mono ?_
      rintro e w2 ⟨bm, rfl, hsm, hbm, hOm⟩
      have Hsm := Lib.hid hsm
      have HOm := Lib.hid (HO.out.plus hOm)
      clear hsm hOm
      go_wp2
      go_roundw
      case rel => exact .inr ⟨rfl, bm, rfl, Hsm.out, by omega, HOm.out⟩
      case measure => simp [intOf]
    · have Hsm := Lib.hid hsm
      have HOm := Lib.hid hOm
      clear hsm hOm
      go_wp2
      go_ret
      exact ⟨bm, rfl, Hsm.out, hbm, HOm.out⟩

theorem filesOf_kept (w : World) (a : Option Addr) (cap : Nat) (N : List FileM) (rs : List (List UInt8)) (hN : Kept N) (hr : RowsOf N rs) (h : BytesAt w a rs.length rs) (hc : rs.length ≤ cap) :
    Calls Tryz.prog 19 #[.slice a rs.length cap] w (FilesTo w N) := by
  rcases hr with rfl | rfl
  · exact filesOf_two w a cap N hN h hc
  · exact filesOf_one w a cap N hN h hc

set_option maxHeartbeats 4000000 in
theorem openS_kept (w : World) (lp0 pd bl bm : Nat) (D : DS) (L : LS) (rs : List (List UInt8)) (k : Int) (N : List FileM) (h : WL w lp0 pd bl bm D L rs k) (hN : Kept N) (hr : RowsOf N rs) (hp : partsN (setB N).length ≤ 255) (hsz : partsN (setB N).length ≤ L.size) (hg : L.gen < 4294967295) (hk0 : 0 ≤ k) (hk : k < 100000) :
    Calls Tryz.prog 8 #[.pointer (some ⟨pd, 0, none⟩)] w fun e w' => ∃ sp lp b D' L', e = .returned (.tuple #[.pointer (some ⟨sp, 0, none⟩), .int .i64 0]) ∧ StAt w' sp lp pd bl bm b D' L' [setB N] (k + partsN (setB N).length + 1) N ∧ L'.size = L.size ∧ L'.gen = L.gen + 1 ∧ Only [pd, bl, bm] w w' := by
  have h1 := h.disk.plt
  have h2 := h.disk.blt
  have h3 := h.disk.mlt
  have H := Lib.hid h
  have HN := Lib.hid hN
  have Hr := Lib.hid hr
  clear h hN hr
  go_enter Tryz.func8, Tryz.ntmps8
  go_wp2_with fail
  refine (opened _ lp0 pd bl bm D L rs k H.out).mono ?_
  rintro e w1 ⟨lp, a, cap, rfl, hW, ⟨hB, hcap⟩, hlp, hO1⟩
  have HW := Lib.hid hW
  have HO1 := Lib.hid hO1
  have HB := Lib.hid hB
  have hlw := IsBlk.lt hW.log
  clear hW hO1 hB
  go_wp2_with fail
  refine (filesOf_kept _ a cap N rs HN.out Hr.out HB.out hcap).mono ?_
  rintro e w2 ⟨b, rfl, hS2, hb, hO2⟩
  have hsz2 := hS2.lt
  have HW2 := Lib.hid (HW.out.more hO2)
  have HS2 := Lib.hid hS2
  have HO2 := Lib.hid (HO1.out.plus hO2)
  have hs1 := HO1.out.size
  clear hO2 hS2 HW HO1 HB
  go_wp2_with fail
  refine (whole_any _ b N HS2.out HN.out.modest).mono ?_
  rintro e w3 ⟨v3, rfl, hv3, hO3⟩
  obtain ⟨a3, c3, rfl, hs3, hn3, -⟩ := OwnB.shape hv3
  have HW3 := Lib.hid (HW2.out.more hO3)
  have HS3 := Lib.hid (HS2.out.more hO3)
  have HO3 := Lib.hid (HO2.out.plus hO3)
  have Hs3 := Lib.hid hs3
  clear hv3 hn3 hs3 hO3 HW2 HS2 HO2
  go_wp2_with fail
  refine (freshened _ lp pd bl bm D L rs k a3 c3 (setB N) HW3.out Hs3.out hp hsz hg hk0 hk).mono ?_
  rintro e w4 ⟨rfl, D4, hW4, hO4⟩
  have hbn : b ∉ [lp, pd, bl, bm] := by simp; omega
  have HW4 := Lib.hid hW4
  have HS4 := Lib.hid (HS3.out.keep hO4 hbn)
  have HO4 := Lib.hid (HO3.out.trans hO4)
  have hsz4 := HO4.out.size
  have hb4 := HS4.out.lt
  clear hW4 hO4 HW3 HS3 HO3 Hs3
  go_wp2
  go_ret2
  have hO5 := (Only.refl [] w4).alloc (.cells (stcells lp b) 62)
  refine ⟨w4.heap.size, lp, b, D4, _, rfl, ⟨IsBlk.made w4 _, HW4.out.more hO5, HS4.out.more hO5, ?_, hbn⟩, rfl, rfl, ?_⟩
  · have q1 := HW4.out.disk.plt; have q2 := HW4.out.disk.blt; have q3 := HW4.out.disk.mlt; have q4 := IsBlk.lt HW4.out.log
    simp; omega
  · exact (HO4.out.plus hO5).into (fun j hj => by simp at hj; rcases hj with rfl | hj; exact .inr hlp; exact .inl (by simpa using hj))

end Go.Proofs.YtfampoblcielpaaGreat
namespace Go.Proofs.YtfampoblcielpaaGreat
set_option maxRecDepth 100000
set_option linter.unusedVariables false
open Go.RowKit Go.Sort Go.Maps

/-- Records that make the files N: a set whole, and changes from each set to the next. -/
def RowsG (N : List FileM) (rs : List (List UInt8)) : Prop := ∃ g : Nat → List FileM, 0 < rs.length ∧ (∀ i, Kept (g i)) ∧ g (rs.length - 1) = N ∧ rs[0]? = some (setB (g 0)) ∧ ∀ i, i + 1 < rs.length → rs[i + 1]? = some (changeB (g i) (g (i + 1)) (namesM [g i, g (i + 1)]))
theorem RowsG.one {N : List FileM} (h : Kept N) : RowsG N [setB N] := ⟨fun _ => N, by simp, fun _ => h, rfl, rfl, fun i hi => by simp at hi⟩
theorem RowsG.kept {N : List FileM} {rs : List (List UInt8)} (h : RowsG N rs) : Kept N := by
  obtain ⟨g, h0, hk, hN, -⟩ := h
  rw [← hN]; exact hk _
theorem RowsG.add {N M : List FileM} {rs : List (List UInt8)} (h : RowsG N rs) (hM : Kept M) : RowsG M (rs ++ [changeB N M (namesM [N, M])]) := by
  obtain ⟨g, h0, hk, hN, hf, hs⟩ := h
  refine ⟨fun i => if i < rs.length then g i else M, by simp, fun i => ?_, ?_, ?_, fun i hi => ?_⟩
  · show Kept (if i < rs.length then g i else M)
    split
    · exact hk i
    · exact hM
  · show (if (rs ++ [changeB N M (namesM [N, M])]).length - 1 < rs.length then _ else M) = M
    rw [if_neg (by simp)]
  · show _ = some (setB (if 0 < rs.length then g 0 else M))
    rw [if_pos h0, List.getElem?_append_left h0]; exact hf
  · simp only [List.length_append, List.length_cons, List.length_nil] at hi
    show _ = some (changeB (if i < rs.length then g i else M) (if i + 1 < rs.length then g (i + 1) else M) (namesM [if i < rs.length then g i else M, if i + 1 < rs.length then g (i + 1) else M]))
    by_cases h1 : i + 1 < rs.length
    · rw [if_pos (by omega), if_pos h1, List.getElem?_append_left h1]; exact hs i h1
    · have he : i + 1 = rs.length := by omega
      have hi' : i = rs.length - 1 := by omega
      rw [if_pos (by omega), if_neg h1, he, List.getElem?_append_right (by omega), hi', hN]
      simp
theorem changeG_pos (G N : List FileM) (ns : List (List UInt8)) : 0 < (changeB G N ns).length := by unfold changeB; rw [List.length_append, length_leB]; omega

set_option maxHeartbeats 4000000 in
theorem filesOf_many (w : World) (a : Option Addr) (cap : Nat) (rs : List (List UInt8)) (g : Nat → List FileM) (hk : ∀ i, Kept (g i)) (h2 : 2 ≤ rs.length) (h16 : rs.length ≤ 1000000) (hf : rs[0]? = some (setB (g 0))) (hs : ∀ i, i + 1 < rs.length → rs[i + 1]? = some (changeB (g i) (g (i + 1)) (namesM [g i, g (i + 1)]))) (h : BytesAt w a rs.length rs) (hc : rs.length ≤ cap) :
    Calls Tryz.prog 19 #[.slice a rs.length cap] w (FilesTo w (g (rs.length - 1))) := by
  obtain ⟨b, o, rfl, hb, hr⟩ := h.2 (by omega)
  obtain ⟨da, dc, c0, hs0, hl⟩ := hr 0 _ hf
  obtain ⟨sb, so, rfl, hsb, -⟩ := hs0.2 (setB_pos (g 0))
  have Hs := Lib.hid hs0
  have Hk := Lib.hid hk
  have Hr : Hid (∀ i, i + 1 < rs.length → ∃ (tb tq ec : Nat), w.cell? ⟨b, o + (i + 1), none⟩ = some (.slice (some ⟨tb, tq, none⟩) (changeB (g i) (g (i + 1)) (namesM [g i, g (i + 1)])).length ec) ∧ Src w (some ⟨tb, tq, none⟩) (changeB (g i) (g (i + 1)) (namesM [g i, g (i + 1)])).length (changeB (g i) (g (i + 1)) (namesM [g i, g (i + 1)])) ∧ tb < w.heap.size ∧ (changeB (g i) (g (i + 1)) (namesM [g i, g (i + 1)])).length ≤ ec) := Lib.hid (fun i hi => by
    obtain ⟨ea, ec, c1, hs1, hl1⟩ := hr (i + 1) _ (hs i hi)
    obtain ⟨tb, tq, rfl, htb, -⟩ := hs1.2 (changeG_pos _ _ _)
    exact ⟨tb, tq, ec, c1, hs1, htb, hl1⟩)
  rw [Nat.add_zero] at c0
  clear h hr hs0 hs hf hk
  generalize rs.length = n at *
  have hc1 : ¬ cap = 1 := by omega
  go_enter Tryz.func19, Tryz.ntmps19
  go_wp2_with fail
  refine (readWhole_any _ sb so dc (g 0) (Hk.out 0) Hs.out hsb hl).mono ?_
  rintro e w1 ⟨bn, rfl, hset, hbn, hO⟩
  have Hset := Lib.hid hset
  have HO := Lib.hid hO
  have hsz := hO.size
  clear hset hO c0
  go_wp2_with fail
  go_loopw [26, 3] (fun i m wr => ∃ j bm : Nat, j + 1 ≤ n ∧ i = .int .i64 j ∧ m = .map (some bm) ∧ SetAt wr bm (g j) ∧ w.heap.size ≤ bm ∧ Only [] w wr) (fun i _ _ => n - (intOf i).toNat)
  case atStart => exact ⟨0, bn, by omega, rfl, rfl, Hset.out, hbn, HO.out⟩
  case round =>
    obtain ⟨j, bm, hj, rfl, rfl, hsm, hbm, hOm⟩ := hrel
    have Hsm := Lib.hid hsm
    have HOm := Lib.hid hOm
    clear hsm hOm
    by_cases hlt : j + 1 < n
    · obtain ⟨tb, tq, ec, c1, hs1, htb, hl1⟩ := Hr.out j hlt
      have c1' : wr.cell? ⟨b, o + 1 + j, none⟩ = some (.slice (some ⟨tb, tq, none⟩) (changeB (g j) (g (j + 1)) (namesM [g j, g (j + 1)])).length ec) := by
        rw [show o + 1 + j = o + (j + 1) by omega]
        exact (HOm.out.cell (p := ⟨b, o + (j + 1), none⟩) hb (by simp)).trans c1
      have Hs2 := Lib.hid (hs1.more HOm.out)
      have hszr := HOm.out.size
      clear c1 hs1
      have hlti : (j : Int) < ((n - 1 : Nat) : Int) := by omega
      have hlti2 : (j : Int) < (n : Int) - 1 := by omega
      have hltn : j < n - 1 := by omega
      go_wp2_with fail
      refine (readChange_gen _ bm tb tq ec (g j) (g (j + 1)) Hsm.out (Hk.out j) (Hk.out (j + 1)) Hs2.out (by omega) hl1).mono ?_
      rintro e w2 ⟨bm2, rfl, hsm, hbm2, hOm⟩
      have Hsm2 := Lib.hid hsm
      have HOm2 := Lib.hid (HOm.out.plus hOm)
      clear hsm hOm
      go_wp2
      go_roundw
      case rel => exact ⟨j + 1, bm2, by omega, by go_num, rfl, Hsm2.out, by omega, HOm2.out⟩
      case measure => simp [intOf]; omega
    · have he : j = n - 1 := by omega
      have hlti : ¬ (j : Int) < ((n - 1 : Nat) : Int) := by omega
      have hlti2 : ¬ (j : Int) < (n : Int) - 1 := by omega
      go_wp2
      go_ret
      exact ⟨bm, rfl, by rw [← he]; exact Hsm.out, hbm, HOm.out⟩

theorem filesOf_gen (w : World) (a : Option Addr) (cap : Nat) (N : List FileM) (rs : List (List UInt8)) (hr : RowsG N rs) (hl : rs.length ≤ 1000000) (h : BytesAt w a rs.length rs) (hc : rs.length ≤ cap) :
    Calls Tryz.prog 19 #[.slice a rs.length cap] w (FilesTo w N) := by
  obtain ⟨g, h0, hk, hN, hf, hs⟩ := hr
  by_cases h2 : 2 ≤ rs.length
  · have := filesOf_many w a cap rs g hk h2 hl hf hs h hc
    rwa [hN] at this
  · have h1 : rs.length = 1 := by omega
    obtain ⟨x, rfl⟩ := List.length_eq_one_iff.1 h1
    simp only [List.length_cons, List.length_nil, List.getElem?_cons_zero, Option.some.injEq] at hf hN
    subst hf
    subst hN
    exact filesOf_one w a cap _ (hk _) h hc

set_option maxHeartbeats 4000000 in
theorem openS_gen (w : World) (lp0 pd bl bm : Nat) (D : DS) (L : LS) (rs : List (List UInt8)) (k : Int) (N : List FileM) (h : WL w lp0 pd bl bm D L rs k) (hN : Kept N) (hr : RowsG N rs) (hrl : rs.length ≤ 1000000) (hp : partsN (setB N).length ≤ 255) (hsz : partsN (setB N).length ≤ L.size) (hg : L.gen < 4294967295) (hk0 : 0 ≤ k) (hk : k < 100000) :
    Calls Tryz.prog 8 #[.pointer (some ⟨pd, 0, none⟩)] w fun e w' => ∃ sp lp b D' L', e = .returned (.tuple #[.pointer (some ⟨sp, 0, none⟩), .int .i64 0]) ∧ StAt w' sp lp pd bl bm b D' L' [setB N] (k + partsN (setB N).length + 1) N ∧ L'.size = L.size ∧ L'.gen = L.gen + 1 ∧ w.heap.size ≤ sp ∧ w.heap.size ≤ lp ∧ Only [pd, bl, bm] w w' := by
  have h1 := h.disk.plt
  have h2 := h.disk.blt
  have h3 := h.disk.mlt
  have H := Lib.hid h
  have HN := Lib.hid hN
  have Hr := Lib.hid hr
  clear h hN hr
  go_enter Tryz.func8, Tryz.ntmps8
  go_wp2_with fail
  refine (opened _ lp0 pd bl bm D L rs k H.out).mono ?_
  rintro e w1 ⟨lp, a, cap, rfl, hW, ⟨hB, hcap⟩, hlp, hO1⟩
  have HW := Lib.hid hW
  have HO1 := Lib.hid hO1
  have HB := Lib.hid hB
  have hlw := IsBlk.lt hW.log
  clear hW hO1 hB
  go_wp2_with fail
  refine (filesOf_gen _ a cap N rs Hr.out hrl HB.out hcap).mono ?_
  rintro e w2 ⟨b, rfl, hS2, hb, hO2⟩
  have hsz2 := hS2.lt
  have HW2 := Lib.hid (HW.out.more hO2)
  have HS2 := Lib.hid hS2
  have HO2 := Lib.hid (HO1.out.plus hO2)
  have hs1 := HO1.out.size
  clear hO2 hS2 HW HO1 HB
  go_wp2_with fail
  refine (whole_any _ b N HS2.out HN.out.modest).mono ?_
  rintro e w3 ⟨v3, rfl, hv3, hO3⟩
  obtain ⟨a3, c3, rfl, hs3, hn3, -⟩ := OwnB.shape hv3
  have HW3 := Lib.hid (HW2.out.more hO3)
  have HS3 := Lib.hid (HS2.out.more hO3)
  have HO3 := Lib.hid (HO2.out.plus hO3)
  have Hs3 := Lib.hid hs3
  clear hv3 hn3 hs3 hO3 HW2 HS2 HO2
  go_wp2_with fail
  refine (freshened _ lp pd bl bm D L rs k a3 c3 (setB N) HW3.out Hs3.out hp hsz hg hk0 hk).mono ?_
  rintro e w4 ⟨rfl, D4, hW4, hO4⟩
  have hbn : b ∉ [lp, pd, bl, bm] := by simp; omega
  have HW4 := Lib.hid hW4
  have HS4 := Lib.hid (HS3.out.keep hO4 hbn)
  have HO4 := Lib.hid (HO3.out.trans hO4)
  have hsz4 := HO4.out.size
  have hb4 := HS4.out.lt
  clear hW4 hO4 HW3 HS3 HO3 Hs3
  go_wp2
  go_ret2
  have hO5 := (Only.refl [] w4).alloc (.cells (stcells lp b) 62)
  refine ⟨w4.heap.size, lp, b, D4, _, rfl, ⟨IsBlk.made w4 _, HW4.out.more hO5, HS4.out.more hO5, ?_, hbn⟩, rfl, rfl, hsz4, hlp, ?_⟩
  · have q1 := HW4.out.disk.plt; have q2 := HW4.out.disk.blt; have q3 := HW4.out.disk.mlt; have q4 := IsBlk.lt HW4.out.log
    simp; omega
  · exact (HO4.out.plus hO5).into (fun j hj => by simp at hj; rcases hj with rfl | hj; exact .inr hlp; exact .inl (by simpa using hj))

end Go.Proofs.YtfampoblcielpaaGreat
namespace Go.Proofs.YtfampoblcielpaaGreat
set_option maxRecDepth 100000
set_option linter.unusedVariables false
open Go.RowKit Go.Sort Go.Maps

theorem sum_sub {α : Type} [DecidableEq α] (h : α → Nat) : ∀ (U M : List α), U.Nodup → (∀ n ∈ U, n ∈ M) → (U.map h).sum ≤ (M.map h).sum
  | [], M, _, _ => by simp
  | n :: r, M, hd, hs => by
    have hn : n ∈ M := hs n (by simp)
    have hp : (M.map h).sum = (((n :: M.erase n)).map h).sum := ((List.perm_cons_erase hn).map h).sum_nat
    rw [hp, List.map_cons, List.map_cons, List.sum_cons, List.sum_cons]
    rw [List.nodup_cons] at hd
    have := sum_sub h r (M.erase n) hd.2 (fun x hx => (List.mem_erase_of_ne (fun e : x = n => hd.1 (by rw [← e]; exact hx))).2 (hs x (by simp [hx])))
    omega
theorem ent_del {N : List FileM} {n : List UInt8} (h : ¬ (getS n N).isSome = true) : (entC N n).length = 2 + n.length := by
  unfold entC
  rw [if_neg h]
  simp [length_leB]; omega
theorem ent_split (N : List FileM) : ∀ T : List (List UInt8), (∀ n ∈ T, n.length ≤ 12) → (T.map fun n => (entC N n).length).sum ≤ ((T.filter fun n => (getS n N).isSome).map fun n => (entC N n).length).sum + 14 * T.length
  | [], _ => by simp
  | n :: r, h => by
    have ih := ent_split N r (fun x hx => h x (by simp [hx]))
    have h12 := h n (by simp)
    rw [List.map_cons, List.sum_cons, List.filter_cons, List.length_cons]
    by_cases hs : (getS n N).isSome = true
    · rw [if_pos hs, List.map_cons, List.sum_cons]
      omega
    · rw [if_neg hs]
      have := ent_del hs
      omega
theorem ent_put {N : List FileM} (hN : Kept N) {f : FileM} (hf : f ∈ N) : (entC N f.1).length = 1 + (fileB f).length := by
  have hg : getS f.1 N = some f := get_mem hN.rise hf
  unfold entC atF
  rw [hg]
  simp [length_leB]
theorem sum_put {N : List FileM} (hN : Kept N) : ∀ M : List FileM, (∀ f ∈ M, f ∈ N) → ((M.map (·.1)).map fun n => (entC N n).length).sum = M.length + (M.flatMap fileB).length
  | [], _ => by simp
  | f :: r, h => by
    have ih := sum_put hN r (fun x hx => h x (by simp [hx]))
    rw [List.map_cons, List.map_cons, List.sum_cons, List.flatMap_cons, List.length_append, List.length_cons, ent_put hN (h f (by simp)), ih]
    omega
theorem change_len {G N : List FileM} (hG : Kept G) (hN : Kept N) : (changeB G N (namesM [G, N])).length ≤ (setB N).length + 232 := by
  have h16 := told_len hG hN
  have hsh := told_short hG hN
  have hl := hN.len
  have hnd : (toldC G N (namesM [G, N])).Nodup := (namesM_nodup _).filter _
  rw [changeB_told, List.length_append, length_leB]
  unfold setB
  rw [List.length_append, length_leB, List.length_flatMap]
  have h1 := ent_split N _ hsh
  have h2 := sum_sub (fun n => (entC N n).length) ((toldC G N (namesM [G, N])).filter fun n => (getS n N).isSome) (N.map (·.1)) (hnd.filter _) (fun n hn => by
    obtain ⟨h3, h4⟩ := getS_some (List.mem_filter.1 hn).2
    exact List.mem_map.2 ⟨_, h3, h4⟩)
  rw [sum_put hN N (fun f hf => hf)] at h2
  omega
/-- A change to a set that a half of up to 250 sectors holds is a record that may be written. -/
theorem change_fits {G N : List FileM} (hG : Kept G) (hN : Kept N) (hp : partsN (setB N).length ≤ 250) : partsN (changeB G N (namesM [G, N])).length ≤ 255 := by
  have h1 := change_len hG hN
  have h2 := partsN_le (setB N).length
  unfold partsN at *
  omega

end Go.Proofs.YtfampoblcielpaaGreat
namespace Go.Proofs.YtfampoblcielpaaGreat
set_option maxRecDepth 100000
set_option linter.unusedVariables false
open Go.RowKit Go.Sort Go.Maps

/-- A store whose records make its files, which have room in a half. -/
structure KeepsG (w : World) (sp lp pd bl bm b : Nat) (D : DS) (L : LS) (rs : List (List UInt8)) (k : Int) (F : List FileM) : Prop where
  at_ : StAt w sp lp pd bl bm b D L rs k F
  rows : RowsG F rs
  fit : partsN (setB F).length ≤ L.size
def CommitRows (w : World) (sp lp pd bl bm : Nat) (L : LS) (rs : List (List UInt8)) (k : Int) (F l : List FileM) (e : Ending) (w' : World) : Prop :=
  ∃ b' D' L' rs' k' F', KeepsG w' sp lp pd bl bm b' D' L' rs' k' F' ∧ L'.size = L.size ∧ 0 ≤ k' ∧ k' ≤ k + 600 ∧ L'.gen ≤ L.gen + 1 ∧ rs'.length ≤ rs.length + 1 ∧ ((e = .returned (.int .i64 0) ∧ F' = buildF l) ∨ (e = .returned (.int .i64 4) ∧ F' = F)) ∧ Only [sp, lp, pd, bl, bm] w w'

theorem commit_rows (w : World) (sp lp pd bl bm b : Nat) (D : DS) (L : LS) (rs : List (List UInt8)) (k : Int) (F l : List FileM) (a : Option Addr) (len cap : Nat) (h : KeepsG w sp lp pd bl bm b D L rs k F) (hl : FilesAt w a len l) (hm : ∀ f ∈ l, f.1.length ≤ maxLen ∧ f.2.length ≤ maxLen) (hlen : len ≤ maxLen)
    (hs : soundM l = true) (hL : L.size ≤ 250) (hg : L.gen < 4294967295) (hk0 : 0 ≤ k) (hk : k < 50000) :
    Calls Tryz.prog 10 #[.pointer (some ⟨sp, 0, none⟩), .slice a len cap] w (CommitRows w sp lp pd bl bm L rs k F l) := by
  have hK := h.rows.kept
  have hKl : Kept (buildF l) := Kept.of hs
  refine (commit_gen w sp lp pd bl bm b D L rs k F l a len cap h.at_ hl hm hlen hK.modest hK.len (fun hsd hfit => change_fits hK hKl (by omega)) hg hk0 hk).mono ?_
  rintro e w' ⟨-, h1, h2, h3⟩
  by_cases hf : partsN (setB (buildF l)).length ≤ L.size
  · by_cases he : F = buildF l
    · obtain ⟨r1, r2, r3⟩ := h2 hs hf he
      exact ⟨b, D, L, rs, k, F, ⟨r2, h.rows, h.fit⟩, rfl, hk0, by omega, by omega, by omega, .inl ⟨r1, he⟩, r3.into (fun j hj => by simp at hj)⟩
    · obtain ⟨r1, bn, D', L', rs', k', r2, r3, r4, ⟨r5, r6, r7⟩, r8, r9⟩ := h3 hs hf he
      refine ⟨bn, D', L', rs', k', buildF l, ⟨r2, ?_, by rw [r3]; exact hf⟩, r3, r4, r5, r7, ?_, .inl ⟨r1, rfl⟩, r9⟩
      · rcases r6 with rfl | rfl
        · exact h.rows.add hKl
        · exact RowsG.one hKl
      · rcases r6 with rfl | rfl
        · simp
        · simp
  · obtain ⟨r1, r2, r3⟩ := h1 hs (by omega)
    exact ⟨b, D, L, rs, k, F, ⟨r2, h.rows, h.fit⟩, rfl, hk0, by omega, by omega, by omega, .inr ⟨r1, rfl⟩, r3.into (fun j hj => by simp at hj)⟩

theorem open_rows (w : World) (sp lp pd bl bm b : Nat) (D : DS) (L : LS) (rs : List (List UInt8)) (k : Int) (F : List FileM) (h : KeepsG w sp lp pd bl bm b D L rs k F) (hr : rs.length ≤ 1000000) (hL : L.size ≤ 250) (hg : L.gen < 4294967295) (hk0 : 0 ≤ k) (hk : k < 100000) :
    Calls Tryz.prog 8 #[.pointer (some ⟨pd, 0, none⟩)] w fun e w' => ∃ sp' lp' b' D' L' k', e = .returned (.tuple #[.pointer (some ⟨sp', 0, none⟩), .int .i64 0]) ∧ KeepsG w' sp' lp' pd bl bm b' D' L' [setB F] k' F ∧ L'.size = L.size ∧ L'.gen = L.gen + 1 ∧ 0 ≤ k' ∧ k' ≤ k + 251 ∧ w.heap.size ≤ sp' ∧ w.heap.size ≤ lp' ∧ Only [pd, bl, bm] w w' := by
  have hf := h.fit
  refine (openS_gen w lp pd bl bm D L rs k F h.at_.wl h.rows.kept h.rows hr (by omega) hf hg hk0 hk).mono ?_
  rintro e w' ⟨sp', lp', b', D', L', rfl, hS, hs, hg', hsp, hlp, hO⟩
  exact ⟨sp', lp', b', D', L', _, rfl, ⟨hS, RowsG.one h.rows.kept, by rw [hs]; exact hf⟩, hs, hg', by omega, by omega, hsp, hlp, hO⟩

end Go.Proofs.YtfampoblcielpaaGreat
namespace Go.Proofs.YtfampoblcielpaaGreat
set_option maxRecDepth 100000
set_option linter.unusedVariables false
open Go.RowKit Go.Sort Go.Maps Go.ChangeShapes Go.WideShapes Go.Deep

structure StepM where
  files : List FileM
  ns : List Int
  kind : Int
  fuse : Int
def StepAt (w : World) (b o : Nat) (s : StepM) : Prop :=
  ∃ af cf an cn, w.cell? ⟨b, o, none⟩ = some (.slice af s.files.length cf) ∧ w.cell? ⟨b, o + 1, none⟩ = some (.slice an s.ns.length cn) ∧ w.cell? ⟨b, o + 2, none⟩ = some (.int .i64 s.kind) ∧ w.cell? ⟨b, o + 3, none⟩ = some (.int .i64 s.fuse) ∧ (∃ v, w.cell? ⟨b, o + 4, none⟩ = some v) ∧
    FilesArg w af s.files.length s.files ∧ IntsArg w an s.ns.length s.ns
def StepsArg (w : World) (a : Option Addr) (len : Nat) (L : List StepM) : Prop :=
  L.length = len ∧ len ≤ maxLen ∧ (0 < len → ∃ b o, a = some ⟨b, o, none⟩ ∧ b < w.heap.size ∧ ∀ (i : Nat) (s : StepM), L[i]? = some s → StepAt w b (o + i * 5) s)
theorem FilesArg.more {w w' : World} {a : Option Addr} {len : Nat} {l : List FileM} (h : FilesArg w a len l) (hO : Only [] w w') : FilesArg w' a len l := ⟨h.1.more hO, h.2⟩
theorem IntsArg.more4 {w w' : World} {a : Option Addr} {len : Nat} {l : List Int} (h : IntsArg w a len l) (hO : Only [] w w') : IntsArg w' a len l := ⟨h.1.more hO, h.2⟩
theorem StepsArg.more {w w' : World} {a : Option Addr} {len : Nat} {L : List StepM} (h : StepsArg w a len L) (hO : Only [] w w') : StepsArg w' a len L := by
  refine ⟨h.1, h.2.1, fun h0 => ?_⟩
  obtain ⟨b, o, rfl, hb, hs⟩ := h.2.2 h0
  refine ⟨b, o, rfl, Nat.lt_of_lt_of_le hb hO.size, fun i s hi => ?_⟩
  obtain ⟨af, cf, an, cn, h1, h2, h3, h4, ⟨v, h5⟩, h6, h7⟩ := hs i s hi
  exact ⟨af, cf, an, cn, (hO.cell (p := ⟨b, _, none⟩) hb (by simp)).trans h1, (hO.cell (p := ⟨b, _, none⟩) hb (by simp)).trans h2, (hO.cell (p := ⟨b, _, none⟩) hb (by simp)).trans h3, (hO.cell (p := ⟨b, _, none⟩) hb (by simp)).trans h4, ⟨v, (hO.cell (p := ⟨b, _, none⟩) hb (by simp)).trans h5⟩, h6.more hO, h7.more4 hO⟩

theorem slice_cells {H : Type} {enc : TypeId × Value → H} {W : World} {n : Nat} {t e : TypeId} (ht : Tryz.prog.underlying t = some (.slice e)) {v : Value} {x : DataW H × List MemPlace} (h : DataW.trod enc Tryz.prog W 0 (fun _ => true) true n t [v] = some x) :
    ∃ a len cap, v = .slice a len cap ∧ DataW.Trod enc Tryz.prog W 0 (fun _ => true) true t (.slice a len cap) x.1 x.2 := by
  have h0 := h
  rcases DataW.trod_slice ht h with ⟨h1, -⟩ | ⟨a, len, cap, elems, rest, m, hf, h1, -⟩
  · simp at h1
    subst h1
    exact ⟨none, 0, 0, rfl, n, by simpa [Value.cells] using h0⟩
  · simp at h1
    subst h1
    exact ⟨some a, len, cap, rfl, n, by simpa [Value.cells] using h0⟩

theorem steps_of_read {H : Type} {enc : TypeId × Value → H} {W : World} {a : Option Addr} {len cap : Nat} {d : DataW H} {p : List MemPlace}
    (h : DataW.Trod enc Tryz.prog W 0 (fun _ => true) true 22 (.slice a len cap) d p) : ∃ L, StepsArg W a len L := by
  obtain ⟨fuel, hf⟩ := h
  rcases open_slice Tryz.underlying22 hf with ⟨hcs, _⟩ | ⟨x, l, c, m, n, D, Pl, hcs, _, hl, hm, hmm, _, hx⟩
  · simp [Value.cells] at hcs
    obtain ⟨rfl, rfl, rfl⟩ := hcs
    exact ⟨[], rfl, by simp, fun h => by omega⟩
  · simp [Value.cells] at hcs
    obtain ⟨rfl, rfl, rfl⟩ := hcs
    have c5 : Tryz.prog.cellsOf 39 = 5 := by kernel_rfl
    rw [c5] at hx
    have hm' : m = cap := by simpa using hmm
    by_cases h0 : len = 0
    · subst h0; exact ⟨[], rfl, by simp, fun h => by omega⟩
    obtain ⟨b, o, sp0⟩ := x
    have hspot : sp0 = none := by
      obtain ⟨cs', hc, _⟩ := hx 0 (by omega)
      obtain ⟨_, hcl, hat⟩ := World.cells?_some hc
      have h1 := hat 0 (by omega)
      rw [List.getElem?_eq_getElem (by omega)] at h1
      simpa [Addr.add] using World.cell?_spot h1
    subst hspot
    have hb : b < W.heap.size := by
      obtain ⟨cs', hc, _⟩ := hx 0 (by omega)
      obtain ⟨_, hcl, hat⟩ := World.cells?_some hc
      have h1 := hat 0 (by omega)
      rw [List.getElem?_eq_getElem (by omega)] at h1
      have := World.block_lt_of_cell? W _ h1
      simpa [Addr.add] using this
    have hall : ∀ i, i < len → ∃ s : StepM, StepAt W b (o + i * 5) s := fun i hi => by
      obtain ⟨cs', hc, ht⟩ := hx i (by omega)
      obtain ⟨_, hcl, hat⟩ := World.cells?_some hc
      obtain ⟨xs, m', _, _, _, hlen, hfi⟩ := DataW.trod_struct Tryz.underlying39 ht
      match cs', hcl with
      | [v0, v1, v2, v3, v4], _ =>
        match xs, hlen with
        | [y0, y1, y2, y3, y4], _ =>
          have ci : Tryz.prog.cellsOf 3 = 1 := by kernel_rfl
          have cf : Tryz.prog.cellsOf 34 = 1 := by kernel_rfl
          have cn : Tryz.prog.cellsOf 36 = 1 := by kernel_rfl
          have cb : Tryz.prog.cellsOf 37 = 1 := by kernel_rfl
          have g0 := hfi 0 _ rfl
          have g1 := hfi 1 _ rfl
          have g2 := hfi 2 _ rfl
          have g3 := hfi 3 _ rfl
          have g4 := hfi 4 _ rfl
          simp [ci, cf, cn, cb] at g0 g1 g2 g3 g4
          obtain ⟨a0, l0, c0, rfl, t0⟩ := slice_cells Tryz.underlying34 g0
          obtain ⟨a1, l1, c1, rfl, t1⟩ := slice_cells Tryz.underlying36 g1
          obtain ⟨z2, e2, _, _⟩ := DataW.trod_int Tryz.underlying3 g2
          obtain ⟨z3, e3, _, _⟩ := DataW.trod_int Tryz.underlying3 g3
          simp at e2 e3
          subst e2 e3
          obtain ⟨F, hF⟩ := files_of_read t0
          obtain ⟨N, hN⟩ := ints_of_read t1
          have h0 := hat 0 (by omega)
          have h1 := hat 1 (by omega)
          have h2 := hat 2 (by omega)
          have h3 := hat 3 (by omega)
          have h4 := hat 4 (by omega)
          rw [Addr.add_mid, Addr.add_mid] at h0 h1 h2 h3 h4
          obtain rfl := hF.1.1
          obtain rfl := hN.1.1
          exact ⟨⟨F, N, z2, z3⟩, a0, c0, a1, c1, h0, h1, h2, h3, ⟨_, h4⟩, hF, hN⟩
    have : ∀ k, k ≤ len → ∃ L : List StepM, L.length = k ∧ ∀ (i : Nat) (s : StepM), L[i]? = some s → StepAt W b (o + i * 5) s := by
      intro k
      induction k with
      | zero => intro _; exact ⟨[], rfl, fun i c h => by simp at h⟩
      | succ k ih =>
        intro hk
        obtain ⟨L, hL, hLc⟩ := ih (by omega)
        obtain ⟨c, hc⟩ := hall k (by omega)
        refine ⟨L ++ [c], by simp [hL], fun i c' h => ?_⟩
        rcases Nat.lt_or_ge i L.length with hi | hi
        · rw [List.getElem?_append_left hi] at h; exact hLc i c' h
        · rw [List.getElem?_append_right hi] at h
          have hik : i = k := by
            have := (List.getElem?_eq_some_iff.1 h).1; simp at this; omega
          subst hik
          simp [hL] at h
          subst h
          exact hc
    obtain ⟨L, hL, hLc⟩ := this len (Nat.le_refl _)
    exact ⟨L, hL, by omega, fun _ => ⟨b, o, rfl, hb, hLc⟩⟩

end Go.Proofs.YtfampoblcielpaaGreat
namespace Go.Proofs.YtfampoblcielpaaGreat
set_option maxRecDepth 100000
set_option linter.unusedVariables false
open Go.RowKit Go.Sort

def SmallS (s : StepM) : Prop := s.files.length ≤ 12 ∧ ∀ f ∈ s.files, f.1.length ≤ 30 ∧ f.2.length ≤ 2500

def PlentyTo (w : World) (L : List StepM) (e : Ending) (w' : World) : Prop := ∃ z : Bool, e = .returned (.bool z) ∧ w = w' ∧ (z = false → ∀ s ∈ L, SmallS s)
set_option maxHeartbeats 8000000 in
theorem plenty_any (w : World) (a : Option Addr) (len cap : Nat) (L : List StepM) (h : StepsArg w a len L) :
    Calls Tryz.prog 5 #[.slice a len cap] w (PlentyTo w L) := by
  have H := Lib.hid h
  obtain ⟨hlen, hml, hs⟩ := h
  unfold maxLen at hml
  have Hs := Lib.hid hs
  have Hlen := Lib.hid hlen
  clear hs hlen
  go_enter Tryz.func5, Tryz.ntmps5
  go_wp2_with fail
  go_loop [3] (fun iv => ∃ j : Nat, iv = .int .i64 j ∧ j ≤ len ∧ Hid (∀ s ∈ L.take j, SmallS s)) (fun iv => len - (intOf iv).toNat)
  case atStart => exact ⟨0, rfl, Nat.zero_le _, Lib.hid (by simp)⟩
  case round =>
    obtain ⟨j, rfl, hj, hsm⟩ := hrel
    by_cases hlt : j < len
    · have hlti : (j : Int) < (len : Int) := by omega
      have hj0 : (0 : Int) ≤ (j : Int) := by omega
      obtain ⟨sb, so, rfl, hsb, hst⟩ := Hs.out (by omega)
      have hjl : j < L.length := by have := Hlen.out; omega
      have hget : L[j]? = some L[j] := List.getElem?_eq_getElem hjl
      obtain ⟨af, cf, an, cn, h1, h2, h3, h4, -, hF, hN⟩ := hst j _ hget
      have Htk : Hid (L.take (j + 1) = L.take j ++ [L[j]]) := Lib.hid (by rw [List.take_add_one, hget]; rfl)
      clear hst hget h2 h3 h4 hN
      generalize L[j] = s at *
      have HF := Lib.hid hF
      clear hF
      go_wp2_with fail
      refine (few4_any _ af s.files.length cf s.files HF.out.1 HF.out.2.1 HF.out.2.2).mono ?_
      rintro e w' ⟨fb, rfl, rfl, hfew⟩
      cases fb with
      | false =>
        clear hfew
        go_wp2
        go_ret
        exact ⟨true, rfl, rfl, fun h => by cases h⟩
      | true =>
        have Hfw := Lib.hid (hfew rfl)
        clear hfew
        go_wp2
        go_round
        case rel =>
          refine ⟨j + 1, by go_num, hlt, Lib.hid (fun x hx => ?_)⟩
          rw [Htk.out] at hx
          rcases List.mem_append.1 hx with h | h
          · exact hsm.out x h
          · simp only [List.mem_singleton] at h
            subst h
            exact ⟨Hfw.out.1, Hfw.out.2⟩
        case measure => simp [intOf]; omega
    · have hlti : ¬ (j : Int) < (len : Int) := by omega
      go_wp2
      go_ret
      refine ⟨false, rfl, rfl, fun _ s hs => hsm.out s ?_⟩
      rw [List.take_of_length_le (by have := Hlen.out; omega)]
      exact hs

theorem fit0 : partsN (setB []).length ≤ 4 := by decide
theorem owns_keep4 {w w' : World} {base : Nat} {v : Value} {l : List FileM} (h : OwnF w base v l) (hO : Only [] w w') : OwnF w' base v l := by
  refine ⟨h.1, ?_⟩
  rcases h.2 with hn | ⟨g, cap, cur, rfl, hb, hg, rest⟩
  · exact .inl hn
  · exact .inr ⟨g, cap, cur, rfl, hb, (hO.block g (IsBlk.lt hg) (by simp)).trans hg, rest⟩
theorem own_less {w : World} {base base' : Nat} {v : Value} {l : List FileM} (h : OwnF w base v l) (hb : base' ≤ base) : OwnF w base' v l := by
  refine ⟨h.1, ?_⟩
  rcases h.2 with hn | ⟨g, cap, cur, rfl, hb', hg, rest⟩
  · exact .inl hn
  · exact .inr ⟨g, cap, cur, rfl, by omega, hg, rest⟩
/-- A set of files that none of these blocks holds. -/
def Aside (S : List Nat) (a : Option Addr) (n : Nat) : Prop := 0 < n → ∀ x y, a = some ⟨x, y, none⟩ → x ∉ S
theorem aside_keep {w w' : World} {S : List Nat} {a : Option Addr} {l : List FileM} (h : FilesAt w a l.length l) (hA : Aside S a l.length) (hO : Only S w w') : FilesAt w' a l.length l := h.keep hO (fun hp x y e => hA hp x y e)

set_option maxHeartbeats 16000000 in
theorem sets_walk (a : Option Addr) (len cap : Nat) (L : List StepM) (sec : Int) (w : World) (h : StepsArg w a len L) :
    Calls Tryz.prog 3 #[.slice a len cap, .int .i64 sec] w fun e w' => e = .returned (.bool true) ∧ Only [] w w' := by
  have H := Lib.hid h
  have hml := h.2.1
  unfold maxLen at hml
  clear h
  go_enter Tryz.func3, Tryz.ntmps3
  go_wp2_with fail
  refine (known4_any _).mono ?_
  rintro e w0 ⟨rfl, hO0⟩
  have HO0 := Lib.hid hO0
  clear hO0
  go_wp2_with fail
  refine (plenty_any _ a len cap L (H.out.more HO0.out)).mono ?_
  rintro e w' ⟨z, rfl, rfl, hz⟩
  cases z with
  | true =>
    clear hz
    go_wp2
    go_ret
    exact ⟨rfl, HO0.out⟩
  | false =>
    have Hz := Lib.hid (hz rfl)
    clear hz
    go_wp2_with fail
    refine (within4_to _ sec 9 (by omega) (by omega)).mono ?_
    rintro e w' ⟨m, rfl, hm9, -, rfl⟩
    have hw1 : IntKind.i64.wrap (4 + (m : Int)) = 4 + (m : Int) := Go.IntWalk.i64_in _ (by omega)
    go_wp2_with fail
    refine (both_any _ (4 + (m : Int))).mono ?_
    rintro e w1 ⟨pd, bl, bm, R, B, M, rfl, hD, -, -, hM4, hM16, hp1, hp2, hp3, -, -, -, -, hO1⟩
    have HD := Lib.hid hD
    have HO1 := Lib.hid (HO0.out.plus hO1)
    have hs0 := HO0.out.size
    clear hD hO1 hw1
    go_wp2_with fail
    refine (openS_new _ pd bl bm M HD.out (by omega)).mono ?_
    rintro e w2 ⟨sp, lp, b, D, rfl, hS, hsp, hlp, hb, hO2⟩
    have hs1 := HO1.out.size
    have HK : Hid (KeepsG w2 sp lp pd bl bm b D ⟨M, 1, 1, 0, 1, 1⟩ [setB []] 2 []) := Lib.hid ⟨hS, RowsG.one kept_none, Nat.le_trans fit0 hM4⟩
    have HO2 := Lib.hid (HO1.out.then hO2 [] (by simp) (by simp; omega))
    have hp : w.heap.size ≤ pd ∧ w.heap.size ≤ bl ∧ w.heap.size ≤ bm := ⟨by omega, by omega, by omega⟩
    have Hsl : Hid (w.heap.size ≤ sp ∧ w.heap.size ≤ lp) := Lib.hid ⟨by omega, by omega⟩
    have hpl : pd < w1.heap.size ∧ bl < w1.heap.size ∧ bm < w1.heap.size := ⟨HD.out.plt, HD.out.blt, HD.out.mlt⟩
    clear hS hO2 hsp hlp hb hp1 hp2 hp3
    go_wp2_with fail
    go_loopw [7, 9, 10] (fun sv wv iv wr => ∃ (j sp lp b : Nat) (D : DS) (LL : LS) (rs : List (List UInt8)) (k : Int) (F : List FileM) (wa : Option Addr) (wk : Nat), iv = .int .i64 j ∧ j ≤ len ∧ j ≤ 20 ∧ sv = .pointer (some ⟨sp, 0, none⟩) ∧ wv = .slice wa F.length wk ∧ FilesAt wr wa F.length F ∧ Aside [sp, lp, pd, bl, bm] wa F.length ∧ KeepsG wr sp lp pd bl bm b D LL rs k F ∧ LL.size = M ∧ LL.gen ≤ 1 + 2 * j ∧ rs.length ≤ 1 + j ∧ 0 ≤ k ∧ k ≤ 2 + 900 * (j : Int) ∧ w.heap.size ≤ sp ∧ w.heap.size ≤ lp ∧ Only [] w wr) (fun _ _ iv _ => 20 - (intOf iv).toNat)
    case atStart => exact ⟨0, sp, lp, b, D, _, _, 2, [], none, 0, rfl, Nat.zero_le _, Nat.zero_le _, rfl, rfl, ⟨rfl, fun h => by simp at h⟩, fun h => by simp at h, HK.out, rfl, by simp, by simp, by omega, by omega, Hsl.out.1, Hsl.out.2, HO2.out⟩
    case round =>
      clear HK Hsl HO2
      obtain ⟨j, sp, lp, b, D, LL, rs, k, F, wa, wk, rfl, hj, hj20, rfl, rfl, hW, hA, hK, hLs, hgn, hrs, hk0, hk1, hspw, hlpw, hO⟩ := hrel
      have HO := Lib.hid hO
      have HW := Lib.hid hW
      have HA := Lib.hid hA
      have HK := Lib.hid hK
      clear hO hW hA hK
      by_cases hlt : j < len
      · have hlti : (j : Int) < (len : Int) := by omega
        by_cases h20 : j < 20
        · have h20i : (j : Int) < 20 := by omega
          have hj0 : (0 : Int) ≤ (j : Int) := by omega
          obtain ⟨hLen, -, hst⟩ := H.out
          obtain ⟨sb, so, rfl, hsbw, hst⟩ := hst (by omega)
          have hjl : j < L.length := by omega
          have hget : L[j]? = some L[j] := List.getElem?_eq_getElem hjl
          obtain ⟨af, cf, an, cn, h1, h2, h3, h4, -, hF, hN⟩ := hst j _ hget
          have hsmall := Hz.out _ (List.getElem_mem hjl)
          have Hkw : Hid (∀ W, Only [] w W → W.cell? ⟨sb, so + j * 5 + 2, none⟩ = some (.int .i64 L[j].kind) ∧ sb < W.heap.size) := Lib.hid (fun W hW => ⟨(hW.cell (p := ⟨sb, _, none⟩) hsbw (by simp)).trans h3, Nat.lt_of_lt_of_le hsbw hW.size⟩)
          replace hF := hF.more HO.out
          replace hN := hN.more4 HO.out
          replace h1 := (HO.out.cell (p := ⟨sb, so + j * 5, none⟩) hsbw (by simp)).trans h1
          replace h2 := (HO.out.cell (p := ⟨sb, so + j * 5 + 1, none⟩) hsbw (by simp)).trans h2
          have hsb := Nat.lt_of_lt_of_le hsbw HO.out.size
          clear hst hget hLen
          generalize L[j] = s at *
          clear hjl h4
          have hcl : ∀ W, Only [] wr W → W.cell? ⟨sb, so + j * 5, none⟩ = some (.slice af s.files.length cf) ∧ W.cell? ⟨sb, so + j * 5 + 1, none⟩ = some (.slice an s.ns.length cn) ∧ sb < W.heap.size := fun W hW =>
            ⟨(hW.cell (p := ⟨sb, _, none⟩) hsb (by simp)).trans h1, (hW.cell (p := ⟨sb, _, none⟩) hsb (by simp)).trans h2, Nat.lt_of_lt_of_le hsb hW.size⟩
          have Hcl := Lib.hid hcl
          have HMk := Lib.hid (fun W (hW : Only [] wr W) => make4_any W af s.files.length cf s.files an s.ns.length cn s.ns (hF.1.more hW) hsmall.1 (hN.1.more hW) hN.2 (fun f hf => (hsmall.2 f hf).2))
          have hdr : Only [] wr wr.drew := (Only.refl [] wr).drew
          obtain ⟨hgood, hone, hlm⟩ := make_good s.files s.ns (min s.files.length 8)
          have Hgd := Lib.hid (And.intro hgood (And.intro hone (And.intro hlm (make_sound s.files s.ns (show min s.files.length 8 ≤ 8 by omega)))))
          clear hcl hF hN h1 h2 h3 hgood hone hlm hsmall hsbw
          go_upto_region 15 with fail
          refine wp_region_stabL (P := Tryz.prog) 11 (by kernel_rfl) (by kernel_rfl) (Only []) (Only.refl _ _) (fun _ _ _ h k => h.then k [] (by simp) (by simp))
            [SP.is (.slice (some ⟨sb, so, none⟩) len cap),
             SP.is (.int .i64 j),
             SP.is (.pointer (some ⟨sb, so + j * 5, none⟩)),
             SP.is (.pointer (some ⟨sb, so + j * 5, none⟩)),
             SP.is (.slice af s.files.length cf),
             SP.is (.slice (some ⟨sb, so, none⟩) len cap),
             SP.is (.int .i64 j),
             SP.is (.pointer (some ⟨sb, so + j * 5, none⟩)),
             SP.is (.pointer (some ⟨sb, so + j * 5 + 1, none⟩)),
             SP.is (.slice an s.ns.length cn),
             ⟨fun v W => OwnF W wr.heap.size v (makeM s.files s.ns (min s.files.length 8)), fun _ _ _ h hO => owns_keep4 h hO⟩] ?_ ?_
          · simp only [List.take_succ_cons, List.take_zero]
            refine StepsOK.cons ?_ (StepsOK.cons ?_ (StepsOK.cons ?_ (StepsOK.cons ?_ (StepsOK.cons ?_ (StepsOK.cons ?_ (StepsOK.cons ?_ (StepsOK.cons ?_ (StepsOK.cons ?_ (StepsOK.cons ?_ (StepsOK.cons ?_ StepsOK.nil))))))))))
            · intro a W L N hR hold hφ hcl hkp hd K hK
              have e0 := hold 0 (by kernel_rfl)
              clear hold hφ hcl hkp hd
              rw [if_pos (by rfl)]
              go_simp
              exact hK _ _ (Only.refl _ _) rfl
            · intro a W L N hR hold hφ hcl hkp hd K hK
              have e10 := hold 10 (by kernel_rfl)
              clear hold hφ hcl hkp hd
              rw [if_pos (by rfl)]
              go_simp
              exact hK _ _ (Only.refl _ _) rfl
            · intro a W L N hR hold hφ hcl hkp hd K hK
              have e43 := got hφ (hd 0 (by kernel_rfl)) rfl rfl rfl
              have e44 := got hφ (hd 1 (by kernel_rfl)) rfl rfl rfl
              obtain ⟨l0, l1, l2⟩ := Hcl.out W (Only.plus hdr hR)
              clear hold hφ hcl hkp hd
              rw [if_pos (by rfl)]
              go_simp
              exact hK _ _ (Only.refl _ _) rfl
            · intro a W L N hR hold hφ hcl hkp hd K hK
              have e45 := got hφ (hd 2 (by kernel_rfl)) rfl rfl rfl
              clear hold hφ hcl hkp hd
              rw [if_pos (by rfl)]
              go_simp
              exact hK _ _ (Only.refl _ _) rfl
            · intro a W L N hR hold hφ hcl hkp hd K hK
              have e46 := got hφ (hd 3 (by kernel_rfl)) rfl rfl rfl
              obtain ⟨l0, l1, l2⟩ := Hcl.out W (Only.plus hdr hR)
              clear hold hφ hcl hkp hd
              rw [if_pos (by rfl)]
              go_simp
              exact hK _ _ (Only.refl _ _) rfl
            · intro a W L N hR hold hφ hcl hkp hd K hK
              have e0 := hold 0 (by kernel_rfl)
              clear hold hφ hcl hkp hd
              rw [if_pos (by rfl)]
              go_simp
              exact hK _ _ (Only.refl _ _) rfl
            · intro a W L N hR hold hφ hcl hkp hd K hK
              have e10 := hold 10 (by kernel_rfl)
              clear hold hφ hcl hkp hd
              rw [if_pos (by rfl)]
              go_simp
              exact hK _ _ (Only.refl _ _) rfl
            · intro a W L N hR hold hφ hcl hkp hd K hK
              have e48 := got hφ (hd 5 (by kernel_rfl)) rfl rfl rfl
              have e49 := got hφ (hd 6 (by kernel_rfl)) rfl rfl rfl
              obtain ⟨l0, l1, l2⟩ := Hcl.out W (Only.plus hdr hR)
              clear hold hφ hcl hkp hd
              rw [if_pos (by rfl)]
              go_simp
              exact hK _ _ (Only.refl _ _) rfl
            · intro a W L N hR hold hφ hcl hkp hd K hK
              have e50 := got hφ (hd 7 (by kernel_rfl)) rfl rfl rfl
              clear hold hφ hcl hkp hd
              rw [if_pos (by rfl)]
              go_simp
              exact hK _ _ (Only.refl _ _) rfl
            · intro a W L N hR hold hφ hcl hkp hd K hK
              have e51 := got hφ (hd 8 (by kernel_rfl)) rfl rfl rfl
              obtain ⟨l0, l1, l2⟩ := Hcl.out W (Only.plus hdr hR)
              clear hold hφ hcl hkp hd
              rw [if_pos (by rfl)]
              go_simp
              exact hK _ _ (Only.refl _ _) rfl
            · intro a W L N hR hold hφ hcl hkp hd K hK
              have e47 := got hφ (hd 4 (by kernel_rfl)) rfl rfl rfl
              have e52 := got hφ (hd 9 (by kernel_rfl)) rfl rfl rfl
              have hW := Only.plus hdr hR
              clear hold hφ hcl hkp hd
              rw [if_pos (by rfl)]
              go_simp
              refine (HMk.out W hW).mono ?_
              rintro e w' ⟨v, rfl, hv, hO'⟩
              exact hK _ _ hO' (own_less hv hW.size)
          · intro us W hO' hus
            have hv := hus 10 _ 53 (by omega) rfl rfl
            have hv : OwnF W wr.heap.size (us 10) (makeM s.files s.ns (min s.files.length 8)) := hv
            clear hus
            obtain ⟨a1, c1, e1, hf1, hb1⟩ := hv.files
            simp only [List.take_succ_cons, List.take_zero, List.drop_succ_cons, List.drop_zero, fillAct, Act.put, List.setIfInBounds_toArray, List.set_cons_zero, List.set_cons_succ, Nat.reduceAdd, e1]
            clear e1 hv
            have hOW := hdr.plus hO'
            obtain ⟨hgood, hone, hlm, hsd⟩ := Hgd.out
            generalize hMM : makeM s.files s.ns (min s.files.length 8) = M1 at *
            clear hMM
            have hKW : KeepsG W sp lp pd bl bm b D LL rs k F := ⟨HK.out.at_.more hOW, HK.out.rows, HK.out.fit⟩
            have hlt5 : sp < wr.heap.size ∧ lp < wr.heap.size ∧ pd < wr.heap.size ∧ bl < wr.heap.size ∧ bm < wr.heap.size := ⟨HK.out.at_.blk.lt, IsBlk.lt HK.out.at_.wl.log, HK.out.at_.wl.disk.plt, HK.out.at_.wl.disk.blt, HK.out.at_.wl.disk.mlt⟩
            have hA1 : Aside [sp, lp, pd, bl, bm] a1 M1.length := fun _ x y e => by have := hb1 x y e; simp; omega
            have HC := Lib.hid (commit_rows W sp lp pd bl bm b D LL rs k F M1 a1 M1.length c1 hKW hf1 (fun f hf => by have := hone f hf; unfold maxLen; omega) (by unfold maxLen; omega) hsd (by omega) (by omega) hk0 (by omega))
            have Hf1 := Lib.hid hf1
            have HA1 := Lib.hid hA1
            have HSt := Lib.hid (sortK_build M1 hgood.2)
            have Hl1 := Lib.hid hlm
            have HWW := Lib.hid (HW.out.more hOW)
            have HOW := Lib.hid (HO.out.plus hOW)
            have hsW := hOW.size
            clear hO' hOW hKW hf1 hb1 hA1 hgood hone hlm hsd Hgd HMk Hcl hdr HW HO HK hsb
            go_wp2_with fail
            refine HC.out.mono ?_
            rintro e w3 ⟨b', D', L', rs', k', F', hK3, hLs3, hk30, hk31, hg3, hr3, hret, hO3⟩
            have HK3 := Lib.hid hK3
            have Hf3 := Lib.hid (aside_keep Hf1.out HA1.out hO3)
            have HW3 : Hid (FilesAt w3 wa F.length F) := Lib.hid (aside_keep HWW.out HA.out hO3)
            have HO3 := Lib.hid hO3
            have hs3 := hO3.size
            have HO3w := Lib.hid (HOW.out.then hO3 [] (by simp) (by simp; omega))
            have Hret := Lib.hid hret
            clear hK3 hO3 hret HC Hf1 HWW HOW
            obtain ⟨ee, hee, hcase⟩ : ∃ ee : Int, e = .returned (.int .i64 ee) ∧ ((ee = 0 ∧ F' = buildF M1) ∨ (ee = 4 ∧ F' = F)) := by
              rcases Hret.out with ⟨h, h'⟩ | ⟨h, h'⟩
              · exact ⟨0, h, .inl ⟨rfl, h'⟩⟩
              · exact ⟨4, h, .inr ⟨rfl, h'⟩⟩
            subst hee
            have Hcase := Lib.hid hcase
            have hlt6 : sp < w3.heap.size ∧ lp < w3.heap.size ∧ pd < w3.heap.size ∧ bl < w3.heap.size ∧ bm < w3.heap.size := ⟨by omega, by omega, by omega, by omega, by omega⟩
            clear hcase Hret
            go_upto_region 17 with fail
            go_upto_if 58 with fail
            go_cut [9] (fun s9 wx => ∃ wa' wk', s9 = .slice wa' F'.length wk' ∧ FilesAt wx wa' F'.length F' ∧ Aside [sp, lp, pd, bl, bm] wa' F'.length ∧ Only [] w3 wx)
            case first =>
              rcases Hcase.out with ⟨rfl, hF'⟩ | ⟨rfl, hF'⟩
              · subst hF'
                have hl1 : M1.length ≤ 1000 := by have := Hl1.out; omega
                go_wp2_with fail
                refine (sorted_any w3 a1 M1.length c1 M1 Hf3.out hl1).mono ?_
                rintro e w4 ⟨v, rfl, hv, hO4⟩
                rw [HSt.out] at hv
                obtain ⟨a2, c2, rfl, hf2, hb2⟩ := hv.files
                have Hf2 := Lib.hid hf2
                have HO4 := Lib.hid hO4
                have HA2 : Hid (Aside [sp, lp, pd, bl, bm] a2 (buildF M1).length) := Lib.hid (fun _ x y e => by have := hb2 x y e; simp; omega)
                clear hv hf2 hb2 hO4
                go_wp2_with fail
                go_meet
                exact ⟨a2, c2, rfl, Hf2.out, HA2.out, HO4.out⟩
              · subst hF'
                go_wp2_with fail
                go_meet
                exact ⟨wa, wk, rfl, HW3.out, HA.out, Only.refl _ _⟩
            case rest =>
              obtain ⟨wa', wk', rfl, hfw, hAw, hOc⟩ := hcut
              have HAw := Lib.hid hAw
              have hF8 : F'.length ≤ 100000 := by have := HK3.out.rows.kept.len; omega
              have HFs := Lib.hid (files_any _ sp lp pd bl bm b' D' L' rs' k' F' (HK3.out.at_.more hOc) hF8)
              have Hfw := Lib.hid hfw
              have HOc := Lib.hid hOc
              have hsc := hOc.size
              clear hfw hAw hOc Hcase Hf3 HW3 HA HSt Hl1 HA1
              go_wp2_with fail
              refine HFs.out.mono ?_
              rintro e w5 ⟨v5, rfl, hv5, hO5⟩
              obtain ⟨a5, c5, rfl, hf5, -⟩ := hv5.files
              have HSm := Lib.hid (same4_any w5 a5 wa' c5 wk' F' F' hf5 (Hfw.out.more hO5) (by omega))
              have HOx := Lib.hid hO5
              clear hv5 hf5 hO5 HFs
              go_wp2_with fail
              refine HSm.out.mono ?_
              rintro e w6 ⟨rfl, hO6⟩
              simp only [decide_true]
              have HOx := Lib.hid (HOx.out.plus hO6)
              have HW6 : Hid (FilesAt w6 wa' F'.length F') := Lib.hid (Hfw.out.more HOx.out)
              have HK6 : Hid (KeepsG w6 sp lp pd bl bm b' D' L' rs' k' F') := Lib.hid ⟨HK3.out.at_.more (HOc.out.plus HOx.out), HK3.out.rows, HK3.out.fit⟩
              have HO6w := Lib.hid (HO3w.out.plus (HOc.out.plus HOx.out))
              obtain ⟨ck, cl⟩ := Hkw.out w6 HO6w.out
              have hs6 := (HOc.out.plus HOx.out).size
              clear hO6 HOx HOc Hfw HSm HK3 HO3w HO3
              go_wp2_with fail
              refine (within4_to _ s.kind 4 (by omega) (by omega)).mono ?_
              rintro e w' ⟨m4, rfl, hm4, -, rfl⟩
              clear ck cl
              by_cases h0 : m4 = 0
              · have h0i : ((m4 : Int) == 0) = true := by simp [h0]
                go_wp2_with fail
                refine (open_rows w6 sp lp pd bl bm b' D' L' rs' k' F' HK6.out (by omega) (by omega) (by omega) hk30 (by omega)).mono ?_
                rintro e w7 ⟨sp', lp', b2, D2, L2, k2, rfl, hK7, hLs7, hg7, hk70, hk71, hsp7, hlp7, hO7⟩
                have HK7 := Lib.hid hK7
                have HAo : Aside [pd, bl, bm] wa' F'.length := fun hp x y e => by have := HAw.out hp x y e; simp at this ⊢; omega
                have HW7 : Hid (FilesAt w7 wa' F'.length F') := Lib.hid (aside_keep HW6.out HAo hO7)
                have HA7 : Hid (Aside [sp', lp', pd, bl, bm] wa' F'.length) := Lib.hid (fun hp x y e => by
                  have h1 := HAo hp x y e
                  obtain ⟨x', y', e', hx', -⟩ := HW6.out.2 hp
                  rw [e] at e'; injection e' with e'; injection e' with e1 e2
                  simp at h1 ⊢
                  omega)
                have HO7w := Lib.hid (HO6w.out.then hO7 [] (by simp) (by simp; omega))
                have hs7 := hO7.size
                have HFs := Lib.hid (files_any _ sp' lp' pd bl bm b2 D2 L2 _ k2 F' HK7.out.at_ hF8)
                clear hK7 hO7 HAo HK6 HW6 HO6w HAw
                go_wp2_with fail
                refine HFs.out.mono ?_
                rintro e w8 ⟨v8, rfl, hv8, hO8⟩
                obtain ⟨a8, c8, rfl, hf8, -⟩ := hv8.files
                have HSm := Lib.hid (same4_any w8 a8 wa' c8 wk' F' F' hf8 (HW7.out.more hO8) (by omega))
                have HO8 := Lib.hid hO8
                clear hv8 hf8 hO8 HFs
                go_wp2_with fail
                refine HSm.out.mono ?_
                rintro e w9 ⟨rfl, hO9⟩
                simp only [decide_true]
                have HO9 := Lib.hid (HO8.out.plus hO9)
                clear hO9 HSm
                go_wp2
                go_roundw
                case rel => exact ⟨j + 1, sp', lp', b2, D2, L2, [setB F'], k2, F', wa', wk', by go_num, hlt, h20, rfl, rfl, HW7.out.more HO9.out, HA7.out, ⟨HK7.out.at_.more HO9.out, HK7.out.rows, HK7.out.fit⟩, by omega, by omega, by simp, hk70, by omega, by omega, by omega, HO7w.out.plus HO9.out⟩
                case measure => simp [intOf]; omega
              · have h0i : ((m4 : Int) == 0) = false := by simp; omega
                go_wp2
                go_roundw
                case rel => exact ⟨j + 1, sp, lp, b', D', L', rs', k', F', wa', wk', by go_num, hlt, h20, rfl, rfl, HW6.out, HAw.out, HK6.out, by omega, by omega, by omega, hk30, by omega, hspw, hlpw, HO6w.out⟩
                case measure => simp [intOf]; omega
        · have h20i : ¬ (j : Int) < 20 := by omega
          go_wp2
          go_ret
          exact ⟨rfl, HO.out⟩
      · have hlti : ¬ (j : Int) < (len : Int) := by omega
        go_wp2
        go_ret
        exact ⟨rfl, HO.out⟩

theorem sets_row (a0 : Option Addr) (len0 cap0 : Nat) (l0 : List StepM) (sec : Int) (w : World) (h0 : StepsArg w a0 len0 l0) :
    Calls Tryz.prog 3 #[.slice a0 len0 cap0, .int .i64 sec] w fun e w' => e = .returned (.bool true) ∧ Only [] w w' := sets_walk a0 len0 cap0 l0 sec w h0

end Go.Proofs.YtfampoblcielpaaGreat
