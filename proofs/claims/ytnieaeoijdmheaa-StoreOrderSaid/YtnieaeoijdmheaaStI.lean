/-
  A store that is opened on a new disk; its files.
-/
import Derived.Test.YtnieaeoijdmheaaStG
import Derived.Maps.RangeWalk
namespace Go.Proofs.Ytnieaeoijdmheaa
set_option maxRecDepth 100000
set_option linter.unusedVariables false
open Go.RowKit Go.Sort Go.Maps

theorem rise_ne {f g : FileM} (h : bytesBefore f.1 g.1 = true) : f ≠ g := fun e => by
  subst e; exact List.lt_irrefl _ (before_lt h)
theorem before_trans {a b c : FileM} (h : bytesBefore a.1 b.1 = true) (k : b.1 < c.1) : a.1 < c.1 := List.lt_trans (before_lt h) k
theorem sub_tail {f g : FileM} {F G : List FileM} (hF : Rise (f :: F)) (hG : Rise (g :: G)) (hs : ∀ x ∈ f :: F, x ∈ g :: G) (hne : f ≠ g) : ∀ x ∈ f :: F, x ∈ G := by
  have hfG : f ∈ G := (List.mem_cons.1 (hs f (by simp))).resolve_left hne
  have hgf := before_lt ((List.pairwise_cons.1 hG).1 f hfG)
  intro x hx
  refine (List.mem_cons.1 (hs x hx)).resolve_left (fun e => ?_)
  subst e
  rcases List.mem_cons.1 hx with e | e
  · exact hne e.symm
  · exact List.lt_irrefl _ (List.lt_trans hgf (before_lt ((List.pairwise_cons.1 hF).1 x e)))
theorem sub_same {f : FileM} {F G : List FileM} (hF : Rise (f :: F)) (hs : ∀ x ∈ f :: F, x ∈ f :: G) : ∀ x ∈ F, x ∈ G := fun x hx =>
  (List.mem_cons.1 (hs x (by simp [hx]))).resolve_left (fun e => by subst e; exact rise_ne ((List.pairwise_cons.1 hF).1 x hx) rfl)
theorem sub_len : ∀ (G F : List FileM), Rise F → Rise G → (∀ x ∈ F, x ∈ G) → F.length ≤ G.length
  | _, [], _, _, _ => Nat.zero_le _
  | [], f :: F, _, _, h => by have := h f (by simp); cases this
  | g :: G, f :: F, hF, hG, h => by
    by_cases e : f = g
    · subst e
      have := sub_len G F (List.pairwise_cons.1 hF).2 (List.pairwise_cons.1 hG).2 (sub_same hF h)
      simp only [List.length_cons]; omega
    · have := sub_len G (f :: F) hF (List.pairwise_cons.1 hG).2 (sub_tail hF hG h e)
      simp only [List.length_cons] at this ⊢; omega
theorem sub_eq : ∀ (G F : List FileM), Rise F → Rise G → (∀ x ∈ F, x ∈ G) → F.length = G.length → F = G
  | [], [], _, _, _, _ => rfl
  | g :: G, [], _, _, _, hl => by simp at hl
  | [], f :: F, _, _, h, _ => by have := h f (by simp); cases this
  | g :: G, f :: F, hF, hG, h, hl => by
    by_cases e : f = g
    · subst e
      rw [sub_eq G F (List.pairwise_cons.1 hF).2 (List.pairwise_cons.1 hG).2 (sub_same hF h) (by simpa using hl)]
    · have := sub_len G (f :: F) hF (List.pairwise_cons.1 hG).2 (sub_tail hF hG h e)
      simp only [List.length_cons] at this hl; omega

set_option maxHeartbeats 8000000 in
theorem sameSet_any (w : World) (b c : Nat) (F G : List FileM) (hf : SetAt w b F) (hg : SetAt w c G) :
    Calls Try.prog 25 #[.map (some b), .map (some c)] w fun e w' => e = .returned (.bool (decide (F = G))) ∧ Only [] w w' := by
  have hlf := World.ownsMap.len hf Try.underlying56
  have hlg := World.ownsMap.len hg Try.underlying56
  rw [show Maps.size (setD F) = F.length by simp [setD, Maps.size]] at hlf
  rw [show Maps.size (setD G) = G.length by simp [setD, Maps.size]] at hlg
  have hRF := Lib.hid hf.rise
  have hRG := Lib.hid hg.rise
  have Hf := Lib.hid hf
  have Hg := Lib.hid hg
  clear hf hg
  by_cases hsz : F.length = G.length
  · have hszi : (F.length : Int) = (G.length : Int) := by omega
    have Hsz := Lib.hid hsz
    clear hsz
    go_enter Try.func25, Try.ntmps25
    go_wp2_with (first
      | (at_range; refine wpList_range_own _ rfl _ _ rfl 9 33 (string_keyed Try.underlying9) Try.underlying56 RF b _ _ rfl Hf.out ?_; intro w0 hrg0 hg0 hs0)
      | go_in)
    go_frame
    have hO0 : Only [] w w0 := ⟨hg0.os, hg0.tape, hg0.output, hg0.size, fun k hk _ => hg0.block k hk (by simp)⟩
    have HO0 := Lib.hid hO0
    have Hrg0 := Lib.hid hrg0
    clear hO0 hrg0 hg0 hs0
    go_loopw [18] (fun _ wr => ∃ (left : Lit → Bool) (cnt : Nat), wr.ranges Try.prog 9 RF b w.heap.size F.length (setD F) left cnt ∧ Only [] w wr ∧ Hid (∀ f ∈ F, left (.string f.1) = false → getS f.1 G = some f))
      (fun _ wr => wr.rangeLeft b w.heap.size)
    case atStart =>
      refine ⟨_, _, Hrg0.out, HO0.out, Lib.hid (fun f hf hl => ?_)⟩
      have : Maps.has (setD F) (.string f.1) = true := by
        show (F.map entD).any (fun p => p.1.sameKey (.string f.1)) = true
        rw [List.any_eq_true]
        exact ⟨entD f, List.mem_map.2 ⟨f, hf, rfl⟩, by simp [entD, Lit.sameKey]⟩
      rw [this] at hl; cases hl
    case round =>
      obtain ⟨left, cnt, hrg, hO, hG⟩ := hrel
      have HO := Lib.hid hO
      clear hO
      go_wp2_with (first
        | (at_next; refine wpList_next_ranges _ rfl _ rfl 9 (string_keyed Try.underlying9) RF encStr fileV (fun key kl hk => by obtain ⟨x, hx, _⟩ := Maps.keyOf_str Try.underlying9 hk; exact ⟨x, hx⟩) (fun v y hy => by obtain ⟨f, hf, _⟩ := RF_inv (d := y.1) (ps := y.2) hy; exact ⟨f, hf⟩) b w.heap.size _ _ _ _ rfl hrg ?_ ?_)
        | go_in)
      · intro hc0 hl0
        go_wp2
        go_ret
        refine ⟨?_, HO.out⟩
        have : F = G := sub_eq G F hRF.out hRG.out (fun x hx => List.mem_of_find?_eq_some (hG.out x hx (hl0 _))) Hsz.out
        simp [this]
      · intro x fn ft kl yd yp w2 cnt2 hkey hlk hv hat hrg2 hlt hg2 hs2 hen
        obtain ⟨x', ex, rfl, hxl⟩ := Maps.keyOf_str Try.underlying9 hkey
        obtain rfl : x = x' := encStr_inj ex
        have hO2 : Only [] w w2 := by
          have h0 := HO.out
          exact ⟨hg2.os.trans h0.os, hg2.tape.trans h0.tape, hg2.output.trans h0.output, Nat.le_trans h0.size hg2.size, fun k hk hm => (hg2.block k (Nat.lt_of_lt_of_le hk h0.size) (fun e => by injection e with e; omega)).trans (h0.block k hk hm)⟩
        have hxF : getS x F = some (fn, ft) ∧ fn = x := by
          have h1 := hat .nil
          rw [at_setD] at h1
          have h2 : yd = fileD (fn, ft) := by rw [RF_file] at hv; injection hv with hv; injection hv with hv; exact hv.symm
          cases hgx : getS x F with
          | none => rw [hgx] at h1; simp only at h1; rw [h2] at h1; cases h1
          | some f' => rw [hgx] at h1; simp only at h1; rw [h2] at h1; obtain rfl := fileD_inj h1; exact ⟨rfl, get_name hgx⟩
        have HxF := Lib.hid hxF
        have HO2 := Lib.hid hO2
        have Hrg2 := Lib.hid hrg2
        have hgs := Hg.out.more hO2
        have Hrg := Lib.hid hrg
        clear hat hkey hv hg2 hs2 ex hO2 hxF hrg2 hrg
        have hget := fun o : Obj => run_get (w2.alloc o) c G x true (hgs.more ((Only.refl [] w2).alloc o)) hxl
        simp only [if_true] at hget
        obtain ⟨⟨yn, yt⟩, hy⟩ : ∃ y, (getS x G).getD ([], []) = y := ⟨_, rfl⟩
        have Hy := Lib.hid hy
        rw [hy] at hget
        obtain ⟨is, his⟩ : ∃ is, (getS x G).isSome = is := ⟨_, rfl⟩
        have His := Lib.hid his
        rw [his] at hget
        unfold fileV encStr at hget hen
        simp only at hget hen
        clear hy his hgs
        have hOa := Lib.hid (((Only.refl [] w2).alloc (.cells #[.string ⟨fn.toArray⟩, .string ⟨ft.toArray⟩] 33)).alloc (.cells #[.string ⟨yn.toArray⟩, .string ⟨yt.toArray⟩] 33))
        have Hbad : Hid (¬ getS x G = some (fn, ft) → ¬ F = G) := Lib.hid (fun hn e => by
          subst e; exact hn HxF.out.1)
        cases is with
        | false =>
          go_wp2
          go_ret
          refine ⟨?_, HO2.out.plus hOa.out⟩
          have : ¬ F = G := Hbad.out (fun e => by have := His.out; rw [e] at this; cases this)
          simp [this]
        | true =>
          have Hsome : Hid (getS x G = some (yn, yt)) := Lib.hid (by
            obtain ⟨g, hg⟩ := Option.isSome_iff_exists.1 His.out
            have := Hy.out
            rw [hg] at this ⊢
            exact congrArg some this)
          by_cases hb1 : fn = yn
          · subst hb1
            by_cases hb2 : ft = yt
            · subst hb2
              go_wp2
              go_roundw
              case rel =>
                refine ⟨_, cnt2, (Hrg2.out.alloc _).alloc _, HO2.out.plus hOa.out, Lib.hid (fun g hg hl => ?_)⟩
                by_cases e : g.1 = x
                · have h1 : getS g.1 F = some g := get_mem hRF.out hg
                  rw [e, HxF.out.1] at h1
                  injection h1 with h1
                  rw [e, Hsome.out, h1]
                · refine hG.out g hg ?_
                  have h3 : (Lit.string g.1).sameKey (.string x) = false := by simp [Lit.sameKey, e]
                  simpa [h3] using hl
              case measure => rw [((Hrg2.out.alloc _).alloc _).left_eq, Hrg.out.left_eq]; exact hlt
            · go_wp2
              go_ret
              refine ⟨?_, HO2.out.plus hOa.out⟩
              have : ¬ F = G := Hbad.out (fun e => by rw [Hsome.out] at e; injection e with e; injection e with e1 e2; exact hb2 e2.symm)
              simp [this]
          · go_wp2
            go_ret
            refine ⟨?_, HO2.out.plus hOa.out⟩
            have : ¬ F = G := Hbad.out (fun e => by rw [Hsome.out] at e; injection e with e; injection e with e1 e2; exact hb1 e1.symm)
            simp [this]
  · have hne : ¬ ((F.length : Int) = (G.length : Int)) := by omega
    go_enter Try.func25, Try.ntmps25
    go_wp2
    go_ret
    refine ⟨?_, Only.refl _ _⟩
    have : ¬ F = G := fun e => hsz (by rw [e])
    simp [this]

end Go.Proofs.Ytnieaeoijdmheaa
namespace Go.Proofs.Ytnieaeoijdmheaa
set_option maxRecDepth 100000
set_option linter.unusedVariables false
open Go.RowKit Go.Sort Go.Maps

def stcells (lp b : Nat) : Array Value := #[.pointer (some ⟨lp, 0, none⟩), .map (some b)]
/-- A store, its log by chapter 3 itself, its files. -/
structure StAt (w : World) (sp lp pd bl bm b : Nat) (D : DS) (L : LS) (rs : List (List UInt8)) (k : Int) (F : List FileM) : Prop where
  blk : IsBlk w sp (.cells (stcells lp b) 61)
  wl : WL w lp pd bl bm D L rs k
  set : SetAt w b F
  ns : sp ∉ [lp, pd, bl, bm]
  nb : b ∉ [lp, pd, bl, bm]
theorem StAt.more {w w' : World} {sp lp pd bl bm b : Nat} {D : DS} {L : LS} {rs : List (List UInt8)} {k : Int} {F : List FileM} (h : StAt w sp lp pd bl bm b D L rs k F) (hO : Only [] w w') : StAt w' sp lp pd bl bm b D L rs k F :=
  ⟨h.blk.only hO (by simp), h.wl.more hO, h.set.more hO, h.ns, h.nb⟩
theorem StAt.c0 {w : World} {sp lp pd bl bm b : Nat} {D : DS} {L : LS} {rs : List (List UInt8)} {k : Int} {F : List FileM} (h : StAt w sp lp pd bl bm b D L rs k F) : w.cell? ⟨sp, 0, none⟩ = some (.pointer (some ⟨lp, 0, none⟩)) := h.blk.cell 0
theorem StAt.c1 {w : World} {sp lp pd bl bm b : Nat} {D : DS} {L : LS} {rs : List (List UInt8)} {k : Int} {F : List FileM} (h : StAt w sp lp pd bl bm b D L rs k F) : w.cell? ⟨sp, 1, none⟩ = some (.map (some b)) := h.blk.cell 1

theorem filesOf_none (w : World) (a : Option Addr) (cap : Nat) : Calls Try.prog 20 #[.slice a 0 cap] w fun e w' => e = .returned (.map (some w.heap.size)) ∧ w' = w.alloc (.map #[] 0) := by
  have hmk : ∀ W : World, (Instr.makeMap 56 none).run Try.prog W = .ok (.map (some W.heap.size)) (W.alloc (.map #[] 0)) := fun W => run_makeMap _ W
  go_enter Try.func20, Try.ntmps20
  go_wp2
  go_ret
  exact ⟨rfl, rfl⟩

theorem files_any (w : World) (sp lp pd bl bm b : Nat) (D : DS) (L : LS) (rs : List (List UInt8)) (k : Int) (F : List FileM) (h : StAt w sp lp pd bl bm b D L rs k F) (hF : F.length ≤ 100000) :
    Calls Try.prog 12 #[.pointer (some ⟨sp, 0, none⟩)] w fun e w' => ∃ v, e = .returned v ∧ OwnF w' w.heap.size v F ∧ Only [] w w' := by
  have c1 := h.c1
  have H := Lib.hid h
  clear h
  go_enter Try.func12, Try.ntmps12
  go_wp2_with fail
  refine (list_any _ b F H.out.set hF).mono ?_
  rintro e w' ⟨v, rfl, ho, hO⟩
  go_wp2
  go_ret
  exact ⟨v, rfl, ho, hO⟩

set_option maxHeartbeats 4000000 in
theorem openS_new (w : World) (pd bl bm n : Nat) (h : DiskAt w pd bl bm (newDS (2 * n))) (hn : 1 ≤ n) :
    Calls Try.prog 10 #[.pointer (some ⟨pd, 0, none⟩)] w fun e w' => ∃ sp lp b D, e = .returned (.tuple #[.pointer (some ⟨sp, 0, none⟩), .int .i64 0]) ∧ StAt w' sp lp pd bl bm b D ⟨n, 1, 1, 0, 1, 1⟩ [setB []] 2 [] ∧ w.heap.size ≤ sp ∧ w.heap.size ≤ lp ∧ w.heap.size ≤ b ∧ Only [pd, bl, bm] w w' := by
  have h1 := h.plt
  have h2 := h.blt
  have h3 := h.mlt
  have H := Lib.hid h
  clear h
  go_enter Try.func10, Try.ntmps10
  go_wp2_with fail
  refine (opened_new _ pd bl bm n H.out).mono ?_
  rintro e w1 ⟨lp, a, cap, rfl, hN, hlp, hO1⟩
  have HN := Lib.hid hN
  have HO1 := Lib.hid hO1
  have hlw := IsBlk.lt hN.log
  clear hN hO1
  go_wp2_with fail
  refine (filesOf_none _ a cap).mono ?_
  rintro e w2 ⟨rfl, hw2⟩
  have hO2 : Only [] w1 w2 := by rw [hw2]; exact (Only.refl _ _).alloc _
  have hS2 : SetAt w2 w1.heap.size [] := by rw [hw2]; exact set_made w1
  have hsz2 : w1.heap.size < w2.heap.size := hS2.lt
  have HN2 := Lib.hid (HN.out.more hO2)
  have HS2 := Lib.hid hS2
  have HO2 := Lib.hid (HO1.out.plus hO2)
  have hs1 := HO1.out.size
  generalize w1.heap.size = b at *
  clear hw2 hO2 hS2 HN HO1
  go_wp2_with fail
  refine (whole_any _ b [] HS2.out ⟨by simp, by simp⟩).mono ?_
  rintro e w3 ⟨v3, rfl, hv3, hO3⟩
  obtain ⟨a3, c3, rfl, hs3, hn3, -⟩ := OwnB.shape hv3
  have HN3 := Lib.hid (HN2.out.more hO3)
  have HS3 := Lib.hid (HS2.out.more hO3)
  have HO3 := Lib.hid (HO2.out.plus hO3)
  have Hs3 := Lib.hid hs3
  have hl1 : (setB []).length = 1 := by simp [setB, length_leB]
  have hp1 : partsN 1 = 1 := by decide
  clear hv3 hn3 hs3 hO3 HN2 HS2 HO2
  have Hl1 := Lib.hid hl1
  rw [hl1] at Hs3 ⊢
  clear hl1
  go_wp2_with fail
  refine (freshened_new _ lp pd bl bm n a3 c3 (setB []) HN3.out (by rw [Hl1.out]; exact Hs3.out) (by rw [Hl1.out, hp1]; omega) (by rw [Hl1.out, hp1]; exact hn)).mono ?_
  rintro e w4 ⟨rfl, D4, hW4, hO4⟩
  rw [Hl1.out, hp1] at hW4
  have hbn : b ∉ [lp, pd, bl, bm] := by simp; omega
  have HW4 := Lib.hid hW4
  have HS4 := Lib.hid (HS3.out.keep hO4 hbn)
  have HO4 := Lib.hid (HO3.out.trans hO4)
  have hsz4 := HO4.out.size
  have hb4 := HS4.out.lt
  clear hW4 hO4 HN3 HS3 HO3 Hs3
  go_wp2
  go_ret2
  have hO5 := (Only.refl [] w4).alloc (.cells (stcells lp b) 61)
  refine ⟨w4.heap.size, lp, b, D4, rfl, ⟨IsBlk.made w4 _, HW4.out.more hO5, HS4.out.more hO5, ?_, hbn⟩, hsz4, hlp, by omega, ?_⟩
  · have q1 := HW4.out.disk.plt; have q2 := HW4.out.disk.blt; have q3 := HW4.out.disk.mlt; have q4 := IsBlk.lt HW4.out.log
    simp; omega
  · exact (HO4.out.plus hO5).into (fun j hj => by simp at hj; rcases hj with rfl | hj; exact .inr hlp; exact .inl (by simpa using hj))

end Go.Proofs.Ytnieaeoijdmheaa
