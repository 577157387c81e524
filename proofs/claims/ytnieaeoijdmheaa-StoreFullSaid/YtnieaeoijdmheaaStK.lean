/-
  A commit: of files that are not sound, that have no room, that are there already, or onto none.
-/
import Derived.Test.YtnieaeoijdmheaaStJ
namespace Go.Proofs.Ytnieaeoijdmheaa
set_option maxRecDepth 100000
set_option linter.unusedVariables false
open Go.RowKit Go.Sort Go.Maps

theorem sound_modest {l : List FileM} (h : soundM l = true) : Modest (buildF l) := by
  simp only [soundM, Bool.and_eq_true, decide_eq_true_eq] at h
  have hp := build_perm l h.2.2
  refine ⟨by rw [hp.length_eq]; omega, fun f hf => ?_⟩
  have h1 := h.2.1 f (hp.mem_iff.1 hf)
  have h2 : f.1.length ≤ 12 := by
    have := h1.1
    simp only [nameM, Bool.and_eq_true, decide_eq_true_eq] at this
    omega
  omega

def CommitTo (w : World) (sp lp pd bl bm b : Nat) (D : DS) (L : LS) (rs : List (List UInt8)) (k : Int) (F l : List FileM) (e : Ending) (w' : World) : Prop :=
  (soundM l = false → e = .returned (.int .i64 1) ∧ StAt w' sp lp pd bl bm b D L rs k F ∧ Only [] w w') ∧
  (soundM l = true → L.size < partsN (setB (buildF l)).length → e = .returned (.int .i64 4) ∧ StAt w' sp lp pd bl bm b D L rs k F ∧ Only [] w w') ∧
  (soundM l = true → partsN (setB (buildF l)).length ≤ L.size → F = buildF l → e = .returned (.int .i64 0) ∧ StAt w' sp lp pd bl bm b D L rs k F ∧ Only [] w w') ∧
  (soundM l = true → partsN (setB (buildF l)).length ≤ L.size → F ≠ buildF l → e = .returned (.int .i64 0) ∧ ∃ bn D' L' rs' k', StAt w' sp lp pd bl bm bn D' L' rs' k' (buildF l) ∧ L'.size = L.size ∧ 0 ≤ k' ∧ k' ≤ k + 600 ∧ w.heap.size ≤ bn ∧ Only [sp, lp, pd, bl, bm] w w')

set_option maxHeartbeats 8000000 in
theorem commit_any (w : World) (sp lp pd bl bm b : Nat) (D : DS) (L : LS) (rs : List (List UInt8)) (k : Int) (F l : List FileM) (a : Option Addr) (len cap : Nat) (h : StAt w sp lp pd bl bm b D L rs k F) (hl : FilesAt w a len l) (hm : ∀ f ∈ l, f.1.length ≤ maxLen ∧ f.2.length ≤ maxLen) (hlen : len ≤ maxLen)
    (hF : F = [] ∨ F = buildF l) (hp : soundM l = true → partsN (setB (buildF l)).length ≤ 255) (hpc : soundM l = true → partsN (changeB [] (buildF l) ((buildF l).map (·.1))).length ≤ 255) (hg : L.gen < 4294967295) (hk0 : 0 ≤ k) (hk : k < 10000) :
    Calls Try.prog 11 #[.pointer (some ⟨sp, 0, none⟩), .slice a len cap] w (CommitTo w sp lp pd bl bm b D L rs k F l) := by
  have H := Lib.hid h
  have Hl := Lib.hid hl
  have Hm := Lib.hid hm
  have HF := Lib.hid hF
  have Hp := Lib.hid hp
  have Hpc := Lib.hid hpc
  have hspl := h.blk.lt
  have hlpl := IsBlk.lt h.wl.log
  have hpdl := h.wl.disk.plt
  have hbll := h.wl.disk.blt
  have hbml := h.wl.disk.mlt
  clear h hl hm hF hp hpc
  go_enter Try.func11, Try.ntmps11
  go_wp2_with fail
  refine (setOf_any _ a len cap l Hl.out Hm.out hlen).mono ?_
  rintro e w1 ⟨hyes, hno, hO1⟩
  have HO1 := Lib.hid hO1
  cases hs : soundM l with
  | false =>
    obtain rfl := hno hs
    have Hs := Lib.hid hs
    clear hyes hno hO1 hs
    go_wp2
    go_ret
    exact ⟨fun _ => ⟨rfl, H.out.more HO1.out, HO1.out⟩, fun h => (by rw [Hs.out] at h; cases h), fun h => (by rw [Hs.out] at h; cases h), fun h => (by rw [Hs.out] at h; cases h)⟩
  | true =>
    obtain ⟨bn, rfl, hset, hbn⟩ := hyes hs
    have Hs := Lib.hid hs
    have hp := Hp.out hs
    have hpc := Hpc.out hs
    have HM := Lib.hid (sound_modest hs)
    have Hset := Lib.hid hset
    have hbnl := hset.lt
    have hsz1 := hO1.size
    clear hyes hno hO1 hs hset Hp Hpc
    generalize hN : buildF l = N at *
    have HN := Lib.hid hN
    clear hN
    go_wp2_with fail
    refine (whole_any _ bn N Hset.out HM.out).mono ?_
    rintro e w2 ⟨v2, rfl, hv2, hO2⟩
    obtain ⟨a2, c2, rfl, hs2, hn2, -⟩ := OwnB.shape hv2
    have Hs2 := Lib.hid hs2
    have Hn2 := Lib.hid hn2
    have HO2 := Lib.hid (HO1.out.plus hO2)
    have Hset2 := Lib.hid (Hset.out.more hO2)
    have H2 := Lib.hid (H.out.more HO2.out)
    have c0 := H2.out.c0
    have c1 := H2.out.c1
    clear hv2 hs2 hn2 hO2 Hset
    go_wp2_with fail
    refine (fits_any _ lp pd L a2 c2 (setB N) H2.out.wl.log Hs2.out hp).mono ?_
    rintro e w3 ⟨rfl, hO3⟩
    have Hs3 := Lib.hid (Hs2.out.more hO3)
    have HO3 := Lib.hid (HO2.out.plus hO3)
    have Hset3 := Lib.hid (Hset2.out.more hO3)
    have H3 := Lib.hid (H2.out.more hO3)
    have d0 := H3.out.c0
    have d1 := H3.out.c1
    have hsz23 := hO3.size
    clear hO3 c0 c1 Hs2 HO2 Hset2 H2
    by_cases hfit : partsN (setB N).length ≤ L.size
    · rw [decide_eq_true hfit]
      go_wp2_with fail
      refine (sameSet_any _ b bn F N H3.out.set Hset3.out).mono ?_
      rintro e w4 ⟨rfl, hO4⟩
      have Hs4 := Lib.hid (Hs3.out.more hO4)
      have HO4 := Lib.hid (HO3.out.plus hO4)
      have Hset4 := Lib.hid (Hset3.out.more hO4)
      have H4 := Lib.hid (H3.out.more hO4)
      have hsz34 := hO4.size
      clear hO4 d0 d1 Hs3 HO3 Hset3 H3
      by_cases heq : F = N
      · rw [decide_eq_true heq]
        have Heq := Lib.hid heq
        clear heq
        go_wp2
        go_ret
        refine ⟨fun h => ?_, fun _ h => ?_, fun _ _ _ => ⟨rfl, H4.out, HO4.out⟩, fun _ _ h => ?_⟩
        · rw [Hs.out] at h; cases h
        · rw [HN.out] at h; omega
        · rw [HN.out] at h; exact absurd Heq.out h
      · rw [decide_eq_false heq]
        have Heq := Lib.hid heq
        have hF0 : F = [] := HF.out.resolve_right heq
        clear heq
        have hbnn : bn ∉ [lp, pd, bl, bm] := by simp; omega
        go_wp2_with fail
        refine (keep_new _ sp lp pd bl bm b bn D L rs k N a2 c2 (by rw [← hF0]; exact H4.out) Hset4.out hbnn (by omega) HM.out Hs4.out hp hpc hfit hg hk0 hk ?haw).mono ?_
        case haw =>
          intro hp0 x y e
          have := (Hn2.out x y e).1
          simp; omega
        rintro e w5 ⟨rfl, D', L', rs', k', hS5, hsz5, hk5, hk6, hO5⟩
        have HS5 := Lib.hid hS5
        have HO5 := Lib.hid (HO4.out.trans hO5)
        clear hS5 hO5
        go_wp2
        go_ret
        refine ⟨fun h => ?_, fun _ h => ?_, fun _ _ h => ?_, fun _ _ _ => ⟨rfl, bn, D', L', rs', k', by rw [HN.out]; exact HS5.out, hsz5, hk5, hk6, hbn, HO5.out.into (fun j hj => .inl (by simpa using hj))⟩⟩
        · rw [Hs.out] at h; cases h
        · rw [HN.out] at h; omega
        · rw [HN.out] at h; exact absurd h Heq.out
    · rw [decide_eq_false hfit]
      go_wp2
      go_ret
      refine ⟨fun h => ?_, fun _ _ => ⟨rfl, H3.out, HO3.out⟩, fun _ h => ?_, fun _ h => ?_⟩
      · rw [Hs.out] at h; cases h
      · rw [HN.out] at h; omega
      · rw [HN.out] at h; omega

end Go.Proofs.Ytnieaeoijdmheaa
