/-
  The laws' helper Few; the document's own At and Same of files.
-/
import Derived.Test.YtfampoblcielpaaGreatStJ
namespace Go.Proofs.YtfampoblcielpaaGreat
set_option maxRecDepth 100000
set_option linter.unusedVariables false
open Go.RowKit Go.Sort Go.Maps

theorem sound_modest {l : List FileM} (h : soundM l = true) : Modest (buildF l) := by
  simp only [soundM, Bool.and_eq_true, decide_eq_true_eq] at h
  have hp := build_perm l h.2.2
  refine ⟨by rw [hp.length_eq]; omega, fun f hf => ?_⟩
  have h1 := h.2.1 f (hp.mem_iff.1 hf)
  have h2 : f.1.length ≤ 12 := by
    have := h1.1
    simp only [nameM, Bool.and_eq_true, decide_eq_true_eq] at this
    omega
  omega

def CommitTo (w : World) (sp lp pd bl bm b : Nat) (D : DS) (L : LS) (rs : List (List UInt8)) (k : Int) (F l : List FileM) (e : Ending) (w' : World) : Prop :=
  (soundM l = false → e = .returned (.int .i64 1) ∧ StAt w' sp lp pd bl bm b D L rs k F ∧ Only [] w w') ∧
  (soundM l = true → L.size < partsN (setB (buildF l)).length → e = .returned (.int .i64 4) ∧ StAt w' sp lp pd bl bm b D L rs k F ∧ Only [] w w') ∧
  (soundM l = true → partsN (setB (buildF l)).length ≤ L.size → F = buildF l → e = .returned (.int .i64 0) ∧ StAt w' sp lp pd bl bm b D L rs k F ∧ Only [] w w') ∧
  (soundM l = true → partsN (setB (buildF l)).length ≤ L.size → F ≠ buildF l → e = .returned (.int .i64 0) ∧ ∃ bn D' L' rs' k', StAt w' sp lp pd bl bm bn D' L' rs' k' (buildF l) ∧ L'.size = L.size ∧ 0 ≤ k' ∧ (k' ≤ k + 600 ∧ (rs' = rs ++ [changeB [] (buildF l) ((buildF l).map (·.1))] ∨ rs' = [setB (buildF l)]) ∧ L'.gen ≤ L.gen + 1) ∧ w.heap.size ≤ bn ∧ Only [sp, lp, pd, bl, bm] w w')

set_option maxHeartbeats 8000000 in
theorem commit_any (w : World) (sp lp pd bl bm b : Nat) (D : DS) (L : LS) (rs : List (List UInt8)) (k : Int) (F l : List FileM) (a : Option Addr) (len cap : Nat) (h : StAt w sp lp pd bl bm b D L rs k F) (hl : FilesAt w a len l) (hm : ∀ f ∈ l, f.1.length ≤ maxLen ∧ f.2.length ≤ maxLen) (hlen : len ≤ maxLen)
    (hF : F = [] ∨ F = buildF l) (hp : soundM l = true → partsN (setB (buildF l)).length ≤ 255) (hpc : soundM l = true → partsN (changeB [] (buildF l) ((buildF l).map (·.1))).length ≤ 255) (hg : L.gen < 4294967295) (hk0 : 0 ≤ k) (hk : k < 10000) :
    Calls Tryz.prog 10 #[.pointer (some ⟨sp, 0, none⟩), .slice a len cap] w (CommitTo w sp lp pd bl bm b D L rs k F l) := by
  have H := Lib.hid h
  have Hl := Lib.hid hl
  have Hm := Lib.hid hm
  have HF := Lib.hid hF
  have Hp := Lib.hid hp
  have Hpc := Lib.hid hpc
  have hspl := h.blk.lt
  have hlpl := IsBlk.lt h.wl.log
  have hpdl := h.wl.disk.plt
  have hbll := h.wl.disk.blt
  have hbml := h.wl.disk.mlt
  clear h hl hm hF hp hpc
  go_enter Tryz.func10, Tryz.ntmps10
  go_wp2_with fail
  refine (setOf_any _ a len cap l Hl.out Hm.out hlen).mono ?_
  rintro e w1 ⟨hyes, hno, hO1⟩
  have HO1 := Lib.hid hO1
  cases hs : soundM l with
  | false =>
    obtain rfl := hno hs
    have Hs := Lib.hid hs
    clear hyes hno hO1 hs
    go_wp2
    go_ret
    exact ⟨fun _ => ⟨rfl, H.out.more HO1.out, HO1.out⟩, fun h => (by rw [Hs.out] at h; cases h), fun h => (by rw [Hs.out] at h; cases h), fun h => (by rw [Hs.out] at h; cases h)⟩
  | true =>
    obtain ⟨bn, rfl, hset, hbn⟩ := hyes hs
    have Hs := Lib.hid hs
    have hp := Hp.out hs
    have hpc := Hpc.out hs
    have HM := Lib.hid (sound_modest hs)
    have Hset := Lib.hid hset
    have hbnl := hset.lt
    have hsz1 := hO1.size
    clear hyes hno hO1 hs hset Hp Hpc
    generalize hN : buildF l = N at *
    have HN := Lib.hid hN
    clear hN
    go_wp2_with fail
    refine (whole_any _ bn N Hset.out HM.out).mono ?_
    rintro e w2 ⟨v2, rfl, hv2, hO2⟩
    obtain ⟨a2, c2, rfl, hs2, hn2, -⟩ := OwnB.shape hv2
    have Hs2 := Lib.hid hs2
    have Hn2 := Lib.hid hn2
    have HO2 := Lib.hid (HO1.out.plus hO2)
    have Hset2 := Lib.hid (Hset.out.more hO2)
    have H2 := Lib.hid (H.out.more HO2.out)
    have c0 := H2.out.c0
    have c1 := H2.out.c1
    clear hv2 hs2 hn2 hO2 Hset
    go_wp2_with fail
    refine (fits_any _ lp pd L a2 c2 (setB N) H2.out.wl.log Hs2.out hp).mono ?_
    rintro e w3 ⟨rfl, hO3⟩
    have Hs3 := Lib.hid (Hs2.out.more hO3)
    have HO3 := Lib.hid (HO2.out.plus hO3)
    have Hset3 := Lib.hid (Hset2.out.more hO3)
    have H3 := Lib.hid (H2.out.more hO3)
    have d0 := H3.out.c0
    have d1 := H3.out.c1
    have hsz23 := hO3.size
    clear hO3 c0 c1 Hs2 HO2 Hset2 H2
    by_cases hfit : partsN (setB N).length ≤ L.size
    · rw [decide_eq_true hfit]
      go_wp2_with fail
      refine (sameSet_any _ b bn F N H3.out.set Hset3.out).mono ?_
      rintro e w4 ⟨rfl, hO4⟩
      have Hs4 := Lib.hid (Hs3.out.more hO4)
      have HO4 := Lib.hid (HO3.out.plus hO4)
      have Hset4 := Lib.hid (Hset3.out.more hO4)
      have H4 := Lib.hid (H3.out.more hO4)
      have hsz34 := hO4.size
      clear hO4 d0 d1 Hs3 HO3 Hset3 H3
      by_cases heq : F = N
      · rw [decide_eq_true heq]
        have Heq := Lib.hid heq
        clear heq
        go_wp2
        go_ret
        refine ⟨fun h => ?_, fun _ h => ?_, fun _ _ _ => ⟨rfl, H4.out, HO4.out⟩, fun _ _ h => ?_⟩
        · rw [Hs.out] at h; cases h
        · rw [HN.out] at h; omega
        · rw [HN.out] at h; exact absurd Heq.out h
      · rw [decide_eq_false heq]
        have Heq := Lib.hid heq
        have hF0 : F = [] := HF.out.resolve_right heq
        clear heq
        have hbnn : bn ∉ [lp, pd, bl, bm] := by simp; omega
        go_wp2_with fail
        refine (keep_new _ sp lp pd bl bm b bn D L rs k N a2 c2 (by rw [← hF0]; exact H4.out) Hset4.out hbnn (by omega) HM.out Hs4.out hp hpc hfit hg hk0 hk ?haw).mono ?_
        case haw =>
          intro hp0 x y e
          have := (Hn2.out x y e).1
          simp; omega
        rintro e w5 ⟨rfl, D', L', rs', k', hS5, hsz5, hk5, hk6, hO5⟩
        have HS5 := Lib.hid hS5
        have HO5 := Lib.hid (HO4.out.trans hO5)
        clear hS5 hO5
        go_wp2
        go_ret
        refine ⟨fun h => ?_, fun _ h => ?_, fun _ _ h => ?_, fun _ _ _ => ⟨rfl, bn, D', L', rs', k', by rw [HN.out]; exact HS5.out, hsz5, hk5, by rw [HN.out]; exact hk6, hbn, HO5.out.into (fun j hj => .inl (by simpa using hj))⟩⟩
        · rw [Hs.out] at h; cases h
        · rw [HN.out] at h; omega
        · rw [HN.out] at h; exact absurd h Heq.out
    · rw [decide_eq_false hfit]
      go_wp2
      go_ret
      refine ⟨fun h => ?_, fun _ _ => ⟨rfl, H3.out, HO3.out⟩, fun _ h => ?_, fun _ h => ?_⟩
      · rw [Hs.out] at h; cases h
      · rw [HN.out] at h; omega
      · rw [HN.out] at h; omega

end Go.Proofs.YtfampoblcielpaaGreat
namespace Go.Proofs.YtfampoblcielpaaGreat
set_option maxRecDepth 100000
set_option linter.unusedVariables false
open Go.RowKit Go.Sort Go.Maps

set_option maxHeartbeats 400000 in
theorem within4_nat (w : World) (x : Int) (n : Nat) (hn0 : 0 < n) (hn : n < 1000000) :
    Calls Tryz.prog 7 #[.int .i64 x, .int .i64 n] w fun e w' => e = .returned (.int .i64 (x % n)) ∧ w = w' := by
  obtain ⟨h1, h2, h3, h4⟩ := tmod_bounds x n hn0
  have H3 := Lib.hid h3
  have H4 := Lib.hid h4
  clear h3 h4
  have hnz : ((n : Int) == 0) = false := by simp; omega
  by_cases hs : x.tmod n < 0
  · have e1 := H4.out hs
    rw [← e1]
    clear H3 H4 e1
    go_enter Tryz.func7, Tryz.ntmps7
    go_wp2
    go_ret
    exact ⟨rfl, rfl⟩
  · have e1 := H3.out (by omega)
    rw [← e1]
    clear H3 H4 e1
    go_enter Tryz.func7, Tryz.ntmps7
    go_wp2
    go_ret
    exact ⟨rfl, rfl⟩
theorem within4_to (w : World) (x n : Int) (hn0 : 0 < n) (hn : n < 1000000) :
    Calls Tryz.prog 7 #[.int .i64 x, .int .i64 n] w fun e w' => ∃ m : Nat, e = .returned (.int .i64 m) ∧ (m : Int) < n ∧ (m : Int) = x % n ∧ w = w' := by
  obtain ⟨k, rfl⟩ := Int.eq_ofNat_of_zero_le (show 0 ≤ n by omega)
  refine (within4_nat w x k (by omega) (by omega)).mono ?_
  rintro e w' ⟨rfl, rfl⟩
  have h1 := Int.emod_nonneg x (show (k : Int) ≠ 0 by omega)
  have h2 := Int.emod_lt_of_pos x hn0
  exact ⟨(x % k).toNat, by rw [Int.toNat_of_nonneg h1], by omega, by omega, rfl⟩

theorem one_sound (t : List UInt8) (ht : t.length ≤ 2000) : soundM [([97], t)] = true := by
  have h1 : nameM [97] = true := by decide
  simp [soundM, goodM, h1, ht]
theorem build_one (f : FileM) : buildF [f] = [f] := rfl
theorem setB_one (f : FileM) : (setB [f]).length = 4 + f.1.length + f.2.length := by
  simp only [setB, List.flatMap_cons, List.flatMap_nil, List.append_nil, List.length_append, length_leB, length_fileB]; omega
theorem chg_one (f : FileM) (h : f.1 ≠ []) : (changeB [] [f] [f.1]).length = 5 + f.1.length + f.2.length := by
  have h1 : getS f.1 [f] = some f := by simp [getS]
  have h2 : getS f.1 [] = none := rfl
  have h3 : chgE [] [f] f.1 = some (leB 1 1 ++ fileB f) := by
    unfold chgE atF
    rw [h1, h2]
    rw [if_neg (fun e => h (by rw [show (some f).getD ([], []) = f from rfl] at e; rw [e]; rfl))]
    rfl
  unfold changeB chgL
  rw [List.filterMap_cons, h3]
  simp only [List.filterMap_nil, List.flatten_cons, List.flatten_nil, List.append_nil, List.length_append, length_leB, length_fileB]
  omega
theorem files_one {w : World} (f : FileM) (g : Nat) (h : IsBlk w g (.cells #[.string ⟨f.1.toArray⟩, .string ⟨f.2.toArray⟩] 48)) : FilesAt w (some ⟨g, 0, none⟩) 1 [f] :=
  ⟨rfl, fun _ => ⟨g, 0, rfl, h.lt, fun i x hx => by
    match i, hx with
    | 0, hx => simp at hx; subst hx; exact ⟨h.cell 0, h.cell 1⟩
    | n + 1, hx => simp at hx⟩⟩

/-- One file, committed onto none, that has room. -/
theorem commit_one (w : World) (sp lp pd bl bm b n : Nat) (D : DS) (t : List UInt8) (a : Option Addr) (cap : Nat) (h : StAt w sp lp pd bl bm b D ⟨n, 1, 1, 0, 1, 1⟩ [setB []] 2 []) (hl : FilesAt w a 1 [([97], t)]) (ht : t.length ≤ 2000) (hs : t.length + 9 ≤ 52 * n) :
    Calls Tryz.prog 10 #[.pointer (some ⟨sp, 0, none⟩), .slice a 1 cap] w fun e w' => e = .returned (.int .i64 0) ∧ ∃ bn D' L' rs' k', StAt w' sp lp pd bl bm bn D' L' rs' k' [([97], t)] ∧ Only [sp, lp, pd, bl, bm] w w' := by
  have e1 : (setB [([97], t)]).length = 5 + t.length := by rw [setB_one]; simp
  have e2 : (changeB [] [([97], t)] [[97]]).length = 6 + t.length := by have := chg_one ([97], t) (by simp); simp only at this; rw [this]; simp
  have hf : partsN (setB (buildF [([97], t)])).length ≤ n := by rw [build_one, e1]; unfold partsN; omega
  refine (commit_any w sp lp pd bl bm b D _ _ _ [] [([97], t)] a 1 cap h hl (by simp [maxLen]; omega) (by unfold maxLen; omega) (.inl rfl) (fun _ => by rw [build_one, e1]; unfold partsN; omega) (fun _ => by rw [build_one]; simp only [List.map_cons, List.map_nil]; rw [e2]; unfold partsN; omega) (by simp) (by omega) (by omega)).mono ?_
  rintro e w' ⟨-, -, -, hx⟩
  obtain ⟨he, bn, D', L', rs', k', hS, -, -, -, -, hO⟩ := hx (one_sound t ht) hf (by rw [build_one]; simp)
  exact ⟨he, bn, D', L', rs', k', hS, hO⟩
theorem commit_over (w : World) (sp lp pd bl bm b n : Nat) (D : DS) (t : List UInt8) (a : Option Addr) (cap : Nat) (h : StAt w sp lp pd bl bm b D ⟨n, 1, 1, 0, 1, 1⟩ [setB []] 2 []) (hl : FilesAt w a 1 [([97], t)]) (ht : t.length ≤ 2000) (hs : 52 * n < t.length + 9) :
    Calls Tryz.prog 10 #[.pointer (some ⟨sp, 0, none⟩), .slice a 1 cap] w fun e w' => e = .returned (.int .i64 4) ∧ StAt w' sp lp pd bl bm b D ⟨n, 1, 1, 0, 1, 1⟩ [setB []] 2 [] ∧ Only [] w w' := by
  have e1 : (setB [([97], t)]).length = 5 + t.length := by rw [setB_one]; simp
  have e2 : (changeB [] [([97], t)] [[97]]).length = 6 + t.length := by have := chg_one ([97], t) (by simp); simp only at this; rw [this]; simp
  have hf : n < partsN (setB (buildF [([97], t)])).length := by rw [build_one, e1]; unfold partsN; omega
  refine (commit_any w sp lp pd bl bm b D _ _ _ [] [([97], t)] a 1 cap h hl (by simp [maxLen]; omega) (by unfold maxLen; omega) (.inl rfl) (fun _ => by rw [build_one, e1]; unfold partsN; omega) (fun _ => by rw [build_one]; simp only [List.map_cons, List.map_nil]; rw [e2]; unfold partsN; omega) (by simp) (by omega) (by omega)).mono ?_
  rintro e w' ⟨-, hx, -, -⟩
  exact hx (one_sound t ht) hf

set_option maxHeartbeats 4000000 in
theorem known4_any (w : World) : Calls Tryz.prog 4 #[] w fun e w' => e = .returned (.bool true) ∧ Only [] w w' := by
  go_enter Tryz.func4, Tryz.ntmps4
  go_wp2_with fail
  refine (new_even _ 4 (by omega) (by omega)).mono ?_
  rintro e w1 ⟨pd, bl, bm, rfl, hD, hO1, hp1, hp2, hp3⟩
  have HD := Lib.hid hD
  have HO1 := Lib.hid hO1
  clear hD hO1
  go_wp2_with fail
  refine (openS_new _ pd bl bm 4 HD.out (by omega)).mono ?_
  rintro e w2 ⟨sp, lp, b, D, rfl, hS, hsp, hlp, hb, hO2⟩
  have HS := Lib.hid hS
  have HO2 := Lib.hid (HO1.out.trans hO2)
  have hs1 := HO1.out.size
  clear hS hO2
  go_wp2_with fail
  refine (files_any _ sp lp pd bl bm b D _ _ _ [] HS.out (by simp)).mono ?_
  rintro e w3 ⟨v3, rfl, hv3, hO3⟩
  obtain ⟨a3, c3, rfl⟩ := hv3.len
  have HS3 := Lib.hid (HS.out.more hO3)
  have HO3 := Lib.hid (HO2.out.plus hO3)
  clear hv3 hO3 HS HO2
  simp only [List.length_nil]
  have hblk := IsBlk.made w3 (.cells #[.string ⟨#[97]⟩, .string ⟨#[120]⟩] 48)
  have hO4 := (Only.refl [] w3).alloc (.cells #[.string ⟨#[97]⟩, .string ⟨#[120]⟩] 48)
  have HB := Lib.hid hblk
  have HS4 := Lib.hid (HS3.out.more hO4)
  have HO4 := Lib.hid (HO3.out.plus hO4)
  clear hblk hO4 HS3 HO3
  go_wp2_with fail
  generalize w3.alloc (.cells #[.string ⟨#[97]⟩, .string ⟨#[120]⟩] 48) = w4 at *
  refine (commit_one _ sp lp pd bl bm b 4 D [120] _ 1 HS4.out (files_one ([97], [120]) _ HB.out) (by simp) (by simp)).mono ?_
  rintro e w5 ⟨rfl, bn, D', L', rs', k', hS5, hO5⟩
  have HS5 := Lib.hid hS5
  have HO5 := Lib.hid (HO4.out.trans hO5)
  clear hS5 hO5
  go_wp2_with fail
  refine (files_any _ sp lp pd bl bm bn D' _ _ _ _ HS5.out (by simp)).mono ?_
  rintro e w6 ⟨v6, rfl, hv6, hO6⟩
  obtain ⟨g6, c6, rfl, q0, q1⟩ := hv6.cells (j := 0) (by simp)
  have HO6 := Lib.hid (HO5.out.plus hO6)
  clear hv6 hO6
  simp only [List.length_singleton, Nat.zero_mul, Nat.zero_add, List.getElem_cons_zero, encStr] at q0 q1 ⊢
  go_wp2
  go_ret
  refine ⟨rfl, HO6.out.into (fun j hj => .inr ?_)⟩
  simp at hj
  omega

end Go.Proofs.YtfampoblcielpaaGreat
namespace Go.Proofs.YtfampoblcielpaaGreat
set_option maxRecDepth 100000
set_option linter.unusedVariables false
open Go.RowKit Go.Sort Go.Maps

theorem OwnF.files {w : World} {base : Nat} {v : Value} {l : List FileM} (h : OwnF w base v l) : ∃ a cap, v = .slice a l.length cap ∧ FilesAt w a l.length l ∧ (∀ b o, a = some ⟨b, o, none⟩ → base ≤ b) := by
  rcases h.2 with ⟨rfl, h0⟩ | ⟨g, cap, cur, rfl, hb, hg, _⟩
  · exact ⟨none, 0, by rw [h0], ⟨rfl, fun hp => by omega⟩, by simp⟩
  · refine ⟨some ⟨g, 0, none⟩, cap, rfl, ⟨rfl, fun _ => ⟨g, 0, rfl, IsBlk.lt hg, fun i f hi => ?_⟩⟩, fun b o e => by injection e with e; injection e with e1 e2; omega⟩
    have hlt := (List.getElem?_eq_some_iff.1 hi).1
    obtain ⟨g', cap', e, c0, c1⟩ := h.cells hlt
    injection e with e1 e2 e3
    injection e1 with e1; injection e1 with e1 _
    subst e1
    have e := (List.getElem?_eq_some_iff.1 hi).2
    rw [Nat.zero_add, ← e]
    exact ⟨c0, c1⟩

def Few4To (w : World) (l : List FileM) (e : Ending) (w' : World) : Prop := ∃ b : Bool, e = .returned (.bool b) ∧ w = w' ∧ (b = true → l.length ≤ 12 ∧ ∀ f ∈ l, f.1.length ≤ 30 ∧ f.2.length ≤ 2500)

set_option maxHeartbeats 2000000 in
theorem few4_any (w : World) (a : Option Addr) (len cap : Nat) (l : List FileM) (h : FilesAt w a len l) (hm : ∀ f ∈ l, f.1.length ≤ maxLen ∧ f.2.length ≤ maxLen) (hml : len ≤ maxLen) : Calls Tryz.prog 15 #[.slice a len cap] w (Few4To w l) := by
  unfold maxLen at hml
  have H := Lib.hid h
  have Hm := Lib.hid hm
  obtain rfl := h.1
  clear h hm
  go_enter Tryz.func15, Tryz.ntmps15
  go_wp2_with fail
  go_loop [3] (fun i => ∃ k : Nat, k ≤ l.length ∧ i = .int .i64 k ∧ Hid (∀ f ∈ l.take k, f.1.length ≤ 30 ∧ f.2.length ≤ 2500)) (fun i => l.length - (intOf i).toNat)
  case atStart => exact ⟨0, Nat.zero_le _, rfl, Lib.hid (by simp)⟩
  case round =>
    obtain ⟨k, hk, rfl, hall⟩ := hrel
    by_cases hlt : k < l.length
    · have hlti : (k : Int) < (l.length : Int) := by omega
      obtain ⟨b, o, rfl, hb, hc⟩ := H.out.2 (by omega)
      obtain ⟨c0, c1⟩ := hc k _ (List.getElem?_eq_getElem hlt)
      have Htk : Hid (l.take (k + 1) = l.take k ++ [l[k]]) := Lib.hid (by rw [List.take_add_one, List.getElem?_eq_getElem hlt]; rfl)
      have hbig := Hm.out l[k] (List.getElem_mem hlt)
      unfold maxLen at hbig
      generalize l[k] = f at *
      obtain ⟨fn, ft⟩ := f
      unfold encStr at c0 c1
      simp only at c0 c1 hbig
      clear hc
      by_cases h30 : (30 : Int) < (fn.length : Int)
      · go_wp2
        go_ret
        exact ⟨_, rfl, rfl, fun h => by cases h⟩
      · by_cases h25 : (2500 : Int) < (ft.length : Int)
        · go_wp2
          go_ret
          exact ⟨_, rfl, rfl, fun h => by cases h⟩
        · go_wp2
          go_round
          case rel =>
            refine ⟨k + 1, by omega, by go_num, Lib.hid (fun f hf => ?_)⟩
            rw [Htk.out] at hf
            rcases List.mem_append.1 hf with h1 | h1
            · exact hall.out f h1
            · simp at h1; subst h1; exact ⟨by simp only; omega, by simp only; omega⟩
          case measure => simp [intOf]; omega
    · have hge : ¬ (k : Int) < (l.length : Int) := by omega
      go_wp2
      go_ret
      refine ⟨_, rfl, rfl, fun hb => ⟨?_, fun f hf => hall.out f ?_⟩⟩
      · have : (l.length : Int) ≤ 12 := by simpa using hb
        omega
      · rw [show k = l.length by omega, List.take_length]; exact hf

def AtTo (w : World) (n : List UInt8) (l : List FileM) (e : Ending) (w' : World) : Prop := ∃ r : Int, e = .returned (.int .i64 r) ∧ (r < 0 ↔ n ∉ l.map (·.1)) ∧ w = w'

set_option maxHeartbeats 2000000 in
theorem at_any (w : World) (a : Option Addr) (len cap : Nat) (l : List FileM) (n : List UInt8) (h : FilesAt w a len l) (hml : len ≤ 1000000) : Calls Tryz.prog 22 #[.slice a len cap, encStr n] w (AtTo w n l) := by
  have H := Lib.hid h
  obtain rfl := h.1
  clear h
  unfold encStr
  go_enter Tryz.func22, Tryz.ntmps22
  go_wp2_with fail
  go_loop [5] (fun i => ∃ k : Nat, k ≤ l.length ∧ i = .int .i64 k ∧ Hid (n ∉ (l.take k).map (·.1))) (fun i => l.length - (intOf i).toNat)
  case atStart => exact ⟨0, Nat.zero_le _, rfl, Lib.hid (by simp)⟩
  case round =>
    obtain ⟨k, hk, rfl, hall⟩ := hrel
    by_cases hlt : k < l.length
    · have hlti : (k : Int) < (l.length : Int) := by omega
      obtain ⟨b, o, rfl, hb, hc⟩ := H.out.2 (by omega)
      obtain ⟨c0, c1⟩ := hc k _ (List.getElem?_eq_getElem hlt)
      have Htk : Hid (l.take (k + 1) = l.take k ++ [l[k]]) := Lib.hid (by rw [List.take_add_one, List.getElem?_eq_getElem hlt]; rfl)
      have Hin : Hid (l[k].1 ∈ l.map (·.1)) := Lib.hid (List.mem_map.2 ⟨_, List.getElem_mem hlt, rfl⟩)
      generalize l[k] = f at *
      obtain ⟨fn, ft⟩ := f
      unfold encStr at c0 c1
      simp only at c0 c1 Hin
      clear hc
      by_cases he : fn = n
      · subst he
        go_wp2
        go_ret
        exact ⟨_, rfl, ⟨fun h => by omega, fun h => absurd Hin.out h⟩, rfl⟩
      · have heb : (fn == n) = false := by simpa using he
        go_wp2
        go_round
        case rel =>
          refine ⟨k + 1, by omega, by go_num, Lib.hid (fun hm => ?_)⟩
          rw [Htk.out, List.map_append] at hm
          rcases List.mem_append.1 hm with h1 | h1
          · exact hall.out h1
          · simp at h1; exact he h1.symm
        case measure => simp [intOf]; omega
    · have hge : ¬ (k : Int) < (l.length : Int) := by omega
      go_wp2
      go_ret
      have := hall.out
      rw [show k = l.length by omega, List.take_length] at this
      exact ⟨_, rfl, ⟨fun _ => this, fun _ => by omega⟩, rfl⟩

set_option maxHeartbeats 2000000 in
theorem same4_any (w : World) (a b : Option Addr) (ca cb : Nat) (l m : List FileM) (h : FilesAt w a l.length l) (k : FilesAt w b m.length m) (hml : l.length ≤ 1000000) :
    Calls Tryz.prog 12 #[.slice a l.length ca, .slice b m.length cb] w fun e w' => e = .returned (.bool (decide (l = m))) ∧ Only [] w w' := by
  have H := Lib.hid h
  have K := Lib.hid k
  clear h k
  by_cases hne : l.length = m.length
  · have hnei : (l.length : Int) = (m.length : Int) := by omega
    have Hne := Lib.hid hne
    clear hne
    go_enter Tryz.func12, Tryz.ntmps12
    go_wp2_with fail
    go_loopw [5] (fun i wr => ∃ j : Nat, j ≤ l.length ∧ i = .int .i64 j ∧ Hid (l.take j = m.take j) ∧ Only [] w wr) (fun i _ => l.length - (intOf i).toNat)
    case atStart => exact ⟨0, Nat.zero_le _, rfl, Lib.hid rfl, Only.refl _ _⟩
    case round =>
      obtain ⟨j, hj, rfl, hall, hO⟩ := hrel
      have HO := Lib.hid hO
      clear hO
      by_cases hlt : j < l.length
      · have hlti : (j : Int) < (l.length : Int) := by omega
        have hltm : j < m.length := by have := Hne.out; omega
        have hltmi : (j : Int) < (m.length : Int) := by omega
        obtain ⟨ba, oa, rfl, hba, hca⟩ := (H.out.more HO.out).2 (by omega)
        obtain ⟨bb, ob, rfl, hbb, hcb⟩ := (K.out.more HO.out).2 (by omega)
        obtain ⟨c0, c1⟩ := hca j _ (List.getElem?_eq_getElem hlt)
        obtain ⟨d0, d1⟩ := hcb j _ (List.getElem?_eq_getElem hltm)
        have Hl : Hid (l.take (j + 1) = l.take j ++ [l[j]]) := Lib.hid (by rw [List.take_add_one, List.getElem?_eq_getElem hlt]; rfl)
        have Hm : Hid (m.take (j + 1) = m.take j ++ [m[j]]) := Lib.hid (by rw [List.take_add_one, List.getElem?_eq_getElem hltm]; rfl)
        have Hbad : Hid (¬ l[j] = m[j] → ¬ l = m) := Lib.hid (fun hn e => hn (by subst e; rfl))
        generalize l[j] = f at *
        generalize m[j] = g at *
        obtain ⟨fn, ft⟩ := f
        obtain ⟨gn, gt⟩ := g
        unfold encStr at c0 c1 d0 d1
        simp only at c0 c1 d0 d1
        clear hca hcb
        by_cases e1 : fn = gn
        · subst e1
          by_cases e2 : ft = gt
          · subst e2
            go_wp2_with fail
            go_quiet (fail)
            go_wp2
            go_roundw
            case rel => exact ⟨j + 1, by omega, by go_num, Lib.hid (by rw [Hl.out, Hm.out, hall.out]), HO.out.plus ((Only.refl [] wr).drewN _)⟩
            case measure => simp [intOf]; omega
          · go_wp2_with fail
            go_quiet (fail)
            go_wp2
            go_ret
            have := Hbad.out (fun e => by injection e with e3 e4; exact e2 e4)
            exact ⟨by simp [this], HO.out.plus ((Only.refl [] wr).drewN _)⟩
        · go_wp2_with fail
          go_quiet (fail)
          go_wp2
          go_ret
          have := Hbad.out (fun e => by injection e with e3 e4; exact e1 e3)
          exact ⟨by simp [this], HO.out.plus ((Only.refl [] wr).drewN _)⟩
      · have hge : ¬ (j : Int) < (l.length : Int) := by omega
        go_wp2
        go_ret
        have h1 := hall.out
        have h2 := Hne.out
        rw [show j = l.length by omega, List.take_length, h2, List.take_length] at h1
        exact ⟨by simp [h1], HO.out⟩
  · have hnei : ¬ (l.length : Int) = (m.length : Int) := by omega
    go_enter Tryz.func12, Tryz.ntmps12
    go_wp2
    go_ret
    have : ¬ l = m := fun e => hne (by rw [e])
    exact ⟨by simp [this], Only.refl _ _⟩

end Go.Proofs.YtfampoblcielpaaGreat
