/-
  The laws' helpers within and known; the walk of the law StoreFull: it returns true, whatever its numbers are, and turns nothing that was there.
-/
import Derived.Test.YtnieaeoijdmheaaStK
namespace Go.Proofs.Ytnieaeoijdmheaa
set_option maxRecDepth 100000
set_option linter.unusedVariables false
open Go.RowKit Go.Sort Go.Maps

set_option maxHeartbeats 400000 in
theorem within4_nat (w : World) (x : Int) (n : Nat) (hn0 : 0 < n) (hn : n < 1000000) :
    Calls Try.prog 8 #[.int .i64 x, .int .i64 n] w fun e w' => e = .returned (.int .i64 (x % n)) ∧ w = w' := by
  obtain ⟨h1, h2, h3, h4⟩ := tmod_bounds x n hn0
  have H3 := Lib.hid h3
  have H4 := Lib.hid h4
  clear h3 h4
  have hnz : ((n : Int) == 0) = false := by simp; omega
  by_cases hs : x.tmod n < 0
  · have e1 := H4.out hs
    rw [← e1]
    clear H3 H4 e1
    go_enter Try.func8, Try.ntmps8
    go_wp2
    go_ret
    exact ⟨rfl, rfl⟩
  · have e1 := H3.out (by omega)
    rw [← e1]
    clear H3 H4 e1
    go_enter Try.func8, Try.ntmps8
    go_wp2
    go_ret
    exact ⟨rfl, rfl⟩
theorem within4_to (w : World) (x n : Int) (hn0 : 0 < n) (hn : n < 1000000) :
    Calls Try.prog 8 #[.int .i64 x, .int .i64 n] w fun e w' => ∃ m : Nat, e = .returned (.int .i64 m) ∧ (m : Int) < n ∧ (m : Int) = x % n ∧ w = w' := by
  obtain ⟨k, rfl⟩ := Int.eq_ofNat_of_zero_le (show 0 ≤ n by omega)
  refine (within4_nat w x k (by omega) (by omega)).mono ?_
  rintro e w' ⟨rfl, rfl⟩
  have h1 := Int.emod_nonneg x (show (k : Int) ≠ 0 by omega)
  have h2 := Int.emod_lt_of_pos x hn0
  exact ⟨(x % k).toNat, by rw [Int.toNat_of_nonneg h1], by omega, by omega, rfl⟩

theorem one_sound (t : List UInt8) (ht : t.length ≤ 2000) : soundM [([97], t)] = true := by
  have h1 : nameM [97] = true := by decide
  simp [soundM, goodM, h1, ht]
theorem build_one (f : FileM) : buildF [f] = [f] := rfl
theorem setB_one (f : FileM) : (setB [f]).length = 4 + f.1.length + f.2.length := by
  simp only [setB, List.flatMap_cons, List.flatMap_nil, List.append_nil, List.length_append, length_leB, length_fileB]; omega
theorem chg_one (f : FileM) (h : f.1 ≠ []) : (changeB [] [f] [f.1]).length = 5 + f.1.length + f.2.length := by
  have h1 : getS f.1 [f] = some f := by simp [getS]
  have h2 : getS f.1 [] = none := rfl
  have h3 : chgE [] [f] f.1 = some (leB 1 1 ++ fileB f) := by
    unfold chgE atF
    rw [h1, h2]
    rw [if_neg (fun e => h (by rw [show (some f).getD ([], []) = f from rfl] at e; rw [e]; rfl))]
    rfl
  unfold changeB chgL
  rw [List.filterMap_cons, h3]
  simp only [List.filterMap_nil, List.flatten_cons, List.flatten_nil, List.append_nil, List.length_append, length_leB, length_fileB]
  omega
theorem files_one {w : World} (f : FileM) (g : Nat) (h : IsBlk w g (.cells #[.string ⟨f.1.toArray⟩, .string ⟨f.2.toArray⟩] 33)) : FilesAt w (some ⟨g, 0, none⟩) 1 [f] :=
  ⟨rfl, fun _ => ⟨g, 0, rfl, h.lt, fun i x hx => by
    match i, hx with
    | 0, hx => simp at hx; subst hx; exact ⟨h.cell 0, h.cell 1⟩
    | n + 1, hx => simp at hx⟩⟩

/-- One file, committed onto none, that has room. -/
theorem commit_one (w : World) (sp lp pd bl bm b n : Nat) (D : DS) (t : List UInt8) (a : Option Addr) (cap : Nat) (h : StAt w sp lp pd bl bm b D ⟨n, 1, 1, 0, 1, 1⟩ [setB []] 2 []) (hl : FilesAt w a 1 [([97], t)]) (ht : t.length ≤ 2000) (hs : t.length + 9 ≤ 52 * n) :
    Calls Try.prog 11 #[.pointer (some ⟨sp, 0, none⟩), .slice a 1 cap] w fun e w' => e = .returned (.int .i64 0) ∧ ∃ bn D' L' rs' k', StAt w' sp lp pd bl bm bn D' L' rs' k' [([97], t)] ∧ Only [sp, lp, pd, bl, bm] w w' := by
  have e1 : (setB [([97], t)]).length = 5 + t.length := by rw [setB_one]; simp
  have e2 : (changeB [] [([97], t)] [[97]]).length = 6 + t.length := by have := chg_one ([97], t) (by simp); simp only at this; rw [this]; simp
  have hf : partsN (setB (buildF [([97], t)])).length ≤ n := by rw [build_one, e1]; unfold partsN; omega
  refine (commit_any w sp lp pd bl bm b D _ _ _ [] [([97], t)] a 1 cap h hl (by simp [maxLen]; omega) (by unfold maxLen; omega) (.inl rfl) (fun _ => by rw [build_one, e1]; unfold partsN; omega) (fun _ => by rw [build_one]; simp only [List.map_cons, List.map_nil]; rw [e2]; unfold partsN; omega) (by simp) (by omega) (by omega)).mono ?_
  rintro e w' ⟨-, -, -, hx⟩
  obtain ⟨he, bn, D', L', rs', k', hS, -, -, -, -, hO⟩ := hx (one_sound t ht) hf (by rw [build_one]; simp)
  exact ⟨he, bn, D', L', rs', k', hS, hO⟩
theorem commit_over (w : World) (sp lp pd bl bm b n : Nat) (D : DS) (t : List UInt8) (a : Option Addr) (cap : Nat) (h : StAt w sp lp pd bl bm b D ⟨n, 1, 1, 0, 1, 1⟩ [setB []] 2 []) (hl : FilesAt w a 1 [([97], t)]) (ht : t.length ≤ 2000) (hs : 52 * n < t.length + 9) :
    Calls Try.prog 11 #[.pointer (some ⟨sp, 0, none⟩), .slice a 1 cap] w fun e w' => e = .returned (.int .i64 4) ∧ StAt w' sp lp pd bl bm b D ⟨n, 1, 1, 0, 1, 1⟩ [setB []] 2 [] ∧ Only [] w w' := by
  have e1 : (setB [([97], t)]).length = 5 + t.length := by rw [setB_one]; simp
  have e2 : (changeB [] [([97], t)] [[97]]).length = 6 + t.length := by have := chg_one ([97], t) (by simp); simp only at this; rw [this]; simp
  have hf : n < partsN (setB (buildF [([97], t)])).length := by rw [build_one, e1]; unfold partsN; omega
  refine (commit_any w sp lp pd bl bm b D _ _ _ [] [([97], t)] a 1 cap h hl (by simp [maxLen]; omega) (by unfold maxLen; omega) (.inl rfl) (fun _ => by rw [build_one, e1]; unfold partsN; omega) (fun _ => by rw [build_one]; simp only [List.map_cons, List.map_nil]; rw [e2]; unfold partsN; omega) (by simp) (by omega) (by omega)).mono ?_
  rintro e w' ⟨-, hx, -, -⟩
  exact hx (one_sound t ht) hf

set_option maxHeartbeats 4000000 in
theorem known4_any (w : World) : Calls Try.prog 7 #[] w fun e w' => e = .returned (.bool true) ∧ Only [] w w' := by
  go_enter Try.func7, Try.ntmps7
  go_wp2_with fail
  refine (new_even _ 4 (by omega) (by omega)).mono ?_
  rintro e w1 ⟨pd, bl, bm, rfl, hD, hO1, hp1, hp2, hp3⟩
  have HD := Lib.hid hD
  have HO1 := Lib.hid hO1
  clear hD hO1
  go_wp2_with fail
  refine (openS_new _ pd bl bm 4 HD.out (by omega)).mono ?_
  rintro e w2 ⟨sp, lp, b, D, rfl, hS, hsp, hlp, hb, hO2⟩
  have HS := Lib.hid hS
  have HO2 := Lib.hid (HO1.out.trans hO2)
  have hs1 := HO1.out.size
  clear hS hO2
  go_wp2_with fail
  refine (files_any _ sp lp pd bl bm b D _ _ _ [] HS.out (by simp)).mono ?_
  rintro e w3 ⟨v3, rfl, hv3, hO3⟩
  obtain ⟨a3, c3, rfl⟩ := hv3.len
  have HS3 := Lib.hid (HS.out.more hO3)
  have HO3 := Lib.hid (HO2.out.plus hO3)
  clear hv3 hO3 HS HO2
  simp only [List.length_nil]
  have hblk := IsBlk.made w3 (.cells #[.string ⟨#[97]⟩, .string ⟨#[120]⟩] 33)
  have hO4 := (Only.refl [] w3).alloc (.cells #[.string ⟨#[97]⟩, .string ⟨#[120]⟩] 33)
  have HB := Lib.hid hblk
  have HS4 := Lib.hid (HS3.out.more hO4)
  have HO4 := Lib.hid (HO3.out.plus hO4)
  clear hblk hO4 HS3 HO3
  go_wp2_with fail
  generalize w3.alloc (.cells #[.string ⟨#[97]⟩, .string ⟨#[120]⟩] 33) = w4 at *
  refine (commit_one _ sp lp pd bl bm b 4 D [120] _ 1 HS4.out (files_one ([97], [120]) _ HB.out) (by simp) (by simp)).mono ?_
  rintro e w5 ⟨rfl, bn, D', L', rs', k', hS5, hO5⟩
  have HS5 := Lib.hid hS5
  have HO5 := Lib.hid (HO4.out.trans hO5)
  clear hS5 hO5
  go_wp2_with fail
  refine (files_any _ sp lp pd bl bm bn D' _ _ _ _ HS5.out (by simp)).mono ?_
  rintro e w6 ⟨v6, rfl, hv6, hO6⟩
  obtain ⟨g6, c6, rfl, q0, q1⟩ := hv6.cells (j := 0) (by simp)
  have HO6 := Lib.hid (HO5.out.plus hO6)
  clear hv6 hO6
  simp only [List.length_singleton, Nat.zero_mul, Nat.zero_add, List.getElem_cons_zero, encStr] at q0 q1 ⊢
  go_wp2
  go_ret
  refine ⟨rfl, HO6.out.into (fun j hj => .inr ?_)⟩
  simp at hj
  omega

set_option maxHeartbeats 8000000 in
theorem full_walk (n sectors : Int) (w : World) : Calls Try.prog 3 #[.int .i64 n, .int .i64 sectors] w fun e w' => e = .returned (.bool true) ∧ Only [] w w' := by
  go_enter Try.func3, Try.ntmps3
  go_wp2_with fail
  refine (known4_any _).mono ?_
  rintro e w0 ⟨rfl, hO0⟩
  have HO0 := Lib.hid hO0
  clear hO0
  go_wp2_with fail
  refine (within4_to _ sectors 13 (by omega) (by omega)).mono ?_
  rintro e w' ⟨m, rfl, hm, -, rfl⟩
  go_wp2_with fail
  have ek : (8 : Int) + 2 * (m : Int) = ((2 * (m + 4) : Nat) : Int) := by omega
  rw [ek]
  clear ek
  refine (new_even _ (m + 4) (by omega) (by omega)).mono ?_
  rintro e w1 ⟨pd, bl, bm, rfl, hD, hO1, hp1, hp2, hp3⟩
  have HD := Lib.hid hD
  have HO1 := Lib.hid (HO0.out.plus hO1)
  have hs0 := HO0.out.size
  clear hD hO1 HO0
  go_wp2_with fail
  refine (openS_new _ pd bl bm (m + 4) HD.out (by omega)).mono ?_
  rintro e w2 ⟨sp, lp, b, D, rfl, hS, hsp, hlp, hb, hO2⟩
  have HS := Lib.hid hS
  have HO2 := Lib.hid (HO1.out.trans hO2)
  have hs1 := HO1.out.size
  clear hS hO2 HO1
  go_wp2_with fail
  refine (within4_to _ n 7 (by omega) (by omega)).mono ?_
  rintro e w' ⟨r, rfl, hr, -, rfl⟩
  obtain ⟨T, hT⟩ : ∃ T : Nat, (T : Int) = ((m : Int) + 4) * 52 - 4 - 5 - 3 + (r : Int) := ⟨((m + 4) * 52 - 12 + r), by omega⟩
  obtain ⟨tt, htt⟩ : ∃ tt, tt = List.replicate T (0 : UInt8) := ⟨_, rfl⟩
  have hlt : tt.length = T := by rw [htt]; simp
  obtain ⟨wM, gM, hmk, hbM, hOM⟩ : ∃ wM gM, (Instr.makeSlice 31 (.int .i64 T) (.int .i64 T)).run Try.prog w2 = .ok (.slice (some ⟨gM, 0, none⟩) T T) wM ∧ IsBlk wM gM (.cells (bv tt).toArray 5) ∧ Only [] w2 wM := by
    have hmk := make_bytes w2 T (by omega)
    rw [← htt] at hmk
    exact ⟨_, _, hmk, IsBlk.made w2 _, (Only.refl [] w2).alloc _⟩
  have hcv : (convert 31 9 (.slice (some ⟨gM, 0, none⟩) T T)).run Try.prog wM = .ok (.string ⟨tt.toArray⟩) wM :=
    conv_str _ gM 0 T T tt hlt (blk_range hbM)
  have hO3 := hOM.plus ((Only.refl [] wM).alloc (.cells #[.string ⟨#[97]⟩, .string ⟨tt.toArray⟩] 33))
  have HB := Lib.hid (IsBlk.made wM (.cells #[.string ⟨#[97]⟩, .string ⟨tt.toArray⟩] 33))
  have HS4 := Lib.hid (HS.out.more hO3)
  have HO4 := Lib.hid (HO2.out.plus hO3)
  clear hO3 HS HO2 hbM hOM htt
  by_cases h3 : 3 < r
  · have hgt : ((m : Int) + 4) * 52 - 4 - 5 < ((m : Int) + 4) * 52 - 4 - 5 - 3 + (r : Int) := by omega
    have hov : 52 * (m + 4) < tt.length + 9 := by omega
    have h2k : tt.length ≤ 2000 := by omega
    go_upto_region 15 with fail
    rw [← hT]
    clear hT hgt
    go_wp2_with fail
    generalize wM.alloc (.cells #[.string ⟨#[97]⟩, .string ⟨tt.toArray⟩] 33) = w4 at *
    refine (commit_over _ sp lp pd bl bm b (m + 4) D tt _ 1 HS4.out (files_one ([97], tt) _ HB.out) h2k hov).mono ?_
    rintro e w5 ⟨rfl, hS5, hO5⟩
    have HS5 := Lib.hid hS5
    have HO5 := Lib.hid (HO4.out.plus hO5)
    clear hS5 hO5
    go_wp2_with fail
    refine (files_any _ sp lp pd bl bm b D _ _ _ _ HS5.out (by simp)).mono ?_
    rintro e w6 ⟨v6, rfl, hv6, hO6⟩
    obtain ⟨a6, c6, rfl⟩ := hv6.len
    have HO6 := Lib.hid (HO5.out.plus hO6)
    clear hv6 hO6
    simp only [List.length_nil]
    go_wp2
    go_ret
    refine ⟨rfl, HO6.out.into (fun j hj => .inr ?_)⟩
    simp at hj
    omega
  · have hgt : ¬ (((m : Int) + 4) * 52 - 4 - 5 < ((m : Int) + 4) * 52 - 4 - 5 - 3 + (r : Int)) := by omega
    have hov : tt.length + 9 ≤ 52 * (m + 4) := by omega
    have h2k : tt.length ≤ 2000 := by omega
    go_upto_region 15 with fail
    rw [← hT]
    clear hT hgt
    go_wp2_with fail
    generalize wM.alloc (.cells #[.string ⟨#[97]⟩, .string ⟨tt.toArray⟩] 33) = w4 at *
    refine (commit_one _ sp lp pd bl bm b (m + 4) D tt _ 1 HS4.out (files_one ([97], tt) _ HB.out) h2k hov).mono ?_
    rintro e w5 ⟨rfl, bn, D', L', rs', k', hS5, hO5⟩
    have HS5 := Lib.hid hS5
    have HO5 := Lib.hid (HO4.out.trans hO5)
    clear hS5 hO5
    go_wp2_with fail
    refine (files_any _ sp lp pd bl bm bn D' _ _ _ _ HS5.out (by simp)).mono ?_
    rintro e w6 ⟨v6, rfl, hv6, hO6⟩
    obtain ⟨a6, c6, rfl⟩ := hv6.len
    have HO6 := Lib.hid (HO5.out.plus hO6)
    clear hv6 hO6
    simp only [List.length_singleton]
    go_wp2
    go_ret
    refine ⟨rfl, HO6.out.into (fun j hj => .inr ?_)⟩
    simp at hj
    omega

end Go.Proofs.Ytnieaeoijdmheaa
