/-
  The laws' helpers of package names: within, known.
-/
import Derived.Test.YtildkedplmjdaaaDoorNaX
import Derived.Test.YtildkedplmjdaaaDoorLxF
namespace Go.Proofs.YtildkedplmjdaaaDoor
set_option maxRecDepth 100000
set_option linter.unusedVariables false
open Go.RowKit Go.Sort

set_option maxHeartbeats 400000 in
theorem within7_nat (w : World) (x : Int) (n : Nat) (hn0 : 0 < n) (hn : n < 1000000) :
    Calls Tryd.prog 7 #[.int .i64 x, .int .i64 n] w fun e w' => e = .returned (.int .i64 (x % n)) ∧ w = w' := by
  obtain ⟨h1, h2, h3, h4⟩ := tmod_bounds x n hn0
  have H3 := Lib.hid h3
  have H4 := Lib.hid h4
  clear h3 h4
  have hnz : ((n : Int) == 0) = false := by simp; omega
  by_cases hs : x.tmod n < 0
  · have e1 := H4.out hs
    rw [← e1]
    clear H3 H4 e1
    go_enter Tryd.func7, Tryd.ntmps7
    go_wp2
    go_ret
    exact ⟨rfl, rfl⟩
  · have e1 := H3.out (by omega)
    rw [← e1]
    clear H3 H4 e1
    go_enter Tryd.func7, Tryd.ntmps7
    go_wp2
    go_ret
    exact ⟨rfl, rfl⟩
theorem within7_to (w : World) (x n : Int) (hn0 : 0 < n) (hn : n < 1000000) :
    Calls Tryd.prog 7 #[.int .i64 x, .int .i64 n] w fun e w' => e = .returned (.int .i64 (inM x n.toNat)) ∧ w = w' := by
  obtain ⟨k, rfl⟩ := Int.eq_ofNat_of_zero_le (show 0 ≤ n by omega)
  refine (within7_nat w x k (by omega) (by omega)).mono ?_
  rintro e w' ⟨rfl, rfl⟩
  have h1 := Int.emod_nonneg x (show (k : Int) ≠ 0 by omega)
  exact ⟨by unfold inM; rw [Int.toNat_natCast, Int.toNat_of_nonneg h1], rfl⟩

theorem FilAt.none (w : World) (a : Option Addr) : FilAt w a [] := fun h => by simp at h
theorem FilAt.one {w : World} {g : Nat} {s t : List UInt8} {T : TypeId} (h : IsBlk w g (.cells #[encStr s, encStr t] T)) : FilAt w (some ⟨g, 0, Option.none⟩) [(s, t)] := fun _ => by
  refine ⟨g, 0, rfl, h.lt, fun j f hf => ?_⟩
  match j, hf with
  | 0, hf => simp at hf; subst hf; exact ⟨h.cell 0, h.cell 1⟩
  | k + 1, hf => simp at hf

set_option maxHeartbeats 8000000 in
theorem known7_any (w : World) (hg : ErrT w) : Calls Tryd.prog 6 #[] w fun e w' => e = .returned (.bool true) ∧ Only [] w w' := by
  go_enter Tryd.func6, Tryd.ntmps6
  go_wp2_with fail
  refine (join_any w Option.none 0 [] (FilAt.none _ _) (by simp) (by simp) hg).mono ?_
  rintro e w1 ⟨X, hX, vv, vl, vf, rfl, hP, hO1⟩
  have hX1 := joinX_of (l := []) hX (by decide +kernel) (List.Perm.refl _) List.Pairwise.nil
  rw [show List.map (fun x => x.2) ([] : List FilM) = [] from rfl, all_none] at hX1
  subst hX1
  obtain ⟨a1, c1, rfl, -⟩ := hP.1
  obtain ⟨a2, c2, rfl, -⟩ := hP.2.1
  obtain ⟨a3, c3, rfl, -⟩ := hP.2.2
  simp only [List.length_nil] at *
  have hO2 := hO1.alloc (.cells #[.slice a1 0 c1, .slice a2 0 c2, .slice a3 0 c3] 27)
  have hO3 := hO2.alloc (.cells #[.string ⟨#[97]⟩, .string ⟨#[102, 117, 110, 99, 32, 109, 97, 105, 110, 32, 123, 32, 125]⟩] 41)
  have hb2 := IsBlk.made (w1.alloc (.cells #[.slice a1 0 c1, .slice a2 0 c2, .slice a3 0 c3] 27)) (.cells #[.string ⟨#[97]⟩, .string ⟨#[102, 117, 110, 99, 32, 109, 97, 105, 110, 32, 123, 32, 125]⟩] 41)
  have hs1 : (w1.alloc (.cells #[.slice a1 0 c1, .slice a2 0 c2, .slice a3 0 c3] 27)).heap.size = w1.heap.size + 1 := by simp
  rw [hs1] at hb2
  have Hb2 := Lib.hid (FilAt.one (s := [97]) (t := mainT) hb2)
  have HO3 := Lib.hid hO3
  have HG3 := Lib.hid (hg.only hO3 (by simp))
  clear hP hO1 hO2 hO3 hb2 hs1 hg hX
  go_wp2_with fail
  generalize hW : (w1.alloc (.cells #[.slice a1 0 c1, .slice a2 0 c2, .slice a3 0 c3] 27)).alloc (.cells #[.string ⟨#[97]⟩, .string ⟨#[102, 117, 110, 99, 32, 109, 97, 105, 110, 32, 123, 32, 125]⟩] 41) = w3 at *
  clear hW
  generalize w1.heap.size = q at *
  refine (join_any w3 _ 1 [([97], mainT)] Hb2.out (by simp) (by simp) HG3.out).mono ?_
  rintro e w4 ⟨X, hX, vv, vl, vf, rfl, hP, hO4⟩
  have hX1 := joinX_of (l := [([97], mainT)]) hX (by decide +kernel) (List.Perm.refl _) (by simp)
  rw [show List.map (fun x => x.2) [(([97], mainT) : FilM)] = [mainT] from rfl, all_main] at hX1
  subst hX1
  obtain ⟨a1, c1, rfl, -⟩ := hP.1
  obtain ⟨a2, c2, rfl, -⟩ := hP.2.1
  obtain ⟨a3, c3, xs, fp, rfl, hE, hra⟩ := funcs_open hP.2.2
  obtain ⟨g, rfl, hgl, hra⟩ := hra (by simp)
  obtain ⟨va, fa, fr, xr, rfl, -, -⟩ := hE
  have k0 : w4.cell? ⟨g, 0, Option.none⟩ = some (.string ⟨#[109, 97, 105, 110]⟩) := hra 0 _ rfl
  have HO4 := Lib.hid (HO3.out.plus hO4)
  clear hX hP hra hO4 HO3
  simp only [List.length_nil, List.length_cons] at *
  go_wp2
  go_ret
  exact ⟨rfl, HO4.out.alloc _⟩

end Go.Proofs.YtildkedplmjdaaaDoor
