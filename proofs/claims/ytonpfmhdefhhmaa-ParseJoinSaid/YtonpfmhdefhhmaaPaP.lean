/-
  The laws' helpers of package parse: within, known.
-/
import Derived.Test.YtonpfmhdefhhmaaPaO
import Derived.Test.YtonpfmhdefhhmaaLxF
namespace Go.Proofs.Ytonpfmhdefhhmaa
set_option maxRecDepth 100000
set_option linter.unusedVariables false
open Go.RowKit Go.Sort

set_option maxHeartbeats 400000 in
theorem within6_nat (w : World) (x : Int) (n : Nat) (hn0 : 0 < n) (hn : n < 1000000) :
    Calls Try.prog 15 #[.int .i64 x, .int .i64 n] w fun e w' => e = .returned (.int .i64 (x % n)) ∧ w = w' := by
  obtain ⟨h1, h2, h3, h4⟩ := tmod_bounds x n hn0
  have H3 := Lib.hid h3
  have H4 := Lib.hid h4
  clear h3 h4
  have hnz : ((n : Int) == 0) = false := by simp; omega
  by_cases hs : x.tmod n < 0
  · have e1 := H4.out hs
    rw [← e1]
    clear H3 H4 e1
    go_enter Try.func15, Try.ntmps15
    go_wp2
    go_ret
    exact ⟨rfl, rfl⟩
  · have e1 := H3.out (by omega)
    rw [← e1]
    clear H3 H4 e1
    go_enter Try.func15, Try.ntmps15
    go_wp2
    go_ret
    exact ⟨rfl, rfl⟩
theorem within6_to (w : World) (x n : Int) (hn0 : 0 < n) (hn : n < 1000000) :
    Calls Try.prog 15 #[.int .i64 x, .int .i64 n] w fun e w' => e = .returned (.int .i64 (inM x n.toNat)) ∧ w = w' := by
  obtain ⟨k, rfl⟩ := Int.eq_ofNat_of_zero_le (show 0 ≤ n by omega)
  refine (within6_nat w x k (by omega) (by omega)).mono ?_
  rintro e w' ⟨rfl, rfl⟩
  have h1 := Int.emod_nonneg x (show (k : Int) ≠ 0 by omega)
  exact ⟨by unfold inM; rw [Int.toNat_natCast, Int.toNat_of_nonneg h1], rfl⟩

def knP : ProgM := ⟨[⟨[120], 0⟩], [], [⟨[102], 6, .cons 1 15 [120] .nil .nil .nil⟩]⟩
theorem kn_parse : parseM [118, 97, 114, 32, 120, 32, 102, 117, 110, 99, 32, 102, 32, 123, 32, 117, 115, 101, 32, 120, 32, 125] = (knP, 0, 0) := by decide +kernel
theorem kn_text : progT knP = [118, 97, 114, 32, 120, 10, 102, 117, 110, 99, 32, 102, 32, 123, 32, 117, 115, 101, 32, 120, 32, 125, 10] := by decide +kernel

set_option maxHeartbeats 8000000 in
theorem known6_any (w : World) : Calls Try.prog 11 #[] w fun e w' => e = .returned (.bool true) ∧ Only [] w w' := by
  go_enter Try.func11, Try.ntmps11
  go_wp2_with fail
  refine (pparse_any _ [118, 97, 114, 32, 120, 32, 102, 117, 110, 99, 32, 102, 32, 123, 32, 117, 115, 101, 32, 120, 32, 125] (by simp)).mono ?_
  rw [kn_parse]
  rintro e w1 ⟨vv, vl, vf, rfl, hP, hO⟩
  have HP := Lib.hid hP
  obtain ⟨⟨av, cv, rfl, hcv, -⟩, ⟨al, cl, rfl, hcl, -⟩, ⟨af, cf, rfl, hcf, hf⟩⟩ := hP
  obtain ⟨g, xs, fp, rfl, hg, hra, hef⟩ := hf (by decide)
  obtain ⟨va, fa, e1, e2, e3, hbk, hnd⟩ := hef.get 0 _ rfl
  obtain ⟨ba, bc, rfl, hbc⟩ := hbk.slice
  have c0 := hra _ _ e1
  have c1 := hra _ _ e2
  have c2 := hra _ _ e3
  have HP : Hid (ProgAt w1 (.slice av 1 cv) (.slice al 0 cl) (.slice (some ⟨g, 0, none⟩) 1 cf) knP) := HP
  have hOa := hO.alloc (.cells #[.slice av 1 cv, .slice al 0 cl, .slice (some ⟨g, 0, none⟩) 1 cf] 30)
  have hOb := (Only.refl [] w1).alloc (.cells #[.slice av 1 cv, .slice al 0 cl, .slice (some ⟨g, 0, none⟩) 1 cf] 30)
  have hb := IsBlk.made w1 (.cells #[.slice av 1 cv, .slice al 0 cl, .slice (some ⟨g, 0, none⟩) 1 cf] 30)
  have HP2 := Lib.hid (HP.out.more hOb)
  have HO := Lib.hid hOa
  clear hO hOa hbk hnd hef e1 e2 e3 hf hra HP
  have k2 := hOb.cell (p := ⟨g, 0 * 3 + 2, none⟩) hg (by simp)
  rw [c2] at k2
  have hg2 : g < (w1.alloc (.cells #[.slice av 1 cv, .slice al 0 cl, .slice (some ⟨g, 0, none⟩) 1 cf] 30)).heap.size := Nat.lt_of_lt_of_le hg hOb.size
  simp only [knP, List.length_cons, List.length_nil, Nat.zero_add, Nat.zero_mul, Blk.len] at k2 hbc hcv hcf ⊢
  clear c0 c1 c2 hOb
  go_wp2_with fail
  generalize hW : w1.alloc (.cells #[.slice av 1 cv, .slice al 0 cl, .slice (some ⟨g, 0, none⟩) 1 cf] 30) = w2 at *
  clear hW
  generalize w1.heap.size = q at *
  refine (ptext_any _ _ _ _ knP HP2.out (by rw [kn_text]; simp) (by simp [knP, BodyOk, Blk.cnt, KOk]) (by simp [knP])).mono ?_
  rw [kn_text]
  rintro e w3 ⟨rfl, hO3⟩
  have hb3 := hb.only hO3 (by simp)
  have d2 := hb3.cell 2
  have l3 := hb3.lt
  have f2 := hO3.cell (p := ⟨g, 2, none⟩) hg2 (by simp)
  rw [k2] at f2
  have hg3 : g < w3.heap.size := Nat.lt_of_lt_of_le hg2 hO3.size
  have HO3 := Lib.hid (HO.out.plus hO3)
  clear hO3 hb hb3 k2 HP2 HO
  unfold encStr
  go_wp2

  go_ret
  exact ⟨rfl, HO3.out⟩

end Go.Proofs.Ytonpfmhdefhhmaa
