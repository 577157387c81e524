/-
  The walk of the law ParseKnown.
-/
import Derived.Test.YtonpfmhdefhhmaaPaO
import Derived.Test.YtonpfmhdefhhmaaLxF
import Derived.Test.YtonpfmhdefhhmaaLxG
import Derived.Deep.RegionHeld3
namespace Go.Proofs.Ytonpfmhdefhhmaa
set_option maxRecDepth 100000
set_option linter.unusedVariables false
open Go.RowKit Go.Sort

set_option maxHeartbeats 400000 in
theorem within6_nat (w : World) (x : Int) (n : Nat) (hn0 : 0 < n) (hn : n < 1000000) :
    Calls Try.prog 15 #[.int .i64 x, .int .i64 n] w fun e w' => e = .returned (.int .i64 (x % n)) ∧ w = w' := by
  obtain ⟨h1, h2, h3, h4⟩ := tmod_bounds x n hn0
  have H3 := Lib.hid h3
  have H4 := Lib.hid h4
  clear h3 h4
  have hnz : ((n : Int) == 0) = false := by simp; omega
  by_cases hs : x.tmod n < 0
  · have e1 := H4.out hs
    rw [← e1]
    clear H3 H4 e1
    go_enter Try.func15, Try.ntmps15
    go_wp2
    go_ret
    exact ⟨rfl, rfl⟩
  · have e1 := H3.out (by omega)
    rw [← e1]
    clear H3 H4 e1
    go_enter Try.func15, Try.ntmps15
    go_wp2
    go_ret
    exact ⟨rfl, rfl⟩
theorem within6_to (w : World) (x n : Int) (hn0 : 0 < n) (hn : n < 1000000) :
    Calls Try.prog 15 #[.int .i64 x, .int .i64 n] w fun e w' => e = .returned (.int .i64 (inM x n.toNat)) ∧ w = w' := by
  obtain ⟨k, rfl⟩ := Int.eq_ofNat_of_zero_le (show 0 ≤ n by omega)
  refine (within6_nat w x k (by omega) (by omega)).mono ?_
  rintro e w' ⟨rfl, rfl⟩
  have h1 := Int.emod_nonneg x (show (k : Int) ≠ 0 by omega)
  exact ⟨by unfold inM; rw [Int.toNat_natCast, Int.toNat_of_nonneg h1], rfl⟩

def knP : ProgM := ⟨[⟨[120], 0⟩], [], [⟨[102], 6, .cons 1 15 [120] .nil .nil .nil⟩]⟩
theorem kn_parse : parseM [118, 97, 114, 32, 120, 32, 102, 117, 110, 99, 32, 102, 32, 123, 32, 117, 115, 101, 32, 120, 32, 125] = (knP, 0, 0) := by decide +kernel
theorem kn_text : progT knP = [118, 97, 114, 32, 120, 10, 102, 117, 110, 99, 32, 102, 32, 123, 32, 117, 115, 101, 32, 120, 32, 125, 10] := by decide +kernel

set_option maxHeartbeats 8000000 in
theorem known6_any (w : World) : Calls Try.prog 11 #[] w fun e w' => e = .returned (.bool true) ∧ Only [] w w' := by
  go_enter Try.func11, Try.ntmps11
  go_wp2_with fail
  refine (pparse_any _ [118, 97, 114, 32, 120, 32, 102, 117, 110, 99, 32, 102, 32, 123, 32, 117, 115, 101, 32, 120, 32, 125] (by simp)).mono ?_
  rw [kn_parse]
  rintro e w1 ⟨vv, vl, vf, rfl, hP, hO⟩
  have HP := Lib.hid hP
  obtain ⟨⟨av, cv, rfl, hcv, -⟩, ⟨al, cl, rfl, hcl, -⟩, ⟨af, cf, rfl, hcf, hf⟩⟩ := hP
  obtain ⟨g, xs, fp, rfl, hg, hra, hef⟩ := hf (by decide)
  obtain ⟨va, fa, e1, e2, e3, hbk, hnd⟩ := hef.get 0 _ rfl
  obtain ⟨ba, bc, rfl, hbc⟩ := hbk.slice
  have c0 := hra _ _ e1
  have c1 := hra _ _ e2
  have c2 := hra _ _ e3
  have HP : Hid (ProgAt w1 (.slice av 1 cv) (.slice al 0 cl) (.slice (some ⟨g, 0, none⟩) 1 cf) knP) := HP
  have hOa := hO.alloc (.cells #[.slice av 1 cv, .slice al 0 cl, .slice (some ⟨g, 0, none⟩) 1 cf] 30)
  have hOb := (Only.refl [] w1).alloc (.cells #[.slice av 1 cv, .slice al 0 cl, .slice (some ⟨g, 0, none⟩) 1 cf] 30)
  have hb := IsBlk.made w1 (.cells #[.slice av 1 cv, .slice al 0 cl, .slice (some ⟨g, 0, none⟩) 1 cf] 30)
  have HP2 := Lib.hid (HP.out.more hOb)
  have HO := Lib.hid hOa
  clear hO hOa hbk hnd hef e1 e2 e3 hf hra HP
  have k2 := hOb.cell (p := ⟨g, 0 * 3 + 2, none⟩) hg (by simp)
  rw [c2] at k2
  have hg2 : g < (w1.alloc (.cells #[.slice av 1 cv, .slice al 0 cl, .slice (some ⟨g, 0, none⟩) 1 cf] 30)).heap.size := Nat.lt_of_lt_of_le hg hOb.size
  simp only [knP, List.length_cons, List.length_nil, Nat.zero_add, Nat.zero_mul, Blk.len] at k2 hbc hcv hcf ⊢
  clear c0 c1 c2 hOb
  go_wp2_with fail
  generalize hW : w1.alloc (.cells #[.slice av 1 cv, .slice al 0 cl, .slice (some ⟨g, 0, none⟩) 1 cf] 30) = w2 at *
  clear hW
  generalize w1.heap.size = q at *
  refine (ptext_any _ _ _ _ knP HP2.out (by rw [kn_text]; simp) (by simp [knP, BodyOk, Blk.cnt, KOk]) (by simp [knP])).mono ?_
  rw [kn_text]
  rintro e w3 ⟨rfl, hO3⟩
  have hb3 := hb.only hO3 (by simp)
  have d2 := hb3.cell 2
  have l3 := hb3.lt
  have f2 := hO3.cell (p := ⟨g, 2, none⟩) hg2 (by simp)
  rw [k2] at f2
  have hg3 : g < w3.heap.size := Nat.lt_of_lt_of_le hg2 hO3.size
  have HO3 := Lib.hid (HO.out.plus hO3)
  clear hO3 hb hb3 k2 HP2 HO
  unfold encStr
  go_wp2

  go_ret
  exact ⟨rfl, HO3.out⟩

end Go.Proofs.Ytonpfmhdefhhmaa
namespace Go.Proofs.Ytonpfmhdefhhmaa
set_option maxRecDepth 100000
set_option linter.unusedVariables false
open Go.RowKit Go.Sort

set_option maxHeartbeats 4000000 in
theorem err6_any (w : World) : Calls Try.prog 26 #[.int .i64 6] w fun e w' => e = .returned (encStr [116, 111, 107, 101, 110]) ∧ Only [] w w' := by
  have hE : Calls Try.prog 52 #[.int .i64 6] w fun e w' => e = .returned (encStr [116, 111, 107, 101, 110]) ∧ Only [] w w' := by
    go_enter Try.func52, Try.ntmps52
    go_wp2
    go_ret
    exact ⟨rfl, Only.refl _ _⟩
  go_enter Try.func26, Try.ntmps26
  go_wp2_with fail
  refine hE.mono ?_
  rintro e w1 ⟨rfl, hO⟩
  go_wp2
  go_ret
  exact ⟨rfl, hO⟩

set_option maxHeartbeats 4000000 in
theorem err7_any (w : World) : Calls Try.prog 26 #[.int .i64 7] w fun e w' => e = .returned (encStr [102, 111, 114, 109]) ∧ Only [] w w' := by
  have hE : Calls Try.prog 53 #[.int .i64 7] w fun e w' => e = .returned (encStr [102, 111, 114, 109]) ∧ Only [] w w' := by
    go_enter Try.func53, Try.ntmps53
    go_wp2
    go_ret
    exact ⟨rfl, Only.refl _ _⟩
  go_enter Try.func26, Try.ntmps26
  go_wp2_with fail
  refine hE.mono ?_
  rintro e w1 ⟨rfl, hO⟩
  go_wp2
  go_ret
  exact ⟨rfl, hO⟩

def pknS : List (List UInt8) := [[], [118, 97, 114], [118, 97, 114, 32, 57], [118, 97, 114, 32, 117, 115, 101], [108, 111, 99, 107, 32, 108, 32, 108], [102, 117, 110, 99], [102, 117, 110, 99, 32, 102], [102, 117, 110, 99, 32, 102, 32, 123], [102, 117, 110, 99, 32, 102, 32, 123, 32, 117, 115, 101, 32, 125], [102, 117, 110, 99, 32, 102, 32, 123, 32, 120, 32, 125], [102, 117, 110, 99, 32, 102, 32, 123, 32, 105, 102, 32, 125], [102, 117, 110, 99, 32, 102, 32, 123, 32, 105, 102, 32, 123, 32, 125, 32, 101, 108, 115, 101, 32, 125], [102, 117, 110, 99, 32, 102, 32, 123, 32, 101, 108, 115, 101, 32, 123, 32, 125, 32, 125], [102, 117, 110, 99, 32, 102, 32, 123, 32, 108, 111, 111, 112, 32, 123, 32, 125, 32, 125, 32, 125], [102, 117, 110, 99, 32, 102, 32, 123, 32, 125, 32, 103], [117, 115, 101, 32, 120], [102, 117, 110, 99, 32, 102, 32, 123, 32, 105, 102, 32, 123, 32, 117, 115, 101, 32, 120, 32, 125, 32, 101, 108, 115, 101, 32, 123, 32, 125, 32, 125], [108, 111, 99, 107, 32, 32, 97, 32, 118, 97, 114, 32, 98], [102, 117, 110, 99, 32, 102, 32, 123, 32, 118, 97, 114, 32, 120, 32, 125], [102, 117, 110, 99, 32, 102, 32, 123, 32, 105, 102, 32, 123, 32, 125, 32, 101, 108, 115, 101, 32, 123, 32, 115, 101, 116, 32, 121, 32, 125, 32, 108, 111, 111, 112, 32, 123, 32, 99, 97, 108, 108, 32, 102, 32, 125, 32, 125], [102, 117, 110, 99, 32, 97, 98, 99, 100, 101, 102, 103, 104, 105, 106, 107, 108, 109, 32, 123, 32, 125], [123, 32, 125]]
def pknA : List Nat := [0, 3, 4, 4, 7, 4, 6, 8, 13, 9, 12, 21, 9, 20, 11, 0, 0, 0, 9, 0, 5, 0]
def pknW : List (List UInt8) := [[], [102, 111, 114, 109], [116, 111, 107, 101, 110], [102, 111, 114, 109], [102, 111, 114, 109], [102, 111, 114, 109], [102, 111, 114, 109], [102, 111, 114, 109], [102, 111, 114, 109], [102, 111, 114, 109], [102, 111, 114, 109], [102, 111, 114, 109], [102, 111, 114, 109], [102, 111, 114, 109], [102, 111, 114, 109], [102, 111, 114, 109], [102, 117, 110, 99, 32, 102, 32, 123, 32, 105, 102, 32, 123, 32, 117, 115, 101, 32, 120, 32, 125, 32, 125, 10], [118, 97, 114, 32, 98, 10, 108, 111, 99, 107, 32, 97, 10], [102, 111, 114, 109], [102, 117, 110, 99, 32, 102, 32, 123, 32, 105, 102, 32, 123, 32, 125, 32, 101, 108, 115, 101, 32, 123, 32, 115, 101, 116, 32, 121, 32, 125, 32, 108, 111, 111, 112, 32, 123, 32, 99, 97, 108, 108, 32, 102, 32, 125, 32, 125, 10], [102, 111, 114, 109], [102, 111, 114, 109]]
def kokB : Blk → Bool
  | .nil => true
  | .cons k _ _ a b r => decide (k ≤ 8) && kokB a && kokB b && kokB r
theorem kokB_ok : ∀ b, kokB b = true → KOk b
  | .nil, _ => trivial
  | .cons k _ _ a b r, h => by
    simp only [kokB, Bool.and_eq_true, decide_eq_true_eq] at h
    exact ⟨h.1.1.1, kokB_ok a h.1.1.2, kokB_ok b h.1.2, kokB_ok r h.2⟩
def okP (P : ProgM) : Bool := P.funcs.all (fun f => decide (f.body.cnt ≤ 100000) && kokB f.body) && decide (P.vars.length ≤ 1000) && decide (P.locks.length ≤ 1000) && decide (P.funcs.length ≤ 1000) && decide ((progT P).length ≤ 1000)
theorem okP_ok {P : ProgM} (h : okP P = true) : (∀ f ∈ P.funcs, BodyOk f) ∧ P.vars.length ≤ 1000 ∧ P.locks.length ≤ 1000 ∧ P.funcs.length ≤ 1000 ∧ (progT P).length ≤ 1000 := by
  simp only [okP, Bool.and_eq_true, decide_eq_true_eq, List.all_eq_true] at h
  exact ⟨fun f hf => ⟨(h.1.1.1.1 f hf).1, kokB_ok _ (h.1.1.1.1 f hf).2⟩, h.1.1.1.2, h.1.1.2, h.1.2, h.2⟩
def factB (k : Nat) : Bool :=
  decide ((pknS.getD k []).length ≤ 100) && ((decide ((parseM (pknS.getD k [])).2.2 = 0) && decide ((parseM (pknS.getD k [])).2.1 = 0) && decide (progT (parseM (pknS.getD k [])).1 = pknW.getD k []) && okP (parseM (pknS.getD k [])).1) ||
    (decide ((parseM (pknS.getD k [])).2.1 = pknA.getD k 0) && decide ((parseM (pknS.getD k [])).1 = ⟨[], [], []⟩) && ((decide ((parseM (pknS.getD k [])).2.2 = 6) && decide (pknW.getD k [] = [116, 111, 107, 101, 110])) || (decide ((parseM (pknS.getD k [])).2.2 = 7) && decide (pknW.getD k [] = [102, 111, 114, 109])))))
theorem fact_all : (List.range 22).all factB = true := by decide +kernel
theorem fact_at (k : Nat) (hk : k < 22) : (pknS.getD k []).length ≤ 100 ∧ (((parseM (pknS.getD k [])).2.2 = 0 ∧ (parseM (pknS.getD k [])).2.1 = 0 ∧ progT (parseM (pknS.getD k [])).1 = pknW.getD k [] ∧ okP (parseM (pknS.getD k [])).1 = true) ∨
    ((parseM (pknS.getD k [])).2.1 = pknA.getD k 0 ∧ (parseM (pknS.getD k [])).1 = ⟨[], [], []⟩ ∧ ((parseM (pknS.getD k [])).2.2 = 6 ∧ pknW.getD k [] = [116, 111, 107, 101, 110] ∨ (parseM (pknS.getD k [])).2.2 = 7 ∧ pknW.getD k [] = [102, 111, 114, 109]))) := by
  have h := List.all_eq_true.1 fact_all k (List.mem_range.2 hk)
  unfold factB at h
  simp only [Bool.and_eq_true, Bool.or_eq_true, decide_eq_true_eq] at h
  obtain ⟨h1, h2⟩ := h
  refine ⟨h1, ?_⟩
  rcases h2 with ⟨⟨⟨a, b⟩, c⟩, d⟩ | ⟨⟨a, b⟩, c⟩
  · exact .inl ⟨a, b, c, d⟩
  · exact .inr ⟨a, b, c⟩
theorem aint_cell {w : World} {g : Nat} {t : TypeId} (T : List Nat) (h : IsBlk w g (.cells (T.map (fun n : Nat => Value.int .i64 (n : Int))).toArray t)) (i : Nat) (hi : i < T.length) : w.cell? ⟨g, i, none⟩ = some (.int .i64 (T.getD i 0)) := by
  rw [h.cell]
  simp [hi]

set_option maxHeartbeats 16000000 in
theorem pknown_walk (which : Int) (w : World) :
    Calls Try.prog 7 #[.int .i64 which] w fun e w' => e = .returned (.bool true) ∧ Only [] w w' := by
  go_enter Try.func7, Try.ntmps7
  go_wp2_with fail
  refine (known6_any _).mono ?_
  rintro e w0 ⟨rfl, hO0⟩
  have HO0 := Lib.hid hO0
  clear hO0
  obtain ⟨oS, hoS⟩ : ∃ o, o = Obj.cells #[.string ⟨#[]⟩, .string ⟨#[118, 97, 114]⟩, .string ⟨#[118, 97, 114, 32, 57]⟩, .string ⟨#[118, 97, 114, 32, 117, 115, 101]⟩, .string ⟨#[108, 111, 99, 107, 32, 108, 32, 108]⟩, .string ⟨#[102, 117, 110, 99]⟩, .string ⟨#[102, 117, 110, 99, 32, 102]⟩, .string ⟨#[102, 117, 110, 99, 32, 102, 32, 123]⟩, .string ⟨#[102, 117, 110, 99, 32, 102, 32, 123, 32, 117, 115, 101, 32, 125]⟩, .string ⟨#[102, 117, 110, 99, 32, 102, 32, 123, 32, 120, 32, 125]⟩, .string ⟨#[102, 117, 110, 99, 32, 102, 32, 123, 32, 105, 102, 32, 125]⟩, .string ⟨#[102, 117, 110, 99, 32, 102, 32, 123, 32, 105, 102, 32, 123, 32, 125, 32, 101, 108, 115, 101, 32, 125]⟩, .string ⟨#[102, 117, 110, 99, 32, 102, 32, 123, 32, 101, 108, 115, 101, 32, 123, 32, 125, 32, 125]⟩, .string ⟨#[102, 117, 110, 99, 32, 102, 32, 123, 32, 108, 111, 111, 112, 32, 123, 32, 125, 32, 125, 32, 125]⟩, .string ⟨#[102, 117, 110, 99, 32, 102, 32, 123, 32, 125, 32, 103]⟩, .string ⟨#[117, 115, 101, 32, 120]⟩, .string ⟨#[102, 117, 110, 99, 32, 102, 32, 123, 32, 105, 102, 32, 123, 32, 117, 115, 101, 32, 120, 32, 125, 32, 101, 108, 115, 101, 32, 123, 32, 125, 32, 125]⟩, .string ⟨#[108, 111, 99, 107, 32, 32, 97, 32, 118, 97, 114, 32, 98]⟩, .string ⟨#[102, 117, 110, 99, 32, 102, 32, 123, 32, 118, 97, 114, 32, 120, 32, 125]⟩, .string ⟨#[102, 117, 110, 99, 32, 102, 32, 123, 32, 105, 102, 32, 123, 32, 125, 32, 101, 108, 115, 101, 32, 123, 32, 115, 101, 116, 32, 121, 32, 125, 32, 108, 111, 111, 112, 32, 123, 32, 99, 97, 108, 108, 32, 102, 32, 125, 32, 125]⟩, .string ⟨#[102, 117, 110, 99, 32, 97, 98, 99, 100, 101, 102, 103, 104, 105, 106, 107, 108, 109, 32, 123, 32, 125]⟩, .string ⟨#[123, 32, 125]⟩] 9 := ⟨_, rfl⟩
  obtain ⟨oA, hoA⟩ : ∃ o, o = Obj.cells #[.int .i64 0, .int .i64 3, .int .i64 4, .int .i64 4, .int .i64 7, .int .i64 4, .int .i64 6, .int .i64 8, .int .i64 13, .int .i64 9, .int .i64 12, .int .i64 21, .int .i64 9, .int .i64 20, .int .i64 11, .int .i64 0, .int .i64 0, .int .i64 0, .int .i64 9, .int .i64 0, .int .i64 5, .int .i64 0] 3 := ⟨_, rfl⟩
  obtain ⟨oW, hoW⟩ : ∃ o, o = Obj.cells #[.string ⟨#[]⟩, .string ⟨#[102, 111, 114, 109]⟩, .string ⟨#[116, 111, 107, 101, 110]⟩, .string ⟨#[102, 111, 114, 109]⟩, .string ⟨#[102, 111, 114, 109]⟩, .string ⟨#[102, 111, 114, 109]⟩, .string ⟨#[102, 111, 114, 109]⟩, .string ⟨#[102, 111, 114, 109]⟩, .string ⟨#[102, 111, 114, 109]⟩, .string ⟨#[102, 111, 114, 109]⟩, .string ⟨#[102, 111, 114, 109]⟩, .string ⟨#[102, 111, 114, 109]⟩, .string ⟨#[102, 111, 114, 109]⟩, .string ⟨#[102, 111, 114, 109]⟩, .string ⟨#[102, 111, 114, 109]⟩, .string ⟨#[102, 111, 114, 109]⟩, .string ⟨#[102, 117, 110, 99, 32, 102, 32, 123, 32, 105, 102, 32, 123, 32, 117, 115, 101, 32, 120, 32, 125, 32, 125, 10]⟩, .string ⟨#[118, 97, 114, 32, 98, 10, 108, 111, 99, 107, 32, 97, 10]⟩, .string ⟨#[102, 111, 114, 109]⟩, .string ⟨#[102, 117, 110, 99, 32, 102, 32, 123, 32, 105, 102, 32, 123, 32, 125, 32, 101, 108, 115, 101, 32, 123, 32, 115, 101, 116, 32, 121, 32, 125, 32, 108, 111, 111, 112, 32, 123, 32, 99, 97, 108, 108, 32, 102, 32, 125, 32, 125, 10]⟩, .string ⟨#[102, 111, 114, 109]⟩, .string ⟨#[102, 111, 114, 109]⟩] 9 := ⟨_, rfl⟩
  obtain ⟨w1, hw1⟩ : ∃ x, x = ((w0.alloc oS).alloc oA).alloc oW := ⟨_, rfl⟩
  have hz : w1.heap.size = w0.heap.size + 3 := by rw [hw1]; simp
  have hO1 : Only [] w0 w1 := by rw [hw1]; exact (((Only.refl [] w0).alloc oS).alloc oA).alloc oW
  have bS : IsBlk w1 w0.heap.size oS := by rw [hw1]; exact ((IsBlk.made w0 oS).alloc oA).alloc oW
  have bA : IsBlk w1 (w0.heap.size + 1) oA := by
    have h := (IsBlk.made (w0.alloc oS) oA).alloc oW
    rw [show (w0.alloc oS).heap.size = w0.heap.size + 1 from by simp] at h
    rw [hw1]; exact h
  have bW : IsBlk w1 (w0.heap.size + 2) oW := by
    have h := IsBlk.made ((w0.alloc oS).alloc oA) oW
    rw [show ((w0.alloc oS).alloc oA).heap.size = w0.heap.size + 2 from by simp] at h
    rw [hw1]; exact h
  have hiz := inM_lti which 22 (by omega)
  have hin := inM_lt which 22 (by omega)
  rw [hoS] at bS
  rw [hoA] at bA
  rw [hoW] at bW
  have cS := table_cell pknS bS (inM which 22) hin
  have cA := aint_cell pknA bA (inM which 22) hin
  have cW := table_cell pknW bW (inM which 22) hin
  rw [hoS, hoA, hoW] at hw1
  clear hoS hoA hoW bS bA bW oS oA oW
  obtain ⟨hsl, hcase⟩ := fact_at (inM which 22) hin
  have HS := Lib.hid cS
  have HA := Lib.hid cA
  have HW := Lib.hid cW
  have Hcase := Lib.hid hcase
  have HO1 := Lib.hid (HO0.out.plus hO1)
  clear cS cA cW hcase hO1 HO0
  go_wp2_with fail
  rw [← hw1]
  clear hw1
  refine (within6_to _ which 22 (by omega) (by omega)).mono ?_
  rintro e w' ⟨rfl, rfl⟩
  rw [show (22 : Int).toNat = 22 from rfl]
  generalize hk : inM which 22 = k at *
  clear hk
  generalize pknS.getD k [] = s at *
  generalize pknA.getD k 0 = n at *
  generalize pknW.getD k [] = x at *
  have hc1 := HS.out
  have hz0 : w0.heap.size < w1.heap.size := by omega
  go_wp2_with fail
  refine (pparse_any _ s (by omega)).mono ?_
  rintro e w2 ⟨vv, vl, vf, rfl, hP, hO⟩
  have hcA := (hO.cell (p := ⟨w0.heap.size + 1, k, none⟩) (by show w0.heap.size + 1 < _; omega) (by simp)).trans HA.out
  have hcW := (hO.cell (p := ⟨w0.heap.size + 2, k, none⟩) (by show w0.heap.size + 2 < _; omega) (by simp)).trans HW.out
  have hsz := hO.size
  have HO2 := Lib.hid (HO1.out.plus hO)
  clear hO HS HA HW hc1 HO1
  generalize parseM s = pm at *
  obtain ⟨P, a, er⟩ := pm
  simp only at hP Hcase ⊢
  have HP := Lib.hid hP
  obtain ⟨⟨av, cv, rfl, hcv, -⟩, ⟨al, cl, rfl, hcl, -⟩, ⟨af, cf, rfl, hcf, -⟩⟩ := hP
  have hOa := (Only.refl [] w2).alloc (.cells #[.slice av P.vars.length cv, .slice al P.locks.length cl, .slice af P.funcs.length cf] 30)
  have hb := IsBlk.made w2 (.cells #[.slice av P.vars.length cv, .slice al P.locks.length cl, .slice af P.funcs.length cf] 30)
  have HPa := Lib.hid (HP.out.more hOa)
  have dA := (hOa.cell (p := ⟨w0.heap.size + 1, k, none⟩) (by show w0.heap.size + 1 < _; omega) (by simp)).trans hcA
  have dW := (hOa.cell (p := ⟨w0.heap.size + 2, k, none⟩) (by show w0.heap.size + 2 < _; omega) (by simp)).trans hcW
  have hsb := hOa.size
  have HO3 := Lib.hid (HO2.out.plus hOa)
  clear HP HO2 hOa hcA hcW
  rcases Hcase.out with ⟨rfl, rfl, h3, h4⟩ | ⟨rfl, rfl, h3⟩
  · obtain ⟨g1, g2, g3, g4, g5⟩ := okP_ok h4
    have h3x := Lib.hid h3
    have H1 := Lib.hid g1
    clear Hcase h3 h4 g1
    go_upto_region 10 with fail
    generalize hW3 : w2.alloc (.cells #[.slice av P.vars.length cv, .slice al P.locks.length cl, .slice af P.funcs.length cf] 30) = w3 at *
    clear hW3
    have dW : w3.cell? ⟨w0.heap.size + 1 + 1, k, none⟩ = some (.string ⟨x.toArray⟩) := dW
    have hqs := hb.lt
    have hcl : ∀ W, Only [] w3 W → W.cell? ⟨w2.heap.size, 0, none⟩ = some (.slice av P.vars.length cv) ∧ W.cell? ⟨w2.heap.size, 1, none⟩ = some (.slice al P.locks.length cl) ∧ W.cell? ⟨w2.heap.size, 2, none⟩ = some (.slice af P.funcs.length cf) ∧ W.cell? ⟨w0.heap.size + 1 + 1, k, none⟩ = some (.string ⟨x.toArray⟩) := fun W hO => ⟨(hb.only hO (by simp)).cell 0, (hb.only hO (by simp)).cell 1, (hb.only hO (by simp)).cell 2, (hO.cell (p := ⟨w0.heap.size + 1 + 1, k, none⟩) (by show w0.heap.size + 1 + 1 < _; omega) (by simp)).trans dW⟩
    have hall := hcl w3.drew (Only.refl [] w3).drew
    have Hcl := Lib.hid hcl
    have htx : ∀ W, Only [] w3 W → Calls Try.prog 22 #[.agg #[.slice av P.vars.length cv, .slice al P.locks.length cl, .slice af P.funcs.length cf]] W fun e w' => e = .returned (encStr x) ∧ Only [] W w' := fun W hO => by
      have h := ptext_any W _ _ _ P (HPa.out.more hO) (by omega) H1.out ⟨by omega, by omega, by omega⟩
      rw [h3x.out] at h
      exact h
    have Htx := Lib.hid htx
    clear hcl htx dA dW
    have hdr : Only [] w3 w3.drew := (Only.refl [] w3).drew
    have hxx : (x == x) = true := by simp
    have hk0 : (0 : Int) ≤ (k : Int) := by omega
    have hk1 : (k : Int) < 22 := by omega
    go_region_held3 (fun W => W.cell? ⟨w2.heap.size, 0, none⟩ = some (.slice av P.vars.length cv) ∧ W.cell? ⟨w2.heap.size, 1, none⟩ = some (.slice al P.locks.length cl) ∧ W.cell? ⟨w2.heap.size, 2, none⟩ = some (.slice af P.funcs.length cf) ∧ W.cell? ⟨w0.heap.size + 1 + 1, k, none⟩ = some (.string ⟨x.toArray⟩)) (first | exact hall | assumption)
      (first
        | (go_at_call 22
           refine (Htx.out _ hdr).mono ?_
           rintro e w5 ⟨rfl, hO5⟩
           have hOw5 := hdr.plus hO5
           have hall5 := Hcl.out w5 hOw5
           unfold encStr))
    all_goals
      go_wp2
      go_ret
      exact ⟨rfl, HO3.out.plus hOw5⟩
  · clear Hcase
    simp only [List.length_nil] at *
    rcases h3 with ⟨rfl, rfl⟩ | ⟨rfl, rfl⟩
    · go_upto_region 9 with fail
      generalize hW3 : w2.alloc (.cells #[.slice av 0 cv, .slice al 0 cl, .slice af 0 cf] 30) = w3 at *
      clear hW3
      have dW : w3.cell? ⟨w0.heap.size + 1 + 1, k, none⟩ = some (.string ⟨#[116, 111, 107, 101, 110]⟩) := dW
      have hqs := hb.lt
      have hcq : ∀ W, Only [] w3 W → W.cell? ⟨w2.heap.size, 0, none⟩ = some (.slice av 0 cv) ∧ W.cell? ⟨w2.heap.size, 1, none⟩ = some (.slice al 0 cl) ∧ W.cell? ⟨w2.heap.size, 2, none⟩ = some (.slice af 0 cf) ∧ W.cell? ⟨w0.heap.size + 1 + 1, k, none⟩ = some (.string ⟨#[116, 111, 107, 101, 110]⟩) ∧ W.cell? ⟨w0.heap.size + 1, k, none⟩ = some (.int .i64 a) := fun W hO => ⟨(hb.only hO (by simp)).cell 0, (hb.only hO (by simp)).cell 1, (hb.only hO (by simp)).cell 2, (hO.cell (p := ⟨w0.heap.size + 1 + 1, k, none⟩) (by show w0.heap.size + 1 + 1 < _; omega) (by simp)).trans dW, (hO.cell (p := ⟨w0.heap.size + 1, k, none⟩) (by show w0.heap.size + 1 < _; omega) (by simp)).trans dA⟩
      have hall := hcq w3.drew (Only.refl [] w3).drew
      have Hcl := Lib.hid hcq
      clear hcq dA dW
      have hdr : Only [] w3 w3.drew := (Only.refl [] w3).drew
      have hk0 : (0 : Int) ≤ (k : Int) := by omega
      have hk1 : (k : Int) < 22 := by omega
      go_region_held3 (fun W => W.cell? ⟨w2.heap.size, 0, none⟩ = some (.slice av 0 cv) ∧ W.cell? ⟨w2.heap.size, 1, none⟩ = some (.slice al 0 cl) ∧ W.cell? ⟨w2.heap.size, 2, none⟩ = some (.slice af 0 cf) ∧ W.cell? ⟨w0.heap.size + 1 + 1, k, none⟩ = some (.string ⟨#[116, 111, 107, 101, 110]⟩) ∧ W.cell? ⟨w0.heap.size + 1, k, none⟩ = some (.int .i64 a)) (first | exact hall | assumption)
        (first
          | (go_at_call 26
             refine (err6_any _).mono ?_
             rintro e w5 ⟨rfl, hO5⟩
             have hOw5 := hdr.plus hO5
             have hall5 := Hcl.out w5 hOw5
             unfold encStr))
      all_goals
        go_wp2
        go_ret
        exact ⟨rfl, HO3.out.plus hOw5⟩
    · go_upto_region 9 with fail
      generalize hW3 : w2.alloc (.cells #[.slice av 0 cv, .slice al 0 cl, .slice af 0 cf] 30) = w3 at *
      clear hW3
      have dW : w3.cell? ⟨w0.heap.size + 1 + 1, k, none⟩ = some (.string ⟨#[102, 111, 114, 109]⟩) := dW
      have hqs := hb.lt
      have hcq : ∀ W, Only [] w3 W → W.cell? ⟨w2.heap.size, 0, none⟩ = some (.slice av 0 cv) ∧ W.cell? ⟨w2.heap.size, 1, none⟩ = some (.slice al 0 cl) ∧ W.cell? ⟨w2.heap.size, 2, none⟩ = some (.slice af 0 cf) ∧ W.cell? ⟨w0.heap.size + 1 + 1, k, none⟩ = some (.string ⟨#[102, 111, 114, 109]⟩) ∧ W.cell? ⟨w0.heap.size + 1, k, none⟩ = some (.int .i64 a) := fun W hO => ⟨(hb.only hO (by simp)).cell 0, (hb.only hO (by simp)).cell 1, (hb.only hO (by simp)).cell 2, (hO.cell (p := ⟨w0.heap.size + 1 + 1, k, none⟩) (by show w0.heap.size + 1 + 1 < _; omega) (by simp)).trans dW, (hO.cell (p := ⟨w0.heap.size + 1, k, none⟩) (by show w0.heap.size + 1 < _; omega) (by simp)).trans dA⟩
      have hall := hcq w3.drew (Only.refl [] w3).drew
      have Hcl := Lib.hid hcq
      clear hcq dA dW
      have hdr : Only [] w3 w3.drew := (Only.refl [] w3).drew
      have hk0 : (0 : Int) ≤ (k : Int) := by omega
      have hk1 : (k : Int) < 22 := by omega
      go_region_held3 (fun W => W.cell? ⟨w2.heap.size, 0, none⟩ = some (.slice av 0 cv) ∧ W.cell? ⟨w2.heap.size, 1, none⟩ = some (.slice al 0 cl) ∧ W.cell? ⟨w2.heap.size, 2, none⟩ = some (.slice af 0 cf) ∧ W.cell? ⟨w0.heap.size + 1 + 1, k, none⟩ = some (.string ⟨#[102, 111, 114, 109]⟩) ∧ W.cell? ⟨w0.heap.size + 1, k, none⟩ = some (.int .i64 a)) (first | exact hall | assumption)
        (first
          | (go_at_call 26
             refine (err7_any _).mono ?_
             rintro e w5 ⟨rfl, hO5⟩
             have hOw5 := hdr.plus hO5
             have hall5 := Hcl.out w5 hOw5
             unfold encStr))
      all_goals
        go_wp2
        go_ret
        exact ⟨rfl, HO3.out.plus hOw5⟩

end Go.Proofs.Ytonpfmhdefhhmaa
