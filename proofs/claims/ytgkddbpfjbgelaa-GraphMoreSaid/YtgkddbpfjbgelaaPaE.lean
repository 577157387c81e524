/-
  Statements and blocks: stmt, block of the package parse.
-/
import Derived.Test.YtgkddbpfjbgelaaPaD
import Derived.Maps.AppendAt
import Derived.Deep.RegionHeld3
import Derived.Deep.CutBlock
import Derived.Deep.DeepCutAuto
import Derived.IntWalk
namespace Go.Proofs.Ytgkddbpfjbgelaa
set_option maxRecDepth 100000
set_option linter.unusedVariables false
open Go.RowKit Go.Sort

def stmV (s : StmM) (va vb : Value) : Value := .agg #[.int .i64 s.kind, .int .i64 s.at_, encStr s.name, va, vb]
theorem sizeStm : (Try.prog.info? 52).map (·.size) = some 5 := by kernel_rfl
theorem ret_stm {fn : Func} {p : Tmp} (h : fn.results = #[.cell p 52]) (tmps : Array Value) (w : World) (g : Nat) (cs : Array Value) (hp : tmps.getD p undef = .pointer (some ⟨g, 0, none⟩))
    (hg : IsBlk w g (.cells cs 52)) (h5 : cs.size = 5) : (results fn tmps).run Try.prog w = .ok (.agg cs) w :=
  results_cell_row h tmps w g 52 cs (0, 0) _ hp hg Try.underlying52 rfl (by rw [h5]; exact sizeStm)
/-- Five cells set. -/
theorem five_world {w1 : World} {q : Nat} {x0 x1 x2 x3 x4 : Value} {T : TypeId} (hq : IsBlk w1 q (.cells #[x0, x1, x2, x3, x4] T)) (t0 t1 t2 t3 t4 : Value) :
    IsBlk (((((w1.setCell ⟨q, 0, none⟩ t0).setCell ⟨q, 1, none⟩ t1).setCell ⟨q, 2, none⟩ t2).setCell ⟨q, 3, none⟩ t3).setCell ⟨q, 4, none⟩ t4) q (.cells #[t0, t1, t2, t3, t4] T) ∧
    Only [q] w1 (((((w1.setCell ⟨q, 0, none⟩ t0).setCell ⟨q, 1, none⟩ t1).setCell ⟨q, 2, none⟩ t2).setCell ⟨q, 3, none⟩ t3).setCell ⟨q, 4, none⟩ t4) := by
  refine ⟨?_, ?_⟩
  · have h1 := IsBlk.put hq 0 t0
    have h2 := IsBlk.put h1 1 t1
    have h3 := IsBlk.put h2 2 t2
    have h4 := IsBlk.put h3 3 t3
    have h5 := IsBlk.put h4 4 t4
    exact h5
  · exact ((((((Only.refl [q] w1).setCell (p := ⟨q, 0, none⟩) (.inl (by simp)) t0).setCell (p := ⟨q, 1, none⟩) (.inl (by simp)) t1).setCell (p := ⟨q, 2, none⟩) (.inl (by simp)) t2).setCell (p := ⟨q, 3, none⟩) (.inl (by simp)) t3).setCell (p := ⟨q, 4, none⟩) (.inl (by simp)) t4)

/-! ### What stmtF says, way by way -/
section
variable {f d e : Nat} {t : Tok} {r r1 r2 : List Tok} {a b : Blk} {n : List UInt8} {y : Nat × Nat}
theorem parse_lenb (h : blockF f d e r = .ok (a, r1)) : r1.length < r.length := (parse_len f).1 _ _ _ _ _ h
theorem stm7_err (h7 : kindM t.s = 7) (h : blockF f d e r = .error y) : stmtF (f + 1) d e (t :: r) = .error y := by
  rw [stmtF, if_neg (by omega), if_pos h7, h]
theorem stm7_one (h7 : kindM t.s = 7) (h : blockF f d e r = .ok (a, r1)) (hn : nextS r1 ≠ elseM) : stmtF (f + 1) d e (t :: r) = .ok (⟨7, t.at_, [], a, .nil⟩, r1) := by
  rw [stmtF, if_neg (by omega), if_pos h7, h]; simp only [if_neg hn]
theorem stm7_two_err (h7 : kindM t.s = 7) (h : blockF f d e r = .ok (a, r1)) (hn : nextS r1 = elseM) (h2 : blockF f d e r1.tail = .error y) : stmtF (f + 1) d e (t :: r) = .error y := by
  rw [stmtF, if_neg (by omega), if_pos h7, h]; simp only [if_pos hn, h2]
theorem stm7_two (h7 : kindM t.s = 7) (h : blockF f d e r = .ok (a, r1)) (hn : nextS r1 = elseM) (h2 : blockF f d e r1.tail = .ok (b, r2)) : stmtF (f + 1) d e (t :: r) = .ok (⟨7, t.at_, [], a, b⟩, r2) := by
  rw [stmtF, if_neg (by omega), if_pos h7, h]; simp only [if_pos hn, h2]
theorem stm8_err (h8 : kindM t.s = 8) (h : blockF f d e r = .error y) : stmtF (f + 1) d e (t :: r) = .error y := by
  rw [stmtF, if_neg (by omega), if_neg (by omega), if_pos h8, h]
theorem stm8_ok (h8 : kindM t.s = 8) (h : blockF f d e r = .ok (a, r1)) : stmtF (f + 1) d e (t :: r) = .ok (⟨8, t.at_, [], a, .nil⟩, r1) := by
  rw [stmtF, if_neg (by omega), if_neg (by omega), if_pos h8, h]
theorem stmn_err (h0 : kindM t.s ≠ 0) (h7 : kindM t.s ≠ 7) (h8 : kindM t.s ≠ 8) (h : nameF e r = .error y) : stmtF (f + 1) d e (t :: r) = .error y := by
  rw [stmtF, if_neg h0, if_neg h7, if_neg h8, h]
theorem stmn_ok (h0 : kindM t.s ≠ 0) (h7 : kindM t.s ≠ 7) (h8 : kindM t.s ≠ 8) (h : nameF e r = .ok (n, r1)) : stmtF (f + 1) d e (t :: r) = .ok (⟨kindM t.s, t.at_, n, .nil, .nil⟩, r1) := by
  rw [stmtF, if_neg h0, if_neg h7, if_neg h8, h]
end

def zeroS : Obj := .cells #[.int .i64 0, .int .i64 0, .string ⟨#[]⟩, .slice none 0 0, .slice none 0 0] 52

end Go.Proofs.Ytgkddbpfjbgelaa
