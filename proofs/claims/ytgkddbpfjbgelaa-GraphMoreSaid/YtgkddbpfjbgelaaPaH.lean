/-
  Declarations: prog of the package parse.
-/
import Derived.Test.YtgkddbpfjbgelaaPaG
namespace Go.Proofs.Ytgkddbpfjbgelaa
set_option maxRecDepth 100000
set_option linter.unusedVariables false
open Go.RowKit Go.Sort

/-- A program in new memory: it stays, whatever becomes of what was there before. -/
def ProgNew (w w' : World) (vv vl vf : Value) (P : ProgM) : Prop := ∀ (S : List Nat) (w2 : World), Only S w' w2 → (∀ k ∈ S, k < w.heap.size) → ProgAt w2 vv vl vf P
theorem owns_base {w : World} {base base' s n : Nat} {e : TypeId} {v : Value} {xs : List Value} (h : w.ownsRow base e s v n xs) (hb : base' ≤ base) : w.ownsRow base' e s v n xs := by
  refine ⟨h.1, ?_⟩
  rcases h.2 with hn | ⟨g, cap, cur, rfl, hb2, hg, rest⟩
  · exact .inl hn
  · exact .inr ⟨g, cap, cur, rfl, by omega, hg, rest⟩
theorem GrowP.base {w0 w1 w : World} {vv vl vf : Value} {p : ProgM} {fp : List Nat} (h : GrowP w1 w vv vl vf p fp) (hb : w0.heap.size ≤ w1.heap.size) : GrowP w0 w vv vl vf p fp := by
  obtain ⟨h1, h2, ⟨xs, h3, h4⟩, h5, h6, h7, h8, h9⟩ := h
  exact ⟨owns_base h1 hb, owns_base h2 hb, ⟨xs, owns_base h3 hb, h4⟩, ⟨h5.1, fun k hk => ⟨Nat.le_trans hb (h5.2 k hk).1, (h5.2 k hk).2⟩⟩, h6, h7, h8, h9⟩
theorem sizeProg : (Try.prog.info? 41).map (·.size) = some 3 := by kernel_rfl
theorem ret_prog {fn : Func} {p : Tmp} (h : fn.results = #[.cell p 41]) (tmps : Array Value) (w : World) (g : Nat) (cs : Array Value) (hp : tmps.getD p undef = .pointer (some ⟨g, 0, none⟩))
    (hg : IsBlk w g (.cells cs 41)) (h3 : cs.size = 3) : (results fn tmps).run Try.prog w = .ok (.agg cs) w :=
  results_cell_row h tmps w g 41 cs (0, 0) _ hp hg Try.underlying41 rfl (by rw [h3]; exact sizeProg)

theorem owns_slice {w : World} {base s n : Nat} {e : TypeId} {v : Value} {xs : List Value} (h : w.ownsRow base e s v n xs) : ∃ a c, v = .slice a n c := by
  rcases h.2 with ⟨rfl, rfl⟩ | ⟨g, cap, cur, rfl, -⟩
  · exact ⟨_, _, rfl⟩
  · exact ⟨_, _, rfl⟩
theorem three_world {w1 : World} {q : Nat} {x0 x1 x2 : Value} {T : TypeId} (hq : IsBlk w1 q (.cells #[x0, x1, x2] T)) (t0 t1 t2 : Value) :
    IsBlk (((w1.setCell ⟨q, 0, none⟩ t0).setCell ⟨q, 1, none⟩ t1).setCell ⟨q, 2, none⟩ t2) q (.cells #[t0, t1, t2] T) ∧ Only [q] w1 (((w1.setCell ⟨q, 0, none⟩ t0).setCell ⟨q, 1, none⟩ t1).setCell ⟨q, 2, none⟩ t2) := by
  refine ⟨?_, ?_⟩
  · have h1 := IsBlk.put hq 0 t0
    have h2 := IsBlk.put h1 1 t1
    have h3 := IsBlk.put h2 2 t2
    exact h3
  · exact ((((Only.refl [q] w1).setCell (p := ⟨q, 0, none⟩) (.inl (by simp)) t0).setCell (p := ⟨q, 1, none⟩) (.inl (by simp)) t1).setCell (p := ⟨q, 2, none⟩) (.inl (by simp)) t2)
theorem DeclsAt.keep {w w' : World} {S : List Nat} {v : Value} {l : List DeclM} (h : DeclsAt w v l) (hO : Only S w w') (hS : ∀ k ∈ S, v.ownBlock ≠ some k) : DeclsAt w' v l := by
  obtain ⟨a, c, rfl, hc, h⟩ := h
  refine ⟨a, c, rfl, hc, fun hp => ?_⟩
  obtain ⟨g, rfl, hg, hr⟩ := h hp
  exact ⟨g, rfl, Nat.lt_of_lt_of_le hg hO.size, rangeAt_only hr hO hg (fun hm => hS g hm rfl)⟩

/-- An append of one element, as a region that draws has it. -/
theorem wp_append_d {w : World} {o : Oper} {a : Act} {K : Act → World → Prop} {Q : Exit → Act → World → Prop} (s x : Operand)
    (ho : o.op = .call { callee := .builtin .append, args := #[s, x], argTypes := #[38, 38] })
    (base : Nat) (v : Value) (l : List DeclM) (hs : a.eval s = v) (hown : w.ownsRow base 74 2 v l.length (dcells l))
    (q c : Nat) (d : DeclM) (hx : a.eval x = .slice (some ⟨q, 0, none⟩) 1 c)
    (hc0 : w.cell? ⟨q, 0, none⟩ = some (encStr d.name)) (hc1 : w.cell? ⟨q, 1, none⟩ = some (.int .i64 d.at_)) (hsm : l.length ≤ 1000000) (hbase : base ≤ w.heap.size)
    (h : ∀ a' c' w', w'.ownsRow base 74 2 (.slice a' (l ++ [d]).length c') (l ++ [d]).length (dcells (l ++ [d])) → Only (ownL v) w w' → ((Value.slice a' (l ++ [d]).length c').ownBlock = v.ownBlock ∨ (Value.slice a' (l ++ [d]).length c').ownBlock = some w.heap.size) → K (a.put o.dst (.slice a' (l ++ [d]).length c')) w') : o.wp Try.prog a w K Q := by
  obtain ⟨i0, hi, hz0, hz1, hz2⟩ := info_parts infoD
  obtain ⟨v', w', hr, k2, k3, k4, k5⟩ := run_append_own_at (P := Try.prog) w base _ o.type _ i0 _ 2 24 Try.underlying38 hi hz0 hz1 hz2 rfl (by decide) v l.length _ hown ⟨q, 0, none⟩ 1 c [encStr d.name, .int .i64 d.at_] rfl (fun j u hu => by
    rw [Addr.add_mid]
    match j, hu with
    | 0, hu => simp at hu; rw [← hu]; exact hc0
    | 1, hu => simp at hu; rw [← hu]; exact hc1
    | n + 2, hu => simp at hu) (fun u hu => by
    simp only [List.mem_cons, List.not_mem_nil, or_false] at hu
    rcases hu with rfl | rfl <;> rfl) (by unfold maxLen; omega) (by omega) hbase
  unfold Oper.wp execOp
  simp only [ho, resolve, invoke, builtin, Sem.run_bind, Sem.run_pure, Result.andThen_ok, List.map_toArray, List.map_cons, List.map_nil, hs, hx, hr]
  have e : w'.ownsRow base 74 2 v' (l ++ [d]).length (dcells (l ++ [d])) := by rw [dcells_snoc, List.length_append]; exact k2
  obtain ⟨a', c', rfl⟩ := owns_slice e
  exact h a' c' w' e (grown_only k3) k5
theorem wp_append_fn {w : World} {o : Oper} {a : Act} {K : Act → World → Prop} {Q : Exit → Act → World → Prop} (s x : Operand)
    (ho : o.op = .call { callee := .builtin .append, args := #[s, x], argTypes := #[39, 39] })
    (base : Nat) (v : Value) (n : Nat) (xs : List Value) (hs : a.eval s = v) (hown : w.ownsRow base 45 3 v n xs)
    (q c : Nat) (d : FuncM) (va : Value) (fa : List Nat) (hb : BlkAt w va d.body fa) (hx : a.eval x = .slice (some ⟨q, 0, none⟩) 1 c)
    (hc0 : w.cell? ⟨q, 0, none⟩ = some (encStr d.name)) (hc1 : w.cell? ⟨q, 1, none⟩ = some (.int .i64 d.at_)) (hc2 : w.cell? ⟨q, 2, none⟩ = some va) (hsm : n ≤ 1000000) (hbase : base ≤ w.heap.size)
    (h : ∀ a' c' w', w'.ownsRow base 45 3 (.slice a' (n + 1 : Nat) c') (n + 1) (xs ++ [encStr d.name, .int .i64 d.at_, va]) → Only (ownL v) w w' → ((Value.slice a' (n + 1 : Nat) c').ownBlock = v.ownBlock ∨ (Value.slice a' (n + 1 : Nat) c').ownBlock = some w.heap.size) → K (a.put o.dst (.slice a' (n + 1 : Nat) c')) w') : o.wp Try.prog a w K Q := by
  obtain ⟨i0, hi, hz0, hz1, hz2⟩ := info_parts infoFn
  obtain ⟨v', w', hr, k2, k3, k4, k5⟩ := run_append_own_at (P := Try.prog) w base _ o.type _ i0 _ 3 48 Try.underlying39 hi hz0 hz1 hz2 rfl (by decide) v n _ hown ⟨q, 0, none⟩ 1 c [encStr d.name, .int .i64 d.at_, va] rfl (fun j u hu => by
    rw [Addr.add_mid]
    match j, hu with
    | 0, hu => simp at hu; rw [← hu]; exact hc0
    | 1, hu => simp at hu; rw [← hu]; exact hc1
    | 2, hu => simp at hu; rw [← hu]; exact hc2
    | n + 3, hu => simp at hu) (fun u hu => by
    simp only [List.mem_cons, List.not_mem_nil, or_false] at hu
    rcases hu with rfl | rfl | rfl
    · rfl
    · rfl
    · exact RowE.one hb) (by unfold maxLen; omega) (by omega) hbase
  unfold Oper.wp execOp
  simp only [ho, resolve, invoke, builtin, Sem.run_bind, Sem.run_pure, Result.andThen_ok, List.map_toArray, List.map_cons, List.map_nil, hs, hx, hr]
  obtain ⟨a', c', rfl⟩ := owns_slice k2
  exact h a' c' w' k2 (grown_only k3) k5

section
variable {k e : Nat} {t : Tok} {r r1 r2 : List Tok} {P : ProgM} {n : List UInt8} {b : Blk} {y : Nat × Nat}
theorem prog_var_err (h : t.s = varW) (hn : nameF e r = .error y) : progF (k + 1) e (t :: r) P = .error y := by rw [progF, if_pos h, hn]
theorem prog_var (h : t.s = varW) (hn : nameF e r = .ok (n, r1)) : progF (k + 1) e (t :: r) P = progF k e r1 { P with vars := P.vars ++ [⟨n, t.at_⟩] } := by rw [progF, if_pos h, hn]
theorem prog_lock_err (h0 : t.s ≠ varW) (h : t.s = lockW) (hn : nameF e r = .error y) : progF (k + 1) e (t :: r) P = .error y := by rw [progF, if_neg h0, if_pos h, hn]
theorem prog_lock (h0 : t.s ≠ varW) (h : t.s = lockW) (hn : nameF e r = .ok (n, r1)) : progF (k + 1) e (t :: r) P = progF k e r1 { P with locks := P.locks ++ [⟨n, t.at_⟩] } := by rw [progF, if_neg h0, if_pos h, hn]
theorem prog_func_err (h0 : t.s ≠ varW) (h1 : t.s ≠ lockW) (h : t.s = funcW) (hn : nameF e r = .error y) : progF (k + 1) e (t :: r) P = .error y := by rw [progF, if_neg h0, if_neg h1, if_pos h, hn]
theorem prog_func_bad (h0 : t.s ≠ varW) (h1 : t.s ≠ lockW) (h : t.s = funcW) (hn : nameF e r = .ok (n, r1)) (hb : blockF (2 * r1.length + 1) 0 e r1 = .error y) : progF (k + 1) e (t :: r) P = .error y := by rw [progF, if_neg h0, if_neg h1, if_pos h, hn]; simp only [hb]
theorem prog_func (h0 : t.s ≠ varW) (h1 : t.s ≠ lockW) (h : t.s = funcW) (hn : nameF e r = .ok (n, r1)) (hb : blockF (2 * r1.length + 1) 0 e r1 = .ok (b, r2)) : progF (k + 1) e (t :: r) P = progF k e r2 { P with funcs := P.funcs ++ [⟨n, t.at_, b⟩] } := by rw [progF, if_neg h0, if_neg h1, if_pos h, hn]; simp only [hb]
theorem prog_bad (h0 : t.s ≠ varW) (h1 : t.s ≠ lockW) (h2 : t.s ≠ funcW) : progF (k + 1) e (t :: r) P = .error (t.at_, 7) := by rw [progF, if_neg h0, if_neg h1, if_neg h2]
end

def zeroP : Obj := .cells #[.slice none 0 0, .slice none 0 0, .slice none 0 0] 41

end Go.Proofs.Ytgkddbpfjbgelaa
