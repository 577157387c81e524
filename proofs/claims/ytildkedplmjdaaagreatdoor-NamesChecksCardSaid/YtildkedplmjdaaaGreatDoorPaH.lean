/-
  Declarations: prog of the package parse.
-/
import Derived.Test.YtildkedplmjdaaaGreatDoorPaG
namespace Go.Proofs.YtildkedplmjdaaaGreatDoor
set_option maxRecDepth 100000
set_option linter.unusedVariables false
open Go.RowKit Go.Sort

/-- A program in new memory: it stays, whatever becomes of what was there before. -/
def ProgNew (w w' : World) (vv vl vf : Value) (P : ProgM) : Prop := ∀ (S : List Nat) (w2 : World), Only S w' w2 → (∀ k ∈ S, k < w.heap.size) → ProgAt w2 vv vl vf P
theorem owns_base {w : World} {base base' s n : Nat} {e : TypeId} {v : Value} {xs : List Value} (h : w.ownsRow base e s v n xs) (hb : base' ≤ base) : w.ownsRow base' e s v n xs := by
  refine ⟨h.1, ?_⟩
  rcases h.2 with hn | ⟨g, cap, cur, rfl, hb2, hg, rest⟩
  · exact .inl hn
  · exact .inr ⟨g, cap, cur, rfl, by omega, hg, rest⟩
theorem GrowP.base {w0 w1 w : World} {vv vl vf : Value} {p : ProgM} {fp : List Nat} (h : GrowP w1 w vv vl vf p fp) (hb : w0.heap.size ≤ w1.heap.size) : GrowP w0 w vv vl vf p fp := by
  obtain ⟨h1, h2, ⟨xs, h3, h4⟩, h5, h6, h7, h8, h9⟩ := h
  exact ⟨owns_base h1 hb, owns_base h2 hb, ⟨xs, owns_base h3 hb, h4⟩, ⟨h5.1, fun k hk => ⟨Nat.le_trans hb (h5.2 k hk).1, (h5.2 k hk).2⟩⟩, h6, h7, h8, h9⟩
/-- What prog leaves. -/
def ProgTo (w : World) (p : Nat) (x : PR ProgM) (r : Ending) (w' : World) : Prop :=
  match x with
  | .ok P => ∃ vv vl vf, r = .returned (.agg #[vv, vl, vf]) ∧ ProgNew w w' vv vl vf P ∧ (∃ fp, GrowP w w' vv vl vf P fp) ∧ Only [p] w w'
  | .error y => r = faultE y ∧ Only [p] w w'

theorem sizeProg : (Tryz.prog.info? 30).map (·.size) = some 3 := by kernel_rfl
theorem ret_prog {fn : Func} {p : Tmp} (h : fn.results = #[.cell p 30]) (tmps : Array Value) (w : World) (g : Nat) (cs : Array Value) (hp : tmps.getD p undef = .pointer (some ⟨g, 0, none⟩))
    (hg : IsBlk w g (.cells cs 30)) (h3 : cs.size = 3) : (results fn tmps).run Tryz.prog w = .ok (.agg cs) w :=
  results_cell_row h tmps w g 30 cs (0, 0) _ hp hg Tryz.underlying30 rfl (by rw [h3]; exact sizeProg)

theorem owns_slice {w : World} {base s n : Nat} {e : TypeId} {v : Value} {xs : List Value} (h : w.ownsRow base e s v n xs) : ∃ a c, v = .slice a n c := by
  rcases h.2 with ⟨rfl, rfl⟩ | ⟨g, cap, cur, rfl, -⟩
  · exact ⟨_, _, rfl⟩
  · exact ⟨_, _, rfl⟩
theorem three_world {w1 : World} {q : Nat} {x0 x1 x2 : Value} {T : TypeId} (hq : IsBlk w1 q (.cells #[x0, x1, x2] T)) (t0 t1 t2 : Value) :
    IsBlk (((w1.setCell ⟨q, 0, none⟩ t0).setCell ⟨q, 1, none⟩ t1).setCell ⟨q, 2, none⟩ t2) q (.cells #[t0, t1, t2] T) ∧ Only [q] w1 (((w1.setCell ⟨q, 0, none⟩ t0).setCell ⟨q, 1, none⟩ t1).setCell ⟨q, 2, none⟩ t2) := by
  refine ⟨?_, ?_⟩
  · have h1 := IsBlk.put hq 0 t0
    have h2 := IsBlk.put h1 1 t1
    have h3 := IsBlk.put h2 2 t2
    exact h3
  · exact ((((Only.refl [q] w1).setCell (p := ⟨q, 0, none⟩) (.inl (by simp)) t0).setCell (p := ⟨q, 1, none⟩) (.inl (by simp)) t1).setCell (p := ⟨q, 2, none⟩) (.inl (by simp)) t2)
theorem DeclsAt.keep {w w' : World} {S : List Nat} {v : Value} {l : List DeclM} (h : DeclsAt w v l) (hO : Only S w w') (hS : ∀ k ∈ S, v.ownBlock ≠ some k) : DeclsAt w' v l := by
  obtain ⟨a, c, rfl, hc, h⟩ := h
  refine ⟨a, c, rfl, hc, fun hp => ?_⟩
  obtain ⟨g, rfl, hg, hr⟩ := h hp
  exact ⟨g, rfl, Nat.lt_of_lt_of_le hg hO.size, rangeAt_only hr hO hg (fun hm => hS g hm rfl)⟩

/-- An append of one element, as a region that draws has it. -/
theorem wp_append_d {w : World} {o : Oper} {a : Act} {K : Act → World → Prop} {Q : Exit → Act → World → Prop} (s x : Operand)
    (ho : o.op = .call { callee := .builtin .append, args := #[s, x], argTypes := #[27, 27] })
    (base : Nat) (v : Value) (l : List DeclM) (hs : a.eval s = v) (hown : w.ownsRow base 59 2 v l.length (dcells l))
    (q c : Nat) (d : DeclM) (hx : a.eval x = .slice (some ⟨q, 0, none⟩) 1 c)
    (hc0 : w.cell? ⟨q, 0, none⟩ = some (encStr d.name)) (hc1 : w.cell? ⟨q, 1, none⟩ = some (.int .i64 d.at_)) (hsm : l.length ≤ 1000000) (hbase : base ≤ w.heap.size)
    (h : ∀ a' c' w', w'.ownsRow base 59 2 (.slice a' (l ++ [d]).length c') (l ++ [d]).length (dcells (l ++ [d])) → Only (ownL v) w w' → ((Value.slice a' (l ++ [d]).length c').ownBlock = v.ownBlock ∨ (Value.slice a' (l ++ [d]).length c').ownBlock = some w.heap.size) → K (a.put o.dst (.slice a' (l ++ [d]).length c')) w') : o.wp Tryz.prog a w K Q := by
  obtain ⟨i0, hi, hz0, hz1, hz2⟩ := info_parts infoD
  obtain ⟨v', w', hr, k2, k3, k4, k5⟩ := run_append_own_at (P := Tryz.prog) w base _ o.type _ i0 _ 2 24 Tryz.underlying27 hi hz0 hz1 hz2 rfl (by decide) v l.length _ hown ⟨q, 0, none⟩ 1 c [encStr d.name, .int .i64 d.at_] rfl (fun j u hu => by
    rw [Addr.add_mid]
    match j, hu with
    | 0, hu => simp at hu; rw [← hu]; exact hc0
    | 1, hu => simp at hu; rw [← hu]; exact hc1
    | n + 2, hu => simp at hu) (fun u hu => by
    simp only [List.mem_cons, List.not_mem_nil, or_false] at hu
    rcases hu with rfl | rfl <;> rfl) (by unfold maxLen; omega) (by omega) hbase
  unfold Oper.wp execOp
  simp only [ho, resolve, invoke, builtin, Sem.run_bind, Sem.run_pure, Result.andThen_ok, List.map_toArray, List.map_cons, List.map_nil, hs, hx, hr]
  have e : w'.ownsRow base 59 2 v' (l ++ [d]).length (dcells (l ++ [d])) := by rw [dcells_snoc, List.length_append]; exact k2
  obtain ⟨a', c', rfl⟩ := owns_slice e
  exact h a' c' w' e (grown_only k3) k5
theorem wp_append_fn {w : World} {o : Oper} {a : Act} {K : Act → World → Prop} {Q : Exit → Act → World → Prop} (s x : Operand)
    (ho : o.op = .call { callee := .builtin .append, args := #[s, x], argTypes := #[28, 28] })
    (base : Nat) (v : Value) (n : Nat) (xs : List Value) (hs : a.eval s = v) (hown : w.ownsRow base 51 3 v n xs)
    (q c : Nat) (d : FuncM) (va : Value) (fa : List Nat) (hb : BlkAt w va d.body fa) (hx : a.eval x = .slice (some ⟨q, 0, none⟩) 1 c)
    (hc0 : w.cell? ⟨q, 0, none⟩ = some (encStr d.name)) (hc1 : w.cell? ⟨q, 1, none⟩ = some (.int .i64 d.at_)) (hc2 : w.cell? ⟨q, 2, none⟩ = some va) (hsm : n ≤ 1000000) (hbase : base ≤ w.heap.size)
    (h : ∀ a' c' w', w'.ownsRow base 51 3 (.slice a' (n + 1 : Nat) c') (n + 1) (xs ++ [encStr d.name, .int .i64 d.at_, va]) → Only (ownL v) w w' → ((Value.slice a' (n + 1 : Nat) c').ownBlock = v.ownBlock ∨ (Value.slice a' (n + 1 : Nat) c').ownBlock = some w.heap.size) → K (a.put o.dst (.slice a' (n + 1 : Nat) c')) w') : o.wp Tryz.prog a w K Q := by
  obtain ⟨i0, hi, hz0, hz1, hz2⟩ := info_parts infoFn
  obtain ⟨v', w', hr, k2, k3, k4, k5⟩ := run_append_own_at (P := Tryz.prog) w base _ o.type _ i0 _ 3 48 Tryz.underlying28 hi hz0 hz1 hz2 rfl (by decide) v n _ hown ⟨q, 0, none⟩ 1 c [encStr d.name, .int .i64 d.at_, va] rfl (fun j u hu => by
    rw [Addr.add_mid]
    match j, hu with
    | 0, hu => simp at hu; rw [← hu]; exact hc0
    | 1, hu => simp at hu; rw [← hu]; exact hc1
    | 2, hu => simp at hu; rw [← hu]; exact hc2
    | n + 3, hu => simp at hu) (fun u hu => by
    simp only [List.mem_cons, List.not_mem_nil, or_false] at hu
    rcases hu with rfl | rfl | rfl
    · rfl
    · rfl
    · exact RowE.one hb) (by unfold maxLen; omega) (by omega) hbase
  unfold Oper.wp execOp
  simp only [ho, resolve, invoke, builtin, Sem.run_bind, Sem.run_pure, Result.andThen_ok, List.map_toArray, List.map_cons, List.map_nil, hs, hx, hr]
  obtain ⟨a', c', rfl⟩ := owns_slice k2
  exact h a' c' w' k2 (grown_only k3) k5

section
variable {k e : Nat} {t : Tok} {r r1 r2 : List Tok} {P : ProgM} {n : List UInt8} {b : Blk} {y : Nat × Nat}
theorem prog_var_err (h : t.s = varW) (hn : nameF e r = .error y) : progF (k + 1) e (t :: r) P = .error y := by rw [progF, if_pos h, hn]
theorem prog_var (h : t.s = varW) (hn : nameF e r = .ok (n, r1)) : progF (k + 1) e (t :: r) P = progF k e r1 { P with vars := P.vars ++ [⟨n, t.at_⟩] } := by rw [progF, if_pos h, hn]
theorem prog_lock_err (h0 : t.s ≠ varW) (h : t.s = lockW) (hn : nameF e r = .error y) : progF (k + 1) e (t :: r) P = .error y := by rw [progF, if_neg h0, if_pos h, hn]
theorem prog_lock (h0 : t.s ≠ varW) (h : t.s = lockW) (hn : nameF e r = .ok (n, r1)) : progF (k + 1) e (t :: r) P = progF k e r1 { P with locks := P.locks ++ [⟨n, t.at_⟩] } := by rw [progF, if_neg h0, if_pos h, hn]
theorem prog_func_err (h0 : t.s ≠ varW) (h1 : t.s ≠ lockW) (h : t.s = funcW) (hn : nameF e r = .error y) : progF (k + 1) e (t :: r) P = .error y := by rw [progF, if_neg h0, if_neg h1, if_pos h, hn]
theorem prog_func_bad (h0 : t.s ≠ varW) (h1 : t.s ≠ lockW) (h : t.s = funcW) (hn : nameF e r = .ok (n, r1)) (hb : blockF (2 * r1.length + 1) 0 e r1 = .error y) : progF (k + 1) e (t :: r) P = .error y := by rw [progF, if_neg h0, if_neg h1, if_pos h, hn]; simp only [hb]
theorem prog_func (h0 : t.s ≠ varW) (h1 : t.s ≠ lockW) (h : t.s = funcW) (hn : nameF e r = .ok (n, r1)) (hb : blockF (2 * r1.length + 1) 0 e r1 = .ok (b, r2)) : progF (k + 1) e (t :: r) P = progF k e r2 { P with funcs := P.funcs ++ [⟨n, t.at_, b⟩] } := by rw [progF, if_neg h0, if_neg h1, if_pos h, hn]; simp only [hb]
theorem prog_bad (h0 : t.s ≠ varW) (h1 : t.s ≠ lockW) (h2 : t.s ≠ funcW) : progF (k + 1) e (t :: r) P = .error (t.at_, 7) := by rw [progF, if_neg h0, if_neg h1, if_neg h2]
end

def zeroP : Obj := .cells #[.slice none 0 0, .slice none 0 0, .slice none 0 0] 30

set_option maxHeartbeats 16000000 in
theorem pprog_any (w : World) (p e : Nat) (l : List Tok) (h : RdAt w p l e) :
    Calls Tryz.prog 83 #[.pointer (some ⟨p, 0, none⟩)] w (ProgTo w p (progF l.length e l ⟨[], [], []⟩)) := by
  have hp := h.lt
  have hl := h.short
  have H := Lib.hid (h.more (((Only.refl [] w).alloc zeroP).alloc zeroP))
  have HO := Lib.hid ((((Only.refl [] w).alloc zeroP).alloc zeroP).into (T := [p]) (by simp))
  have hb1 := Lib.hid ((IsBlk.made w zeroP).alloc zeroP)
  have hb2 := Lib.hid (IsBlk.made (w.alloc zeroP) zeroP)
  have hs1 : (w.alloc zeroP).heap.size = w.heap.size + 1 := by simp
  rw [hs1] at hb2
  clear h hs1
  unfold zeroP at *
  go_enter Tryz.func83, Tryz.ntmps83
  generalize hX : progF l.length e l ⟨[], [], []⟩ = X at *
  have HX := Lib.hid hX.symm
  clear hX
  have hw1 : ((w.alloc (.cells #[.slice none 0 0, .slice none 0 0, .slice none 0 0] 30)).alloc (.cells #[.slice none 0 0, .slice none 0 0, .slice none 0 0] 30)).heap.size = w.heap.size + 2 := by simp
  go_wp2_with fail
  generalize hW : (w.alloc (.cells #[.slice none 0 0, .slice none 0 0, .slice none 0 0] 30)).alloc (.cells #[.slice none 0 0, .slice none 0 0, .slice none 0 0] 30) = w1 at *
  clear hW
  go_loopw [] (fun wr => ∃ (P : ProgM) (vv vl vf : Value) (fp : List Nat) (r : List Tok) (k : Nat), GrowP w1 wr vv vl vf P fp ∧ IsBlk wr (w.heap.size + 1) (.cells #[vv, vl, vf] 30) ∧ IsBlk wr w.heap.size (.cells #[.slice none 0 0, .slice none 0 0, .slice none 0 0] 30) ∧ RdAt wr p r e ∧ Only [p] w wr ∧ w1.heap.size ≤ wr.heap.size ∧ r.length ≤ k ∧ P.vars.length + P.locks.length + P.funcs.length + r.length ≤ 1000000 ∧ Hid (X = progF k e r P)) (fun wr => rdLen wr p)
  case atStart => exact ⟨⟨[], [], []⟩, _, _, _, [], l, l.length, GrowP.nil _ _, hb2.out, hb1.out, H.out, HO.out, Nat.le_refl _, Nat.le_refl _, by simpa using hl, HX⟩
  case round =>
    obtain ⟨P, vv, vl, vf, fp, r, k, hg, hB, hB0, hR, hO, hs1, hk, hal, hX⟩ := hrel
    obtain ⟨av, cv, rfl⟩ := owns_slice hg.vars
    obtain ⟨al, cl, rfl⟩ := owns_slice hg.locks
    obtain ⟨af, cf, rfl⟩ : ∃ a c, vf = .slice a P.funcs.length c := by obtain ⟨xs, h3, _⟩ := hg.funcs; exact owns_slice h3
    have hrd := Lib.hid hR.rd
    have Hg := Lib.hid hg
    have HB := Lib.hid hB
    have HB0 := Lib.hid hB0
    have HR := Lib.hid hR
    have HOr := Lib.hid hO
    obtain ⟨ar, cr, hbr, hcr, -, -⟩ := hR
    have c0 := hbr.cell 0
    have hbl := hB.lt
    have hb0l := hB0.lt
    have hsw := hO.size
    clear hg hB hB0 hO hbr hb1 hb2 H HO HX
    cases r with
    | nil =>
      have HX : Hid (X = .ok P) := Lib.hid (by rw [hX.out]; cases k <;> rfl)
      clear hX
      have y0 := HB.out.cell 0
      have y1 := HB.out.cell 1
      have y2 := HB.out.cell 2
      have z0 := HB0.out.cell 0
      have z1 := HB0.out.cell 1
      have z2 := HB0.out.cell 2
      have f0 := HB0.out.notFrozen 0
      have f1 := HB0.out.notFrozen 1
      have f2 := HB0.out.notFrozen 2
      go_wp2
      refine bodyPost_ret_by (ret_prog rfl _ _ w.heap.size _ rfl (three_world HB0.out _ _ _).1 rfl) rfl ?_
      rw [HX.out]
      obtain ⟨-, o7⟩ := three_world HB0.out (.slice av P.vars.length cv) (.slice al P.locks.length cl) (.slice af P.funcs.length cf)
      exact ⟨_, _, _, rfl, fun S w9 h9 hS => ((Hg.out.keep o7 (by simp; omega)).keep h9 (fun k hk => by have := hS k hk; omega)).done, ⟨fp, (Hg.out.keep o7 (by simp; omega)).base (by omega)⟩, HOr.out.then o7 [p] (by simp) (by simp)⟩
    | cons t r =>
      have hl1 : (0 : Int) < (r.length : Int) + 1 := by omega
      obtain ⟨k, rfl⟩ : ∃ g, k = g + 1 := ⟨k - 1, by simp at hk; omega⟩
      go_wp2_with fail
      refine (take_any _ p _ e HR.out).mono ?_
      rintro r0 w2 ⟨rfl, hR2, hO2⟩
      simp only [List.tail_cons, nextT] at hR2 ⊢
      have hOa := hO2.then ((Only.refl [] w2).alloc (.cells #[.int .i64 t.kind, .int .i64 t.at_, encStr t.s] 93)) [p] (by simp) (by simp)
      have HR3 := Lib.hid (hR2.more ((Only.refl [] w2).alloc (.cells #[.int .i64 t.kind, .int .i64 t.at_, encStr t.s] 93)))
      have Hg3 := Lib.hid (Hg.out.keep hOa (by simp; omega))
      have HB3 := Lib.hid (HB.out.only hOa (by simp; omega))
      have HB03 := Lib.hid (HB0.out.only hOa (by simp; omega))
      have HO3 := Lib.hid (HOr.out.then hOa [p] (by simp) (by simp))
      have hq := IsBlk.made w2 (.cells #[.int .i64 t.kind, .int .i64 t.at_, encStr t.s] 93)
      have hw2 : w.heap.size + 1 < w2.heap.size := Nat.lt_of_lt_of_le hbl hO2.size
      have Hvg : Hid (∀ k, k ∈ ownL (.slice av P.vars.length cv) ∨ k ∈ ownL (.slice al P.locks.length cl) ∨ k ∈ ownL (.slice af P.funcs.length cf) → k < w2.heap.size) := Lib.hid (fun k hk => by
        obtain ⟨xs, h3, -⟩ := Hg.out.funcs
        refine Nat.lt_of_lt_of_le ?_ hO2.size
        rcases hk with h | h | h
        · exact (World.ownsRow.lt Hg.out.vars k (mem_ownL.1 h)).2
        · exact (World.ownsRow.lt Hg.out.locks k (mem_ownL.1 h)).2
        · exact (World.ownsRow.lt h3 k (mem_ownL.1 h)).2)
      clear hR2 hO2 hOa c0 Hg HB HB0 HR HOr
      unfold tokV encStr
      unfold encStr at HR3 Hg3 HB3 HB03 HO3 hq
      go_upto_region 4 with fail
      generalize hW : w2.alloc (.cells #[.int .i64 t.kind, .int .i64 t.at_, .string ⟨t.s.toArray⟩] 93) = w3 at *
      clear hW
      have q1 := hq.cell 1
      have q2 := hq.cell 2
      have hq3 := hq.lt
      have hvg : ∀ k, k ∈ ownL (.slice av P.vars.length cv) ∨ k ∈ ownL (.slice al P.locks.length cl) ∨ k ∈ ownL (.slice af P.funcs.length cf) → k < w2.heap.size := Hvg.out
      clear Hvg
      generalize w2.heap.size = g4 at *
      have y0 := HB3.out.cell 0
      have y1 := HB3.out.cell 1
      have y2 := HB3.out.cell 2
      have f0 := HB3.out.notFrozen 0
      have f1 := HB3.out.notFrozen 1
      have f2 := HB3.out.notFrozen 2
      have hb3 := HB3.out.lt
      by_cases h1 : t.s = varW
      · have h1' : (t.s == [118, 97, 114]) = true := by rw [h1]; rfl
        have Herr := Lib.hid (fun (y : Nat × Nat) (h : nameF e r = .error y) => hX.out.trans (prog_var_err h1 h))
        have Hone := Lib.hid (fun (n : List UInt8) (r1 : List Tok) (h : nameF e r = .ok (n, r1)) => hX.out.trans (prog_var h1 h))
        clear hX h1
        generalize t.s = ss at *
        go_upto_region 7 with fail
        have HRd := Lib.hid (HR3.out.more ((Only.refl [] w3).drew))
        cases hn : nameF e r with
        | error y =>
          have HE := Lib.hid (Herr.out y hn)
          refine wp_region_stabL (P := Tryz.prog) 10 (by kernel_rfl) (by kernel_rfl) (Only []) (Only.refl _ _) (fun _ _ _ h k => h.then k [] (by simp) (by simp))
            [SP.is (.pointer (some ⟨w.heap.size + 1, 0, none⟩)),
             SP.is (.slice av P.vars.length cv),
             SP.is (.pointer (some ⟨p, 0, none⟩)),
             ⟨fun _ _ => False, fun _ _ _ h _ => h⟩,
             SP.is (.pointer (some ⟨g4, 1, none⟩)),
             SP.is (.int .i64 t.at_),
             ⟨fun _ _ => False, fun _ _ _ h _ => h⟩,
             ⟨fun _ _ => False, fun _ _ _ h _ => h⟩,
             ⟨fun _ _ => False, fun _ _ _ h _ => h⟩,
             SP.is (.pointer (some ⟨w.heap.size + 1, 0, none⟩))] ?_ ?_
          · simp only [List.take_succ_cons, List.take_zero]
            refine StepsOK.cons ?_ (StepsOK.cons ?_ (StepsOK.cons ?_ (StepsOK.cons ?_ (StepsOK.cons ?_ (StepsOK.cons ?_ (StepsOK.cons ?_ (StepsOK.cons ?_ (StepsOK.cons ?_ (StepsOK.cons ?_ StepsOK.nil)))))))))
            · intro a W L N hR hold hφ hcl hkp hd K hK
              have e3 := hold 3 (by kernel_rfl)
              clear hold hφ hcl hkp hd
              rw [if_pos (by rfl)]
              go_simp
              exact hK _ _ (Only.refl _ _) rfl
            · intro a W L N hR hold hφ hcl hkp hd K hK
              have e22 := got hφ (hd 0 (by kernel_rfl)) rfl rfl rfl
              have hld : W.cell? ⟨w.heap.size + 1, 0, none⟩ = some (.slice av P.vars.length cv) := ((((Only.refl [] w3).drew).plus hR).cell (p := ⟨w.heap.size + 1, _, none⟩) hb3 (by simp)).trans y0
              clear hold hφ hcl hkp hd
              rw [if_pos (by rfl)]
              go_simp
              exact hK _ _ (Only.refl _ _) rfl
            · intro a W L N hR hold hφ hcl hkp hd K hK
              have e0 := hold 0 (by kernel_rfl)
              clear hold hφ hcl hkp hd
              rw [if_pos (by rfl)]
              go_simp
              exact hK _ _ (Only.refl _ _) rfl
            · intro a W L N hR hold hφ hcl hkp hd K hK
              have e24 := got hφ (hd 2 (by kernel_rfl)) rfl rfl rfl
              have hdf := hcl.2.2.2.1
              clear hold hφ hcl hkp hd
              rw [if_pos (by rfl)]
              go_simp
              refine (pname_any W p r e (HRd.out.more hR)).mono ?_
              rw [hn]
              rintro r0 w5 ⟨rfl, hO5⟩
              refine ⟨hdf, ?_⟩
              rw [HE.out]
              exact ⟨rfl, HO3.out.then ((((Only.refl [] w3).drew).plus hR).then hO5 [p] (by simp) (by simp)) [p] (by simp) (by simp)⟩
            · intro a W L N hR hold hφ hcl hkp hd K hK
              have e4 := hold 4 (by kernel_rfl)
              clear hold hφ hcl hkp hd
              rw [if_pos (by rfl)]
              go_simp
              exact hK _ _ (Only.refl _ _) rfl
            · intro a W L N hR hold hφ hcl hkp hd K hK
              have e26 := got hφ (hd 4 (by kernel_rfl)) rfl rfl rfl
              have hld : W.cell? ⟨g4, 1, none⟩ = some (.int .i64 t.at_) := ((((Only.refl [] w3).drew).plus hR).cell (p := ⟨g4, _, none⟩) hq3 (by simp)).trans q1
              clear hold hφ hcl hkp hd
              rw [if_pos (by rfl)]
              go_simp
              exact hK _ _ (Only.refl _ _) rfl
            · intro a W L N hR hold hφ hcl hkp hd K hK
              obtain ⟨u, eu, pu⟩ := hφ 3 _ 25 (hd 3 (by kernel_rfl)).1 rfl rfl
              exact (pu (hd 3 (by kernel_rfl)).2).elim
            · intro a W L N hR hold hφ hcl hkp hd K hK
              obtain ⟨u, eu, pu⟩ := hφ 6 _ 28 (hd 6 (by kernel_rfl)).1 rfl rfl
              exact (pu (hd 6 (by kernel_rfl)).2).elim
            · intro a W L N hR hold hφ hcl hkp hd K hK
              obtain ⟨u, eu, pu⟩ := hφ 7 _ 29 (hd 7 (by kernel_rfl)).1 rfl rfl
              exact (pu (hd 7 (by kernel_rfl)).2).elim
            · intro a W L N hR hold hφ hcl hkp hd K hK
              have e3 := hold 3 (by kernel_rfl)
              clear hold hφ hcl hkp hd
              rw [if_pos (by rfl)]
              go_simp
              exact hK _ _ (Only.refl _ _) rfl
          · intro us W hO' hus
            exact (hus 3 _ 25 (by omega) rfl rfl).elim
        | ok q =>
          obtain ⟨n, r1⟩ := q
          have HX := Lib.hid (Hone.out n r1 hn)
          have hlt := nameF_len hn
          have Hn := Lib.hid hn
          have hac : P.vars.length ≤ 1000000 := by omega
          have hvo : ∀ k ∈ ownL (.slice av P.vars.length cv), w1.heap.size ≤ k ∧ k < w3.heap.size := fun k hk => World.ownsRow.lt Hg3.out.vars k (mem_ownL.1 hk)
          have hvp : ∀ k ∈ ownL (.slice av P.vars.length cv), p < k := fun k hk => by have := (hvo k hk).1; omega
          have hn0 : w.heap.size ∉ p :: ownL (.slice av P.vars.length cv) := fun hm => by
            rcases List.mem_cons.1 hm with h | h
            · omega
            · have := (hvo _ h).1; omega
          have hn1 : w.heap.size + 1 ∉ p :: ownL (.slice av P.vars.length cv) := fun hm => by
            rcases List.mem_cons.1 hm with h | h
            · omega
            · have := (hvo _ h).1; omega
          have hn2 : g4 ∉ p :: ownL (.slice av P.vars.length cv) := fun hm => by
            rcases List.mem_cons.1 hm with h | h
            · omega
            · have := hvg g4 (.inl h); omega
          have hs3 : w1.heap.size ≤ w3.heap.size := by omega
          clear Herr Hone hn
          refine wp_region_stabP (P := Tryz.prog) 9 (by kernel_rfl) (by kernel_rfl) (fun i => i == 3 || i == 8) (R1P p (ownL (.slice av P.vars.length cv)) 3 8) (Only (p :: ownL (.slice av P.vars.length cv))) (RkP p (ownL (.slice av P.vars.length cv)) 3 8) (Only.refl _ _) (fun k => R1P.refl k) (fun _ u v h k => h.then k.big _ (fun i hi => .inl hi) (fun i hi => .inl hi)) (fun _ _ u v hne h k => h.step k hne)
            (SP.at ([SP.is (.pointer (some ⟨w.heap.size + 1, 0, none⟩)),
             SP.is (.slice av P.vars.length cv),
             SP.is (.pointer (some ⟨p, 0, none⟩)),
             (⟨fun v W => v = .string ⟨n.toArray⟩ ∧ RdAt W p r1 e, fun _ _ _ _ h => h.elim⟩ : SP (fun _ _ : World => False)),
             SP.is (.pointer (some ⟨g4, 1, none⟩)),
             SP.is (.int .i64 t.at_),
             SP.is (.agg #[.string ⟨n.toArray⟩, .int .i64 t.at_]),
             ⟨fun v W => ∃ g, v = .slice (some ⟨g, 0, none⟩) 1 1 ∧ IsBlk W g (.cells #[.string ⟨n.toArray⟩, .int .i64 t.at_] 59) ∧ w3.heap.size ≤ g, fun _ _ _ _ h => h.elim⟩,
             ⟨fun v W => ∃ a c, v = .slice a (P.vars ++ [(⟨n, t.at_⟩ : DeclM)]).length c ∧ W.ownsRow w1.heap.size 59 2 (.slice a (P.vars ++ [(⟨n, t.at_⟩ : DeclM)]).length c) (P.vars ++ [(⟨n, t.at_⟩ : DeclM)]).length (dcells (P.vars ++ [(⟨n, t.at_⟩ : DeclM)])) ∧ ((Value.slice a (P.vars ++ [(⟨n, t.at_⟩ : DeclM)]).length c).ownBlock = (Value.slice av P.vars.length cv).ownBlock ∨ ∃ g, (Value.slice a (P.vars ++ [(⟨n, t.at_⟩ : DeclM)]).length c).ownBlock = some g ∧ w3.heap.size ≤ g), fun _ _ _ _ h => h.elim⟩] : List (SP (fun _ _ : World => False)))) (fun k i v u u' hk hi hne hneed hφ hR => ?_) ?_ ?_
          · have hc : i = 0 ∨ i = 1 ∨ i = 2 ∨ i = 3 ∨ i = 4 ∨ i = 5 ∨ i = 6 ∨ i = 7 ∨ i = 8 := by omega
            rcases hc with rfl | rfl | rfl | rfl | rfl | rfl | rfl | rfl | rfl
            · exact hφ
            · exact hφ
            · exact hφ
            · exact ⟨hφ.1, hφ.2.keep (hR.pre (Ne.symm hne)) hvp⟩
            · exact hφ
            · exact hφ
            · exact hφ
            · have hk8 : k ≠ 8 := fun e => by
                subst e
                rcases hneed with h | ⟨j, hj, hj8, hd⟩
                · cases h
                · have : j = 0 ∨ j = 1 ∨ j = 2 ∨ j = 3 ∨ j = 4 ∨ j = 5 ∨ j = 6 ∨ j = 7 := by omega
                  rcases this with rfl | rfl | rfl | rfl | rfl | rfl | rfl | rfl <;> exact Bool.noConfusion (Eq.trans hd.symm (c := false) (by kernel_rfl))
              obtain ⟨g, hg1, hg2, hg3⟩ := hφ
              exact ⟨g, hg1, hg2.only (hR.oth hk8) (by simp; omega), hg3⟩
            · obtain ⟨a, c, hg1, hg2, hg3⟩ := hφ
              exact ⟨a, c, hg1, owns_keep hg2 (hR.oth (Ne.symm hne)) (by simp; omega), hg3⟩
          · simp only [List.take_succ_cons, List.take_zero]
            refine StepsOK.cons ?_ (StepsOK.cons ?_ (StepsOK.cons ?_ (StepsOK.cons ?_ (StepsOK.cons ?_ (StepsOK.cons ?_ (StepsOK.cons ?_ (StepsOK.cons ?_ (StepsOK.cons ?_ StepsOK.nil))))))))
            · intro a W L N hR hold hφ hcl hkp hd K hK
              have e3 := hold 3 (by kernel_rfl)
              clear hold hφ hcl hkp hd
              rw [if_pos (by rfl)]
              go_simp
              exact hK _ _ (Only.refl _ _) rfl
            · intro a W L N hR hold hφ hcl hkp hd K hK
              have e22 := got hφ (hd 0 (by kernel_rfl)) rfl rfl rfl
              have hld : W.cell? ⟨w.heap.size + 1, 0, none⟩ = some (.slice av P.vars.length cv) := ((((Only.refl _ w3).drew).then hR (p :: ownL (.slice av P.vars.length cv)) (fun i hi => .inl hi) (fun i hi => .inl hi)).cell (p := ⟨w.heap.size + 1, _, none⟩) hb3 hn1).trans y0
              clear hold hφ hcl hkp hd
              rw [if_pos (by rfl)]
              go_simp
              exact hK _ _ (Only.refl _ _) rfl
            · intro a W L N hR hold hφ hcl hkp hd K hK
              have e0 := hold 0 (by kernel_rfl)
              clear hold hφ hcl hkp hd
              rw [if_pos (by rfl)]
              go_simp
              exact hK _ _ (Only.refl _ _) rfl
            · intro a W L N hR hold hφ hcl hkp hd K hK
              have e24 := got hφ (hd 2 (by kernel_rfl)) rfl rfl rfl
              have hpre := (hcl.2.2.2.2 3 hcl.2.1).call
              clear hold hφ hcl hkp hd
              rw [if_pos (by rfl)]
              go_simp
              refine (pname_any W p r e (HRd.out.keep hpre hvp)).mono ?_
              rw [Hn.out]
              rintro r0 w5 ⟨rfl, hR5, hO5⟩
              exact hK _ _ hO5 ⟨rfl, hR5⟩
            · intro a W L N hR hold hφ hcl hkp hd K hK
              have e4 := hold 4 (by kernel_rfl)
              clear hold hφ hcl hkp hd
              rw [if_pos (by rfl)]
              go_simp
              exact hK _ _ (Only.refl _ _) rfl
            · intro a W L N hR hold hφ hcl hkp hd K hK
              have e26 := got hφ (hd 4 (by kernel_rfl)) rfl rfl rfl
              have hld : W.cell? ⟨g4, 1, none⟩ = some (.int .i64 t.at_) := ((((Only.refl _ w3).drew).then hR (p :: ownL (.slice av P.vars.length cv)) (fun i hi => .inl hi) (fun i hi => .inl hi)).cell (p := ⟨g4, _, none⟩) hq3 hn2).trans q1
              clear hold hφ hcl hkp hd
              rw [if_pos (by rfl)]
              go_simp
              exact hK _ _ (Only.refl _ _) rfl
            · intro a W L N hR hold hφ hcl hkp hd K hK
              have e27 := got hφ (hd 5 (by kernel_rfl)) rfl rfl rfl
              obtain ⟨u25, e25, p25, s25⟩ := gotP hφ (hd 3 (by kernel_rfl)) rfl rfl rfl
              have p25 : u25 = .string ⟨n.toArray⟩ := p25
              subst p25
              clear hold hφ hcl hkp hd
              rw [if_pos (by rfl)]
              go_simp
              exact hK _ _ (Only.refl _ _) rfl
            · intro a W L N hR hold hφ hcl hkp hd K hK
              have e28 := got hφ (hd 6 (by kernel_rfl)) rfl rfl rfl
              have hsz := hR.size
              clear hold hφ hcl hkp hd
              rw [if_pos (by rfl)]
              go_simp
              exact hK _ _ ((Only.refl _ _).alloc _) ⟨_, rfl, IsBlk.made W _, hsz⟩
            · intro a W L N hR hold hφ hcl hkp hd K hK
              have e23 := got hφ (hd 1 (by kernel_rfl)) rfl rfl rfl
              obtain ⟨u29, e29, g29, p29, b29, s29⟩ := gotP hφ (hd 7 (by kernel_rfl)) rfl rfl rfl
              have p29 : u29 = .slice (some ⟨g29, 0, none⟩) 1 1 := p29
              subst p29
              have hpr8 := (hcl.2.2.2.2 8 hcl.2.1).app (by decide)
              have hpre := (((Only.refl _ w3).drew).then hR (p :: ownL (.slice av P.vars.length cv)) (fun i hi => .inl hi) (fun i hi => .inl hi))
              have hsz := hpre.size
              clear hold hφ hcl hkp hd
              rw [if_pos (by rfl)]
              refine wp_append_d _ _ rfl w1.heap.size (.slice av P.vars.length cv) P.vars (by simp [Act.eval, e23]) (owns_keep Hg3.out.vars (((Only.refl [] w3).drew).then hpr8 [p] (by simp) (by simp)) (by simp; omega)) g29 1 ⟨n, t.at_⟩ (by simp [Act.eval, e29]) (b29.cell 0) (b29.cell 1) hac (Nat.le_trans hs3 hsz) ?_
              intro a7 c7 w7 h7 hO7 hb7
              exact hK _ _ hO7 ⟨a7, c7, rfl, h7, hb7.imp id (fun h => ⟨_, h, hsz⟩)⟩
          · intro us W hO' hus
            obtain ⟨p25, hRW⟩ := hus 3 _ 25 (by omega) rfl rfl rfl
            obtain ⟨a8, c8, p30, h8, hb8⟩ := hus 8 _ 30 (by omega) rfl rfl rfl
            clear hus
            simp only [List.take_succ_cons, List.take_zero, List.drop_succ_cons, List.drop_zero, fillAct, Act.put, List.setIfInBounds_toArray, List.set_cons_zero, List.set_cons_succ, Nat.reduceAdd, p30]
            clear p25 p30
            have hOW := ((Only.refl _ w3).drew).then hO' (p :: ownL (.slice av P.vars.length cv)) (fun i hi => .inl hi) (fun i hi => .inl hi)
            have hGW := Hg3.out.var2 (by omega) h8 hOW hb8
            have hBW := HB3.out.only hOW hn1
            have hB0W := HB03.out.only hOW hn0
            have hOwp : Only [p] w W := HO3.out.then hOW [p] (by simp) (fun i hi => by
              rcases List.mem_cons.1 hi with h | h
              · exact .inl (by simp [h])
              · exact .inr (by have := (hvo i h).1; omega))
            have o9 : Only [w.heap.size + 1] W (W.setCell ⟨w.heap.size + 1, 0, none⟩ (.slice a8 (P.vars ++ [(⟨n, t.at_⟩ : DeclM)]).length c8)) := (Only.refl _ _).setCell (.inl (by simp)) _
            have Hfin := Lib.hid (And.intro (hGW.keep o9 (by simp; omega)) (And.intro (IsBlk.put hBW 0 (.slice a8 (P.vars ++ [(⟨n, t.at_⟩ : DeclM)]).length c8)) (And.intro (hB0W.only o9 (by simp)) (And.intro (hRW.keep o9 (by simp; omega)) (And.intro (hOwp.then o9 [p] (by simp) (by simp)) (Nat.le_trans hs3 (Nat.le_trans hOW.size o9.size)))))))
            simp only [List.length_append, List.length_cons, List.length_nil, Nat.zero_add, List.setIfInBounds_toArray, List.set_cons_zero] at Hfin
            have k9 := hBW.cell 0
            have f9 := hBW.notFrozen 0
            have hb9 := hBW.lt
            clear hO' hOW hGW hBW hB0W hOwp o9 h8 hb8 HR3 Hg3 HB3 HB03 HO3 HRd hRW
            clear y0 y1 y2 f0 f1 f2 q1 q2
            go_wp2
            go_roundw
            case rel =>
              obtain ⟨x1, x2, x3, x4, x5, x6⟩ := Hfin.out
              exact ⟨{ P with vars := P.vars ++ [⟨n, t.at_⟩] }, _, _, _, fp, r1, k, x1, x2, x3, x4, x5, x6, by simp at hk; omega, by simp at hal ⊢; omega, HX⟩
            case measure =>
              obtain ⟨x1, x2, x3, x4, x5, x6⟩ := Hfin.out
              rw [x4.rd, hrd.out]
              simp; omega
      by_cases h2 : t.s = lockW
      · have h1' : (t.s == [118, 97, 114]) = false := by simpa [varW] using h1
        have h2' : (t.s == [108, 111, 99, 107]) = true := by rw [h2]; rfl
        have Herr := Lib.hid (fun (y : Nat × Nat) (h : nameF e r = .error y) => hX.out.trans (prog_lock_err h1 h2 h))
        have Hone := Lib.hid (fun (n : List UInt8) (r1 : List Tok) (h : nameF e r = .ok (n, r1)) => hX.out.trans (prog_lock h1 h2 h))
        clear hX h1 h2
        generalize t.s = ss at *
        go_upto_region 9 with fail
        have HRd := Lib.hid (HR3.out.more ((Only.refl [] w3).drew))
        cases hn : nameF e r with
        | error y =>
          have HE := Lib.hid (Herr.out y hn)
          refine wp_region_stabL (P := Tryz.prog) 10 (by kernel_rfl) (by kernel_rfl) (Only []) (Only.refl _ _) (fun _ _ _ h k => h.then k [] (by simp) (by simp))
            [SP.is (.pointer (some ⟨w.heap.size + 1, 1, none⟩)),
             SP.is (.slice al P.locks.length cl),
             SP.is (.pointer (some ⟨p, 0, none⟩)),
             ⟨fun _ _ => False, fun _ _ _ h _ => h⟩,
             SP.is (.pointer (some ⟨g4, 1, none⟩)),
             SP.is (.int .i64 t.at_),
             ⟨fun _ _ => False, fun _ _ _ h _ => h⟩,
             ⟨fun _ _ => False, fun _ _ _ h _ => h⟩,
             ⟨fun _ _ => False, fun _ _ _ h _ => h⟩,
             SP.is (.pointer (some ⟨w.heap.size + 1, 1, none⟩))] ?_ ?_
          · simp only [List.take_succ_cons, List.take_zero]
            refine StepsOK.cons ?_ (StepsOK.cons ?_ (StepsOK.cons ?_ (StepsOK.cons ?_ (StepsOK.cons ?_ (StepsOK.cons ?_ (StepsOK.cons ?_ (StepsOK.cons ?_ (StepsOK.cons ?_ (StepsOK.cons ?_ StepsOK.nil)))))))))
            · intro a W L N hR hold hφ hcl hkp hd K hK
              have e3 := hold 3 (by kernel_rfl)
              clear hold hφ hcl hkp hd
              rw [if_pos (by rfl)]
              go_simp
              exact hK _ _ (Only.refl _ _) rfl
            · intro a W L N hR hold hφ hcl hkp hd K hK
              have e34 := got hφ (hd 0 (by kernel_rfl)) rfl rfl rfl
              have hld : W.cell? ⟨w.heap.size + 1, 1, none⟩ = some (.slice al P.locks.length cl) := ((((Only.refl [] w3).drew).plus hR).cell (p := ⟨w.heap.size + 1, _, none⟩) hb3 (by simp)).trans y1
              clear hold hφ hcl hkp hd
              rw [if_pos (by rfl)]
              go_simp
              exact hK _ _ (Only.refl _ _) rfl
            · intro a W L N hR hold hφ hcl hkp hd K hK
              have e0 := hold 0 (by kernel_rfl)
              clear hold hφ hcl hkp hd
              rw [if_pos (by rfl)]
              go_simp
              exact hK _ _ (Only.refl _ _) rfl
            · intro a W L N hR hold hφ hcl hkp hd K hK
              have e36 := got hφ (hd 2 (by kernel_rfl)) rfl rfl rfl
              have hdf := hcl.2.2.2.1
              clear hold hφ hcl hkp hd
              rw [if_pos (by rfl)]
              go_simp
              refine (pname_any W p r e (HRd.out.more hR)).mono ?_
              rw [hn]
              rintro r0 w5 ⟨rfl, hO5⟩
              refine ⟨hdf, ?_⟩
              rw [HE.out]
              exact ⟨rfl, HO3.out.then ((((Only.refl [] w3).drew).plus hR).then hO5 [p] (by simp) (by simp)) [p] (by simp) (by simp)⟩
            · intro a W L N hR hold hφ hcl hkp hd K hK
              have e4 := hold 4 (by kernel_rfl)
              clear hold hφ hcl hkp hd
              rw [if_pos (by rfl)]
              go_simp
              exact hK _ _ (Only.refl _ _) rfl
            · intro a W L N hR hold hφ hcl hkp hd K hK
              have e38 := got hφ (hd 4 (by kernel_rfl)) rfl rfl rfl
              have hld : W.cell? ⟨g4, 1, none⟩ = some (.int .i64 t.at_) := ((((Only.refl [] w3).drew).plus hR).cell (p := ⟨g4, _, none⟩) hq3 (by simp)).trans q1
              clear hold hφ hcl hkp hd
              rw [if_pos (by rfl)]
              go_simp
              exact hK _ _ (Only.refl _ _) rfl
            · intro a W L N hR hold hφ hcl hkp hd K hK
              obtain ⟨u, eu, pu⟩ := hφ 3 _ 37 (hd 3 (by kernel_rfl)).1 rfl rfl
              exact (pu (hd 3 (by kernel_rfl)).2).elim
            · intro a W L N hR hold hφ hcl hkp hd K hK
              obtain ⟨u, eu, pu⟩ := hφ 6 _ 40 (hd 6 (by kernel_rfl)).1 rfl rfl
              exact (pu (hd 6 (by kernel_rfl)).2).elim
            · intro a W L N hR hold hφ hcl hkp hd K hK
              obtain ⟨u, eu, pu⟩ := hφ 7 _ 41 (hd 7 (by kernel_rfl)).1 rfl rfl
              exact (pu (hd 7 (by kernel_rfl)).2).elim
            · intro a W L N hR hold hφ hcl hkp hd K hK
              have e3 := hold 3 (by kernel_rfl)
              clear hold hφ hcl hkp hd
              rw [if_pos (by rfl)]
              go_simp
              exact hK _ _ (Only.refl _ _) rfl
          · intro us W hO' hus
            exact (hus 3 _ 37 (by omega) rfl rfl).elim
        | ok q =>
          obtain ⟨n, r1⟩ := q
          have HX := Lib.hid (Hone.out n r1 hn)
          have hlt := nameF_len hn
          have Hn := Lib.hid hn
          have hac : P.locks.length ≤ 1000000 := by omega
          have hvo : ∀ k ∈ ownL (.slice al P.locks.length cl), w1.heap.size ≤ k ∧ k < w3.heap.size := fun k hk => World.ownsRow.lt Hg3.out.locks k (mem_ownL.1 hk)
          have hvp : ∀ k ∈ ownL (.slice al P.locks.length cl), p < k := fun k hk => by have := (hvo k hk).1; omega
          have hn0 : w.heap.size ∉ p :: ownL (.slice al P.locks.length cl) := fun hm => by
            rcases List.mem_cons.1 hm with h | h
            · omega
            · have := (hvo _ h).1; omega
          have hn1 : w.heap.size + 1 ∉ p :: ownL (.slice al P.locks.length cl) := fun hm => by
            rcases List.mem_cons.1 hm with h | h
            · omega
            · have := (hvo _ h).1; omega
          have hn2 : g4 ∉ p :: ownL (.slice al P.locks.length cl) := fun hm => by
            rcases List.mem_cons.1 hm with h | h
            · omega
            · have := hvg g4 (.inr (.inl h)); omega
          have hs3 : w1.heap.size ≤ w3.heap.size := by omega
          clear Herr Hone hn
          refine wp_region_stabP (P := Tryz.prog) 9 (by kernel_rfl) (by kernel_rfl) (fun i => i == 3 || i == 8) (R1P p (ownL (.slice al P.locks.length cl)) 3 8) (Only (p :: ownL (.slice al P.locks.length cl))) (RkP p (ownL (.slice al P.locks.length cl)) 3 8) (Only.refl _ _) (fun k => R1P.refl k) (fun _ u v h k => h.then k.big _ (fun i hi => .inl hi) (fun i hi => .inl hi)) (fun _ _ u v hne h k => h.step k hne)
            (SP.at ([SP.is (.pointer (some ⟨w.heap.size + 1, 1, none⟩)),
             SP.is (.slice al P.locks.length cl),
             SP.is (.pointer (some ⟨p, 0, none⟩)),
             (⟨fun v W => v = .string ⟨n.toArray⟩ ∧ RdAt W p r1 e, fun _ _ _ _ h => h.elim⟩ : SP (fun _ _ : World => False)),
             SP.is (.pointer (some ⟨g4, 1, none⟩)),
             SP.is (.int .i64 t.at_),
             SP.is (.agg #[.string ⟨n.toArray⟩, .int .i64 t.at_]),
             ⟨fun v W => ∃ g, v = .slice (some ⟨g, 0, none⟩) 1 1 ∧ IsBlk W g (.cells #[.string ⟨n.toArray⟩, .int .i64 t.at_] 59) ∧ w3.heap.size ≤ g, fun _ _ _ _ h => h.elim⟩,
             ⟨fun v W => ∃ a c, v = .slice a (P.locks ++ [(⟨n, t.at_⟩ : DeclM)]).length c ∧ W.ownsRow w1.heap.size 59 2 (.slice a (P.locks ++ [(⟨n, t.at_⟩ : DeclM)]).length c) (P.locks ++ [(⟨n, t.at_⟩ : DeclM)]).length (dcells (P.locks ++ [(⟨n, t.at_⟩ : DeclM)])) ∧ ((Value.slice a (P.locks ++ [(⟨n, t.at_⟩ : DeclM)]).length c).ownBlock = (Value.slice al P.locks.length cl).ownBlock ∨ ∃ g, (Value.slice a (P.locks ++ [(⟨n, t.at_⟩ : DeclM)]).length c).ownBlock = some g ∧ w3.heap.size ≤ g), fun _ _ _ _ h => h.elim⟩] : List (SP (fun _ _ : World => False)))) (fun k i v u u' hk hi hne hneed hφ hR => ?_) ?_ ?_
          · have hc : i = 0 ∨ i = 1 ∨ i = 2 ∨ i = 3 ∨ i = 4 ∨ i = 5 ∨ i = 6 ∨ i = 7 ∨ i = 8 := by omega
            rcases hc with rfl | rfl | rfl | rfl | rfl | rfl | rfl | rfl | rfl
            · exact hφ
            · exact hφ
            · exact hφ
            · exact ⟨hφ.1, hφ.2.keep (hR.pre (Ne.symm hne)) hvp⟩
            · exact hφ
            · exact hφ
            · exact hφ
            · have hk8 : k ≠ 8 := fun e => by
                subst e
                rcases hneed with h | ⟨j, hj, hj8, hd⟩
                · cases h
                · have : j = 0 ∨ j = 1 ∨ j = 2 ∨ j = 3 ∨ j = 4 ∨ j = 5 ∨ j = 6 ∨ j = 7 := by omega
                  rcases this with rfl | rfl | rfl | rfl | rfl | rfl | rfl | rfl <;> exact Bool.noConfusion (Eq.trans hd.symm (c := false) (by kernel_rfl))
              obtain ⟨g, hg1, hg2, hg3⟩ := hφ
              exact ⟨g, hg1, hg2.only (hR.oth hk8) (by simp; omega), hg3⟩
            · obtain ⟨a, c, hg1, hg2, hg3⟩ := hφ
              exact ⟨a, c, hg1, owns_keep hg2 (hR.oth (Ne.symm hne)) (by simp; omega), hg3⟩
          · simp only [List.take_succ_cons, List.take_zero]
            refine StepsOK.cons ?_ (StepsOK.cons ?_ (StepsOK.cons ?_ (StepsOK.cons ?_ (StepsOK.cons ?_ (StepsOK.cons ?_ (StepsOK.cons ?_ (StepsOK.cons ?_ (StepsOK.cons ?_ StepsOK.nil))))))))
            · intro a W L N hR hold hφ hcl hkp hd K hK
              have e3 := hold 3 (by kernel_rfl)
              clear hold hφ hcl hkp hd
              rw [if_pos (by rfl)]
              go_simp
              exact hK _ _ (Only.refl _ _) rfl
            · intro a W L N hR hold hφ hcl hkp hd K hK
              have e34 := got hφ (hd 0 (by kernel_rfl)) rfl rfl rfl
              have hld : W.cell? ⟨w.heap.size + 1, 1, none⟩ = some (.slice al P.locks.length cl) := ((((Only.refl _ w3).drew).then hR (p :: ownL (.slice al P.locks.length cl)) (fun i hi => .inl hi) (fun i hi => .inl hi)).cell (p := ⟨w.heap.size + 1, _, none⟩) hb3 hn1).trans y1
              clear hold hφ hcl hkp hd
              rw [if_pos (by rfl)]
              go_simp
              exact hK _ _ (Only.refl _ _) rfl
            · intro a W L N hR hold hφ hcl hkp hd K hK
              have e0 := hold 0 (by kernel_rfl)
              clear hold hφ hcl hkp hd
              rw [if_pos (by rfl)]
              go_simp
              exact hK _ _ (Only.refl _ _) rfl
            · intro a W L N hR hold hφ hcl hkp hd K hK
              have e36 := got hφ (hd 2 (by kernel_rfl)) rfl rfl rfl
              have hpre := (hcl.2.2.2.2 3 hcl.2.1).call
              clear hold hφ hcl hkp hd
              rw [if_pos (by rfl)]
              go_simp
              refine (pname_any W p r e (HRd.out.keep hpre hvp)).mono ?_
              rw [Hn.out]
              rintro r0 w5 ⟨rfl, hR5, hO5⟩
              exact hK _ _ hO5 ⟨rfl, hR5⟩
            · intro a W L N hR hold hφ hcl hkp hd K hK
              have e4 := hold 4 (by kernel_rfl)
              clear hold hφ hcl hkp hd
              rw [if_pos (by rfl)]
              go_simp
              exact hK _ _ (Only.refl _ _) rfl
            · intro a W L N hR hold hφ hcl hkp hd K hK
              have e38 := got hφ (hd 4 (by kernel_rfl)) rfl rfl rfl
              have hld : W.cell? ⟨g4, 1, none⟩ = some (.int .i64 t.at_) := ((((Only.refl _ w3).drew).then hR (p :: ownL (.slice al P.locks.length cl)) (fun i hi => .inl hi) (fun i hi => .inl hi)).cell (p := ⟨g4, _, none⟩) hq3 hn2).trans q1
              clear hold hφ hcl hkp hd
              rw [if_pos (by rfl)]
              go_simp
              exact hK _ _ (Only.refl _ _) rfl
            · intro a W L N hR hold hφ hcl hkp hd K hK
              have e39 := got hφ (hd 5 (by kernel_rfl)) rfl rfl rfl
              obtain ⟨u37, e37, p37, s37⟩ := gotP hφ (hd 3 (by kernel_rfl)) rfl rfl rfl
              have p37 : u37 = .string ⟨n.toArray⟩ := p37
              subst p37
              clear hold hφ hcl hkp hd
              rw [if_pos (by rfl)]
              go_simp
              exact hK _ _ (Only.refl _ _) rfl
            · intro a W L N hR hold hφ hcl hkp hd K hK
              have e40 := got hφ (hd 6 (by kernel_rfl)) rfl rfl rfl
              have hsz := hR.size
              clear hold hφ hcl hkp hd
              rw [if_pos (by rfl)]
              go_simp
              exact hK _ _ ((Only.refl _ _).alloc _) ⟨_, rfl, IsBlk.made W _, hsz⟩
            · intro a W L N hR hold hφ hcl hkp hd K hK
              have e35 := got hφ (hd 1 (by kernel_rfl)) rfl rfl rfl
              obtain ⟨u41, e41, g29, p41, b29, s41⟩ := gotP hφ (hd 7 (by kernel_rfl)) rfl rfl rfl
              have p41 : u41 = .slice (some ⟨g29, 0, none⟩) 1 1 := p41
              subst p41
              have hpr8 := (hcl.2.2.2.2 8 hcl.2.1).app (by decide)
              have hpre := (((Only.refl _ w3).drew).then hR (p :: ownL (.slice al P.locks.length cl)) (fun i hi => .inl hi) (fun i hi => .inl hi))
              have hsz := hpre.size
              clear hold hφ hcl hkp hd
              rw [if_pos (by rfl)]
              refine wp_append_d _ _ rfl w1.heap.size (.slice al P.locks.length cl) P.locks (by simp [Act.eval, e35]) (owns_keep Hg3.out.locks (((Only.refl [] w3).drew).then hpr8 [p] (by simp) (by simp)) (by simp; omega)) g29 1 ⟨n, t.at_⟩ (by simp [Act.eval, e41]) (b29.cell 0) (b29.cell 1) hac (Nat.le_trans hs3 hsz) ?_
              intro a7 c7 w7 h7 hO7 hb7
              exact hK _ _ hO7 ⟨a7, c7, rfl, h7, hb7.imp id (fun h => ⟨_, h, hsz⟩)⟩
          · intro us W hO' hus
            obtain ⟨p25, hRW⟩ := hus 3 _ 37 (by omega) rfl rfl rfl
            obtain ⟨a8, c8, p30, h8, hb8⟩ := hus 8 _ 42 (by omega) rfl rfl rfl
            clear hus
            simp only [List.take_succ_cons, List.take_zero, List.drop_succ_cons, List.drop_zero, fillAct, Act.put, List.setIfInBounds_toArray, List.set_cons_zero, List.set_cons_succ, Nat.reduceAdd, p30]
            clear p25 p30
            have hOW := ((Only.refl _ w3).drew).then hO' (p :: ownL (.slice al P.locks.length cl)) (fun i hi => .inl hi) (fun i hi => .inl hi)
            have hGW := Hg3.out.lock2 (by omega) h8 hOW hb8
            have hBW := HB3.out.only hOW hn1
            have hB0W := HB03.out.only hOW hn0
            have hOwp : Only [p] w W := HO3.out.then hOW [p] (by simp) (fun i hi => by
              rcases List.mem_cons.1 hi with h | h
              · exact .inl (by simp [h])
              · exact .inr (by have := (hvo i h).1; omega))
            have o9 : Only [w.heap.size + 1] W (W.setCell ⟨w.heap.size + 1, 1, none⟩ (.slice a8 (P.locks ++ [(⟨n, t.at_⟩ : DeclM)]).length c8)) := (Only.refl _ _).setCell (.inl (by simp)) _
            have Hfin := Lib.hid (And.intro (hGW.keep o9 (by simp; omega)) (And.intro (IsBlk.put hBW 1 (.slice a8 (P.locks ++ [(⟨n, t.at_⟩ : DeclM)]).length c8)) (And.intro (hB0W.only o9 (by simp)) (And.intro (hRW.keep o9 (by simp; omega)) (And.intro (hOwp.then o9 [p] (by simp) (by simp)) (Nat.le_trans hs3 (Nat.le_trans hOW.size o9.size)))))))
            simp only [List.length_append, List.length_cons, List.length_nil, Nat.zero_add, List.setIfInBounds_toArray, List.set_cons_zero, List.set_cons_succ] at Hfin
            have k9 := hBW.cell 1
            have f9 := hBW.notFrozen 1
            have hb9 := hBW.lt
            clear hO' hOW hGW hBW hB0W hOwp o9 h8 hb8 HR3 Hg3 HB3 HB03 HO3 HRd hRW
            clear y0 y1 y2 f0 f1 f2 q1 q2
            go_wp2
            go_roundw
            case rel =>
              obtain ⟨x1, x2, x3, x4, x5, x6⟩ := Hfin.out
              exact ⟨{ P with locks := P.locks ++ [⟨n, t.at_⟩] }, _, _, _, fp, r1, k, x1, x2, x3, x4, x5, x6, by simp at hk; omega, by simp at hal ⊢; omega, HX⟩
            case measure =>
              obtain ⟨x1, x2, x3, x4, x5, x6⟩ := Hfin.out
              rw [x4.rd, hrd.out]
              simp; omega
      by_cases h3 : t.s = funcW
      · have h1' : (t.s == [118, 97, 114]) = false := by simpa [varW] using h1
        have h2' : (t.s == [108, 111, 99, 107]) = false := by simpa [lockW] using h2
        have h3' : (t.s == [102, 117, 110, 99]) = true := by rw [h3]; rfl
        have Herr := Lib.hid (fun (y : Nat × Nat) (h : nameF e r = .error y) => hX.out.trans (prog_func_err h1 h2 h3 h))
        have Hbad0 := Lib.hid (fun (n : List UInt8) (r1 : List Tok) (y : Nat × Nat) (h : nameF e r = .ok (n, r1)) (hb : blockF (2 * r1.length + 1) 0 e r1 = .error y) => hX.out.trans (prog_func_bad h1 h2 h3 h hb))
        have Hone0 := Lib.hid (fun (n : List UInt8) (r1 : List Tok) (b : Blk) (r2 : List Tok) (h : nameF e r = .ok (n, r1)) (hb : blockF (2 * r1.length + 1) 0 e r1 = .ok (b, r2)) => hX.out.trans (prog_func h1 h2 h3 h hb))
        clear hX h1 h2 h3
        generalize t.s = ss at *
        go_upto_region 11 with fail
        go_wp2_with fail
        refine (pname_any _ p r e HR3.out).mono ?_
        cases hn : nameF e r with
        | error y =>
          rintro r0 w5 ⟨rfl, hO5⟩
          refine ⟨rfl, ?_⟩
          rw [Herr.out y hn]
          exact ⟨rfl, HO3.out.then hO5 [p] (by simp) (by simp)⟩
        | ok q =>
          obtain ⟨nm, r1⟩ := q
          rintro r0 w5 ⟨rfl, hR5, hO5⟩
          have hlt1 := nameF_len hn
          have Hg5 := Lib.hid (Hg3.out.keep hO5 (by simp; omega))
          have HB5 := Lib.hid (HB3.out.only hO5 (by simp; omega))
          have HB05 := Lib.hid (HB03.out.only hO5 (by simp; omega))
          have HR5 := Lib.hid hR5
          have HO5 := Lib.hid (HO3.out.then hO5 [p] (by simp) (by simp))
          have hq5 := hq.only hO5 (by simp; omega)
          have hs5 := hO5.size
          have Hbad := Lib.hid (fun (y : Nat × Nat) (h : blockF (2 * r1.length + 1) 0 e r1 = .error y) => Hbad0.out nm r1 y hn h)
          have Hone := Lib.hid (fun (b : Blk) (r2 : List Tok) (h : blockF (2 * r1.length + 1) 0 e r1 = .ok (b, r2)) => Hone0.out nm r1 b r2 hn h)
          clear hR5 hO5 Hg3 HB3 HB03 HR3 HO3 hq Herr Hbad0 Hone0 hn y0 y1 y2 f0 f1 f2 q1 q2 hb3
          have q1 := hq5.cell 1
          have hb3 := HB5.out.lt
          have y2 := HB5.out.cell 2
          have f2 := HB5.out.notFrozen 2
          have hvg : ∀ k, k ∈ ownL (.slice av P.vars.length cv) ∨ k ∈ ownL (.slice al P.locks.length cl) ∨ k ∈ ownL (.slice af P.funcs.length cf) → k < g4 := hvg
          have hq3 : g4 < w5.heap.size := by omega
          have hs3 : w1.heap.size ≤ w5.heap.size := by omega
          unfold encStr
          go_upto_region 12 with fail
          generalize hW5 : w5 = w3 at *
          clear hW5
          obtain ⟨xs, hxs, hxe⟩ := Hg5.out.funcs
          have Hg3 := Hg5
          have HB3 := HB5
          have HB03 := HB05
          have HR3 := HR5
          have HO3 := HO5
          have HRd := Lib.hid (HR3.out.more ((Only.refl [] w3).drew))
          cases hbl : blockF (2 * r1.length + 1) 0 e r1 with
          | error y =>
            have HE := Lib.hid (Hbad.out y hbl)
            refine wp_region_stabL (P := Tryz.prog) 11 (by kernel_rfl) (by kernel_rfl) (Only []) (Only.refl _ _) (fun _ _ _ h k => h.then k [] (by simp) (by simp))
              [SP.is (.pointer (some ⟨w.heap.size + 1, 2, none⟩)),
               SP.is (.slice af P.funcs.length cf),
               SP.is (.string ⟨nm.toArray⟩),
               SP.is (.pointer (some ⟨g4, 1, none⟩)),
               SP.is (.int .i64 t.at_),
               SP.is (.pointer (some ⟨p, 0, none⟩)),
               ⟨fun _ _ => False, fun _ _ _ h _ => h⟩,
               ⟨fun _ _ => False, fun _ _ _ h _ => h⟩,
               ⟨fun _ _ => False, fun _ _ _ h _ => h⟩,
               ⟨fun _ _ => False, fun _ _ _ h _ => h⟩,
               SP.is (.pointer (some ⟨w.heap.size + 1, 2, none⟩))] ?_ ?_
            · simp only [List.take_succ_cons, List.take_zero]
              refine StepsOK.cons ?_ (StepsOK.cons ?_ (StepsOK.cons ?_ (StepsOK.cons ?_ (StepsOK.cons ?_ (StepsOK.cons ?_ (StepsOK.cons ?_ (StepsOK.cons ?_ (StepsOK.cons ?_ (StepsOK.cons ?_ (StepsOK.cons ?_ StepsOK.nil))))))))))
              · intro a W L N hR hold hφ hcl hkp hd K hK
                have e3 := hold 3 (by kernel_rfl)
                clear hold hφ hcl hkp hd
                rw [if_pos (by rfl)]
                go_simp
                exact hK _ _ (Only.refl _ _) rfl
              · intro a W L N hR hold hφ hcl hkp hd K hK
                have e48 := got hφ (hd 0 (by kernel_rfl)) rfl rfl rfl
                have hld : W.cell? ⟨w.heap.size + 1, 2, none⟩ = some (.slice af P.funcs.length cf) := ((((Only.refl [] w3).drew).plus hR).cell (p := ⟨w.heap.size + 1, _, none⟩) hb3 (by simp)).trans y2
                clear hold hφ hcl hkp hd
                rw [if_pos (by rfl)]
                go_simp
                exact hK _ _ (Only.refl _ _) rfl
              · intro a W L N hR hold hφ hcl hkp hd K hK
                have e5 := hold 5 (by kernel_rfl)
                clear hold hφ hcl hkp hd
                rw [if_pos (by rfl)]
                go_simp
                exact hK _ _ (Only.refl _ _) rfl
              · intro a W L N hR hold hφ hcl hkp hd K hK
                have e4 := hold 4 (by kernel_rfl)
                clear hold hφ hcl hkp hd
                rw [if_pos (by rfl)]
                go_simp
                exact hK _ _ (Only.refl _ _) rfl
              · intro a W L N hR hold hφ hcl hkp hd K hK
                have e51 := got hφ (hd 3 (by kernel_rfl)) rfl rfl rfl
                have hld : W.cell? ⟨g4, 1, none⟩ = some (.int .i64 t.at_) := ((((Only.refl [] w3).drew).plus hR).cell (p := ⟨g4, _, none⟩) hq3 (by simp)).trans q1
                clear hold hφ hcl hkp hd
                rw [if_pos (by rfl)]
                go_simp
                exact hK _ _ (Only.refl _ _) rfl
              · intro a W L N hR hold hφ hcl hkp hd K hK
                have e0 := hold 0 (by kernel_rfl)
                clear hold hφ hcl hkp hd
                rw [if_pos (by rfl)]
                go_simp
                exact hK _ _ (Only.refl _ _) rfl
              · intro a W L N hR hold hφ hcl hkp hd K hK
                have e53 := got hφ (hd 5 (by kernel_rfl)) rfl rfl rfl
                have hdf := hcl.2.2.2.1
                clear hold hφ hcl hkp hd
                rw [if_pos (by rfl)]
                go_simp
                refine (pblock_any _ W p e 0 r1 (HRd.out.more hR) (Nat.le_refl _) (by omega)).mono ?_
                rw [hbl]
                rintro r0 w5 ⟨rfl, hO5⟩
                refine ⟨hdf, ?_⟩
                rw [HE.out]
                exact ⟨rfl, HO3.out.then ((((Only.refl [] w3).drew).plus hR).then hO5 [p] (by simp) (by simp)) [p] (by simp) (by simp)⟩
              · intro a W L N hR hold hφ hcl hkp hd K hK
                obtain ⟨u, eu, pu⟩ := hφ 6 _ 54 (hd 6 (by kernel_rfl)).1 rfl rfl
                exact (pu (hd 6 (by kernel_rfl)).2).elim
              · intro a W L N hR hold hφ hcl hkp hd K hK
                obtain ⟨u, eu, pu⟩ := hφ 7 _ 55 (hd 7 (by kernel_rfl)).1 rfl rfl
                exact (pu (hd 7 (by kernel_rfl)).2).elim
              · intro a W L N hR hold hφ hcl hkp hd K hK
                obtain ⟨u, eu, pu⟩ := hφ 8 _ 56 (hd 8 (by kernel_rfl)).1 rfl rfl
                exact (pu (hd 8 (by kernel_rfl)).2).elim
              · intro a W L N hR hold hφ hcl hkp hd K hK
                have e3 := hold 3 (by kernel_rfl)
                clear hold hφ hcl hkp hd
                rw [if_pos (by rfl)]
                go_simp
                exact hK _ _ (Only.refl _ _) rfl
            · intro us W hO' hus
              exact (hus 6 _ 54 (by omega) rfl rfl).elim
          | ok q =>
            obtain ⟨b, r2⟩ := q
            have HX := Lib.hid (Hone.out b r2 hbl)
            have hlt := parse_lenb hbl
            have Hb := Lib.hid hbl
            have hac : P.funcs.length ≤ 1000000 := by omega
            have hvo : ∀ k ∈ ownL (.slice af P.funcs.length cf), w1.heap.size ≤ k ∧ k < w3.heap.size := fun k hk => World.ownsRow.lt hxs k (mem_ownL.1 hk)
            have hvp : ∀ k ∈ ownL (.slice af P.funcs.length cf), p < k := fun k hk => by have := (hvo k hk).1; omega
            have hn0 : w.heap.size ∉ p :: ownL (.slice af P.funcs.length cf) := fun hm => by
              rcases List.mem_cons.1 hm with h | h
              · omega
              · have := (hvo _ h).1; omega
            have hn1 : w.heap.size + 1 ∉ p :: ownL (.slice af P.funcs.length cf) := fun hm => by
              rcases List.mem_cons.1 hm with h | h
              · omega
              · have := (hvo _ h).1; omega
            have hn2 : g4 ∉ p :: ownL (.slice af P.funcs.length cf) := fun hm => by
              rcases List.mem_cons.1 hm with h | h
              · omega
              · have := hvg g4 (.inr (.inr h)); omega
            clear Hbad Hone hbl
            refine wp_region_stabP (P := Tryz.prog) 10 (by kernel_rfl) (by kernel_rfl) (fun i => i == 6 || i == 9) (R1P p (ownL (.slice af P.funcs.length cf)) 6 9) (Only (p :: ownL (.slice af P.funcs.length cf))) (RkP p (ownL (.slice af P.funcs.length cf)) 6 9) (Only.refl _ _) (fun k => R1P.refl k) (fun _ u v h k => h.then k.big _ (fun i hi => .inl hi) (fun i hi => .inl hi)) (fun _ _ u v hne h k => h.step k hne)
              (SP.at ([SP.is (.pointer (some ⟨w.heap.size + 1, 2, none⟩)),
               SP.is (.slice af P.funcs.length cf),
               SP.is (.string ⟨nm.toArray⟩),
               SP.is (.pointer (some ⟨g4, 1, none⟩)),
               SP.is (.int .i64 t.at_),
               SP.is (.pointer (some ⟨p, 0, none⟩)),
               ⟨fun v W => ∃ a c fa, v = .slice a b.len c ∧ BlkAt W (.slice a b.len c) b fa ∧ NewB w3 W fa ∧ RdAt W p r2 e, fun _ _ _ _ h => h.elim⟩,
               ⟨fun v W => ∃ a c fa, v = .agg #[.string ⟨nm.toArray⟩, .int .i64 t.at_, .slice a b.len c] ∧ BlkAt W (.slice a b.len c) b fa ∧ NewB w3 W fa, fun _ _ _ _ h => h.elim⟩,
               ⟨fun v W => ∃ g a c fa, v = .slice (some ⟨g, 0, none⟩) 1 1 ∧ IsBlk W g (.cells #[.string ⟨nm.toArray⟩, .int .i64 t.at_, .slice a b.len c] 51) ∧ w3.heap.size ≤ g ∧ g ∉ fa ∧ BlkAt W (.slice a b.len c) b fa ∧ NewB w3 W fa, fun _ _ _ _ h => h.elim⟩,
               ⟨fun v W => ∃ a2 c2 a c fa, v = .slice a2 (P.funcs.length + 1 : Nat) c2 ∧ W.ownsRow w1.heap.size 51 3 (.slice a2 (P.funcs.length + 1 : Nat) c2) (P.funcs.length + 1) (xs ++ [encStr nm, .int .i64 t.at_, .slice a b.len c]) ∧ BlkAt W (.slice a b.len c) b fa ∧ NewB w3 W fa ∧ ((Value.slice a2 (P.funcs.length + 1 : Nat) c2).ownBlock = (Value.slice af P.funcs.length cf).ownBlock ∨ ∃ g, (Value.slice a2 (P.funcs.length + 1 : Nat) c2).ownBlock = some g ∧ w3.heap.size ≤ g ∧ g ∉ fa), fun _ _ _ _ h => h.elim⟩] : List (SP (fun _ _ : World => False)))) (fun k i v u u' hk hi hne hneed hφ hR => ?_) ?_ ?_
            · have hc : i = 0 ∨ i = 1 ∨ i = 2 ∨ i = 3 ∨ i = 4 ∨ i = 5 ∨ i = 6 ∨ i = 7 ∨ i = 8 ∨ i = 9 := by omega
              have hbig := hR.big
              have hfresh : ∀ k, w3.heap.size ≤ k → k ∉ p :: ownL (.slice af P.funcs.length cf) := fun k hk hm => by
                rcases List.mem_cons.1 hm with h | h
                · omega
                · have := (hvo k h).2; omega
              rcases hc with rfl | rfl | rfl | rfl | rfl | rfl | rfl | rfl | rfl | rfl
              · exact hφ
              · exact hφ
              · exact hφ
              · exact hφ
              · exact hφ
              · exact hφ
              · obtain ⟨a, c, fa, h1, h2, h3, h4⟩ := hφ
                exact ⟨a, c, fa, h1, h2.keep hbig (fun k hk => hfresh k (h3.2 k hk).1), h3.more hbig.size, h4.keep (hR.pre (Ne.symm hne)) hvp⟩
              · obtain ⟨a, c, fa, h1, h2, h3⟩ := hφ
                exact ⟨a, c, fa, h1, h2.keep hbig (fun k hk => hfresh k (h3.2 k hk).1), h3.more hbig.size⟩
              · obtain ⟨g, a, c, fa, h1, h2, h3, h4, h5, h6⟩ := hφ
                exact ⟨g, a, c, fa, h1, h2.only hbig (hfresh g h3), h3, h4, h5.keep hbig (fun k hk => hfresh k (h6.2 k hk).1), h6.more hbig.size⟩
              · obtain ⟨a2, c2, a, c, fa, h1, h2, h3, h4, h5⟩ := hφ
                exact ⟨a2, c2, a, c, fa, h1, owns_keep h2 (hR.oth (Ne.symm hne)) (by simp; omega), h3.keep hbig (fun k hk => hfresh k (h4.2 k hk).1), h4.more hbig.size, h5⟩
            · simp only [List.take_succ_cons, List.take_zero]
              refine StepsOK.cons ?_ (StepsOK.cons ?_ (StepsOK.cons ?_ (StepsOK.cons ?_ (StepsOK.cons ?_ (StepsOK.cons ?_ (StepsOK.cons ?_ (StepsOK.cons ?_ (StepsOK.cons ?_ (StepsOK.cons ?_ StepsOK.nil)))))))))
              · intro a W L N hR hold hφ hcl hkp hd K hK
                have e3 := hold 3 (by kernel_rfl)
                clear hold hφ hcl hkp hd
                rw [if_pos (by rfl)]
                go_simp
                exact hK _ _ (Only.refl _ _) rfl
              · intro a W L N hR hold hφ hcl hkp hd K hK
                have e48 := got hφ (hd 0 (by kernel_rfl)) rfl rfl rfl
                have hld : W.cell? ⟨w.heap.size + 1, 2, none⟩ = some (.slice af P.funcs.length cf) := ((((Only.refl _ w3).drew).then hR (p :: ownL (.slice af P.funcs.length cf)) (fun i hi => .inl hi) (fun i hi => .inl hi)).cell (p := ⟨w.heap.size + 1, _, none⟩) hb3 hn1).trans y2
                clear hold hφ hcl hkp hd
                rw [if_pos (by rfl)]
                go_simp
                exact hK _ _ (Only.refl _ _) rfl
              · intro a W L N hR hold hφ hcl hkp hd K hK
                have e5 := hold 5 (by kernel_rfl)
                clear hold hφ hcl hkp hd
                rw [if_pos (by rfl)]
                go_simp
                exact hK _ _ (Only.refl _ _) rfl
              · intro a W L N hR hold hφ hcl hkp hd K hK
                have e4 := hold 4 (by kernel_rfl)
                clear hold hφ hcl hkp hd
                rw [if_pos (by rfl)]
                go_simp
                exact hK _ _ (Only.refl _ _) rfl
              · intro a W L N hR hold hφ hcl hkp hd K hK
                have e51 := got hφ (hd 3 (by kernel_rfl)) rfl rfl rfl
                have hld : W.cell? ⟨g4, 1, none⟩ = some (.int .i64 t.at_) := ((((Only.refl _ w3).drew).then hR (p :: ownL (.slice af P.funcs.length cf)) (fun i hi => .inl hi) (fun i hi => .inl hi)).cell (p := ⟨g4, _, none⟩) hq3 hn2).trans q1
                clear hold hφ hcl hkp hd
                rw [if_pos (by rfl)]
                go_simp
                exact hK _ _ (Only.refl _ _) rfl
              · intro a W L N hR hold hφ hcl hkp hd K hK
                have e0 := hold 0 (by kernel_rfl)
                clear hold hφ hcl hkp hd
                rw [if_pos (by rfl)]
                go_simp
                exact hK _ _ (Only.refl _ _) rfl
              · intro a W L N hR hold hφ hcl hkp hd K hK
                have e53 := got hφ (hd 5 (by kernel_rfl)) rfl rfl rfl
                have hpre := (hcl.2.2.2.2 6 hcl.2.1).call
                have hsz := hR.size
                clear hold hφ hcl hkp hd
                rw [if_pos (by rfl)]
                go_simp
                refine (pblock_any _ W p e 0 r1 (HRd.out.keep hpre hvp) (Nat.le_refl _) (by omega)).mono ?_
                rw [Hb.out]
                rintro r0 w5 ⟨v, fq, rfl, hB, hN, hR5, hO5⟩
                obtain ⟨va, vc, rfl, -⟩ := hB.slice
                exact hK _ _ hO5 ⟨va, vc, fq, rfl, hB, hN.less hsz, hR5⟩
              · intro a W L N hR hold hφ hcl hkp hd K hK
                have e50 := got hφ (hd 2 (by kernel_rfl)) rfl rfl rfl
                have e52 := got hφ (hd 4 (by kernel_rfl)) rfl rfl rfl
                obtain ⟨u54, e54, a6, c6, fa, p54, b54, n54, r54⟩ := gotP hφ (hd 6 (by kernel_rfl)) rfl rfl rfl
                have p54 : u54 = .slice a6 b.len c6 := p54
                subst p54
                clear hold hφ hcl hkp hd
                rw [if_pos (by rfl)]
                go_simp
                exact hK _ _ (Only.refl _ _) ⟨a6, c6, fa, rfl, b54, n54⟩
              · intro a W L N hR hold hφ hcl hkp hd K hK
                obtain ⟨u55, e55, a6, c6, fa, p55, b55, n55⟩ := gotP hφ (hd 7 (by kernel_rfl)) rfl rfl rfl
                have p55 : u55 = .agg #[.string ⟨nm.toArray⟩, .int .i64 t.at_, .slice a6 b.len c6] := p55
                subst p55
                have hsz := hR.size
                clear hold hφ hcl hkp hd
                rw [if_pos (by rfl)]
                go_simp
                have hOa := (Only.refl [] W).alloc (.cells #[.string ⟨nm.toArray⟩, .int .i64 t.at_, .slice a6 b.len c6] 51)
                exact hK _ _ ((Only.refl _ _).alloc _) ⟨_, a6, c6, fa, rfl, IsBlk.made W _, hsz, fun hm => Nat.lt_irrefl _ (b55.lt _ hm), b55.more hOa, n55.more hOa.size⟩
              · intro a W L N hR hold hφ hcl hkp hd K hK
                have e49 := got hφ (hd 1 (by kernel_rfl)) rfl rfl rfl
                obtain ⟨u56, e56, g56, a6, c6, fa, p56, b56, s56, f56, k56, n56⟩ := gotP hφ (hd 8 (by kernel_rfl)) rfl rfl rfl
                have p56 : u56 = .slice (some ⟨g56, 0, none⟩) 1 1 := p56
                subst p56
                have hpr8 := (hcl.2.2.2.2 9 hcl.2.1).app (by decide)
                have hpre := (((Only.refl _ w3).drew).then hR (p :: ownL (.slice af P.funcs.length cf)) (fun i hi => .inl hi) (fun i hi => .inl hi))
                have hsz := hpre.size
                clear hold hφ hcl hkp hd
                rw [if_pos (by rfl)]
                refine wp_append_fn _ _ rfl w1.heap.size (.slice af P.funcs.length cf) P.funcs.length xs (by simp [Act.eval, e49]) (owns_keep hxs (((Only.refl [] w3).drew).then hpr8 [p] (by simp) (by simp)) (by simp; omega)) g56 1 (⟨nm, t.at_, b⟩ : FuncM) (.slice a6 b.len c6) fa k56 (by simp [Act.eval, e56]) (b56.cell 0) (b56.cell 1) (b56.cell 2) hac (Nat.le_trans hs3 hsz) ?_
                intro a7 c7 w7 h7 hO7 hb7
                exact hK _ _ hO7 ⟨a7, c7, a6, c6, fa, rfl, h7, k56.keep hO7 (fun k hk hm => by have := (n56.2 k hk).1; have := (hvo k hm).2; omega), n56.more hO7.size, hb7.imp id (fun h => ⟨_, h, hsz, fun hm => Nat.lt_irrefl _ (k56.lt _ hm)⟩)⟩
            · intro us W hO' hus
              obtain ⟨-, -, -, -, -, -, hRW⟩ := hus 6 _ 54 (by omega) rfl rfl rfl
              obtain ⟨a8, c8, a6, c6, fa, p57, h8, h9, h10, hb8⟩ := hus 9 _ 57 (by omega) rfl rfl rfl
              clear hus
              simp only [List.take_succ_cons, List.take_zero, List.drop_succ_cons, List.drop_zero, fillAct, Act.put, List.setIfInBounds_toArray, List.set_cons_zero, List.set_cons_succ, Nat.reduceAdd, p57]
              clear p57
              have hOW := ((Only.refl _ w3).drew).then hO' (p :: ownL (.slice af P.funcs.length cf)) (fun i hi => .inl hi) (fun i hi => .inl hi)
              have hGW := Hg3.out.func2 (d := ⟨nm, t.at_, b⟩) (by omega) hs3 hxe h8 h9 h10 hOW hb8
              have hBW := HB3.out.only hOW hn1
              have hB0W := HB03.out.only hOW hn0
              have hOwp : Only [p] w W := HO3.out.then hOW [p] (by simp) (fun i hi => by
                rcases List.mem_cons.1 hi with h | h
                · exact .inl (by simp [h])
                · exact .inr (by have := (hvo i h).1; omega))
              have o9 : Only [w.heap.size + 1] W (W.setCell ⟨w.heap.size + 1, 2, none⟩ (.slice a8 (P.funcs.length + 1 : Nat) c8)) := (Only.refl _ _).setCell (.inl (by simp)) _
              have Hfin := Lib.hid (And.intro (hGW.keep o9 (by simp; omega)) (And.intro (IsBlk.put hBW 2 (.slice a8 (P.funcs.length + 1 : Nat) c8)) (And.intro (hB0W.only o9 (by simp)) (And.intro (hRW.keep o9 (by simp; omega)) (And.intro (hOwp.then o9 [p] (by simp) (by simp)) (Nat.le_trans hs3 (Nat.le_trans hOW.size o9.size)))))))
              simp only [List.setIfInBounds_toArray, List.set_cons_zero, List.set_cons_succ] at Hfin
              have k9 := hBW.cell 2
              have f9 := hBW.notFrozen 2
              have hb9 := hBW.lt
              clear hO' hOW hGW hBW hB0W hOwp o9 h8 h9 h10 hb8 HR3 Hg3 HB3 HB03 HO3 HRd hRW HR5 Hg5 HB5 HB05 HO5 hxs hxe hq5
              clear y2 f2 q1
              go_wp2
              go_roundw
              case rel =>
                obtain ⟨x1, x2, x3, x4, x5, x6⟩ := Hfin.out
                exact ⟨{ P with funcs := P.funcs ++ [⟨nm, t.at_, b⟩] }, _, _, _, fp ++ fa, r2, k, x1, x2, x3, x4, x5, x6, by simp at hk; omega, by simp at hal ⊢; omega, HX⟩
              case measure =>
                obtain ⟨x1, x2, x3, x4, x5, x6⟩ := Hfin.out
                rw [x4.rd, hrd.out]
                simp; omega
      · have h1' : (t.s == [118, 97, 114]) = false := by simpa [varW] using h1
        have h2' : (t.s == [108, 111, 99, 107]) = false := by simpa [lockW] using h2
        have h3' : (t.s == [102, 117, 110, 99]) = false := by simpa [funcW] using h3
        have HX := Lib.hid (hX.out.trans (prog_bad h1 h2 h3))
        clear hX h1 h2 h3
        generalize t.s = ss at *
        go_wp2
        refine ⟨rfl, ?_⟩
        rw [HX.out]
        exact ⟨rfl, HO3.out⟩

end Go.Proofs.YtildkedplmjdaaaGreatDoor
