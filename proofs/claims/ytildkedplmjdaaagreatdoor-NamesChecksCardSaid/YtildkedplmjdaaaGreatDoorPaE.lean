/-
  Statements and blocks: stmt, block of the package parse.
-/
import Derived.Test.YtildkedplmjdaaaGreatDoorPaD
import Derived.Maps.AppendAt
import Derived.Deep.RegionHeld3
import Derived.Deep.CutBlock
import Derived.Deep.DeepCutAuto
import Derived.IntWalk
namespace Go.Proofs.YtildkedplmjdaaaGreatDoor
set_option maxRecDepth 100000
set_option linter.unusedVariables false
open Go.RowKit Go.Sort

/-- What block leaves; what stmt leaves. -/
def BlockTo (w : World) (p e : Nat) (x : PR (Blk × List Tok)) (r : Ending) (w' : World) : Prop :=
  match x with
  | .ok (b, l) => ∃ v fp, r = .returned v ∧ BlkAt w' v b fp ∧ NewB w w' fp ∧ RdAt w' p l e ∧ Only [p] w w'
  | .error y => r = faultE y ∧ Only [p] w w'
def stmV (s : StmM) (va vb : Value) : Value := .agg #[.int .i64 s.kind, .int .i64 s.at_, encStr s.name, va, vb]
def StmTo (w : World) (p e : Nat) (x : PR (StmM × List Tok)) (r : Ending) (w' : World) : Prop :=
  match x with
  | .ok (s, l) => ∃ va vb fa fb, r = .returned (stmV s va vb) ∧ BlkAt w' va s.a fa ∧ BlkAt w' vb s.b fb ∧ NewB w w' (fa ++ fb) ∧ RdAt w' p l e ∧ Only [p] w w'
  | .error y => r = faultE y ∧ Only [p] w w'

theorem sizeStm : (Tryz.prog.info? 85).map (·.size) = some 5 := by kernel_rfl
theorem ret_stm {fn : Func} {p : Tmp} (h : fn.results = #[.cell p 85]) (tmps : Array Value) (w : World) (g : Nat) (cs : Array Value) (hp : tmps.getD p undef = .pointer (some ⟨g, 0, none⟩))
    (hg : IsBlk w g (.cells cs 85)) (h5 : cs.size = 5) : (results fn tmps).run Tryz.prog w = .ok (.agg cs) w :=
  results_cell_row h tmps w g 85 cs (0, 0) _ hp hg Tryz.underlying85 rfl (by rw [h5]; exact sizeStm)
/-- Five cells set. -/
theorem five_world {w1 : World} {q : Nat} {x0 x1 x2 x3 x4 : Value} {T : TypeId} (hq : IsBlk w1 q (.cells #[x0, x1, x2, x3, x4] T)) (t0 t1 t2 t3 t4 : Value) :
    IsBlk (((((w1.setCell ⟨q, 0, none⟩ t0).setCell ⟨q, 1, none⟩ t1).setCell ⟨q, 2, none⟩ t2).setCell ⟨q, 3, none⟩ t3).setCell ⟨q, 4, none⟩ t4) q (.cells #[t0, t1, t2, t3, t4] T) ∧
    Only [q] w1 (((((w1.setCell ⟨q, 0, none⟩ t0).setCell ⟨q, 1, none⟩ t1).setCell ⟨q, 2, none⟩ t2).setCell ⟨q, 3, none⟩ t3).setCell ⟨q, 4, none⟩ t4) := by
  refine ⟨?_, ?_⟩
  · have h1 := IsBlk.put hq 0 t0
    have h2 := IsBlk.put h1 1 t1
    have h3 := IsBlk.put h2 2 t2
    have h4 := IsBlk.put h3 3 t3
    have h5 := IsBlk.put h4 4 t4
    exact h5
  · exact ((((((Only.refl [q] w1).setCell (p := ⟨q, 0, none⟩) (.inl (by simp)) t0).setCell (p := ⟨q, 1, none⟩) (.inl (by simp)) t1).setCell (p := ⟨q, 2, none⟩) (.inl (by simp)) t2).setCell (p := ⟨q, 3, none⟩) (.inl (by simp)) t3).setCell (p := ⟨q, 4, none⟩) (.inl (by simp)) t4)

/-! ### What stmtF says, way by way -/
section
variable {f d e : Nat} {t : Tok} {r r1 r2 : List Tok} {a b : Blk} {n : List UInt8} {y : Nat × Nat}
theorem parse_lenb (h : blockF f d e r = .ok (a, r1)) : r1.length < r.length := (parse_len f).1 _ _ _ _ _ h
theorem stm7_err (h7 : kindM t.s = 7) (h : blockF f d e r = .error y) : stmtF (f + 1) d e (t :: r) = .error y := by
  rw [stmtF, if_neg (by omega), if_pos h7, h]
theorem stm7_one (h7 : kindM t.s = 7) (h : blockF f d e r = .ok (a, r1)) (hn : nextS r1 ≠ elseM) : stmtF (f + 1) d e (t :: r) = .ok (⟨7, t.at_, [], a, .nil⟩, r1) := by
  rw [stmtF, if_neg (by omega), if_pos h7, h]; simp only [if_neg hn]
theorem stm7_two_err (h7 : kindM t.s = 7) (h : blockF f d e r = .ok (a, r1)) (hn : nextS r1 = elseM) (h2 : blockF f d e r1.tail = .error y) : stmtF (f + 1) d e (t :: r) = .error y := by
  rw [stmtF, if_neg (by omega), if_pos h7, h]; simp only [if_pos hn, h2]
theorem stm7_two (h7 : kindM t.s = 7) (h : blockF f d e r = .ok (a, r1)) (hn : nextS r1 = elseM) (h2 : blockF f d e r1.tail = .ok (b, r2)) : stmtF (f + 1) d e (t :: r) = .ok (⟨7, t.at_, [], a, b⟩, r2) := by
  rw [stmtF, if_neg (by omega), if_pos h7, h]; simp only [if_pos hn, h2]
theorem stm8_err (h8 : kindM t.s = 8) (h : blockF f d e r = .error y) : stmtF (f + 1) d e (t :: r) = .error y := by
  rw [stmtF, if_neg (by omega), if_neg (by omega), if_pos h8, h]
theorem stm8_ok (h8 : kindM t.s = 8) (h : blockF f d e r = .ok (a, r1)) : stmtF (f + 1) d e (t :: r) = .ok (⟨8, t.at_, [], a, .nil⟩, r1) := by
  rw [stmtF, if_neg (by omega), if_neg (by omega), if_pos h8, h]
theorem stmn_err (h0 : kindM t.s ≠ 0) (h7 : kindM t.s ≠ 7) (h8 : kindM t.s ≠ 8) (h : nameF e r = .error y) : stmtF (f + 1) d e (t :: r) = .error y := by
  rw [stmtF, if_neg h0, if_neg h7, if_neg h8, h]
theorem stmn_ok (h0 : kindM t.s ≠ 0) (h7 : kindM t.s ≠ 7) (h8 : kindM t.s ≠ 8) (h : nameF e r = .ok (n, r1)) : stmtF (f + 1) d e (t :: r) = .ok (⟨kindM t.s, t.at_, n, .nil, .nil⟩, r1) := by
  rw [stmtF, if_neg h0, if_neg h7, if_neg h8, h]
end

def zeroS : Obj := .cells #[.int .i64 0, .int .i64 0, .string ⟨#[]⟩, .slice none 0 0, .slice none 0 0] 85

set_option maxHeartbeats 8000000 in
theorem stm_any (f : Nat) (ihb : ∀ (w : World) (p e d : Nat) (l : List Tok), RdAt w p l e → 2 * l.length + 1 ≤ f → d ≤ 20 → Calls Tryz.prog 102 #[.pointer (some ⟨p, 0, none⟩), .int .i64 d] w (BlockTo w p e (blockF f d e l)))
    (w : World) (p e d : Nat) (l : List Tok) (h : RdAt w p l e) (hf : 2 * l.length ≤ f) (hd : d ≤ 20) :
    Calls Tryz.prog 111 #[.pointer (some ⟨p, 0, none⟩), .int .i64 d] w (StmTo w p e (stmtF (f + 1) d e l)) := by
  have hp := h.lt
  have H := Lib.hid (h.more ((Only.refl [] w).alloc zeroS))
  have hO0 := Lib.hid ((Only.refl [] w).alloc zeroS)
  have hr0 := Lib.hid (IsBlk.made w zeroS)
  clear h
  unfold zeroS at *
  go_enter Tryz.func111, Tryz.ntmps111
  go_wp2_with fail
  refine (take_any _ p l e H.out).mono ?_
  rintro r w1 ⟨rfl, hR, hO1⟩
  have HO1 := Lib.hid (hO0.out.then hO1 [p] (by simp) (by simp))
  have hr1 := Lib.hid (hr0.out.only hO1 (by simp; omega))
  have HR := Lib.hid (hR.more ((Only.refl [] w1).alloc (.cells #[.int .i64 (nextT l e).kind, .int .i64 (nextT l e).at_, encStr (nextT l e).s] 93)))
  have HO2 := Lib.hid (HO1.out.then ((Only.refl [] w1).alloc (.cells #[.int .i64 (nextT l e).kind, .int .i64 (nextT l e).at_, encStr (nextT l e).s] 93)) [p] (by simp) (by simp))
  have hr2 := Lib.hid (hr1.out.alloc (.cells #[.int .i64 (nextT l e).kind, .int .i64 (nextT l e).at_, encStr (nextT l e).s] 93))
  have hq := IsBlk.made w1 (.cells #[.int .i64 (nextT l e).kind, .int .i64 (nextT l e).at_, encStr (nextT l e).s] 93)
  have hrq : w.heap.size < w1.heap.size := hr1.out.lt
  clear hR hO1 hr1 hr0 HO1 hO0 H
  unfold tokV encStr
  go_wp2_with fail
  have hst : Hid (∀ t : Tok, nextT l e = t → (kindM t.s = 0 → stmtF (f + 1) d e l = .error (t.at_, 7)) ∧ (kindM t.s ≠ 0 → l = t :: l.tail)) := Lib.hid (fun t ht => by
    cases l with
    | nil => subst ht; exact ⟨fun _ => by rw [stmtF]; rfl, fun h => absurd rfl h⟩
    | cons x y => subst ht; exact ⟨fun h => by rw [stmtF]; simp only [nextT] at h ⊢; rw [if_pos h], fun _ => rfl⟩)
  unfold encStr at hr2 hq HO2 HR
  generalize hW : w1.alloc (.cells #[.int .i64 (nextT l e).kind, .int .i64 (nextT l e).at_, .string ⟨(nextT l e).s.toArray⟩] 93) = w2 at *
  clear hW
  have Hst := Lib.hid (hst.out _ rfl)
  clear hst
  generalize ht : nextT l e = t at *
  have q1 := hq.cell 1
  have q2 := hq.cell 2
  have hq2 := hq.lt
  have Hq := Lib.hid hq
  clear hq
  generalize w1.heap.size = g1 at *
  refine wp_region_stabL (P := Tryz.prog) 7 (by kernel_rfl) (by kernel_rfl) (Only []) (Only.refl _ _) (fun _ _ _ h k => h.then k [] (by simp) (by simp))
    [SP.is (.pointer (some ⟨g1, 2, none⟩)),
     SP.is (.string ⟨t.s.toArray⟩),
     SP.is (.int .i64 (kindM t.s)),
     SP.is (.pointer (some ⟨g1, 1, none⟩)),
     SP.is (.int .i64 t.at_),
     SP.is (.agg #[.int .i64 (kindM t.s), .int .i64 t.at_, .string ⟨#[]⟩, .slice none 0 0, .slice none 0 0]),
     ⟨fun v W => ∃ g, v = .pointer (some ⟨g, 0, none⟩) ∧ IsBlk W g (.cells #[.int .i64 0, .int .i64 0, .string ⟨#[]⟩, .slice none 0 0, .slice none 0 0] 85) ∧ w2.heap.size ≤ g, fun _ _ _ ⟨g, e, h, hg⟩ hO => ⟨g, e, h.only hO (by simp), hg⟩⟩] ?_ ?_
  · simp only [List.take_succ_cons, List.take_zero]
    refine StepsOK.cons ?_ (StepsOK.cons ?_ (StepsOK.cons ?_ (StepsOK.cons ?_ (StepsOK.cons ?_ (StepsOK.cons ?_ (StepsOK.cons ?_ StepsOK.nil))))))
    · intro a W L N hR hold hφ hcl hkp hd K hK
      have e5 := hold 5 (by kernel_rfl)
      clear hold hφ hcl hkp hd
      rw [if_pos (by rfl)]
      go_simp
      exact hK _ _ (Only.refl _ _) rfl
    · intro a W L N hR hold hφ hcl hkp hd K hK
      have e9 := got hφ (hd 0 (by kernel_rfl)) rfl rfl rfl
      have hld : W.cell? ⟨g1, 2, none⟩ = some (.string ⟨t.s.toArray⟩) := ((((Only.refl [] w2).drew).plus hR).cell (p := ⟨g1, _, none⟩) hq2 (by simp)).trans q2
      clear hold hφ hcl hkp hd
      rw [if_pos (by rfl)]
      go_simp
      exact hK _ _ (Only.refl _ _) rfl
    · intro a W L N hR hold hφ hcl hkp hd K hK
      have e10 := got hφ (hd 1 (by kernel_rfl)) rfl rfl rfl
      clear hold hφ hcl hkp hd
      rw [if_pos (by rfl)]
      go_simp
      refine (kindOf_any W t.s).mono ?_
      rintro r w' ⟨rfl, hO'⟩
      exact hK _ _ hO' rfl
    · intro a W L N hR hold hφ hcl hkp hd K hK
      have e5 := hold 5 (by kernel_rfl)
      clear hold hφ hcl hkp hd
      rw [if_pos (by rfl)]
      go_simp
      exact hK _ _ (Only.refl _ _) rfl
    · intro a W L N hR hold hφ hcl hkp hd K hK
      have e12 := got hφ (hd 3 (by kernel_rfl)) rfl rfl rfl
      have hld : W.cell? ⟨g1, 1, none⟩ = some (.int .i64 t.at_) := ((((Only.refl [] w2).drew).plus hR).cell (p := ⟨g1, _, none⟩) hq2 (by simp)).trans q1
      clear hold hφ hcl hkp hd
      rw [if_pos (by rfl)]
      go_simp
      exact hK _ _ (Only.refl _ _) rfl
    · intro a W L N hR hold hφ hcl hkp hd K hK
      have e11 := got hφ (hd 2 (by kernel_rfl)) rfl rfl rfl
      have e13 := got hφ (hd 4 (by kernel_rfl)) rfl rfl rfl
      clear hold hφ hcl hkp hd
      rw [if_pos (by rfl)]
      go_simp
      exact hK _ _ (Only.refl _ _) rfl
    · intro a W L N hR hold hφ hcl hkp hd K hK
      have hsz := hR.size
      clear hold hφ hcl hkp hd
      rw [if_pos (by rfl)]
      go_simp
      exact hK _ _ ((Only.refl _ _).alloc _) ⟨_, rfl, IsBlk.made W _, hsz⟩
  · intro us W hO' hus
    obtain ⟨g6, p6, hb6, hg6⟩ := hus 6 _ 6 (by omega) rfl rfl
    have p5 : us 5 = .agg #[.int .i64 (kindM t.s), .int .i64 t.at_, .string ⟨#[]⟩, .slice none 0 0, .slice none 0 0] := hus 5 _ 14 (by omega) rfl rfl
    clear hus
    simp only [List.take_succ_cons, List.take_zero, List.drop_succ_cons, List.drop_zero, fillAct, Act.put, List.setIfInBounds_toArray, List.set_cons_zero, List.set_cons_succ, Nat.reduceAdd, p5, p6]
    clear p5 p6
    have hO2' : Only [] w2 W := ((Only.refl [] w2).drew).plus hO'
    have hr3 := hr2.out.only hO2' (by simp)
    have hq3 := Hq.out.only hO2' (by simp)
    have HR3 := HR.out.more hO2'
    have HO3 := HO2.out.plus hO2'
    clear hO' hO2' HR HO2 hr2 Hq q1 q2
    obtain ⟨b6, o6⟩ := five_world hb6 (.int .i64 (kindM t.s)) (.int .i64 t.at_) (.string ⟨#[]⟩) (.slice none 0 0) (.slice none 0 0)
    have f0 := hb6.notFrozen 0
    have f1 := hb6.notFrozen 1
    have f2 := hb6.notFrozen 2
    have f3 := hb6.notFrozen 3
    have f4 := hb6.notFrozen 4
    have k0 := hb6.cell 0
    have k1 := hb6.cell 1
    have k2 := hb6.cell 2
    have k3 := hb6.cell 3
    have k4 := hb6.cell 4
    have h6 := hb6.lt
    have hr4 := Lib.hid (hr3.only o6 (by simp; omega))
    have hq4 := Lib.hid (hq3.only o6 (by simp; omega))
    have HR4 := Lib.hid (HR3.keep o6 (by simp; omega))
    have HO4 := Lib.hid (HO3.then o6 [p] (by simp) (by simp; omega))
    have B6 := Lib.hid b6
    have h6g : w.heap.size < g6 := by omega
    clear hr3 hq3 HR3 HO3 o6 b6 hb6 hg6
    go_upto_region 3 with fail
    generalize hWs : ((((W.setCell ⟨g6, 0, none⟩ (.int .i64 (kindM t.s))).setCell ⟨g6, 1, none⟩ (.int .i64 t.at_)).setCell ⟨g6, 2, none⟩ (.string ⟨#[]⟩)).setCell ⟨g6, 3, none⟩ (.slice none 0 0)).setCell ⟨g6, 4, none⟩ (.slice none 0 0) = Ws at *
    clear hWs f0 f1 f2 f3 f4 k0 k1 k2 k3 k4
    have hsz4 := B6.out.lt
    clear h6 hq2
    clear W
    by_cases hK0 : kindM t.s = 0
    · have c0 := B6.out.cell 0
      have c1 := hq4.out.cell 1
      have hKi : (kindM t.s : Int) = 0 := by omega
      have HX := Lib.hid (Hst.out.1 hK0)
      clear Hst
      go_wp2
      refine ⟨rfl, ?_⟩
      rw [HX.out]
      exact ⟨rfl, HO4.out⟩
    have Hl := Lib.hid (Hst.out.2 hK0)
    have hlen : l.length = l.tail.length + 1 := by have h := congrArg List.length Hl.out; simpa using h
    have Hlen := Lib.hid hlen
    clear hlen Hst
    by_cases hK7 : kindM t.s = 7
    · generalize hKK : kindM t.s = K at *
      subst hK7
      have HK := Lib.hid hKK
      clear hKK
      have c0 := B6.out.cell 0
      go_wp2_with fail
      refine (ihb _ p e d _ HR4.out (by have := Hlen.out; omega) hd).mono ?_
      cases hb : blockF f d e l.tail with
      | error y =>
        rintro r w5 ⟨rfl, hO5⟩
        refine ⟨rfl, ?_⟩
        rw [Hl.out, stm7_err HK.out hb]
        exact ⟨rfl, HO4.out.then hO5 [p] (by simp) (by simp)⟩
      | ok q =>
        obtain ⟨a, r1⟩ := q
        have Hb := Lib.hid hb
        rintro r w5 ⟨v, fp, rfl, hB, hN, hR, hO5⟩
        obtain ⟨va, vc, rfl, hvc⟩ := hB.slice
        have b5 := B6.out.only hO5 (by simp; omega)
        have r5 := hr4.out.only hO5 (by simp; omega)
        have k3 := b5.cell 3
        have f3 := b5.notFrozen 3
        have hO6 : Only [g6] w5 (w5.setCell ⟨g6, 3, none⟩ (.slice va a.len vc)) := (Only.refl _ _).setCell (.inl (by simp)) _
        have B7 := Lib.hid (IsBlk.put b5 3 (.slice va a.len vc))
        have R7 := Lib.hid (r5.only hO6 (by simp; omega))
        have HR7 := Lib.hid (hR.keep hO6 (by simp; omega))
        have HB7 := Lib.hid (hB.keep hO6 (fun k hk => by have := (hN.2 k hk).1; simp; omega))
        have HN7 := Lib.hid hN
        have hsw : w.heap.size ≤ Ws.heap.size := by omega
        have HO7 := Lib.hid ((HO4.out.then hO5 [p] (by simp) (by simp)).then hO6 [p] (by simp) (by simp; omega))
        have hg5 := b5.lt
        have hr5 := r5.lt
        have hlr := parse_lenb hb
        have hs5 : Ws.heap.size ≤ w5.heap.size := hO5.size
        have Hlr := Lib.hid hlr
        clear hO5 hB hN hR b5 r5 B6 hr4 hq4 HR4 HO4 hO6 hb hlr
        go_upto_region 9 with fail
        generalize hW5 : w5.setCell ⟨g6, 3, none⟩ (.slice va a.len vc) = w6 at *
        have hs6 : w5.heap.size ≤ w6.heap.size := by rw [← hW5]; simp
        clear hW5 k3 f3
        have hg6 := B7.out.lt
        have hr6 := R7.out.lt
        simp only [List.setIfInBounds_toArray, List.set_cons_zero, List.set_cons_succ] at B7
        clear c0
        have Hs7 := Lib.hid (Nat.le_trans hs5 hs6)
        go_wp2_with fail
        refine (next_any _ p r1 e HR7.out).mono ?_
        rintro r w7 ⟨rfl, hO7⟩
        have B8 := Lib.hid (B7.out.only hO7 (by simp))
        have R8 := Lib.hid (R7.out.only hO7 (by simp))
        have HR8 := Lib.hid (HR7.out.more hO7)
        have HB8 := Lib.hid (HB7.out.more hO7)
        have HN8 := Lib.hid (HN7.out.more (Nat.le_trans hs6 hO7.size))
        have Hs8 := Lib.hid (Nat.le_trans Hs7.out hO7.size)
        have HO8 := Lib.hid (HO7.out.plus hO7)
        clear hO7 B7 R7 HR7 HB7 HN7 HO7
        unfold tokV encStr
        have hfd : ∀ (x y z : Value) (w : World), (Instr.field 93 (.agg #[x, y, z]) 2).run Tryz.prog w = .ok z w := fun _ _ _ _ => by kernel_rfl
        have hnx : ∀ (x : List UInt8), nextS r1 = x → (nextT r1 e).s = x := fun x hx => by
          cases r1 with
          | nil => exact hx
          | cons y z => exact hx
        by_cases hel : nextS r1 = elseM
        · have he : (nextT r1 e).s = [101, 108, 115, 101] := hnx _ hel
          have he' : ((nextT r1 e).s == [101, 108, 115, 101]) = true := by rw [he]; rfl
          clear hnx
          have Hel := Lib.hid hel
          clear hel
          generalize (nextT r1 e).s = ss at *
          generalize (nextT r1 e).kind = kk at *
          generalize (nextT r1 e).at_ = aa at *
          subst he
          go_wp2_with fail
          refine (take_any _ p r1 e HR8.out).mono ?_
          rintro r w9 ⟨rfl, hR9, hO9⟩
          have B9 := Lib.hid (B8.out.only hO9 (by simp; omega))
          have R9 := Lib.hid (R8.out.only hO9 (by simp; omega))
          have HB9 := Lib.hid (HB8.out.keep hO9 (fun k hk => by have := (HN8.out.2 k hk).1; simp; omega))
          have HN9 := Lib.hid (HN8.out.more hO9.size)
          have Hs9 := Lib.hid (Nat.le_trans Hs8.out hO9.size)
          have HO9 := Lib.hid (HO8.out.then hO9 [p] (by simp) (by simp))
          have HR9 := Lib.hid hR9
          clear hO9 hR9 B8 R8 HR8 HB8 HN8 HO8
          unfold tokV encStr
          go_wp2_with fail
          refine (ihb _ p e d _ HR9.out (by have := Hlen.out; have := Hlr.out; simp; omega) hd).mono ?_
          cases hb : blockF f d e r1.tail with
          | error y =>
            rintro r w5 ⟨rfl, hO5⟩
            refine ⟨rfl, ?_⟩
            rw [Hl.out, stm7_two_err HK.out Hb.out Hel.out hb]
            exact ⟨rfl, HO9.out.then hO5 [p] (by simp) (by simp)⟩
          | ok q =>
            obtain ⟨b, r2⟩ := q
            have HX := Lib.hid (stm7_two HK.out Hb.out Hel.out hb)
            rintro r w10 ⟨v, fq, rfl, hB, hN, hR, hO5⟩
            obtain ⟨vb, ve, rfl, hvc⟩ := hB.slice
            have b5 := B9.out.only hO5 (by simp; omega)
            have r5 := R9.out.only hO5 (by simp; omega)
            have hsz9 := B9.out.lt
            have hsz9w : Ws.heap.size ≤ _ := Hs9.out
            have k3 := b5.cell 4
            have f3 := b5.notFrozen 4
            have hO6 : Only [g6] w10 (w10.setCell ⟨g6, 4, none⟩ (.slice vb b.len ve)) := (Only.refl _ _).setCell (.inl (by simp)) _
            have B10 := Lib.hid (IsBlk.put b5 4 (.slice vb b.len ve))
            have R10 := Lib.hid (r5.only hO6 (by simp; omega))
            have HR10 := Lib.hid (hR.keep hO6 (by simp; omega))
            have HB10 := Lib.hid (hB.keep hO6 (fun k hk => by have := (hN.2 k hk).1; simp; omega))
            have HA10 := Lib.hid ((HB9.out.keep hO5 (fun k hk => by have := (HN9.out.2 k hk).1; simp; omega)).keep hO6 (fun k hk => by have := (HN9.out.2 k hk).1; simp; omega))
            have HN10 := Lib.hid (HN9.out.app hN hsz9w hO5.size)
            have HO10 := Lib.hid ((HO9.out.then hO5 [p] (by simp) (by simp)).then hO6 [p] (by simp) (by simp; omega))
            have hg10 := b5.lt
            have hr10 := r5.lt
            clear hO5 hB hN hR b5 r5 B9 R9 HB9 HN9 HO9 HR9 hO6 hb Hb Hel hg6 hr6
            go_upto_region 14 with fail
            clear hs6
            generalize hW5 : w10.setCell ⟨g6, 4, none⟩ (.slice vb b.len ve) = w11 at *
            have hs6 : w10.heap.size ≤ w11.heap.size := by rw [← hW5]; simp
            clear hW5 k3 f3
            have hg6 := B10.out.lt
            have hr6 := R10.out.lt
            simp only [List.setIfInBounds_toArray, List.set_cons_zero, List.set_cons_succ] at B10
            have hx1 : ¬ g6 = w.heap.size := by omega
            have hx2 : ¬ w.heap.size = g6 := by omega
            have z0 := R10.out.cell 0
            have z1 := R10.out.cell 1
            have z2 := R10.out.cell 2
            have z3 := R10.out.cell 3
            have z4 := R10.out.cell 4
            have y0 := R10.out.notFrozen 0
            have y1 := R10.out.notFrozen 1
            have y2 := R10.out.notFrozen 2
            have y3 := R10.out.notFrozen 3
            have y4 := R10.out.notFrozen 4
            have j0 := B10.out.cell 0
            have j1 := B10.out.cell 1
            have j2 := B10.out.cell 2
            have j3 := B10.out.cell 3
            have j4 := B10.out.cell 4
            go_wp2
            refine bodyPost_ret_by (ret_stm rfl _ _ w.heap.size _ rfl (five_world R10.out _ _ _ _ _).1 rfl) rfl ?_
            rw [Hl.out, HX.out]
            obtain ⟨-, o7⟩ := five_world R10.out (.int .i64 7) (.int .i64 t.at_) (.string ⟨#[]⟩) (.slice va a.len vc) (.slice vb b.len ve)
            refine ⟨_, _, fp, fq, rfl, HA10.out.keep o7 (fun k hk => by have := (HN10.out.2 k (by simp [hk])).1; simp; omega), HB10.out.keep o7 (fun k hk => by have := (HN10.out.2 k (by simp [hk])).1; simp; omega), ?_, HR10.out.keep o7 (by simp; omega), HO10.out.then o7 [p] (by simp) (by simp)⟩
            exact (HN10.out.more (Nat.le_trans hs6 o7.size)).less hsw
        · have he : ¬ (nextT r1 e).s = [101, 108, 115, 101] := fun h => hel (by
            cases r1 with
            | nil => exact h
            | cons y z => exact h)
          have he' : ((nextT r1 e).s == [101, 108, 115, 101]) = false := by simpa using he
          clear hnx
          have HX := Lib.hid (stm7_one HK.out Hb.out hel)
          clear hel
          have he2 := he
          generalize (nextT r1 e).s = ss at *
          generalize (nextT r1 e).kind = kk at *
          generalize (nextT r1 e).at_ = aa at *
          go_upto_region 14 with fail
          have hx1 : ¬ g6 = w.heap.size := by omega
          have hx2 : ¬ w.heap.size = g6 := by omega
          have z0 := R8.out.cell 0
          have z1 := R8.out.cell 1
          have z2 := R8.out.cell 2
          have z3 := R8.out.cell 3
          have z4 := R8.out.cell 4
          have y0 := R8.out.notFrozen 0
          have y1 := R8.out.notFrozen 1
          have y2 := R8.out.notFrozen 2
          have y3 := R8.out.notFrozen 3
          have y4 := R8.out.notFrozen 4
          have j0 := B8.out.cell 0
          have j1 := B8.out.cell 1
          have j2 := B8.out.cell 2
          have j3 := B8.out.cell 3
          have j4 := B8.out.cell 4
          go_wp2
          refine bodyPost_ret_by (ret_stm rfl _ _ w.heap.size _ rfl (five_world R8.out _ _ _ _ _).1 rfl) rfl ?_
          rw [Hl.out, HX.out]
          obtain ⟨-, o7⟩ := five_world R8.out (.int .i64 7) (.int .i64 t.at_) (.string ⟨#[]⟩) (.slice va a.len vc) (.slice none 0 0)
          refine ⟨_, _, fp, [], rfl, HB8.out.keep o7 (fun k hk => by have := (HN8.out.2 k hk).1; simp; omega), BlkAt.nil _, ?_, HR8.out.keep o7 (by simp; omega), HO8.out.then o7 [p] (by simp) (by simp)⟩
          rw [List.append_nil]; exact (HN8.out.more o7.size).less hsw
    by_cases hK8 : kindM t.s = 8
    · generalize hKK : kindM t.s = K at *
      subst hK8
      have HK := Lib.hid hKK
      clear hKK
      have c0 := B6.out.cell 0
      go_wp2_with fail
      refine (ihb _ p e d _ HR4.out (by have := Hlen.out; omega) hd).mono ?_
      cases hb : blockF f d e l.tail with
      | error y =>
        rintro r w5 ⟨rfl, hO5⟩
        refine ⟨rfl, ?_⟩
        rw [Hl.out, stm8_err HK.out hb]
        exact ⟨rfl, HO4.out.then hO5 [p] (by simp) (by simp)⟩
      | ok q =>
        obtain ⟨a, r1⟩ := q
        have HX := Lib.hid (stm8_ok (t := t) HK.out hb)
        rintro r w5 ⟨v, fp, rfl, hB, hN, hR, hO5⟩
        obtain ⟨va, vc, rfl, hvc⟩ := hB.slice
        have b5 := B6.out.only hO5 (by simp; omega)
        have r5 := hr4.out.only hO5 (by simp; omega)
        have k3 := b5.cell 3
        have f3 := b5.notFrozen 3
        have hO6 : Only [g6] w5 (w5.setCell ⟨g6, 3, none⟩ (.slice va a.len vc)) := (Only.refl _ _).setCell (.inl (by simp)) _
        have B7 := Lib.hid (IsBlk.put b5 3 (.slice va a.len vc))
        have R7 := Lib.hid (r5.only hO6 (by simp; omega))
        have HR7 := Lib.hid (hR.keep hO6 (by simp; omega))
        have HB7 := Lib.hid (hB.keep hO6 (fun k hk => by have := (hN.2 k hk).1; simp; omega))
        have HN7 := Lib.hid hN
        have hsw : w.heap.size ≤ Ws.heap.size := by omega
        have HO7 := Lib.hid ((HO4.out.then hO5 [p] (by simp) (by simp)).then hO6 [p] (by simp) (by simp; omega))
        have hg5 := b5.lt
        have hr5 := r5.lt
        clear hO5 hB hN hR b5 r5 B6 hr4 hq4 HR4 HO4 hO6 hb
        go_upto_region 14 with fail
        generalize hW5 : w5.setCell ⟨g6, 3, none⟩ (.slice va a.len vc) = w6 at *
        have hs6 : w5.heap.size ≤ w6.heap.size := by rw [← hW5]; simp
        clear hW5 k3 f3
        have hg6 := B7.out.lt
        have hr6 := R7.out.lt
        simp only [List.setIfInBounds_toArray, List.set_cons_zero, List.set_cons_succ] at B7
        clear c0
        have hx1 : ¬ g6 = w.heap.size := by omega
        have hx2 : ¬ w.heap.size = g6 := by omega
        have z0 := R7.out.cell 0
        have z1 := R7.out.cell 1
        have z2 := R7.out.cell 2
        have z3 := R7.out.cell 3
        have z4 := R7.out.cell 4
        have y0 := R7.out.notFrozen 0
        have y1 := R7.out.notFrozen 1
        have y2 := R7.out.notFrozen 2
        have y3 := R7.out.notFrozen 3
        have y4 := R7.out.notFrozen 4
        have j0 := B7.out.cell 0
        have j1 := B7.out.cell 1
        have j2 := B7.out.cell 2
        have j3 := B7.out.cell 3
        have j4 := B7.out.cell 4
        go_wp2
        refine bodyPost_ret_by (ret_stm rfl _ _ w.heap.size _ rfl (five_world R7.out _ _ _ _ _).1 rfl) rfl ?_
        rw [Hl.out, HX.out]
        obtain ⟨-, o7⟩ := five_world R7.out (.int .i64 8) (.int .i64 t.at_) (.string ⟨#[]⟩) (.slice va a.len vc) (.slice none 0 0)
        refine ⟨_, _, fp, [], rfl, HB7.out.keep o7 (fun k hk => by have := (HN7.out.2 k hk).1; simp; omega), BlkAt.nil _, ?_, HR7.out.keep o7 (by simp; omega), HO7.out.then o7 [p] (by simp) (by simp)⟩
        rw [List.append_nil]; exact (HN7.out.more (Nat.le_trans hs6 o7.size)).less hsw
    · generalize hKK : kindM t.s = K at *
      have HK := Lib.hid hKK
      clear hKK
      have hK0i : ¬ (K : Int) = 0 := by omega
      have hK7i : ¬ (K : Int) = 7 := by omega
      have hK8i : ¬ (K : Int) = 8 := by omega
      have c0 := B6.out.cell 0
      go_wp2_with fail
      refine (pname_any _ p _ e HR4.out).mono ?_
      cases hb : nameF e l.tail with
      | error y =>
        rintro r w5 ⟨rfl, hO5⟩
        refine ⟨rfl, ?_⟩
        rw [Hl.out, stmn_err (by rw [HK.out]; exact hK0) (by rw [HK.out]; exact hK7) (by rw [HK.out]; exact hK8) hb]
        exact ⟨rfl, HO4.out.then hO5 [p] (by simp) (by simp)⟩
      | ok q =>
        obtain ⟨n, r1⟩ := q
        have HX := Lib.hid (stmn_ok (t := t) (f := f) (d := d) (by rw [HK.out]; exact hK0) (by rw [HK.out]; exact hK7) (by rw [HK.out]; exact hK8) hb)
        rintro r w5 ⟨rfl, hR, hO5⟩
        unfold encStr
        have b5 := B6.out.only hO5 (by simp; omega)
        have r5 := hr4.out.only hO5 (by simp; omega)
        have k3 := b5.cell 2
        have f3 := b5.notFrozen 2
        have hO6 : Only [g6] w5 (w5.setCell ⟨g6, 2, none⟩ (.string ⟨n.toArray⟩)) := (Only.refl _ _).setCell (.inl (by simp)) _
        have B7 := Lib.hid (IsBlk.put b5 2 (.string ⟨n.toArray⟩))
        have R7 := Lib.hid (r5.only hO6 (by simp; omega))
        have HR7 := Lib.hid (hR.keep hO6 (by simp; omega))
        have HO7 := Lib.hid ((HO4.out.then hO5 [p] (by simp) (by simp)).then hO6 [p] (by simp) (by simp; omega))
        have hg5 := b5.lt
        have hr5 := r5.lt
        clear hO5 hR b5 r5 B6 hr4 hq4 HR4 HO4 hO6 hb
        go_upto_region 14 with fail
        generalize hW5 : w5.setCell ⟨g6, 2, none⟩ (.string ⟨n.toArray⟩) = w6 at *
        have hs6 : w5.heap.size ≤ w6.heap.size := by rw [← hW5]; simp
        clear hW5 k3 f3
        have hg6 := B7.out.lt
        have hr6 := R7.out.lt
        simp only [List.setIfInBounds_toArray, List.set_cons_zero, List.set_cons_succ] at B7
        clear c0
        have hx1 : ¬ g6 = w.heap.size := by omega
        have hx2 : ¬ w.heap.size = g6 := by omega
        have z0 := R7.out.cell 0
        have z1 := R7.out.cell 1
        have z2 := R7.out.cell 2
        have z3 := R7.out.cell 3
        have z4 := R7.out.cell 4
        have y0 := R7.out.notFrozen 0
        have y1 := R7.out.notFrozen 1
        have y2 := R7.out.notFrozen 2
        have y3 := R7.out.notFrozen 3
        have y4 := R7.out.notFrozen 4
        have j0 := B7.out.cell 0
        have j1 := B7.out.cell 1
        have j2 := B7.out.cell 2
        have j3 := B7.out.cell 3
        have j4 := B7.out.cell 4
        go_wp2
        refine bodyPost_ret_by (ret_stm rfl _ _ w.heap.size _ rfl (five_world R7.out _ _ _ _ _).1 rfl) rfl ?_
        rw [Hl.out, HX.out, HK.out]
        obtain ⟨-, o7⟩ := five_world R7.out (.int .i64 K) (.int .i64 t.at_) (.string ⟨n.toArray⟩) (.slice none 0 0) (.slice none 0 0)
        exact ⟨_, _, [], [], rfl, BlkAt.nil _, BlkAt.nil _, NewB.nil _ _, HR7.out.keep o7 (by simp; omega), HO7.out.then o7 [p] (by simp) (by simp)⟩

end Go.Proofs.YtildkedplmjdaaaGreatDoor
