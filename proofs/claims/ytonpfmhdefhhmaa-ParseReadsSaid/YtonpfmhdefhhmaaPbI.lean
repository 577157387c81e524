/-
  Same of the package parse: sameDecl, sameFunc, slices.EqualFunc over both.
-/
import Derived.Test.YtonpfmhdefhhmaaPbF
namespace Go.Proofs.Ytonpfmhdefhhmaa
set_option maxRecDepth 100000
set_option linter.unusedVariables false
open Go.RowKit Go.Sort

set_option maxHeartbeats 4000000 in
theorem sameDecl_any (w : World) (x y : DeclM) : Calls Try.prog 49 #[.agg #[encStr x.name, .int .i64 x.at_], .agg #[encStr y.name, .int .i64 y.at_]] w fun e w' => e = .returned (.bool (decide (x.name = y.name))) ∧ Only [] w w' := by
  unfold encStr
  by_cases h : x.name = y.name
  · rw [h]
    go_enter Try.func49, Try.ntmps49
    go_wp2
    go_ret
    exact ⟨by simp, ((Only.refl _ _).alloc _).alloc _⟩
  · have h2 : (x.name == y.name) = false := by simp [h]
    go_enter Try.func49, Try.ntmps49
    go_wp2
    go_ret
    exact ⟨by simp [h], ((Only.refl _ _).alloc _).alloc _⟩

set_option maxHeartbeats 4000000 in
theorem sameFunc_any (w : World) (x y : FuncM) (va vb : Value) (fa fb : List Nat) (ha : BlkAt w va x.body fa) (hnd : fa.Nodup) (hN : x.body.cnt ≤ 100000) (hb : BlkAt w vb y.body fb) (hN2 : y.body.cnt ≤ 100000) :
    Calls Try.prog 51 #[.agg #[encStr x.name, .int .i64 x.at_, va], .agg #[encStr y.name, .int .i64 y.at_, vb]] w fun e w' => e = .returned (.bool (decide (x.name = y.name) && sameB x.body y.body)) ∧ Only [] w w' := by
  obtain ⟨xn, xp, xb⟩ := x
  obtain ⟨yn, yp, yb⟩ := y
  simp only at ha hN hb hN2 ⊢
  unfold encStr
  have hOa := ((Only.refl [] w).alloc (.cells #[.string ⟨xn.toArray⟩, .int .i64 xp, va] 47)).alloc (.cells #[.string ⟨yn.toArray⟩, .int .i64 yp, vb] 47)
  have HS := Lib.hid (sameBlock_any _ va vb xb yb fa fb (ha.more hOa) hnd hN (hb.more hOa) hN2)
  have HO := Lib.hid hOa
  obtain ⟨a0, c0, rfl, -⟩ := ha.slice
  obtain ⟨b0, d0, rfl, -⟩ := hb.slice
  clear ha hb hOa
  by_cases h : xn = yn
  · subst h
    have h2 : (xn == xn) = true := beq_self_eq_true _
    go_enter Try.func51, Try.ntmps51
    go_wp2_with fail
    refine HS.out.mono ?_
    rintro e w1 ⟨rfl, hO1⟩
    go_wp2
    go_ret
    exact ⟨by simp, HO.out.plus hO1⟩
  · have h2 : (xn == yn) = false := by simp [h]
    go_enter Try.func51, Try.ntmps51
    go_wp2
    go_ret
    exact ⟨by simp [h], HO.out⟩

def sameD : List DeclM → List DeclM → Bool
  | [], [] => true
  | x :: l, y :: m => decide (x.name = y.name) && sameD l m
  | _, _ => false
def sameF : List FuncM → List FuncM → Bool
  | [], [] => true
  | x :: l, y :: m => decide (x.name = y.name) && sameB x.body y.body && sameF l m
  | _, _ => false
theorem sameD_len : ∀ (l m : List DeclM), l.length ≠ m.length → sameD l m = false
  | [], [], h => absurd rfl h
  | [], _ :: _, _ => rfl
  | _ :: _, [], _ => rfl
  | x :: l, y :: m, h => by rw [sameD, sameD_len l m (fun e => h (by rw [List.length_cons, List.length_cons, e]))]; simp
theorem sameD_drop (l m : List DeclM) (i : Nat) (x y : DeclM) (hx : l[i]? = some x) (hy : m[i]? = some y) : sameD (l.drop i) (m.drop i) = (decide (x.name = y.name) && sameD (l.drop (i + 1)) (m.drop (i + 1))) := by
  obtain ⟨h1, h2⟩ := List.getElem?_eq_some_iff.1 hx
  obtain ⟨h3, h4⟩ := List.getElem?_eq_some_iff.1 hy
  rw [List.drop_eq_getElem_cons h1, List.drop_eq_getElem_cons h3, h2, h4, sameD]
theorem sameF_len : ∀ (l m : List FuncM), l.length ≠ m.length → sameF l m = false
  | [], [], h => absurd rfl h
  | [], _ :: _, _ => rfl
  | _ :: _, [], _ => rfl
  | x :: l, y :: m, h => by rw [sameF, sameF_len l m (fun e => h (by rw [List.length_cons, List.length_cons, e]))]; simp
theorem sameF_drop (l m : List FuncM) (i : Nat) (x y : FuncM) (hx : l[i]? = some x) (hy : m[i]? = some y) : sameF (l.drop i) (m.drop i) = ((decide (x.name = y.name) && sameB x.body y.body) && sameF (l.drop (i + 1)) (m.drop (i + 1))) := by
  obtain ⟨h1, h2⟩ := List.getElem?_eq_some_iff.1 hx
  obtain ⟨h3, h4⟩ := List.getElem?_eq_some_iff.1 hy
  rw [List.drop_eq_getElem_cons h1, List.drop_eq_getElem_cons h3, h2, h4, sameF]
theorem sameD_iff : ∀ (l m : List DeclM), sameD l m = decide (eraseD l = eraseD m)
  | [], [] => by simp [sameD]
  | [], _ :: _ => by simp [sameD, eraseD]
  | _ :: _, [] => by simp [sameD, eraseD]
  | x :: l, y :: m => by
    show (decide (x.name = y.name) && sameD l m) = decide ((⟨x.name, 0⟩ : DeclM) :: eraseD l = ⟨y.name, 0⟩ :: eraseD m)
    rw [sameD_iff l m]
    simp only [List.cons.injEq, DeclM.mk.injEq, and_true, Bool.decide_and]
theorem sameF_iff : ∀ (l m : List FuncM), sameF l m = decide (eraseF l = eraseF m)
  | [], [] => by simp [sameF]
  | [], _ :: _ => by simp [sameF, eraseF]
  | _ :: _, [] => by simp [sameF, eraseF]
  | x :: l, y :: m => by
    show (decide (x.name = y.name) && sameB x.body y.body && sameF l m) = decide ((⟨x.name, 0, eraseB x.body⟩ : FuncM) :: eraseF l = ⟨y.name, 0, eraseB y.body⟩ :: eraseF m)
    rw [sameF_iff l m, sameB_iff]
    simp only [List.cons.injEq, FuncM.mk.injEq, true_and, Bool.decide_and]

set_option maxHeartbeats 8000000 in
theorem equalD_any (w : World) (va vb : Value) (l m : List DeclM) (ha : DeclsAt w va l) (hb : DeclsAt w vb m) (hl : l.length ≤ 1000000) :
    Calls Try.prog 48 #[va, vb, .func (.func 49) #[] #[]] w fun e w' => e = .returned (.bool (sameD l m)) ∧ Only [] w w' := by
  obtain ⟨av, cv, rfl, hcv, hv⟩ := ha
  obtain ⟨bv, dv, rfl, hdv, hu⟩ := hb
  have Hv := Lib.hid hv
  have Hu := Lib.hid hu
  clear hv hu
  by_cases hll : l.length = m.length
  · have Hll := Lib.hid hll
    have hnb : ((l.length : Int) != (m.length : Int)) = false := by simp; omega
    clear hll
    go_enter Try.func48, Try.ntmps48
    go_wp2_with fail
    go_loopg [17] 10000000 (fun gk iv wr => ∃ i : Nat, iv = .int .i64 i ∧ i ≤ l.length ∧ l.length - i ≤ gk ∧ Hid (sameD l m = sameD (l.drop i) (m.drop i)) ∧ Only [] w wr)
    case atStart => exact ⟨0, rfl, Nat.zero_le _, by omega, Lib.hid rfl, Only.refl _ _⟩
    case round =>
      obtain ⟨i, rfl, hi, hgk, hR, hO⟩ := hrel
      have HO := Lib.hid hO
      clear hO
      by_cases hlt : i < l.length
      · have hlti : (i : Int) < (l.length : Int) := by omega
        have hltm : (i : Int) < (m.length : Int) := by have := Hll.out; omega
        have hi0 : (0 : Int) ≤ (i : Int) := by omega
        have hgx : l[i]? = some l[i] := List.getElem?_eq_getElem hlt
        have hgy : m[i]? = some (m[i]'(by have := Hll.out; omega)) := List.getElem?_eq_getElem (by have := Hll.out; omega)
        obtain ⟨g, hag, hg, hra⟩ := Hv.out (by omega)
        obtain ⟨k, hbg, hk, hrb⟩ := Hu.out (by omega)
        obtain ⟨e1, e2⟩ := dcells_get _ _ _ hgx
        obtain ⟨d1, d2⟩ := dcells_get _ _ _ hgy
        have r1 := hra _ _ e1
        have r2 := hra _ _ e2
        have s1 := hrb _ _ d1
        have s2 := hrb _ _ d2
        rw [Nat.zero_add] at r1 r2 s1 s2
        have c0 := (HO.out.cell (p := ⟨g, i * 2, none⟩) hg (by simp)).trans r1
        have c1 := (HO.out.cell (p := ⟨g, i * 2 + 1, none⟩) hg (by simp)).trans r2
        have b0 := (HO.out.cell (p := ⟨k, i * 2, none⟩) hk (by simp)).trans s1
        have b1 := (HO.out.cell (p := ⟨k, i * 2 + 1, none⟩) hk (by simp)).trans s2
        have Hdr := Lib.hid (sameD_drop l m i _ _ hgx hgy)
        clear e1 e2 d1 d2 r1 r2 s1 s2 hra hrb
        have hgw : g < wr.heap.size := Nat.lt_of_lt_of_le hg HO.out.size
        have hkw : k < wr.heap.size := Nat.lt_of_lt_of_le hk HO.out.size
        clear hgx hgy
        generalize l[i] = x at *
        generalize m[i]'(by have := Hll.out; omega) = y at *
        subst hag hbg
        unfold encStr at c0 b0
        have Hob := Lib.hid (((Only.refl [] wr).alloc (.cells #[.string ⟨x.name.toArray⟩, .int .i64 x.at_] 59)).alloc (.cells #[.string ⟨y.name.toArray⟩, .int .i64 y.at_] 59))
        have hc := sameDecl_any ((wr.alloc (.cells #[.string ⟨x.name.toArray⟩, .int .i64 x.at_] 59)).alloc (.cells #[.string ⟨y.name.toArray⟩, .int .i64 y.at_] 59)) x y
        unfold encStr at hc
        have Hc := Lib.hid hc
        clear hc
        go_wp2_with fail
        refine Hc.out.mono ?_
        rintro e w5 ⟨rfl, hO5⟩
        have HO5 := Lib.hid ((HO.out.plus Hob.out).plus hO5)
        clear hO5
        cases hres : decide (x.name = y.name) with
        | true =>
          go_wp2
          go_roundg (l.length - (i + 1))
          case measure => omega
          case rel => exact ⟨i + 1, by go_num, hlt, by omega, Lib.hid (by rw [hR.out, Hdr.out, hres, Bool.true_and]), HO5.out⟩
        | false =>
          go_wp2
          go_ret
          exact ⟨by rw [hR.out, Hdr.out, hres, Bool.false_and]; rfl, HO5.out⟩
      · have hlti : ¬ (i : Int) < (l.length : Int) := by omega
        go_wp2
        go_ret
        refine ⟨?_, HO.out⟩
        rw [hR.out, List.drop_of_length_le (by omega), List.drop_of_length_le (by have := Hll.out; omega)]
        rfl
  · have hnb : ((l.length : Int) != (m.length : Int)) = true := by simp; omega
    have HR := Lib.hid (sameD_len l m hll)
    clear hll
    go_enter Try.func48, Try.ntmps48
    go_wp2
    go_ret
    exact ⟨by rw [HR.out]; rfl, Only.refl _ _⟩

set_option maxHeartbeats 8000000 in
theorem equalF_any (w : World) (va vb : Value) (l m : List FuncM) (ha : FuncsAt w va l) (hb : FuncsAt w vb m) (hl : l.length ≤ 1000000) (hB : ∀ f ∈ l, f.body.cnt ≤ 100000) (hB2 : ∀ f ∈ m, f.body.cnt ≤ 100000) :
    Calls Try.prog 50 #[va, vb, .func (.func 51) #[] #[]] w fun e w' => e = .returned (.bool (sameF l m)) ∧ Only [] w w' := by
  obtain ⟨av, cv, rfl, hcv, hv⟩ := ha
  obtain ⟨bv, dv, rfl, hdv, hu⟩ := hb
  have Hv := Lib.hid hv
  have Hu := Lib.hid hu
  clear hv hu
  by_cases hll : l.length = m.length
  · have Hll := Lib.hid hll
    have hnb : ((l.length : Int) != (m.length : Int)) = false := by simp; omega
    clear hll
    go_enter Try.func50, Try.ntmps50
    go_wp2_with fail
    go_loopg [17] 10000000 (fun gk iv wr => ∃ i : Nat, iv = .int .i64 i ∧ i ≤ l.length ∧ l.length - i ≤ gk ∧ Hid (sameF l m = sameF (l.drop i) (m.drop i)) ∧ Only [] w wr)
    case atStart => exact ⟨0, rfl, Nat.zero_le _, by omega, Lib.hid rfl, Only.refl _ _⟩
    case round =>
      obtain ⟨i, rfl, hi, hgk, hR, hO⟩ := hrel
      have HO := Lib.hid hO
      clear hO
      by_cases hlt : i < l.length
      · have hlti : (i : Int) < (l.length : Int) := by omega
        have hltm : (i : Int) < (m.length : Int) := by have := Hll.out; omega
        have hi0 : (0 : Int) ≤ (i : Int) := by omega
        have hgx : l[i]? = some l[i] := List.getElem?_eq_getElem hlt
        have hgy : m[i]? = some (m[i]'(by have := Hll.out; omega)) := List.getElem?_eq_getElem (by have := Hll.out; omega)
        have hcx := hB _ (List.getElem_mem hlt)
        have hcy := hB2 _ (List.getElem_mem (show i < m.length by have := Hll.out; omega))
        obtain ⟨g, xs, fp, hag, hg, hra, hef⟩ := Hv.out (by omega)
        obtain ⟨k, ys, fq, hbg, hk, hrb, heg⟩ := Hu.out (by omega)
        obtain ⟨vx, fx, e1, e2, e3, hbx, hnx⟩ := hef.get _ _ hgx
        obtain ⟨vy, fy, d1, d2, d3, hby, hny⟩ := heg.get _ _ hgy
        have r1 := hra _ _ e1
        have r2 := hra _ _ e2
        have r3 := hra _ _ e3
        have s1 := hrb _ _ d1
        have s2 := hrb _ _ d2
        have s3 := hrb _ _ d3
        rw [Nat.zero_add] at r1 r2 r3 s1 s2 s3
        have c0 := (HO.out.cell (p := ⟨g, i * 3, none⟩) hg (by simp)).trans r1
        have c1 := (HO.out.cell (p := ⟨g, i * 3 + 1, none⟩) hg (by simp)).trans r2
        have c2 := (HO.out.cell (p := ⟨g, i * 3 + 2, none⟩) hg (by simp)).trans r3
        have b0 := (HO.out.cell (p := ⟨k, i * 3, none⟩) hk (by simp)).trans s1
        have b1 := (HO.out.cell (p := ⟨k, i * 3 + 1, none⟩) hk (by simp)).trans s2
        have b2 := (HO.out.cell (p := ⟨k, i * 3 + 2, none⟩) hk (by simp)).trans s3
        have Hdr := Lib.hid (sameF_drop l m i _ _ hgx hgy)
        have Hbx := Lib.hid (hbx.more HO.out)
        have Hby := Lib.hid (hby.more HO.out)
        obtain ⟨xa, xc, rfl, -⟩ := hbx.slice
        obtain ⟨ya, yc, rfl, -⟩ := hby.slice
        clear e1 e2 e3 d1 d2 d3 r1 r2 r3 s1 s2 s3 hra hrb hef heg hbx hby
        have hgw : g < wr.heap.size := Nat.lt_of_lt_of_le hg HO.out.size
        have hkw : k < wr.heap.size := Nat.lt_of_lt_of_le hk HO.out.size
        clear hgx hgy
        generalize l[i] = x at *
        generalize m[i]'(by have := Hll.out; omega) = y at *
        subst hag hbg
        unfold encStr at c0 b0
        have Hob := Lib.hid (((Only.refl [] wr).alloc (.cells #[.string ⟨x.name.toArray⟩, .int .i64 x.at_, .slice xa x.body.len xc] 47)).alloc (.cells #[.string ⟨y.name.toArray⟩, .int .i64 y.at_, .slice ya y.body.len yc] 47))
        have hc := sameFunc_any _ x y _ _ fx fy (Hbx.out.more Hob.out) hnx hcx (Hby.out.more Hob.out) hcy
        unfold encStr at hc
        have Hc := Lib.hid hc
        clear hc
        go_wp2_with fail
        refine Hc.out.mono ?_
        rintro e w5 ⟨rfl, hO5⟩
        have HO5 := Lib.hid ((HO.out.plus Hob.out).plus hO5)
        clear hO5
        cases hres : (decide (x.name = y.name) && sameB x.body y.body) with
        | true =>
          go_wp2
          go_roundg (l.length - (i + 1))
          case measure => omega
          case rel => exact ⟨i + 1, by go_num, hlt, by omega, Lib.hid (by rw [hR.out, Hdr.out, hres, Bool.true_and]), HO5.out⟩
        | false =>
          go_wp2
          go_ret
          exact ⟨by rw [hR.out, Hdr.out, hres, Bool.false_and]; rfl, HO5.out⟩
      · have hlti : ¬ (i : Int) < (l.length : Int) := by omega
        go_wp2
        go_ret
        refine ⟨?_, HO.out⟩
        rw [hR.out, List.drop_of_length_le (by omega), List.drop_of_length_le (by have := Hll.out; omega)]
        rfl
  · have hnb : ((l.length : Int) != (m.length : Int)) = true := by simp; omega
    have HR := Lib.hid (sameF_len l m hll)
    clear hll
    go_enter Try.func50, Try.ntmps50
    go_wp2
    go_ret
    exact ⟨by rw [HR.out]; rfl, Only.refl _ _⟩

def sameP (P Q : ProgM) : Bool := sameD P.vars Q.vars && (sameD P.locks Q.locks && sameF P.funcs Q.funcs)
theorem sameP_iff (P Q : ProgM) : sameP P Q = decide (eraseP P = eraseP Q) := by
  unfold sameP eraseP
  rw [sameD_iff, sameD_iff, sameF_iff]
  simp only [ProgM.mk.injEq, Bool.decide_and]

set_option maxHeartbeats 8000000 in
theorem same_any (w : World) (pv pl pf qv ql qf : Value) (P Q : ProgM) (hP : ProgAt w pv pl pf P) (hQ : ProgAt w qv ql qf Q) (hB : ∀ f ∈ P.funcs, f.body.cnt ≤ 100000) (hB2 : ∀ f ∈ Q.funcs, f.body.cnt ≤ 100000)
    (hn : P.vars.length ≤ 1000000 ∧ P.locks.length ≤ 1000000 ∧ P.funcs.length ≤ 1000000) :
    Calls Try.prog 25 #[.agg #[pv, pl, pf], .agg #[qv, ql, qf]] w fun e w' => e = .returned (.bool (sameP P Q)) ∧ Only [] w w' := by
  have hOa := ((Only.refl [] w).alloc (.cells #[pv, pl, pf] 30)).alloc (.cells #[qv, ql, qf] 30)
  have b1 := (IsBlk.made w (.cells #[pv, pl, pf] 30)).alloc (.cells #[qv, ql, qf] 30)
  have b2 := IsBlk.made (w.alloc (.cells #[pv, pl, pf] 30)) (.cells #[qv, ql, qf] 30)
  rw [show (w.alloc (.cells #[pv, pl, pf] 30)).heap.size = w.heap.size + 1 from by simp] at b2
  have hP2 := hP.more hOa
  have hQ2 := hQ.more hOa
  have HP := Lib.hid hP2
  have HQ := Lib.hid hQ2
  obtain ⟨⟨a1, c1, rfl, -⟩, ⟨a2, c2, rfl, -⟩, ⟨a3, c3, rfl, -⟩⟩ := hP
  obtain ⟨⟨d1, e1, rfl, -⟩, ⟨d2, e2, rfl, -⟩, ⟨d3, e3, rfl, -⟩⟩ := hQ
  have HB := Lib.hid (And.intro hB hB2)
  have Hb1 := Lib.hid b1
  have Hb2 := Lib.hid b2
  have HO := Lib.hid hOa
  clear hP2 hQ2 hB hB2 b1 b2 hOa
  go_enter Try.func25, Try.ntmps25
  go_upto_region 1 with fail
  generalize hW : (w.alloc (.cells #[.slice a1 P.vars.length c1, .slice a2 P.locks.length c2, .slice a3 P.funcs.length c3] 30)).alloc (.cells #[.slice d1 Q.vars.length e1, .slice d2 Q.locks.length e2, .slice d3 Q.funcs.length e3] 30) = w1 at *
  clear hW
  have x0 := Hb1.out.cell 0
  have y0 := Hb2.out.cell 0
  have xl := Hb1.out.lt
  have yl := Hb2.out.lt
  go_wp2_with fail
  refine (equalD_any w1 _ _ _ _ HP.out.1 HQ.out.1 hn.1).mono ?_
  rintro e w2 ⟨rfl, hO2⟩
  have HO2 := Lib.hid hO2
  clear x0 y0 xl yl
  have x0 := (Hb1.out.only hO2 (by simp)).cell 1
  have y0 := (Hb2.out.only hO2 (by simp)).cell 1
  have xl := (Hb1.out.only hO2 (by simp)).lt
  have yl := (Hb2.out.only hO2 (by simp)).lt
  clear hO2
  cases hv : sameD P.vars Q.vars with
  | false =>
    go_wp2
    go_ret
    exact ⟨by rw [sameP, hv, Bool.false_and]; rfl, HO.out.plus HO2.out⟩
  | true =>
    have Hv := Lib.hid hv
    clear hv
    go_wp2_with fail
    refine (equalD_any w2 _ _ _ _ (HP.out.2.1.more HO2.out) (HQ.out.2.1.more HO2.out) hn.2.1).mono ?_
    rintro e w3 ⟨rfl, hO3⟩
    have HO3 := Lib.hid (HO2.out.plus hO3)
    clear x0 y0 xl yl hO3
    have x0 := (Hb1.out.only HO3.out (by simp)).cell 2
    have y0 := (Hb2.out.only HO3.out (by simp)).cell 2
    have xl := (Hb1.out.only HO3.out (by simp)).lt
    have yl := (Hb2.out.only HO3.out (by simp)).lt
    cases hl : sameD P.locks Q.locks with
    | false =>
      go_wp2
      go_ret
      exact ⟨by rw [sameP, Hv.out, hl]; rfl, HO.out.plus HO3.out⟩
    | true =>
      have Hl := Lib.hid hl
      clear hl
      go_wp2_with fail
      refine (equalF_any w3 _ _ _ _ (HP.out.2.2.more HO3.out) (HQ.out.2.2.more HO3.out) hn.2.2 HB.out.1 HB.out.2).mono ?_
      rintro e w4 ⟨rfl, hO4⟩
      go_wp2
      go_ret
      exact ⟨by rw [sameP, Hv.out, Hl.out]; rfl, (HO.out.plus HO3.out).plus hO4⟩

end Go.Proofs.Ytonpfmhdefhhmaa
