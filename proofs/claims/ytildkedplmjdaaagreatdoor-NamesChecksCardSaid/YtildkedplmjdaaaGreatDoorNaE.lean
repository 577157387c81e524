/-
  declare of the package names: what each name is declared as.
-/
import Derived.Test.YtildkedplmjdaaaGreatDoorNaD
namespace Go.Proofs.YtildkedplmjdaaaGreatDoor
set_option maxRecDepth 100000
set_option linter.unusedVariables false
open Go.RowKit Go.Sort

def vD (d : DeclM) : Dcl := (d.name, d.at_, 1)
def lD (d : DeclM) : Dcl := (d.name, d.at_, 2)
def fD (d : FuncM) : Dcl := (d.name, d.at_, 3)
theorem dcls_eq (P : ProgM) : dclsM P = P.vars.map vD ++ (P.locks.map lD ++ P.funcs.map fD) := rfl
/-- Names that are short, of a program. -/
def ShortP (n : Nat) (P : ProgM) : Prop := (∀ d ∈ P.vars, d.name.length ≤ n) ∧ (∀ d ∈ P.locks, d.name.length ≤ n) ∧ ∀ d ∈ P.funcs, d.name.length ≤ n ∧ ShortB n d.body

theorem decls_open {w : World} {v : Value} {l : List DeclM} (h : DeclsAt w v l) : ∃ a c, v = .slice a l.length c ∧ (0 < l.length → ∃ g, a = some ⟨g, 0, none⟩ ∧ g < w.heap.size ∧ w.rangeAt g (0 * 2) (dcells l)) := by
  obtain ⟨a, c, rfl, hc, h⟩ := h
  exact ⟨a, c, rfl, fun h0 => by obtain ⟨g, h1, h2, h3⟩ := h h0; exact ⟨g, h1, h2, by rw [Nat.zero_mul]; exact h3⟩⟩
theorem dcells_cons (d : DeclM) (r : List DeclM) : dcells (d :: r) = encStr d.name :: .int .i64 d.at_ :: dcells r := by simp [dcells]

/-- The names that were declared, as the table has them. -/
def SeenAt (w0 w : World) (mb : Nat) (s : List Dcl) : Prop := TblAt w mb s.length (kindOf s) ∧ (∀ d ∈ s, 1 ≤ d.2.2) ∧ w0.heap.size ≤ mb ∧ Only [] w0 w
theorem SeenAt.more {w0 w w' : World} {mb : Nat} {s : List Dcl} (h : SeenAt w0 w mb s) (hO : Only [] w w') : SeenAt w0 w' mb s :=
  ⟨h.1.keep hO (by simp), h.2.1, h.2.2.1, h.2.2.2.plus hO⟩
/-- One more: a fault, or it is in the table. -/
theorem seen_add (w0 w : World) (mb : Nat) (s : List Dcl) (h : SeenAt w0 w mb s) (hs : s.length < 1000) (d : Dcl) (hd : d.1.length ≤ 1000000) (hk : 1 ≤ d.2.2 ∧ d.2.2 ≤ 3) (r : List Dcl) :
    Calls Tryz.prog 72 #[.map (some mb), encStr d.1, .int .i64 d.2.1, .int .i64 d.2.2] w fun e w' =>
      (twiceM s (d :: r) = some d.2.1 ∧ e = placedE (d.2.1, 9) ∧ Only [] w0 w') ∨ (twiceM s (d :: r) = twiceM (s ++ [d]) r ∧ e = .returned (.tuple #[]) ∧ SeenAt w0 w' mb (s ++ [d]) ∧ Only [mb] w w') := by
  refine (add_any w mb s.length (kindOf s) h.1 hs d.1 hd d.2.1 d.2.2 hk.2).mono ?_
  rintro e w' (⟨h1, h2, hO⟩ | ⟨h1, h2, hT, hO⟩)
  · refine .inl ⟨?_, h2, h.2.2.2.plus hO⟩
    rw [twiceM, if_pos]
    exact Decidable.not_not.1 (fun hn => h1 ((kindOf_zero s d.1 h.2.1).2 hn))
  · have hn := (kindOf_zero s d.1 h.2.1).1 h1
    refine .inr ⟨by rw [twiceM, if_neg hn], h2, ⟨?_, ?_, h.2.2.1, h.2.2.2.then hO [] (by simp) (fun i hi => .inr (by simp only [List.mem_singleton] at hi; subst hi; exact h.2.2.1))⟩, hO⟩
    · have e : kindOf (s ++ [d]) = fun y => if y = d.1 then d.2.2 else kindOf s y := funext fun y => kindOf_snoc s d y hn
      rw [e, List.length_append]
      exact hT
    · intro x hx
      rcases List.mem_append.1 hx with hx | hx
      · exact h.2.1 x hx
      · simp only [List.mem_singleton] at hx; subst hx; exact hk.1

def DeclTo (w : World) (P : ProgM) (r : Ending) (w' : World) : Prop :=
  (∃ p, twiceM [] (dclsM P) = some p ∧ r = placedE (p, 9) ∧ Only [] w w') ∨ (twiceM [] (dclsM P) = none ∧ ∃ mb n, r = .returned (.map (some mb)) ∧ TblAt w' mb n (kindOf (dclsM P)) ∧ w.heap.size ≤ mb ∧ Only [] w w')

set_option maxHeartbeats 16000000 in
theorem declare_any (w : World) (vv vl vf : Value) (P : ProgM) (h : ProgAt w vv vl vf P) (hv : P.vars.length ≤ 20) (hl : P.locks.length ≤ 20) (hf : P.funcs.length ≤ 20) (hsh : ShortP 1000000 P) :
    Calls Tryz.prog 53 #[.agg #[vv, vl, vf]] w (DeclTo w P) := by
  obtain ⟨h1, h2, h3⟩ := h
  obtain ⟨av, cv, rfl, hrv⟩ := decls_open h1
  obtain ⟨al, cl, rfl, hrl⟩ := decls_open h2
  obtain ⟨af, cf, xs, fp, rfl, hE, hrf⟩ := funcs_open h3
  have H := Lib.hid (And.intro hrv (And.intro hrl (And.intro hE hrf)))
  have Hsh := Lib.hid hsh
  have hOb := (Only.refl [] w).alloc (.cells #[.slice av P.vars.length cv, .slice al P.locks.length cl, .slice af P.funcs.length cf] 30)
  have hb := IsBlk.made w (.cells #[.slice av P.vars.length cv, .slice al P.locks.length cl, .slice af P.funcs.length cf] 30)
  have HO := Lib.hid hOb
  have Hb := Lib.hid hb
  clear h1 h2 h3 hrv hrl hE hrf hsh hOb hb
  go_enter Tryz.func53, Tryz.ntmps53
  go_upto_region 1 with fail
  generalize hW1 : w.alloc (.cells #[.slice av P.vars.length cv, .slice al P.locks.length cl, .slice af P.funcs.length cf] 30) = w1 at *
  clear hW1
  have hbn : w.heap.size < w1.heap.size := Hb.out.lt
  have hm := TblAt.made w1
  have hOm := (Only.refl [] w1).alloc (.map #[] 0)
  have HS : Hid (SeenAt w1 (w1.alloc (.map #[] 0)) w1.heap.size []) := Lib.hid ⟨hm, by simp, Nat.le_refl _, hOm⟩
  have Hb2 := Lib.hid (Hb.out.only hOm (by simp))
  clear hm hOm
  have z0 := Hb2.out.cell 0
  have z1 := Hb2.out.cell 1
  have z2 := Hb2.out.cell 2
  have zl := Hb2.out.lt
  have hmk : ∀ W : World, (Instr.makeMap 105 none).run Tryz.prog W = .ok (.map (some W.heap.size)) (W.alloc (.map #[] 0)) := fun W => run_makeMap _ W
  have Hlen : Hid ((dclsM P).length ≤ 60) := Lib.hid (by rw [dcls_eq]; simp; omega)
  go_upto_region 3 with fail
  generalize hW2 : w1.alloc (.map #[] 0) = w2 at *
  clear hW2
  generalize hmb : w1.heap.size = mb at *
  clear z0 z1 z2 zl
  go_loopw [14] (fun iv wr => ∃ (j : Nat) (rs : List DeclM) (s : List Dcl), iv = .int .i64 j ∧ j + rs.length = P.vars.length ∧ (∀ d ∈ rs, d ∈ P.vars) ∧ s ++ (rs.map vD ++ (P.locks.map lD ++ P.funcs.map fD)) = dclsM P ∧ (0 < rs.length → ∃ g, av = some ⟨g, 0, none⟩ ∧ g < w.heap.size ∧ w.rangeAt g (j * 2) (dcells rs)) ∧ twiceM [] (dclsM P) = twiceM s (rs.map vD ++ (P.locks.map lD ++ P.funcs.map fD)) ∧ SeenAt w1 wr mb s) (fun iv _ => P.vars.length - (intOf iv).toNat)
  case atStart => exact ⟨0, P.vars, [], rfl, by omega, fun _ h => h, rfl, H.out.1, rfl, HS.out⟩
  case round =>
    obtain ⟨j, rs, s, rfl, hjl, hmem, hsl, hra, htw, hS⟩ := hrel
    have HS := Lib.hid hS
    have Htw := Lib.hid htw
    have hO0 := hS.2.2.2
    have hOz := Lib.hid (HO.out.plus hO0)
    have Hbr := Lib.hid (Hb.out.only hO0 (by simp))
    have y0 := Hbr.out.cell 0
    have y1 := Hbr.out.cell 1
    have y2 := Hbr.out.cell 2
    have yl := Hbr.out.lt
    clear hS htw hO0
    cases rs with
    | nil =>
      have hji : ¬ (j : Int) < (P.vars.length : Int) := by simp only [List.length_nil] at hjl; omega
      have Hsl : Hid (s ++ ([] ++ (P.locks.map lD ++ P.funcs.map fD)) = dclsM P) := Lib.hid hsl
      clear hsl hmem hra
      go_upto_region 8 with fail
      clear y0 y1 y2 yl hOz Hbr
      go_loopw [28] (fun iv wr => ∃ (j : Nat) (rs : List DeclM) (s : List Dcl), iv = .int .i64 j ∧ j + rs.length = P.locks.length ∧ (∀ d ∈ rs, d ∈ P.locks) ∧ s ++ (rs.map lD ++ P.funcs.map fD) = dclsM P ∧ (0 < rs.length → ∃ g, al = some ⟨g, 0, none⟩ ∧ g < w.heap.size ∧ w.rangeAt g (j * 2) (dcells rs)) ∧ twiceM [] (dclsM P) = twiceM s (rs.map lD ++ P.funcs.map fD) ∧ SeenAt w1 wr mb s) (fun iv _ => P.locks.length - (intOf iv).toNat)
      case atStart => exact ⟨0, P.locks, s, rfl, by omega, fun _ h => h, Hsl.out, H.out.2.1, Htw.out, HS.out⟩
      case round =>
        obtain ⟨j, rs, s, rfl, hjl, hmem, hsl, hra, htw, hS⟩ := hrel
        have HS := Lib.hid hS
        have Htw := Lib.hid htw
        have hO0 := hS.2.2.2
        have hOz := Lib.hid (HO.out.plus hO0)
        have Hbr := Lib.hid (Hb.out.only hO0 (by simp))
        have y0 := Hbr.out.cell 0
        have y1 := Hbr.out.cell 1
        have y2 := Hbr.out.cell 2
        have yl := Hbr.out.lt
        clear hS htw hO0
        cases rs with
        | nil =>
          have hji : ¬ (j : Int) < (P.locks.length : Int) := by simp only [List.length_nil] at hjl; omega
          have Hsl : Hid (s ++ ([] ++ P.funcs.map fD) = dclsM P) := Lib.hid hsl
          clear hsl hmem hra
          go_upto_region 13 with fail
          clear y0 y1 y2 yl hOz Hbr
          go_loopw [42] (fun iv wr => ∃ (j : Nat) (rs : List FuncM) (s : List Dcl) (xr : List Value) (fr : List Nat), iv = .int .i64 j ∧ j + rs.length = P.funcs.length ∧ (∀ d ∈ rs, d ∈ P.funcs) ∧ s ++ (rs.map fD) = dclsM P ∧ EncF w rs xr fr ∧ (0 < rs.length → ∃ g, af = some ⟨g, 0, none⟩ ∧ g < w.heap.size ∧ w.rangeAt g (j * 3) xr) ∧ twiceM [] (dclsM P) = twiceM s (rs.map fD) ∧ SeenAt w1 wr mb s) (fun iv _ => P.funcs.length - (intOf iv).toNat)
          case atStart => exact ⟨0, P.funcs, s, xs, fp, rfl, by omega, fun _ h => h, Hsl.out, H.out.2.2.1, H.out.2.2.2, Htw.out, HS.out⟩
          case round =>
            obtain ⟨j, rs, s, xr, fr, rfl, hjl, hmem, hsl, hE, hra, htw, hS⟩ := hrel
            have HS := Lib.hid hS
            have Htw := Lib.hid htw
            have hO0 := hS.2.2.2
            have hOz := Lib.hid (HO.out.plus hO0)
            have Hbr := Lib.hid (Hb.out.only hO0 (by simp))
            have y0 := Hbr.out.cell 0
            have y1 := Hbr.out.cell 1
            have y2 := Hbr.out.cell 2
            have yl := Hbr.out.lt
            clear hS htw hO0
            cases rs with
            | nil =>
              have hji : ¬ (j : Int) < (P.funcs.length : Int) := by simp only [List.length_nil] at hjl; omega
              have Hsl : Hid (s ++ ([]) = dclsM P) := Lib.hid hsl
              clear hsl hmem hra hE
              go_wp2_with fail
              go_ret
              have e : s = dclsM P := by have := Hsl.out; rwa [List.append_nil] at this
              refine .inr ⟨by rw [Htw.out]; rfl, mb, s.length, rfl, ?_, by omega, hOz.out⟩
              rw [← e]; exact HS.out.1
            | cons d rr =>
              obtain ⟨va, fa, fr', xr', rfl, rfl, hA, -, hE'⟩ := hE
              obtain ⟨aa, ca, rfl, hca⟩ := RowE.slice hA
              obtain ⟨gx, hxa, hgx, hrx⟩ := hra (by simp)
              have hrz := rangeAt_only hrx hOz.out hgx (by simp)
              have k0 : wr.cell? ⟨gx, j * 3, none⟩ = some (.string ⟨d.name.toArray⟩) := hrz 0 _ rfl
              have k1 : wr.cell? ⟨gx, j * 3 + 1, none⟩ = some (.int .i64 d.at_) := hrz 1 _ rfl
              have k2 : wr.cell? ⟨gx, j * 3 + 2, none⟩ = some (.slice aa d.body.len ca) := hrz 2 _ rfl
              have hgxz : gx < wr.heap.size := Nat.lt_of_lt_of_le hgx hOz.out.size
              have hji : (j : Int) < (P.funcs.length : Int) := by simp only [List.length_cons] at hjl; omega
              have Hjl : Hid (j + (rr.length + 1) = P.funcs.length) := Lib.hid hjl
              have Hsl : Hid (s ++ (fD d :: (rr.map fD)) = dclsM P) := Lib.hid hsl
              have hdm := hmem d (by simp)
              have hdn : d.name.length ≤ 1000000 := (Hsh.out.2.2 d hdm).1
              have HF := Lib.hid (And.intro hmem (And.intro hE' hrx))
              clear hrx hrz hra hjl hsl hmem hdm hE' hA
              have hOa := (Only.refl [] wr).alloc (.cells #[.string ⟨d.name.toArray⟩, .int .i64 d.at_, .slice aa d.body.len ca] 51)
              have HS2 := Lib.hid (HS.out.more hOa)
              clear hOa
              rw [hxa]
              go_wp2_with fail
              generalize hWa : wr.alloc (.cells #[.string ⟨d.name.toArray⟩, .int .i64 d.at_, .slice aa d.body.len ca] 51) = wa at *
              clear hWa
              have hs1000 : s.length < 1000 := by have h8 := congrArg List.length Hsl.out; have h7 := Hlen.out; rw [List.length_append, List.length_cons] at h8; omega
              refine (seen_add w1 wa mb s HS2.out hs1000 (fD d) hdn (by simp [fD]) (rr.map fD)).mono ?_
              rintro r W2 (⟨h2, rfl, hO2⟩ | ⟨h2, rfl, hS2, hO2⟩)
              · refine ⟨rfl, .inl ⟨_, ?_, rfl, HO.out.plus hO2⟩⟩
                rw [Htw.out]; exact h2
              · have H2 := Lib.hid h2
                have HS3 := Lib.hid hS2
                clear hO2 hS2 h2
                go_wp2
                rw [← hxa]
                go_roundw
                case rel =>
                  refine ⟨j + 1, rr, s ++ [fD d], xr', fr', by go_num, by have := Hjl.out; omega, fun x hx => HF.out.1 x (by simp [hx]), by rw [List.append_assoc]; exact Hsl.out, HF.out.2.1, fun h => ⟨gx, hxa, hgx, ?_⟩, ?_, HS3.out⟩
                  · intro i u hu
                    have := HF.out.2.2 (i + 3) u hu
                    rw [show j * 3 + (i + 3) = (j + 1) * 3 + i by omega] at this
                    exact this
                  · rw [Htw.out]; exact H2.out
                case measure => have h9 := Hjl.out; simp [intOf]; omega
        | cons d rr =>
          obtain ⟨gx, hxa, hgx, hrx⟩ := hra (by simp)
          rw [dcells_cons] at hrx
          have hrz := rangeAt_only hrx hOz.out hgx (by simp)
          have k0 : wr.cell? ⟨gx, j * 2, none⟩ = some (.string ⟨d.name.toArray⟩) := hrz 0 _ rfl
          have k1 : wr.cell? ⟨gx, j * 2 + 1, none⟩ = some (.int .i64 d.at_) := hrz 1 _ rfl
          have hgxz : gx < wr.heap.size := Nat.lt_of_lt_of_le hgx hOz.out.size
          have hji : (j : Int) < (P.locks.length : Int) := by simp only [List.length_cons] at hjl; omega
          have Hjl : Hid (j + (rr.length + 1) = P.locks.length) := Lib.hid hjl
          have Hsl : Hid (s ++ (lD d :: (rr.map lD ++ P.funcs.map fD)) = dclsM P) := Lib.hid hsl
          have hdm := hmem d (by simp)
          have hdn : d.name.length ≤ 1000000 := Hsh.out.2.1 d hdm
          have HF := Lib.hid (And.intro hmem hrx)
          clear hrx hrz hra hjl hsl hmem hdm
          have hOa := (Only.refl [] wr).alloc (.cells #[.string ⟨d.name.toArray⟩, .int .i64 d.at_] 59)
          have HS2 := Lib.hid (HS.out.more hOa)
          clear hOa
          rw [hxa]
          go_wp2_with fail
          generalize hWa : wr.alloc (.cells #[.string ⟨d.name.toArray⟩, .int .i64 d.at_] 59) = wa at *
          clear hWa
          have hs1000 : s.length < 1000 := by have h8 := congrArg List.length Hsl.out; have h7 := Hlen.out; rw [List.length_append, List.length_cons] at h8; omega
          refine (seen_add w1 wa mb s HS2.out hs1000 (lD d) hdn (by simp [lD]) (rr.map lD ++ P.funcs.map fD)).mono ?_
          rintro r W2 (⟨h2, rfl, hO2⟩ | ⟨h2, rfl, hS2, hO2⟩)
          · refine ⟨rfl, .inl ⟨_, ?_, rfl, HO.out.plus hO2⟩⟩
            rw [Htw.out]; exact h2
          · have H2 := Lib.hid h2
            have HS3 := Lib.hid hS2
            clear hO2 hS2 h2
            go_wp2
            rw [← hxa]
            go_roundw
            case rel =>
              refine ⟨j + 1, rr, s ++ [lD d], by go_num, by have := Hjl.out; omega, fun x hx => HF.out.1 x (by simp [hx]), by rw [List.append_assoc]; exact Hsl.out, fun h => ⟨gx, hxa, hgx, ?_⟩, ?_, HS3.out⟩
              · intro i u hu
                have := HF.out.2 (i + 2) u hu
                rw [show j * 2 + (i + 2) = (j + 1) * 2 + i by omega] at this
                exact this
              · rw [Htw.out]; exact H2.out
            case measure => have h9 := Hjl.out; simp [intOf]; omega
    | cons d rr =>
      obtain ⟨gx, hxa, hgx, hrx⟩ := hra (by simp)
      rw [dcells_cons] at hrx
      have hrz := rangeAt_only hrx hOz.out hgx (by simp)
      have k0 : wr.cell? ⟨gx, j * 2, none⟩ = some (.string ⟨d.name.toArray⟩) := hrz 0 _ rfl
      have k1 : wr.cell? ⟨gx, j * 2 + 1, none⟩ = some (.int .i64 d.at_) := hrz 1 _ rfl
      have hgxz : gx < wr.heap.size := Nat.lt_of_lt_of_le hgx hOz.out.size
      have hji : (j : Int) < (P.vars.length : Int) := by simp only [List.length_cons] at hjl; omega
      have Hjl : Hid (j + (rr.length + 1) = P.vars.length) := Lib.hid hjl
      have Hsl : Hid (s ++ (vD d :: (rr.map vD ++ (P.locks.map lD ++ P.funcs.map fD))) = dclsM P) := Lib.hid hsl
      have hdm := hmem d (by simp)
      have hdn : d.name.length ≤ 1000000 := Hsh.out.1 d hdm
      have HF := Lib.hid (And.intro hmem hrx)
      clear hrx hrz hra hjl hsl hmem hdm
      have hOa := (Only.refl [] wr).alloc (.cells #[.string ⟨d.name.toArray⟩, .int .i64 d.at_] 59)
      have HS2 := Lib.hid (HS.out.more hOa)
      clear hOa
      rw [hxa]
      go_wp2_with fail
      generalize hWa : wr.alloc (.cells #[.string ⟨d.name.toArray⟩, .int .i64 d.at_] 59) = wa at *
      clear hWa
      have hs1000 : s.length < 1000 := by have h8 := congrArg List.length Hsl.out; have h7 := Hlen.out; rw [List.length_append, List.length_cons] at h8; omega
      refine (seen_add w1 wa mb s HS2.out hs1000 (vD d) hdn (by simp [vD]) (rr.map vD ++ (P.locks.map lD ++ P.funcs.map fD))).mono ?_
      rintro r W2 (⟨h2, rfl, hO2⟩ | ⟨h2, rfl, hS2, hO2⟩)
      · refine ⟨rfl, .inl ⟨_, ?_, rfl, HO.out.plus hO2⟩⟩
        rw [Htw.out]; exact h2
      · have H2 := Lib.hid h2
        have HS3 := Lib.hid hS2
        clear hO2 hS2 h2
        go_wp2
        rw [← hxa]
        go_roundw
        case rel =>
          refine ⟨j + 1, rr, s ++ [vD d], by go_num, by have := Hjl.out; omega, fun x hx => HF.out.1 x (by simp [hx]), by rw [List.append_assoc]; exact Hsl.out, fun h => ⟨gx, hxa, hgx, ?_⟩, ?_, HS3.out⟩
          · intro i u hu
            have := HF.out.2 (i + 2) u hu
            rw [show j * 2 + (i + 2) = (j + 1) * 2 + i by omega] at this
            exact this
          · rw [Htw.out]; exact H2.out
        case measure => have h9 := Hjl.out; simp [intOf]; omega

end Go.Proofs.YtildkedplmjdaaaGreatDoor
