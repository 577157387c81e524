/-
  bound of the package names: how much there may be.
-/
import Derived.Test.YtildkedplmjdaaaDoorNaC
namespace Go.Proofs.YtildkedplmjdaaaDoor
set_option maxRecDepth 100000
set_option linter.unusedVariables false
open Go.RowKit Go.Sort

/-- Functions, opened. -/
theorem funcs_open {w : World} {v : Value} {l : List FuncM} (h : FuncsAt w v l) : ∃ a c xs fp, v = .slice a l.length c ∧ EncF w l xs fp ∧ (0 < l.length → ∃ g, a = some ⟨g, 0, none⟩ ∧ g < w.heap.size ∧ w.rangeAt g (0 * 3) xs) := by
  obtain ⟨a, c, rfl, hc, h⟩ := h
  by_cases h0 : 0 < l.length
  · obtain ⟨g, xs, fp, ha, hg, hr, he⟩ := h h0
    exact ⟨a, c, xs, fp, rfl, he, fun _ => ⟨g, ha, hg, by rw [Nat.zero_mul]; exact hr⟩⟩
  · have : l = [] := by cases l with
      | nil => rfl
      | cons _ _ => simp at h0
    subst this
    exact ⟨a, c, [], [], rfl, ⟨rfl, rfl⟩, fun h => absurd h h0⟩
theorem len_cntF (n : Nat) : ∀ l : List FuncM, cntF l ≤ n → ∀ f ∈ l, cntB f.body ≤ n
  | [], _, f, hf => by cases hf
  | g :: r, h, f, hf => by
    simp only [cntF] at h
    rcases List.mem_cons.1 hf with rfl | hf
    · omega
    · exact len_cntF n r (by omega) f hf

def BoundTo (w : World) (P : ProgM) (r : Ending) (w' : World) : Prop :=
  (longM P = false ∧ r = .returned (.tuple #[]) ∨ longM P = true ∧ r = errnoE 2) ∧ Only [] w w'

set_option maxHeartbeats 8000000 in
theorem bound_any (w : World) (vv vl vf : Value) (P : ProgM) (h : ProgAt w vv vl vf P) (hbig : cntF P.funcs ≤ 1000000) :
    Calls Tryd.prog 16 #[.agg #[vv, vl, vf]] w (BoundTo w P) := by
  obtain ⟨⟨av, cv, rfl, hcv, hv⟩, ⟨al, cl, rfl, hcl, hl⟩, hf⟩ := h
  obtain ⟨af, cf, xs, fp, rfl, hE, hra⟩ := funcs_open hf
  have hOb := (Only.refl [] w).alloc (.cells #[.slice av P.vars.length cv, .slice al P.locks.length cl, .slice af P.funcs.length cf] 27)
  have hb := IsBlk.made w (.cells #[.slice av P.vars.length cv, .slice al P.locks.length cl, .slice af P.funcs.length cf] 27)
  have H := Lib.hid (And.intro hE hra)
  have Hb := Lib.hid hb
  have HO := Lib.hid hOb
  clear hv hl hf hE hra hOb hb
  go_enter Tryd.func16, Tryd.ntmps16
  go_upto_region 1 with fail
  generalize hW1 : w.alloc (.cells #[.slice av P.vars.length cv, .slice al P.locks.length cl, .slice af P.funcs.length cf] 27) = w1 at *
  clear hW1
  have z0 := Hb.out.cell 0
  have z1 := Hb.out.cell 1
  have z2 := Hb.out.cell 2
  have zl := Hb.out.lt
  by_cases hlong : 20 < P.vars.length ∨ 20 < P.locks.length ∨ 20 < P.funcs.length
  · have hL : longM P = true := by unfold longM; simp; omega
    have HL := Lib.hid (And.intro hL hlong)
    clear hlong hL
    go_wp2_with fail
    all_goals (have h1 := HL.out.2; first | exact ⟨rfl, .inr ⟨HL.out.1, rfl⟩, HO.out⟩ | (exfalso; omega))
  · have hL : longM P = decide (200 < cntF P.funcs) := by unfold longM; simp; omega
    have HL := Lib.hid hL
    have hl1 : ¬ 20 < P.vars.length := by omega
    have hl2 : ¬ 20 < P.locks.length := by omega
    have hl3 : ¬ 20 < P.funcs.length := by omega
    clear hlong hL
    go_wp2_with fail
    all_goals (
      go_loopw [2, 20] (fun mv iv wr => ∃ (j m : Nat) (rs : List FuncM) (xr : List Value) (fr : List Nat), mv = .int .i64 m ∧ iv = .int .i64 j ∧ j + rs.length = P.funcs.length ∧ cntF rs ≤ 1000000 ∧ EncF w rs xr fr ∧
          (0 < rs.length → ∃ g, af = some ⟨g, 0, none⟩ ∧ g < w.heap.size ∧ w.rangeAt g (j * 3) xr) ∧ m + cntF P.funcs = 200 + cntF rs ∧ m ≤ 200 ∧ Only [] w wr) (fun _ iv _ => P.funcs.length - (intOf iv).toNat)
      case atStart => exact ⟨0, 200, P.funcs, xs, fp, rfl, rfl, by omega, hbig, H.out.1, H.out.2, rfl, by omega, HO.out⟩
      case round =>
        obtain ⟨j, m, rs, xr, fr, rfl, rfl, hjl, hrb, hE, hra, hm, hm2, hO⟩ := hrel
        have HO2 := Lib.hid hO
        have Hm := Lib.hid hm
        clear hO hm
        cases rs with
        | nil =>
          have hji : ¬ (j : Int) < (P.funcs.length : Int) := by simp only [List.length_nil] at hjl; omega
          go_wp2_with fail
          go_end0
          have h9 : m + cntF P.funcs = 200 + 0 := Hm.out
          exact ⟨.inl ⟨by rw [HL.out]; simp; omega, rfl⟩, HO2.out⟩
        | cons d rr =>
          obtain ⟨va, fa, fr', xr', rfl, rfl, hA, -, hE'⟩ := hE
          have hA' := hA
          obtain ⟨aa, ca, rfl, hca⟩ := RowE.slice hA
          obtain ⟨gx, hxa, hgx, hrx⟩ := hra (by simp)
          have hrz := rangeAt_only hrx HO2.out hgx (by simp)
          have k0 : wr.cell? ⟨gx, j * 3, none⟩ = some (.string ⟨d.name.toArray⟩) := hrz 0 _ rfl
          have k1 : wr.cell? ⟨gx, j * 3 + 1, none⟩ = some (.int .i64 d.at_) := hrz 1 _ rfl
          have k2 : wr.cell? ⟨gx, j * 3 + 2, none⟩ = some (.slice aa d.body.len ca) := hrz 2 _ rfl
          have hgxz : gx < wr.heap.size := Nat.lt_of_lt_of_le hgx HO2.out.size
          have hji : (j : Int) < (P.funcs.length : Int) := by simp only [List.length_cons] at hjl; omega
          have hcb2 : cntB d.body ≤ 1000000 ∧ cntF rr ≤ 1000000 := by simp only [cntF] at hrb; omega
          have Hjl : Hid (j + (rr.length + 1) = P.funcs.length) := Lib.hid hjl
          have HF := Lib.hid (And.intro hA' (And.intro hE' hrx))
          have Hm2 : Hid (m + cntF P.funcs = 200 + (cntB d.body + cntF rr)) := Lib.hid Hm.out
          clear hE' hA hA' hrz hrx hra hjl Hm
          have hOa := (Only.refl [] wr).alloc (.cells #[.string ⟨d.name.toArray⟩, .int .i64 d.at_, .slice aa d.body.len ca] 30)
          have HO3 := Lib.hid (HO2.out.plus hOa)
          clear hOa
          rw [hxa]
          go_wp2_with fail
          generalize hWa : wr.alloc (.cells #[.string ⟨d.name.toArray⟩, .int .i64 d.at_, .slice aa d.body.len ca] 30) = wa at *
          clear hWa
          refine (count_any _ d.body (Nat.lt_succ_self _) wa _ fa m (HF.out.1.more HO3.out) hcb2.1 (by omega)).mono ?_
          rintro r W2 ⟨h2, hO2⟩
          have HO4 := Lib.hid (HO3.out.plus hO2)
          clear hO2
          rcases h2 with ⟨h2, rfl⟩ | ⟨h2, rfl⟩
          · have H2 := Lib.hid h2
            clear h2
            go_wp2
            rw [← hxa]
            go_roundw
            case rel =>
              refine ⟨j + 1, m - cntB d.body, rr, xr', fr', rfl, by go_num, by have := Hjl.out; omega, hcb2.2, HF.out.2.1, fun h => ⟨gx, hxa, hgx, ?_⟩, ?_, by omega, HO4.out⟩
              · intro i u hu
                have := HF.out.2.2 (i + 3) u hu
                rw [show j * 3 + (i + 3) = (j + 1) * 3 + i by omega] at this
                exact this
              · have h8 := Hm2.out; have h7 := H2.out; omega
            case measure => have h9 := Hjl.out; simp [intOf]; omega
          · refine ⟨rfl, .inr ⟨?_, rfl⟩, HO4.out⟩
            rw [HL.out]
            have h8 := Hm2.out
            simp
            omega)

end Go.Proofs.YtildkedplmjdaaaDoor
