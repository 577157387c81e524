/-
  move of the package names: a program's places further on, in its own memory.
-/
import Derived.Test.YtildkedplmjdaaaGreatDoorNaN
namespace Go.Proofs.YtildkedplmjdaaaGreatDoor
set_option maxRecDepth 100000
set_option linter.unusedVariables false
open Go.RowKit Go.Sort

theorem owns_off {w w' : World} {S : List Nat} {base s n : Nat} {e : TypeId} {v : Value} {xs : List Value} (h : w.ownsRow base e s v n xs) (hO : Only S w w') (hS : ∀ g, v.ownBlock = some g → g ∉ S) : w'.ownsRow base e s v n xs := by
  refine ⟨h.1, ?_⟩
  rcases h.2 with hn | ⟨g, cap, cur, rfl, hb, hg, rest⟩
  · exact .inl hn
  · exact .inr ⟨g, cap, cur, rfl, hb, (hO.block g (IsBlk.lt hg) (hS g rfl)).trans hg, rest⟩
theorem own_put {w : World} {base s n g k c : Nat} {e : TypeId} {xs : List Value} (h : w.ownsRow base e s (.slice (some ⟨g, 0, none⟩) n c) n xs) (hk : k < n * s) (u : Value) :
    (w.setCell ⟨g, k, none⟩ u).ownsRow base e s (.slice (some ⟨g, 0, none⟩) n c) n (xs.set k u) := by
  refine ⟨by rw [List.length_set]; exact h.1, ?_⟩
  rcases h.2 with ⟨h1, h2⟩ | ⟨g', cap, cur, h1, hb, hg, hc, hm, hsz, ht⟩
  · subst h2; omega
  · injection h1 with h1 h2 h3
    injection h1 with h1
    injection h1 with h1
    subst h1
    refine .inr ⟨g, cap, cur.setIfInBounds k u, by rw [h3], hb, heap_setCell_same w g k cur e u hg, hc, hm, by simpa using hsz, ?_⟩
    rw [Array.toList_setIfInBounds, ← ht, List.take_set]
theorem own_open {w : World} {base s n : Nat} {e : TypeId} {v : Value} {xs : List Value} (h : w.ownsRow base e s v n xs) (h0 : 0 < n) : ∃ g c cs, v = .slice (some ⟨g, 0, none⟩) n c ∧ base ≤ g ∧ IsBlk w g (.cells cs e) ∧ w.rangeAt g 0 xs ∧ n ≤ c := by
  have hh := h
  rcases h.2 with ⟨h1, h2⟩ | ⟨g, cap, cur, h1, hb, hg, hc, hm, hsz, ht⟩
  · omega
  · refine ⟨g, cap, cur, h1, hb, hg, fun j x hx => ?_, hc⟩
    have := World.ownsRow.cells hh (g := g) (by rw [h1]; rfl) j x hx
    rw [Addr.add_mid] at this
    exact this
theorem moveD_set (by_ : Nat) : ∀ (pre rs : List DeclM) (d : DeclM), (dcells (pre.map (moveD by_) ++ d :: rs)).set (pre.length * 2 + 1) (.int .i64 ((d.at_ : Int) + (by_ : Int))) = dcells ((pre ++ [d]).map (moveD by_) ++ rs)
  | [], rs, d => by simp [dcells, moveD]
  | p :: pre, rs, d => by
    have ih := moveD_set by_ pre rs d
    have e : (p :: pre).length * 2 + 1 = (pre.length * 2 + 1) + 2 := by simp only [List.length_cons]; omega
    rw [e]
    simp only [List.map_cons, List.cons_append, dcells, List.flatMap_cons] at ih ⊢
    simp only [List.nil_append, List.set_cons_succ, ih]
theorem dcells7_at : ∀ (pre rs : List DeclM) (d : DeclM), (dcells (pre ++ d :: rs))[pre.length * 2 + 1]? = some (.int .i64 d.at_)
  | [], rs, d => by simp [dcells]
  | p :: pre, rs, d => by
    have ih := dcells7_at pre rs d
    have e : (p :: pre).length * 2 + 1 = (pre.length * 2 + 1) + 2 := by simp only [List.length_cons]; omega
    rw [e]
    simp only [List.cons_append, dcells, List.flatMap_cons] at ih ⊢
    simpa using ih

/-- What move leaves. -/
def MoveTo (w0 w : World) (by_ : Nat) (vv vl vf : Value) (P : ProgM) (fp : List Nat) (r : Ending) (w' : World) : Prop :=
  r = .returned (.tuple #[]) ∧ GrowP w0 w' vv vl vf (moveP by_ P) fp ∧ Only (ownL vv ++ (ownL vl ++ (ownL vf ++ fp))) w w'

set_option maxHeartbeats 16000000 in
theorem move_any (w0 w : World) (by_ : Nat) (hby : by_ ≤ 1000000) (vv vl vf : Value) (P : ProgM) (fp : List Nat) (h : GrowP w0 w vv vl vf P fp) (h0 : w0.heap.size ≤ w.heap.size) (hpl : PlP 1000000 1000000 P) (how : howM P ≤ 1000000) :
    Calls Tryz.prog 59 #[.agg #[vv, vl, vf], .int .i64 by_] w (MoveTo w0 w by_ vv vl vf P fp) := by
  obtain ⟨h1, h2, ⟨xs, h3, h4⟩, h5, h6, h7, h8, h9⟩ := h
  have hv : ∀ g, vv.ownBlock = some g → w0.heap.size ≤ g ∧ g < w.heap.size := World.ownsRow.lt h1
  have hl : ∀ g, vl.ownBlock = some g → w0.heap.size ≤ g ∧ g < w.heap.size := World.ownsRow.lt h2
  have hf : ∀ g, vf.ownBlock = some g → w0.heap.size ≤ g ∧ g < w.heap.size := World.ownsRow.lt h3
  have a1 := Lib.hid (apart_type h1 h3 (by decide))
  have a2 := Lib.hid (apart_type h2 h3 (by decide))
  have a3 := Lib.hid h6
  have N5 := Lib.hid h5
  have B7 := Lib.hid h7
  have B8 := Lib.hid h8
  have B9 := Lib.hid h9
  have Hpl := Lib.hid hpl
  have how1 : P.vars.length ≤ 1000000 ∧ P.locks.length ≤ 1000000 ∧ P.funcs.length ≤ 1000000 ∧ cntF P.funcs ≤ 1000000 := by unfold howM at how; omega
  obtain ⟨av, cv, rfl⟩ := owns_slice h1
  obtain ⟨al, cl, rfl⟩ := owns_slice h2
  obtain ⟨af, cf, rfl⟩ := owns_slice h3
  have hOb := (Only.refl [] w).alloc (.cells #[.slice av P.vars.length cv, .slice al P.locks.length cl, .slice af P.funcs.length cf] 30)
  have hb := Lib.hid (IsBlk.made w (.cells #[.slice av P.vars.length cv, .slice al P.locks.length cl, .slice af P.funcs.length cf] 30))
  have HV := Lib.hid (owns_keep h1 hOb (by simp))
  have HL := Lib.hid (owns_keep h2 hOb (by simp))
  have HF := Lib.hid (And.intro (owns_keep h3 hOb (by simp)) (h4.keep hOb (by simp)))
  have HO := Lib.hid hOb
  have Hv := Lib.hid hv
  have Hl := Lib.hid hl
  have Hf := Lib.hid hf
  clear h1 h2 h3 h4 h5 h6 h7 h8 h9 hpl hOb hv hl hf
  go_enter Tryz.func59, Tryz.ntmps59
  go_upto_region 1 with fail
  generalize hW1 : w.alloc (.cells #[.slice av P.vars.length cv, .slice al P.locks.length cl, .slice af P.funcs.length cf] 30) = w1 at *
  clear hW1
  have z0 := hb.out.cell 0
  have z1 := hb.out.cell 1
  have z2 := hb.out.cell 2
  have zl := hb.out.lt
  have hsz := HO.out.size
  go_upto_region 2 with fail
  clear z0 z1 z2 zl
  go_loopw [10] (fun iv wr => ∃ (j : Nat) (pre rs : List DeclM), iv = .int .i64 j ∧ P.vars = pre ++ rs ∧ j = pre.length ∧ wr.ownsRow w0.heap.size 59 2 (.slice av P.vars.length cv) P.vars.length (dcells (pre.map (moveD by_) ++ rs)) ∧ Only (ownL (.slice av P.vars.length cv)) w1 wr) (fun iv _ => P.vars.length - (intOf iv).toNat)
  case atStart => exact ⟨0, [], P.vars, rfl, rfl, rfl, HV.out, Only.refl _ _⟩
  case round =>
    obtain ⟨j, pre, rs, rfl, hpr, hjp, hown, hO⟩ := hrel
    have Hown := Lib.hid hown
    have HOr := Lib.hid hO
    have Hpr := Lib.hid hpr
    have Hjp := Lib.hid hjp
    have hlen : P.vars.length = j + rs.length := by rw [hpr, List.length_append, ← hjp]
    have Hlen := Lib.hid hlen
    have hbr := hb.out.only hO (fun hm => by have := (Hv.out _ (mem_ownL.1 hm)).2; omega)
    have Hbr := Lib.hid hbr
    have y0 := hbr.cell 0
    have y1 := hbr.cell 1
    have y2 := hbr.cell 2
    have yl := hbr.lt
    clear hown hO hpr hjp hlen hbr
    cases rs with
    | nil =>
      have hji : ¬ (j : Int) < (P.vars.length : Int) := by have := Hlen.out; simp only [List.length_nil] at this; omega
      have e9 : P.vars = pre := by have := Hpr.out; rwa [List.append_nil] at this
      have h9 := Hown.out
      rw [List.append_nil, ← e9] at h9
      have HVe : Hid (wr.ownsRow w0.heap.size 59 2 (.slice av P.vars.length cv) (P.vars.map (moveD by_)).length (dcells (P.vars.map (moveD by_)))) := Lib.hid (by rw [List.length_map]; exact h9)
      clear h9 e9
      have HL1 := Lib.hid (owns_off HL.out HOr.out (fun g hg hm => a3.out g (mem_ownL.1 hm) hg))
      have HF1 := Lib.hid (And.intro (owns_off HF.out.1 HOr.out (fun g hg hm => a1.out g (mem_ownL.1 hm) hg)) (HF.out.2.keep HOr.out (fun k hk hm => B7.out k (mem_ownL.1 hm) hk)))
      have OA := HOr
      have HbA := Hbr
      clear Hown Hpr Hjp Hlen HOr Hbr
      obtain ⟨wA, hwA⟩ : ∃ x, x = wr := ⟨_, rfl⟩
      subst hwA
      go_upto_region 7 with fail
      clear y0 y1 y2 yl hji
      go_loopw [27] (fun iv wr => ∃ (j : Nat) (pre rs : List DeclM), iv = .int .i64 j ∧ P.locks = pre ++ rs ∧ j = pre.length ∧ wr.ownsRow w0.heap.size 59 2 (.slice al P.locks.length cl) P.locks.length (dcells (pre.map (moveD by_) ++ rs)) ∧ Only (ownL (.slice al P.locks.length cl)) wA wr) (fun iv _ => P.locks.length - (intOf iv).toNat)
      case atStart => exact ⟨0, [], P.locks, rfl, rfl, rfl, HL1.out, Only.refl _ _⟩
      case round =>
        obtain ⟨j, pre, rs, rfl, hpr, hjp, hown, hO⟩ := hrel
        have Hown := Lib.hid hown
        have HOr := Lib.hid hO
        have Hpr := Lib.hid hpr
        have Hjp := Lib.hid hjp
        have hlen : P.locks.length = j + rs.length := by rw [hpr, List.length_append, ← hjp]
        have Hlen := Lib.hid hlen
        have hbr := HbA.out.only hO (fun hm => by have := (Hl.out _ (mem_ownL.1 hm)).2; omega)
        have Hbr := Lib.hid hbr
        have y0 := hbr.cell 0
        have y1 := hbr.cell 1
        have y2 := hbr.cell 2
        have yl := hbr.lt
        clear hown hO hpr hjp hlen hbr
        cases rs with
        | nil =>
          have hji : ¬ (j : Int) < (P.locks.length : Int) := by have := Hlen.out; simp only [List.length_nil] at this; omega
          have e9 : P.locks = pre := by have := Hpr.out; rwa [List.append_nil] at this
          have h9 := Hown.out
          rw [List.append_nil, ← e9] at h9
          have HL2 : Hid (wr.ownsRow w0.heap.size 59 2 (.slice al P.locks.length cl) (P.locks.map (moveD by_)).length (dcells (P.locks.map (moveD by_)))) := Lib.hid (by rw [List.length_map]; exact h9)
          clear h9 e9
          have HV2 := Lib.hid (owns_off HVe.out HOr.out (fun g hg hm => a3.out g hg (mem_ownL.1 hm)))
          have HF2 := Lib.hid (And.intro (owns_off HF1.out.1 HOr.out (fun g hg hm => a2.out g (mem_ownL.1 hm) hg)) (HF1.out.2.keep HOr.out (fun k hk hm => B8.out k (mem_ownL.1 hm) hk)))
          have OB := HOr
          have HbB := Hbr
          clear Hown Hpr Hjp Hlen HOr Hbr
          obtain ⟨wB, hwB⟩ : ∃ x, x = wr := ⟨_, rfl⟩
          subst hwB
          go_upto_region 12 with fail
          clear y0 y1 y2 yl hji
          go_loopw [44] (fun iv wr => ∃ (j : Nat) (pre rs : List FuncM) (x1 x2 : List Value) (f1 f2 : List Nat), iv = .int .i64 j ∧ P.funcs = pre ++ rs ∧ j = pre.length ∧ EncF wr (pre.map (moveF by_)) x1 f1 ∧ EncF wr rs x2 f2 ∧ fp = f1 ++ f2 ∧
              wr.ownsRow w0.heap.size 51 3 (.slice af P.funcs.length cf) P.funcs.length (x1 ++ x2) ∧ Only (ownL (.slice af P.funcs.length cf) ++ fp) wB wr) (fun iv _ => P.funcs.length - (intOf iv).toNat)
          case atStart => exact ⟨0, [], P.funcs, [], xs, [], fp, rfl, rfl, rfl, ⟨rfl, rfl⟩, HF2.out.2, rfl, HF2.out.1, Only.refl _ _⟩
          case round =>
            obtain ⟨j, pre, rs, x1, x2, f1, f2, rfl, hpr, hjp, hE1, hE2, hfp, hown, hO⟩ := hrel
            have Hown := Lib.hid hown
            have HOr := Lib.hid hO
            have Hpr := Lib.hid hpr
            have Hjp := Lib.hid hjp
            have Hfp := Lib.hid hfp
            have HE1 := Lib.hid hE1
            have l1 := EncF.len hE1
            rw [List.length_map, ← hjp] at l1
            have Hlen : Hid (P.funcs.length = j + rs.length) := Lib.hid (by rw [hpr, List.length_append, ← hjp])
            have hbr := HbB.out.only hO (fun hm => by
              rcases List.mem_append.1 hm with hm | hm
              · have := (Hf.out _ (mem_ownL.1 hm)).2; omega
              · have := (N5.out.2 _ hm).2; omega)
            have Hbr := Lib.hid hbr
            have y0 := hbr.cell 0
            have y1 := hbr.cell 1
            have y2 := hbr.cell 2
            have yl := hbr.lt
            clear hown hO hpr hjp hbr hfp hE1
            cases rs with
            | nil =>
              have hji : ¬ (j : Int) < (P.funcs.length : Int) := by have := Hlen.out; simp only [List.length_nil] at this; omega
              go_wp2
              go_end0
              obtain ⟨rfl, rfl⟩ := hE2
              have e : P.funcs = pre := by have := Hpr.out; rwa [List.append_nil] at this
              have ef : fp = f1 := by have := Hfp.out; rwa [List.append_nil] at this
              have hoff : ∀ (v : Value), (∀ g, v.ownBlock = some g → g < w.heap.size) → Apart v (.slice af P.funcs.length cf) → (∀ g, v.ownBlock = some g → g ∉ fp) → ∀ g, v.ownBlock = some g → g ∉ ownL (.slice af P.funcs.length cf) ++ fp := fun v hv ha hb g hg hm => by
                rcases List.mem_append.1 hm with hm | hm
                · exact ha g hg (mem_ownL.1 hm)
                · exact hb g hg hm
              refine ⟨rfl, ⟨owns_off HV2.out HOr.out (hoff _ (fun g hg => (Hv.out g hg).2) a1.out B7.out), owns_off HL2.out HOr.out (hoff _ (fun g hg => (Hl.out g hg).2) a2.out B8.out), ⟨x1, ?_, ?_⟩, ⟨N5.out.1, fun k hk => ⟨(N5.out.2 k hk).1, Nat.lt_of_lt_of_le (N5.out.2 k hk).2 ?_⟩⟩, a3.out, B7.out, B8.out, B9.out⟩, ?_⟩
              · have h := Hown.out
                rw [List.append_nil] at h
                show World.ownsRow _ _ _ _ _ (P.funcs.map (moveF by_)).length _
                rw [List.length_map]
                exact h
              · rw [ef, show (moveP by_ P).funcs = pre.map (moveF by_) by rw [← e]; rfl]; exact HE1.out
              · exact Nat.le_trans HO.out.size (Nat.le_trans OA.out.size (Nat.le_trans OB.out.size HOr.out.size))
              · exact (HO.out.then OA.out _ (by simp) (fun i hi => .inl hi)).then (OB.out.then HOr.out _ (fun i hi => .inl (List.mem_append.2 (.inl hi))) (fun i hi => .inl (List.mem_append.2 (.inr hi)))) _ (fun i hi => .inl (List.mem_append.2 (.inl hi))) (fun i hi => .inl (List.mem_append.2 (.inr hi)))
            | cons d rr =>
              obtain ⟨va, fa, fr, xr, rfl, rfl, hA, hnA, hE'⟩ := hE2
              have hA' := hA
              obtain ⟨aa, ca, rfl, hca⟩ := RowE.slice hA
              have hji : (j : Int) < (P.funcs.length : Int) := by have := Hlen.out; simp only [List.length_cons] at this; omega
              have hjn : j < P.funcs.length := by omega
              obtain ⟨g, c, cs, hva, hgb, hg, hr, -⟩ := own_open Hown.out (by omega)
              injection hva with hva _ hvc
              subst hva
              subst hvc
              have hgl := hg.lt
              have hdm : d ∈ P.funcs := by rw [Hpr.out]; simp
              have hat : d.at_ ≤ 1000000 := (Hpl.out.2.2 d hdm).1
              have hpb := (Hpl.out.2.2 d hdm).2.2
              have hcb := len_cntF 1000000 P.funcs how1.2.2.2 d hdm
              have hwr : IntKind.i64.wrap ((d.at_ : Int) + (by_ : Int)) = (d.at_ : Int) + (by_ : Int) := Go.IntWalk.i64_in _ (by omega)
              have k1 : wr.cell? ⟨g, j * 3 + 1, none⟩ = some (.int .i64 d.at_) := by
                have := hr (j * 3 + 1) (.int .i64 d.at_) (by rw [List.getElem?_append_right (by omega), show j * 3 + 1 - x1.length = 1 by omega]; rfl)
                rwa [Nat.zero_add] at this
              have fz := hg.notFrozen (j * 3 + 1)
              have hgf : g ∉ fp := B9.out g rfl
              have hgA : g ∉ fa ∧ g ∉ fr ∧ g ∉ f1 := by
                rw [Hfp.out] at hgf
                simp only [List.mem_append, not_or] at hgf
                exact ⟨hgf.2.1, hgf.2.2, hgf.1⟩
              have nd := N5.out.1
              rw [Hfp.out] at nd
              simp only [List.nodup_append, List.mem_append] at nd
              have hown2 := own_put Hown.out (k := j * 3 + 1) (by omega) (.int .i64 ((d.at_ : Int) + (by_ : Int)))
              have hset : (x1 ++ (encStr d.name :: .int .i64 (d.at_ : Int) :: .slice aa d.body.len ca :: xr)).set (j * 3 + 1) (.int .i64 ((d.at_ : Int) + (by_ : Int)))
                  = x1 ++ (encStr d.name :: .int .i64 ((d.at_ : Int) + (by_ : Int)) :: .slice aa d.body.len ca :: xr) := by
                rw [List.set_append_right _ _ (by omega), show j * 3 + 1 - x1.length = 1 by omega]; rfl
              rw [hset] at hown2
              have hO2 := (Only.refl [g] wr).setCell (p := ⟨g, j * 3 + 1, none⟩) (.inl (by simp)) (.int .i64 ((d.at_ : Int) + (by_ : Int)))
              have hbr2 := Hbr.out.only hO2 (fun hm => by simp only [List.mem_singleton] at hm; have := (Hf.out g rfl).2; omega)
              have hA2 := Lib.hid (hA'.keep hO2 (fun k hk hm => by simp only [List.mem_singleton] at hm; subst hm; exact hgA.1 hk))
              have H2 := Lib.hid (And.intro hown2 hO2)
              have Hbr2 := Lib.hid hbr2
              have HE' := Lib.hid hE'
              have Hnd := Lib.hid nd
              have hgw : g < w.heap.size := (Hf.out g rfl).2
              clear hown2 hO2 hr hg hset hbr2 hA hA' hE' nd hgf
              go_upto_region 15 with fail
              generalize hW2 : wr.setCell ⟨g, j * 3 + 1, none⟩ (.int .i64 ((d.at_ : Int) + (by_ : Int))) = w2 at *
              clear hW2 k1 fz y0 y1 y2
              have y0 := Hbr2.out.cell 0
              have y1 := Hbr2.out.cell 1
              have y2 := Hbr2.out.cell 2
              have yl2 := Hbr2.out.lt
              obtain ⟨g', c', cs', hva, hgb', hg', hr', -⟩ := own_open H2.out.1 (by omega)
              injection hva with hva _ hvc
              injection hva with hva
              injection hva with hva
              subst hva
              have hgl2 := hg'.lt
              have k3 : w2.cell? ⟨g, j * 3 + 2, none⟩ = some (.slice aa d.body.len ca) := by
                have := hr' (j * 3 + 2) (.slice aa d.body.len ca) (by rw [List.getElem?_append_right (by omega), show j * 3 + 2 - x1.length = 2 by omega]; rfl)
                rwa [Nat.zero_add] at this
              clear hg' hr' hvc
              go_wp2_with fail
              refine (moveB_any by_ hby _ d.body (Nat.lt_succ_self _) w2 _ fa hA2.out hnA hcb hpb).mono ?_
              rintro r w3 ⟨rfl, hA3, hO3⟩
              have HA3 := Lib.hid (And.intro hA3 hO3)
              clear hA3 hO3 k3
              go_wp2
              go_roundw
              case rel =>
                have nd := Hnd.out
                have hO2 := H2.out.2
                have hO3 := HA3.out.2
                have hall : Only (g :: fa) wr w3 := hO2.then hO3 (g :: fa) (fun i hi => .inl (by simp at hi; simp [hi])) (fun i hi => .inl (by simp [hi]))
                have d1 : ∀ k ∈ f1, k ∉ g :: fa := fun k hk hm => by
                  rcases List.mem_cons.1 hm with rfl | hm
                  · exact hgA.2.2 hk
                  · exact nd.2.2 k hk k (.inl hm) rfl
                have d2 : ∀ k ∈ fr, k ∉ g :: fa := fun k hk hm => by
                  rcases List.mem_cons.1 hm with rfl | hm
                  · exact hgA.2.1 hk
                  · exact nd.2.1.2.2 k hm k hk rfl
                have hb4 : BlkAt w3 (.slice aa d.body.len ca) (moveF by_ d).body fa := HA3.out.1
                refine ⟨j + 1, pre ++ [d], rr, x1 ++ [encStr d.name, .int .i64 ((d.at_ + by_ : Nat) : Int), .slice aa d.body.len ca], xr, f1 ++ fa, fr, by go_num, by rw [Hpr.out]; simp, by simp [Hjp.out], ?_, HE'.out.keep hall d2, by rw [Hfp.out]; simp, ?_, ?_⟩
                · rw [List.map_append]
                  exact EncF.snoc (f := moveF by_ d) hb4 hnA (HE1.out.keep hall d1)
                · rw [Int.natCast_add, List.append_assoc]
                  exact owns_off H2.out.1 hO3 (fun g2 hg2 => by simp only [Value.ownBlock, Option.some.injEq] at hg2; subst hg2; exact hgA.1)
                · refine HOr.out.then hall _ (fun i hi => .inl hi) (fun i hi => .inl ?_)
                  rcases List.mem_cons.1 hi with rfl | hi
                  · exact List.mem_append.2 (.inl (by simp [ownL, Value.ownBlock]))
                  · rw [Hfp.out]; simp [hi]
              case measure => have h9 := Hlen.out; simp [intOf]; omega
        | cons d rr =>
          have hji : (j : Int) < (P.locks.length : Int) := by have := Hlen.out; simp only [List.length_cons] at this; omega
          have hjn : j < P.locks.length := by omega
          obtain ⟨g, c, cs, hva, hgb, hg, hr, -⟩ := own_open Hown.out (by omega)
          injection hva with hva _ hvc
          subst hva
          subst hvc
          have hgl := hg.lt
          have hdm : d ∈ P.locks := by rw [Hpr.out]; simp
          have hat : d.at_ ≤ 1000000 := (Hpl.out.2.1 d hdm).1
          have hwr : IntKind.i64.wrap ((d.at_ : Int) + (by_ : Int)) = (d.at_ : Int) + (by_ : Int) := Go.IntWalk.i64_in _ (by omega)
          have k1 : wr.cell? ⟨g, j * 2 + 1, none⟩ = some (.int .i64 d.at_) := by
            have := hr (j * 2 + 1) (.int .i64 d.at_) (by have := dcells7_at (pre.map (moveD by_)) rr d; rw [List.length_map, ← Hjp.out] at this; exact this)
            rwa [Nat.zero_add] at this
          have fz := hg.notFrozen (j * 2 + 1)
          have hown2 := own_put Hown.out (k := j * 2 + 1) (by omega) (.int .i64 ((d.at_ : Int) + (by_ : Int)))
          have hO2 := HOr.out.setCell (p := ⟨g, j * 2 + 1, none⟩) (.inl (by simp [ownL, Value.ownBlock])) (.int .i64 ((d.at_ : Int) + (by_ : Int)))
          have H2 := Lib.hid (And.intro hown2 hO2)
          clear hown2 hO2 hr hg
          go_wp2
          go_roundw
          case rel =>
            refine ⟨j + 1, pre ++ [d], rr, by go_num, by rw [Hpr.out]; simp, by simp [Hjp.out], ?_, H2.out.2⟩
            rw [← moveD_set, ← Hjp.out]
            exact H2.out.1
          case measure => have h9 := Hlen.out; simp [intOf]; omega
    | cons d rr =>
      have hji : (j : Int) < (P.vars.length : Int) := by have := Hlen.out; simp only [List.length_cons] at this; omega
      have hjn : j < P.vars.length := by omega
      obtain ⟨g, c, cs, hva, hgb, hg, hr, -⟩ := own_open Hown.out (by omega)
      injection hva with hva _ hvc
      subst hva
      subst hvc
      have hgl := hg.lt
      have hdm : d ∈ P.vars := by rw [Hpr.out]; simp
      have hat : d.at_ ≤ 1000000 := (Hpl.out.1 d hdm).1
      have hwr : IntKind.i64.wrap ((d.at_ : Int) + (by_ : Int)) = (d.at_ : Int) + (by_ : Int) := Go.IntWalk.i64_in _ (by omega)
      have k1 : wr.cell? ⟨g, j * 2 + 1, none⟩ = some (.int .i64 d.at_) := by
        have := hr (j * 2 + 1) (.int .i64 d.at_) (by have := dcells7_at (pre.map (moveD by_)) rr d; rw [List.length_map, ← Hjp.out] at this; exact this)
        rwa [Nat.zero_add] at this
      have fz := hg.notFrozen (j * 2 + 1)
      have hown2 := own_put Hown.out (k := j * 2 + 1) (by omega) (.int .i64 ((d.at_ : Int) + (by_ : Int)))
      have hO2 := HOr.out.setCell (p := ⟨g, j * 2 + 1, none⟩) (.inl (by simp [ownL, Value.ownBlock])) (.int .i64 ((d.at_ : Int) + (by_ : Int)))
      have H2 := Lib.hid (And.intro hown2 hO2)
      clear hown2 hO2 hr hg
      go_wp2
      go_roundw
      case rel =>
        refine ⟨j + 1, pre ++ [d], rr, by go_num, by rw [Hpr.out]; simp, by simp [Hjp.out], ?_, H2.out.2⟩
        rw [← moveD_set, ← Hjp.out]
        exact H2.out.1
      case measure => have h9 := Hlen.out; simp [intOf]; omega

end Go.Proofs.YtildkedplmjdaaaGreatDoor
