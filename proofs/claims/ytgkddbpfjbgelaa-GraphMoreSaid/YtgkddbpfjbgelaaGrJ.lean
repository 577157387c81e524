/-
  newNet and lead of the package graph.
-/
import Derived.Test.YtgkddbpfjbgelaaGrI
namespace Go.Proofs.Ytgkddbpfjbgelaa
set_option maxRecDepth 100000
set_option linter.unusedVariables false
open Go.RowKit Go.Sort Go.Maps

/-- A net: its names, their places, its links. -/
def NetAt (w : World) (base : Nat) (vN : Value) (bm : Nat) (vn vb : Value) (N : List Nam) (es : List Edg) (fp : List Nat) : Prop :=
  OwnN w base vN N ∧ PlAt w bm N N.length ∧ LinksAt w base vn vb N.length es fp ∧ (∀ b, vN.ownBlock = some b → b ∉ fp) ∧ bm ∉ fp ∧ base ≤ bm
def netV (vN : Value) (bm : Nat) (vn vb : Value) : Value := .agg #[vN, .map (some bm), vn, vb]

theorem sizeN8 : (Try.prog.info? 67).map (·.size) = some 4 := by kernel_rfl
theorem ret_net {fn : Func} {p : Tmp} (h : fn.results = #[.cell p 67]) (tmps : Array Value) (w : World) (g : Nat) (cs : Array Value) (hp : tmps.getD p undef = .pointer (some ⟨g, 0, none⟩))
    (hg : IsBlk w g (.cells cs 67)) (h3 : cs.size = 4) : (results fn tmps).run Try.prog w = .ok (.agg cs) w :=
  results_cell_row h tmps w g 67 cs (0, 0) _ hp hg Try.underlying67 rfl (by rw [h3]; exact sizeN8)

theorem make_places (n : Nat) (W : World) : (Instr.makeMap 62 (some (.int .i64 n))).run Try.prog W = .ok (.map (some W.heap.size)) (W.alloc (.map #[] 0)) := by
  simp [Instr.makeMap, run_underlying Try.underlying62, asInt, asIntOf, Result.andThen]

theorem wf_i64 (k : Nat) (h : k ≤ 100000) : (Lit.int .i64 (k : Int)).wf = true := by
  have h1 : IntKind.i64.min = -9223372036854775808 := by decide
  have h2 : IntKind.i64.max = 9223372036854775807 := by decide
  simp only [Lit.wf, h1, h2, Bool.and_eq_true, decide_eq_true_eq]
  omega
theorem NetR.base {w : World} {base base' : Nat} {v : Value} {rows : List (List Nat)} {fp : List Nat} (h : NetR w base v rows fp) (hb : base' ≤ base) : NetR w base' v rows fp := by
  obtain ⟨cs, h1, h2, h3, h4⟩ := h
  refine ⟨cs, owns_base h1 hb, h2, fun k hk => ⟨by have := (h3 k hk).1; omega, (h3 k hk).2⟩, fun i l hl => ?_⟩
  obtain ⟨u, k1, k2, k3⟩ := h4 i l hl
  exact ⟨u, k1, owns_base k2 hb, k3⟩
theorem LinksAt.base {w : World} {base base' : Nat} {vn vb : Value} {n : Nat} {es : List Edg} {fp : List Nat} (h : LinksAt w base vn vb n es fp) (hb : base' ≤ base) : LinksAt w base' vn vb n es fp := by
  obtain ⟨f1, f2, h1, h2, h3⟩ := h
  exact ⟨f1, f2, h1.base hb, h2.base hb, h3⟩

def NewNetTo (w : World) (l : List Nam) (r : Ending) (w' : World) : Prop :=
  ∃ vN bm vn vb fp, r = .returned (netV vN bm vn vb) ∧ NetAt w' w.heap.size vN bm vn vb (sortS l) [] fp ∧ Only [] w w'

theorem sortS_perm (l : List Nam) : (sortS l).Perm l := List.mergeSort_perm _ _
theorem sortS_nodup {l : List Nam} (h : l.Nodup) : (sortS l).Nodup := (sortS_perm l).nodup_iff.2 h

set_option maxHeartbeats 8000000 in
theorem newNet_any (w : World) (v : Value) (l : List Nam) (h : NamsAt w v l) (hn : l.Nodup) (hl : l.length ≤ 1000) (hs : ∀ s ∈ l, s.length ≤ 100000) : Calls Try.prog 28 #[v] w (NewNetTo w l) := by
  have H := Lib.hid h
  have hv1 : v.oneCell' = true := by obtain ⟨a, c, rfl, -⟩ := h; rfl
  clear h
  go_enter Try.func28, Try.ntmps28
  go_wp2_with fail
  generalize hW0 : w.alloc (.cells #[.slice none 0 0, .map none, .slice none 0 0, .slice none 0 0] 67) = w0
  have hB0 : IsBlk w0 w.heap.size (.cells #[.slice none 0 0, .map none, .slice none 0 0, .slice none 0 0] 67) := by rw [← hW0]; exact IsBlk.made w _
  have hO0 : Only [] w w0 := by rw [← hW0]; exact (Only.refl _ _).alloc _
  have hs0 : w0.heap.size = w.heap.size + 1 := by rw [← hW0]; simp
  have HB0 := Lib.hid hB0
  have HO0 := Lib.hid hO0
  clear hW0 hB0 hO0
  refine (cloneN_any w0 v l (H.out.more HO0.out) (by omega)).mono ?_
  rintro e w1 ⟨v1, rfl, how1, hO1⟩
  have How1 := Lib.hid how1
  have HO1 := Lib.hid (HO0.out.plus hO1)
  have HB1 := Lib.hid (HB0.out.only hO1 (by simp))
  have hz1 := hO1.size
  clear how1 hO1
  go_wp2_with fail
  refine (sortS_any w1 w0.heap.size v1 l How1.out (by omega)).mono ?_
  rintro e w2 ⟨rfl, how2, hO2⟩
  have hv1b : ∀ b ∈ ownL v1, w0.heap.size ≤ b := fun b hb => (World.ownsRow.lt How1.out b (mem_ownL.1 hb)).1
  have How2 := Lib.hid how2
  have HO2 := Lib.hid (HO1.out.then hO2 [] (by simp) (fun i hi => .inr (by have := hv1b i hi; omega)))
  have HB2 := Lib.hid (HB1.out.only hO2 (fun hm => by have := hv1b _ hm; omega))
  have hz2 := hO2.size
  clear how2 hO2
  have hln : (sortS l).length = l.length := (sortS_perm l).length_eq
  go_wp2_with fail
  refine (compactN_any w2 w0.heap.size v1 (sortS l) How2.out (sortS_nodup hn) (by omega)).mono ?_
  rintro e w3 ⟨rfl, how3, hO3⟩
  have How3 := Lib.hid how3
  have HO3 := Lib.hid (HO2.out.then hO3 [] (by simp) (fun i hi => .inr (by have := hv1b i hi; omega)))
  have HB3 := Lib.hid (HB2.out.only hO3 (fun hm => by have := hv1b _ hm; omega))
  have hN : Hid ((sortS l).Nodup) := Lib.hid (sortS_nodup hn)
  have hsN : Hid (∀ s ∈ sortS l, s.length ≤ 100000) := Lib.hid (fun s hs' => hs s ((sortS_perm l).mem_iff.1 hs'))
  have hz3 := hO3.size
  clear how3 hO3 How1 How2 hn hs HO1 HO2 HB1 HB2 H HO0 HB0
  rw [← hln] at hl
  generalize hNl : sortS l = N at *
  have HNl := Lib.hid hNl
  clear hNl hln
  obtain ⟨a1, c1, rfl⟩ := How3.out.slice
  have hi0 : (0 : Int) ≤ (N.length : Int) := by omega
  have hmk := make_places N.length
  go_wp2_with fail
  have hP4 : PlAt (w3.alloc (.map #[] 0)) w3.heap.size N 0 := PlAt.made w3 N
  have hO4 : Only [] w3 (w3.alloc (.map #[] 0)) := (Only.refl _ _).alloc _
  generalize hw4 : w3.alloc (.map #[] 0) = w4 at *
  have hs3 : w3.heap.size < w4.heap.size := by rw [← hw4]; simp
  have How3b := How3.out.off hO4 (by simp)
  have How3c := How3.out
  have How4 := Lib.hid How3b
  have HO4 := Lib.hid (HO3.out.plus hO4)
  have HB4 := Lib.hid (HB3.out.only hO4 (by simp))
  have hs4 : w0.heap.size ≤ w3.heap.size := by omega
  clear hw4 hO4 How3 HO3 HB3 hmk
  generalize hbm : w3.heap.size = bm at *
  have hnm : Hid (∀ (i : Nat) (s : Nam), N[i]? = some s → ∃ g, a1 = some ⟨g, 0, none⟩ ∧ w0.heap.size ≤ g ∧ g < bm ∧ w4.cell? ⟨g, i, none⟩ = some (encStr s)) := Lib.hid (fun i s hs' => by
    obtain ⟨a, c, e, h⟩ := How4.out.nams
    injection e with e1 e2 e3
    subst e1
    have hi := (List.getElem?_eq_some_iff.1 hs').1
    obtain ⟨g, e, hg, hc⟩ := h (by omega)
    have hb := World.ownsRow.lt How3c g (by rw [e]; rfl)
    exact ⟨g, e, hb.1, by omega, hc i s hs'⟩)
  have hownb : Hid (∀ b, (Value.slice a1 N.length c1).ownBlock = some b → b < bm) := Lib.hid (fun b hb => by have := (World.ownsRow.lt How3c b hb).2; omega)
  clear How3b How3c
  go_loopw [18] (fun i wr => ∃ k : Nat, k ≤ N.length ∧ i = .int .i64 k ∧ PlAt wr bm N k ∧ Only [bm] w4 wr) (fun i _ => N.length - (intOf i).toNat)
  case atStart => exact ⟨0, Nat.zero_le _, rfl, hP4, Only.refl _ _⟩
  case round =>
    obtain ⟨k, hk, rfl, hP, hOr⟩ := hrel
    have HP := Lib.hid hP
    have HOr := Lib.hid hOr
    clear hP hOr
    by_cases hlt : k < N.length
    · have hki : (k : Int) < (N.length : Int) := by omega
      have hk0 : (0 : Int) ≤ (k : Int) := by omega
      obtain ⟨x, hx⟩ : ∃ x, N[k]? = some x := ⟨N[k], by simp [hlt]⟩
      obtain ⟨g, rfl, hg0, hgb, hcg⟩ := hnm.out k x hx
      have hcr := (HOr.out.cell (p := ⟨g, k, none⟩) (by show g < _; omega) (by simp; omega)).trans hcg
      have hkey := keyN (n := x) (by have := hsN.out x (List.mem_of_getElem? hx); unfold maxLen; omega)
      have hwf : (Lit.int .i64 (k : Int)).wf = true := wf_i64 k (by omega)
      obtain ⟨D, m, hm, h1, h3, h4⟩ := HP.out
      have Hx := Lib.hid hx
      have H34 := Lib.hid (And.intro h3 h4)
      clear hcg hx h3 h4
      unfold encStr at hcr hkey
      go_wp2_with (first | (at_mapUpdate; refine wpList_mapUpdate_own _ rfl _ _ _ 62 rfl 9 3 (string_keyed Try.underlying9) Try.underlying62 _ bm m D rfl h1 (by unfold maxLen; omega) _ _ (.string x) rfl rfl hkey (.lit (.int .i64 k)) [] (plainElem_int Try.underlying3 hwf) ?_; intro w5 hown5 hgrow5) | go_in)
      go_roundw
      case rel => exact ⟨k + 1, by omega, by go_num, PlAt.put hN.out hm h1 H34.out.1 H34.out.2 x Hx.out hown5, HOr.out.then (⟨hgrow5.os, hgrow5.tape, hgrow5.output, hgrow5.size, fun i hi hn => hgrow5.block i hi (fun e => hn (by injection e with e; simp [e]))⟩ : Only [bm] wr w5) _ (fun i hi => .inl hi) (fun i hi => .inl hi)⟩
      case measure => simp [intOf]; omega
    · obtain rfl : k = N.length := by omega
      have hki : ¬ (N.length : Int) < (N.length : Int) := by omega
      go_wp2_with fail
      refine (newLinks_any wr N.length (by omega)).mono ?_
      rintro e w6 ⟨g1, g2, rfl, hL, hO6⟩
      have hszr := HOr.out.size
      have HO6 := Lib.hid hO6
      have HOw6 := Lib.hid ((HO4.out.then HOr.out [] (by simp) (fun i hi => .inr (by simp at hi; omega))).plus hO6)
      have HL := Lib.hid hL
      have hB6 := (HB4.out.only HOr.out (by simp; omega)).only hO6 (by simp)
      have HB6 := Lib.hid hB6
      have hB6' := hB6.put 0 (.slice a1 N.length c1)
      have c0 := hB6.cell 0
      have c1' := hB6.cell 1
      have c2 := hB6.cell 2
      have c3 := hB6.cell 3
      have z0 := hB6.notFrozen 0
      have z1 := hB6.notFrozen 1
      have z2 := hB6.notFrozen 2
      have z3 := hB6.notFrozen 3
      have lb := hB6.lt
      have hBf := (((hB6.put 0 (.slice a1 N.length c1)).put 1 (.map (some bm))).put 2 (.slice (some ⟨g1, 0, none⟩) N.length N.length)).put 3 (.slice (some ⟨g2, 0, none⟩) N.length N.length)
      have hOf : Only [w.heap.size] w6 ((((w6.setCell ⟨w.heap.size, 0, none⟩ (.slice a1 N.length c1)).setCell ⟨w.heap.size, 1, none⟩ (.map (some bm))).setCell ⟨w.heap.size, 2, none⟩ (.slice (some ⟨g1, 0, none⟩) N.length N.length)).setCell ⟨w.heap.size, 3, none⟩ (.slice (some ⟨g2, 0, none⟩) N.length N.length)) :=
        ((((Only.refl _ _).setCell (.inl (by simp)) _).setCell (.inl (by simp)) _).setCell (.inl (by simp)) _).setCell (.inl (by simp)) _
      have HBf := Lib.hid hBf
      have HOf := Lib.hid hOf
      have hfp := hL.lt
      clear hL hO6 hB6 hB6' hBf hOf
      go_wp2
      refine bodyPost_ret_by (ret_net rfl _ _ w.heap.size _ rfl HBf.out rfl) rfl ?_
      unfold NewNetTo
      rw [HNl.out]
      have hbm4 : bm < w4.heap.size := by have := HP.out.lt; have := hs3; omega
      refine ⟨.slice a1 N.length c1, bm, .slice (some ⟨g1, 0, none⟩) N.length N.length, .slice (some ⟨g2, 0, none⟩) N.length N.length, [g1, g2], rfl, ⟨?_, ?_, ?_, fun b hb hm => ?_, fun hm => ?_, by omega⟩, HOw6.out.then HOf.out [] (by simp) (fun i hi => .inr (by simp at hi; omega))⟩
      · refine owns_base ((((How4.out).off HOr.out (fun b hb hm => ?_)).off HO6.out (by simp)).off HOf.out (fun b hb hm => ?_)) (by omega)
        · have := (World.ownsRow.lt How4.out b hb).1
          have := hownb.out b hb
          simp at hm; omega
        · have := (World.ownsRow.lt How4.out b hb).1
          simp at hm; omega
      · exact (HP.out.keep HO6.out (by simp)).keep HOf.out (by simp; omega)
      · exact (HL.out.off HOf.out (fun i hi hm => by have := (hfp i hi).1; simp at hm; omega)).base (by omega)
      · have := hownb.out b hb
        have := (hfp b hm).1
        omega
      · have := (hfp bm hm).1
        omega

end Go.Proofs.Ytgkddbpfjbgelaa
