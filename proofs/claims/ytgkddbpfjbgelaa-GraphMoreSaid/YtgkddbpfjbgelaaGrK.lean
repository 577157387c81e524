/-
  lead, tell and tellAll of the package graph.
-/
import Derived.Test.YtgkddbpfjbgelaaGrJ
namespace Go.Proofs.Ytgkddbpfjbgelaa
set_option maxRecDepth 100000
set_option linter.unusedVariables false
open Go.RowKit Go.Sort Go.Maps

def idxN (N : List Nam) (s : Nam) : Option Nat := N.findIdx? (fun x => x == s)
theorem idxN_some {N : List Nam} {s : Nam} {i : Nat} (h : idxN N s = some i) : i < N.length ∧ N[i]? = some s := by
  unfold idxN at h
  rw [List.findIdx?_eq_some_iff_getElem] at h
  obtain ⟨h1, h2, -⟩ := h
  exact ⟨h1, by simp at h2; rw [List.getElem?_eq_getElem h1, h2]⟩
theorem idxN_none {N : List Nam} {s : Nam} (h : idxN N s = none) : s ∉ N := by
  unfold idxN at h
  rw [List.findIdx?_eq_none_iff] at h
  intro hm
  have := h s hm
  simp at this
/-- An edge between places; none, if one of its ends is no name. -/
def edgeI (N : List Nam) (e : Nam × Nam) : List Edg := match idxN N e.1, idxN N e.2 with
  | some i, some j => [(i, j)]
  | _, _ => []

theorem NetAt.off {w w' : World} {base bm : Nat} {vN vn vb : Value} {N : List Nam} {es : List Edg} {fp S : List Nat} (h : NetAt w base vN bm vn vb N es fp) (hO : Only S w w') (h1 : ∀ b, vN.ownBlock = some b → b ∉ S) (h2 : bm ∉ S) (h3 : ∀ k ∈ fp, k ∉ S) : NetAt w' base vN bm vn vb N es fp :=
  ⟨h.1.off hO h1, h.2.1.keep hO h2, h.2.2.1.off hO h3, h.2.2.2⟩
theorem NetAt.more {w w' : World} {base bm : Nat} {vN vn vb : Value} {N : List Nam} {es : List Edg} {fp : List Nat} (h : NetAt w base vN bm vn vb N es fp) (hO : Only [] w w') : NetAt w' base vN bm vn vb N es fp := h.off hO (by simp) (by simp) (by simp)

def LeadTo (w : World) (base : Nat) (vN : Value) (bm : Nat) (vn vb : Value) (N : List Nam) (es : List Edg) (fp : List Nat) (r : Ending) (w' : World) : Prop :=
  r = .returned (.tuple #[]) ∧ ∃ fp', NetAt w' base vN bm vn vb N es fp' ∧ Only fp w w' ∧ ∀ k ∈ fp', k ∈ fp ∨ w.heap.size ≤ k

set_option maxHeartbeats 8000000 in
theorem lead_any (w : World) (base : Nat) (vN : Value) (bm : Nat) (vn vb : Value) (N : List Nam) (es : List Edg) (fp : List Nat) (h : NetAt w base vN bm vn vb N es fp) (hn : N.length ≤ 1000) (hes : es.length ≤ 100000) (s t : Nam) (hs : s.length ≤ 100000) (ht : t.length ≤ 100000) :
    Calls Try.prog 29 #[netV vN bm vn vb, encStr s, encStr t] w (LeadTo w base vN bm vn vb N (es ++ edgeI N (s, t)) fp) := by
  have H := Lib.hid h
  have hO1 : Only [] w (w.alloc (.cells #[vN, .map (some bm), vn, vb] 67)) := (Only.refl _ _).alloc _
  have hB1 := IsBlk.made w (.cells #[vN, .map (some bm), vn, vb] 67)
  have hP := h.2.1.keep hO1 (by simp)
  have hbl : ∀ b, vN.ownBlock = some b → b < w.heap.size := fun b hb => (World.ownsRow.lt h.1 b hb).2
  have hbm := h.2.1.lt
  have c1 := hB1.cell 1
  have c2 := hB1.cell 2
  have c3 := hB1.cell 3
  have lb := hB1.lt
  have hfp := h.2.2.1.lt
  unfold netV
  have hlk : ∀ x : Nam, x.length ≤ 100000 → (Instr.lookup 62 (.map (some bm)) (.string ⟨x.toArray⟩) true).run Try.prog (w.alloc (.cells #[vN, .map (some bm), vn, vb] 67)) = .ok (.tuple #[.int .i64 (((idxN N x).getD 0 : Nat) : Int), .bool (idxN N x).isSome]) (w.alloc (.cells #[vN, .map (some bm), vn, vb] 67)) := by
    intro x hx
    cases hi : idxN N x with
    | none => exact hP.no (by unfold maxLen; omega) (fun i hi2 e => idxN_none hi (List.mem_of_getElem? e))
    | some i =>
      obtain ⟨h1, h2⟩ := idxN_some hi
      exact hP.yes (by unfold maxLen; omega) h1 h2
  have hl1 := hlk s hs
  have hl2 := hlk t ht
  have HO1 := Lib.hid hO1
  have H1 := Lib.hid (h.more hO1)
  have hv21 : vn.oneCell' = true ∧ vb.oneCell' = true := by
    obtain ⟨f1, f2, ⟨_, h1, -⟩, ⟨_, h2, -⟩, -⟩ := h.2.2.1
    obtain ⟨a, c, rfl⟩ := owns_slice h1
    obtain ⟨a', c', rfl⟩ := owns_slice h2
    exact ⟨rfl, rfl⟩
  clear h hlk hP hO1 hB1
  have HE : Hid (edgeI N (s, t) = match idxN N s, idxN N t with | some i, some j => [(i, j)] | _, _ => []) := Lib.hid rfl
  have Hi : Hid (∀ i, idxN N s = some i → i < N.length) := Lib.hid (fun i hi => (idxN_some hi).1)
  have Hj : Hid (∀ j, idxN N t = some j → j < N.length) := Lib.hid (fun i hi => (idxN_some hi).1)
  unfold encStr
  generalize hsi : idxN N s = oi at *
  generalize htj : idxN N t = oj at *
  clear hsi htj
  go_enter Try.func29, Try.ntmps29
  go_upto_region 1 with fail
  generalize hW1 : w.alloc (.cells #[vN, .map (some bm), vn, vb] 67) = w1 at *
  clear hW1
  obtain ⟨hvn1, hvb1⟩ := hv21
  have hend : ∀ es', es' = es → NetAt w1 base vN bm vn vb N es' fp ∧ Only fp w w1 := fun es' e => ⟨e ▸ H1.out, HO1.out.into (by simp)⟩
  cases oi with
  | none =>
    simp only [Option.getD_none, Option.isSome_none] at hl1
    cases oj with
    | none =>
      simp only [Option.getD_none, Option.isSome_none] at hl2
      go_wp2_with fail
      go_end0
      obtain ⟨q1, q2⟩ := hend (es ++ edgeI N (s, t)) (by rw [HE.out]; simp)
      exact ⟨rfl, fp, q1, q2, fun k hk => .inl hk⟩
    | some j =>
      simp only [Option.getD_some, Option.isSome_some] at hl2
      go_wp2_with fail
      go_end0
      obtain ⟨q1, q2⟩ := hend (es ++ edgeI N (s, t)) (by rw [HE.out]; simp)
      exact ⟨rfl, fp, q1, q2, fun k hk => .inl hk⟩
  | some i =>
    simp only [Option.getD_some, Option.isSome_some] at hl1
    cases oj with
    | none =>
      simp only [Option.getD_none, Option.isSome_none] at hl2
      go_wp2_with fail
      go_end0
      obtain ⟨q1, q2⟩ := hend (es ++ edgeI N (s, t)) (by rw [HE.out]; simp)
      exact ⟨rfl, fp, q1, q2, fun k hk => .inl hk⟩
    | some j =>
      simp only [Option.getD_some, Option.isSome_some] at hl2
      go_wp2_with fail
      refine (add_any w1 base vn vb N.length i j es fp H1.out.2.2.1 (Hi.out i rfl) (Hj.out j rfl) (by omega) hes).mono ?_
      rintro e w2 ⟨rfl, fp', hL, hO2, hf2⟩
      have HL := Lib.hid hL
      have HO2 := Lib.hid hO2
      have Hf2 := Lib.hid hf2
      clear hL hO2 hf2 hend
      go_wp2
      go_end0
      have hs1 := HO1.out.size
      refine ⟨rfl, fp', ⟨H1.out.1.off HO2.out (fun b hb => H1.out.2.2.2.1 b hb), H1.out.2.1.keep HO2.out H1.out.2.2.2.2.1, ?_, fun b hb hm => ?_, fun hm => ?_, H1.out.2.2.2.2.2⟩, (HO1.out.into (by simp)).then HO2.out _ (fun i hi => .inl hi) (fun i hi => .inl hi), fun k hk => (Hf2.out k hk).imp id (fun h => by omega)⟩
      · rw [HE.out]; exact HL.out
      · rcases Hf2.out b hm with h | h
        · exact H1.out.2.2.2.1 b hb h
        · have := hbl b hb; omega
      · rcases Hf2.out bm hm with h | h
        · exact H1.out.2.2.2.2.1 h
        · omega

end Go.Proofs.Ytgkddbpfjbgelaa
