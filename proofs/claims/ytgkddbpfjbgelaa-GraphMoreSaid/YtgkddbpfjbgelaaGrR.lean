/-
  The law's known.
-/
import Derived.Test.YtgkddbpfjbgelaaGrQ
namespace Go.Proofs.Ytgkddbpfjbgelaa
set_option maxRecDepth 100000
set_option linter.unusedVariables false
open Go.RowKit Go.Sort Go.Maps

theorem nams_blk {w : World} {g : Nat} {cs : Array Value} {t : TypeId} {l : List Nam} {c : Nat} (h : IsBlk w g (.cells cs t)) (hcs : cs = (l.map encStr).toArray) : NamsAt w (.slice (some ⟨g, 0, none⟩) l.length c) l :=
  ⟨_, c, rfl, fun _ => ⟨g, rfl, h.lt, fun i s hs => by rw [h.cell, hcs]; simp [hs]⟩⟩
theorem edges_blk {w : World} {g : Nat} {cs : Array Value} {t : TypeId} {E : List (Nam × Nam)} {c : Nat} (h : IsBlk w g (.cells cs t)) (hcs : cs = (E.flatMap fun e => [encStr e.1, encStr e.2]).toArray) : EdgesAt w (.slice (some ⟨g, 0, none⟩) E.length c) E := by
  refine ⟨_, c, rfl, fun i e he => ?_⟩
  obtain ⟨h1, h2⟩ := ecells_get E i e he
  exact ⟨g, rfl, h.lt, by rw [h.cell, hcs]; simpa using h1, by rw [h.cell, hcs]; simpa using h2⟩

set_option maxHeartbeats 8000000 in
theorem known8_any (w : World) : Calls Try.prog 9 #[] w fun e w' => e = .returned (.bool true) ∧ Only [] w w' := by
  go_enter Try.func9, Try.ntmps9
  go_wp2_with fail
  have hO1 : Only [] w ((w.alloc (Obj.cells #[Value.string { data := #[97] }, Value.string { data := #[98] }, Value.string { data := #[99] }] 9)).alloc (Obj.cells #[Value.string { data := #[97] }, Value.string { data := #[98] }, Value.string { data := #[98] }, Value.string { data := #[97] }] 35)) := ((Only.refl _ _).alloc _).alloc _
  have hb1 := (IsBlk.made w (Obj.cells #[Value.string { data := #[97] }, Value.string { data := #[98] }, Value.string { data := #[99] }] 9)).alloc (Obj.cells #[Value.string { data := #[97] }, Value.string { data := #[98] }, Value.string { data := #[98] }, Value.string { data := #[97] }] 35)
  have hb2 := IsBlk.made (w.alloc (Obj.cells #[Value.string { data := #[97] }, Value.string { data := #[98] }, Value.string { data := #[99] }] 9)) (Obj.cells #[Value.string { data := #[97] }, Value.string { data := #[98] }, Value.string { data := #[98] }, Value.string { data := #[97] }] 35)
  rw [World.size_alloc] at hb2
  generalize hW : (w.alloc (Obj.cells #[Value.string { data := #[97] }, Value.string { data := #[98] }, Value.string { data := #[99] }] 9)).alloc (Obj.cells #[Value.string { data := #[97] }, Value.string { data := #[98] }, Value.string { data := #[98] }, Value.string { data := #[97] }] 35) = w1 at *
  clear hW
  have HO1 := Lib.hid hO1
  clear hO1
  refine (parts8_any w1 _ _ [[97], [98], [99]] knE (nams_blk (l := [[97], [98], [99]]) hb1 rfl) (edges_blk (E := knE) hb2 rfl) (by decide) (by decide) (by decide) (by decide) (by decide)).mono ?_
  rintro e w2 ⟨v2, rfl, hr2, hO2⟩
  rw [kn_parts] at hr2
  have HR2 := Lib.hid hr2.namss
  have HO2 := Lib.hid (HO1.out.plus hO2)
  clear hr2 hO2 hb1 hb2
  go_wp2_with fail
  refine (parts8_any w2 _ _ [] [] ⟨none, 0, rfl, fun h => by simp at h⟩ ⟨none, 0, rfl, fun i e h => by simp at h⟩ (by simp) (by simp) (by simp) (by simp) (by simp)).mono ?_
  rintro e w3 ⟨v3, rfl, hr3, hO3⟩
  rw [kn_none] at hr3
  have HR3 := Lib.hid (HR2.out.more hO3)
  have HO3 := Lib.hid (HO2.out.plus hO3)
  obtain ⟨cs3, hr3, -⟩ := hr3
  obtain ⟨a3, c3, rfl⟩ := owns_slice hr3
  clear hr3 hO3
  obtain ⟨a2, c2, rfl, -⟩ := HR3.out
  go_wp2_with fail
  have hO4 : Only [] w3 (((w3.alloc (Obj.cells #[Value.string { data := #[97] }, Value.string { data := #[98] }] 9)).alloc (Obj.cells #[Value.string { data := #[99] }] 9)).alloc (Obj.cells #[Value.slice (some { block := w3.heap.size, off := 0 }) 2 2, Value.slice (some { block := w3.heap.size + 1, off := 0 }) 1 1] 24)) := (((Only.refl _ _).alloc _).alloc _).alloc _
  have k1 := ((IsBlk.made w3 (Obj.cells #[Value.string { data := #[97] }, Value.string { data := #[98] }] 9)).alloc (Obj.cells #[Value.string { data := #[99] }] 9)).alloc (Obj.cells #[Value.slice (some { block := w3.heap.size, off := 0 }) 2 2, Value.slice (some { block := w3.heap.size + 1, off := 0 }) 1 1] 24)
  have k2 := (IsBlk.made (w3.alloc (Obj.cells #[Value.string { data := #[97] }, Value.string { data := #[98] }] 9)) (Obj.cells #[Value.string { data := #[99] }] 9)).alloc (Obj.cells #[Value.slice (some { block := w3.heap.size, off := 0 }) 2 2, Value.slice (some { block := w3.heap.size + 1, off := 0 }) 1 1] 24)
  have k3 := IsBlk.made ((w3.alloc (Obj.cells #[Value.string { data := #[97] }, Value.string { data := #[98] }] 9)).alloc (Obj.cells #[Value.string { data := #[99] }] 9)) (Obj.cells #[Value.slice (some { block := w3.heap.size, off := 0 }) 2 2, Value.slice (some { block := w3.heap.size + 1, off := 0 }) 1 1] 24)
  rw [World.size_alloc] at k2
  rw [World.size_alloc, World.size_alloc] at k3
  have hq : NamssAt (((w3.alloc (Obj.cells #[Value.string { data := #[97] }, Value.string { data := #[98] }] 9)).alloc (Obj.cells #[Value.string { data := #[99] }] 9)).alloc (Obj.cells #[Value.slice (some { block := w3.heap.size, off := 0 }) 2 2, Value.slice (some { block := w3.heap.size + 1, off := 0 }) 1 1] 24)) (.slice (some ⟨w3.heap.size + 1 + 1, 0, none⟩) 2 2) [[[97], [98]], [[99]]] := by
    refine ⟨_, 2, rfl, fun i p hp => ?_⟩
    match i, hp with
    | 0, hp =>
      simp only [List.getElem?_cons_zero, Option.some.injEq] at hp
      subst hp
      exact ⟨_, _, rfl, k3.lt, k3.cell 0, nams_blk (l := [[97], [98]]) k1 rfl⟩
    | 1, hp =>
      simp only [List.getElem?_cons_succ, List.getElem?_cons_zero, Option.some.injEq] at hp
      subst hp
      exact ⟨_, _, rfl, k3.lt, k3.cell 1, nams_blk (l := [[99]]) k2 rfl⟩
    | i + 2, hp => simp at hp
  refine (all8_any _ _ _ [[[97], [98]], [[99]]] [[[97], [98]], [[99]]] (HR3.out.more hO4) hq (by decide) (by decide) (by decide) (by decide)).mono ?_
  rintro e w5 ⟨rfl, hO5⟩
  have HO5 := Lib.hid ((HO3.out.plus hO4).plus hO5)
  clear hO4 k1 k2 k3 hq hO5
  go_wp2
  go_ret
  exact ⟨rfl, HO5.out⟩

end Go.Proofs.Ytgkddbpfjbgelaa
