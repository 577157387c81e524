/-
  Join of the package names.
-/
import Derived.Test.YtildkedplmjdaaaDoorNaV
namespace Go.Proofs.YtildkedplmjdaaaDoor
set_option maxRecDepth 100000
set_option linter.unusedVariables false
open Go.RowKit Go.Sort Go.Stop

theorem ret_Join {fn : Func} {p q r : Tmp} (h : fn.results = #[.cell p 27, .tmp q, .tmp r]) (tmps : Array Value) (w : World) (g : Nat) (x0 x1 x2 y z : Value)
    (hp : tmps.getD p undef = .pointer (some ⟨g, 0, none⟩)) (hq : tmps.getD q undef = y) (hr : tmps.getD r undef = z) (h0 : IsBlk w g (.cells #[x0, x1, x2] 27)) :
    (results fn tmps).run Tryd.prog w = .ok (.tuple #[.agg #[x0, x1, x2], y, z]) w := by
  have hp' : tmps[p]?.getD undef = .pointer (some ⟨g, 0, none⟩) := by simpa using hp
  have hq' : tmps[q]?.getD undef = y := by simpa using hq
  have hr' : tmps[r]?.getD undef = z := by simpa using hr
  have k0 : w.cell? ⟨g, 0, none⟩ = some x0 := h0.cell 0
  have k1 : w.cell? ⟨g, 1, none⟩ = some x1 := h0.cell 1
  have k2 : w.cell? ⟨g, 2, none⟩ = some x2 := h0.cell 2
  simp [results, h, hp', hq', hr', asAddr, k0, k1, k2, go_sem]

/-- What Join answers of files: of none that are no sound set; of the others in their order. -/
def JoinX (zs : List FilM) (X : ProgM × Nat × Nat) : Prop := soundN zs = false ∧ X = (⟨[], [], []⟩, 0, 1) ∨ soundN zs = true ∧ ∃ zs', zs'.Perm zs ∧ OrdF zs' ∧ X = allM (zs'.map (·.2))
def JoinedTo (w : World) (zs : List FilM) (r : Ending) (w' : World) : Prop :=
  ∃ X : ProgM × Nat × Nat, JoinX zs X ∧ ∃ vv vl vf, r = .returned (.tuple #[.agg #[vv, vl, vf], .int .i64 X.2.1, .int .i64 X.2.2]) ∧ ProgAt w' vv vl vf X.1 ∧ Only [] w w'

set_option maxHeartbeats 8000000 in
theorem join_any (w : World) (a : Option Addr) (c : Nat) (zs : List FilM) (h : FilAt w a zs) (hc : zs.length ≤ c) (hn : ∀ f ∈ zs, f.1.length ≤ 100000) (hg : ErrT w) :
    Calls Tryd.prog 9 #[.slice a zs.length c] w (JoinedTo w zs) := by
  have hOa := (Only.refl [] w).alloc (.cells #[.slice none 0 0, .slice none 0 0, .slice none 0 0] 27)
  have hR := Lib.hid (IsBlk.made w (.cells #[.slice none 0 0, .slice none 0 0, .slice none 0 0] 27))
  have HO := Lib.hid hOa
  have H := Lib.hid (h.more hOa)
  have HG := Lib.hid (hg.only hOa (by simp))
  have hgl := hg.lt
  clear h hOa hg
  go_enter Tryd.func9, Tryd.ntmps9
  go_wp2_with fail
  generalize hW : w.alloc (.cells #[.slice none 0 0, .slice none 0 0, .slice none 0 0] 27) = w1 at *
  clear hW
  refine (joined_any w1 a c zs H.out hc hn HG.out).mono ?_
  rintro r w2 ⟨X, hX, vv, vl, vf, ev, rfl, hev, hP, hO2⟩
  have hP0 := hP [] _ (Only.refl [] _) (by simp)
  obtain ⟨a1, c1, rfl, -⟩ := hP0.1
  obtain ⟨a2, c2, rfl, -⟩ := hP0.2.1
  obtain ⟨a3, c3, rfl, -⟩ := hP0.2.2
  clear hP0
  have hRl := hR.out.lt
  obtain ⟨P, pos, er⟩ := X
  simp only at *
  have hR2 := hR.out.only hO2 (by simp)
  have HO2 := Lib.hid (HO.out.plus hO2)
  have HP := Lib.hid hP
  have HX := Lib.hid hX
  have HG2 := Lib.hid (HG.out.only hO2 (by simp))
  have y0 := hR2.cell 0
  have y1 := hR2.cell 1
  have y2 := hR2.cell 2
  have f0 := hR2.notFrozen 0
  have f1 := hR2.notFrozen 1
  have f2 := hR2.notFrozen 2
  have yl := hR2.lt
  have HR2 := Lib.hid hR2
  clear hP hX hR2 hO2
  have Hev := Lib.hid hev
  clear hev
  go_upto_region 2 with fail
  obtain ⟨s0, hE0⟩ := three_world HR2.out (.slice a1 P.vars.length c1) (.slice a2 P.locks.length c2) (.slice a3 P.funcs.length c3)
  have HE0 := Lib.hid (And.intro s0 hE0)
  have HG3 := Lib.hid (HG2.out.only hE0 (by simp; omega))
  clear s0 hE0 y0 y1 y2 f0 f1 f2 yl
  generalize hW3 : ((w2.setCell ⟨w.heap.size, 0, none⟩ (.slice a1 P.vars.length c1)).setCell ⟨w.heap.size, 1, none⟩ (.slice a2 P.locks.length c2)).setCell ⟨w.heap.size, 2, none⟩ (.slice a3 P.funcs.length c3) = w3 at *
  clear hW3
  go_wp2_with fail
  refine (told_any w3 ev _ Hev.out HG3.out).mono ?_
  rintro r w4 ⟨rfl, hO4⟩
  have hR4 := HE0.out.1.only hO4 (by simp)
  have HO4 := Lib.hid (And.intro HE0.out.2 hO4)
  have y0 := hR4.cell 0
  have y1 := hR4.cell 1
  have y2 := hR4.cell 2
  have f0 := hR4.notFrozen 0
  have f1 := hR4.notFrozen 1
  have f2 := hR4.notFrozen 2
  have HR4 := Lib.hid hR4
  clear hR4 hO4
  go_wp2
  obtain ⟨s1, hE1⟩ := three_world HR4.out (.slice a1 P.vars.length c1) (.slice a2 P.locks.length c2) (.slice a3 P.funcs.length c3)
  refine bodyPost_ret_by (ret_Join rfl _ _ w.heap.size _ _ _ _ _ rfl rfl rfl s1) rfl ?_
  refine ⟨(P, pos, er), HX.out, _, _, _, rfl, ?_, ?_⟩
  · exact HP.out [w.heap.size] _ ((HO4.out.1.plus HO4.out.2).then hE1 [w.heap.size] (by simp) (by simp)) (by simp; exact hRl)
  · exact HO2.out.then ((HO4.out.1.plus HO4.out.2).then hE1 [w.heap.size] (by simp) (by simp)) [] (by simp) (by simp)

end Go.Proofs.YtildkedplmjdaaaDoor
