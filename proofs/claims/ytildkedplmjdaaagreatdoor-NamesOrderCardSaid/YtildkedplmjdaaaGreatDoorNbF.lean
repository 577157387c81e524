/-
  What NamesOrder's walk reaches.
-/
import Derived.Test.YtildkedplmjdaaaGreatDoorNaV
import Derived.Test.YtildkedplmjdaaaGreatDoorLxF
import Derived.Test.YtildkedplmjdaaaGreatDoorPaZ
import Derived.Test.YtildkedplmjdaaaGreatDoorPbB
import Derived.Test.YtildkedplmjdaaaGreatDoorPbM
import Derived.Test.YtildkedplmjdaaaGreatDoorPcK
namespace Go.Proofs.YtildkedplmjdaaaGreatDoor
set_option maxRecDepth 100000
set_option linter.unusedVariables false
open Go.RowKit Go.Sort Go.Stop

theorem ret_Join {fn : Func} {p q r : Tmp} (h : fn.results = #[.cell p 30, .tmp q, .tmp r]) (tmps : Array Value) (w : World) (g : Nat) (x0 x1 x2 y z : Value)
    (hp : tmps.getD p undef = .pointer (some ⟨g, 0, none⟩)) (hq : tmps.getD q undef = y) (hr : tmps.getD r undef = z) (h0 : IsBlk w g (.cells #[x0, x1, x2] 30)) :
    (results fn tmps).run Tryz.prog w = .ok (.tuple #[.agg #[x0, x1, x2], y, z]) w := by
  have hp' : tmps[p]?.getD undef = .pointer (some ⟨g, 0, none⟩) := by simpa using hp
  have hq' : tmps[q]?.getD undef = y := by simpa using hq
  have hr' : tmps[r]?.getD undef = z := by simpa using hr
  have k0 : w.cell? ⟨g, 0, none⟩ = some x0 := h0.cell 0
  have k1 : w.cell? ⟨g, 1, none⟩ = some x1 := h0.cell 1
  have k2 : w.cell? ⟨g, 2, none⟩ = some x2 := h0.cell 2
  simp [results, h, hp', hq', hr', asAddr, k0, k1, k2, go_sem]

/-- What Join answers of files: of none that are no sound set; of the others in their order. -/
def JoinX (zs : List FilM) (X : ProgM × Nat × Nat) : Prop := soundN zs = false ∧ X = (⟨[], [], []⟩, 0, 1) ∨ soundN zs = true ∧ ∃ zs', zs'.Perm zs ∧ OrdF zs' ∧ X = allM (zs'.map (·.2))
def JoinedTo (w : World) (zs : List FilM) (r : Ending) (w' : World) : Prop :=
  ∃ X : ProgM × Nat × Nat, JoinX zs X ∧ ∃ vv vl vf, r = .returned (.tuple #[.agg #[vv, vl, vf], .int .i64 X.2.1, .int .i64 X.2.2]) ∧ ProgAt w' vv vl vf X.1 ∧ Only [] w w'

set_option maxHeartbeats 8000000 in
theorem join_any (w : World) (a : Option Addr) (c : Nat) (zs : List FilM) (h : FilAt w a zs) (hc : zs.length ≤ c) (hn : ∀ f ∈ zs, f.1.length ≤ 100000) (hg : ErrT w) :
    Calls Tryz.prog 18 #[.slice a zs.length c] w (JoinedTo w zs) := by
  have hOa := (Only.refl [] w).alloc (.cells #[.slice none 0 0, .slice none 0 0, .slice none 0 0] 30)
  have hR := Lib.hid (IsBlk.made w (.cells #[.slice none 0 0, .slice none 0 0, .slice none 0 0] 30))
  have HO := Lib.hid hOa
  have H := Lib.hid (h.more hOa)
  have HG := Lib.hid (hg.only hOa (by simp))
  have hgl := hg.lt
  clear h hOa hg
  go_enter Tryz.func18, Tryz.ntmps18
  go_wp2_with fail
  generalize hW : w.alloc (.cells #[.slice none 0 0, .slice none 0 0, .slice none 0 0] 30) = w1 at *
  clear hW
  refine (joined_any w1 a c zs H.out hc hn HG.out).mono ?_
  rintro r w2 ⟨X, hX, vv, vl, vf, ev, rfl, hev, hP, hO2⟩
  have hP0 := hP [] _ (Only.refl [] _) (by simp)
  obtain ⟨a1, c1, rfl, -⟩ := hP0.1
  obtain ⟨a2, c2, rfl, -⟩ := hP0.2.1
  obtain ⟨a3, c3, rfl, -⟩ := hP0.2.2
  clear hP0
  have hRl := hR.out.lt
  obtain ⟨P, pos, er⟩ := X
  simp only at *
  have hR2 := hR.out.only hO2 (by simp)
  have HO2 := Lib.hid (HO.out.plus hO2)
  have HP := Lib.hid hP
  have HX := Lib.hid hX
  have HG2 := Lib.hid (HG.out.only hO2 (by simp))
  have y0 := hR2.cell 0
  have y1 := hR2.cell 1
  have y2 := hR2.cell 2
  have f0 := hR2.notFrozen 0
  have f1 := hR2.notFrozen 1
  have f2 := hR2.notFrozen 2
  have yl := hR2.lt
  have HR2 := Lib.hid hR2
  clear hP hX hR2 hO2
  have Hev := Lib.hid hev
  clear hev
  go_upto_region 2 with fail
  obtain ⟨s0, hE0⟩ := three_world HR2.out (.slice a1 P.vars.length c1) (.slice a2 P.locks.length c2) (.slice a3 P.funcs.length c3)
  have HE0 := Lib.hid (And.intro s0 hE0)
  have HG3 := Lib.hid (HG2.out.only hE0 (by simp; omega))
  clear s0 hE0 y0 y1 y2 f0 f1 f2 yl
  generalize hW3 : ((w2.setCell ⟨w.heap.size, 0, none⟩ (.slice a1 P.vars.length c1)).setCell ⟨w.heap.size, 1, none⟩ (.slice a2 P.locks.length c2)).setCell ⟨w.heap.size, 2, none⟩ (.slice a3 P.funcs.length c3) = w3 at *
  clear hW3
  go_wp2_with fail
  refine (told_any w3 ev _ Hev.out HG3.out).mono ?_
  rintro r w4 ⟨rfl, hO4⟩
  have hR4 := HE0.out.1.only hO4 (by simp)
  have HO4 := Lib.hid (And.intro HE0.out.2 hO4)
  have y0 := hR4.cell 0
  have y1 := hR4.cell 1
  have y2 := hR4.cell 2
  have f0 := hR4.notFrozen 0
  have f1 := hR4.notFrozen 1
  have f2 := hR4.notFrozen 2
  have HR4 := Lib.hid hR4
  clear hR4 hO4
  go_wp2
  obtain ⟨s1, hE1⟩ := three_world HR4.out (.slice a1 P.vars.length c1) (.slice a2 P.locks.length c2) (.slice a3 P.funcs.length c3)
  refine bodyPost_ret_by (ret_Join rfl _ _ w.heap.size _ _ _ _ _ rfl rfl rfl s1) rfl ?_
  refine ⟨(P, pos, er), HX.out, _, _, _, rfl, ?_, ?_⟩
  · exact HP.out [w.heap.size] _ ((HO4.out.1.plus HO4.out.2).then hE1 [w.heap.size] (by simp) (by simp)) (by simp; exact hRl)
  · exact HO2.out.then ((HO4.out.1.plus HO4.out.2).then hE1 [w.heap.size] (by simp) (by simp)) [] (by simp) (by simp)

end Go.Proofs.YtildkedplmjdaaaGreatDoor
namespace Go.Proofs.YtildkedplmjdaaaGreatDoor
set_option maxRecDepth 100000
set_option linter.unusedVariables false
open Go.RowKit Go.Sort Go.Stop

theorem ord_unique {zs zs' l : List FilM} (hp : zs'.Perm zs) (ho : OrdF zs') (hl : l.Perm zs) (hs : l.Pairwise (fun f g => f.1 < g.1)) : zs' = l := by
  have hle : l.Pairwise (fun f g => ¬ g.1 < f.1) := hs.imp (fun {f g} h h2 => List.lt_irrefl _ (List.lt_trans h h2))
  refine List.Perm.eq_of_pairwise (le := fun f g : FilM => ¬ g.1 < f.1) (fun a b ha hb h1 h2 => ?_) (show List.Pairwise (fun f g : FilM => ¬ g.1 < f.1) zs' from ho) hle (hp.trans hl.symm)
  have hal : a ∈ l := (hp.trans hl.symm).mem_iff.1 ha
  have e : a.1 = b.1 := List.le_antisymm (List.not_lt.1 h1) (List.not_lt.1 h2)
  by_cases hab : a = b
  · exact hab
  · exfalso
    obtain ⟨i, hi, hi'⟩ := List.getElem_of_mem hal
    obtain ⟨j, hj, hj'⟩ := List.getElem_of_mem hb
    rw [List.pairwise_iff_getElem] at hs
    rcases Nat.lt_trichotomy i j with h | h | h
    · have := hs i j hi hj h
      rw [hi', hj', e] at this
      exact List.lt_irrefl _ this
    · subst h; exact hab (hi'.symm.trans hj')
    · have := hs j i hj hi h
      rw [hi', hj', e] at this
      exact List.lt_irrefl _ this
/-- Files that are sound, in an order that is known. -/
theorem joinX_of {zs l : List FilM} {X : ProgM × Nat × Nat} (h : JoinX zs X) (hs : soundN zs = true) (hl : l.Perm zs) (hr : l.Pairwise (fun f g => f.1 < g.1)) : X = allM (l.map (·.2)) := by
  rcases h with ⟨h1, -⟩ | ⟨-, zs', hp, ho, rfl⟩
  · rw [hs] at h1; cases h1
  · rw [ord_unique hp ho hl hr]
theorem joinX_not {zs : List FilM} {X : ProgM × Nat × Nat} (h : JoinX zs X) (hs : soundN zs = false) : X = (⟨[], [], []⟩, 0, 1) := by
  rcases h with ⟨-, h2⟩ | ⟨h1, -⟩
  · exact h2
  · rw [hs] at h1; cases h1

def mainT : List UInt8 := [102, 117, 110, 99, 32, 109, 97, 105, 110, 32, 123, 32, 125]
theorem all_none : allM [] = (⟨[], [], []⟩, 0, 11) := by kernel_rfl
theorem all_main : allM [mainT] = (⟨[], [], [⟨[109, 97, 105, 110], 0, .nil⟩]⟩, 0, 0) := by kernel_rfl

end Go.Proofs.YtildkedplmjdaaaGreatDoor
namespace Go.Proofs.YtildkedplmjdaaaGreatDoor
set_option maxRecDepth 100000
set_option linter.unusedVariables false
open Go.RowKit Go.Sort

set_option maxHeartbeats 400000 in
theorem within7_nat (w : World) (x : Int) (n : Nat) (hn0 : 0 < n) (hn : n < 1000000) :
    Calls Tryz.prog 10 #[.int .i64 x, .int .i64 n] w fun e w' => e = .returned (.int .i64 (x % n)) ∧ w = w' := by
  obtain ⟨h1, h2, h3, h4⟩ := tmod_bounds x n hn0
  have H3 := Lib.hid h3
  have H4 := Lib.hid h4
  clear h3 h4
  have hnz : ((n : Int) == 0) = false := by simp; omega
  by_cases hs : x.tmod n < 0
  · have e1 := H4.out hs
    rw [← e1]
    clear H3 H4 e1
    go_enter Tryz.func10, Tryz.ntmps10
    go_wp2
    go_ret
    exact ⟨rfl, rfl⟩
  · have e1 := H3.out (by omega)
    rw [← e1]
    clear H3 H4 e1
    go_enter Tryz.func10, Tryz.ntmps10
    go_wp2
    go_ret
    exact ⟨rfl, rfl⟩
theorem within7_to (w : World) (x n : Int) (hn0 : 0 < n) (hn : n < 1000000) :
    Calls Tryz.prog 10 #[.int .i64 x, .int .i64 n] w fun e w' => e = .returned (.int .i64 (inM x n.toNat)) ∧ w = w' := by
  obtain ⟨k, rfl⟩ := Int.eq_ofNat_of_zero_le (show 0 ≤ n by omega)
  refine (within7_nat w x k (by omega) (by omega)).mono ?_
  rintro e w' ⟨rfl, rfl⟩
  have h1 := Int.emod_nonneg x (show (k : Int) ≠ 0 by omega)
  exact ⟨by unfold inM; rw [Int.toNat_natCast, Int.toNat_of_nonneg h1], rfl⟩

theorem FilAt.none (w : World) (a : Option Addr) : FilAt w a [] := fun h => by simp at h
theorem FilAt.one {w : World} {g : Nat} {s t : List UInt8} {T : TypeId} (h : IsBlk w g (.cells #[encStr s, encStr t] T)) : FilAt w (some ⟨g, 0, Option.none⟩) [(s, t)] := fun _ => by
  refine ⟨g, 0, rfl, h.lt, fun j f hf => ?_⟩
  match j, hf with
  | 0, hf => simp at hf; subst hf; exact ⟨h.cell 0, h.cell 1⟩
  | k + 1, hf => simp at hf

set_option maxHeartbeats 8000000 in
theorem known7_any (w : World) (hg : ErrT w) : Calls Tryz.prog 6 #[] w fun e w' => e = .returned (.bool true) ∧ Only [] w w' := by
  go_enter Tryz.func6, Tryz.ntmps6
  go_wp2_with fail
  refine (join_any w Option.none 0 [] (FilAt.none _ _) (by simp) (by simp) hg).mono ?_
  rintro e w1 ⟨X, hX, vv, vl, vf, rfl, hP, hO1⟩
  have hX1 := joinX_of (l := []) hX (by decide +kernel) (List.Perm.refl _) List.Pairwise.nil
  rw [show List.map (fun x => x.2) ([] : List FilM) = [] from rfl, all_none] at hX1
  subst hX1
  obtain ⟨a1, c1, rfl, -⟩ := hP.1
  obtain ⟨a2, c2, rfl, -⟩ := hP.2.1
  obtain ⟨a3, c3, rfl, -⟩ := hP.2.2
  simp only [List.length_nil] at *
  have hO2 := hO1.alloc (.cells #[.slice a1 0 c1, .slice a2 0 c2, .slice a3 0 c3] 30)
  have hO3 := hO2.alloc (.cells #[.string ⟨#[97]⟩, .string ⟨#[102, 117, 110, 99, 32, 109, 97, 105, 110, 32, 123, 32, 125]⟩] 46)
  have hb2 := IsBlk.made (w1.alloc (.cells #[.slice a1 0 c1, .slice a2 0 c2, .slice a3 0 c3] 30)) (.cells #[.string ⟨#[97]⟩, .string ⟨#[102, 117, 110, 99, 32, 109, 97, 105, 110, 32, 123, 32, 125]⟩] 46)
  have hs1 : (w1.alloc (.cells #[.slice a1 0 c1, .slice a2 0 c2, .slice a3 0 c3] 30)).heap.size = w1.heap.size + 1 := by simp
  rw [hs1] at hb2
  have Hb2 := Lib.hid (FilAt.one (s := [97]) (t := mainT) hb2)
  have HO3 := Lib.hid hO3
  have HG3 := Lib.hid (hg.only hO3 (by simp))
  clear hP hO1 hO2 hO3 hb2 hs1 hg hX
  go_wp2_with fail
  generalize hW : (w1.alloc (.cells #[.slice a1 0 c1, .slice a2 0 c2, .slice a3 0 c3] 30)).alloc (.cells #[.string ⟨#[97]⟩, .string ⟨#[102, 117, 110, 99, 32, 109, 97, 105, 110, 32, 123, 32, 125]⟩] 46) = w3 at *
  clear hW
  generalize w1.heap.size = q at *
  refine (join_any w3 _ 1 [([97], mainT)] Hb2.out (by simp) (by simp) HG3.out).mono ?_
  rintro e w4 ⟨X, hX, vv, vl, vf, rfl, hP, hO4⟩
  have hX1 := joinX_of (l := [([97], mainT)]) hX (by decide +kernel) (List.Perm.refl _) (by simp)
  rw [show List.map (fun x => x.2) [(([97], mainT) : FilM)] = [mainT] from rfl, all_main] at hX1
  subst hX1
  obtain ⟨a1, c1, rfl, -⟩ := hP.1
  obtain ⟨a2, c2, rfl, -⟩ := hP.2.1
  obtain ⟨a3, c3, xs, fp, rfl, hE, hra⟩ := funcs_open hP.2.2
  obtain ⟨g, rfl, hgl, hra⟩ := hra (by simp)
  obtain ⟨va, fa, fr, xr, rfl, -, -⟩ := hE
  have k0 : w4.cell? ⟨g, 0, Option.none⟩ = some (.string ⟨#[109, 97, 105, 110]⟩) := hra 0 _ rfl
  have HO4 := Lib.hid (HO3.out.plus hO4)
  clear hX hP hra hO4 HO3
  simp only [List.length_nil, List.length_cons] at *
  go_wp2
  go_ret
  exact ⟨rfl, HO4.out.alloc _⟩

end Go.Proofs.YtildkedplmjdaaaGreatDoor
namespace Go.Proofs.YtildkedplmjdaaaGreatDoor
set_option maxRecDepth 100000
set_option linter.unusedVariables false
open Go.RowKit Go.Sort

end Go.Proofs.YtildkedplmjdaaaGreatDoor
