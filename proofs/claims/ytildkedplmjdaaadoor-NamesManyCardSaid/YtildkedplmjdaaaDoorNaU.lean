/-
  Two programs in memory, the one's rows appended to the other's. No walk is here.
-/
import Derived.Test.YtildkedplmjdaaaDoorNaT
namespace Go.Proofs.YtildkedplmjdaaaDoor
set_option maxRecDepth 100000
set_option linter.unusedVariables false
open Go.RowKit Go.Sort

/-- All blocks of a program. -/
def blksP (vv vl vf : Value) (fp : List Nat) : List Nat := ownL vv ++ (ownL vl ++ (ownL vf ++ fp))
def FarP (l m : List Nat) : Prop := ∀ g ∈ l, g ∉ m

theorem GrowP.off {w0 w w' : World} {S : List Nat} {vv vl vf : Value} {p : ProgM} {fp : List Nat} (h : GrowP w0 w vv vl vf p fp) (hO : Only S w w') (hS : ∀ g ∈ blksP vv vl vf fp, g ∉ S) : GrowP w0 w' vv vl vf p fp := by
  obtain ⟨h1, h2, ⟨xs, h3, h4⟩, h5, h6, h7, h8, h9⟩ := h
  have a1 : ∀ g, vv.ownBlock = some g → g ∉ S := fun g hg => hS g (by unfold blksP; simp [mem_ownL.2 hg])
  have a2 : ∀ g, vl.ownBlock = some g → g ∉ S := fun g hg => hS g (by unfold blksP; simp [mem_ownL.2 hg])
  have a3 : ∀ g, vf.ownBlock = some g → g ∉ S := fun g hg => hS g (by unfold blksP; simp [mem_ownL.2 hg])
  have a4 : ∀ g ∈ fp, g ∉ S := fun g hg => hS g (by unfold blksP; simp [hg])
  exact ⟨owns_off h1 hO a1, owns_off h2 hO a2, ⟨xs, owns_off h3 hO a3, h4.keep hO a4⟩, h5.more hO.size, h6, h7, h8, h9⟩
theorem GrowP.lt {w0 w : World} {vv vl vf : Value} {p : ProgM} {fp : List Nat} (h : GrowP w0 w vv vl vf p fp) : ∀ g ∈ blksP vv vl vf fp, w0.heap.size ≤ g ∧ g < w.heap.size := by
  obtain ⟨h1, h2, ⟨xs, h3, h4⟩, h5, -⟩ := h
  intro g hg
  unfold blksP at hg
  simp only [List.mem_append] at hg
  rcases hg with hg | hg | hg | hg
  · exact World.ownsRow.lt h1 g (mem_ownL.1 hg)
  · exact World.ownsRow.lt h2 g (mem_ownL.1 hg)
  · exact World.ownsRow.lt h3 g (mem_ownL.1 hg)
  · exact h5.2 g hg

theorem GrowP.vars_ {w0 w w' : World} {vv vl vf v' : Value} {p : ProgM} {fp : List Nat} {l : List DeclM} (h : GrowP w0 w vv vl vf p fp) (hr : w'.ownsRow w0.heap.size 32 2 v' (p.vars ++ l).length (dcells (p.vars ++ l)))
    (hO : Only (ownL vv) w w') (hb : v'.ownBlock = vv.ownBlock ∨ v'.ownBlock = some w.heap.size) : GrowP w0 w' v' vl vf { p with vars := p.vars ++ l } fp := by
  have hlt := h.lt
  obtain ⟨h1, h2, ⟨xs, h3, h4⟩, h5, h6, h7, h8, h9⟩ := h
  refine ⟨hr, owns_off h2 hO (fun g hg hm => h6 g (mem_ownL.1 hm) hg), ⟨xs, owns_off h3 hO (fun g hg hm => apart_type h3 h1 (by decide) g hg (mem_ownL.1 hm)), h4.keep hO (fun k hk hm => h7 k (mem_ownL.1 hm) hk)⟩, h5.more hO.size, fun g hg hv => ?_, fun g hg hm => ?_, h8, h9⟩
  · rcases hb with hb | hb
    · exact h6 g (hb ▸ hg) hv
    · rw [hb] at hg; injection hg with hg; have := (World.ownsRow.lt h2 g hv).2; omega
  · rcases hb with hb | hb
    · exact h7 g (hb ▸ hg) hm
    · rw [hb] at hg; injection hg with hg; have := (h5.2 g hm).2; omega
theorem GrowP.locks_ {w0 w w' : World} {vv vl vf v' : Value} {p : ProgM} {fp : List Nat} {l : List DeclM} (h : GrowP w0 w vv vl vf p fp) (hr : w'.ownsRow w0.heap.size 32 2 v' (p.locks ++ l).length (dcells (p.locks ++ l)))
    (hO : Only (ownL vl) w w') (hb : v'.ownBlock = vl.ownBlock ∨ v'.ownBlock = some w.heap.size) : GrowP w0 w' vv v' vf { p with locks := p.locks ++ l } fp := by
  obtain ⟨h1, h2, ⟨xs, h3, h4⟩, h5, h6, h7, h8, h9⟩ := h
  refine ⟨owns_off h1 hO (fun g hg hm => h6 g hg (mem_ownL.1 hm)), hr, ⟨xs, owns_off h3 hO (fun g hg hm => apart_type h3 h2 (by decide) g hg (mem_ownL.1 hm)), h4.keep hO (fun k hk hm => h8 k (mem_ownL.1 hm) hk)⟩, h5.more hO.size, fun g hg hv => ?_, h7, fun g hg hm => ?_, h9⟩
  · rcases hb with hb | hb
    · exact h6 g hg (hb ▸ hv)
    · rw [hb] at hv; injection hv with hv; have := (World.ownsRow.lt h1 g hg).2; omega
  · rcases hb with hb | hb
    · exact h8 g (hb ▸ hg) hm
    · rw [hb] at hg; injection hg with hg; have := (h5.2 g hm).2; omega
theorem encF_app {w : World} : ∀ {l m : List FuncM} {xs ys : List Value} {fp fq : List Nat}, EncF w l xs fp → EncF w m ys fq → EncF w (l ++ m) (xs ++ ys) (fp ++ fq)
  | [], m, xs, ys, fp, fq, h, k => by obtain ⟨rfl, rfl⟩ := h; exact k
  | f :: r, m, xs, ys, fp, fq, h, k => by
    obtain ⟨va, fa, fr, xr, rfl, rfl, h1, hn, h3⟩ := h
    exact ⟨va, fa, fr ++ fq, xr ++ ys, by simp, by simp, h1, hn, encF_app h3 k⟩
theorem encF_one {w : World} : ∀ {l : List FuncM} {xs : List Value} {fp : List Nat}, EncF w l xs fp → ∀ u ∈ xs, u.oneCell' = true
  | [], xs, fp, h => by rw [h.1]; simp
  | f :: r, xs, fp, h => by
    obtain ⟨va, fa, fr, xr, rfl, rfl, h1, _, h3⟩ := h
    intro u hu
    simp only [List.mem_cons] at hu
    rcases hu with rfl | rfl | rfl | hu
    · rfl
    · rfl
    · exact RowE.one h1
    · exact encF_one h3 u hu
theorem dcells_ones (l : List DeclM) : ∀ u ∈ dcells l, u.oneCell' = true := by
  intro u hu
  obtain ⟨d, -, hd⟩ := List.mem_flatMap.1 hu
  simp only [List.mem_cons, List.not_mem_nil, or_false] at hd
  rcases hd with rfl | rfl <;> rfl
theorem dcells_app (a b : List DeclM) : dcells (a ++ b) = dcells a ++ dcells b := by simp [dcells]
theorem GrowP.funcs_ {w0 w1 w w' : World} {vv vl vf v' uv ul uf : Value} {p q : ProgM} {fp fq : List Nat} {xs ys : List Value} (h : GrowP w0 w vv vl vf p fp) (hq : GrowP w1 w uv ul uf q fq) (h01 : w0.heap.size ≤ w1.heap.size) (hF : FarP (blksP vv vl vf fp) (blksP uv ul uf fq))
    (hE : EncF w p.funcs xs fp) (hE' : EncF w q.funcs ys fq) (hr : w'.ownsRow w0.heap.size 30 3 v' (p.funcs ++ q.funcs).length (xs ++ ys))
    (hO : Only (ownL vf) w w') (hb : v'.ownBlock = vf.ownBlock ∨ v'.ownBlock = some w.heap.size) : GrowP w0 w' vv vl v' { p with funcs := p.funcs ++ q.funcs } (fp ++ fq) := by
  have hfar : ∀ g, g ∈ blksP vv vl vf fp → g ∉ fq := fun g hg hm => hF g hg (by unfold blksP; simp [hm])
  obtain ⟨h1, h2, ⟨zs, h3, h4⟩, h5, h6, h7, h8, h9⟩ := h
  obtain ⟨-, -, -, k5, -⟩ := hq
  have a1 : ∀ g, vv.ownBlock = some g → g ∉ fq := fun g hg => hfar g (by unfold blksP; simp [mem_ownL.2 hg])
  have a2 : ∀ g, vl.ownBlock = some g → g ∉ fq := fun g hg => hfar g (by unfold blksP; simp [mem_ownL.2 hg])
  have a3 : ∀ g, vf.ownBlock = some g → g ∉ fq := fun g hg => hfar g (by unfold blksP; simp [mem_ownL.2 hg])
  have a4 : ∀ g ∈ fp, g ∉ fq := fun g hg => hfar g (by unfold blksP; simp [hg])
  refine ⟨owns_off h1 hO (fun g hg hm => apart_type h1 h3 (by decide) g hg (mem_ownL.1 hm)), owns_off h2 hO (fun g hg hm => apart_type h2 h3 (by decide) g hg (mem_ownL.1 hm)), ⟨_, hr, encF_app (hE.keep hO (fun k hk hm => h9 k (mem_ownL.1 hm) hk)) (hE'.keep hO (fun k hk hm => a3 k (mem_ownL.1 hm) hk))⟩, ⟨?_, fun k hk => ?_⟩, h6, fun g hg hm => ?_, fun g hg hm => ?_, fun g hg hm => ?_⟩
  · rw [List.nodup_append]
    exact ⟨h5.1, k5.1, fun x hx y hy e => a4 x hx (e ▸ hy)⟩
  · have hs := hO.size
    rcases List.mem_append.1 hk with hk | hk
    · have := h5.2 k hk; omega
    · have := k5.2 k hk; omega
  · rcases List.mem_append.1 hm with hm | hm
    · exact h7 g hg hm
    · exact a1 g hg hm
  · rcases List.mem_append.1 hm with hm | hm
    · exact h8 g hg hm
    · exact a2 g hg hm
  · rcases hb with hb | hb
    · rcases List.mem_append.1 hm with hm | hm
      · exact h9 g (hb ▸ hg) hm
      · exact a3 g (hb ▸ hg) hm
    · rw [hb] at hg; injection hg with hg
      rcases List.mem_append.1 hm with hm | hm
      · have := (h5.2 g hm).2; omega
      · have := (k5.2 g hm).2; omega

end Go.Proofs.YtildkedplmjdaaaDoor
