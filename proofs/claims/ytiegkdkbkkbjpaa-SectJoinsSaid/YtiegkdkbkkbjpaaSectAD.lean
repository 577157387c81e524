/-
  For the law SectJoins: what its stores do to a row of Parts.
-/
import Derived.Test.YtiegkdkbkkbjpaaSectAB
namespace Go.Proofs.Ytiegkdkbkkbjpaa
open Go.RowKit

theorem MRow.shorter {w : World} {g k gi ci s : Nat} {ps : List PartM} (h : MRow w g ps) (hk : k < ps.length) (hri : w.rangeAt g (k * 5) (partC (ps[k]).g (ps[k]).r (ps[k]).n (ps[k]).o (some ⟨gi, 0, none⟩) (ps[k]).d.length ci)) (hs : s ≤ (ps[k]).d.length) :
    MRow (w.setCell ⟨g, k * 5 + 4, none⟩ (.slice (some ⟨gi, 0, none⟩) s ci)) g (ps.set k ⟨(ps[k]).g, (ps[k]).r, (ps[k]).n, (ps[k]).o, (ps[k]).d.take s⟩) := by
  refine h.setOne hk (by omega) _ _ fun gi' ci' cu hr hb hri' hc => ?_
  have e := (hr 4 _ rfl).symm.trans (hri 4 _ rfl)
  injection e with e
  injection e with e1 _ e3
  injection e1 with e1
  injection e1 with e1
  subst e1
  subst e3
  have hl : ((ps[k]).d.take s).length = s := by simp; omega
  refine ⟨ci', ?_, fun j u hu => hri' j u ?_, by simp only [hl]; omega⟩
  · simp only [hl]; rfl
  · simp only [bv_take] at hu
    rw [List.getElem?_take] at hu
    split at hu
    · exact hu
    · cases hu

theorem MRow.twoNumbers {w : World} {g k : Nat} {ps : List PartM} (h : MRow w g ps) (hk : k < ps.length) (x y : Int) :
    MRow ((w.setCell ⟨g, k * 5 + 3, none⟩ (.int .i64 x)).setCell ⟨g, k * 5 + 2, none⟩ (.int .i64 y)) g ((ps.set k ⟨(ps[k]).g, (ps[k]).r, (ps[k]).n, x, (ps[k]).d⟩).set k ⟨(ps[k]).g, (ps[k]).r, y, x, (ps[k]).d⟩) := by
  have h1 := h.setOne hk (j := 3) (by omega) (.int .i64 x) ⟨(ps[k]).g, (ps[k]).r, (ps[k]).n, x, (ps[k]).d⟩ fun gi ci cu _ _ hr hc => ⟨ci, rfl, hr, hc⟩
  refine h1.setOne (by simpa using hk) (j := 2) (by omega) (.int .i64 y) _ fun gi ci cu _ _ hr hc => ⟨ci, ?_, ?_, ?_⟩
  · simp only [List.getElem_set_self]; rfl
  · simpa using hr
  · simpa using hc

theorem mem_set {ps : List PartM} {k : Nat} {q : PartM} (h : ∀ p ∈ ps, p.d.length ≤ 52) (hq : q.d.length ≤ 52) : ∀ p ∈ ps.set k q, p.d.length ≤ 52 := fun p hp => by
  rcases List.mem_or_eq_of_mem_set hp with e | e
  · exact h p e
  · rw [e]; exact hq

theorem MRow.swap {w : World} {g k : Nat} {ps : List PartM} (h : MRow w g ps) (hk : k < ps.length) (p q : PartM) (gp cp gq cq : Nat) (cup cuq : Array Value) (hp : IsBlk w gp (.cells cup 5)) (hrp : w.rangeAt gp 0 (bv p.d)) (hcp : p.d.length ≤ cp) (hq : IsBlk w gq (.cells cuq 5)) (hrq : w.rangeAt gq 0 (bv q.d)) (hcq : q.d.length ≤ cq) :
    MRow ((w.setCells g (k * 5) (partC q.g q.r q.n q.o (some ⟨gq, 0, none⟩) q.d.length cq)).setCells g (0 * 5) (partC p.g p.r p.n p.o (some ⟨gp, 0, none⟩) p.d.length cp)) g ((ps.set k q).set 0 p) := by
  have h1 := h.setPart hk q gq cq cuq hq hrq hcq
  obtain ⟨cur, hb, _⟩ := h.row
  have hne := ref_ne_bytes hb hp
  exact h1.setPart (by simp; omega) p gp cp cup ((heap_setCells_other g _ _ _ gp hne).trans hp) (World.rangeAt_setCells_apart hrp g _ _ (.inl hne)) hcp

theorem MRow.swap1 {w : World} {g k : Nat} {ps : List PartM} (h : MRow w g ps) (hk : k < ps.length) (p q : PartM) (gp cp gq cq : Nat) (cup cuq : Array Value) (hp : IsBlk w gp (.cells cup 5)) (hrp : w.rangeAt gp 0 (bv p.d)) (hcp : p.d.length ≤ cp) (hq : IsBlk w gq (.cells cuq 5)) (hrq : w.rangeAt gq 0 (bv q.d)) (hcq : q.d.length ≤ cq) :
    MRow ((((((((((w.setCell ⟨g, k * 5, none⟩ (.int .i64 q.g)).setCell ⟨g, k * 5 + 1, none⟩ (.int .i64 q.r)).setCell ⟨g, k * 5 + 2, none⟩ (.int .i64 q.n)).setCell ⟨g, k * 5 + 3, none⟩ (.int .i64 q.o)).setCell ⟨g, k * 5 + 4, none⟩ (.slice (some ⟨gq, 0, none⟩) q.d.length cq)).setCell ⟨g, 0, none⟩ (.int .i64 p.g)).setCell ⟨g, 1, none⟩ (.int .i64 p.r)).setCell ⟨g, 2, none⟩ (.int .i64 p.n)).setCell ⟨g, 3, none⟩ (.int .i64 p.o)).setCell ⟨g, 4, none⟩ (.slice (some ⟨gp, 0, none⟩) p.d.length cp)) g ((ps.set k q).set 0 p) := h.swap hk p q gp cp gq cq cup cuq hp hrp hcp hq hrq hcq
theorem MRow.swap0 {w : World} {g : Nat} {ps : List PartM} (h : MRow w g ps) (hk : 0 < ps.length) (q : PartM) (gq cq : Nat) (cuq : Array Value) (hq : IsBlk w gq (.cells cuq 5)) (hrq : w.rangeAt gq 0 (bv q.d)) (hcq : q.d.length ≤ cq) :
    MRow ((((((((((w.setCell ⟨g, 0, none⟩ (.int .i64 q.g)).setCell ⟨g, 1, none⟩ (.int .i64 q.r)).setCell ⟨g, 2, none⟩ (.int .i64 q.n)).setCell ⟨g, 3, none⟩ (.int .i64 q.o)).setCell ⟨g, 4, none⟩ (.slice (some ⟨gq, 0, none⟩) q.d.length cq)).setCell ⟨g, 0, none⟩ (.int .i64 q.g)).setCell ⟨g, 1, none⟩ (.int .i64 q.r)).setCell ⟨g, 2, none⟩ (.int .i64 q.n)).setCell ⟨g, 3, none⟩ (.int .i64 q.o)).setCell ⟨g, 4, none⟩ (.slice (some ⟨gq, 0, none⟩) q.d.length cq)) g ((ps.set 0 q).set 0 q) := h.swap hk q q gq cq gq cq cuq cuq hq hrq hcq hq hrq hcq
theorem Only.ten {w w' : World} {g : Nat} {a0 a1 a2 a3 a4 a5 a6 a7 a8 a9 : Nat} {v0 v1 v2 v3 v4 v5 v6 v7 v8 v9 : Value} (h : Only [] w w') (hg : w.heap.size ≤ g) : Only [] w ((((((((((w'.setCell ⟨g, a0, none⟩ v0).setCell ⟨g, a1, none⟩ v1).setCell ⟨g, a2, none⟩ v2).setCell ⟨g, a3, none⟩ v3).setCell ⟨g, a4, none⟩ v4).setCell ⟨g, a5, none⟩ v5).setCell ⟨g, a6, none⟩ v6).setCell ⟨g, a7, none⟩ v7).setCell ⟨g, a8, none⟩ v8).setCell ⟨g, a9, none⟩ v9) :=
  ((((((((((h.setCell (.inr hg) _).setCell (.inr hg) _).setCell (.inr hg) _).setCell (.inr hg) _).setCell (.inr hg) _).setCell (.inr hg) _).setCell (.inr hg) _).setCell (.inr hg) _).setCell (.inr hg) _).setCell (.inr hg) _)

theorem cells_take {w W : World} {g n : Nat} {xs : List Value} (h : ∀ j u, xs[j]? = some u → w.cell? ((⟨g, 0, none⟩ : Addr).add j) = some u) (hO : Only [] w W) (hg : g < w.heap.size) :
    ∀ j u, (xs.take n)[j]? = some u → W.cell? ((⟨g, 0, none⟩ : Addr).add j) = some u := fun j u hu => by
  rw [List.getElem?_take] at hu
  split at hu
  · have := h j u hu
    rw [Addr.add_mid] at this ⊢
    exact only_cell hO hg this
  · cases hu
theorem cells_drop {w W : World} {g n : Nat} {xs : List Value} (h : ∀ j u, xs[j]? = some u → w.cell? ((⟨g, 0, none⟩ : Addr).add j) = some u) (hO : Only [] w W) (hg : g < w.heap.size) :
    ∀ j u, (xs.drop n)[j]? = some u → W.cell? ((⟨g, n, none⟩ : Addr).add j) = some u := fun j u hu => by
  rw [List.getElem?_drop] at hu
  have := h (n + j) u hu
  rw [Addr.add_mid, Nat.zero_add] at this
  rw [Addr.add_mid]
  exact only_cell hO hg this

end Go.Proofs.Ytiegkdkbkkbjpaa
