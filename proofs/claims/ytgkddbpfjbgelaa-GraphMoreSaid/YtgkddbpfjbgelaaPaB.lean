/-
  Statements, declarations, functions as they lie in memory.
-/
import Derived.Test.YtgkddbpfjbgelaaPaA
namespace Go.Proofs.Ytgkddbpfjbgelaa
set_option maxRecDepth 100000
set_option linter.unusedVariables false
open Go.RowKit Go.Sort

/-- A slice of n elements whose cells, and the blocks below it, are told by E; fp: its block, and those below. -/
def RowE (w : World) (E : List Value → List Nat → Prop) (n : Nat) (v : Value) (fp : List Nat) : Prop :=
  (v = .slice none 0 0 ∧ n = 0 ∧ fp = []) ∨ ∃ g c fq xs, v = .slice (some ⟨g, 0, none⟩) n c ∧ n ≤ c ∧ 0 < n ∧ fp = g :: fq ∧ (∃ cs t, IsBlk w g (.cells cs t)) ∧ w.rangeAt g 0 xs ∧ E xs fq

/-- Cells that are these statements. -/
def EncB (w : World) : Blk → List Value → List Nat → Prop
  | .nil, xs, fp => xs = [] ∧ fp = []
  | .cons k p n a b r, xs, fp => ∃ va vb fa fb fr xr, xs = .int .i64 k :: .int .i64 p :: encStr n :: va :: vb :: xr ∧ fp = fa ++ (fb ++ fr) ∧
      RowE w (EncB w a) a.len va fa ∧ RowE w (EncB w b) b.len vb fb ∧ EncB w r xr fr

/-- A slice that is these statements; below it are the blocks fp. -/
def BlkAt (w : World) (v : Value) (b : Blk) (fp : List Nat) : Prop := RowE w (EncB w b) b.len v fp

theorem BlkAt.nil (w : World) : BlkAt w (.slice none 0 0) .nil [] := .inl ⟨rfl, rfl, rfl⟩

theorem RowE.slice {w : World} {E : List Value → List Nat → Prop} {n : Nat} {v : Value} {fp : List Nat} (h : RowE w E n v fp) : ∃ a c, v = .slice a n c ∧ n ≤ c := by
  rcases h with ⟨rfl, rfl, -⟩ | ⟨g, c, fq, xs, rfl, hc, -⟩
  · exact ⟨none, 0, rfl, Nat.le_refl _⟩
  · exact ⟨_, c, rfl, hc⟩
theorem BlkAt.slice {w : World} {v : Value} {b : Blk} {fp : List Nat} (h : BlkAt w v b fp) : ∃ a c, v = .slice a b.len c ∧ b.len ≤ c := RowE.slice h

theorem EncB.len {w : World} : ∀ {b : Blk} {xs : List Value} {fp : List Nat}, EncB w b xs fp → xs.length = b.len * 5
  | .nil, xs, fp, h => by rw [h.1]; rfl
  | .cons k p n a b r, xs, fp, h => by
    obtain ⟨va, vb, fa, fb, fr, xr, rfl, rfl, h1, h2, h3⟩ := h
    have := EncB.len h3
    simp only [List.length_cons, Blk.len]
    omega

theorem RowE.one {w : World} {E : List Value → List Nat → Prop} {n : Nat} {v : Value} {fp : List Nat} (h : RowE w E n v fp) : v.oneCell' = true := by
  rcases h with ⟨rfl, -⟩ | ⟨g, c, fq, xs, rfl, -⟩ <;> rfl

theorem EncB.one {w : World} : ∀ {b : Blk} {xs : List Value} {fp : List Nat}, EncB w b xs fp → ∀ u ∈ xs, u.oneCell' = true
  | .nil, xs, fp, h => by rw [h.1]; intro u hu; cases hu
  | .cons k p n a b r, xs, fp, h => by
    obtain ⟨va, vb, fa, fb, fr, xr, rfl, rfl, h1, h2, h3⟩ := h
    have := EncB.one h3
    intro u hu
    simp only [List.mem_cons] at hu
    rcases hu with rfl | rfl | rfl | rfl | rfl | hu
    · rfl
    · rfl
    · rfl
    · exact h1.one
    · exact h2.one
    · exact this u hu

theorem RowE.keep {w w' : World} {S : List Nat} {E E' : List Value → List Nat → Prop} {n : Nat} {v : Value} {fp : List Nat} (h : RowE w E n v fp) (hO : Only S w w') (hS : ∀ k ∈ fp, k ∉ S)
    (hE : ∀ xs fq, (∀ k ∈ fq, k ∈ fp) → E xs fq → E' xs fq) : RowE w' E' n v fp := by
  rcases h with ⟨rfl, h0, hf⟩ | ⟨g, c, fq, xs, rfl, hc, hn, rfl, hg, hr, he⟩
  · exact .inl ⟨rfl, h0, hf⟩
  · exact .inr ⟨g, c, fq, xs, rfl, hc, hn, rfl, (by obtain ⟨cs, t, hg⟩ := hg; exact ⟨cs, t, hg.only hO (hS g (by simp))⟩), rangeAt_only hr hO (by obtain ⟨cs, t, hg⟩ := hg; exact hg.lt) (hS g (by simp)), hE xs fq (fun k hk => by simp [hk]) he⟩

theorem EncB.keep {w w' : World} {S : List Nat} (hO : Only S w w') : ∀ {b : Blk} {xs : List Value} {fp : List Nat}, EncB w b xs fp → (∀ k ∈ fp, k ∉ S) → EncB w' b xs fp
  | .nil, xs, fp, h, _ => h
  | .cons k p n a b r, xs, fp, h, hS => by
    obtain ⟨va, vb, fa, fb, fr, xr, rfl, rfl, h1, h2, h3⟩ := h
    refine ⟨va, vb, fa, fb, fr, xr, rfl, rfl, h1.keep hO (fun k hk => hS k (by simp [hk])) (fun xs fq hq he => EncB.keep hO he (fun k hk => hS k (by simp [hq k hk]))),
      h2.keep hO (fun k hk => hS k (by simp [hk])) (fun xs fq hq he => EncB.keep hO he (fun k hk => hS k (by simp [hq k hk]))), EncB.keep hO h3 (fun k hk => hS k (by simp [hk]))⟩
theorem BlkAt.keep {w w' : World} {S : List Nat} {v : Value} {b : Blk} {fp : List Nat} (h : BlkAt w v b fp) (hO : Only S w w') (hS : ∀ k ∈ fp, k ∉ S) : BlkAt w' v b fp :=
  RowE.keep h hO hS (fun xs fq hq he => EncB.keep hO he (fun k hk => hS k (hq k hk)))
theorem BlkAt.more {w w' : World} {v : Value} {b : Blk} {fp : List Nat} (h : BlkAt w v b fp) (hO : Only [] w w') : BlkAt w' v b fp := h.keep hO (by simp)

theorem EncB.app {w : World} : ∀ {b : Blk} {xs : List Value} {fp : List Nat} {b' : Blk} {xs' : List Value} {fp' : List Nat}, EncB w b xs fp → EncB w b' xs' fp' → EncB w (b.app b') (xs ++ xs') (fp ++ fp')
  | .nil, xs, fp, b', xs', fp', h, h' => by obtain ⟨rfl, rfl⟩ := h; exact h'
  | .cons k p n a b r, xs, fp, b', xs', fp', h, h' => by
    obtain ⟨va, vb, fa, fb, fr, xr, rfl, rfl, h1, h2, h3⟩ := h
    exact ⟨va, vb, fa, fb, fr ++ fp', xr ++ xs', by simp, by simp, h1, h2, h3.app h'⟩
theorem EncB.one_ {w : World} (s : StmM) {va vb : Value} {fa fb : List Nat} (ha : BlkAt w va s.a fa) (hb : BlkAt w vb s.b fb) :
    EncB w s.one [.int .i64 s.kind, .int .i64 s.at_, encStr s.name, va, vb] (fa ++ fb) :=
  ⟨va, vb, fa, fb, [], [], rfl, by simp, ha, hb, rfl, rfl⟩

/-- All blocks below lie in memory. -/
theorem RowE.lt {w : World} {E : List Value → List Nat → Prop} {n : Nat} {v : Value} {fp : List Nat} (h : RowE w E n v fp) (hE : ∀ xs fq, E xs fq → ∀ k ∈ fq, k < w.heap.size) : ∀ k ∈ fp, k < w.heap.size := by
  rcases h with ⟨rfl, h0, rfl⟩ | ⟨g, c, fq, xs, rfl, hc, hn, rfl, hg, hr, he⟩
  · simp
  · intro k hk
    rcases List.mem_cons.1 hk with rfl | hk
    · obtain ⟨cs, t, hg⟩ := hg; exact hg.lt
    · exact hE _ _ he k hk
theorem EncB.lt {w : World} : ∀ {b : Blk} {xs : List Value} {fp : List Nat}, EncB w b xs fp → ∀ k ∈ fp, k < w.heap.size
  | .nil, xs, fp, h => by rw [h.2]; simp
  | .cons k p n a b r, xs, fp, h => by
    obtain ⟨va, vb, fa, fb, fr, xr, rfl, rfl, h1, h2, h3⟩ := h
    intro j hj
    simp only [List.mem_append] at hj
    rcases hj with hj | hj | hj
    · exact h1.lt (fun _ _ he => EncB.lt he) j hj
    · exact h2.lt (fun _ _ he => EncB.lt he) j hj
    · exact EncB.lt h3 j hj
theorem BlkAt.lt {w : World} {v : Value} {b : Blk} {fp : List Nat} (h : BlkAt w v b fp) : ∀ k ∈ fp, k < w.heap.size := RowE.lt h (fun _ _ he => EncB.lt he)

/-- New blocks, none twice. -/
def NewB (w0 w : World) (fp : List Nat) : Prop := fp.Nodup ∧ ∀ k ∈ fp, w0.heap.size ≤ k ∧ k < w.heap.size
theorem NewB.nil (w0 w : World) : NewB w0 w [] := ⟨List.nodup_nil, by simp⟩
theorem NewB.more {w0 w w' : World} {fp : List Nat} (h : NewB w0 w fp) (hw : w.heap.size ≤ w'.heap.size) : NewB w0 w' fp := ⟨h.1, fun k hk => ⟨(h.2 k hk).1, by have := (h.2 k hk).2; omega⟩⟩
theorem NewB.less {w0 w1 w : World} {fp : List Nat} (h : NewB w1 w fp) (hw : w0.heap.size ≤ w1.heap.size) : NewB w0 w fp := ⟨h.1, fun k hk => ⟨by have := (h.2 k hk).1; omega, (h.2 k hk).2⟩⟩
/-- What is made later is other memory. -/
theorem NewB.app {w0 w1 w : World} {fp fq : List Nat} (h : NewB w0 w1 fp) (k : NewB w1 w fq) (h1 : w0.heap.size ≤ w1.heap.size) (h2 : w1.heap.size ≤ w.heap.size) : NewB w0 w (fp ++ fq) := by
  refine ⟨List.nodup_append.2 ⟨h.1, k.1, fun a ha b hb e => ?_⟩, fun i hi => ?_⟩
  · have := (h.2 a ha).2; have := (k.2 b hb).1; omega
  · rcases List.mem_append.1 hi with hi | hi
    · have := h.2 i hi; omega
    · have := k.2 i hi; omega

/-- A row of statements that grows: its block, if it has one, and what is below it. -/
def GrowB (w0 w : World) (v : Value) (b : Blk) (fp : List Nat) : Prop :=
  ∃ xs, w.ownsRow w0.heap.size 52 5 v b.len xs ∧ EncB w b xs fp ∧ NewB w0 w fp ∧ ∀ g, v.ownBlock = some g → g ∉ fp ∧ 0 < b.len
theorem GrowB.nil (w0 w : World) : GrowB w0 w (.slice none 0 0) .nil [] := ⟨[], ⟨rfl, .inl ⟨rfl, rfl⟩⟩, ⟨rfl, rfl⟩, NewB.nil _ _, fun g h => by simp [Value.ownBlock] at h⟩
theorem owns_keep {w w' : World} {S : List Nat} {base s n : Nat} {e : TypeId} {v : Value} {xs : List Value} (h : w.ownsRow base e s v n xs) (hO : Only S w w') (hS : ∀ k ∈ S, k < base) : w'.ownsRow base e s v n xs := by
  refine ⟨h.1, ?_⟩
  rcases h.2 with hn | ⟨g, cap, cur, rfl, hb, hg, rest⟩
  · exact .inl hn
  · exact .inr ⟨g, cap, cur, rfl, hb, (hO.block g (IsBlk.lt hg) (fun hm => by have := hS g hm; omega)).trans hg, rest⟩
theorem GrowB.keep {w0 w w' : World} {S : List Nat} {v : Value} {b : Blk} {fp : List Nat} (h : GrowB w0 w v b fp) (hO : Only S w w') (hS : ∀ k ∈ S, k < w0.heap.size) : GrowB w0 w' v b fp := by
  obtain ⟨xs, h1, h2, h3, h4⟩ := h
  exact ⟨xs, owns_keep h1 hO hS, h2.keep hO (fun k hk hm => by have := hS k hm; have := (h3.2 k hk).1; omega), h3.more hO.size, h4⟩
theorem GrowB.more {w0 w w' : World} {v : Value} {b : Blk} {fp : List Nat} (h : GrowB w0 w v b fp) (hO : Only [] w w') : GrowB w0 w' v b fp := h.keep hO (by simp)
/-- It is handed back. -/
theorem GrowB.done {w0 w : World} {v : Value} {b : Blk} {fp : List Nat} (h : GrowB w0 w v b fp) : ∃ fq, BlkAt w v b fq ∧ NewB w0 w fq := by
  obtain ⟨xs, h1, h2, h3, h4⟩ := h
  rcases h1.2 with ⟨rfl, h0⟩ | ⟨g, cap, cur, rfl, hb, hg, hc, hm, hsz, ht⟩
  · have hb := Blk.len_zero b h0
    subst hb
    exact ⟨[], BlkAt.nil w, NewB.nil _ _⟩
  · by_cases hz : b.len = 0
    · have hb0 := Blk.len_zero b hz
      subst hb0
      have := (h4 g rfl).2; omega
    · have hgl : g < w.heap.size := IsBlk.lt hg
      refine ⟨g :: fp, .inr ⟨g, cap, fp, xs, rfl, hc, by omega, rfl, ⟨cur, _, hg⟩, fun j x hx => ?_, h2⟩, List.nodup_cons.2 ⟨(h4 g rfl).1, h3.1⟩, fun k hk => ?_⟩
      · have := World.ownsRow.cells h1 (g := g) rfl j x hx
        rw [Addr.add_mid] at this
        exact this
      · rcases List.mem_cons.1 hk with rfl | hk
        · exact ⟨hb, hgl⟩
        · exact h3.2 k hk

end Go.Proofs.Ytgkddbpfjbgelaa
