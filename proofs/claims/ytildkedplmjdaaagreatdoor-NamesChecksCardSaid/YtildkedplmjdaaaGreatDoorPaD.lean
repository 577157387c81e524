/-
  The words of statements: wordOf, kindOf of the package parse.
-/
import Derived.Test.YtildkedplmjdaaaGreatDoorPaA
import Derived.Laws.ResultCell
import Derived.WalkLawsBesides
namespace Go.Proofs.YtildkedplmjdaaaGreatDoor
set_option maxRecDepth 100000
set_option linter.unusedVariables false
open Go.RowKit Go.Sort

/-- A slice of n elements whose cells, and the blocks below it, are told by E; fp: its block, and those below. -/
def RowE (w : World) (E : List Value → List Nat → Prop) (n : Nat) (v : Value) (fp : List Nat) : Prop :=
  (v = .slice none 0 0 ∧ n = 0 ∧ fp = []) ∨ ∃ g c fq xs, v = .slice (some ⟨g, 0, none⟩) n c ∧ n ≤ c ∧ 0 < n ∧ fp = g :: fq ∧ (∃ cs t, IsBlk w g (.cells cs t)) ∧ w.rangeAt g 0 xs ∧ E xs fq

/-- Cells that are these statements. -/
def EncB (w : World) : Blk → List Value → List Nat → Prop
  | .nil, xs, fp => xs = [] ∧ fp = []
  | .cons k p n a b r, xs, fp => ∃ va vb fa fb fr xr, xs = .int .i64 k :: .int .i64 p :: encStr n :: va :: vb :: xr ∧ fp = fa ++ (fb ++ fr) ∧
      RowE w (EncB w a) a.len va fa ∧ RowE w (EncB w b) b.len vb fb ∧ EncB w r xr fr

/-- A slice that is these statements; below it are the blocks fp. -/
def BlkAt (w : World) (v : Value) (b : Blk) (fp : List Nat) : Prop := RowE w (EncB w b) b.len v fp

theorem BlkAt.nil (w : World) : BlkAt w (.slice none 0 0) .nil [] := .inl ⟨rfl, rfl, rfl⟩

theorem RowE.slice {w : World} {E : List Value → List Nat → Prop} {n : Nat} {v : Value} {fp : List Nat} (h : RowE w E n v fp) : ∃ a c, v = .slice a n c ∧ n ≤ c := by
  rcases h with ⟨rfl, rfl, -⟩ | ⟨g, c, fq, xs, rfl, hc, -⟩
  · exact ⟨none, 0, rfl, Nat.le_refl _⟩
  · exact ⟨_, c, rfl, hc⟩
theorem BlkAt.slice {w : World} {v : Value} {b : Blk} {fp : List Nat} (h : BlkAt w v b fp) : ∃ a c, v = .slice a b.len c ∧ b.len ≤ c := RowE.slice h

theorem EncB.len {w : World} : ∀ {b : Blk} {xs : List Value} {fp : List Nat}, EncB w b xs fp → xs.length = b.len * 5
  | .nil, xs, fp, h => by rw [h.1]; rfl
  | .cons k p n a b r, xs, fp, h => by
    obtain ⟨va, vb, fa, fb, fr, xr, rfl, rfl, h1, h2, h3⟩ := h
    have := EncB.len h3
    simp only [List.length_cons, Blk.len]
    omega

theorem RowE.one {w : World} {E : List Value → List Nat → Prop} {n : Nat} {v : Value} {fp : List Nat} (h : RowE w E n v fp) : v.oneCell' = true := by
  rcases h with ⟨rfl, -⟩ | ⟨g, c, fq, xs, rfl, -⟩ <;> rfl

theorem EncB.one {w : World} : ∀ {b : Blk} {xs : List Value} {fp : List Nat}, EncB w b xs fp → ∀ u ∈ xs, u.oneCell' = true
  | .nil, xs, fp, h => by rw [h.1]; intro u hu; cases hu
  | .cons k p n a b r, xs, fp, h => by
    obtain ⟨va, vb, fa, fb, fr, xr, rfl, rfl, h1, h2, h3⟩ := h
    have := EncB.one h3
    intro u hu
    simp only [List.mem_cons] at hu
    rcases hu with rfl | rfl | rfl | rfl | rfl | hu
    · rfl
    · rfl
    · rfl
    · exact h1.one
    · exact h2.one
    · exact this u hu

theorem RowE.keep {w w' : World} {S : List Nat} {E E' : List Value → List Nat → Prop} {n : Nat} {v : Value} {fp : List Nat} (h : RowE w E n v fp) (hO : Only S w w') (hS : ∀ k ∈ fp, k ∉ S)
    (hE : ∀ xs fq, (∀ k ∈ fq, k ∈ fp) → E xs fq → E' xs fq) : RowE w' E' n v fp := by
  rcases h with ⟨rfl, h0, hf⟩ | ⟨g, c, fq, xs, rfl, hc, hn, rfl, hg, hr, he⟩
  · exact .inl ⟨rfl, h0, hf⟩
  · exact .inr ⟨g, c, fq, xs, rfl, hc, hn, rfl, (by obtain ⟨cs, t, hg⟩ := hg; exact ⟨cs, t, hg.only hO (hS g (by simp))⟩), rangeAt_only hr hO (by obtain ⟨cs, t, hg⟩ := hg; exact hg.lt) (hS g (by simp)), hE xs fq (fun k hk => by simp [hk]) he⟩

theorem EncB.keep {w w' : World} {S : List Nat} (hO : Only S w w') : ∀ {b : Blk} {xs : List Value} {fp : List Nat}, EncB w b xs fp → (∀ k ∈ fp, k ∉ S) → EncB w' b xs fp
  | .nil, xs, fp, h, _ => h
  | .cons k p n a b r, xs, fp, h, hS => by
    obtain ⟨va, vb, fa, fb, fr, xr, rfl, rfl, h1, h2, h3⟩ := h
    refine ⟨va, vb, fa, fb, fr, xr, rfl, rfl, h1.keep hO (fun k hk => hS k (by simp [hk])) (fun xs fq hq he => EncB.keep hO he (fun k hk => hS k (by simp [hq k hk]))),
      h2.keep hO (fun k hk => hS k (by simp [hk])) (fun xs fq hq he => EncB.keep hO he (fun k hk => hS k (by simp [hq k hk]))), EncB.keep hO h3 (fun k hk => hS k (by simp [hk]))⟩
theorem BlkAt.keep {w w' : World} {S : List Nat} {v : Value} {b : Blk} {fp : List Nat} (h : BlkAt w v b fp) (hO : Only S w w') (hS : ∀ k ∈ fp, k ∉ S) : BlkAt w' v b fp :=
  RowE.keep h hO hS (fun xs fq hq he => EncB.keep hO he (fun k hk => hS k (hq k hk)))
theorem BlkAt.more {w w' : World} {v : Value} {b : Blk} {fp : List Nat} (h : BlkAt w v b fp) (hO : Only [] w w') : BlkAt w' v b fp := h.keep hO (by simp)

theorem EncB.app {w : World} : ∀ {b : Blk} {xs : List Value} {fp : List Nat} {b' : Blk} {xs' : List Value} {fp' : List Nat}, EncB w b xs fp → EncB w b' xs' fp' → EncB w (b.app b') (xs ++ xs') (fp ++ fp')
  | .nil, xs, fp, b', xs', fp', h, h' => by obtain ⟨rfl, rfl⟩ := h; exact h'
  | .cons k p n a b r, xs, fp, b', xs', fp', h, h' => by
    obtain ⟨va, vb, fa, fb, fr, xr, rfl, rfl, h1, h2, h3⟩ := h
    exact ⟨va, vb, fa, fb, fr ++ fp', xr ++ xs', by simp, by simp, h1, h2, h3.app h'⟩
theorem EncB.one_ {w : World} (s : StmM) {va vb : Value} {fa fb : List Nat} (ha : BlkAt w va s.a fa) (hb : BlkAt w vb s.b fb) :
    EncB w s.one [.int .i64 s.kind, .int .i64 s.at_, encStr s.name, va, vb] (fa ++ fb) :=
  ⟨va, vb, fa, fb, [], [], rfl, by simp, ha, hb, rfl, rfl⟩

/-- All blocks below lie in memory. -/
theorem RowE.lt {w : World} {E : List Value → List Nat → Prop} {n : Nat} {v : Value} {fp : List Nat} (h : RowE w E n v fp) (hE : ∀ xs fq, E xs fq → ∀ k ∈ fq, k < w.heap.size) : ∀ k ∈ fp, k < w.heap.size := by
  rcases h with ⟨rfl, h0, rfl⟩ | ⟨g, c, fq, xs, rfl, hc, hn, rfl, hg, hr, he⟩
  · simp
  · intro k hk
    rcases List.mem_cons.1 hk with rfl | hk
    · obtain ⟨cs, t, hg⟩ := hg; exact hg.lt
    · exact hE _ _ he k hk
theorem EncB.lt {w : World} : ∀ {b : Blk} {xs : List Value} {fp : List Nat}, EncB w b xs fp → ∀ k ∈ fp, k < w.heap.size
  | .nil, xs, fp, h => by rw [h.2]; simp
  | .cons k p n a b r, xs, fp, h => by
    obtain ⟨va, vb, fa, fb, fr, xr, rfl, rfl, h1, h2, h3⟩ := h
    intro j hj
    simp only [List.mem_append] at hj
    rcases hj with hj | hj | hj
    · exact h1.lt (fun _ _ he => EncB.lt he) j hj
    · exact h2.lt (fun _ _ he => EncB.lt he) j hj
    · exact EncB.lt h3 j hj
theorem BlkAt.lt {w : World} {v : Value} {b : Blk} {fp : List Nat} (h : BlkAt w v b fp) : ∀ k ∈ fp, k < w.heap.size := RowE.lt h (fun _ _ he => EncB.lt he)

/-- New blocks, none twice. -/
def NewB (w0 w : World) (fp : List Nat) : Prop := fp.Nodup ∧ ∀ k ∈ fp, w0.heap.size ≤ k ∧ k < w.heap.size
theorem NewB.nil (w0 w : World) : NewB w0 w [] := ⟨List.nodup_nil, by simp⟩
theorem NewB.more {w0 w w' : World} {fp : List Nat} (h : NewB w0 w fp) (hw : w.heap.size ≤ w'.heap.size) : NewB w0 w' fp := ⟨h.1, fun k hk => ⟨(h.2 k hk).1, by have := (h.2 k hk).2; omega⟩⟩
theorem NewB.less {w0 w1 w : World} {fp : List Nat} (h : NewB w1 w fp) (hw : w0.heap.size ≤ w1.heap.size) : NewB w0 w fp := ⟨h.1, fun k hk => ⟨by have := (h.2 k hk).1; omega, (h.2 k hk).2⟩⟩
/-- What is made later is other memory. -/
theorem NewB.app {w0 w1 w : World} {fp fq : List Nat} (h : NewB w0 w1 fp) (k : NewB w1 w fq) (h1 : w0.heap.size ≤ w1.heap.size) (h2 : w1.heap.size ≤ w.heap.size) : NewB w0 w (fp ++ fq) := by
  refine ⟨List.nodup_append.2 ⟨h.1, k.1, fun a ha b hb e => ?_⟩, fun i hi => ?_⟩
  · have := (h.2 a ha).2; have := (k.2 b hb).1; omega
  · rcases List.mem_append.1 hi with hi | hi
    · have := h.2 i hi; omega
    · have := k.2 i hi; omega

/-- A row of statements that grows: its block, if it has one, and what is below it. -/
def GrowB (w0 w : World) (v : Value) (b : Blk) (fp : List Nat) : Prop :=
  ∃ xs, w.ownsRow w0.heap.size 85 5 v b.len xs ∧ EncB w b xs fp ∧ NewB w0 w fp ∧ ∀ g, v.ownBlock = some g → g ∉ fp ∧ 0 < b.len
theorem GrowB.nil (w0 w : World) : GrowB w0 w (.slice none 0 0) .nil [] := ⟨[], ⟨rfl, .inl ⟨rfl, rfl⟩⟩, ⟨rfl, rfl⟩, NewB.nil _ _, fun g h => by simp [Value.ownBlock] at h⟩
theorem owns_keep {w w' : World} {S : List Nat} {base s n : Nat} {e : TypeId} {v : Value} {xs : List Value} (h : w.ownsRow base e s v n xs) (hO : Only S w w') (hS : ∀ k ∈ S, k < base) : w'.ownsRow base e s v n xs := by
  refine ⟨h.1, ?_⟩
  rcases h.2 with hn | ⟨g, cap, cur, rfl, hb, hg, rest⟩
  · exact .inl hn
  · exact .inr ⟨g, cap, cur, rfl, hb, (hO.block g (IsBlk.lt hg) (fun hm => by have := hS g hm; omega)).trans hg, rest⟩
theorem GrowB.keep {w0 w w' : World} {S : List Nat} {v : Value} {b : Blk} {fp : List Nat} (h : GrowB w0 w v b fp) (hO : Only S w w') (hS : ∀ k ∈ S, k < w0.heap.size) : GrowB w0 w' v b fp := by
  obtain ⟨xs, h1, h2, h3, h4⟩ := h
  exact ⟨xs, owns_keep h1 hO hS, h2.keep hO (fun k hk hm => by have := hS k hm; have := (h3.2 k hk).1; omega), h3.more hO.size, h4⟩
theorem GrowB.more {w0 w w' : World} {v : Value} {b : Blk} {fp : List Nat} (h : GrowB w0 w v b fp) (hO : Only [] w w') : GrowB w0 w' v b fp := h.keep hO (by simp)
/-- It is handed back. -/
theorem GrowB.done {w0 w : World} {v : Value} {b : Blk} {fp : List Nat} (h : GrowB w0 w v b fp) : ∃ fq, BlkAt w v b fq ∧ NewB w0 w fq := by
  obtain ⟨xs, h1, h2, h3, h4⟩ := h
  rcases h1.2 with ⟨rfl, h0⟩ | ⟨g, cap, cur, rfl, hb, hg, hc, hm, hsz, ht⟩
  · have hb := Blk.len_zero b h0
    subst hb
    exact ⟨[], BlkAt.nil w, NewB.nil _ _⟩
  · by_cases hz : b.len = 0
    · have hb0 := Blk.len_zero b hz
      subst hb0
      have := (h4 g rfl).2; omega
    · have hgl : g < w.heap.size := IsBlk.lt hg
      refine ⟨g :: fp, .inr ⟨g, cap, fp, xs, rfl, hc, by omega, rfl, ⟨cur, _, hg⟩, fun j x hx => ?_, h2⟩, List.nodup_cons.2 ⟨(h4 g rfl).1, h3.1⟩, fun k hk => ?_⟩
      · have := World.ownsRow.cells h1 (g := g) rfl j x hx
        rw [Addr.add_mid] at this
        exact this
      · rcases List.mem_cons.1 hk with rfl | hk
        · exact ⟨hb, hgl⟩
        · exact h3.2 k hk

end Go.Proofs.YtildkedplmjdaaaGreatDoor
namespace Go.Proofs.YtildkedplmjdaaaGreatDoor
set_option maxRecDepth 100000
set_option linter.unusedVariables false
open Go.RowKit Go.Sort

def tokV (t : Tok) : Value := .agg #[.int .i64 t.kind, .int .i64 t.at_, encStr t.s]
/-- The token that is read next. -/
def nextT (l : List Tok) (e : Nat) : Tok := match l with
  | [] => ⟨0, e, []⟩
  | t :: _ => t

/-- A reader: what is left, where the text ends. -/
def RdAt (w : World) (p : Nat) (l : List Tok) (e : Nat) : Prop :=
  ∃ a c, IsBlk w p (.cells #[.slice a l.length c, .int .i64 e] 146) ∧ l.length ≤ c ∧ (l.length ≤ 1000000 ∧ ∀ t ∈ l, t.s.length ≤ 100000) ∧ (0 < l.length → ∃ g o, a = some ⟨g, o, none⟩ ∧ g < p ∧ w.rangeAt g o (lcellsT l))
theorem RdAt.keep {w w' : World} {S : List Nat} {p : Nat} {l : List Tok} {e : Nat} (h : RdAt w p l e) (hO : Only S w w') (hS : ∀ k ∈ S, p < k) : RdAt w' p l e := by
  obtain ⟨a, c, h1, h2, hm, h3⟩ := h
  refine ⟨a, c, h1.only hO (fun hk => by have := hS _ hk; omega), h2, hm, fun hp => ?_⟩
  obtain ⟨g, o, rfl, hg, hr⟩ := h3 hp
  exact ⟨g, o, rfl, hg, rangeAt_only hr hO (Nat.lt_trans hg h1.lt) (fun hk => by have := hS _ hk; omega)⟩
theorem RdAt.more {w w' : World} {p : Nat} {l : List Tok} {e : Nat} (h : RdAt w p l e) (hO : Only [] w w') : RdAt w' p l e := h.keep hO (by simp)
theorem RdAt.lt {w : World} {p : Nat} {l : List Tok} {e : Nat} (h : RdAt w p l e) : p < w.heap.size := by
  obtain ⟨a, c, h1, -⟩ := h
  exact h1.lt

/-- A token's three cells. -/
theorem tok_cells {w : World} {g o : Nat} {t : Tok} {r : List Tok} (h : w.rangeAt g o (lcellsT (t :: r))) : w.cell? ⟨g, o, none⟩ = some (.int .i64 t.kind) ∧ w.cell? ⟨g, o + 1, none⟩ = some (.int .i64 t.at_) ∧ w.cell? ⟨g, o + 2, none⟩ = some (encStr t.s) := by
  have e : lcellsT (t :: r) = .int .i64 t.kind :: .int .i64 t.at_ :: encStr t.s :: lcellsT r := by simp [lcellsT, tcells]
  rw [e] at h
  exact ⟨h 0 _ rfl, h 1 _ rfl, h 2 _ rfl⟩
theorem tok_rest {w : World} {g o : Nat} {t : Tok} {r : List Tok} (h : w.rangeAt g o (lcellsT (t :: r))) : w.rangeAt g (o + 3) (lcellsT r) := fun j v hv => by
  have e : lcellsT (t :: r) = .int .i64 t.kind :: .int .i64 t.at_ :: encStr t.s :: lcellsT r := by simp [lcellsT, tcells]
  rw [e] at h
  have := h (j + 3) v hv
  rw [show o + (j + 3) = o + 3 + j by omega] at this
  exact this

theorem sizeTok : (Tryz.prog.info? 93).map (·.size) = some 3 := by kernel_rfl
theorem ret_tok {fn : Func} {p : Tmp} (h : fn.results = #[.cell p 93]) (tmps : Array Value) (w : World) (g : Nat) (cs : Array Value) (hp : tmps.getD p undef = .pointer (some ⟨g, 0, none⟩))
    (hg : IsBlk w g (.cells cs 93)) (h3 : cs.size = 3) : (results fn tmps).run Tryz.prog w = .ok (.agg cs) w :=
  results_cell_row h tmps w g 93 cs (0, 0) _ hp hg Tryz.underlying93 rfl (by rw [h3]; exact sizeTok)

set_option maxHeartbeats 4000000 in
theorem next_any (w : World) (p : Nat) (l : List Tok) (e : Nat) (h : RdAt w p l e) : Calls Tryz.prog 110 #[.pointer (some ⟨p, 0, none⟩)] w fun r w' => r = .returned (tokV (nextT l e)) ∧ Only [] w w' := by
  obtain ⟨a, c, hb, hc, hm, hr⟩ := h
  have c0 := hb.cell 0
  have c1 := hb.cell 1
  have hp := hb.lt
  cases l with
  | nil =>
    go_enter Tryz.func110, Tryz.ntmps110
    go_wp2
    refine bodyPost_ret_by (ret_tok rfl _ _ w.heap.size _ rfl (IsBlk.made _ _) rfl) rfl ?_
    exact ⟨rfl, (Only.refl _ _).alloc _⟩
  | cons t r =>
    obtain ⟨g, o, rfl, hgp, hra⟩ := hr (by simp)
    have hg : g < w.heap.size := Nat.lt_trans hgp hp
    obtain ⟨k0, k1, k2⟩ := tok_cells hra
    unfold encStr at k2
    have hl : ¬ (r.length : Int) + 1 = 0 := by omega
    go_enter Tryz.func110, Tryz.ntmps110
    go_wp2
    refine bodyPost_ret_by (ret_tok rfl _ _ w.heap.size _ rfl (IsBlk.made _ _) rfl) rfl ?_
    exact ⟨rfl, (Only.refl _ _).alloc _⟩

theorem take_world {w1 : World} {p q : Nat} {x0 x1 x2 u0 u1 : Value} {T T' : TypeId} (hq : IsBlk w1 q (.cells #[x0, x1, x2] T)) (hp : IsBlk w1 p (.cells #[u0, u1] T')) (hne : p ≠ q) (v t0 t1 t2 : Value) (o : Obj) :
    IsBlk (((((w1.setCell ⟨p, 0, none⟩ v).setCell ⟨q, 0, none⟩ t0).setCell ⟨q, 1, none⟩ t1).setCell ⟨q, 2, none⟩ t2).alloc o) q (.cells #[t0, t1, t2] T) ∧
    IsBlk (((((w1.setCell ⟨p, 0, none⟩ v).setCell ⟨q, 0, none⟩ t0).setCell ⟨q, 1, none⟩ t1).setCell ⟨q, 2, none⟩ t2).alloc o) p (.cells #[v, u1] T') ∧
    Only [p, q] w1 (((((w1.setCell ⟨p, 0, none⟩ v).setCell ⟨q, 0, none⟩ t0).setCell ⟨q, 1, none⟩ t1).setCell ⟨q, 2, none⟩ t2).alloc o) := by
  refine ⟨?_, ?_, ?_⟩
  · have h0 := IsBlk.away hq (a := ⟨p, 0, none⟩) (Ne.symm hne) v
    have h1 := IsBlk.put h0 0 t0
    have h2 := IsBlk.put h1 1 t1
    have h3 := IsBlk.put h2 2 t2
    exact h3.alloc o
  · have h0 := IsBlk.put hp 0 v
    have h1 := IsBlk.away h0 (a := ⟨q, 0, none⟩) hne t0
    have h2 := IsBlk.away h1 (a := ⟨q, 1, none⟩) hne t1
    have h3 := IsBlk.away h2 (a := ⟨q, 2, none⟩) hne t2
    exact h3.alloc o
  · exact ((((((Only.refl [p, q] w1).setCell (p := ⟨p, 0, none⟩) (.inl (by simp)) v).setCell (p := ⟨q, 0, none⟩) (.inl (by simp)) t0).setCell (p := ⟨q, 1, none⟩) (.inl (by simp)) t1).setCell (p := ⟨q, 2, none⟩) (.inl (by simp)) t2).alloc o)

theorem take_world0 {w1 : World} {p q : Nat} {x0 x1 x2 : Value} {T : TypeId} {ob : Obj} (hq : IsBlk w1 q (.cells #[x0, x1, x2] T)) (hp : IsBlk w1 p ob) (hne : p ≠ q) (t0 t1 t2 : Value) (o : Obj) :
    IsBlk ((((w1.setCell ⟨q, 0, none⟩ t0).setCell ⟨q, 1, none⟩ t1).setCell ⟨q, 2, none⟩ t2).alloc o) q (.cells #[t0, t1, t2] T) ∧
    IsBlk ((((w1.setCell ⟨q, 0, none⟩ t0).setCell ⟨q, 1, none⟩ t1).setCell ⟨q, 2, none⟩ t2).alloc o) p ob ∧
    Only [q] w1 ((((w1.setCell ⟨q, 0, none⟩ t0).setCell ⟨q, 1, none⟩ t1).setCell ⟨q, 2, none⟩ t2).alloc o) := by
  refine ⟨?_, ?_, ?_⟩
  · have h1 := IsBlk.put hq 0 t0
    have h2 := IsBlk.put h1 1 t1
    have h3 := IsBlk.put h2 2 t2
    exact h3.alloc o
  · have h1 := IsBlk.away hp (a := ⟨q, 0, none⟩) hne t0
    have h2 := IsBlk.away h1 (a := ⟨q, 1, none⟩) hne t1
    have h3 := IsBlk.away h2 (a := ⟨q, 2, none⟩) hne t2
    exact h3.alloc o
  · exact (((((Only.refl [q] w1).setCell (p := ⟨q, 0, none⟩) (.inl (by simp)) t0).setCell (p := ⟨q, 1, none⟩) (.inl (by simp)) t1).setCell (p := ⟨q, 2, none⟩) (.inl (by simp)) t2).alloc o)

set_option maxHeartbeats 4000000 in
theorem take_any (w : World) (p : Nat) (l : List Tok) (e : Nat) (h : RdAt w p l e) : Calls Tryz.prog 100 #[.pointer (some ⟨p, 0, none⟩)] w fun r w' => r = .returned (tokV (nextT l e)) ∧ RdAt w' p l.tail e ∧ Only [p] w w' := by
  have H := Lib.hid h
  have hp := h.lt
  go_enter Tryz.func100, Tryz.ntmps100
  have H1 := Lib.hid (H.out.more ((Only.refl [] w).alloc (.cells #[.int .i64 0, .int .i64 0, .string ⟨#[]⟩] 93)))
  clear h
  go_wp2_with fail
  refine (next_any _ p l e H1.out).mono ?_
  rintro r w1 ⟨rfl, hO1⟩
  unfold tokV encStr
  have hO2 := Lib.hid (((Only.refl [] w).alloc (.cells #[.int .i64 0, .int .i64 0, .string ⟨#[]⟩] 93)).plus hO1)
  have hq := Lib.hid (IsBlk.only (IsBlk.made w (.cells #[.int .i64 0, .int .i64 0, .string ⟨#[]⟩] 93)) hO1 (by simp))
  clear hO1 H1
  obtain ⟨a, c, hb0, hc, hm, hr⟩ := H.out
  have hb := hb0.only hO2.out (by simp)
  have c0 := hb.cell 0
  have c1 := hb.cell 1
  have hp1 := hb.lt
  have hq1 := hq.out.lt
  have n0 := hq.out.notFrozen 0
  have n1 := hq.out.notFrozen 1
  have n2 := hq.out.notFrozen 2
  have m0 := hb.notFrozen 0
  have d0 := hq.out.cell 0
  have d1 := hq.out.cell 1
  have d2 := hq.out.cell 2
  have x1 : ¬ w.heap.size = p := by omega
  have x2 : ¬ p = w.heap.size := by omega
  cases l with
  | nil =>
    go_wp2
    refine bodyPost_ret_by (ret_tok rfl _ _ w.heap.size _ rfl (take_world0 hq.out hb x2 _ _ _ _).1 rfl) rfl ?_
    obtain ⟨e1, e2, e3⟩ := take_world0 hq.out hb x2 (.int .i64 (nextT [] e).kind) (.int .i64 (nextT [] e).at_) (.string ⟨(nextT [] e).s.toArray⟩) (.cells #[.int .i64 (nextT [] e).kind, .int .i64 (nextT [] e).at_, .string ⟨(nextT [] e).s.toArray⟩] 93)
    exact ⟨rfl, ⟨_, _, e2, hc, hm, fun h => by simp at h⟩, hO2.out.then e3 [p] (by simp) (by simp)⟩
  | cons t r =>
    obtain ⟨g, o, rfl, hgp, hra0⟩ := hr (by simp)
    have hg0 : g < w.heap.size := Nat.lt_trans hgp hp
    have hne : g ≠ p := Nat.ne_of_lt hgp
    have hra := rangeAt_only hra0 hO2.out hg0 (by simp)
    have hra' := tok_rest hra
    have hg : g < w1.heap.size := Nat.lt_of_lt_of_le hg0 hO2.out.size
    have hl : (0 : Int) < (r.length : Int) + 1 := by omega
    have hcc : (r.length : Int) + 1 ≤ (c : Int) := by simp at hc; omega
    have hgq : g ≠ w.heap.size := by omega
    by_cases hc1 : c = 1
    · have hr0 : r = [] := by simp at hc; exact List.eq_nil_of_length_eq_zero (by omega)
      subst hr0
      go_wp2
      refine bodyPost_ret_by (ret_tok rfl _ _ w.heap.size _ rfl (take_world hq.out hb x2 _ _ _ _ _).1 rfl) rfl ?_
      obtain ⟨e1, e2, e3⟩ := take_world (v := .slice (some ⟨g, o, none⟩) 0 0) hq.out hb x2 (.int .i64 (nextT [t] e).kind) (.int .i64 (nextT [t] e).at_) (.string ⟨(nextT [t] e).s.toArray⟩) (.cells #[.int .i64 (nextT [t] e).kind, .int .i64 (nextT [t] e).at_, .string ⟨(nextT [t] e).s.toArray⟩] 93)
      exact ⟨rfl, ⟨_, _, e2, Nat.le_refl _, by simp, fun h => by simp at h⟩, hO2.out.then e3 [p] (by simp) (by simp)⟩
    · go_wp2
      refine bodyPost_ret_by (ret_tok rfl _ _ w.heap.size _ rfl (take_world hq.out hb x2 _ _ _ _ _).1 rfl) rfl ?_
      obtain ⟨e1, e2, e3⟩ := take_world (v := .slice (some ⟨g, o + 3, none⟩) r.length (c - 1 : Nat)) hq.out hb x2 (.int .i64 (nextT (t :: r) e).kind) (.int .i64 (nextT (t :: r) e).at_) (.string ⟨(nextT (t :: r) e).s.toArray⟩) (.cells #[.int .i64 (nextT (t :: r) e).kind, .int .i64 (nextT (t :: r) e).at_, .string ⟨(nextT (t :: r) e).s.toArray⟩] 93)
      refine ⟨rfl, ⟨_, _, e2, ?_, ?_, fun _ => ⟨g, o + 3, rfl, hgp, rangeAt_only hra' e3 hg (by simp [hne, hgq])⟩⟩, hO2.out.then e3 [p] (by simp) (by simp)⟩
      · simp at hc; simp; omega
      · exact ⟨by have := hm.1; simp at this; simp; omega, fun x hx => hm.2 x (by simp at hx; simp [hx])⟩

/-- A panic of a fault, as it goes up. -/
def faultE (x : Nat × Nat) : Ending := .panicked [{ v := .iface 143 (.agg #[.int .i64 x.1, .int .i64 x.2]), recovered := false }]
/-- What name leaves. -/
def NameTo (w : World) (p e : Nat) (x : PR (List UInt8 × List Tok)) (r : Ending) (w' : World) : Prop :=
  match x with
  | .ok (n, l) => r = .returned (encStr n) ∧ RdAt w' p l e ∧ Only [p] w w'
  | .error y => r = faultE y ∧ Only [p] w w'

set_option maxHeartbeats 4000000 in
theorem pname_any (w : World) (p : Nat) (l : List Tok) (e : Nat) (h : RdAt w p l e) : Calls Tryz.prog 101 #[.pointer (some ⟨p, 0, none⟩)] w (NameTo w p e (nameF e l)) := by
  have H := Lib.hid h
  clear h
  go_enter Tryz.func101, Tryz.ntmps101
  go_wp2_with fail
  refine (take_any _ p l e H.out).mono ?_
  rintro r w1 ⟨rfl, hR, hO1⟩
  have HR := Lib.hid hR
  have HO := Lib.hid (hO1.alloc (.cells #[.int .i64 (nextT l e).kind, .int .i64 (nextT l e).at_, encStr (nextT l e).s] 93))
  have HR2 := Lib.hid (hR.more ((Only.refl [] w1).alloc (.cells #[.int .i64 (nextT l e).kind, .int .i64 (nextT l e).at_, encStr (nextT l e).s] 93)))
  have hq := Lib.hid (IsBlk.made w1 (.cells #[.int .i64 (nextT l e).kind, .int .i64 (nextT l e).at_, encStr (nextT l e).s] 93))
  clear hR hO1
  unfold tokV encStr
  go_wp2_with fail
  have hn : (nextT l e).s.length ≤ 100000 := by
    cases l with
    | nil => simp [nextT]
    | cons t r => obtain ⟨_, _, _, _, hm, _⟩ := H.out; exact hm.2 t (by simp)
  refine (name_any _ (nextT l e).s hn).mono ?_
  rintro r w2 ⟨rfl, hO2⟩
  have HO2 := Lib.hid (HO.out.plus hO2)
  have HR3 := Lib.hid (HR2.out.more hO2)
  have hq2 := hq.out.only hO2 (by simp)
  have q1 := hq2.cell 1
  have q2 := hq2.cell 2
  unfold encStr at q2
  have hnot : ∀ (x : Bool) (w : World), (Op.unary .not (.bool x)).run Tryz.prog w = .ok (.bool (!x)) w := fun _ _ => rfl
  clear hO2 hq hq2 HO HR HR2 H
  cases hnm : nameM (nextT l e).s with
  | true =>
    go_wp2
    go_ret
    cases l with
    | nil => simp [nextT, nameM] at hnm
    | cons t r =>
      simp only [nextT] at hnm
      simp only [NameTo, nameF, hnm, if_true]
      exact ⟨rfl, HR3.out, HO2.out⟩
  | false =>
    go_wp2
    refine ⟨rfl, ?_⟩
    cases l with
    | nil => exact ⟨rfl, HO2.out⟩
    | cons t r =>
      simp only [nextT] at hnm
      simp only [NameTo, nameF, hnm, Bool.false_eq_true, if_false]
      exact ⟨rfl, HO2.out⟩

end Go.Proofs.YtildkedplmjdaaaGreatDoor
namespace Go.Proofs.YtildkedplmjdaaaGreatDoor
set_option maxRecDepth 100000
set_option linter.unusedVariables false
open Go.RowKit Go.Sort

def stmtW : List UInt8 := [117, 115, 101, 32, 115, 101, 116, 32, 108, 111, 99, 107, 32, 117, 110, 108, 111, 99, 107, 32, 99, 97, 108, 108, 32, 115, 112, 97, 119, 110, 32, 105, 102, 32, 108, 111, 111, 112, 32]
/-- How many blanks stand ahead of a place, and where the word begins that stands there. -/
def blanksM (k : Nat) : Nat := ((stmtW.take k).filter (· == 32)).length
def fromM : Nat → Nat
  | 0 => 0
  | k + 1 => if stmtW[k]? = some 32 then k + 1 else fromM k
theorem word_at : ∀ k < 39, stmtW[k]? = some 32 → fromM k ≤ k ∧ (stmtW.drop (fromM k)).take (k - fromM k) = verbM (blanksM k + 1) := by decide
theorem step_at : ∀ k < 39, (stmtW[k]? = some 32 → blanksM (k + 1) = blanksM k + 1 ∧ fromM (k + 1) = k + 1) ∧ (stmtW[k]? ≠ some 32 → blanksM (k + 1) = blanksM k ∧ fromM (k + 1) = fromM k) := by decide
theorem byte_at : ∀ k < 39, ∃ c, stmtW[k]? = some c ∧ c.toNat < 128 := by decide
theorem verb_far (k : Nat) (h : 8 < k) : verbM k = [] := by
  unfold verbM
  rw [if_neg (by omega), List.getElem?_eq_none (by simp [verbsM]; omega)]
  rfl

set_option maxHeartbeats 4000000 in
theorem wordOf_any (w : World) (kd : Nat) (hkd : kd ≤ 1000000) : Calls Tryz.prog 128 #[.int .i64 kd] w fun e w' => e = .returned (encStr (verbM kd)) ∧ Only [] w w' := by
  have hsz : (⟨stmtW.toArray⟩ : ByteArray).size = 39 := rfl
  go_enter Tryz.func128, Tryz.ntmps128
  go_wp2_with fail
  go_loopw [3, 4] (fun a b wr => ∃ k : Nat, k ≤ 39 ∧ a = .int .i64 (fromM k) ∧ b = .int .i64 (blanksM k + 1) ∧ wr.heap[w.heap.size]? = some (.stringIter ⟨stmtW.toArray⟩ k) ∧ Only [] w wr ∧ Hid (kd = 0 ∨ blanksM k < kd)) (fun _ _ wr => 39 - wr.iterPos w.heap.size)
  case atStart => exact ⟨0, by omega, rfl, rfl, World.iter_heap w _ 0, (Only.refl [] w).alloc _, Lib.hid (by have : blanksM 0 = 0 := rfl; omega)⟩
  case round =>
    obtain ⟨k, hk, rfl, rfl, hit, hO, hkn⟩ := hrel
    have HO := Lib.hid hO
    clear hO
    by_cases hlt : k < 39
    · have hnx : ∀ ty, (Instr.next (.pointer (some ⟨w.heap.size, 0, none⟩)) true ty).run Tryz.prog wr = _ := fun ty => Lib.run_next_any_at wr w.heap.size ⟨stmtW.toArray⟩ k ty hit (by rw [hsz]; exact hlt)
      have hlt' : k < stmtW.length := hlt
      have hget : (⟨stmtW.toArray⟩ : ByteArray)[k]'(by rw [hsz]; exact hlt) = stmtW[k] := rfl
      obtain ⟨c, hc, ha⟩ := byte_at k hlt
      have hck : stmtW[k] = c := by rw [List.getElem?_eq_getElem hlt'] at hc; injection hc
      have hd := decode_ascii ⟨stmtW.toArray⟩ k (by rw [hsz]; exact hlt) (by rw [hget, hck]; exact ha)
      rw [hget, hck] at hd
      rw [hd] at hnx
      simp only at hnx
      have hit2 := Lib.hid (Lib.iterAt_heap wr w.heap.size ⟨stmtW.toArray⟩ k (k + 1) hit)
      have HO2 := Lib.hid (HO.out.iterAt (k := w.heap.size) (Nat.le_refl _) ⟨stmtW.toArray⟩ (k + 1))
      have hip : Hid (wr.iterPos w.heap.size = k) := Lib.hid (by simp only [World.iterPos, hit])
      have hip2 : Hid ((wr.iterAt w.heap.size ⟨stmtW.toArray⟩ (k + 1)).iterPos w.heap.size = k + 1) := Lib.hid (by simp only [World.iterPos, hit2.out])
      have hstep := Lib.hid (step_at k hlt)
      have hword := Lib.hid (word_at k hlt)
      have hbl : blanksM k ≤ 39 := by
        unfold blanksM
        exact Nat.le_trans (List.length_filter_le _ _) (by rw [List.length_take]; omega)
      clear hit hd hget hck HO
      generalize hW : wr.iterAt w.heap.size ⟨stmtW.toArray⟩ (k + 1) = W at *
      clear hW
      by_cases h32 : c.toNat = 32
      · have hc32 : stmtW[k]? = some 32 := by rw [hc]; congr 1; exact UInt8.toNat.inj h32
        have h32i : (c.toNat : Int) = 32 := by omega
        obtain ⟨s1, s2⟩ := hstep.out.1 hc32
        obtain ⟨w1, w2⟩ := hword.out hc32
        by_cases hkd2 : blanksM k + 1 = kd
        · have hkdi : (blanksM k : Int) + 1 = (kd : Int) := by omega
          have hfi : (fromM k : Int) ≤ (k : Int) := by omega
          have hki : (k : Int) ≤ 39 := by omega
          have hex : (⟨stmtW.toArray⟩ : ByteArray).extract (fromM k) k = ⟨(verbM kd).toArray⟩ := by rw [extract_list, w2, hkd2]
          have Hs := Lib.hid s1
          have Hx := Lib.hid hex
          clear hc32 hstep hword s1 s2 w1 w2 hc
          generalize hF : fromM k = F at *
          generalize hB : blanksM k = B at *
          go_wp2
          go_ret
          exact ⟨congrArg (fun x => Ending.returned (Value.string x)) Hx.out, HO2.out⟩
        · have hkdi : ¬ (blanksM k : Int) + 1 = (kd : Int) := by omega
          have Hs := Lib.hid (And.intro s1 s2)
          clear hc32 hstep hword s1 s2 w1 w2 hc
          go_wp2
          go_roundw
          case rel => exact ⟨k + 1, by omega, by rw [Hs.out.2]; go_num, by rw [Hs.out.1]; go_num, hit2.out, HO2.out, Lib.hid (by rw [Hs.out.1]; have := hkn.out; omega)⟩
          case measure => rw [hip2.out, hip.out]; omega
      · have hc32 : stmtW[k]? ≠ some 32 := by rw [hc]; intro e; injection e with e; rw [e] at h32; exact h32 rfl
        have h32i : ¬ (c.toNat : Int) = 32 := by omega
        have Hs := Lib.hid (hstep.out.2 hc32)
        clear hc32 hstep hword hc
        go_wp2
        go_roundw
        case rel => exact ⟨k + 1, by omega, by rw [Hs.out.2], by rw [Hs.out.1], hit2.out, HO2.out, Lib.hid (by rw [Hs.out.1]; have := hkn.out; omega)⟩
        case measure => rw [hip2.out, hip.out]; omega
    · have hnx : ∀ ty, (Instr.next (.pointer (some ⟨w.heap.size, 0, none⟩)) true ty).run Tryz.prog wr = _ := fun ty => Lib.run_next_end_at wr w.heap.size ⟨stmtW.toArray⟩ k ty hit (by rw [hsz]; exact hlt)
      have hv : Hid (verbM kd = []) := Lib.hid (by
        have hk39 : k = 39 := by omega
        subst hk39
        have h8 : blanksM 39 = 8 := by decide
        have := hkn.out
        rw [h8] at this
        rcases this with rfl | h
        · rfl
        · exact verb_far kd h)
      clear hit hkn
      go_wp2
      go_ret
      rw [hv.out]
      exact ⟨rfl, HO.out⟩

theorem verb_kind : ∀ k < 9, 0 < k → kindM (verbM k) = k := by decide
theorem kind_verb (s : List UInt8) (h : kindM s ≠ 0) : verbM (kindM s) = s ∧ kindM s < 9 := by
  unfold kindM at h ⊢
  repeat' split
  all_goals first
    | (rename_i hx; subst hx; exact ⟨rfl, by omega⟩)
    | simp_all

set_option maxHeartbeats 4000000 in
theorem kindOf_any (w : World) (s : List UInt8) : Calls Tryz.prog 122 #[encStr s] w fun e w' => e = .returned (.int .i64 (kindM s)) ∧ Only [] w w' := by
  unfold encStr
  go_enter Tryz.func122, Tryz.ntmps122
  go_wp2_with fail
  go_loopw [3] (fun a wr => ∃ k : Nat, 1 ≤ k ∧ k ≤ 9 ∧ a = .int .i64 k ∧ Only [] w wr ∧ Hid (kindM s = 0 ∨ k ≤ kindM s)) (fun a _ => 9 - (intOf a).toNat)
  case atStart => exact ⟨1, by omega, by omega, rfl, Only.refl _ _, Lib.hid (by omega)⟩
  case round =>
    obtain ⟨k, hk1, hk9, rfl, hO, hkn⟩ := hrel
    have HO := Lib.hid hO
    clear hO
    by_cases hlt : k ≤ 8
    · have hlti : (k : Int) ≤ 8 := by omega
      go_wp2_with fail
      refine (wordOf_any _ k (by omega)).mono ?_
      rintro e w1 ⟨rfl, hO1⟩
      have HO1 := Lib.hid (HO.out.plus hO1)
      clear hO1
      unfold encStr
      have hv := Lib.hid (verb_kind k (by omega) (by omega))
      by_cases he : verbM k = s
      · have he' : (verbM k == s) = true := by simpa using he
        have hk : Hid (kindM s = k) := Lib.hid (by rw [← he]; exact hv.out)
        go_wp2
        go_ret
        rw [hk.out]
        exact ⟨rfl, HO1.out⟩
      · have he' : (verbM k == s) = false := by simpa using he
        have hk : Hid (kindM s = 0 ∨ k + 1 ≤ kindM s) := Lib.hid (by
          rcases hkn.out with h | h
          · exact .inl h
          · right
            rcases Nat.lt_or_ge k (kindM s) with h1 | h1
            · exact h1
            · have h2 := kind_verb s (by omega)
              rw [show kindM s = k by omega] at h2
              exact absurd h2.1 he)
        clear hkn hv
        generalize hV : verbM k = V at *
        clear hV
        go_wp2
        go_roundw
        case rel => exact ⟨k + 1, by omega, by omega, by go_num, HO1.out, hk⟩
        case measure => simp [intOf]; omega
    · have hlti : ¬ (k : Int) ≤ 8 := by omega
      have hz : Hid (kindM s = 0) := Lib.hid (by
        rcases hkn.out with h | h
        · exact h
        · by_cases h0 : kindM s = 0
          · exact h0
          · have := (kind_verb s h0).2; omega)
      clear hkn
      go_wp2
      go_ret
      rw [hz.out]
      exact ⟨rfl, HO.out⟩

end Go.Proofs.YtildkedplmjdaaaGreatDoor
