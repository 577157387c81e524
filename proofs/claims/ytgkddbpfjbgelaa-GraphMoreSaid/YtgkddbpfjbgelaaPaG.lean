/-
  Programs in memory: declarations, functions; rows of them that grow.
-/
import Derived.Test.YtgkddbpfjbgelaaPaF
namespace Go.Proofs.Ytgkddbpfjbgelaa
set_option maxRecDepth 100000
set_option linter.unusedVariables false
open Go.RowKit Go.Sort

theorem infoD : (Try.prog.info? 74).map (fun i => (i.zero, i.size, i.bytes)) = some (some (.agg #[.string ⟨#[]⟩, .int .i64 0]), 2, 24) := by kernel_rfl
theorem infoFn : (Try.prog.info? 45).map (fun i => (i.zero, i.size, i.bytes)) = some (some (.agg #[.string ⟨#[]⟩, .int .i64 0, .slice none 0 0]), 3, 48) := by kernel_rfl

/-- Declarations' cells. -/
def dcells (l : List DeclM) : List Value := l.flatMap fun d => [encStr d.name, .int .i64 d.at_]
theorem length_dcells (l : List DeclM) : (dcells l).length = l.length * 2 := by
  induction l with
  | nil => rfl
  | cons f r ih => simp [dcells] at ih ⊢; omega
theorem dcells_snoc (l : List DeclM) (d : DeclM) : dcells (l ++ [d]) = dcells l ++ [encStr d.name, .int .i64 d.at_] := by simp [dcells]
/-- A slice of declarations, to be read. -/
def DeclsAt (w : World) (v : Value) (l : List DeclM) : Prop :=
  ∃ a c, v = .slice a l.length c ∧ l.length ≤ c ∧ (0 < l.length → ∃ g, a = some ⟨g, 0, none⟩ ∧ g < w.heap.size ∧ w.rangeAt g 0 (dcells l))
theorem DeclsAt.more {w w' : World} {v : Value} {l : List DeclM} (h : DeclsAt w v l) (hO : Only [] w w') : DeclsAt w' v l := by
  obtain ⟨a, c, rfl, hc, h⟩ := h
  refine ⟨a, c, rfl, hc, fun hp => ?_⟩
  obtain ⟨g, rfl, hg, hr⟩ := h hp
  exact ⟨g, rfl, Nat.lt_of_lt_of_le hg hO.size, rangeAt_only hr hO hg (by simp)⟩

/-- Functions' cells. -/
def EncF (w : World) : List FuncM → List Value → List Nat → Prop
  | [], xs, fp => xs = [] ∧ fp = []
  | f :: r, xs, fp => ∃ va fa fr xr, xs = encStr f.name :: .int .i64 f.at_ :: va :: xr ∧ fp = fa ++ fr ∧ BlkAt w va f.body fa ∧ fa.Nodup ∧ EncF w r xr fr
theorem EncF.len {w : World} : ∀ {l : List FuncM} {xs : List Value} {fp : List Nat}, EncF w l xs fp → xs.length = l.length * 3
  | [], xs, fp, h => by rw [h.1]; rfl
  | f :: r, xs, fp, h => by
    obtain ⟨va, fa, fr, xr, rfl, rfl, h1, _, h3⟩ := h
    have := EncF.len h3
    simp only [List.length_cons]
    omega
theorem EncF.keep {w w' : World} {S : List Nat} (hO : Only S w w') : ∀ {l : List FuncM} {xs : List Value} {fp : List Nat}, EncF w l xs fp → (∀ k ∈ fp, k ∉ S) → EncF w' l xs fp
  | [], xs, fp, h, _ => h
  | f :: r, xs, fp, h, hS => by
    obtain ⟨va, fa, fr, xr, rfl, rfl, h1, hn, h3⟩ := h
    exact ⟨va, fa, fr, xr, rfl, rfl, h1.keep hO (fun k hk => hS k (by simp [hk])), hn, EncF.keep hO h3 (fun k hk => hS k (by simp [hk]))⟩
theorem EncF.snoc {w : World} {f : FuncM} {va : Value} {fa : List Nat} (ha : BlkAt w va f.body fa) (hn : fa.Nodup) : ∀ {l : List FuncM} {xs : List Value} {fp : List Nat}, EncF w l xs fp → EncF w (l ++ [f]) (xs ++ [encStr f.name, .int .i64 f.at_, va]) (fp ++ fa)
  | [], xs, fp, h => by obtain ⟨rfl, rfl⟩ := h; exact ⟨va, fa, [], [], rfl, by simp, ha, hn, rfl, rfl⟩
  | g :: r, xs, fp, h => by
    obtain ⟨vb, fb, fr, xr, rfl, rfl, h1, hn1, h3⟩ := h
    exact ⟨vb, fb, fr ++ fa, xr ++ [encStr f.name, .int .i64 f.at_, va], by simp, by simp, h1, hn1, EncF.snoc ha hn h3⟩
/-- A slice of functions, to be read. -/
def FuncsAt (w : World) (v : Value) (l : List FuncM) : Prop :=
  ∃ a c, v = .slice a l.length c ∧ l.length ≤ c ∧ (0 < l.length → ∃ g xs fp, a = some ⟨g, 0, none⟩ ∧ g < w.heap.size ∧ w.rangeAt g 0 xs ∧ EncF w l xs fp)
theorem FuncsAt.more {w w' : World} {v : Value} {l : List FuncM} (h : FuncsAt w v l) (hO : Only [] w w') : FuncsAt w' v l := by
  obtain ⟨a, c, rfl, hc, h⟩ := h
  refine ⟨a, c, rfl, hc, fun hp => ?_⟩
  obtain ⟨g, xs, fp, rfl, hg, hr, he⟩ := h hp
  exact ⟨g, xs, fp, rfl, Nat.lt_of_lt_of_le hg hO.size, rangeAt_only hr hO hg (by simp), he.keep hO (by simp)⟩

/-- A program as a value. -/
def ProgAt (w : World) (vv vl vf : Value) (p : ProgM) : Prop := DeclsAt w vv p.vars ∧ DeclsAt w vl p.locks ∧ FuncsAt w vf p.funcs
theorem ProgAt.more {w w' : World} {vv vl vf : Value} {p : ProgM} (h : ProgAt w vv vl vf p) (hO : Only [] w w') : ProgAt w' vv vl vf p := ⟨h.1.more hO, h.2.1.more hO, h.2.2.more hO⟩
theorem ProgAt.nil (w : World) : ProgAt w (.slice none 0 0) (.slice none 0 0) (.slice none 0 0) ⟨[], [], []⟩ :=
  ⟨⟨none, 0, rfl, Nat.le_refl _, fun h => by simp at h⟩, ⟨none, 0, rfl, Nat.le_refl _, fun h => by simp at h⟩, ⟨none, 0, rfl, Nat.le_refl _, fun h => by simp at h⟩⟩

/-- Two slices with one block: none. -/
def Apart (v u : Value) : Prop := ∀ g, v.ownBlock = some g → u.ownBlock ≠ some g
theorem apart_type {w : World} {base base' s s' n n' : Nat} {e e' : TypeId} {v v' : Value} {xs xs' : List Value} (h : w.ownsRow base e s v n xs) (h' : w.ownsRow base' e' s' v' n' xs') (hne : e ≠ e') : Apart v v' := by
  intro g hg hg'
  rcases h.2 with ⟨rfl, -⟩ | ⟨g1, cap, cur, rfl, hb, hgg, -⟩
  · simp [Value.ownBlock] at hg
  · rcases h'.2 with ⟨rfl, -⟩ | ⟨g2, cap2, cur2, rfl, hb2, hgg2, -⟩
    · simp [Value.ownBlock] at hg'
    · simp only [Value.ownBlock, Option.some.injEq] at hg hg'
      subst hg
      subst hg'
      rw [hgg] at hgg2
      injection hgg2 with hgg2
      injection hgg2 with _ h3 _
      exact hne h3

/-- A program's three rows, as they grow. -/
structure GrowP (w0 w : World) (vv vl vf : Value) (p : ProgM) (fp : List Nat) : Prop where
  vars : w.ownsRow w0.heap.size 74 2 vv p.vars.length (dcells p.vars)
  locks : w.ownsRow w0.heap.size 74 2 vl p.locks.length (dcells p.locks)
  funcs : ∃ xs, w.ownsRow w0.heap.size 45 3 vf p.funcs.length xs ∧ EncF w p.funcs xs fp
  new : NewB w0 w fp
  vl_ : Apart vv vl
  vb : ∀ g, vv.ownBlock = some g → g ∉ fp
  lb : ∀ g, vl.ownBlock = some g → g ∉ fp
  fb : ∀ g, vf.ownBlock = some g → g ∉ fp

theorem GrowP.nil (w0 w : World) : GrowP w0 w (.slice none 0 0) (.slice none 0 0) (.slice none 0 0) ⟨[], [], []⟩ [] :=
  ⟨⟨rfl, .inl ⟨rfl, rfl⟩⟩, ⟨rfl, .inl ⟨rfl, rfl⟩⟩, ⟨[], ⟨rfl, .inl ⟨rfl, rfl⟩⟩, rfl, rfl⟩, NewB.nil _ _, fun g h => by simp [Value.ownBlock] at h, fun g h => by simp [Value.ownBlock] at h, fun g h => by simp [Value.ownBlock] at h, fun g h => by simp [Value.ownBlock] at h⟩
theorem GrowP.keep {w0 w w' : World} {S : List Nat} {vv vl vf : Value} {p : ProgM} {fp : List Nat} (h : GrowP w0 w vv vl vf p fp) (hO : Only S w w') (hS : ∀ k ∈ S, k < w0.heap.size) : GrowP w0 w' vv vl vf p fp := by
  obtain ⟨h1, h2, ⟨xs, h3, h4⟩, h5, h6, h7, h8, h9⟩ := h
  exact ⟨owns_keep h1 hO hS, owns_keep h2 hO hS, ⟨xs, owns_keep h3 hO hS, h4.keep hO (fun k hk hm => by have := hS k hm; have := (h5.2 k hk).1; omega)⟩, h5.more hO.size, h6, h7, h8, h9⟩
theorem GrowP.more {w0 w w' : World} {vv vl vf : Value} {p : ProgM} {fp : List Nat} (h : GrowP w0 w vv vl vf p fp) (hO : Only [] w w') : GrowP w0 w' vv vl vf p fp := h.keep hO (by simp)

theorem owns_decls {w : World} {base : Nat} {v : Value} {l : List DeclM} (h : w.ownsRow base 74 2 v l.length (dcells l)) : DeclsAt w v l := by
  rcases h.2 with ⟨rfl, h0⟩ | ⟨g, cap, cur, rfl, hb, hg, hc, _⟩
  · exact ⟨none, 0, by rw [h0], by omega, fun hp => by omega⟩
  · refine ⟨_, cap, rfl, hc, fun _ => ⟨g, rfl, IsBlk.lt hg, fun j x hx => ?_⟩⟩
    have := World.ownsRow.cells h (g := g) rfl j x hx
    rw [Addr.add_mid] at this
    exact this
theorem GrowP.done {w0 w : World} {vv vl vf : Value} {p : ProgM} {fp : List Nat} (h : GrowP w0 w vv vl vf p fp) : ProgAt w vv vl vf p := by
  obtain ⟨xs, h3, h4⟩ := h.funcs
  refine ⟨owns_decls h.vars, owns_decls h.locks, ?_⟩
  rcases h3.2 with ⟨rfl, h0⟩ | ⟨g, cap, cur, rfl, hb, hg, hc, _⟩
  · exact ⟨none, 0, by rw [h0], by omega, fun hp => by omega⟩
  · refine ⟨_, cap, rfl, hc, fun _ => ⟨g, xs, fp, rfl, IsBlk.lt hg, fun j x hx => ?_, h4⟩⟩
    have := World.ownsRow.cells h3 (g := g) rfl j x hx
    rw [Addr.add_mid] at this
    exact this

/-- A row kept while another one grows. -/
theorem owns_apart {w w' : World} {base s n : Nat} {e : TypeId} {v u : Value} {xs : List Value} (h : w.ownsRow base e s v n xs) (hO : Only (ownL u) w w') (ha : Apart v u) : w'.ownsRow base e s v n xs := by
  refine ⟨h.1, ?_⟩
  rcases h.2 with hn | ⟨g, cap, cur, rfl, hb, hg, rest⟩
  · exact .inl hn
  · exact .inr ⟨g, cap, cur, rfl, hb, (hO.block g (IsBlk.lt hg) (fun hm => ha g rfl (mem_ownL.1 hm))).trans hg, rest⟩

/-- One declaration appended: to the variables (L = false), to the locks (L = true). -/
theorem wpList_append_d {w : World} {ops : Array Oper} {rest : List Oper} {o : Oper} {a : Act} {Q : Exit → Act → World → Prop} (hgd : o.guard = none) (s x : Operand)
    (ho : o.op = .call { callee := .builtin .append, args := #[s, x], argTypes := #[38, 38] })
    (base : Nat) (v : Value) (l : List DeclM) (hs : a.eval s = v) (hown : w.ownsRow base 74 2 v l.length (dcells l))
    (q c : Nat) (d : DeclM) (hx : a.eval x = .slice (some ⟨q, 0, none⟩) 1 c)
    (hc0 : w.cell? ⟨q, 0, none⟩ = some (encStr d.name)) (hc1 : w.cell? ⟨q, 1, none⟩ = some (.int .i64 d.at_)) (hsm : l.length ≤ 1000000) (hbase : base ≤ w.heap.size)
    (h : ∀ v' w', w'.ownsRow base 74 2 v' (l ++ [d]).length (dcells (l ++ [d])) → Only (ownL v) w w' → (v'.ownBlock = v.ownBlock ∨ v'.ownBlock = some w.heap.size) → wpList Try.prog ops Q rest (a.put o.dst v') w') : wpList Try.prog ops Q (o :: rest) a w := by
  obtain ⟨i0, hi, hz0, hz1, hz2⟩ := info_parts infoD
  refine wpList_append_own_at w hgd s x _ ho base _ i0 _ 2 24 Try.underlying38 hi hz0 hz1 hz2 rfl (by decide) v l.length _ hs hown ⟨q, 0, none⟩ 1 c [encStr d.name, .int .i64 d.at_] hx rfl (fun j u hu => ?_) (fun u hu => ?_) (by unfold maxLen; omega) (by omega) hbase (fun v' w' k2 k3 k4 k5 => h v' w' ?_ (grown_only k3) k5)
  · rw [Addr.add_mid]
    match j, hu with
    | 0, hu => simp at hu; rw [← hu]; exact hc0
    | 1, hu => simp at hu; rw [← hu]; exact hc1
    | n + 2, hu => simp at hu
  · simp only [List.mem_cons, List.not_mem_nil, or_false] at hu
    rcases hu with rfl | rfl <;> rfl
  · rw [dcells_snoc, List.length_append]; exact k2
theorem wpList_append_fn {w : World} {ops : Array Oper} {rest : List Oper} {o : Oper} {a : Act} {Q : Exit → Act → World → Prop} (hgd : o.guard = none) (s x : Operand)
    (ho : o.op = .call { callee := .builtin .append, args := #[s, x], argTypes := #[39, 39] })
    (base : Nat) (v : Value) (n : Nat) (xs : List Value) (hs : a.eval s = v) (hown : w.ownsRow base 45 3 v n xs)
    (q c : Nat) (d : FuncM) (va : Value) (fa : List Nat) (hb : BlkAt w va d.body fa) (hx : a.eval x = .slice (some ⟨q, 0, none⟩) 1 c)
    (hc0 : w.cell? ⟨q, 0, none⟩ = some (encStr d.name)) (hc1 : w.cell? ⟨q, 1, none⟩ = some (.int .i64 d.at_)) (hc2 : w.cell? ⟨q, 2, none⟩ = some va) (hsm : n ≤ 1000000) (hbase : base ≤ w.heap.size)
    (h : ∀ v' w', w'.ownsRow base 45 3 v' (n + 1) (xs ++ [encStr d.name, .int .i64 d.at_, va]) → Only (ownL v) w w' → (v'.ownBlock = v.ownBlock ∨ v'.ownBlock = some w.heap.size) → wpList Try.prog ops Q rest (a.put o.dst v') w') : wpList Try.prog ops Q (o :: rest) a w := by
  obtain ⟨i0, hi, hz0, hz1, hz2⟩ := info_parts infoFn
  refine wpList_append_own_at w hgd s x _ ho base _ i0 _ 3 48 Try.underlying39 hi hz0 hz1 hz2 rfl (by decide) v n _ hs hown ⟨q, 0, none⟩ 1 c [encStr d.name, .int .i64 d.at_, va] hx rfl (fun j u hu => ?_) (fun u hu => ?_) (by unfold maxLen; omega) (by omega) hbase (fun v' w' k2 k3 k4 k5 => h v' w' k2 (grown_only k3) k5)
  · rw [Addr.add_mid]
    match j, hu with
    | 0, hu => simp at hu; rw [← hu]; exact hc0
    | 1, hu => simp at hu; rw [← hu]; exact hc1
    | 2, hu => simp at hu; rw [← hu]; exact hc2
    | n + 3, hu => simp at hu
  · simp only [List.mem_cons, List.not_mem_nil, or_false] at hu
    rcases hu with rfl | rfl | rfl
    · rfl
    · rfl
    · exact RowE.one hb

/-- The program with one more. -/
theorem GrowP.var {w0 w w' : World} {vv vl vf v' : Value} {p : ProgM} {fp : List Nat} {d : DeclM} (h : GrowP w0 w vv vl vf p fp) (h0 : w0.heap.size ≤ w.heap.size) (hr : w'.ownsRow w0.heap.size 74 2 v' (p.vars ++ [d]).length (dcells (p.vars ++ [d])))
    (hO : Only (ownL vv) w w') (hb : v'.ownBlock = vv.ownBlock ∨ v'.ownBlock = some w.heap.size) : GrowP w0 w' v' vl vf { p with vars := p.vars ++ [d] } fp := by
  obtain ⟨h1, h2, ⟨xs, h3, h4⟩, h5, h6, h7, h8, h9⟩ := h
  refine ⟨hr, owns_apart h2 hO (fun g hg hv => h6 g hv hg), ⟨xs, owns_apart h3 hO (apart_type h3 h1 (by decide)), h4.keep hO (fun k hk hm => h7 k (mem_ownL.1 hm) hk)⟩, h5.more hO.size, fun g hg hv => ?_, fun g hg hm => ?_, h8, h9⟩
  · rcases hb with hb | hb
    · exact h6 g (hb ▸ hg) hv
    · rw [hb] at hg; injection hg with hg; have := (World.ownsRow.lt h2 g hv).2; omega
  · rcases hb with hb | hb
    · exact h7 g (hb ▸ hg) hm
    · rw [hb] at hg; injection hg with hg; have := (h5.2 g hm).2; omega
theorem GrowP.lock {w0 w w' : World} {vv vl vf v' : Value} {p : ProgM} {fp : List Nat} {d : DeclM} (h : GrowP w0 w vv vl vf p fp) (h0 : w0.heap.size ≤ w.heap.size) (hr : w'.ownsRow w0.heap.size 74 2 v' (p.locks ++ [d]).length (dcells (p.locks ++ [d])))
    (hO : Only (ownL vl) w w') (hb : v'.ownBlock = vl.ownBlock ∨ v'.ownBlock = some w.heap.size) : GrowP w0 w' vv v' vf { p with locks := p.locks ++ [d] } fp := by
  obtain ⟨h1, h2, ⟨xs, h3, h4⟩, h5, h6, h7, h8, h9⟩ := h
  refine ⟨owns_apart h1 hO h6, hr, ⟨xs, owns_apart h3 hO (apart_type h3 h2 (by decide)), h4.keep hO (fun k hk hm => h8 k (mem_ownL.1 hm) hk)⟩, h5.more hO.size, fun g hg hv => ?_, h7, fun g hg hm => ?_, h9⟩
  · rcases hb with hb | hb
    · exact h6 g hg (hb ▸ hv)
    · rw [hb] at hv; injection hv with hv; have := (World.ownsRow.lt h1 g hg).2; omega
  · rcases hb with hb | hb
    · exact h8 g (hb ▸ hg) hm
    · rw [hb] at hg; injection hg with hg; have := (h5.2 g hm).2; omega
theorem GrowP.func {w0 w1 w w' : World} {vv vl vf v' va : Value} {p : ProgM} {fp fa : List Nat} {d : FuncM} {S : List Nat} (h : GrowP w0 w1 vv vl vf p fp) (h01 : w0.heap.size ≤ w1.heap.size) (hOw : Only S w1 w) (hS : ∀ k ∈ S, k < w0.heap.size)
    {xs : List Value} (hE : EncF w1 p.funcs xs fp) (hr : w'.ownsRow w0.heap.size 45 3 v' (p.funcs.length + 1) (xs ++ [encStr d.name, .int .i64 d.at_, va])) (ha : BlkAt w va d.body fa) (hN : NewB w1 w fa)
    (hO : Only (ownL vf) w w') (hb : v'.ownBlock = vf.ownBlock ∨ v'.ownBlock = some w.heap.size) : GrowP w0 w' vv vl v' { p with funcs := p.funcs ++ [d] } (fp ++ fa) := by
  have hk := h.keep hOw hS
  obtain ⟨h1, h2, ⟨ys, h3, h4⟩, h5, h6, h7, h8, h9⟩ := hk
  obtain ⟨g1, g2, ⟨zs, g3, g4⟩, g5, -⟩ := h
  have hE' : EncF w p.funcs xs fp := hE.keep hOw (fun k hk hm => by have := hS k hm; have := (g5.2 k hk).1; omega)
  have hfo : ∀ g, vf.ownBlock = some g → g < w1.heap.size := fun g hg => (World.ownsRow.lt g3 g hg).2
  have hda : ∀ k ∈ fa, k ∉ ownL vf := fun k hk hm => by have := hfo k (mem_ownL.1 hm); have := (hN.2 k hk).1; omega
  have hsz := hOw.size
  refine ⟨owns_apart h1 hO (apart_type h1 h3 (by decide)), owns_apart h2 hO (apart_type h2 h3 (by decide)), ⟨_, by rw [List.length_append]; exact hr, EncF.snoc (ha.keep hO hda) hN.1 (hE'.keep hO (fun k hk hm => h9 k (mem_ownL.1 hm) hk))⟩, (g5.app hN h01 hsz).more hO.size, h6, fun g hg hm => ?_, fun g hg hm => ?_, fun g hg hm => ?_⟩
  · rcases List.mem_append.1 hm with hm | hm
    · exact h7 g hg hm
    · have := (World.ownsRow.lt g1 g hg).2; have := (hN.2 g hm).1; omega
  · rcases List.mem_append.1 hm with hm | hm
    · exact h8 g hg hm
    · have := (World.ownsRow.lt g2 g hg).2; have := (hN.2 g hm).1; omega
  · rcases hb with hb | hb
    · rcases List.mem_append.1 hm with hm | hm
      · exact h9 g (hb ▸ hg) hm
      · exact hda g hm (mem_ownL.2 (hb ▸ hg))
    · rw [hb] at hg; injection hg with hg
      rcases List.mem_append.1 hm with hm | hm
      · have := (h5.2 g hm).2; omega
      · have := (hN.2 g hm).2; omega

/-! ### The same, the reader's block turned beside -/
theorem owns_two {w w' : World} {base s n p : Nat} {e : TypeId} {v u : Value} {xs : List Value} (h : w.ownsRow base e s v n xs) (hO : Only (p :: ownL u) w w') (hp : p < base) (ha : Apart v u) : w'.ownsRow base e s v n xs := by
  refine ⟨h.1, ?_⟩
  rcases h.2 with hn | ⟨g, cap, cur, rfl, hb, hg, rest⟩
  · exact .inl hn
  · refine .inr ⟨g, cap, cur, rfl, hb, (hO.block g (IsBlk.lt hg) (fun hm => ?_)).trans hg, rest⟩
    rcases List.mem_cons.1 hm with hm | hm
    · omega
    · exact ha g rfl (mem_ownL.1 hm)
theorem not_two {p k : Nat} {u : Value} (h1 : p ≠ k) (h2 : u.ownBlock ≠ some k) : k ∉ p :: ownL u := fun hm => by
  rcases List.mem_cons.1 hm with hm | hm
  · exact h1 hm.symm
  · exact h2 (mem_ownL.1 hm)
theorem GrowP.var2 {w0 w w' : World} {vv vl vf v' : Value} {P : ProgM} {fp : List Nat} {d : DeclM} {p : Nat} (h : GrowP w0 w vv vl vf P fp) (hp : p < w0.heap.size) (hr : w'.ownsRow w0.heap.size 74 2 v' (P.vars ++ [d]).length (dcells (P.vars ++ [d])))
    (hO : Only (p :: ownL vv) w w') (hb : v'.ownBlock = vv.ownBlock ∨ ∃ g, v'.ownBlock = some g ∧ w.heap.size ≤ g) : GrowP w0 w' v' vl vf { P with vars := P.vars ++ [d] } fp := by
  obtain ⟨h1, h2, ⟨xs, h3, h4⟩, h5, h6, h7, h8, h9⟩ := h
  refine ⟨hr, owns_two h2 hO hp (fun g hg hv => h6 g hv hg), ⟨xs, owns_two h3 hO hp (apart_type h3 h1 (by decide)), h4.keep hO (fun k hk => not_two (by have := (h5.2 k hk).1; omega) (fun e => h7 k e hk))⟩, h5.more hO.size, fun g hg hv => ?_, fun g hg hm => ?_, h8, h9⟩
  · rcases hb with hb | ⟨g', hb, hg'⟩
    · exact h6 g (hb ▸ hg) hv
    · rw [hb] at hg; injection hg with hg; have := (World.ownsRow.lt h2 g hv).2; omega
  · rcases hb with hb | ⟨g', hb, hg'⟩
    · exact h7 g (hb ▸ hg) hm
    · rw [hb] at hg; injection hg with hg; have := (h5.2 g hm).2; omega
theorem GrowP.lock2 {w0 w w' : World} {vv vl vf v' : Value} {P : ProgM} {fp : List Nat} {d : DeclM} {p : Nat} (h : GrowP w0 w vv vl vf P fp) (hp : p < w0.heap.size) (hr : w'.ownsRow w0.heap.size 74 2 v' (P.locks ++ [d]).length (dcells (P.locks ++ [d])))
    (hO : Only (p :: ownL vl) w w') (hb : v'.ownBlock = vl.ownBlock ∨ ∃ g, v'.ownBlock = some g ∧ w.heap.size ≤ g) : GrowP w0 w' vv v' vf { P with locks := P.locks ++ [d] } fp := by
  obtain ⟨h1, h2, ⟨xs, h3, h4⟩, h5, h6, h7, h8, h9⟩ := h
  refine ⟨owns_two h1 hO hp h6, hr, ⟨xs, owns_two h3 hO hp (apart_type h3 h2 (by decide)), h4.keep hO (fun k hk => not_two (by have := (h5.2 k hk).1; omega) (fun e => h8 k e hk))⟩, h5.more hO.size, fun g hg hv => ?_, h7, fun g hg hm => ?_, h9⟩
  · rcases hb with hb | ⟨g', hb, hg'⟩
    · exact h6 g hg (hb ▸ hv)
    · rw [hb] at hv; injection hv with hv; have := (World.ownsRow.lt h1 g hg).2; omega
  · rcases hb with hb | ⟨g', hb, hg'⟩
    · exact h8 g (hb ▸ hg) hm
    · rw [hb] at hg; injection hg with hg; have := (h5.2 g hm).2; omega
theorem GrowP.func2 {w0 w w' : World} {vv vl vf v' va : Value} {P : ProgM} {fp fa : List Nat} {d : FuncM} {p : Nat} (h : GrowP w0 w vv vl vf P fp) (hp : p < w0.heap.size) (h0 : w0.heap.size ≤ w.heap.size)
    {xs : List Value} (hE : EncF w P.funcs xs fp) (hr : w'.ownsRow w0.heap.size 45 3 v' (P.funcs.length + 1) (xs ++ [encStr d.name, .int .i64 d.at_, va])) (ha : BlkAt w' va d.body fa) (hN : NewB w w' fa)
    (hO : Only (p :: ownL vf) w w') (hb : v'.ownBlock = vf.ownBlock ∨ ∃ g, v'.ownBlock = some g ∧ w.heap.size ≤ g ∧ g ∉ fa) : GrowP w0 w' vv vl v' { P with funcs := P.funcs ++ [d] } (fp ++ fa) := by
  obtain ⟨h1, h2, ⟨ys, h3, h4⟩, h5, h6, h7, h8, h9⟩ := h
  have hfo : ∀ g, vf.ownBlock = some g → g < w.heap.size := fun g hg => (World.ownsRow.lt h3 g hg).2
  refine ⟨owns_two h1 hO hp (apart_type h1 h3 (by decide)), owns_two h2 hO hp (apart_type h2 h3 (by decide)), ⟨_, by rw [List.length_append]; exact hr, EncF.snoc ha hN.1 (hE.keep hO (fun k hk => not_two (by have := (h5.2 k hk).1; omega) (fun e => h9 k e hk)))⟩, h5.app hN h0 hO.size, h6, fun g hg hm => ?_, fun g hg hm => ?_, fun g hg hm => ?_⟩
  · rcases List.mem_append.1 hm with hm | hm
    · exact h7 g hg hm
    · have := (World.ownsRow.lt h1 g hg).2; have := (hN.2 g hm).1; omega
  · rcases List.mem_append.1 hm with hm | hm
    · exact h8 g hg hm
    · have := (World.ownsRow.lt h2 g hg).2; have := (hN.2 g hm).1; omega
  · rcases hb with hb | ⟨g', hb, hg', hgf⟩
    · rcases List.mem_append.1 hm with hm | hm
      · exact h9 g (hb ▸ hg) hm
      · have := hfo g (hb ▸ hg); have := (hN.2 g hm).1; omega
    · rw [hb] at hg; injection hg with hg
      rcases List.mem_append.1 hm with hm | hm
      · have := (h5.2 g hm).2; omega
      · exact hgf (hg ▸ hm)

/-- What one operation of a region may turn: the call the reader, the append its row, others nothing old. -/
def RkP (p : Nat) (T : List Nat) (ci ai k : Nat) : World → World → Prop := if k = ci then Only [p] else if k = ai then Only T else Only []
theorem RkP.big {p ci ai k : Nat} {T : List Nat} {u v : World} (h : RkP p T ci ai k u v) : Only (p :: T) u v := by
  unfold RkP at h
  split at h
  · exact h.into (fun i hi => .inl (by simp only [List.mem_singleton] at hi; simp [hi]))
  · split at h
    · exact h.into (fun i hi => .inl (by simp [hi]))
    · exact h.into (by simp)
theorem RkP.pre {p ci ai k : Nat} {T : List Nat} {u v : World} (h : RkP p T ci ai k u v) (hk : k ≠ ci) : Only T u v := by
  unfold RkP at h
  rw [if_neg hk] at h
  split at h
  · exact h
  · exact h.into (by simp)
theorem RkP.oth {p ci ai k : Nat} {T : List Nat} {u v : World} (h : RkP p T ci ai k u v) (hk : k ≠ ai) : Only [p] u v := by
  unfold RkP at h
  split at h
  · exact h
  · first
      | exact h.into (by simp)
      | (rw [if_neg hk] at h; exact h.into (by simp))
/-- What stands while the call, while the append is still to come. -/
def R1P (p : Nat) (T : List Nat) (ci ai k : Nat) : World → World → Prop := if k = ci then Only T else if k = ai then Only [p] else fun _ _ => True
theorem R1P.refl {p ci ai : Nat} {T : List Nat} {w : World} (k : Nat) : R1P p T ci ai k w w := by
  unfold R1P
  split
  · exact Only.refl _ _
  · split
    · exact Only.refl _ _
    · trivial
theorem R1P.call {p ci ai : Nat} {T : List Nat} {u v : World} (h : R1P p T ci ai ci u v) : Only T u v := by unfold R1P at h; rwa [if_pos rfl] at h
theorem R1P.app {p ci ai : Nat} {T : List Nat} {u v : World} (h : R1P p T ci ai ai u v) (hne : ai ≠ ci) : Only [p] u v := by unfold R1P at h; rwa [if_neg hne, if_pos rfl] at h
theorem R1P.step {p ci ai k0 k : Nat} {T : List Nat} {w u v : World} (h : R1P p T ci ai k0 w u) (hk : RkP p T ci ai k u v) (hne : k ≠ k0) : R1P p T ci ai k0 w v := by
  unfold R1P at h ⊢
  split
  · rename_i hc
    subst hc
    rw [if_pos rfl] at h
    exact h.then (hk.pre hne) _ (fun i hi => .inl hi) (fun i hi => .inl hi)
  · rename_i hc
    rw [if_neg hc] at h
    split
    · rename_i ha
      subst ha
      rw [if_pos rfl] at h
      exact h.then (hk.oth hne) _ (fun i hi => .inl hi) (fun i hi => .inl hi)
    · trivial

end Go.Proofs.Ytgkddbpfjbgelaa
