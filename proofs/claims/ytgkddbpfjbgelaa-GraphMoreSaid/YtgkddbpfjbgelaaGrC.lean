/-
  Rows of ints, rows of such rows, of one's own; links as they lie in memory; newLinks and add of the package graph.
-/
import Derived.Test.YtgkddbpfjbgelaaGrB
import Derived.Test.YtgkddbpfjbgelaaPaH
import Derived.Test.YtgkddbpfjbgelaaStab
import Derived.Deep.RegionHeld3
import Derived.Laws.OwnMore
import Derived.Maps.AppendAt
import Derived.WalkSmall
namespace Go.Proofs.Ytgkddbpfjbgelaa
set_option maxRecDepth 100000
set_option linter.unusedVariables false
open Go.RowKit Go.Sort

theorem infoI8 : (Try.prog.info? 3).map (fun i => (i.zero, i.size, i.bytes)) = some (some (.int .i64 0), 1, 8) := by kernel_rfl
theorem infoR8 : (Try.prog.info? 22).map (fun i => (i.zero, i.size, i.bytes)) = some (some (.slice none 0 0), 1, 24) := by kernel_rfl

/-- append(row of one's own, one more), of elements of one cell, as a region that draws has it. -/
theorem wp_append_18 {w : World} {o : Oper} {a : Act} {K : Act → World → Prop} {Q : Exit → Act → World → Prop} (s x : Operand) (t e : TypeId)
    (ho : o.op = .call { callee := .builtin .append, args := #[s, x], argTypes := #[t, t] }) (ht : Try.prog.underlying t = some (.slice e)) (z : Value) (by_ : Nat) (hinf : (Try.prog.info? e).map (fun i => (i.zero, i.size, i.bytes)) = some (some z, 1, by_)) (hz : z.cells.size = 1) (hby : by_ ≤ 100000)
    (base : Nat) (v : Value) (n : Nat) (xs : List Value) (hs : a.eval s = v) (hown : w.ownsRow base e 1 v n xs) (q c : Nat) (u : Value) (hx : a.eval x = .slice (some ⟨q, 0, none⟩) 1 c) (hc : w.cell? ⟨q, 0, none⟩ = some u) (hu : u.oneCell' = true) (hl : n ≤ 1000000) (hbase : base ≤ w.heap.size)
    (h : ∀ v' w', w'.ownsRow base e 1 v' (n + 1) (xs ++ [u]) → Only (ownL v) w w' → (v'.ownBlock = v.ownBlock ∨ v'.ownBlock = some w.heap.size) → K (a.put o.dst v') w') : o.wp Try.prog a w K Q := by
  obtain ⟨i0, hi, hz0, hz1, hz2⟩ := info_parts hinf
  obtain ⟨v', w', hr', k2, k3, k4, k5⟩ := run_append_own_at (P := Try.prog) w base t o.type e i0 z 1 by_ ht hi hz0 hz1 hz2 hz (by decide) v n xs hown ⟨q, 0, none⟩ 1 c [u] rfl (fun j y hy => by
      rw [Addr.add_mid]
      match j, hy with
      | 0, hy => simp at hy; rw [← hy]; exact hc
      | j + 1, hy => simp at hy) (by simpa using hu) (by unfold maxLen; omega) (by have := Nat.mul_le_mul (show n + 1 ≤ 1000001 by omega) hby; omega) hbase
  unfold Oper.wp execOp
  simp only [ho, resolve, invoke, builtin, Sem.run_bind, Sem.run_pure, Result.andThen_ok, List.map_toArray, List.map_cons, List.map_nil, hs, hx, hr']
  exact h v' w' k2 (grown_only k3) k5
theorem wpList_append_18 {w : World} {ops : Array Oper} {rest : List Oper} {o : Oper} {a : Act} {Q : Exit → Act → World → Prop} (hgd : o.guard = none) (s x : Operand) (t e : TypeId)
    (ho : o.op = .call { callee := .builtin .append, args := #[s, x], argTypes := #[t, t] }) (ht : Try.prog.underlying t = some (.slice e)) (z : Value) (by_ : Nat) (hinf : (Try.prog.info? e).map (fun i => (i.zero, i.size, i.bytes)) = some (some z, 1, by_)) (hz : z.cells.size = 1) (hby : by_ ≤ 100000)
    (base : Nat) (v : Value) (n : Nat) (xs : List Value) (hs : a.eval s = v) (hown : w.ownsRow base e 1 v n xs) (q c : Nat) (u : Value) (hx : a.eval x = .slice (some ⟨q, 0, none⟩) 1 c) (hc : w.cell? ⟨q, 0, none⟩ = some u) (hu : u.oneCell' = true) (hl : n ≤ 1000000) (hbase : base ≤ w.heap.size)
    (h : ∀ v' w', w'.ownsRow base e 1 v' (n + 1) (xs ++ [u]) → Only (ownL v) w w' → (v'.ownBlock = v.ownBlock ∨ v'.ownBlock = some w.heap.size) → wpList Try.prog ops Q rest (a.put o.dst v') w') :
    wpList Try.prog ops Q (o :: rest) a w := by
  refine wpList_plain hgd fun K hK => ?_
  exact wp_append_18 s x t e ho ht z by_ hinf hz hby base v n xs hs hown q c u hx hc hu hl hbase (fun v' w' h1 h2 h3 => hK _ _ (h v' w' h1 h2 h3))

/-! ### Rows of ints -/
def iv (k : Nat) : Value := .int .i64 k
def RowI (w : World) (base : Nat) (v : Value) (l : List Nat) : Prop := w.ownsRow base 3 1 v l.length (l.map iv)
theorem RowI.nil (w : World) (base : Nat) : RowI w base (.slice none 0 0) [] := World.ownsRow_nil _ _ _ _
theorem owns_off {w w' : World} {base s n : Nat} {e : TypeId} {v : Value} {xs : List Value} {S : List Nat} (h : w.ownsRow base e s v n xs) (hO : Only S w w') (hS : ∀ k, v.ownBlock = some k → k ∉ S) : w'.ownsRow base e s v n xs := by
  refine ⟨h.1, ?_⟩
  rcases h.2 with hn | ⟨g, cap, cur, rfl, hb, hg, rest⟩
  · exact .inl hn
  · exact .inr ⟨g, cap, cur, rfl, hb, (hO.block g (IsBlk.lt hg) (hS g rfl)).trans hg, rest⟩
theorem RowI.off {w w' : World} {base : Nat} {v : Value} {l : List Nat} {S : List Nat} (h : RowI w base v l) (hO : Only S w w') (hS : ∀ k, v.ownBlock = some k → k ∉ S) : RowI w' base v l := owns_off h hO hS
theorem RowI.slice {w : World} {base : Nat} {v : Value} {l : List Nat} (h : RowI w base v l) : ∃ a c, v = .slice a l.length c ∧ l.length ≤ c := by
  rcases h.2 with ⟨e1, e2⟩ | ⟨g, cap, cur, e1, -, -, hc, -⟩
  · exact ⟨none, 0, by rw [e1, e2], by omega⟩
  · exact ⟨_, cap, e1, hc⟩
theorem RowI.one {w : World} {base : Nat} {v : Value} {l : List Nat} (h : RowI w base v l) : v.oneCell' = true := by
  obtain ⟨a, c, rfl, -⟩ := h.slice; rfl
theorem RowI.get {w : World} {base : Nat} {v : Value} {l : List Nat} (h : RowI w base v l) {j k : Nat} (hj : l[j]? = some k) : ∃ g c, v = .slice (some ⟨g, 0, none⟩) l.length c ∧ base ≤ g ∧ g < w.heap.size ∧ w.cell? ⟨g, j, none⟩ = some (iv k) := by
  have hh := h
  have hlt : j < l.length := lt_of_getElem? hj
  rcases h.2 with ⟨e1, e2⟩ | ⟨g, cap, cur, e1, hb, hg, hc, -⟩
  · omega
  · refine ⟨g, cap, e1, hb, IsBlk.lt hg, ?_⟩
    have := World.ownsRow.cells hh (g := g) (by rw [e1]; rfl) j (iv k) (by rw [List.getElem?_map, hj]; rfl)
    rw [Addr.add_mid] at this
    simpa using this

/-! ### Rows of rows of ints -/
/-- Rows of ints in a row; each has a block of its own; all of these blocks are among fp. -/
def NetR (w : World) (base : Nat) (v : Value) (rows : List (List Nat)) (fp : List Nat) : Prop :=
  ∃ cs, w.ownsRow base 22 1 v rows.length cs ∧ (∀ k, v.ownBlock = some k → k ∈ fp) ∧ (∀ k ∈ fp, base ≤ k ∧ k < w.heap.size) ∧
    ∀ (i : Nat) (l : List Nat), rows[i]? = some l → ∃ u, cs[i]? = some u ∧ RowI w base u l ∧ ∀ b, u.ownBlock = some b → b ∈ fp ∧ v.ownBlock ≠ some b ∧ ∀ (j : Nat) (u' : Value), j ≠ i → cs[j]? = some u' → u'.ownBlock ≠ some b
theorem NetR.off {w w' : World} {base : Nat} {v : Value} {rows : List (List Nat)} {fp S : List Nat} (h : NetR w base v rows fp) (hO : Only S w w') (hS : ∀ k ∈ fp, k ∉ S) : NetR w' base v rows fp := by
  obtain ⟨cs, h1, h2, h3, h4⟩ := h
  refine ⟨cs, owns_off h1 hO (fun k hk => hS k (h2 k hk)), h2, fun k hk => ⟨(h3 k hk).1, Nat.lt_of_lt_of_le (h3 k hk).2 hO.size⟩, fun i l hl => ?_⟩
  obtain ⟨u, k1, k2, k3⟩ := h4 i l hl
  exact ⟨u, k1, k2.off hO (fun k hk => hS k (k3 k hk).1), k3⟩
theorem NetR.more {w w' : World} {base : Nat} {v : Value} {rows : List (List Nat)} {fp : List Nat} (h : NetR w base v rows fp) (hO : Only [] w w') : NetR w' base v rows fp := h.off hO (by simp)
theorem NetR.wide {w : World} {base : Nat} {v : Value} {rows : List (List Nat)} {fp fq : List Nat} (h : NetR w base v rows fp) (hs : ∀ k ∈ fp, k ∈ fq) (hq : ∀ k ∈ fq, base ≤ k ∧ k < w.heap.size) : NetR w base v rows fq := by
  obtain ⟨cs, h1, h2, h3, h4⟩ := h
  refine ⟨cs, h1, fun k hk => hs k (h2 k hk), hq, fun i l hl => ?_⟩
  obtain ⟨u, k1, k2, k3⟩ := h4 i l hl
  exact ⟨u, k1, k2, fun b hb => ⟨hs b (k3 b hb).1, (k3 b hb).2⟩⟩
/-- A row of it, as it is read. -/
theorem NetR.get {w : World} {base : Nat} {v : Value} {rows : List (List Nat)} {fp : List Nat} (h : NetR w base v rows fp) {i : Nat} {l : List Nat} (hi : rows[i]? = some l) :
    ∃ g c u, v = .slice (some ⟨g, 0, none⟩) rows.length c ∧ g ∈ fp ∧ w.cell? ⟨g, i, none⟩ = some u ∧ w.frozen? ⟨g, i, none⟩ = false ∧ RowI w base u l ∧ (∀ b, u.ownBlock = some b → b ∈ fp ∧ b ≠ g) := by
  obtain ⟨cs, h1, h2, h3, h4⟩ := h
  obtain ⟨u, k1, k2, k3⟩ := h4 i l hi
  have hlt : i < rows.length := (List.getElem?_eq_some_iff.1 hi).1
  have hh := h1
  rcases h1.2 with ⟨e1, e2⟩ | ⟨g, cap, cur, e1, hb, hg, hc, -⟩
  · omega
  · have := World.ownsRow.cells hh (g := g) (by rw [e1]; rfl) i u k1
    rw [Addr.add_mid, Nat.zero_add] at this
    exact ⟨g, cap, u, e1, h2 g (by rw [e1]; rfl), this, IsBlk.notFrozen (cs := cur) (t := 22) hg i, k2, fun b hb => ⟨(k3 b hb).1, fun e => (k3 b hb).2.1 (by rw [e1, e]; rfl)⟩⟩
/-- A row of it has grown by one, and is laid in its place. -/
theorem NetR.put {w w' : World} {base : Nat} {v : Value} {rows : List (List Nat)} {fp : List Nat} (h : NetR w base v rows fp) {i k : Nat} {l : List Nat} (hi : rows[i]? = some l) {g c : Nat} (hv : v = .slice (some ⟨g, 0, none⟩) rows.length c) {u u' : Value} (hu : w.cell? ⟨g, i, none⟩ = some u)
    (hr : RowI w' base u' (l ++ [k])) (hO : Only (ownL u) w w') (hb : u'.ownBlock = u.ownBlock ∨ ∃ q, u'.ownBlock = some q ∧ w.heap.size ≤ q) : NetR (w'.setCell ⟨g, i, none⟩ u') base v (rows.set i (l ++ [k])) (fp ++ ownL u') := by
  subst hv
  obtain ⟨cs, h1, h2, h3, h4⟩ := h
  obtain ⟨u0, k1, k2, k3⟩ := h4 i l hi
  have hlt : i < rows.length := (List.getElem?_eq_some_iff.1 hi).1
  have hcs : cs.length = rows.length := by have := h1.1; omega
  have hu0 : u0 = u := by
    have := World.ownsRow.cells h1 (g := g) rfl i u0 k1
    rw [Addr.add_mid, Nat.zero_add, hu] at this
    injection this with this; exact this.symm
  subst hu0
  have hgf : g ∈ fp := h2 g rfl
  have hgu : ∀ b, u0.ownBlock = some b → b ≠ g := fun b hb' e => (k3 b hb').2.1 (by rw [e]; rfl)
  have hg' : ∀ b, u'.ownBlock = some b → b ≠ g := fun b hb' e => by
    rcases hb with hb | hb
    · exact hgu b (by rw [← hb]; exact hb') e
    · obtain ⟨q, hb, hq⟩ := hb; rw [hb] at hb'; injection hb' with hb'; have := (h3 g hgf).2; omega
  have h1' : w'.ownsRow base 22 1 (.slice (some ⟨g, 0, none⟩) rows.length c) rows.length cs := owns_off h1 hO (fun k hk hm => by
    have : k = g := by simpa [Value.ownBlock] using hk.symm
    subst this; exact hgu _ (mem_ownL.1 hm) rfl)
  obtain ⟨s1, s2⟩ := World.ownsRow.stored h1' i u'
  have hOs : Only [g] w' (w'.setCell ⟨g, i, none⟩ u') := (Only.refl _ _).setCell (.inl (by simp)) _
  refine ⟨cs.set i u', by rw [List.length_set]; exact s1, fun k hk => List.mem_append_left _ (h2 k hk), fun k hk => ?_, fun j m hj => ?_⟩
  · have hs' : w.heap.size ≤ (w'.setCell ⟨g, i, none⟩ u').heap.size := by simpa using hO.size
    rcases List.mem_append.1 hk with hk | hk
    · exact ⟨(h3 k hk).1, Nat.lt_of_lt_of_le (h3 k hk).2 hs'⟩
    · have := World.ownsRow.lt hr k (mem_ownL.1 hk)
      exact ⟨this.1, by simpa using this.2⟩
  · by_cases hji : j = i
    · subst hji
      rw [List.getElem?_set_self hlt] at hj
      injection hj with hj
      subst hj
      refine ⟨u', by rw [List.getElem?_set_self (by omega)], hr.off hOs (fun k hk hm => by simp at hm; exact hg' k hk hm), fun b hb' => ⟨List.mem_append_right _ (mem_ownL.2 hb'), fun e => hg' b hb' (by simpa [Value.ownBlock] using e.symm), fun j' u2 hne hj' e => ?_⟩⟩
      rw [List.getElem?_set_ne (fun e => hne e.symm)] at hj'
      obtain ⟨m', hm'⟩ : ∃ m', rows[j']? = some m' := ⟨rows[j']'(by have := (List.getElem?_eq_some_iff.1 hj').1; omega), by simp⟩
      obtain ⟨u3, q1, q2, q3⟩ := h4 j' m' hm'
      rw [hj'] at q1; injection q1 with q1; subst q1
      rcases hb with hb | hb
      · exact (q3 b e).2.2 j u0 (fun e => hne e.symm) k1 (by rw [← hb]; exact hb')
      · obtain ⟨q, hb, hq⟩ := hb; rw [hb] at hb'; injection hb' with hb'
        have := (h3 b (q3 b e).1).2; omega
    · rw [List.getElem?_set_ne (fun e => hji e.symm)] at hj
      obtain ⟨u3, q1, q2, q3⟩ := h4 j m hj
      refine ⟨u3, by rw [List.getElem?_set_ne (fun e => hji e.symm)]; exact q1, (q2.off hO (fun k hk hm => ?_)).off hOs (fun k hk hm => ?_), fun b hb' => ⟨List.mem_append_left _ (q3 b hb').1, (q3 b hb').2.1, fun j' u2 hne hj' => ?_⟩⟩
      · exact (q3 k hk).2.2 i u0 (fun e => hji e.symm) k1 (mem_ownL.1 hm)
      · simp at hm; subst hm; exact (q3 k hk).2.1 rfl
      · by_cases hj'i : j' = i
        · subst hj'i
          rw [List.getElem?_set_self (by omega)] at hj'
          injection hj' with hj'
          subst hj'
          intro e
          rcases hb with hb | hb
          · exact (q3 b hb').2.2 j' u0 (fun e => hji e.symm) k1 (by rw [← hb]; exact e)
          · obtain ⟨q, hb, hq⟩ := hb; rw [hb] at e; injection e with e
            have := (h3 b (q3 b hb').1).2; omega
        · rw [List.getElem?_set_ne (fun e => hj'i e.symm)] at hj'
          exact (q3 b hb').2.2 j' u2 hne hj'

/-! ### Links -/
abbrev Edg := Nat × Nat
/-- Whom each of n places leads to, by edges. -/
def nxOf (n : Nat) (es : List Edg) : List (List Nat) := (List.range n).map (fun a => (es.filter (fun e => e.1 == a)).map (·.2))
def swapE (es : List Edg) : List Edg := es.map (fun e => (e.2, e.1))
theorem nxOf_len (n : Nat) (es : List Edg) : (nxOf n es).length = n := by simp [nxOf]
theorem nxOf_get (n : Nat) (es : List Edg) {a : Nat} (h : a < n) : (nxOf n es)[a]? = some ((es.filter (fun e => e.1 == a)).map (·.2)) := by simp [nxOf, h]
theorem nxOf_snoc (n : Nat) (es : List Edg) (a b : Nat) : nxOf n (es ++ [(a, b)]) = (nxOf n es).set a ((es.filter (fun e => e.1 == a)).map (·.2) ++ [b]) := by
  apply List.ext_getElem?
  intro i
  by_cases hi : i < n
  · rw [nxOf_get n _ hi]
    by_cases hia : i = a
    · subst hia
      rw [List.getElem?_set_self (by rw [nxOf_len]; exact hi)]
      simp
    · rw [List.getElem?_set_ne (fun e => hia e.symm), nxOf_get n _ hi]
      have : ((a == i) : Bool) = false := by simp; exact fun e => hia e.symm
      simp [this]
  · rw [List.getElem?_eq_none (by rw [nxOf_len]; omega), List.getElem?_eq_none (by rw [List.length_set, nxOf_len]; omega)]
theorem nxOf_nil (n : Nat) : nxOf n [] = List.replicate n [] := by
  apply List.ext_getElem?
  intro i
  by_cases hi : i < n
  · rw [nxOf_get n _ hi]; simp [hi]
  · rw [List.getElem?_eq_none (by rw [nxOf_len]; omega), List.getElem?_eq_none (by simp; omega)]

/-- Links: whom each of n places leads to, and who leads to it. -/
def LinksAt (w : World) (base : Nat) (vn vb : Value) (n : Nat) (es : List Edg) (fp : List Nat) : Prop :=
  ∃ f1 f2, NetR w base vn (nxOf n es) f1 ∧ NetR w base vb (nxOf n (swapE es)) f2 ∧ (∀ k ∈ f1, k ∉ f2) ∧ (∀ k, k ∈ fp ↔ k ∈ f1 ∨ k ∈ f2)
theorem LinksAt.off {w w' : World} {base : Nat} {vn vb : Value} {n : Nat} {es : List Edg} {fp S : List Nat} (h : LinksAt w base vn vb n es fp) (hO : Only S w w') (hS : ∀ k ∈ fp, k ∉ S) : LinksAt w' base vn vb n es fp := by
  obtain ⟨f1, f2, h1, h2, h3, h4⟩ := h
  exact ⟨f1, f2, h1.off hO (fun k hk => hS k ((h4 k).2 (.inl hk))), h2.off hO (fun k hk => hS k ((h4 k).2 (.inr hk))), h3, h4⟩
theorem LinksAt.lt {w : World} {base : Nat} {vn vb : Value} {n : Nat} {es : List Edg} {fp : List Nat} (h : LinksAt w base vn vb n es fp) : ∀ k ∈ fp, base ≤ k ∧ k < w.heap.size := by
  obtain ⟨f1, f2, ⟨_, -, -, h1, -⟩, ⟨_, -, -, h2, -⟩, h3, h4⟩ := h
  intro k hk
  rcases (h4 k).1 hk with hk | hk
  · exact h1 k hk
  · exact h2 k hk

end Go.Proofs.Ytgkddbpfjbgelaa
