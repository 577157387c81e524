/-
  parts of the package graph: the two passes.
-/
import Derived.Test.YtgkddbpfjbgelaaGrG
import Derived.Sort.LoopGhostIn
import Derived.Sort.CutIn
namespace Go.Proofs.Ytgkddbpfjbgelaa
set_option maxRecDepth 100000
set_option linter.unusedVariables false
open Go.RowKit Go.Shelf

attribute [local go_sem] Oper.semAt_some

/-- What parts answers: rows of places, all of it new memory. -/
def PartsTo (w : World) (n : Nat) (es : List Edg) (r : Ending) (w' : World) : Prop :=
  ∃ v cs, r = .returned v ∧ w'.ownsRow w.heap.size 22 1 v (partsF n (Same (nxF (nxOf n es)))).length cs ∧
    (∀ (i : Nat) (p : List Nat), (partsF n (Same (nxF (nxOf n es))))[i]? = some p → ∃ u, cs[i]? = some u ∧ RowI w' w.heap.size u p) ∧ Only [] w w'

theorem make_bools (n : Nat) (hn : n ≤ 100000) (W : World) : (Instr.makeSlice 54 (.int .i64 n) (.int .i64 n)).run Try.prog W = .ok (.slice (some ⟨W.heap.size, 0, none⟩) n n) (W.alloc (.cells (bools (fun _ => false) n) 4)) := by
  have hinf : (Try.prog.info? 4).map (fun i => (i.zero, i.size, i.bytes)) = some (some (.bool false), 1, 1) := by kernel_rfl
  obtain ⟨i0, hi, hz0, hz1, hz2⟩ := info_parts hinf
  have hm := run_make (P := Try.prog) W 54 4 i0 (.bool false) Try.underlying54 hi hz0 .i64 .i64 n n (by omega) (Int.le_refl _) (by rw [hz2]; omega) (by omega)
  rw [hz1, Nat.mul_one] at hm
  have e : madeCells (Value.bool false).cells n = bools (fun _ => false) n := by
    apply Array.ext'
    rw [show (madeCells (Value.bool false).cells n).toList = List.replicate n (.bool false) from toList_madeCells_one _ _]
    apply List.ext_getElem?
    intro i
    by_cases hi : i < n
    · simp [bools, hi]
    · simp [bools, hi]
  simpa [e] using hm

theorem setCells_blk : ∀ (vs : List Value) (o : Nat) (w : World) (b : Nat) (cs : Array Value) (t : TypeId), IsBlk w b (.cells cs t) → ∃ cs' : Array Value, IsBlk (w.setCells b o vs) b (.cells cs' t) ∧ cs'.size = cs.size ∧ ∀ j, cs'[j]? = if o ≤ j ∧ j < o + vs.length ∧ j < cs.size then vs[j - o]? else cs[j]?
  | [], o, w, b, cs, t, h => ⟨cs, h, rfl, fun j => by rw [if_neg (by simp; omega)]⟩
  | v :: r, o, w, b, cs, t, h => by
    obtain ⟨cs', h1, h2, h3⟩ := setCells_blk r (o + 1) (w.setCell ⟨b, o, none⟩ v) b (cs.setIfInBounds o v) t (h.put o v)
    refine ⟨cs', h1, by simpa using h2, fun j => ?_⟩
    rw [h3 j]
    simp only [Array.size_setIfInBounds, List.length_cons]
    by_cases hj : o + 1 ≤ j ∧ j < o + 1 + r.length ∧ j < cs.size
    · rw [if_pos hj, if_pos (by omega), show j - o = (j - (o + 1)) + 1 by omega, List.getElem?_cons_succ]
    · rw [if_neg hj, Array.getElem?_setIfInBounds]
      by_cases hjo : o = j
      · subst hjo
        by_cases hs : o < cs.size
        · rw [if_pos rfl, if_pos hs, if_pos (by omega), Nat.sub_self]; rfl
        · rw [if_pos rfl, if_neg hs, if_neg (by omega), Array.getElem?_eq_none (by omega)]
      · rw [if_neg hjo, if_neg (by omega)]
theorem bools_clear {w : World} {g n : Nat} {bn : Nat → Bool} (h : BnAt w g n bn) : BnAt (w.setCells g 0 (List.replicate n (.bool false))) g n (fun _ => false) := by
  obtain ⟨cs', h1, h2, h3⟩ := setCells_blk (List.replicate n (.bool false)) 0 w g _ _ h
  have e : cs' = bools (fun _ => false) n := by
    apply Array.ext_getElem?
    intro j
    rw [h3 j]
    rw [bools_size] at *
    by_cases hj : j < n
    · rw [if_pos (by simp [hj]), bools_get _ hj]; simp [hj]
    · rw [if_neg (by simp [hj]), Array.getElem?_eq_none (by rw [bools_size]; omega), Array.getElem?_eq_none (by rw [bools_size]; omega)]
  rw [e] at h1
  exact h1

theorem clear_bools {w : World} {g n : Nat} {bn : Nat → Bool} (h : BnAt w g n bn) (ty : TypeId) : (Builtin.clear_ #[54] ty #[.slice (some ⟨g, 0, none⟩) n n]).run Try.prog w = .ok (.tuple #[]) (w.setCells g 0 (List.replicate n (.bool false))) := by
  by_cases h0 : n = 0
  · subst h0
    simp [Builtin.clear_, run_underlying Try.underlying54, World.setCells]
  · have hz : ∀ w, (zeroValue 4).run Try.prog w = .ok (.bool false) w := fun w => Try.zeroValue4 w
    refine Lib.run_clear_slice w 54 4 ty (.bool false) Try.underlying54 hz rfl rfl g 0 n n (by omega) (fun j hj => ?_) (fun j hj => ?_)
    · rw [Nat.zero_add, h.cell hj]; rfl
    · rw [Nat.zero_add]; exact IsBlk.notFrozen h j

/-- What the first pass holds: where one has been, and who was left, in order. -/
structure P1 (wr : World) (B gb q n : Nat) (nx : Nat → List Nat) (bn : Nat → Bool) (lf : List Nat) (v : Value) : Prop where
  bn_ : BnAt wr gb n bn
  q_ : IsBlk wr q (.cells #[v] 22)
  row : RowI wr B v lf
  pass : Pass nx lf
  iff : ∀ i, bn i = true ↔ i ∈ lf
  lt : ∀ i ∈ lf, i < n

theorem nx_mem {n : Nat} {es : List Edg} (hes : ∀ e ∈ es, e.1 < n ∧ e.2 < n) (a b : Nat) : b ∈ nxF (nxOf n es) a ↔ (a, b) ∈ es := by
  by_cases ha : a < n
  · have := nxF_get (rows := nxOf n es) (a := a) (by rw [nxOf_len]; exact ha)
    rw [nxOf_get n es ha] at this
    injection this with this
    rw [← this, List.mem_map]
    constructor
    · rintro ⟨e, he, rfl⟩
      have h1 := List.mem_filter.1 he
      have h2 : e.1 = a := by simpa using h1.2
      rw [← h2]
      exact h1.1
    · intro h
      exact ⟨(a, b), List.mem_filter.2 ⟨h, by simp⟩, rfl⟩
  · constructor
    · intro hb
      unfold nxF at hb
      rw [List.getD_eq_getElem?_getD, List.getElem?_eq_none (by rw [nxOf_len]; omega)] at hb
      simp at hb
    · intro h
      exact absurd (hes _ h).1 ha
theorem nx_len {n : Nat} {es : List Edg} (hlen : es.length ≤ 100000) (a : Nat) : (nxF (nxOf n es) a).length ≤ 100000 := by
  by_cases ha : a < n
  · have := nxF_get (rows := nxOf n es) (a := a) (by rw [nxOf_len]; exact ha)
    rw [nxOf_get n es ha] at this
    injection this with this
    rw [← this, List.length_map]
    exact Nat.le_trans (List.length_filter_le _ _) hlen
  · unfold nxF
    rw [List.getD_eq_getElem?_getD, List.getElem?_eq_none (by rw [nxOf_len]; omega)]
    simp
theorem swap_in {n : Nat} {es : List Edg} (hes : ∀ e ∈ es, e.1 < n ∧ e.2 < n) : ∀ e ∈ swapE es, e.1 < n ∧ e.2 < n := by
  intro e he
  obtain ⟨x, hx, rfl⟩ := List.mem_map.1 he
  exact ⟨(hes x hx).2, (hes x hx).1⟩
theorem swap_mem {es : List Edg} (a b : Nat) : (a, b) ∈ swapE es ↔ (b, a) ∈ es := by
  unfold swapE
  rw [List.mem_map]
  constructor
  · rintro ⟨⟨c, d⟩, hx, h⟩
    simp only [Prod.mk.injEq] at h
    rw [← h.1, ← h.2]
    exact hx
  · intro h; exact ⟨(b, a), h, rfl⟩
/-- What is next on the way back. -/
theorem back_next {n : Nat} {lf : List Nat} {zs pre : List {x : Nat × Nat // x.2 < n}} {x : {x : Nat × Nat // x.2 < n}} (hzs : zs.map Subtype.val = backL lf) (h : pre ++ [x] <+: zs) : pre <+: zs ∧ pre.length + 1 ≤ lf.length ∧ lf[lf.length - (pre.length + 1)]? = some x.1.2 := by
  obtain ⟨t, ht⟩ := h
  have hz : zs[pre.length]? = some x := by rw [← ht]; simp
  have hl : zs.length = lf.length := by rw [← backL_len lf, ← hzs, List.length_map]
  have hlt : pre.length < lf.length := by rw [← hl]; exact (List.getElem?_eq_some_iff.1 hz).1
  have h1 := backL_get lf hlt
  rw [← hzs, List.getElem?_map, hz] at h1
  have h2 : x.1 = (lf.length - 1 - pre.length, lf.getD (lf.length - 1 - pre.length) 0) := by injection h1
  refine ⟨⟨[x] ++ t, by rw [← ht]; simp⟩, hlt, ?_⟩
  rw [h2, show lf.length - (pre.length + 1) = lf.length - 1 - pre.length by omega]
  simp only
  rw [List.getD_eq_getElem?_getD, List.getElem?_eq_getElem (by omega)]
  rfl

/-! ### The second pass -/
theorem blk_grown {W W' : World} {row : Option Nat} {b : Nat} {cs : Array Value} {t : TypeId} (h : IsBlk W b (.cells cs t)) (hg : W.grownBy W' row) (hr : ∀ r, row = some r → ∃ o : Obj, W.heap[r]? = some o ∧ o.isCells = false) : IsBlk W' b (.cells cs t) :=
  (hg.block b h.lt (fun e => by
    obtain ⟨o, ho, hc⟩ := hr b e.symm
    rw [show W.heap[b]? = _ from h] at ho
    injection ho with ho
    subst ho
    cases hc)).trans h
theorem owns_grown {W W' : World} {row : Option Nat} {base s n : Nat} {e : TypeId} {v : Value} {xs : List Value} (h : W.ownsRow base e s v n xs) (hg : W.grownBy W' row) (hr : ∀ r, row = some r → ∃ o : Obj, W.heap[r]? = some o ∧ o.isCells = false) : W'.ownsRow base e s v n xs := by
  refine ⟨h.1, ?_⟩
  rcases h.2 with hn | ⟨g, cap, cur, rfl, hb, hgg, rest⟩
  · exact .inl hn
  · exact .inr ⟨g, cap, cur, rfl, hb, blk_grown (t := e) hgg hg hr, rest⟩
theorem row_types {W : World} {B B' n : Nat} {u v : Value} {l : List Nat} {xs : List Value} (h : RowI W B u l) (k : W.ownsRow B' 22 1 v n xs) : ∀ b, u.ownBlock = some b → v.ownBlock ≠ some b := by
  intro b hb hb'
  rcases h.2 with ⟨rfl, _⟩ | ⟨g, cap, cur, rfl, -, hg, -⟩
  · cases hb
  · rcases k.2 with ⟨rfl, _⟩ | ⟨g', cap', cur', rfl, -, hg', -⟩
    · cases hb'
    · simp only [Value.ownBlock, Option.some.injEq] at hb hb'
      subst hb
      subst hb'
      rw [hg] at hg'
      injection hg' with hg'
      injection hg' with _ h2
      revert h2
      decide

structure P2 (W : World) (B gb p6 n : Nat) (bn : Nat → Bool) (ps : List (Value × List Nat)) (v6 : Value) (len : Nat) : Prop where
  bn_ : BnAt W gb n bn
  b6 : IsBlk W p6 (.cells #[v6] 63)
  row : W.ownsRow B 22 1 v6 ps.length (ps.map (·.1))
  each : ∀ p ∈ ps, RowI W B p.1 p.2
  few : ps.length ≤ len
theorem P2.grown {W W' : World} {B gb p6 n len : Nat} {bn : Nat → Bool} {ps : List (Value × List Nat)} {v6 : Value} {row : Option Nat} (h : P2 W B gb p6 n bn ps v6 len) (hg : W.grownBy W' row) (hr : ∀ r, row = some r → ∃ o : Obj, W.heap[r]? = some o ∧ o.isCells = false) : P2 W' B gb p6 n bn ps v6 len :=
  ⟨blk_grown h.bn_ hg hr, blk_grown h.b6 hg hr, owns_grown h.row hg hr, fun p hp => owns_grown (h.each p hp) hg hr, h.few⟩

/-- What holds at each round of the second pass. -/
def I2 (w1 : World) (B gb q p6 n : Nat) (nx : Nat → List Nat) (lf : List Nat) (zs : List {x : Nat × Nat // x.2 < n}) (pre : List {x : Nat × Nat // x.2 < n}) (W : World) : Prop :=
  (∃ bn ps v6, P2 W B gb p6 n bn ps v6 pre.length ∧ (pre <+: zs → Pass2 nx lf (lf.length - pre.length) bn (ps.map (·.2)) ∧ ∀ p ∈ ps, p.2.Pairwise (· < ·))) ∧ B ≤ W.heap.size ∧ Only [gb, q] w1 W
theorem I2.own {w1 : World} {B gb q p6 n C : Nat} {nx : Nat → List Nat} {lf : List Nat} {zs : List {x : Nat × Nat // x.2 < n}} (hC : w1.heap.size ≤ C) : OwnFrom C (I2 w1 B gb q p6 n nx lf zs) := by
  intro pre W W' row ⟨⟨bn, ps, v6, h1, h2⟩, hB, h3⟩ hg hr
  refine ⟨⟨bn, ps, v6, h1.grown hg (fun r e => (hr r e).2), h2⟩, Nat.le_trans hB hg.size, ?_⟩
  refine ⟨hg.os.trans h3.os, hg.tape.trans h3.tape, hg.output.trans h3.output, Nat.le_trans h3.size hg.size, fun k hk hn => ?_⟩
  rw [← h3.block k hk hn]
  exact hg.block k (Nat.lt_of_lt_of_le hk h3.size) (fun e => by have := (hr k e.symm).1; omega)

set_option maxHeartbeats 16000000 in
theorem parts_any (w : World) (base n : Nat) (vn vb : Value) (es : List Edg) (fp : List Nat) (h : LinksAt w base vn vb n es fp) (hes : ∀ e ∈ es, e.1 < n ∧ e.2 < n) (hn : n ≤ 12) (hlen : es.length ≤ 100000) :
    Calls Try.prog 31 #[.agg #[vn, vb]] w (PartsTo w n es) := by
  refine (callsIn_wide (n := 8)).1 ?_
  have hro : Fence.wide.round = none := rfl
  obtain ⟨f1, f2, h1, h2, h3, h4⟩ := h
  obtain ⟨a1, c1, rfl, hc1⟩ : ∃ a c, vn = .slice a n c ∧ n ≤ c := by
    obtain ⟨cs, h, -⟩ := h1
    rcases h.2 with ⟨e1, e2⟩ | ⟨g, cap, cur, e1, -, -, hc, -⟩
    · rw [nxOf_len] at e2; subst e2; exact ⟨none, 0, e1, Nat.le_refl _⟩
    · rw [nxOf_len] at e1 hc; exact ⟨_, cap, e1, hc⟩
  have hmk := make_bools n (by omega)
  refine callsIn_of_wp_marks Try.func31 rfl trivial ?_ hro
  simp only [Try.ntmps31, List.size_toArray, List.length_cons, List.length_nil, Nat.reduceAdd, Nat.reduceSub, Array.replicate_succ, Array.replicate_zero, List.push_toArray, List.append_toArray, List.nil_append, List.cons_append]
  gi_wp2
  have hW : ∀ W, ((((w.alloc (Obj.cells #[Value.slice a1 n c1, vb] 65)).alloc (Obj.cells (bools (fun x => false) n) 4)).alloc (Obj.cells #[Value.slice (some { block := w.heap.size + 1, off := 0 }) n n] 54)).alloc (Obj.cells #[Value.slice none 0 0] 22)) = W →
      IsBlk W w.heap.size (.cells #[Value.slice a1 n c1, vb] 65) ∧ BnAt W (w.heap.size + 1) n (fun _ => false) ∧ IsBlk W (w.heap.size + 1 + 1) (.cells #[Value.slice (some { block := w.heap.size + 1, off := 0 }) n n] 54) ∧ IsBlk W (w.heap.size + 1 + 1 + 1) (.cells #[Value.slice none 0 0] 22) ∧ Only [] w W ∧ W.heap.size = w.heap.size + 4 := by
    intro W hW
    subst hW
    refine ⟨(((IsBlk.made w _).alloc _).alloc _).alloc _, ?_, ?_, ?_, ((((Only.refl [] w).alloc _).alloc _).alloc _).alloc _, by simp⟩
    · have := ((IsBlk.made (w.alloc (Obj.cells #[Value.slice a1 n c1, vb] 65)) (Obj.cells (bools (fun x => false) n) 4)).alloc (Obj.cells #[Value.slice (some { block := w.heap.size + 1, off := 0 }) n n] 54)).alloc (Obj.cells #[Value.slice none 0 0] 22)
      simpa [BnAt] using this
    · have := (IsBlk.made ((w.alloc (Obj.cells #[Value.slice a1 n c1, vb] 65)).alloc (Obj.cells (bools (fun x => false) n) 4)) (Obj.cells #[Value.slice (some { block := w.heap.size + 1, off := 0 }) n n] 54)).alloc (Obj.cells #[Value.slice none 0 0] 22)
      simpa using this
    · have := IsBlk.made (((w.alloc (Obj.cells #[Value.slice a1 n c1, vb] 65)).alloc (Obj.cells (bools (fun x => false) n) 4)).alloc (Obj.cells #[Value.slice (some { block := w.heap.size + 1, off := 0 }) n n] 54)) (Obj.cells #[Value.slice none 0 0] 22)
      simpa using this
  generalize hW1 : ((((w.alloc (Obj.cells #[Value.slice a1 n c1, vb] 65)).alloc (Obj.cells (bools (fun x => false) n) 4)).alloc (Obj.cells #[Value.slice (some { block := w.heap.size + 1, off := 0 }) n n] 54)).alloc (Obj.cells #[Value.slice none 0 0] 22)) = w1
  obtain ⟨hbx, hgb, hb3, hq, hO1, hsz⟩ := hW w1 hW1
  clear hW hW1 hmk
  generalize hgb' : w.heap.size + 1 = gb at *
  generalize hb3' : gb + 1 = b3 at *
  generalize hq' : b3 + 1 = q at *
  generalize hbx' : w.heap.size = bx at *
  have Hbx := Lib.hid hbx
  have Hgb := Lib.hid hgb
  have Hb3 := Lib.hid hb3
  have Hq := Lib.hid hq
  have HO1 := Lib.hid hO1
  have Hsz : Hid ((w.heap.size ≤ bx ∧ bx ≤ w.heap.size) ∧ bx < gb ∧ gb < b3 ∧ b3 < q ∧ q < w1.heap.size) := Lib.hid (by omega)
  clear hbx hgb hb3 hq hO1 hsz hgb' hb3' hq' hbx'
  have hin1 : ∀ a b, b ∈ nxF (nxOf n es) a → b < n := fun a b hb => (hes _ ((nx_mem hes a b).1 hb)).2
  have hrl1 : ∀ a, (nxF (nxOf n es) a).length ≤ 100000 := nx_len hlen
  have hin2 : ∀ a b, b ∈ nxF (nxOf n (swapE es)) a → b < n := fun a b hb => (swap_in hes _ ((nx_mem (swap_in hes) a b).1 hb)).2
  have hrl2 : ∀ a, (nxF (nxOf n (swapE es)) a).length ≤ 100000 := nx_len (by simpa [swapE] using hlen)
  have hbk : Hid (∀ a b, b ∈ nxF (nxOf n (swapE es)) a ↔ a ∈ nxF (nxOf n es) b) := Lib.hid (fun a b => by rw [nx_mem (swap_in hes), nx_mem hes, swap_mem])
  have hall1 : Hid (∀ a b, b ∈ nxF (nxOf n es) a → a < n) := Lib.hid (fun a b hb => (hes _ ((nx_mem hes a b).1 hb)).1)
  have infoR8' := info_parts infoR8
  have H1 := Lib.hid h1
  have H2 := Lib.hid h2
  have hf1 : ∀ k ∈ f1, k < bx := by obtain ⟨_, -, -, h, -⟩ := h1; obtain ⟨⟨e, e'⟩, -⟩ := Hsz.out; exact fun k hk => by have := (h k hk).2; omega
  have hf2 : ∀ k ∈ f2, k < bx := by obtain ⟨_, -, -, h, -⟩ := h2; obtain ⟨⟨e, e'⟩, -⟩ := Hsz.out; exact fun k hk => by have := (h k hk).2; omega
  clear h1 h2
  gi_loopw [16] (fun i wr => ∃ k : Nat, k ≤ n ∧ i = .int .i64 k ∧ ∃ bn lf v, P1 wr w1.heap.size gb q n (nxF (nxOf n es)) bn lf v ∧ (∀ j, j < k → bn j = true) ∧ Only [gb, q] w1 wr) (fun i _ => n - (intOf i).toNat)
  case atStart => exact ⟨0, Nat.zero_le _, rfl, _, [], _, ⟨Hgb.out, Hq.out, RowI.nil _ _, Pass.nil _, by simp, by simp⟩, by simp, Only.refl _ _⟩
  case round =>
    obtain ⟨k, hk, rfl, bn, lf, v, hP, hall, hOr⟩ := hrel
    obtain ⟨⟨e0, e0'⟩, e1, e2, e3, e4⟩ := Hsz.out
    have HP := Lib.hid hP
    have Hall := Lib.hid hall
    have HOr := Lib.hid hOr
    have hb3r := Hb3.out.only hOr (by simp; omega)
    have hbxr := Hbx.out.only hOr (by simp; omega)
    have c3 := hb3r.cell 0
    have cx0 := hbxr.cell 0
    have cx1 := hbxr.cell 1
    have lt3 := hb3r.lt
    have ltx := hbxr.lt
    clear hP hall hOr hb3r hbxr
    by_cases hlt : k < n
    · have hki : (k : Int) < (n : Int) := by omega
      have hk0 : (0 : Int) ≤ (k : Int) := by omega
      have cg := HP.out.bn_.cell hlt
      cases hbn : bn k with
      | true =>
        rw [hbn] at cg
        have Hbn := Lib.hid hbn
        clear hbn
        gi_wp2
        go_roundw
        case rel =>
          exact ⟨k + 1, by omega, by go_num, bn, lf, v, HP.out, fun j hj => by by_cases h : j = k; exact h ▸ Hbn.out; exact Hall.out j (by omega), HOr.out⟩
        case measure => simp [intOf]; omega
      | false =>
        rw [hbn] at cg
        have Hbn := Lib.hid hbn
        clear hbn
        gi_wp2_with fail
        have hvb : ∀ b, v.ownBlock = some b → w1.heap.size ≤ b := fun b hb => (World.ownsRow.lt HP.out.row b hb).1
        have hlfn : lf.length ≤ n := nodup_few n lf HP.out.pass.nod HP.out.lt
        refine ⟨trivial, ((callsIn_wide).2 (tour_any 48 (enters_of Try.func48 (by kernel_rfl) rfl) note1_any wr base w1.heap.size n gb q k _ (nxOf n es) f1 bn v lf ((H1.out.more HO1.out).off HOr.out (fun i hi hm => by
          have := hf1 i hi
          simp at hm; omega)) (nxOf_len n es) hin1 hrl1 hlt (by omega) HP.out.bn_ Hbn.out HP.out.q_ HP.out.row (by omega) HOr.out.size (by omega)
          (fun b hb => by have := hvb b hb; exact ⟨by omega, by omega, fun hm => by have := hf1 b hm; omega⟩) (fun hm => by have := hf1 gb hm; omega) (fun hm => by have := hf1 q hm; omega))).mono ?_⟩
        rintro e w2 ⟨rfl, bn2, lf2, v2, hT2, hB2, hQ2, hR2, hO2, -⟩
        have HT2 := Lib.hid hT2
        have HB2 := Lib.hid hB2
        have HQ2 := Lib.hid hQ2
        have HR2 := Lib.hid hR2
        have HO2 : Hid (Only [gb, q] w1 w2) := Lib.hid (HOr.out.then hO2 _ (fun i hi => .inl hi) (fun i hi => by
          simp only [List.mem_cons] at hi
          rcases hi with h | h | h
          · exact .inl (by simp [h])
          · exact .inl (by simp [h])
          · exact .inr (hvb i (mem_ownL.1 h))))
        clear hT2 hB2 hQ2 hR2 hO2
        gi_wp2
        go_roundw
        case rel =>
          obtain ⟨h5, h6⟩ := HP.out.pass.more HP.out.iff HT2.out
          refine ⟨k + 1, by omega, by go_num, bn2, lf ++ lf2, v2, ⟨HB2.out, HQ2.out, HR2.out, h5, h6, fun i hi => ?_⟩, fun j hj => ?_, HO2.out⟩
          · rcases List.mem_append.1 hi with hi | hi
            · exact HP.out.lt i hi
            · exact Rch.inside hin1 (HT2.out.rch i hi) hlt
          · by_cases h : j = k
            · subst h; exact (h6 j).2 (List.mem_append_right _ HT2.out.fst)
            · exact (HT2.out.been j).2 (.inl (Hall.out j (by omega)))
        case measure => simp [intOf]; omega
    · obtain rfl : k = n := by omega
      have hki : ¬ (k : Int) < (k : Int) := by omega
      have hcl := clear_bools HP.out.bn_
      have hlf : ∀ i, i ∈ lf ↔ i < k := fun i => ⟨HP.out.lt i, fun h => (HP.out.iff i).1 (Hall.out i h)⟩
      have Hlf := Lib.hid hlf
      have hq0 := HP.out.q_.cell 0
      clear hlf
      gi_upto_region 10 with fail
      have hBc := bools_clear HP.out.bn_
      have hOc : Only [gb] wr (wr.setCells gb 0 (List.replicate k (.bool false))) := (Only.refl _ _).setCells gb 0 _ (.inl (by simp))
      generalize hwc : wr.setCells gb 0 (List.replicate k (.bool false)) = wc at *
      have hQc := HP.out.q_.only hOc (by simp; omega)
      have hRc := HP.out.row.off hOc (fun b hb hm => by have := (World.ownsRow.lt HP.out.row b hb).1; simp at hm; omega)
      have HBc := Lib.hid hBc
      have HQc := Lib.hid hQc
      have HRc := Lib.hid hRc
      have HOc : Hid (Only [gb, q] w1 wc) := Lib.hid (HOr.out.then hOc _ (fun i hi => .inl hi) (fun i hi => .inl (by simp at hi; simp [hi])))
      have Hps := Lib.hid HP.out.pass
      have hqc := hQc.cell 0
      have hqlt := hQc.lt
      clear hcl hwc hBc hQc hRc hOc HP hq0 c3 cx0 cx1 lt3 ltx
      gi_upto_region 11 with fail
      have hO6 : Only [] wc (wc.alloc (Obj.cells #[Value.slice none 0 0] 63)) := (Only.refl _ _).alloc _
      have hB6 := IsBlk.made wc (Obj.cells #[Value.slice none 0 0] 63)
      generalize hw6 : wc.alloc (Obj.cells #[Value.slice none 0 0] 63) = w6 at *
      have hq6 : q < wc.heap.size ∧ w1.heap.size ≤ wc.heap.size ∧ wc.heap.size < w6.heap.size := ⟨hqlt, HOc.out.size, by rw [← hw6]; simp⟩
      generalize hp6 : wc.heap.size = p6 at *
      have hQ6 := HQc.out.only hO6 (by simp)
      have hR6 := HRc.out.off hO6 (by simp)
      have hB6' := IsBlk.only HBc.out hO6 (by simp)
      have HB6 := Lib.hid hB6
      have HO6 : Hid (Only [gb, q] w1 w6) := Lib.hid (HOc.out.plus hO6)
      have Hbn6 : Hid (BnAt w6 gb k (fun _ => false)) := Lib.hid hB6'
      have hqc6 := hQ6.cell 0
      have hqlt6 := hQ6.lt
      have hown6 : ∀ b, v.ownBlock = some b → w1.heap.size ≤ b ∧ b < p6 := fun b hb => by have := World.ownsRow.lt HRc.out b hb; omega
      obtain ⟨av, cv, rfl, hcv⟩ := hR6.slice
      have Hown6 := Lib.hid hown6
      clear hown6
      have hgl : ∀ (j x : Nat), lf[j]? = some x → ∃ g, av = some ⟨g, 0, none⟩ ∧ w1.heap.size ≤ g ∧ g < w6.heap.size ∧ w6.cell? ⟨g, j, none⟩ = some (iv x) := fun j x hx => by
        obtain ⟨g, c, e, h1, h2, h3⟩ := hR6.get hx
        injection e with e1 e2 e3
        exact ⟨g, e1, h1, h2, h3⟩
      have Hgl := Lib.hid hgl
      clear hgl hw6 hp6 hO6 hB6 hQ6 hB6' hqc hqlt HQc HRc HBc HOc
      gi_upto_region 12 with fail
      refine ⟨trivial, ((callsIn_wide).2 (backward_any _ w6 rfl)).mono ?_⟩
      rintro e w7 ⟨rfl, hw7⟩
      have hO7 : Only [] w6 w7 := by rw [hw7]; exact (Only.refl _ _).alloc _
      have hBs : IsBlk w7 w6.heap.size (.cells #[.slice av lf.length cv] 22) := by rw [hw7]; exact IsBlk.made w6 _
      have hsz7 : w7.heap.size = w6.heap.size + 1 := by rw [hw7]; simp
      have H7 : Hid (BnAt w7 gb k (fun _ => false) ∧ IsBlk w7 p6 (.cells #[.slice none 0 0] 63)) := Lib.hid ⟨IsBlk.only Hbn6.out hO7 (by simp), HB6.out.only hO7 (by simp)⟩
      have HO7 : Hid (Only [gb, q] w1 w7) := Lib.hid (HO6.out.plus hO7)
      have Hgl7 : Hid (∀ (j x : Nat), lf[j]? = some x → ∃ g, av = some ⟨g, 0, none⟩ ∧ w1.heap.size ≤ g ∧ g < w6.heap.size ∧ w7.cell? ⟨g, j, none⟩ = some (iv x)) := Lib.hid (fun j x hx => by
        obtain ⟨g, e1, h1, h2, h3⟩ := Hgl.out j x hx
        exact ⟨g, e1, h1, h2, (hO7.cell (p := ⟨g, j, none⟩) h2 (by simp)).trans h3⟩)
      have HBs := Lib.hid hBs
      have hlfl : lf.length ≤ k := nodup_few k lf Hps.out.nod (fun x hx => (Hlf.out x).1 hx)
      clear hw7 hO7 hBs Hbn6 HB6 HO6 Hgl
      generalize hs6 : w6.heap.size = B at *
      gi_wp2_with fail
      have HownL : Hid (∀ b ∈ ownL (.slice av lf.length cv), w1.heap.size ≤ b ∧ b < p6) := Lib.hid (fun b hb => Hown6.out b (mem_ownL.1 hb))
      obtain ⟨zs, hzs⟩ : ∃ zs : List {x : Nat × Nat // x.2 < k}, zs.map Subtype.val = backL lf := by
        refine ⟨(backL lf).pmap (fun x h => ⟨x, h⟩) (fun x hx => ?_), by rw [List.map_pmap]; simp⟩
        simp only [backL, List.mem_map, List.mem_range] at hx
        obtain ⟨j, hj, rfl⟩ := hx
        refine (Hlf.out _).1 ?_
        rw [List.getD_eq_getElem?_getD, List.getElem?_eq_getElem (by omega)]
        exact List.getElem_mem _
      have hzl : zs.length = lf.length := by rw [← backL_len lf, ← hzs, List.length_map]
      have Hzs := Lib.hid hzs
      have hwB : w1.heap.size ≤ B := by have := hq6.2.1; have := hq6.2.2; omega
      refine wpIn_rangeFunc_ownH hro (by decide) (gf := 66) (lb := #[.pointer (some ⟨B, 0, none⟩)]) rfl trivial (enters_of Try.func66 (by kernel_rfl) rfl)
        (backs_stops Subtype.val zs Fence.wide 7 trivial hro (by decide) B cv av lf (by omega) (B :: ownL (.slice av lf.length cv)) (by simp) hzs w7 (fun i hi => by
          rcases List.mem_cons.1 hi with h | h
          · omega
          · have := HownL.out i h; have := hq6.2.2; omega) (HBs.out.cell 0) (fun j v hv => by
          obtain ⟨g, e1, h1, h2, h3⟩ := Hgl7.out j v hv
          exact ⟨g, e1, List.mem_cons_of_mem _ (mem_ownL.2 (by rw [e1]; rfl)), h3⟩)) (fun h k => h.trans k)
        (fun W l o o' hl ho hc hw => ⟨by simp, fun i hi => World.putObj_heap_other (fun e => by
          rcases List.mem_cons.1 hi with h | h
          · omega
          · have := HownL.out i h; have := hq6.2.2; omega)⟩) (Below.refl _ _) (fun _ => rfl)
        (I2 w1 w7.heap.size gb q p6 k (nxF (nxOf k es)) lf zs) (fun _ _ _ => False) (I2.own (by omega)) (fun _ _ _ _ _ hs _ _ => hs)
        ⟨⟨_, [], _, ⟨H7.out.1, H7.out.2, World.ownsRow_nil _ _ _ _, by simp, by simp⟩, fun _ => ⟨by simpa using Pass2.begin (nxF (nxOf k es)) lf, by simp⟩⟩, Nat.le_refl _, HO7.out⟩
        (fun x a' W => a' = { tmps := #[.agg #[.slice a1 k c1, vb], .pointer (some ⟨bx, 0, none⟩), .slice none 0 0, .pointer (some ⟨b3, 0, none⟩), .pointer (some ⟨q, 0, none⟩), u5, .pointer (some ⟨p6, 0, none⟩), undef, iv x.1.2, undef, .pointer (some ⟨bx, 0, none⟩), .slice a1 k c1, .int .i64 k, .slice (some ⟨gb, 0, none⟩) k k, .slice (some ⟨gb, 0, none⟩) k k, .int .i64 k, .int .i64 k, .bool false, u18, u19, u20, u21, u22, u23, u24, u25, u26, u27, u28, u29, u30, .slice (some ⟨gb, 0, none⟩) k k, .slice av lf.length cv, .func (.func 66) #[] #[.pointer (some ⟨B, 0, none⟩)], iv x.1.1, iv x.1.2, undef, undef, undef, undef, undef, undef, undef, undef, undef, undef, undef, undef, undef, undef, undef, undef, undef, undef, undef], defers := [] }) (fun x a' => ownFrom_pure _ _) ?assign ?body ?done ?stop
      case assign =>
        rintro l pre x W K hI hK
        have hkeep := hK ({ tmps := #[.agg #[.slice a1 k c1, vb], .pointer (some ⟨bx, 0, none⟩), .slice none 0 0, .pointer (some ⟨b3, 0, none⟩), .pointer (some ⟨q, 0, none⟩), u5, .pointer (some ⟨p6, 0, none⟩), undef, iv x.1.2, undef, .pointer (some ⟨bx, 0, none⟩), .slice a1 k c1, .int .i64 k, .slice (some ⟨gb, 0, none⟩) k k, .slice (some ⟨gb, 0, none⟩) k k, .int .i64 k, .int .i64 k, .bool false, u18, u19, u20, u21, u22, u23, u24, u25, u26, u27, u28, u29, u30, .slice (some ⟨gb, 0, none⟩) k k, .slice av lf.length cv, .func (.func 66) #[] #[.pointer (some ⟨B, 0, none⟩)], iv x.1.1, iv x.1.2, undef, undef, undef, undef, undef, undef, undef, undef, undef, undef, undef, undef, undef, undef, undef, undef, undef, undef, undef], defers := [] }) W ((KeepsOthers.refl _).from _) (KpS.refl _ _) hI rfl
        unfold iv at *
        gi_wp2
        exact hkeep
      case body =>
        rintro l pre ⟨⟨ix, y⟩, hy⟩ a' W hl hlr ⟨⟨bn, ps, v6, hP, hps⟩, h7W, hOr⟩ rfl hlt
        have HP := Lib.hid hP
        have Hps2 := Lib.hid hps
        have HOr := Lib.hid hOr
        have c3 := (Hb3.out.only hOr (by simp; omega)).cell 0
        have cx0 := (Hbx.out.only hOr (by simp; omega)).cell 0
        have cx1 := (Hbx.out.only hOr (by simp; omega)).cell 1
        have lt3 := (Hb3.out.only hOr (by simp; omega)).lt
        have ltx := (Hbx.out.only hOr (by simp; omega)).lt
        have cg := hP.bn_.cell (show y < k from hy)
        have hyk : y < k := hy
        have hyi : (y : Int) < (k : Int) := by omega
        have hy0 : (0 : Int) ≤ (y : Int) := by omega
        clear hP hps hOr
        unfold iv
        simp only at cg ⊢
        cases hbn : bn y with
        | true =>
          rw [hbn] at cg
          have Hbn := Lib.hid hbn
          clear hbn
          gi_wp2
          refine ⟨KeepsFrom.refl _ _, KpS.refl _ _, ⟨bn, ps, v6, ⟨HP.out.bn_, HP.out.b6, HP.out.row, HP.out.each, by have := HP.out.few; rw [List.length_append]; simp; omega⟩, fun hpre => ?_⟩, h7W, HOr.out⟩
          obtain ⟨h5, h6, h7⟩ := back_next Hzs.out hpre
          obtain ⟨h8, h9⟩ := Hps2.out h5
          refine ⟨?_, h9⟩
          rw [List.length_append, List.length_singleton]
          rw [show lf.length - pre.length = lf.length - (pre.length + 1) + 1 by omega] at h8
          exact h8.skip h7 Hbn.out
        | false =>
          rw [hbn] at cg
          have Hbn := Lib.hid hbn
          clear hbn
          gi_wp2_with fail
          have hO9 : Only [] W (W.alloc (Obj.cells #[Value.slice none 0 0] 22)) := (Only.refl _ _).alloc _
          have hQ9 := IsBlk.made W (Obj.cells #[Value.slice none 0 0] 22)
          have hs9 : (W.alloc (Obj.cells #[Value.slice none 0 0] 22)).heap.size = W.heap.size + 1 := by simp
          have hWs : w1.heap.size ≤ W.heap.size := HOr.out.size
          generalize hw9 : W.alloc (Obj.cells #[Value.slice none 0 0] 22) = W9 at *
          clear hw9
          have HO9 := Lib.hid hO9
          have HQ9 := Lib.hid hQ9
          have hv6 : ∀ b, v6.ownBlock = some b → w7.heap.size ≤ b ∧ b < W.heap.size := fun b hb => World.ownsRow.lt HP.out.row b hb
          have hpb : ∀ p ∈ ps, ∀ b, p.1.ownBlock = some b → w7.heap.size ≤ b ∧ b < W.heap.size := fun p hp b hb => World.ownsRow.lt (HP.out.each p hp) b hb
          clear hO9 hQ9
          refine ⟨trivial, ((CallsIn.inRound l ((callsIn_wide).2 (tour_any 50 (enters_of Try.func50 (by kernel_rfl) rfl) note2_any W9 base W9.heap.size k gb W.heap.size y _ (nxOf k (swapE es)) f2 bn (.slice none 0 0) [] (((H2.out.more HO1.out).off HOr.out (fun i hi hm => by
            have := hf2 i hi
            simp at hm; omega)).more HO9.out) (nxOf_len k (swapE es)) hin2 hrl2 hyk (by omega) (IsBlk.only HP.out.bn_ HO9.out (by simp)) Hbn.out HQ9.out (RowI.nil _ _) (by simp) (Nat.le_refl _) (by omega)
            (fun b hb => by cases hb) (fun hm => by have := hf2 gb hm; omega) (fun hm => by have := hf2 _ hm; omega))))).mono ?_⟩
          rintro e w2 ⟨rfl, bn2, lf2, v2, hT2, hB2, hQ2, hR2, hO2, -⟩
          obtain ⟨av2, cv2, ev2, -⟩ := hR2.slice
          rw [List.nil_append] at ev2
          subst ev2
          have hO2' : Only [gb, W.heap.size] W9 w2 := hO2.into (fun i hi => .inl (by simp [ownL, Value.ownBlock] at hi; simp [hi]))
          have hlf2 : lf2.length ≤ k := nodup_few k lf2 hT2.nod (fun i hi => Rch.inside hin2 (hT2.rch i hi) hyk)
          have hv2 : ∀ b, (Value.slice av2 lf2.length cv2).ownBlock = some b → W9.heap.size ≤ b := fun b hb => (World.ownsRow.lt hR2 b hb).1
          have HT2 := Lib.hid hT2
          have HB2 := Lib.hid hB2
          have HQ2 := Lib.hid hQ2
          have HR2 : Hid (RowI w2 W9.heap.size (.slice av2 lf2.length cv2) lf2) := Lib.hid (by simpa using hR2)
          have HO2 := Lib.hid hO2'
          have c9 := hQ2.cell 0
          have l9 := hQ2.lt
          clear hT2 hB2 hQ2 hR2 hO2 hO2'
          gi_wp2_with fail
          refine ⟨trivial, ((CallsIn.inRound l ((callsIn_wide).2 (sortI_any w2 W9.heap.size _ lf2 HR2.out (by omega))))).mono ?_⟩
          rintro e w3 ⟨rfl, hR3, hO3⟩
          have hq9v : W.heap.size ∉ ownL (.slice av2 lf2.length cv2) := fun hm => by have := hv2 _ (mem_ownL.1 hm); omega
          have hp6s : p6 < w7.heap.size := by have := hq6.2.2; omega
          have HO3 : Hid (Only [gb] W w3) := Lib.hid ((HO9.out.then HO2.out [gb] (by simp) (fun i hi => by
            simp at hi
            rcases hi with h | h
            · exact .inl (by simp [h])
            · exact .inr (by omega))).then hO3 [gb] (fun i hi => .inl hi) (fun i hi => .inr (by have := hv2 i (mem_ownL.1 hi); omega)))
          have HR3 := Lib.hid hR3
          have hQ3 := HQ2.out.only hO3 hq9v
          have c93 := hQ3.cell 0
          have l93 := hQ3.lt
          have hgb7 : gb < w7.heap.size := by have := hq6.2.2; have := hq6.2.1; omega
          have HB3 : Hid (BnAt w3 gb k bn2) := Lib.hid (IsBlk.only HB2.out hO3 (fun hm => by have := hv2 gb (mem_ownL.1 hm); omega))
          have hB63 := HP.out.b6.only HO3.out (by simp; intro e; omega)
          have c63 := hB63.cell 0
          have l63 := hB63.lt
          have hrow3 := owns_off HP.out.row HO3.out (fun b hb hm => by have := hv6 b hb; simp at hm; omega)
          have Hrow3 := Lib.hid hrow3
          have HB63 := Lib.hid hB63
          have Heach3 : Hid (∀ p ∈ ps, RowI w3 w7.heap.size p.1 p.2) := Lib.hid (fun p hp => (HP.out.each p hp).off HO3.out (fun b hb hm => by have := hpb p hp b hb; simp at hm; omega))
          have h73 : w7.heap.size ≤ w3.heap.size := by have := HO3.out.size; omega
          have hfewl : ps.length ≤ 1000000 := by have := HP.out.few; omega
          clear c9 l9 hO3 hR3 hQ3 hB63 hrow3 c3 cx0 cx1 lt3 ltx cg
          obtain ⟨i0, hi, hz0, hz1, hz2⟩ := infoR8'
          have hOl : Only [] w3 (w3.alloc (Obj.cells #[Value.slice av2 lf2.length cv2] 22)) := (Only.refl _ _).alloc _
          gi_wp2_with
           (gi_at_builtin
            refine wpListIn_append_own _ rfl _ _ 63 rfl w7.heap.size 22 i0 (.slice none 0 0) 1 24 Try.underlying63 hi hz0 hz1 hz2 rfl (by decide) v6 ps.length (ps.map (·.1)) rfl (owns_off Hrow3.out hOl (by simp)) ⟨w3.heap.size, 0, none⟩ 1 1 [.slice av2 lf2.length cv2] rfl rfl (fun j u hu => by
              rw [Addr.add_mid, Nat.zero_add, (IsBlk.made w3 (Obj.cells #[Value.slice av2 lf2.length cv2] 22)).cell j]
              simpa using hu) (by simp [Value.oneCell']) (by unfold maxLen; omega) (by omega) (by simp; omega) ?_
            intro v6' w4 hown4 hg4 _
            obtain ⟨g4, cap4, rfl⟩ := ownsRow_succ hown4
            have hO4 : Only (ownL v6) w3 w4 := hOl.then (grown_only hg4) _ (by simp) (fun i hi => .inl hi)
            have hB64 := HB63.out.only hO4 (fun hm => by have := hv6 p6 (mem_ownL.1 hm); omega)
            have c64 := hB64.cell 0
            have l64 := hB64.lt
            have z64 := hB64.notFrozen 0)
          have hOs : Only [p6] w4 (w4.setCell ⟨p6, 0, none⟩ (.slice (some ⟨g4, 0, none⟩) (ps.length + 1) cap4)) := (Only.refl _ _).setCell (.inl (by simp)) _
          have hB65 := hB64.put 0 (.slice (some ⟨g4, 0, none⟩) (ps.length + 1) cap4)
          have hg4' := (World.ownsRow.lt hown4 g4 rfl).1
          have HOT : Only (gb :: p6 :: ownL v6) W (w4.setCell ⟨p6, 0, none⟩ (.slice (some ⟨g4, 0, none⟩) (ps.length + 1) cap4)) := (HO3.out.then hO4 _ (fun i hi => .inl (by simp at hi; simp [hi])) (fun i hi => .inl (by simp [hi]))).then hOs _ (fun i hi => .inl hi) (fun i hi => .inl (by simp at hi; simp [hi]))
          have hSW : ∀ i ∈ B :: ownL (.slice av lf.length cv), w1.heap.size ≤ i ∧ i < w7.heap.size ∧ i ≠ p6 := fun i hi => by
            rcases List.mem_cons.1 hi with h | h
            · have := hq6.2.2; exact ⟨by omega, by omega, by omega⟩
            · have := HownL.out i h; exact ⟨by omega, by omega, by omega⟩
          refine ⟨⟨HOT.size, fun i o hi2 ho hoc => ?_⟩, KpS.only HOT (fun i hi2 => ⟨?_, ?_⟩), ⟨bn2, ps ++ [(.slice av2 lf2.length cv2, sortN lf2)], _, ⟨?_, by simpa using hB65, ?_, fun p hp => ?_, ?_⟩, fun hpre => ?_⟩, Nat.le_trans h7W HOT.size, ?_⟩
          · refine (HOT.block i (Array.getElem?_eq_some_iff.1 ho).1 (fun hm => ?_)).trans ho
            simp only [List.mem_cons] at hm
            rcases hm with h | h | h
            · omega
            · omega
            · have h5 := mem_ownL.1 h
              rcases HP.out.row.2 with ⟨rfl, _⟩ | ⟨g, cap, cur, rfl, -, hg, -⟩
              · cases h5
              · simp only [Value.ownBlock, Option.some.injEq] at h5
                subst h5
                rw [ho] at hg
                injection hg with hg
                subst hg
                cases hoc
          · have := hSW i hi2; omega
          · intro hm
            have h8 := hSW i hi2
            simp only [List.mem_cons] at hm
            rcases hm with h | h | h
            · omega
            · exact h8.2.2 h
            · have := hv6 i (mem_ownL.1 h); omega
          · exact IsBlk.only (IsBlk.only HB3.out hO4 (fun hm => by have := hv6 gb (mem_ownL.1 hm); omega)) hOs (by simp; have := hq6.2.1; omega)
          · rw [List.length_append, List.map_append]
            exact owns_off hown4 hOs (fun b hb hm => by
              have : g4 = b := by simpa [Value.ownBlock] using hb
              simp at hm; omega)
          · rcases List.mem_append.1 hp with hp | hp
            · have h8 := Heach3.out p hp
              exact (h8.off hO4 (fun b hb hm => row_types h8 Hrow3.out b hb (mem_ownL.1 hm))).off hOs (fun b hb hm => by have := (World.ownsRow.lt h8 b hb).1; simp at hm; omega)
            · simp only [List.mem_singleton] at hp
              subst hp
              have h8 := HR3.out
              exact owns_base ((h8.off hO4 (fun b hb hm => row_types h8 Hrow3.out b hb (mem_ownL.1 hm))).off hOs (fun b hb hm => by have := (World.ownsRow.lt h8 b hb).1; simp at hm; omega)) (by omega)
          · have := HP.out.few; rw [List.length_append, List.length_append]; simp; omega
          · obtain ⟨h5, h6, h7⟩ := back_next Hzs.out hpre
            obtain ⟨h8, h9⟩ := Hps2.out h5
            rw [show lf.length - pre.length = lf.length - (pre.length + 1) + 1 by omega] at h8
            obtain ⟨-, h10⟩ := h8.tour hbk.out Hps.out (fun a b hab => (Hlf.out a).2 (hall1.out a b hab)) h7 Hbn.out HT2.out
            refine ⟨?_, fun p hp => ?_⟩
            · rw [List.length_append, List.length_singleton, List.map_append]
              exact h10 (sortN lf2) (fun i => (sortN_perm lf2).mem_iff) ((sortN_perm lf2).nodup_iff.2 HT2.out.nod)
            · rcases List.mem_append.1 hp with hp | hp
              · exact h9 p hp
              · simp only [List.mem_singleton] at hp
                subst hp
                exact sortN_lt HT2.out.nod
          · exact HOr.out.then HOT _ (fun i hi => .inl hi) (fun i hi => by
              simp only [List.mem_cons] at hi
              rcases hi with h | h | h
              · exact .inl (by simp [h])
              · exact .inr (by have := hq6.2.1; omega)
              · exact .inr (by have := hv6 i (mem_ownL.1 h); omega))
      case done =>
        rintro D ys W hD rfl ⟨⟨bn, ps, v6, hP, hps⟩, h7W, hOr⟩ hK
        obtain ⟨hp2, hsr⟩ := hps (List.prefix_refl _)
        rw [hzl, Nat.sub_self] at hp2
        have hfew : ps.length ≤ 12 := by have := hP.few; omega
        have c6 := hP.b6.cell 0
        have l6 := hP.b6.lt
        have HP := Lib.hid hP
        have Hp2 := Lib.hid hp2
        have Hsr := Lib.hid hsr
        have HOr := Lib.hid hOr
        have HK := Lib.hid hK
        clear hP hp2 hsr hOr hK hps
        simp only
        gi_wp2_with fail
        refine ⟨trivial, ((callsIn_wide).2 (sortP_any W w7.heap.size v6 ps HP.out.row hfew (fun p hp => ⟨HP.out.each p hp, (Hp2.out.each p.2 (List.mem_map.2 ⟨p, hp, rfl⟩)).1, row_types (HP.out.each p hp) HP.out.row⟩))).mono ?_⟩
        rintro e w8 ⟨rfl, qs, hqp, hqo, hrow, hO8⟩
        have hp6v : p6 ∉ ownL v6 := fun hm => by have := (World.ownsRow.lt HP.out.row p6 (mem_ownL.1 hm)).1; have := hq6.2.2; omega
        have c8 := (HP.out.b6.only hO8 hp6v).cell 0
        have l8 := (HP.out.b6.only hO8 hp6v).lt
        have hDv : D ∉ ownL v6 := fun hm => by
          have h5 := mem_ownL.1 hm
          rcases HP.out.row.2 with ⟨rfl, _⟩ | ⟨g, cap, cur, rfl, -, hg, -⟩
          · cases h5
          · simp only [Value.ownBlock, Option.some.injEq] at h5
            subst h5
            rw [HK.out] at hg
            cases hg
        have hK8 : w8.heap[D]? = some (.deferred (some [])) := (hO8.block D (Array.getElem?_eq_some_iff.1 HK.out).1 hDv).trans HK.out
        have HK8 := Lib.hid hK8
        have Hqp := Lib.hid hqp
        have Hqo := Lib.hid hqo
        have Hrow := Lib.hid hrow
        have HO8 := Lib.hid hO8
        clear hqp hqo hrow hO8 hK8
        gi_wp2
        have hPm : qs.map (·.2) = partsF k (Same (nxF (nxOf k es))) := Pass2.parts Hp2.out (fun i => Hlf.out i) (fun p hp => by
          obtain ⟨p', hp', rfl⟩ := List.mem_map.1 hp
          exact Hsr.out p' hp') (Hqp.out.map _) (by rw [List.pairwise_map]; exact Hqo.out)
        have hlq : ps.length = (partsF k (Same (nxF (nxOf k es)))).length := by rw [← hPm, List.length_map]; exact Hqp.out.length_eq.symm
        have hOD : Only [D] w8 (w8.putObj D (.deferred none)) := ⟨rfl, rfl, rfl, by simp, fun i _ hn => World.putObj_heap_other (by simpa using hn)⟩
        have hcells : ∀ (b : Nat), (∃ cs t fr, w8.heap[b]? = some (.cells cs t fr)) → b ≠ D := fun b ⟨cs, t, fr, h⟩ e => by subst e; rw [HK8.out] at h; cases h
        refine ⟨by simp, .inl ⟨_, _, rfl, run_takeDeferred HK8.out, ?_⟩⟩
        refine ⟨_, results_tmp rfl _ _ _, v6, qs.map (·.1), rfl, ?_, fun i p hp => ?_, ?_⟩
        · rw [← hlq]
          exact owns_base (ownsRow_putObj Hrow.out _ HK8.out rfl) (by have := HO1.out.size; omega)
        · rw [← hPm, List.getElem?_map] at hp
          obtain ⟨z, hz, rfl⟩ := Option.map_eq_some_iff.1 hp
          refine ⟨z.1, by rw [List.getElem?_map, hz]; rfl, ?_⟩
          have hr := HP.out.each z (Hqp.out.mem_iff.1 (List.mem_of_getElem? hz))
          have hr8 := hr.off HO8.out (fun b hb hm => row_types hr HP.out.row b hb (mem_ownL.1 hm))
          exact owns_base (ownsRow_putObj hr8 _ HK8.out rfl) (by have := HO1.out.size; omega)
        · refine (((HO1.out.then HOr.out [] (by simp) (fun i hi => .inr (by simp at hi; omega))).then HO8.out [] (by simp) (fun i hi => .inr (by have := (World.ownsRow.lt HP.out.row i (mem_ownL.1 hi)).1; have := HO1.out.size; omega))).then hOD [] (by simp) (fun i hi => .inr (by simp at hi; have := HO1.out.size; omega)))
      case stop =>
        rintro D c pre W _ _ h _
        exact h.elim

end Go.Proofs.Ytgkddbpfjbgelaa
