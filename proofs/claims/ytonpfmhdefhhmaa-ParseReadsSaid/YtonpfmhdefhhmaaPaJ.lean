/-
  endless of the package parse: false, of statements in memory of their own.
-/
import Derived.Test.YtonpfmhdefhhmaaPaI
import Derived.Deep.LoopGhost
import Derived.Laws.StructEq
import Derived.Sort.BigQuietIn
import Derived.LaidEqlPtr
namespace Go.Proofs.Ytonpfmhdefhhmaa
set_option maxRecDepth 100000
set_option linter.unusedVariables false
open Go.RowKit Go.Sort

set_option maxHeartbeats 4000000 in
theorem sameList_len (w : World) (a b : Option Addr) (m n c d : Nat) (h : m ≠ n) : Calls Try.prog 80 #[.slice a m c, .slice b n d] w fun e w' => e = .returned (.bool false) ∧ Only [] w w' := by
  have hi : ((m : Int) == (n : Int)) = false := by simp; omega
  go_enter Try.func80, Try.ntmps80
  go_wp2_with fail
  go_quiet (fail)
  go_wp2
  go_ret
  exact ⟨rfl, (Only.refl [] w).drewN _⟩
set_option maxHeartbeats 4000000 in
theorem sameList_none (w : World) (a b : Option Addr) (c d : Nat) : Calls Try.prog 80 #[.slice a 0 c, .slice b 0 d] w fun e w' => e = .returned (.bool false) ∧ Only [] w w' := by
  go_enter Try.func80, Try.ntmps80
  go_wp2_with fail
  go_quiet (fail)
  go_wp2
  go_ret
  exact ⟨rfl, (Only.refl [] w).drewN _⟩
set_option maxHeartbeats 4000000 in
theorem sameList_apart (w : World) (g k : Nat) (m n c d : Nat) (hm : 0 < m) (h : g ≠ k) {ca cb : Array Value} {ta tb : TypeId} (hg : IsBlk w g (.cells ca ta)) (hk : IsBlk w k (.cells cb tb)) : Calls Try.prog 80 #[.slice (some ⟨g, 0, none⟩) m c, .slice (some ⟨k, 0, none⟩) n d] w fun e w' => e = .returned (.bool false) ∧ Only [] w w' := by
  by_cases hmn : m = n
  · subst hmn
    have hi : ((0 : Int) < (m : Int)) := by omega
    have h0 : decide ((0 : Int) < (m : Int)) = true := by simpa using hi
    obtain ⟨i0, hi0, hi1, hi2, hi3⟩ := info_parts infoS
    have hptr : ∀ j, (binOp .eql 132 (.pointer (some ⟨g, 0, none⟩)) (.pointer (some ⟨k, 0, none⟩))).run Try.prog (w.drewN j) = .ok (.bool false) (w.drewN j) := fun j => run_eql_ptr_other (P := Try.prog) (w.drewN j) Try.underlying132 hi0 (by omega) (fun e => h (by injection e)) hg hk
    clear hi0 hi1 hi2 hi3 i0
    go_enter Try.func80, Try.ntmps80
    go_wp2_with fail
    go_quiet (fail)
    go_wp2
    go_ret
    exact ⟨rfl, (Only.refl [] w).drewN _⟩
  · exact sameList_len w _ _ m n c d hmn

theorem infoL : (Try.prog.info? 124).map (fun i => (i.zero, i.size, i.bytes)) = some (some (.agg #[.slice none 0 0, .int .i64 0]), 2, 32) := by kernel_rfl

set_option maxHeartbeats 4000000 in
theorem push_none (w : World) (v : Value) (ad : Option Addr) (c d : Nat) : Calls Try.prog 81 #[v, .agg #[.slice ad 0 c, .int .i64 d]] w fun e w' => e = .returned v ∧ Only [] w w' := by
  go_enter Try.func81, Try.ntmps81
  go_wp2
  go_ret
  exact ⟨rfl, (Only.refl [] w).alloc _⟩

/-- One element appended to a row of levels. -/
theorem wpList_append_l {w : World} {ops : Array Oper} {rest : List Oper} {o : Oper} {a : Act} {Q : Exit → Act → World → Prop} (hgd : o.guard = none) (s x : Operand)
    (ho : o.op = .call { callee := .builtin .append, args := #[s, x], argTypes := #[125, 125] })
    (base : Nat) (v : Value) (n : Nat) (xs : List Value) (hs : a.eval s = v) (hown : w.ownsRow base 124 2 v n xs)
    (q c : Nat) (u1 u2 : Value) (h1 : u1.oneCell' = true) (h2 : u2.oneCell' = true) (hx : a.eval x = .slice (some ⟨q, 0, none⟩) 1 c)
    (hc0 : w.cell? ⟨q, 0, none⟩ = some u1) (hc1 : w.cell? ⟨q, 1, none⟩ = some u2) (hsm : n ≤ 1000000) (hbase : base ≤ w.heap.size)
    (h : ∀ v' w', w'.ownsRow base 124 2 v' (n + 1) (xs ++ [u1, u2]) → Only (ownL v) w w' → (∀ g ∈ ownL v', g ∈ ownL v ∨ w.heap.size ≤ g) → wpList Try.prog ops Q rest (a.put o.dst v') w') : wpList Try.prog ops Q (o :: rest) a w := by
  obtain ⟨i0, hi, hz0, hz1, hz2⟩ := info_parts infoL
  refine wpList_append_own_at w hgd s x _ ho base _ i0 _ 2 32 Try.underlying125 hi hz0 hz1 hz2 rfl (by decide) v n _ hs hown ⟨q, 0, none⟩ 1 c [u1, u2] hx rfl (fun j u hu => ?_) (fun u hu => ?_) (by unfold maxLen; omega) (by omega) hbase (fun v' w' k2 k3 k4 k5 => h v' w' k2 (grown_only k3) (fun g hg => by
    rcases k5 with k5 | k5
    · exact .inl (mem_ownL.2 (k5 ▸ mem_ownL.1 hg))
    · have := mem_ownL.1 hg; rw [k5] at this; injection this with this; exact .inr (by omega)))
  · rw [Addr.add_mid]
    match j, hu with
    | 0, hu => simp at hu; rw [← hu]; exact hc0
    | 1, hu => simp at hu; rw [← hu]; exact hc1
    | n + 2, hu => simp at hu
  · simp only [List.mem_cons, List.not_mem_nil, or_false] at hu
    rcases hu with rfl | rfl
    · exact h1
    · exact h2

set_option maxHeartbeats 4000000 in
theorem push_any (w : World) (base n : Nat) (v : Value) (xs : List Value) (hown : w.ownsRow base 124 2 v n xs) (hn : n ≤ 1000000) (hb : base ≤ w.heap.size) (ad : Option Addr) (m c d : Nat) (hm : 0 < m) :
    Calls Try.prog 81 #[v, .agg #[.slice ad m c, .int .i64 d]] w fun e w' => ∃ v', e = .returned v' ∧ w'.ownsRow base 124 2 v' (n + 1) (xs ++ [.slice ad m c, .int .i64 d]) ∧ Only (ownL v) w w' ∧ ∀ g ∈ ownL v', g ∈ ownL v ∨ w.heap.size ≤ g := by
  have hmi : ¬ (m : Int) = 0 := by omega
  obtain ⟨av, cv, rfl⟩ := owns_slice hown
  go_enter Try.func81, Try.ntmps81
  have hO1 := (Only.refl [] w).alloc (.cells #[.slice ad m c, .int .i64 d] 124)
  have hO2 := hO1.alloc (.cells #[.slice ad m c, .int .i64 d] 124)
  have hq := IsBlk.made (w.alloc (.cells #[.slice ad m c, .int .i64 d] 124)) (.cells #[.slice ad m c, .int .i64 d] 124)
  have hs1 : (w.alloc (.cells #[.slice ad m c, .int .i64 d] 124)).heap.size = w.heap.size + 1 := by simp
  rw [hs1] at hq
  have Hown := Lib.hid (owns_keep hown hO2 (by simp))
  have Hq0 := Lib.hid (hq.cell 0)
  have Hq1 := Lib.hid (hq.cell 1)
  have HO2 := Lib.hid hO2
  clear hown hO1 hO2 hq hs1
  go_wp2_with (at_builtin; refine wpList_append_l rfl _ _ rfl base (.slice av n cv) n xs rfl Hown.out (w.heap.size + 1) 1 _ _ rfl rfl rfl Hq0.out Hq1.out hn (Nat.le_trans hb HO2.out.size) ?_; intro v' w' h2 hO3 hg3)
  go_ret
  exact ⟨_, rfl, h2, HO2.out.then hO3 _ (by simp) (fun i hi => .inl hi), fun g hg => (hg3 g hg).imp id (fun h => Nat.le_trans HO2.out.size h)⟩

/-! ### What is to be looked at -/

/-- A block that waits: its slice, itself, the blocks below it, how deep it stands. -/
structure Lev where
  a : Option Addr
  c : Nat
  b : Blk
  fp : List Nat
  d : Nat
def lvCells (l : List Lev) : List Value := l.flatMap fun x => [.slice x.a x.b.len x.c, .int .i64 x.d]
theorem lvCells_snoc (l : List Lev) (x : Lev) : lvCells (l ++ [x]) = lvCells l ++ [.slice x.a x.b.len x.c, .int .i64 x.d] := by simp [lvCells]
theorem length_lvCells (l : List Lev) : (lvCells l).length = l.length * 2 := by
  induction l with
  | nil => rfl
  | cons f r ih => simp [lvCells] at ih ⊢; omega
def lvFp (l : List Lev) : List Nat := l.flatMap (·.fp)
theorem lvFp_snoc (l : List Lev) (x : Lev) : lvFp (l ++ [x]) = lvFp l ++ x.fp := by simp [lvFp]
def lvWt (l : List Lev) : Nat := (l.map fun x => max 1 x.fp.length).sum
theorem lvWt_snoc (l : List Lev) (x : Lev) : lvWt (l ++ [x]) = lvWt l + max 1 x.fp.length := by simp [lvWt]
def LevAt (w : World) (x : Lev) : Prop := BlkAt w (.slice x.a x.b.len x.c) x.b x.fp

/-- The last one taken off. -/
theorem own_pop {w : World} {base n : Nat} {e : TypeId} {a : Option Addr} {c : Nat} {xs : List Value} {u1 u2 : Value} (h : w.ownsRow base e 2 (.slice a (n + 1 : Nat) c) (n + 1) (xs ++ [u1, u2])) :
    ∃ g, a = some ⟨g, 0, none⟩ ∧ base ≤ g ∧ g < w.heap.size ∧ n + 1 ≤ c ∧ w.cell? ⟨g, n * 2, none⟩ = some u1 ∧ w.cell? ⟨g, n * 2 + 1, none⟩ = some u2 ∧ w.ownsRow base e 2 (.slice a n c) n xs := by
  have hl : xs.length = n * 2 := by have := h.1; simp at this; omega
  have h0 := h
  rcases h.2 with ⟨_, h1⟩ | ⟨g, cap, cur, h1, hb, hg, hc, hm, hsz, ht⟩
  · omega
  · injection h1 with h1 h2 h3
    subst h1
    subst h3
    have k0 := World.ownsRow.cells h0 (g := g) rfl (n * 2) u1 (by rw [List.getElem?_append_right (by omega)]; simp [hl])
    have k1 := World.ownsRow.cells h0 (g := g) rfl (n * 2 + 1) u2 (by rw [List.getElem?_append_right (by omega), show n * 2 + 1 - xs.length = 1 by omega]; rfl)
    rw [Addr.add_mid, Nat.zero_add] at k0 k1
    refine ⟨g, rfl, hb, IsBlk.lt hg, hc, k0, k1, hl, .inr ⟨g, c, cur, rfl, hb, hg, by omega, hm, hsz, ?_⟩⟩
    have := congrArg (List.take (n * 2)) ht
    rw [List.take_take, List.take_left' hl, show min (n * 2) ((n + 1) * 2) = n * 2 by omega] at this
    exact this

/-- The mark: none, or a block that does not wait. -/
def MarkOk (w : World) (a : Option Addr) (n : Nat) (F : List Nat) : Prop := n = 0 ∨ ∃ g, a = some ⟨g, 0, none⟩ ∧ g ∉ F ∧ ∃ cs t, IsBlk w g (.cells cs t)

theorem same_mark (w w0 : World) (hO : Only [] w0 w) (x : Lev) (hx : LevAt w0 x) (ma : Option Addr) (mn mc : Nat) (hm : MarkOk w0 ma mn x.fp) :
    Calls Try.prog 80 #[.slice x.a x.b.len x.c, .slice ma mn mc] w fun e w' => e = .returned (.bool false) ∧ Only [] w w' := by
  by_cases hl : x.b.len = mn
  · rcases hx with ⟨h1, h2, h3⟩ | ⟨g, c, fq, xs, h1, hc, hn, hfp, ⟨cs, t, hg⟩, -⟩
    · rw [hl] at h2
      rw [hl, h2]
      exact sameList_none w _ _ _ _
    · rcases hm with h0 | ⟨k, rfl, hk, cs', t', hg'⟩
      · omega
      · injection h1 with h1 h2 h3
        rw [h1]
        exact sameList_apart w g k _ _ _ _ hn (fun e => hk (by rw [hfp, e]; simp)) (hg.only hO (by simp)) (hg'.only hO (by simp))
  · exact sameList_len w _ _ _ _ _ _ hl

end Go.Proofs.Ytonpfmhdefhhmaa
