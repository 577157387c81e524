/-
  Names and their places: newNet and lead of the package graph.
-/
import Derived.Test.YtgkddbpfjbgelaaGrH
import Derived.Maps.Own
import Derived.Maps.OwnSet
import Derived.Maps.Views
namespace Go.Proofs.Ytgkddbpfjbgelaa
set_option maxRecDepth 100000
set_option linter.unusedVariables false
open Go.RowKit Go.Sort Go.Maps

abbrev Nam := List UInt8
theorem belowOnly {a b : World} (h : Below a.heap.size a b) : Only [] a b := ⟨h.os, h.tape, h.output, h.size, fun k hk _ => h.block k hk⟩
/-- Names in a slice, to be read. -/
def NamsAt (w : World) (v : Value) (l : List Nam) : Prop :=
  ∃ a c, v = .slice a l.length c ∧ (0 < l.length → ∃ g, a = some ⟨g, 0, none⟩ ∧ g < w.heap.size ∧ ∀ (i : Nat) (s : Nam), l[i]? = some s → w.cell? ⟨g, i, none⟩ = some (encStr s))
theorem NamsAt.more {w w' : World} {v : Value} {l : List Nam} (h : NamsAt w v l) (hO : Only [] w w') : NamsAt w' v l := by
  obtain ⟨a, c, e, h⟩ := h
  refine ⟨a, c, e, fun h0 => ?_⟩
  obtain ⟨g, e, hg, hc⟩ := h h0
  exact ⟨g, e, Nat.lt_of_lt_of_le hg hO.size, fun i s hs => (hO.cell (p := ⟨g, i, none⟩) hg (by simp)).trans (hc i s hs)⟩
/-- A row of names of one's own. -/
def OwnN (w : World) (base : Nat) (v : Value) (l : List Nam) : Prop := w.ownsRow base 9 1 v l.length (l.map encStr)
theorem OwnN.off {w w' : World} {base : Nat} {v : Value} {l : List Nam} {S : List Nat} (h : OwnN w base v l) (hO : Only S w w') (hS : ∀ k, v.ownBlock = some k → k ∉ S) : OwnN w' base v l := owns_off h hO hS
theorem OwnN.nams {w : World} {base : Nat} {v : Value} {l : List Nam} (h : OwnN w base v l) : NamsAt w v l := by
  have hh := h
  rcases h.2 with ⟨rfl, h0⟩ | ⟨g, cap, cur, rfl, hb, hg, hc, -⟩
  · exact ⟨none, 0, by rw [h0], fun h => by omega⟩
  · refine ⟨_, cap, rfl, fun _ => ⟨g, rfl, IsBlk.lt hg, fun i s hs => ?_⟩⟩
    have := World.ownsRow.cells hh (g := g) rfl i (encStr s) (by rw [List.getElem?_map, hs]; rfl)
    rw [Addr.add_mid, Nat.zero_add] at this
    exact this
theorem OwnN.slice {w : World} {base : Nat} {v : Value} {l : List Nam} (h : OwnN w base v l) : ∃ a c, v = .slice a l.length c := owns_slice h

def baS (s : Nam) : ByteArray := ⟨s.toArray⟩
set_option maxHeartbeats 1000000 in
theorem cloneN_any (w : World) (v : Value) (l : List Nam) (h : NamsAt w v l) (hl : l.length ≤ 100000) : Calls Try.prog 41 #[v] w fun e w' => ∃ v', e = .returned v' ∧ OwnN w' w.heap.size v' l ∧ Only [] w w' := by
  obtain ⟨a, c, rfl, h⟩ := h
  cases a with
  | none =>
    have h0 : l = [] := by
      cases l with
      | nil => rfl
      | cons x r => obtain ⟨g, e, -⟩ := h (by simp); cases e
    subst h0
    refine (Try.slices_Clone_string_nil 0 c w).mono ?_
    rintro e w' ⟨rfl, rfl⟩
    exact ⟨_, rfl, World.ownsRow_nil _ _ _ _, Only.refl _ _⟩
  | some ad =>
    by_cases h0 : l = []
    · subst h0
      refine (Try.slices_Clone_string_zero ad c w).mono ?_
      rintro e w' ⟨v', rfl, hown, -, hb⟩
      exact ⟨v', rfl, hown, belowOnly hb⟩
    · obtain ⟨g, e, hg, hc⟩ := h (List.length_pos_iff.2 h0)
      injection e with e
      subst e
      have hlen : (l.map baS).length = l.length := by simp
      have hcon := Try.slices_Clone_string g 0 l.length c (l.map baS) w (by simp) (by omega) (fun j hj => by
        have hj' : j < l.length := by simpa using hj
        rw [Nat.zero_add, hc j l[j] (by simp [hj']), List.getD_eq_getElem?_getD]
        simp [hj', baS, encStr])
      refine hcon.mono ?_
      rintro e w' ⟨v', rfl, hown, -, hb⟩
      refine ⟨v', rfl, ?_, belowOnly hb⟩
      unfold OwnN
      rw [show l.map encStr = ((l.map baS).take l.length).map Value.string by rw [List.take_of_length_le (by simp), List.map_map]; rfl]
      exact hown

def NamTo (w : World) (base : Nat) (v r : Value) (l : List Nam) (e : Ending) (w' : World) : Prop := e = .returned r ∧ OwnN w' base v l ∧ Only (ownL v) w w'
def sortS (l : List Nam) : List Nam := l.mergeSort fun x y => decide (x ≤ y)
theorem sortS_any (w : World) (base : Nat) (v : Value) (l : List Nam) (h : OwnN w base v l) (hl : l.length ≤ 100000) : Calls Try.prog 42 #[v] w (NamTo w base v (.tuple #[]) (sortS l)) := by
  have h' := h
  rcases h.2 with ⟨rfl, hz⟩ | ⟨g, cap, cur, rfl, hbase, hb, r1, r2, r3, r4⟩
  · obtain rfl := List.eq_nil_of_length_eq_zero hz
    refine (Try.slices_Sort_string_none none 0 w).mono ?_
    rintro e w' ⟨rfl, rfl⟩
    exact ⟨rfl, by simpa [sortS] using h', Only.refl _ _⟩
  · refine (Try.slices_Sort_string g 0 cap l w (holds_of_block hb (by simpa using r4)) (IsBlk.lt hb) (by omega)).mono ?_
    rintro e w' ⟨rfl, n, os, rfl⟩
    refine ⟨rfl, ?_, grown_only (v := .slice (some ⟨g, 0, none⟩) l.length cap) (grownBy_sorted _)⟩
    have := ownsRow_sorted (n := n) (os := os) (ts := sortS l) (by simp [sortS]) hbase hb r1 r2 r3
    unfold OwnN
    rw [show (sortS l).length = l.length by simp [sortS]]
    exact this
theorem compactS_nodup {zs : List Nam} (h : zs.Nodup) : Lib.compact zs = zs := by
  apply Lib.compact_all
  intro j hj'
  unfold Lib.keeps
  by_cases h0 : j = 0
  · simp [h0]
  · have hne : zs[j] ≠ zs[j - 1] := fun e => by
      have := (List.getElem_inj (h₀ := hj') (h₁ := by omega) h).1 e
      omega
    simp [h0, hj', show j - 1 < zs.length by omega, hne]
theorem compactN_any (w : World) (base : Nat) (v : Value) (l : List Nam) (h : OwnN w base v l) (hn : l.Nodup) (hl : l.length ≤ 100000) : Calls Try.prog 43 #[v] w (NamTo w base v v l) := by
  have h' := h
  rcases h.2 with ⟨rfl, hz⟩ | ⟨g, cap, cur, rfl, hbase, hb, r1, r2, r3, r4⟩
  · refine (Try.slices_Compact_string_empty none 0 w).mono ?_
    rintro e w' ⟨rfl, rfl⟩
    exact ⟨rfl, h', Only.refl _ _⟩
  · have hm : l.length ≤ 9223372036854775807 := by omega
    refine (Try.slices_Compact_string g 0 cap l w (holds_of_block hb (by simpa using r4)) hm r1).mono ?_
    rw [compactS_nodup hn]
    rintro e w' ⟨rfl, n, rfl⟩
    have e0 : (l ++ List.replicate (l.length - l.length) []).toArray = l.toArray := by simp
    rw [e0, ← grow_empty (putRow encStr (Sort.ahead w n) g 0 l.toArray)]
    exact ⟨rfl, ownsRow_sorted rfl hbase hb r1 r2 r3, grown_only (v := .slice (some ⟨g, 0, none⟩) l.length cap) (grownBy_sorted _)⟩

/-! ### Places of names -/
def PlAt (w : World) (b : Nat) (N : List Nam) (k : Nat) : Prop :=
  ∃ D : DataW Unit, ∃ m, m ≤ k ∧ w.ownsMap Try.prog 9 (plainElem Try.prog 3) b m D ∧
    (∀ (x : Nam) (i : Nat), i < k → N[i]? = some x → ∀ zd, D.atKey (.string x) zd = .lit (.int .i64 i)) ∧ ∀ x : Nam, (∀ i, i < k → N[i]? ≠ some x) → ∀ zd, D.atKey (.string x) zd = zd
theorem PlAt.keep {w w' : World} {b k : Nat} {N : List Nam} {S : List Nat} (h : PlAt w b N k) (hO : Only S w w') (hb : b ∉ S) : PlAt w' b N k := by
  obtain ⟨D, m, hm, ⟨es, clock, h1, h2⟩, h3⟩ := h
  exact ⟨D, m, hm, ⟨es, clock, (hO.block b (World.ownsMap.lt ⟨es, clock, h1, h2⟩) hb).trans h1, h2⟩, h3⟩
theorem PlAt.lt {w : World} {b k : Nat} {N : List Nam} (h : PlAt w b N k) : b < w.heap.size := by
  obtain ⟨D, m, hm, h1, h3⟩ := h
  exact World.ownsMap.lt h1
theorem PlAt.made (w : World) (N : List Nam) : PlAt (w.alloc (.map #[] 0)) w.heap.size N 0 := ⟨_, 0, Nat.le_refl _, World.ownsMap_made w _ _ _, fun x i hi => by omega, fun x _ zd => rfl⟩
theorem keyN {n : Nam} (h : n.length ≤ maxLen) : keyOf Try.prog 9 (encStr n) = some (.string n) := by
  simp [keyOf, Try.underlying9, mapKey, encStr, ByteArray.size, h]
theorem PlAt.yes {w : World} {b k : Nat} {N : List Nam} (h : PlAt w b N k) {x : Nam} (hx : x.length ≤ maxLen) {i : Nat} (hi : i < k) (hN : N[i]? = some x) :
    (Instr.lookup 62 (.map (some b)) (encStr x) true).run Try.prog w = .ok (.tuple #[.int .i64 i, .bool true]) w := by
  obtain ⟨D, m, hm, ⟨es, clock, hb, hF, hs, hD⟩, h3, h4⟩ := h
  have h1 := h3 x i hi hN
  rcases Maps.fit_look (z := .int .i64 0) true (string_keyed Try.underlying9) Try.underlying62 (Try.zeroValue3 w) hb hF (keyN hx) with ⟨hrun, _, hat⟩ | ⟨e0, y, _, _, hrun, hRv, hat, _⟩
  · have h2 := hat .nil
    rw [← hD, h1] at h2
    cases h2
  · have h2 := hat .nil
    rw [← hD, h1] at h2
    obtain ⟨c, hv, hc, -⟩ := plainElem_int_inv Try.underlying3 (v := e0.val) (z := y) hRv
    rw [hc] at h2
    injection h2 with h2
    injection h2 with _ h2
    rw [hrun, hv, h2]
    rfl
theorem PlAt.no {w : World} {b k : Nat} {N : List Nam} (h : PlAt w b N k) {x : Nam} (hx : x.length ≤ maxLen) (hN : ∀ i, i < k → N[i]? ≠ some x) :
    (Instr.lookup 62 (.map (some b)) (encStr x) true).run Try.prog w = .ok (.tuple #[.int .i64 0, .bool false]) w := by
  obtain ⟨D, m, hm, ⟨es, clock, hb, hF, hs, hD⟩, h3, h4⟩ := h
  have h1 := h4 x hN
  rcases Maps.fit_look (z := .int .i64 0) true (string_keyed Try.underlying9) Try.underlying62 (Try.zeroValue3 w) hb hF (keyN hx) with ⟨hrun, _, hat⟩ | ⟨e0, y, _, _, hrun, hRv, hat, _⟩
  · rw [hrun]; rfl
  · have h2 := hat .nil
    rw [← hD, h1] at h2
    obtain ⟨c, hv, hc, -⟩ := plainElem_int_inv Try.underlying3 (v := e0.val) (z := y) hRv
    rw [hc] at h2
    cases h2
theorem PlAt.put {w w' : World} {b k m : Nat} {N : List Nam} {D : DataW Unit} (hN : N.Nodup) (hm : m ≤ k) (h1 : w.ownsMap Try.prog 9 (plainElem Try.prog 3) b m D)
    (h3 : ∀ (x : Nam) (i : Nat), i < k → N[i]? = some x → ∀ zd, D.atKey (.string x) zd = .lit (.int .i64 i)) (h4 : ∀ x : Nam, (∀ i, i < k → N[i]? ≠ some x) → ∀ zd, D.atKey (.string x) zd = zd) (x : Nam) (hx : N[k]? = some x)
    (h : w'.ownsMap Try.prog 9 (plainElem Try.prog 3) b (m + 1) (D.put (.string x) (.lit (.int .i64 k)))) : PlAt w' b N (k + 1) := by
  refine ⟨_, m + 1, by omega, h, fun y i hi hy zd => ?_, fun y hy zd => ?_⟩
  · by_cases hik : i = k
    · subst hik
      rw [hx] at hy
      injection hy with hy
      subst hy
      exact atKey_put_same h1.isMap (by simp [WideAt.IsKeyLit]) _ _
    · have hne : y ≠ x := fun e => by
        subst e
        exact hik ((List.getElem?_inj (List.getElem?_eq_some_iff.1 hy).1 hN).1 (hy.trans hx.symm))
      rw [atKey_put_other (by simpa using hne)]
      exact h3 y i (by omega) hy zd
  · have hne : y ≠ x := fun e => hy k (by omega) (by rw [e]; exact hx)
    rw [atKey_put_other (by simpa using hne)]
    exact h4 y (fun i hi => hy i (by omega)) zd

end Go.Proofs.Ytgkddbpfjbgelaa
