/-
  What a crash leaves of a log, by what Fresh and Append answered; a row of rows copied.
-/
import Derived.Test.YtdfnclfmmohpeaaWalR
namespace Go.Proofs.Ytdfnclfmmohpeaa
set_option maxRecDepth 100000
set_option linter.unusedVariables false
open Go.RowKit

theorem wr_n : ∀ (bs : List (List UInt8)) (D : DS) (x : Nat), (wrM D x bs).1.n = D.n
  | [], D, x => by
    simp only [wrM, DS.flushR]
    split
    · rfl
    · split <;> rfl
  | b :: l, D, x => by
    simp only [wrM]
    split
    · rw [wr_n l, write_n]
    · exact write_n

theorem fresh_found {S : Secs} {L : LS} {rs : List (List UInt8)} {b : List UInt8} (h : LogOk S L rs) (hb : partsN b.length ≤ 255) (hg1 : L.gen < 4294967295) (hs : partsN b.length ≤ L.size) :
    (foundM (laidS S ((1 - L.half) * L.size) (secsB (L.gen + 1) 0 b)) L.size).1 = [b] := by
  have hg := h.gen_pos
  have hv : Live { n := 2 * L.size, last := S, fresh := fun _ => none, fuse := -1, dead := false, ops := 0 } (2 * L.size) 0 := ⟨rfl, rfl, rfl, rfl, rfl⟩
  have e3 : otherM L = 1 - L.half := by unfold otherM; rw [if_neg (by omega)]
  have hk := (fresh_live (D := { n := 2 * L.size, last := S, fresh := fun _ => none, fuse := -1, dead := false, ops := 0 }) (L := L) (b := b) hv h.half h.tops (by rw [h.top]; omega) (by rw [h.top]; omega) hb hs).2
  rw [wrote_now, e3, h.top] at hk
  exact hk.opens.2
theorem append_found {S : Secs} {L : LS} {rs : List (List UInt8)} {b : List UInt8} (h : LogOk S L rs) (hb : partsN b.length ≤ 255) (hrs : rs.length ≤ 1000) (hs : L.next + partsN b.length ≤ L.size) :
    (foundM (laidS S (L.half * L.size + L.next) (secsB L.gen L.seq b)) L.size).1 = rs ++ [b] := by
  have hv : Live { n := 2 * L.size, last := S, fresh := fun _ => none, fuse := -1, dead := false, ops := 0 } (2 * L.size) 0 := ⟨rfl, rfl, rfl, rfl, rfl⟩
  have hk := (append_live (D := { n := 2 * L.size, last := S, fresh := fun _ => none, fuse := -1, dead := false, ops := 0 }) (b := b) hv h hrs hb hs).2
  rw [wrote_now] at hk
  exact hk.opens.2

/-- Fresh on a disk that may die of it, and a crash. -/
theorem fresh_crashed {D : DS} {L : LS} {rs : List (List UInt8)} {b : List UInt8} (h : LogOk D.now L rs) (hn : D.n = 2 * L.size) (hd : D.dead = false) (hf : D.fresh = fun _ => none) (hb : partsN b.length ≤ 255) (hg1 : L.gen < 4294967295) (hs : partsN b.length ≤ L.size) :
    (freshM L D b).2.1.n = D.n ∧ ∀ l, (foundM ((freshM L D b).2.1.crashed l).now L.size).1 = [b] ∨ (freshM L D b).2.2 ≠ 0 ∧ (foundM ((freshM L D b).2.1.crashed l).now L.size).1 = rs := by
  have hg := h.gen_pos
  have htop := h.top
  have hoth : 1 - L.half ≤ 1 := by omega
  have hmul := half_mul (n := L.size) hoth
  have e3 : otherM L = 1 - L.half := by unfold otherM; rw [if_neg (by omega)]
  have e1 : (freshM L D b).2 = wrM D ((1 - L.half) * L.size) (secsB (L.gen + 1) 0 b) := by
    unfold freshM; rw [if_neg (by omega), e3, htop]
  have hm : mayB (L.gen + 1) 0 = true := mayB_iff.2 ⟨by omega, by omega, by omega, by omega⟩
  rw [e1]
  refine ⟨wr_n _ _ _, fun l => ?_⟩
  obtain ⟨hc1, hc2, hc3⟩ := crash_secs (D := D) (x := (1 - L.half) * L.size) (bs := secsB (L.gen + 1) 0 b) (l := l) hd hf (by rw [hn, length_secsB]; omega) (secs_len hm hb)
  by_cases hz : (wrM D ((1 - L.half) * L.size) (secsB (L.gen + 1) 0 b)).2 = 0
  · left; rw [hc3 hz]; exact fresh_found h hb hg1 hs
  · rcases crash_fresh h hb hg1 hs hc1 with h1 | h1
    · exact .inr ⟨hz, h1⟩
    · exact .inl h1

/-- Append on a disk that may die of it, and a crash. -/
theorem append_crashed {D : DS} {L : LS} {rs : List (List UInt8)} {b : List UInt8} (h : LogOk D.now L rs) (hn : D.n = 2 * L.size) (hd : D.dead = false) (hf : D.fresh = fun _ => none) (hb : partsN b.length ≤ 255) (hrs : rs.length ≤ 1000) :
    (appM L D b).2.1.n = D.n ∧ ((appM L D b).2.2.1 = false ∧ (appM L D b).2.2.2 = 0 ∧ (∀ l, (foundM ((appM L D b).2.1.crashed l).now L.size).1 = rs) ∨
      (appM L D b).2.2.1 = decide ((appM L D b).2.2.2 = 0) ∧ ∀ l, (foundM ((appM L D b).2.1.crashed l).now L.size).1 = rs ++ [b] ∨ (appM L D b).2.2.2 ≠ 0 ∧ (foundM ((appM L D b).2.1.crashed l).now L.size).1 = rs) := by
  have hg := h.gen_pos
  have hmul := half_mul (n := L.size) h.half
  by_cases hs : L.size < L.next + partsN b.length
  · rw [append_full hs]
    refine ⟨rfl, .inl ⟨rfl, rfl, fun l => ?_⟩⟩
    have hc : (D.crashed l).now = D.now := by
      have hnow : D.now = D.last := by funext i; simp [DS.now, hf]
      show (fun i => if pickB l (D.cnt i) = true then D.now i else D.last i) = _
      rw [hnow]; funext i; simp
    show (foundM (D.crashed l).now L.size).1 = rs
    rw [hc]; exact h.opens.2
  · have hm : mayB L.gen L.seq = true := mayB_iff.2 ⟨by omega, by omega, by rw [h.seq]; omega, by rw [h.seq]; omega⟩
    have e1 : (appM L D b).2.1 = (wrM D (L.half * L.size + L.next) (secsB L.gen L.seq b)).1 ∧ (appM L D b).2.2.1 = decide ((wrM D (L.half * L.size + L.next) (secsB L.gen L.seq b)).2 = 0) ∧ (appM L D b).2.2.2 = (wrM D (L.half * L.size + L.next) (secsB L.gen L.seq b)).2 := by
      unfold appM; rw [if_neg (by omega)]; exact ⟨rfl, rfl, rfl⟩
    obtain ⟨e1, e2, e3⟩ := e1
    rw [e1, e2, e3]
    refine ⟨wr_n _ _ _, .inr ⟨rfl, fun l => ?_⟩⟩
    obtain ⟨hc1, hc2, hc3⟩ := crash_secs (D := D) (x := L.half * L.size + L.next) (bs := secsB L.gen L.seq b) (l := l) hd hf (by rw [hn, length_secsB]; omega) (secs_len hm hb)
    by_cases hz : (wrM D (L.half * L.size + L.next) (secsB L.gen L.seq b)).2 = 0
    · left; rw [hc3 hz]; exact append_found h hb hrs (by omega)
    · rcases crash_append h hb hm (by omega) hrs hc1 with h1 | h1
      · exact .inr ⟨hz, h1⟩
      · exact .inl h1

/-! ### A row of rows copied -/

/-- An append of several elements onto a row of the call's own. -/
theorem wpList_appN {P : Program} {ops : Array Oper} {rest : List Oper} {op : Oper} {a : Act} {w : World} {Q : Exit → Act → World → Prop} (t e : TypeId) (z : Value) (bytes : Nat) (ht : P.underlying t = some (.slice e)) (hinfo : (P.info? e).map (fun i => (i.zero, i.size, i.bytes)) = some (some z, 1, bytes)) (hz : z.cells.size = 1) (hby : bytes ≤ 1000)
    (hgd : op.guard = none) (s x : Operand) (ho : op.op = .call { callee := .builtin .append, args := #[s, x], argTypes := #[t, t] }) (base : Nat) (v : Value) (n : Nat) (xs : List Value) (hs : a.eval s = v) (hown : w.ownsRow base e 1 v n xs) (hn : n ≤ 1000)
    (g m c : Nat) (ys : List Value) (hx : a.eval x = .slice (some ⟨g, 0, none⟩) m c) (hm : ys.length = m) (hm0 : 0 < m) (hm1 : m ≤ 1000) (hy : ∀ j u, ys[j]? = some u → w.cell? ⟨g, j, none⟩ = some u) (hone : ∀ y ∈ ys, y.oneCell' = true) (hbase : base ≤ w.heap.size)
    (h : ∀ g' c' w', w'.ownsRow base e 1 (.slice (some ⟨g', 0, none⟩) (n + m) c') (n + m) (xs ++ ys) → Only (ownL v) w w' → (some g' = v.ownBlock ∨ g' = w.heap.size) → wpList P ops Q rest (a.put op.dst (.slice (some ⟨g', 0, none⟩) (n + m) c')) w') : wpList P ops Q (op :: rest) a w := by
  refine wpList_plain hgd fun K hK => ?_
  obtain ⟨i0, hi, hz0, hz1, hz2⟩ := info_parts hinfo
  obtain ⟨v', w', hrun, ho', hg', _, hat⟩ := run_append_own_at (P := P) w base t op.type e i0 z 1 bytes ht hi hz0 hz1 hz2 hz (by omega) v n xs hown ⟨g, 0, none⟩ m c ys (by omega)
    (fun j u hu => by have := hy j u hu; rw [Addr.add_mid, Nat.zero_add]; exact this) hone (by simp [maxLen]; omega)
    (by have : (n + m) * bytes ≤ 2000 * 1000 := Nat.mul_le_mul (by omega) hby; omega) hbase
  have hsh : ∃ g' c', v' = .slice (some ⟨g', 0, none⟩) (n + m) c' := by
    rcases ho'.2 with ⟨_, h0⟩ | ⟨g', c', cur, e1, _⟩
    · omega
    · exact ⟨g', c', e1⟩
  obtain ⟨g', c', rfl⟩ := hsh
  unfold Oper.wp execOp
  simp only [ho, resolve, invoke, builtin, Sem.run_bind, Sem.run_pure, Result.andThen_ok, List.map_toArray, List.map_cons, List.map_nil, hs, hx, hrun]
  exact hK _ _ (h g' c' w' ho' (only_grown hg') (by simpa [Value.ownBlock] using hat))

end Go.Proofs.Ytdfnclfmmohpeaa
