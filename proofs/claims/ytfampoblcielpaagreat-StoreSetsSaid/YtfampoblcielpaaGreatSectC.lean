/-
  Appends of bytes as one law; isPart, lay, number, areNoughts, bytes.Equal; the reference's le and num.
-/
import Derived.Test.YtfampoblcielpaaGreatSectB
import Derived.Laws.AppendOwn
namespace Go.Proofs.YtfampoblcielpaaGreat
set_option linter.unusedVariables false
set_option maxRecDepth 100000
open Go.RowKit

theorem info5 : (Tryz.prog.info? 5).map (fun i => (i.zero, i.size, i.bytes)) = some (some (.int .u8 0), 1, 1) := by kernel_rfl

/-- A slice of bytes that begins a row of one's own, from block base on. -/
def OwnB (w : World) (base : Nat) (v : Value) (l : List UInt8) : Prop := w.ownsRow base 5 1 v l.length (bv l)
theorem OwnB.nil (w : World) (base : Nat) : OwnB w base (.slice none 0 0) [] := World.ownsRow_nil _ _ _ _
theorem below_grown {w w' : World} {base : Nat} {row : Option Nat} (h : w.grownBy w' row) (hr : ∀ k, row = some k → base ≤ k) (hb : base ≤ w.heap.size) : Below base w w' :=
  ⟨h.os, h.tape, h.output, by have := h.size; omega, fun k hk => h.block k (by omega) (fun e => by have := hr k e.symm; omega)⟩

theorem OwnB.lt {w : World} {base : Nat} {v : Value} {l : List UInt8} (h : OwnB w base v l) : ∀ k, v.ownBlock = some k → base ≤ k ∧ k < w.heap.size := World.ownsRow.lt h
theorem OwnB.shape {w : World} {base : Nat} {v : Value} {l : List UInt8} (h : OwnB w base v l) : ∃ a cap, v = .slice a l.length cap ∧ Src w a l.length l ∧ (∀ b o, a = some ⟨b, o, none⟩ → base ≤ b ∧ b < w.heap.size ∧ o = 0) ∧ (a = none → cap = 0) := by
  rcases h.2 with ⟨rfl, h0⟩ | ⟨g, cap, cur, rfl, hb, hg, hnc, _, hsz, htake⟩
  · refine ⟨none, 0, by rw [h0], ⟨rfl, fun hp => by omega⟩, by simp, fun _ => rfl⟩
  · have hlt := IsBlk.lt hg
    refine ⟨some ⟨g, 0, none⟩, cap, rfl, ⟨rfl, fun hp => ⟨g, 0, rfl, hlt, fun j u hu => ?_⟩⟩, ?_, by simp⟩
    · have := World.ownsRow.cells h (g := g) rfl j u hu
      rw [Addr.add_mid] at this
      exact this
    · intro b o e; injection e with e; injection e with e1 e2; subst e1; subst e2; exact ⟨hb, hlt, rfl⟩
theorem OwnB.below {w w' : World} {base B : Nat} {v : Value} {l : List UInt8} (h : OwnB w base v l) (hb : Below B w w') (hlt : ∀ k, v.ownBlock = some k → k < B) : OwnB w' base v l := by
  refine ⟨h.1, ?_⟩
  rcases h.2 with hn | ⟨g, cap, cur, rfl, hbs, hgg, rest⟩
  · exact .inl hn
  · refine .inr ⟨g, cap, cur, rfl, hbs, ?_, rest⟩
    rw [hb.block g (hlt g rfl)]
    exact hgg
theorem OwnB.more {w w' : World} {base : Nat} {v : Value} {l : List UInt8} (h : OwnB w base v l) (hb : Below w.heap.size w w') : OwnB w' base v l := h.below hb (fun k hk => (h.lt k hk).2)
theorem OwnB.lower {w : World} {base base' : Nat} {v : Value} {l : List UInt8} (h : OwnB w base v l) (hb : base' ≤ base) : OwnB w base' v l := by
  refine ⟨h.1, ?_⟩
  rcases h.2 with hn | ⟨g, cap, cur, rfl, hbs, hgg, rest⟩
  · exact .inl hn
  · exact .inr ⟨g, cap, cur, rfl, by omega, hgg, rest⟩
/-- An empty row in new memory. -/
theorem OwnB.empty (w : World) (base : Nat) (hb : base ≤ w.heap.size) : OwnB (w.alloc (.cells #[] 5)) base (.slice (some ⟨w.heap.size, 0, none⟩) 0 0) [] :=
  World.ownsRow_made w #[] 0 hb (by simp [maxLen]) (by simp)

theorem run_append_none (w : World) (base : Nat) (v : Value) (L : List UInt8) (h : OwnB w base v L) (ty : TypeId) (c : Nat) :
    (Builtin.append_ #[37, 37] ty #[v, .slice none 0 c]).run Tryz.prog w = .ok v w := by
  obtain ⟨i0, hi, hz0, hz1, hz2⟩ := info_parts info5
  rcases h.2 with ⟨rfl, _⟩ | ⟨g, cap, cur, rfl, _, _, hnc, _⟩
  · simp [Builtin.append_, run_underlying Tryz.underlying37, sizeOf, typeInfo, hi, Builtin.lenOf, Builtin.firstCells]
  · simp [Builtin.append_, run_underlying Tryz.underlying37, sizeOf, typeInfo, hi, Builtin.lenOf, Builtin.firstCells, hnc, storeCells]

/-- Bytes appended to a row of one's own. -/
theorem wp_append_b {w : World} {o : Oper} {a : Act} {K : Act → World → Prop} {Q : Exit → Act → World → Prop} (s x : Operand)
    (ho : o.op = .call { callee := .builtin .append, args := #[s, x], argTypes := #[37, 37] })
    (base : Nat) (v : Value) (L : List UInt8) (hs : a.eval s = v) (hown : OwnB w base v L)
    (xa : Option Addr) (m c : Nat) (l : List UInt8) (hx : a.eval x = .slice xa m c) (hsrc : Src w xa m l) (hsm : L.length + m ≤ 100000000) (hbase : base ≤ w.heap.size)
    (h : ∀ v' w', OwnB w' base v' (L ++ l) → Below base w w' → (v' = .slice none 0 0 → v = .slice none 0 0) → K (a.put o.dst v') w') : o.wp Tryz.prog a w K Q := by
  obtain ⟨i0, hi, hz0, hz1, hz2⟩ := info_parts info5
  have hlen := hsrc.1
  rcases xa with _ | ad
  · have hm : m = 0 := by
      rcases Nat.eq_zero_or_pos m with h0 | h0
      · exact h0
      · obtain ⟨b, o, e, _⟩ := hsrc.2 h0; cases e
    subst hm
    obtain rfl : l = [] := List.eq_nil_of_length_eq_zero hlen
    have hrun := run_append_none w base v L hown o.type c
    unfold Oper.wp execOp
    simp only [ho, resolve, invoke, builtin, Sem.run_bind, Sem.run_pure, Result.andThen_ok, List.map_toArray, List.map_cons, List.map_nil, hs, hx, hrun]
    exact h v w (by simpa using hown) (Below.refl _ _) (fun h => h)
  · refine wp_append_own w s x _ ho base _ i0 (.int .u8 0) 1 1 Tryz.underlying37 hi hz0 hz1 hz2 rfl (by decide) v L.length (bv L) hs hown ad m c (bv l) hx (by rw [length_bv, hlen, Nat.mul_one])
      (fun j u hu => ?_) (bv_one l) (by unfold maxLen; omega) (by omega) hbase ?_
    · have hj : j < m := by have := (List.getElem?_eq_some_iff.1 hu).1; rw [length_bv] at this; omega
      obtain ⟨b, o', e, hb, hr⟩ := hsrc.2 (by omega)
      injection e with e; subst e
      rw [Addr.add_mid]; exact hr j u hu
    · intro v' w' h2 h3 h4
      refine h v' w' ?_ (below_grown h3 (fun k hk => (hown.lt k hk).1) hbase) (fun e => (h4.1 e).1)
      unfold OwnB
      rw [List.length_append, hlen, bv_append]
      exact h2

theorem wpList_append_b {w : World} {ops : Array Oper} {rest : List Oper} {o : Oper} {a : Act} {Q : Exit → Act → World → Prop} (hgd : o.guard = none) (s x : Operand)
    (ho : o.op = .call { callee := .builtin .append, args := #[s, x], argTypes := #[37, 37] })
    (base : Nat) (v : Value) (L : List UInt8) (hs : a.eval s = v) (hown : OwnB w base v L)
    (xa : Option Addr) (m c : Nat) (l : List UInt8) (hx : a.eval x = .slice xa m c) (hsrc : Src w xa m l) (hsm : L.length + m ≤ 100000000) (hbase : base ≤ w.heap.size)
    (h : ∀ v' w', OwnB w' base v' (L ++ l) → Below base w w' → (v' = .slice none 0 0 → v = .slice none 0 0) → wpList Tryz.prog ops Q rest (a.put o.dst v') w') : wpList Tryz.prog ops Q (o :: rest) a w :=
  wpList_plain hgd fun _ hK => wp_append_b s x ho base v L hs hown xa m c l hx hsrc hsm hbase fun v' w' h2 h3 h4 => hK _ _ (h v' w' h2 h3 h4)

set_option maxHeartbeats 4000000 in
theorem isPart_any (w : World) (g r n o : Int) (a : Option Addr) (k cap : Nat) (d : List UInt8) (hd : d.length = k) :
    Calls Tryz.prog 75 #[.agg #[.int .i64 g, .int .i64 r, .int .i64 n, .int .i64 o, .slice a k cap]] w fun e w' => e = .returned (.bool (okB ⟨g, r, n, o, d⟩)) ∧ Only [] w w' := by
  unfold okB
  simp only [hd]
  have Hd := Lib.hid hd
  clear hd
  cases hm : mayB g r with
  | false =>
    go_enter Tryz.func75, Tryz.ntmps75
    go_wp2_with fail
    refine (mayMark_any _ g r).mono ?_
    rw [hm]
    rintro e w' ⟨rfl, rfl⟩
    go_wp2
    go_ret
    exact ⟨rfl, (Only.refl _ _).alloc _⟩
  | true =>
    go_enter Tryz.func75, Tryz.ntmps75
    go_wp2_with fail
    refine (mayMark_any _ g r).mono ?_
    rw [hm]
    rintro e w' ⟨rfl, rfl⟩
    by_cases h1 : 1 ≤ o
    · by_cases h2 : o ≤ 255
      · by_cases h3 : 0 ≤ n
        · by_cases h4 : n < o
          · by_cases h5 : k = 52
            · subst h5
              go_wp2
              go_ret
              exact ⟨ret_bool (by simp), (Only.refl _ _).alloc _⟩
            · have h5' : ((k : Int) == 52) = false := by simp; omega
              go_wp2
              go_ret
              exact ⟨ret_bool (by simp [h5]), (Only.refl _ _).alloc _⟩
          · go_wp2
            go_ret
            exact ⟨ret_bool (by simp; intros; omega), (Only.refl _ _).alloc _⟩
        · go_wp2
          go_ret
          exact ⟨ret_bool (by simp; intros; omega), (Only.refl _ _).alloc _⟩
      · go_wp2
        go_ret
        exact ⟨ret_bool (by simp; intros; omega), (Only.refl _ _).alloc _⟩
    · go_wp2
      go_ret
      exact ⟨ret_bool (by simp; intros; omega), (Only.refl _ _).alloc _⟩

end Go.Proofs.YtfampoblcielpaaGreat
