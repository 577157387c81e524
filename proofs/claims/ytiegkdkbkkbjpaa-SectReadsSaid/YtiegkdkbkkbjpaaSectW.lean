/-
  Noughts appended to a row of one's own.
-/
import Derived.Test.YtiegkdkbkkbjpaaSectK
namespace Go.Proofs.Ytiegkdkbkkbjpaa
open Go.RowKit

theorem zero_cells (n : Nat) : Builtin.zeroCells (Value.int .u8 0).cells n = (bv (List.replicate n 0)).toArray := by
  apply Array.ext
  · simp [Builtin.zeroCells, bv, Value.cells]
  · intro i h1 h2
    simp [Builtin.zeroCells, bv, Value.cells, Nat.mod_one]

theorem run_append_z (w : World) (base g cap : Nat) (L : List UInt8) (n : Nat) (h : OwnB w base (.slice (some ⟨g, 0, none⟩) L.length cap) L) (hn : L.length + n ≤ 100000000) (hbase : base ≤ w.heap.size) (ty : TypeId) :
    ∃ v' w', (Builtin.append_ #[22, 3] ty #[.slice (some ⟨g, 0, none⟩) L.length cap, .int .i64 n]).run Try.prog w = .ok v' w' ∧ OwnB w' base v' (L ++ List.replicate n 0) ∧ Below base w w' ∧ v' ≠ .slice none 0 0 := by
  obtain ⟨i0, hi, hz0, hz1, hz2⟩ := info_parts info5
  have hint := Try.underlying3
  have hwrap : IntKind.i64.wrap (n : Int) = (n : Int) := wrap_nat n (by omega)
  have hneg : ¬ ((n : Int) < 0) := by omega
  have hbig : ¬ (281474976710656 < (n : Int)) := by omega
  rcases h.2 with ⟨h', _⟩ | ⟨g', cap', cur, h', hb, hg, hnc, hml, hsz, htake⟩
  · simp at h'
  simp only [Value.slice.injEq, Option.some.injEq, Addr.mk.injEq, and_true, true_and] at h'
  obtain ⟨rfl, rfl⟩ := h'
  have hlen : (bv (L ++ List.replicate n 0)).length = L.length + n := by simp [length_bv]
  by_cases hn0 : n = 0
  · subst hn0
    have hw0 : IntKind.i64.wrap (0 : Int) = 0 := by decide
    refine ⟨.slice (some ⟨g, 0, none⟩) L.length cap, w, ?_, by simpa using h, Below.refl _ _, by simp⟩
    simp [Builtin.append_, run_underlying Try.underlying22, run_underlying hint, sizeOf, typeInfo, hi, hz0, hz1, hz2, asInt, asIntOf, hw0, hnc, storeCells]
  by_cases hroom : L.length + n ≤ cap
  · have hst := run_storeCells_at Try.prog g L.length 5 (bv (List.replicate n 0)) 0 cur w hg (by simp [length_bv]; omega) (bv_one _)
    simp only [Nat.add_zero] at hst
    refine ⟨.slice (some ⟨g, 0, none⟩) (L.length + n) cap, w.setRow g (cur.toList.take L.length ++ bv (List.replicate n 0) ++ cur.toList.drop (L.length + (bv (List.replicate n 0)).length)).toArray, ?_, ?_, ?_, by simp⟩
    · simp [Builtin.append_, run_underlying Try.underlying22, run_underlying hint, sizeOf, typeInfo, zeroValue, hi, hz0, hz1, hz2, asInt, asIntOf, hwrap, hneg, hbig, hn0, hroom, zero_cells, Addr.add_lit, hst]
    · unfold OwnB
      rw [show (L ++ List.replicate n (0 : UInt8)).length = L.length + n by simp]
      refine ⟨by rw [hlen, Nat.mul_one], .inr ⟨g, cap, _, rfl, hb, setRow_same hg _, hroom, hml, ?_, ?_⟩⟩
      · simp [length_bv] at hsz ⊢; omega
      · rw [bv_append]
        simp only [Nat.mul_one] at htake ⊢
        rw [htake, ← bv_append, ← hlen]
        exact List.take_left
    · exact ⟨rfl, rfl, rfl, by simp, fun k hk => setRow_other w g k _ (by omega)⟩
  · have hfits := growslice_fits (need := L.length + n) (old := cap) (bytes := 1) (by omega) (by omega)
    have h63 : ¬ (9223372036854775807 < (L.length : Int) + (n : Int)) := by omega
    have h48 : ¬ (281474976710656 < Builtin.nextslicecap (L.length + n) cap) := by omega
    have hge := grownCap_ge w (L.length + n) cap 5
    have hcm := grownCap_le_maxLen w (L.length + n) cap 5 (by unfold maxLen; omega)
    have hfo := run_firstCells_some (P := Try.prog) w.drew 1 L.length ⟨g, 0, none⟩ L.length cap (bv L) (by rw [length_bv, Nat.mul_one]) (fun j u hu => World.ownsRow.cells h (g := g) rfl j u hu)
    refine ⟨.slice (some ⟨w.heap.size, 0, none⟩) (L.length + n) (grownCap w (L.length + n) cap 5), w.drew.alloc (.cells ((bv L).toArray ++ (bv (List.replicate n 0)).toArray ++ Builtin.zeroCells (Value.int .u8 0).cells (grownCap w (L.length + n) cap 5 - (L.length + n))) 5), ?_, ?_, ?_, by simp⟩
    · simp [Builtin.append_, run_underlying Try.underlying22, run_underlying hint, sizeOf, typeInfo, zeroValue, hi, hz0, hz1, hz2, asInt, asIntOf, hwrap, hneg, hbig, hn0, hroom, zero_cells, Question.forced, hfo, newRow, grownCap, h63, h48]
    · unfold OwnB
      rw [show (L ++ List.replicate n (0 : UInt8)).length = L.length + n by simp]
      refine ⟨by rw [hlen, Nat.mul_one], .inr ⟨w.heap.size, _, _, rfl, hbase, heap_alloc_new w.drew _, hge, hcm, ?_, ?_⟩⟩
      · simp [length_bv, size_zeroCells, Value.cells]; omega
      · simp only [Array.toList_append, List.append_assoc, Nat.mul_one]
        rw [← List.append_assoc, ← bv_append, ← hlen]
        exact List.take_left
    · exact (Below.refl base w).drew.alloc hbase _

/-- append(x, make([]byte, n)...) to a row of one's own. -/
theorem wpList_append_z {w : World} {ops : Array Oper} {rest : List Oper} {o : Oper} {a : Act} {Q : Exit → Act → World → Prop} (hgd : o.guard = none) (s x : Operand)
    (ho : o.op = .call { callee := .builtin .append, args := #[s, x], argTypes := #[22, 3] })
    (base g cap : Nat) (L : List UInt8) (hs : a.eval s = .slice (some ⟨g, 0, none⟩) L.length cap) (hown : OwnB w base (.slice (some ⟨g, 0, none⟩) L.length cap) L)
    (n : Nat) (hx : a.eval x = .int .i64 n) (hsm : L.length + n ≤ 100000000) (hbase : base ≤ w.heap.size)
    (h : ∀ v' w', OwnB w' base v' (L ++ List.replicate n 0) → Below base w w' → v' ≠ .slice none 0 0 → wpList Try.prog ops Q rest (a.put o.dst v') w') : wpList Try.prog ops Q (o :: rest) a w :=
  wpList_plain hgd fun K hK => by
    obtain ⟨v', w', hr, h2, h3, h4⟩ := run_append_z w base g cap L n hown hsm hbase o.type
    unfold Oper.wp execOp
    simp only [ho, resolve, invoke, builtin, Sem.run_bind, Sem.run_pure, Result.andThen_ok, List.map_toArray, List.map_cons, List.map_nil, hs, hx, hr]
    exact hK _ _ (h v' w' h2 h3 h4)

end Go.Proofs.Ytiegkdkbkkbjpaa
