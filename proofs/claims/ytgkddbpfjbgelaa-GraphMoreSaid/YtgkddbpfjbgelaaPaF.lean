/-
  Blocks: block of the package parse; the two by induction.
-/
import Derived.Test.YtgkddbpfjbgelaaPaE
namespace Go.Proofs.Ytgkddbpfjbgelaa
set_option maxRecDepth 100000
set_option linter.unusedVariables false
open Go.RowKit Go.Sort

theorem infoS : (Try.prog.info? 52).map (fun i => (i.zero, i.size, i.bytes)) = some (some (.agg #[.int .i64 0, .int .i64 0, .string ⟨#[]⟩, .slice none 0 0, .slice none 0 0]), 5, 80) := by kernel_rfl

def ownL (v : Value) : List Nat := match v.ownBlock with
  | some g => [g]
  | none => []
theorem grown_only {w w' : World} {v : Value} (h : w.grownBy w' v.ownBlock) : Only (ownL v) w w' :=
  ⟨h.os, h.tape, h.output, h.size, fun k hk hn => h.block k hk (fun e => hn (by unfold ownL; rw [← e]; simp))⟩
theorem mem_ownL {v : Value} {g : Nat} : g ∈ ownL v ↔ v.ownBlock = some g := by
  unfold ownL
  cases h : v.ownBlock with
  | none => simp
  | some x => simp [eq_comm]

/-- One statement appended to a row that grows. -/
theorem wpList_append_s {w : World} {ops : Array Oper} {rest : List Oper} {o : Oper} {a : Act} {Q : Exit → Act → World → Prop} (hgd : o.guard = none) (s x : Operand)
    (ho : o.op = .call { callee := .builtin .append, args := #[s, x], argTypes := #[43, 43] })
    (w0 w1 : World) (S : List Nat) (v : Value) (b : Blk) (fp : List Nat) (hs : a.eval s = v) (hown : GrowB w0 w1 v b fp) (hO : Only S w1 w) (hS : ∀ k ∈ S, k < w0.heap.size) (h01 : w0.heap.size ≤ w1.heap.size)
    (q c : Nat) (st : StmM) (va vb : Value) (fa fb : List Nat) (hx : a.eval x = .slice (some ⟨q, 0, none⟩) 1 c)
    (hc0 : w.cell? ⟨q, 0, none⟩ = some (.int .i64 st.kind)) (hc1 : w.cell? ⟨q, 1, none⟩ = some (.int .i64 st.at_)) (hc2 : w.cell? ⟨q, 2, none⟩ = some (encStr st.name)) (hc3 : w.cell? ⟨q, 3, none⟩ = some va) (hc4 : w.cell? ⟨q, 4, none⟩ = some vb)
    (hA : BlkAt w va st.a fa) (hB : BlkAt w vb st.b fb) (hN : NewB w1 w (fa ++ fb)) (hsm : b.len ≤ 1000000)
    (h : ∀ v' w', GrowB w0 w' v' (b.app st.one) (fp ++ (fa ++ fb)) → Only (ownL v) w w' → wpList Try.prog ops Q rest (a.put o.dst v') w') : wpList Try.prog ops Q (o :: rest) a w := by
  obtain ⟨i0, hi, hz0, hz1, hz2⟩ := info_parts infoS
  have hown1 := hown
  obtain ⟨xs, h1, h2, h3, h4⟩ := hown.keep hO hS
  have hsz := hO.size
  refine wpList_append_own_at w hgd s x _ ho w0.heap.size _ i0 _ 5 80 Try.underlying43 hi hz0 hz1 hz2 rfl (by decide) v b.len xs hs h1 ⟨q, 0, none⟩ 1 c [.int .i64 st.kind, .int .i64 st.at_, encStr st.name, va, vb] hx rfl (fun j u hu => ?_) (fun u hu => ?_) (by unfold maxLen; omega) (by omega) (Nat.le_trans h01 hsz) (fun v' w' k2 k3 k4 k5 => h v' w' ?_ (grown_only k3))
  · rw [Addr.add_mid]
    match j, hu with
    | 0, hu => simp at hu; rw [← hu]; exact hc0
    | 1, hu => simp at hu; rw [← hu]; exact hc1
    | 2, hu => simp at hu; rw [← hu]; exact hc2
    | 3, hu => simp at hu; rw [← hu]; exact hc3
    | 4, hu => simp at hu; rw [← hu]; exact hc4
    | n + 5, hu => simp at hu
  · simp only [List.mem_cons, List.not_mem_nil, or_false] at hu
    rcases hu with rfl | rfl | rfl | rfl | rfl
    · rfl
    · rfl
    · rfl
    · exact RowE.one hA
    · exact RowE.one hB
  · have hg := grown_only k3
    -- the row's own block is older than what is below the new statement, and other than what is below the row
    obtain ⟨xs1, o1, e1, n1, u1⟩ := hown1
    have hold : ∀ g, v.ownBlock = some g → g < w1.heap.size := fun g hgg => (World.ownsRow.lt o1 g hgg).2
    have hfp : ∀ k ∈ fp, k < w1.heap.size := fun k hk => (n1.2 k hk).2
    have hdf : ∀ k ∈ fp, k ∉ ownL v := fun k hk hm => (h4 k (mem_ownL.1 hm)).1 hk
    have hdn : ∀ k ∈ fa ++ fb, k ∉ ownL v := fun k hk hm => by
      have := hold k (mem_ownL.1 hm); have := (hN.2 k hk).1; omega
    refine ⟨xs ++ [.int .i64 st.kind, .int .i64 st.at_, encStr st.name, va, vb], ?_, ?_, ?_, ?_⟩
    · rw [Blk.len_app]; exact k2
    · refine EncB.app (h2.keep hg hdf) (EncB.one_ st (hA.keep hg (fun k hk => hdn k (by simp [hk]))) (hB.keep hg (fun k hk => hdn k (by simp [hk]))))
    · exact (n1.app (w := w) hN h01 hsz).more hg.size
    · intro g hgg
      refine ⟨fun hm => ?_, by rw [Blk.len_app]; simp [StmM.one, Blk.len]⟩
      rcases k5 with h5 | h5
      · rw [h5] at hgg
        rcases List.mem_append.1 hm with hm | hm
        · exact (h4 g hgg).1 hm
        · exact hdn g hm (mem_ownL.2 hgg)
      · rw [h5] at hgg
        injection hgg with hgg
        rcases List.mem_append.1 hm with hm | hm
        · have := hfp g hm; omega
        · have := (hN.2 g hm).2; omega

def thenB (acc : Blk) : PR (Blk × List Tok) → PR (Blk × List Tok)
  | .ok (b, r) => .ok (acc.app b, r)
  | .error y => .error y
def rdLen (w : World) (p : Nat) : Nat := match w.cell? ⟨p, 0, none⟩ with
  | some (.slice _ n _) => n
  | _ => 0
section
variable {f d e k : Nat} {t : Tok} {l r r1 : List Tok} {acc : Blk} {s : StmM} {y : Nat × Nat}
theorem block_bad (h : (nextT l e).kind ≠ 2) : blockF (f + 1) d e l = .error ((nextT l e).at_, 7) := by
  cases l with
  | nil => simp [blockF, nextT]
  | cons t r => rw [blockF, if_pos (by simpa [nextT] using h)]; rfl
theorem block_deep (h : (nextT l e).kind = 2) (hd : 20 ≤ d) : blockF (f + 1) d e l = .error ((nextT l e).at_, 8) := by
  cases l with
  | nil => simp [nextT] at h
  | cons t r => rw [blockF, if_neg (by simpa [nextT] using h), if_pos hd]; rfl
theorem block_in (h : (nextT l e).kind = 2) (hd : ¬ 20 ≤ d) : blockF (f + 1) d e l = thenB .nil (stmtsF f (d + 1) e l.tail) ∧ l.length = l.tail.length + 1 := by
  cases l with
  | nil => simp [nextT] at h
  | cons t r =>
    refine ⟨?_, rfl⟩
    rw [blockF, if_neg (by simpa [nextT] using h), if_neg hd, List.tail_cons]
    cases stmtsF f (d + 1) e r <;> rfl
theorem stmts_end (h : (nextT r e).kind = 3) : thenB acc (stmtsF (k + 1) d e r) = .ok (acc, r.tail) := by
  cases r with
  | nil => simp [nextT] at h
  | cons t r =>
    simp only [nextT] at h
    rw [stmtsF]
    simp only [List.head?_cons, Option.map_some, h, List.tail_cons, thenB, Blk.app_nil]
theorem stmts_kind (h : (nextT r e).kind ≠ 3) : r.head?.map (·.kind) ≠ some 3 := by
  cases r with
  | nil => simp
  | cons t r => simpa [nextT] using h
theorem stmts_err (h : (nextT r e).kind ≠ 3) (hs : stmtF k d e r = .error y) : thenB acc (stmtsF (k + 1) d e r) = .error y := by
  rw [stmtsF]
  split
  · rename_i h3; exact absurd h3 (stmts_kind h)
  · rw [hs]; rfl
theorem stmts_one (h : (nextT r e).kind ≠ 3) (hs : stmtF k d e r = .ok (s, r1)) : thenB acc (stmtsF (k + 1) d e r) = thenB (acc.app s.one) (stmtsF k d e r1) := by
  rw [stmtsF]
  split
  · rename_i h3; exact absurd h3 (stmts_kind h)
  · rw [hs]
    simp only
    cases stmtsF k d e r1 with
    | error y => rfl
    | ok q => obtain ⟨b, r2⟩ := q; simp only [thenB, Blk.app_assoc]; rfl
theorem stmt_lent (h : stmtF f d e l = .ok (s, r1)) : r1.length < l.length := (parse_len f).2.1 _ _ _ _ _ h
end

end Go.Proofs.Ytgkddbpfjbgelaa
