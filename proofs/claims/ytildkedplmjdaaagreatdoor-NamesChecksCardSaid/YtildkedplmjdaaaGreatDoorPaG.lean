/-
  Programs in memory: declarations, functions; rows of them that grow.
-/
import Derived.Test.YtildkedplmjdaaaGreatDoorPaE
namespace Go.Proofs.YtildkedplmjdaaaGreatDoor
set_option maxRecDepth 100000
set_option linter.unusedVariables false
open Go.RowKit Go.Sort

theorem infoS : (Tryz.prog.info? 85).map (fun i => (i.zero, i.size, i.bytes)) = some (some (.agg #[.int .i64 0, .int .i64 0, .string ⟨#[]⟩, .slice none 0 0, .slice none 0 0]), 5, 80) := by kernel_rfl

def ownL (v : Value) : List Nat := match v.ownBlock with
  | some g => [g]
  | none => []
theorem grown_only {w w' : World} {v : Value} (h : w.grownBy w' v.ownBlock) : Only (ownL v) w w' :=
  ⟨h.os, h.tape, h.output, h.size, fun k hk hn => h.block k hk (fun e => hn (by unfold ownL; rw [← e]; simp))⟩
theorem mem_ownL {v : Value} {g : Nat} : g ∈ ownL v ↔ v.ownBlock = some g := by
  unfold ownL
  cases h : v.ownBlock with
  | none => simp
  | some x => simp [eq_comm]

/-- One statement appended to a row that grows. -/
theorem wpList_append_s {w : World} {ops : Array Oper} {rest : List Oper} {o : Oper} {a : Act} {Q : Exit → Act → World → Prop} (hgd : o.guard = none) (s x : Operand)
    (ho : o.op = .call { callee := .builtin .append, args := #[s, x], argTypes := #[48, 48] })
    (w0 w1 : World) (S : List Nat) (v : Value) (b : Blk) (fp : List Nat) (hs : a.eval s = v) (hown : GrowB w0 w1 v b fp) (hO : Only S w1 w) (hS : ∀ k ∈ S, k < w0.heap.size) (h01 : w0.heap.size ≤ w1.heap.size)
    (q c : Nat) (st : StmM) (va vb : Value) (fa fb : List Nat) (hx : a.eval x = .slice (some ⟨q, 0, none⟩) 1 c)
    (hc0 : w.cell? ⟨q, 0, none⟩ = some (.int .i64 st.kind)) (hc1 : w.cell? ⟨q, 1, none⟩ = some (.int .i64 st.at_)) (hc2 : w.cell? ⟨q, 2, none⟩ = some (encStr st.name)) (hc3 : w.cell? ⟨q, 3, none⟩ = some va) (hc4 : w.cell? ⟨q, 4, none⟩ = some vb)
    (hA : BlkAt w va st.a fa) (hB : BlkAt w vb st.b fb) (hN : NewB w1 w (fa ++ fb)) (hsm : b.len ≤ 1000000)
    (h : ∀ v' w', GrowB w0 w' v' (b.app st.one) (fp ++ (fa ++ fb)) → Only (ownL v) w w' → wpList Tryz.prog ops Q rest (a.put o.dst v') w') : wpList Tryz.prog ops Q (o :: rest) a w := by
  obtain ⟨i0, hi, hz0, hz1, hz2⟩ := info_parts infoS
  have hown1 := hown
  obtain ⟨xs, h1, h2, h3, h4⟩ := hown.keep hO hS
  have hsz := hO.size
  refine wpList_append_own_at w hgd s x _ ho w0.heap.size _ i0 _ 5 80 Tryz.underlying48 hi hz0 hz1 hz2 rfl (by decide) v b.len xs hs h1 ⟨q, 0, none⟩ 1 c [.int .i64 st.kind, .int .i64 st.at_, encStr st.name, va, vb] hx rfl (fun j u hu => ?_) (fun u hu => ?_) (by unfold maxLen; omega) (by omega) (Nat.le_trans h01 hsz) (fun v' w' k2 k3 k4 k5 => h v' w' ?_ (grown_only k3))
  · rw [Addr.add_mid]
    match j, hu with
    | 0, hu => simp at hu; rw [← hu]; exact hc0
    | 1, hu => simp at hu; rw [← hu]; exact hc1
    | 2, hu => simp at hu; rw [← hu]; exact hc2
    | 3, hu => simp at hu; rw [← hu]; exact hc3
    | 4, hu => simp at hu; rw [← hu]; exact hc4
    | n + 5, hu => simp at hu
  · simp only [List.mem_cons, List.not_mem_nil, or_false] at hu
    rcases hu with rfl | rfl | rfl | rfl | rfl
    · rfl
    · rfl
    · rfl
    · exact RowE.one hA
    · exact RowE.one hB
  · have hg := grown_only k3
    -- the row's own block is older than what is below the new statement, and other than what is below the row
    obtain ⟨xs1, o1, e1, n1, u1⟩ := hown1
    have hold : ∀ g, v.ownBlock = some g → g < w1.heap.size := fun g hgg => (World.ownsRow.lt o1 g hgg).2
    have hfp : ∀ k ∈ fp, k < w1.heap.size := fun k hk => (n1.2 k hk).2
    have hdf : ∀ k ∈ fp, k ∉ ownL v := fun k hk hm => (h4 k (mem_ownL.1 hm)).1 hk
    have hdn : ∀ k ∈ fa ++ fb, k ∉ ownL v := fun k hk hm => by
      have := hold k (mem_ownL.1 hm); have := (hN.2 k hk).1; omega
    refine ⟨xs ++ [.int .i64 st.kind, .int .i64 st.at_, encStr st.name, va, vb], ?_, ?_, ?_, ?_⟩
    · rw [Blk.len_app]; exact k2
    · refine EncB.app (h2.keep hg hdf) (EncB.one_ st (hA.keep hg (fun k hk => hdn k (by simp [hk]))) (hB.keep hg (fun k hk => hdn k (by simp [hk]))))
    · exact (n1.app (w := w) hN h01 hsz).more hg.size
    · intro g hgg
      refine ⟨fun hm => ?_, by rw [Blk.len_app]; simp [StmM.one, Blk.len]⟩
      rcases k5 with h5 | h5
      · rw [h5] at hgg
        rcases List.mem_append.1 hm with hm | hm
        · exact (h4 g hgg).1 hm
        · exact hdn g hm (mem_ownL.2 hgg)
      · rw [h5] at hgg
        injection hgg with hgg
        rcases List.mem_append.1 hm with hm | hm
        · have := hfp g hm; omega
        · have := (hN.2 g hm).2; omega

def thenB (acc : Blk) : PR (Blk × List Tok) → PR (Blk × List Tok)
  | .ok (b, r) => .ok (acc.app b, r)
  | .error y => .error y
def rdLen (w : World) (p : Nat) : Nat := match w.cell? ⟨p, 0, none⟩ with
  | some (.slice _ n _) => n
  | _ => 0
theorem RdAt.rd {w : World} {p : Nat} {l : List Tok} {e : Nat} (h : RdAt w p l e) : rdLen w p = l.length := by
  obtain ⟨a, c, hb, -⟩ := h
  unfold rdLen
  rw [hb.cell 0]
  rfl
theorem RdAt.short {w : World} {p : Nat} {l : List Tok} {e : Nat} (h : RdAt w p l e) : l.length ≤ 1000000 := by
  obtain ⟨a, c, hb, _, hm, -⟩ := h
  exact hm.1

section
variable {f d e k : Nat} {t : Tok} {l r r1 : List Tok} {acc : Blk} {s : StmM} {y : Nat × Nat}
theorem block_bad (h : (nextT l e).kind ≠ 2) : blockF (f + 1) d e l = .error ((nextT l e).at_, 7) := by
  cases l with
  | nil => simp [blockF, nextT]
  | cons t r => rw [blockF, if_pos (by simpa [nextT] using h)]; rfl
theorem block_deep (h : (nextT l e).kind = 2) (hd : 20 ≤ d) : blockF (f + 1) d e l = .error ((nextT l e).at_, 8) := by
  cases l with
  | nil => simp [nextT] at h
  | cons t r => rw [blockF, if_neg (by simpa [nextT] using h), if_pos hd]; rfl
theorem block_in (h : (nextT l e).kind = 2) (hd : ¬ 20 ≤ d) : blockF (f + 1) d e l = thenB .nil (stmtsF f (d + 1) e l.tail) ∧ l.length = l.tail.length + 1 := by
  cases l with
  | nil => simp [nextT] at h
  | cons t r =>
    refine ⟨?_, rfl⟩
    rw [blockF, if_neg (by simpa [nextT] using h), if_neg hd, List.tail_cons]
    cases stmtsF f (d + 1) e r <;> rfl
theorem stmts_end (h : (nextT r e).kind = 3) : thenB acc (stmtsF (k + 1) d e r) = .ok (acc, r.tail) := by
  cases r with
  | nil => simp [nextT] at h
  | cons t r =>
    simp only [nextT] at h
    rw [stmtsF]
    simp only [List.head?_cons, Option.map_some, h, List.tail_cons, thenB, Blk.app_nil]
theorem stmts_kind (h : (nextT r e).kind ≠ 3) : r.head?.map (·.kind) ≠ some 3 := by
  cases r with
  | nil => simp
  | cons t r => simpa [nextT] using h
theorem stmts_err (h : (nextT r e).kind ≠ 3) (hs : stmtF k d e r = .error y) : thenB acc (stmtsF (k + 1) d e r) = .error y := by
  rw [stmtsF]
  split
  · rename_i h3; exact absurd h3 (stmts_kind h)
  · rw [hs]; rfl
theorem stmts_one (h : (nextT r e).kind ≠ 3) (hs : stmtF k d e r = .ok (s, r1)) : thenB acc (stmtsF (k + 1) d e r) = thenB (acc.app s.one) (stmtsF k d e r1) := by
  rw [stmtsF]
  split
  · rename_i h3; exact absurd h3 (stmts_kind h)
  · rw [hs]
    simp only
    cases stmtsF k d e r1 with
    | error y => rfl
    | ok q => obtain ⟨b, r2⟩ := q; simp only [thenB, Blk.app_assoc]; rfl
theorem stmt_lent (h : stmtF f d e l = .ok (s, r1)) : r1.length < l.length := (parse_len f).2.1 _ _ _ _ _ h
end

set_option maxHeartbeats 8000000 in
theorem block_step (f : Nat) (ih : ∀ f' < f, ∀ (w : World) (p e d : Nat) (l : List Tok), RdAt w p l e → 2 * l.length + 1 ≤ f' → d ≤ 20 → Calls Tryz.prog 102 #[.pointer (some ⟨p, 0, none⟩), .int .i64 d] w (BlockTo w p e (blockF f' d e l)))
    (w : World) (p e d : Nat) (l : List Tok) (h : RdAt w p l e) (hf : 2 * l.length + 1 ≤ f) (hd : d ≤ 20) :
    Calls Tryz.prog 102 #[.pointer (some ⟨p, 0, none⟩), .int .i64 d] w (BlockTo w p e (blockF f d e l)) := by
  have H := Lib.hid h
  have hp := h.lt
  have hl := h.short
  clear h
  obtain ⟨f, rfl⟩ : ∃ g, f = g + 1 := ⟨f - 1, by omega⟩
  have Hbad := Lib.hid (@block_bad f d e l)
  have Hdeep := Lib.hid (@block_deep f d e l)
  have Hin := Lib.hid (@block_in f d e l)
  go_enter Tryz.func102, Tryz.ntmps102
  go_wp2_with fail
  refine (take_any _ p l e H.out).mono ?_
  rintro r w1 ⟨rfl, hR, hO1⟩
  have hq := IsBlk.made w1 (.cells #[.int .i64 (nextT l e).kind, .int .i64 (nextT l e).at_, encStr (nextT l e).s] 93)
  have HR := Lib.hid (hR.more ((Only.refl [] w1).alloc (.cells #[.int .i64 (nextT l e).kind, .int .i64 (nextT l e).at_, encStr (nextT l e).s] 93)))
  have HO := Lib.hid (hO1.then ((Only.refl [] w1).alloc (.cells #[.int .i64 (nextT l e).kind, .int .i64 (nextT l e).at_, encStr (nextT l e).s] 93)) [p] (by simp) (by simp))
  clear hR hO1
  unfold tokV encStr
  unfold encStr at hq HR HO
  go_upto_region 2 with fail
  generalize hW : w1.alloc (.cells #[.int .i64 (nextT l e).kind, .int .i64 (nextT l e).at_, .string ⟨(nextT l e).s.toArray⟩] 93) = w2 at *
  clear hW
  generalize hbf : blockF (f + 1) d e l = X at *
  clear hbf
  generalize (nextT l e).kind = kk at *
  generalize (nextT l e).at_ = aa at *
  generalize (nextT l e).s = ss at *
  have q0 := hq.cell 0
  have q1 := hq.cell 1
  have hq2 := hq.lt
  by_cases hk : kk = 2
  · have hki : (kk : Int) = 2 := by omega
    by_cases hdd : 20 ≤ d
    · have hdi : (20 : Int) ≤ (d : Int) := by omega
      have HX := Lib.hid (Hdeep.out hk hdd)
      clear Hbad Hdeep Hin
      go_wp2
      refine ⟨rfl, ?_⟩
      rw [HX.out]
      exact ⟨rfl, HO.out⟩
    · have hdi : ¬ (20 : Int) ≤ (d : Int) := by omega
      obtain ⟨hX, hlen⟩ := Hin.out hk hdd
      have HX := Lib.hid hX
      have Hlen := Lib.hid hlen
      clear Hbad Hdeep Hin hX hlen
      subst hk
      have hdw : ¬ (20 : Int) ≤ (d : Int) := hdi
      have hwp := HO.out.size
      go_wp2_with fail
      clear hq q0 q1 hq2
      go_loopw [6] (fun v wr => ∃ (acc : Blk) (fp : List Nat) (r : List Tok) (k : Nat), GrowB w wr v acc fp ∧ RdAt wr p r e ∧ Only [p] w wr ∧ 2 * r.length + 2 ≤ k ∧ k ≤ f ∧ acc.len + r.length ≤ 1000000 ∧ Hid (X = thenB acc (stmtsF k (d + 1) e r))) (fun _ wr => rdLen wr p)
      case atStart => exact ⟨.nil, [], l.tail, f, GrowB.nil _ _, HR.out, HO.out, by have := Hlen.out; omega, Nat.le_refl _, by have := Hlen.out; simp only [Blk.len]; omega, HX⟩
      case round =>
        obtain ⟨acc, fp, r, k, hg, hR, hO, hk2, hkf, hal, hX⟩ := hrel
        have Hg := Lib.hid hg
        have HRr := Lib.hid hR
        have HOr := Lib.hid hO
        have hrd := Lib.hid hR.rd
        clear hg hR hO HR HO HX Hlen
        have hpr := HRr.out.lt
        go_wp2_with fail
        refine (next_any _ p r e HRr.out).mono ?_
        rintro r0 w3 ⟨rfl, hO3⟩
        have HR3 := Lib.hid (HRr.out.more hO3)
        have Hg3 := Lib.hid (Hg.out.more hO3)
        have HO3 := Lib.hid (HOr.out.plus hO3)
        clear hO3 HRr Hg HOr
        unfold tokV encStr
        have hfd : ∀ (x y z : Value) (w : World), (Instr.field 93 (.agg #[x, y, z]) 0).run Tryz.prog w = .ok x w := fun _ _ _ _ => by kernel_rfl
        obtain ⟨k, rfl⟩ : ∃ g, k = g + 1 := ⟨k - 1, by omega⟩
        by_cases h3 : (nextT r e).kind = 3
        · have h3i : ((nextT r e).kind : Int) = 3 := by omega
          have HX := Lib.hid (hX.out.trans (stmts_end h3))
          clear hX h3
          generalize (nextT r e).kind = k3 at *
          generalize (nextT r e).at_ = a3 at *
          generalize (nextT r e).s = s3 at *
          go_wp2_with fail
          refine (take_any _ p r e HR3.out).mono ?_
          rintro r0 w4 ⟨rfl, hR4, hO4⟩
          have HR4 := Lib.hid hR4
          have Hg4 := Lib.hid (Hg3.out.keep hO4 (by simp; omega))
          have HO4 := Lib.hid (HO3.out.then hO4 [p] (by simp) (by simp))
          clear hR4 hO4 HR3 Hg3 HO3
          unfold tokV encStr
          go_wp2
          go_ret
          rw [HX.out]
          obtain ⟨fq, hb, hn⟩ := Hg4.out.done
          exact ⟨_, fq, rfl, hb, hn, HR4.out, HO4.out⟩
        · have h3i : ¬ ((nextT r e).kind : Int) = 3 := by omega
          have Herr := Lib.hid (fun (y : Nat × Nat) (h : stmtF k (d + 1) e r = .error y) => hX.out.trans (stmts_err (acc := acc) h3 h))
          have Hone := Lib.hid (fun (s : StmM) (r1 : List Tok) (h : stmtF k (d + 1) e r = .ok (s, r1)) => hX.out.trans (stmts_one (acc := acc) h3 h))
          clear hX h3
          generalize (nextT r e).kind = k3 at *
          generalize (nextT r e).at_ = a3 at *
          generalize (nextT r e).s = s3 at *
          obtain ⟨k, rfl⟩ : ∃ g, k = g + 1 := ⟨k - 1, by omega⟩
          go_wp2_with fail
          have hst := stm_any k (fun w p e d l a b c => ih k (by omega) w p e d l a b c) w3 p e (d + 1) r HR3.out (by omega) (by omega)
          rw [show ((d + 1 : Nat) : Int) = (d : Int) + 1 by omega] at hst
          refine hst.mono ?_
          clear hst
          cases hs : stmtF (k + 1) (d + 1) e r with
          | error y =>
            rintro r0 w4 ⟨rfl, hO4⟩
            refine ⟨rfl, ?_⟩
            rw [Herr.out y hs]
            exact ⟨rfl, HO3.out.then hO4 [p] (by simp) (by simp)⟩
          | ok q =>
            obtain ⟨s, r1⟩ := q
            have HX := Lib.hid (Hone.out s r1 hs)
            have hlt := stmt_lent hs
            rintro r0 w4 ⟨va, vb, fa, fb, rfl, hA, hB, hN, hR4, hO4⟩
            have HA := Lib.hid hA
            have HB := Lib.hid hB
            have HN := Lib.hid hN
            have HR4 := Lib.hid hR4
            have HO4 := Lib.hid hO4
            clear hA hB hN hR4 hO4 Herr Hone hs ih
            unfold stmV encStr
            have hq := IsBlk.made w4 (.cells #[.int .i64 s.kind, .int .i64 s.at_, encStr s.name, va, vb] 85)
            have hOa := Lib.hid ((Only.refl [] w4).alloc (.cells #[.int .i64 s.kind, .int .i64 s.at_, encStr s.name, va, vb] 85))
            have Hq0 := Lib.hid (hq.cell 0)
            have Hq1 := Lib.hid (hq.cell 1)
            have Hq2 := Lib.hid (hq.cell 2)
            have Hq3 := Lib.hid (hq.cell 3)
            have Hq4 := Lib.hid (hq.cell 4)
            have h03 := HO3.out.size
            have hac : acc.len ≤ 1000000 := by omega
            clear hq
            go_wp2_with (at_builtin; refine wpList_append_s rfl _ _ rfl w w3 [p] u6 acc fp rfl Hg3.out (HO4.out.then hOa.out [p] (by simp) (by simp)) (by simp; omega) h03 w4.heap.size 1 s va vb fa fb rfl Hq0.out Hq1.out Hq2.out Hq3.out Hq4.out (HA.out.more hOa.out) (HB.out.more hOa.out) (HN.out.more hOa.out.size) hac ?_; intro v' w5 h5 hg5)
            go_roundw
            case rel =>
              have hvg : ∀ g ∈ ownL u6, p < g := fun g hg => by
                obtain ⟨xs, o1, -⟩ := Hg3.out
                have := (World.ownsRow.lt o1 g (mem_ownL.1 hg)).1
                omega
              refine ⟨acc.app s.one, fp ++ (fa ++ fb), r1, k + 1, h5, (HR4.out.more hOa.out).keep hg5 hvg, (HO3.out.then HO4.out [p] (by simp) (by simp)).then (hOa.out.then hg5 (ownL u6) (by simp) (fun i hi => .inl hi)) [p] (by simp) (fun g hg => .inr (by
                obtain ⟨xs, o1, -⟩ := Hg3.out
                exact (World.ownsRow.lt o1 g (mem_ownL.1 hg)).1)), by omega, by omega, by rw [Blk.len_app]; simp only [StmM.one, Blk.len]; omega, HX⟩
            case measure =>
              have hvg : ∀ g ∈ ownL u6, p < g := fun g hg => by
                obtain ⟨xs, o1, -⟩ := Hg3.out
                have := (World.ownsRow.lt o1 g (mem_ownL.1 hg)).1
                omega
              rw [((HR4.out.more hOa.out).keep hg5 hvg).rd, hrd.out]
              omega
  · have hki : ¬ (kk : Int) = 2 := by omega
    have HX := Lib.hid (Hbad.out hk)
    clear Hbad Hdeep Hin
    go_wp2
    refine ⟨rfl, ?_⟩
    rw [HX.out]
    exact ⟨rfl, HO.out⟩

theorem pblock_any (f : Nat) : ∀ (w : World) (p e d : Nat) (l : List Tok), RdAt w p l e → 2 * l.length + 1 ≤ f → d ≤ 20 → Calls Tryz.prog 102 #[.pointer (some ⟨p, 0, none⟩), .int .i64 d] w (BlockTo w p e (blockF f d e l)) := by
  induction f using Nat.strongRecOn with
  | _ f ih => exact block_step f ih

end Go.Proofs.YtildkedplmjdaaaGreatDoor
namespace Go.Proofs.YtildkedplmjdaaaGreatDoor
set_option maxRecDepth 100000
set_option linter.unusedVariables false
open Go.RowKit Go.Sort

theorem infoD : (Tryz.prog.info? 59).map (fun i => (i.zero, i.size, i.bytes)) = some (some (.agg #[.string ⟨#[]⟩, .int .i64 0]), 2, 24) := by kernel_rfl
theorem infoFn : (Tryz.prog.info? 51).map (fun i => (i.zero, i.size, i.bytes)) = some (some (.agg #[.string ⟨#[]⟩, .int .i64 0, .slice none 0 0]), 3, 48) := by kernel_rfl

/-- Declarations' cells. -/
def dcells (l : List DeclM) : List Value := l.flatMap fun d => [encStr d.name, .int .i64 d.at_]
theorem length_dcells (l : List DeclM) : (dcells l).length = l.length * 2 := by
  induction l with
  | nil => rfl
  | cons f r ih => simp [dcells] at ih ⊢; omega
theorem dcells_snoc (l : List DeclM) (d : DeclM) : dcells (l ++ [d]) = dcells l ++ [encStr d.name, .int .i64 d.at_] := by simp [dcells]
/-- A slice of declarations, to be read. -/
def DeclsAt (w : World) (v : Value) (l : List DeclM) : Prop :=
  ∃ a c, v = .slice a l.length c ∧ l.length ≤ c ∧ (0 < l.length → ∃ g, a = some ⟨g, 0, none⟩ ∧ g < w.heap.size ∧ w.rangeAt g 0 (dcells l))
theorem DeclsAt.more {w w' : World} {v : Value} {l : List DeclM} (h : DeclsAt w v l) (hO : Only [] w w') : DeclsAt w' v l := by
  obtain ⟨a, c, rfl, hc, h⟩ := h
  refine ⟨a, c, rfl, hc, fun hp => ?_⟩
  obtain ⟨g, rfl, hg, hr⟩ := h hp
  exact ⟨g, rfl, Nat.lt_of_lt_of_le hg hO.size, rangeAt_only hr hO hg (by simp)⟩

/-- Functions' cells. -/
def EncF (w : World) : List FuncM → List Value → List Nat → Prop
  | [], xs, fp => xs = [] ∧ fp = []
  | f :: r, xs, fp => ∃ va fa fr xr, xs = encStr f.name :: .int .i64 f.at_ :: va :: xr ∧ fp = fa ++ fr ∧ BlkAt w va f.body fa ∧ fa.Nodup ∧ EncF w r xr fr
theorem EncF.len {w : World} : ∀ {l : List FuncM} {xs : List Value} {fp : List Nat}, EncF w l xs fp → xs.length = l.length * 3
  | [], xs, fp, h => by rw [h.1]; rfl
  | f :: r, xs, fp, h => by
    obtain ⟨va, fa, fr, xr, rfl, rfl, h1, _, h3⟩ := h
    have := EncF.len h3
    simp only [List.length_cons]
    omega
theorem EncF.keep {w w' : World} {S : List Nat} (hO : Only S w w') : ∀ {l : List FuncM} {xs : List Value} {fp : List Nat}, EncF w l xs fp → (∀ k ∈ fp, k ∉ S) → EncF w' l xs fp
  | [], xs, fp, h, _ => h
  | f :: r, xs, fp, h, hS => by
    obtain ⟨va, fa, fr, xr, rfl, rfl, h1, hn, h3⟩ := h
    exact ⟨va, fa, fr, xr, rfl, rfl, h1.keep hO (fun k hk => hS k (by simp [hk])), hn, EncF.keep hO h3 (fun k hk => hS k (by simp [hk]))⟩
theorem EncF.snoc {w : World} {f : FuncM} {va : Value} {fa : List Nat} (ha : BlkAt w va f.body fa) (hn : fa.Nodup) : ∀ {l : List FuncM} {xs : List Value} {fp : List Nat}, EncF w l xs fp → EncF w (l ++ [f]) (xs ++ [encStr f.name, .int .i64 f.at_, va]) (fp ++ fa)
  | [], xs, fp, h => by obtain ⟨rfl, rfl⟩ := h; exact ⟨va, fa, [], [], rfl, by simp, ha, hn, rfl, rfl⟩
  | g :: r, xs, fp, h => by
    obtain ⟨vb, fb, fr, xr, rfl, rfl, h1, hn1, h3⟩ := h
    exact ⟨vb, fb, fr ++ fa, xr ++ [encStr f.name, .int .i64 f.at_, va], by simp, by simp, h1, hn1, EncF.snoc ha hn h3⟩
/-- A slice of functions, to be read. -/
def FuncsAt (w : World) (v : Value) (l : List FuncM) : Prop :=
  ∃ a c, v = .slice a l.length c ∧ l.length ≤ c ∧ (0 < l.length → ∃ g xs fp, a = some ⟨g, 0, none⟩ ∧ g < w.heap.size ∧ w.rangeAt g 0 xs ∧ EncF w l xs fp)
theorem FuncsAt.more {w w' : World} {v : Value} {l : List FuncM} (h : FuncsAt w v l) (hO : Only [] w w') : FuncsAt w' v l := by
  obtain ⟨a, c, rfl, hc, h⟩ := h
  refine ⟨a, c, rfl, hc, fun hp => ?_⟩
  obtain ⟨g, xs, fp, rfl, hg, hr, he⟩ := h hp
  exact ⟨g, xs, fp, rfl, Nat.lt_of_lt_of_le hg hO.size, rangeAt_only hr hO hg (by simp), he.keep hO (by simp)⟩

/-- A program as a value. -/
def ProgAt (w : World) (vv vl vf : Value) (p : ProgM) : Prop := DeclsAt w vv p.vars ∧ DeclsAt w vl p.locks ∧ FuncsAt w vf p.funcs
theorem ProgAt.more {w w' : World} {vv vl vf : Value} {p : ProgM} (h : ProgAt w vv vl vf p) (hO : Only [] w w') : ProgAt w' vv vl vf p := ⟨h.1.more hO, h.2.1.more hO, h.2.2.more hO⟩
theorem ProgAt.nil (w : World) : ProgAt w (.slice none 0 0) (.slice none 0 0) (.slice none 0 0) ⟨[], [], []⟩ :=
  ⟨⟨none, 0, rfl, Nat.le_refl _, fun h => by simp at h⟩, ⟨none, 0, rfl, Nat.le_refl _, fun h => by simp at h⟩, ⟨none, 0, rfl, Nat.le_refl _, fun h => by simp at h⟩⟩

/-- Two slices with one block: none. -/
def Apart (v u : Value) : Prop := ∀ g, v.ownBlock = some g → u.ownBlock ≠ some g
theorem apart_type {w : World} {base base' s s' n n' : Nat} {e e' : TypeId} {v v' : Value} {xs xs' : List Value} (h : w.ownsRow base e s v n xs) (h' : w.ownsRow base' e' s' v' n' xs') (hne : e ≠ e') : Apart v v' := by
  intro g hg hg'
  rcases h.2 with ⟨rfl, -⟩ | ⟨g1, cap, cur, rfl, hb, hgg, -⟩
  · simp [Value.ownBlock] at hg
  · rcases h'.2 with ⟨rfl, -⟩ | ⟨g2, cap2, cur2, rfl, hb2, hgg2, -⟩
    · simp [Value.ownBlock] at hg'
    · simp only [Value.ownBlock, Option.some.injEq] at hg hg'
      subst hg
      subst hg'
      rw [hgg] at hgg2
      injection hgg2 with hgg2
      injection hgg2 with _ h3 _
      exact hne h3

/-- A program's three rows, as they grow. -/
structure GrowP (w0 w : World) (vv vl vf : Value) (p : ProgM) (fp : List Nat) : Prop where
  vars : w.ownsRow w0.heap.size 59 2 vv p.vars.length (dcells p.vars)
  locks : w.ownsRow w0.heap.size 59 2 vl p.locks.length (dcells p.locks)
  funcs : ∃ xs, w.ownsRow w0.heap.size 51 3 vf p.funcs.length xs ∧ EncF w p.funcs xs fp
  new : NewB w0 w fp
  vl_ : Apart vv vl
  vb : ∀ g, vv.ownBlock = some g → g ∉ fp
  lb : ∀ g, vl.ownBlock = some g → g ∉ fp
  fb : ∀ g, vf.ownBlock = some g → g ∉ fp

theorem GrowP.nil (w0 w : World) : GrowP w0 w (.slice none 0 0) (.slice none 0 0) (.slice none 0 0) ⟨[], [], []⟩ [] :=
  ⟨⟨rfl, .inl ⟨rfl, rfl⟩⟩, ⟨rfl, .inl ⟨rfl, rfl⟩⟩, ⟨[], ⟨rfl, .inl ⟨rfl, rfl⟩⟩, rfl, rfl⟩, NewB.nil _ _, fun g h => by simp [Value.ownBlock] at h, fun g h => by simp [Value.ownBlock] at h, fun g h => by simp [Value.ownBlock] at h, fun g h => by simp [Value.ownBlock] at h⟩
theorem GrowP.keep {w0 w w' : World} {S : List Nat} {vv vl vf : Value} {p : ProgM} {fp : List Nat} (h : GrowP w0 w vv vl vf p fp) (hO : Only S w w') (hS : ∀ k ∈ S, k < w0.heap.size) : GrowP w0 w' vv vl vf p fp := by
  obtain ⟨h1, h2, ⟨xs, h3, h4⟩, h5, h6, h7, h8, h9⟩ := h
  exact ⟨owns_keep h1 hO hS, owns_keep h2 hO hS, ⟨xs, owns_keep h3 hO hS, h4.keep hO (fun k hk hm => by have := hS k hm; have := (h5.2 k hk).1; omega)⟩, h5.more hO.size, h6, h7, h8, h9⟩
theorem GrowP.more {w0 w w' : World} {vv vl vf : Value} {p : ProgM} {fp : List Nat} (h : GrowP w0 w vv vl vf p fp) (hO : Only [] w w') : GrowP w0 w' vv vl vf p fp := h.keep hO (by simp)

theorem owns_decls {w : World} {base : Nat} {v : Value} {l : List DeclM} (h : w.ownsRow base 59 2 v l.length (dcells l)) : DeclsAt w v l := by
  rcases h.2 with ⟨rfl, h0⟩ | ⟨g, cap, cur, rfl, hb, hg, hc, _⟩
  · exact ⟨none, 0, by rw [h0], by omega, fun hp => by omega⟩
  · refine ⟨_, cap, rfl, hc, fun _ => ⟨g, rfl, IsBlk.lt hg, fun j x hx => ?_⟩⟩
    have := World.ownsRow.cells h (g := g) rfl j x hx
    rw [Addr.add_mid] at this
    exact this
theorem GrowP.done {w0 w : World} {vv vl vf : Value} {p : ProgM} {fp : List Nat} (h : GrowP w0 w vv vl vf p fp) : ProgAt w vv vl vf p := by
  obtain ⟨xs, h3, h4⟩ := h.funcs
  refine ⟨owns_decls h.vars, owns_decls h.locks, ?_⟩
  rcases h3.2 with ⟨rfl, h0⟩ | ⟨g, cap, cur, rfl, hb, hg, hc, _⟩
  · exact ⟨none, 0, by rw [h0], by omega, fun hp => by omega⟩
  · refine ⟨_, cap, rfl, hc, fun _ => ⟨g, xs, fp, rfl, IsBlk.lt hg, fun j x hx => ?_, h4⟩⟩
    have := World.ownsRow.cells h3 (g := g) rfl j x hx
    rw [Addr.add_mid] at this
    exact this

/-- A row kept while another one grows. -/
theorem owns_apart {w w' : World} {base s n : Nat} {e : TypeId} {v u : Value} {xs : List Value} (h : w.ownsRow base e s v n xs) (hO : Only (ownL u) w w') (ha : Apart v u) : w'.ownsRow base e s v n xs := by
  refine ⟨h.1, ?_⟩
  rcases h.2 with hn | ⟨g, cap, cur, rfl, hb, hg, rest⟩
  · exact .inl hn
  · exact .inr ⟨g, cap, cur, rfl, hb, (hO.block g (IsBlk.lt hg) (fun hm => ha g rfl (mem_ownL.1 hm))).trans hg, rest⟩

/-- One declaration appended: to the variables (L = false), to the locks (L = true). -/
theorem wpList_append_d {w : World} {ops : Array Oper} {rest : List Oper} {o : Oper} {a : Act} {Q : Exit → Act → World → Prop} (hgd : o.guard = none) (s x : Operand)
    (ho : o.op = .call { callee := .builtin .append, args := #[s, x], argTypes := #[27, 27] })
    (base : Nat) (v : Value) (l : List DeclM) (hs : a.eval s = v) (hown : w.ownsRow base 59 2 v l.length (dcells l))
    (q c : Nat) (d : DeclM) (hx : a.eval x = .slice (some ⟨q, 0, none⟩) 1 c)
    (hc0 : w.cell? ⟨q, 0, none⟩ = some (encStr d.name)) (hc1 : w.cell? ⟨q, 1, none⟩ = some (.int .i64 d.at_)) (hsm : l.length ≤ 1000000) (hbase : base ≤ w.heap.size)
    (h : ∀ v' w', w'.ownsRow base 59 2 v' (l ++ [d]).length (dcells (l ++ [d])) → Only (ownL v) w w' → (v'.ownBlock = v.ownBlock ∨ v'.ownBlock = some w.heap.size) → wpList Tryz.prog ops Q rest (a.put o.dst v') w') : wpList Tryz.prog ops Q (o :: rest) a w := by
  obtain ⟨i0, hi, hz0, hz1, hz2⟩ := info_parts infoD
  refine wpList_append_own_at w hgd s x _ ho base _ i0 _ 2 24 Tryz.underlying27 hi hz0 hz1 hz2 rfl (by decide) v l.length _ hs hown ⟨q, 0, none⟩ 1 c [encStr d.name, .int .i64 d.at_] hx rfl (fun j u hu => ?_) (fun u hu => ?_) (by unfold maxLen; omega) (by omega) hbase (fun v' w' k2 k3 k4 k5 => h v' w' ?_ (grown_only k3) k5)
  · rw [Addr.add_mid]
    match j, hu with
    | 0, hu => simp at hu; rw [← hu]; exact hc0
    | 1, hu => simp at hu; rw [← hu]; exact hc1
    | n + 2, hu => simp at hu
  · simp only [List.mem_cons, List.not_mem_nil, or_false] at hu
    rcases hu with rfl | rfl <;> rfl
  · rw [dcells_snoc, List.length_append]; exact k2
theorem wpList_append_fn {w : World} {ops : Array Oper} {rest : List Oper} {o : Oper} {a : Act} {Q : Exit → Act → World → Prop} (hgd : o.guard = none) (s x : Operand)
    (ho : o.op = .call { callee := .builtin .append, args := #[s, x], argTypes := #[28, 28] })
    (base : Nat) (v : Value) (n : Nat) (xs : List Value) (hs : a.eval s = v) (hown : w.ownsRow base 51 3 v n xs)
    (q c : Nat) (d : FuncM) (va : Value) (fa : List Nat) (hb : BlkAt w va d.body fa) (hx : a.eval x = .slice (some ⟨q, 0, none⟩) 1 c)
    (hc0 : w.cell? ⟨q, 0, none⟩ = some (encStr d.name)) (hc1 : w.cell? ⟨q, 1, none⟩ = some (.int .i64 d.at_)) (hc2 : w.cell? ⟨q, 2, none⟩ = some va) (hsm : n ≤ 1000000) (hbase : base ≤ w.heap.size)
    (h : ∀ v' w', w'.ownsRow base 51 3 v' (n + 1) (xs ++ [encStr d.name, .int .i64 d.at_, va]) → Only (ownL v) w w' → (v'.ownBlock = v.ownBlock ∨ v'.ownBlock = some w.heap.size) → wpList Tryz.prog ops Q rest (a.put o.dst v') w') : wpList Tryz.prog ops Q (o :: rest) a w := by
  obtain ⟨i0, hi, hz0, hz1, hz2⟩ := info_parts infoFn
  refine wpList_append_own_at w hgd s x _ ho base _ i0 _ 3 48 Tryz.underlying28 hi hz0 hz1 hz2 rfl (by decide) v n _ hs hown ⟨q, 0, none⟩ 1 c [encStr d.name, .int .i64 d.at_, va] hx rfl (fun j u hu => ?_) (fun u hu => ?_) (by unfold maxLen; omega) (by omega) hbase (fun v' w' k2 k3 k4 k5 => h v' w' k2 (grown_only k3) k5)
  · rw [Addr.add_mid]
    match j, hu with
    | 0, hu => simp at hu; rw [← hu]; exact hc0
    | 1, hu => simp at hu; rw [← hu]; exact hc1
    | 2, hu => simp at hu; rw [← hu]; exact hc2
    | n + 3, hu => simp at hu
  · simp only [List.mem_cons, List.not_mem_nil, or_false] at hu
    rcases hu with rfl | rfl | rfl
    · rfl
    · rfl
    · exact RowE.one hb

/-- The program with one more. -/
theorem GrowP.var {w0 w w' : World} {vv vl vf v' : Value} {p : ProgM} {fp : List Nat} {d : DeclM} (h : GrowP w0 w vv vl vf p fp) (h0 : w0.heap.size ≤ w.heap.size) (hr : w'.ownsRow w0.heap.size 59 2 v' (p.vars ++ [d]).length (dcells (p.vars ++ [d])))
    (hO : Only (ownL vv) w w') (hb : v'.ownBlock = vv.ownBlock ∨ v'.ownBlock = some w.heap.size) : GrowP w0 w' v' vl vf { p with vars := p.vars ++ [d] } fp := by
  obtain ⟨h1, h2, ⟨xs, h3, h4⟩, h5, h6, h7, h8, h9⟩ := h
  refine ⟨hr, owns_apart h2 hO (fun g hg hv => h6 g hv hg), ⟨xs, owns_apart h3 hO (apart_type h3 h1 (by decide)), h4.keep hO (fun k hk hm => h7 k (mem_ownL.1 hm) hk)⟩, h5.more hO.size, fun g hg hv => ?_, fun g hg hm => ?_, h8, h9⟩
  · rcases hb with hb | hb
    · exact h6 g (hb ▸ hg) hv
    · rw [hb] at hg; injection hg with hg; have := (World.ownsRow.lt h2 g hv).2; omega
  · rcases hb with hb | hb
    · exact h7 g (hb ▸ hg) hm
    · rw [hb] at hg; injection hg with hg; have := (h5.2 g hm).2; omega
theorem GrowP.lock {w0 w w' : World} {vv vl vf v' : Value} {p : ProgM} {fp : List Nat} {d : DeclM} (h : GrowP w0 w vv vl vf p fp) (h0 : w0.heap.size ≤ w.heap.size) (hr : w'.ownsRow w0.heap.size 59 2 v' (p.locks ++ [d]).length (dcells (p.locks ++ [d])))
    (hO : Only (ownL vl) w w') (hb : v'.ownBlock = vl.ownBlock ∨ v'.ownBlock = some w.heap.size) : GrowP w0 w' vv v' vf { p with locks := p.locks ++ [d] } fp := by
  obtain ⟨h1, h2, ⟨xs, h3, h4⟩, h5, h6, h7, h8, h9⟩ := h
  refine ⟨owns_apart h1 hO h6, hr, ⟨xs, owns_apart h3 hO (apart_type h3 h2 (by decide)), h4.keep hO (fun k hk hm => h8 k (mem_ownL.1 hm) hk)⟩, h5.more hO.size, fun g hg hv => ?_, h7, fun g hg hm => ?_, h9⟩
  · rcases hb with hb | hb
    · exact h6 g hg (hb ▸ hv)
    · rw [hb] at hv; injection hv with hv; have := (World.ownsRow.lt h1 g hg).2; omega
  · rcases hb with hb | hb
    · exact h8 g (hb ▸ hg) hm
    · rw [hb] at hg; injection hg with hg; have := (h5.2 g hm).2; omega
theorem GrowP.func {w0 w1 w w' : World} {vv vl vf v' va : Value} {p : ProgM} {fp fa : List Nat} {d : FuncM} {S : List Nat} (h : GrowP w0 w1 vv vl vf p fp) (h01 : w0.heap.size ≤ w1.heap.size) (hOw : Only S w1 w) (hS : ∀ k ∈ S, k < w0.heap.size)
    {xs : List Value} (hE : EncF w1 p.funcs xs fp) (hr : w'.ownsRow w0.heap.size 51 3 v' (p.funcs.length + 1) (xs ++ [encStr d.name, .int .i64 d.at_, va])) (ha : BlkAt w va d.body fa) (hN : NewB w1 w fa)
    (hO : Only (ownL vf) w w') (hb : v'.ownBlock = vf.ownBlock ∨ v'.ownBlock = some w.heap.size) : GrowP w0 w' vv vl v' { p with funcs := p.funcs ++ [d] } (fp ++ fa) := by
  have hk := h.keep hOw hS
  obtain ⟨h1, h2, ⟨ys, h3, h4⟩, h5, h6, h7, h8, h9⟩ := hk
  obtain ⟨g1, g2, ⟨zs, g3, g4⟩, g5, -⟩ := h
  have hE' : EncF w p.funcs xs fp := hE.keep hOw (fun k hk hm => by have := hS k hm; have := (g5.2 k hk).1; omega)
  have hfo : ∀ g, vf.ownBlock = some g → g < w1.heap.size := fun g hg => (World.ownsRow.lt g3 g hg).2
  have hda : ∀ k ∈ fa, k ∉ ownL vf := fun k hk hm => by have := hfo k (mem_ownL.1 hm); have := (hN.2 k hk).1; omega
  have hsz := hOw.size
  refine ⟨owns_apart h1 hO (apart_type h1 h3 (by decide)), owns_apart h2 hO (apart_type h2 h3 (by decide)), ⟨_, by rw [List.length_append]; exact hr, EncF.snoc (ha.keep hO hda) hN.1 (hE'.keep hO (fun k hk hm => h9 k (mem_ownL.1 hm) hk))⟩, (g5.app hN h01 hsz).more hO.size, h6, fun g hg hm => ?_, fun g hg hm => ?_, fun g hg hm => ?_⟩
  · rcases List.mem_append.1 hm with hm | hm
    · exact h7 g hg hm
    · have := (World.ownsRow.lt g1 g hg).2; have := (hN.2 g hm).1; omega
  · rcases List.mem_append.1 hm with hm | hm
    · exact h8 g hg hm
    · have := (World.ownsRow.lt g2 g hg).2; have := (hN.2 g hm).1; omega
  · rcases hb with hb | hb
    · rcases List.mem_append.1 hm with hm | hm
      · exact h9 g (hb ▸ hg) hm
      · exact hda g hm (mem_ownL.2 (hb ▸ hg))
    · rw [hb] at hg; injection hg with hg
      rcases List.mem_append.1 hm with hm | hm
      · have := (h5.2 g hm).2; omega
      · have := (hN.2 g hm).2; omega

/-! ### The same, the reader's block turned beside -/
theorem owns_two {w w' : World} {base s n p : Nat} {e : TypeId} {v u : Value} {xs : List Value} (h : w.ownsRow base e s v n xs) (hO : Only (p :: ownL u) w w') (hp : p < base) (ha : Apart v u) : w'.ownsRow base e s v n xs := by
  refine ⟨h.1, ?_⟩
  rcases h.2 with hn | ⟨g, cap, cur, rfl, hb, hg, rest⟩
  · exact .inl hn
  · refine .inr ⟨g, cap, cur, rfl, hb, (hO.block g (IsBlk.lt hg) (fun hm => ?_)).trans hg, rest⟩
    rcases List.mem_cons.1 hm with hm | hm
    · omega
    · exact ha g rfl (mem_ownL.1 hm)
theorem not_two {p k : Nat} {u : Value} (h1 : p ≠ k) (h2 : u.ownBlock ≠ some k) : k ∉ p :: ownL u := fun hm => by
  rcases List.mem_cons.1 hm with hm | hm
  · exact h1 hm.symm
  · exact h2 (mem_ownL.1 hm)
theorem GrowP.var2 {w0 w w' : World} {vv vl vf v' : Value} {P : ProgM} {fp : List Nat} {d : DeclM} {p : Nat} (h : GrowP w0 w vv vl vf P fp) (hp : p < w0.heap.size) (hr : w'.ownsRow w0.heap.size 59 2 v' (P.vars ++ [d]).length (dcells (P.vars ++ [d])))
    (hO : Only (p :: ownL vv) w w') (hb : v'.ownBlock = vv.ownBlock ∨ ∃ g, v'.ownBlock = some g ∧ w.heap.size ≤ g) : GrowP w0 w' v' vl vf { P with vars := P.vars ++ [d] } fp := by
  obtain ⟨h1, h2, ⟨xs, h3, h4⟩, h5, h6, h7, h8, h9⟩ := h
  refine ⟨hr, owns_two h2 hO hp (fun g hg hv => h6 g hv hg), ⟨xs, owns_two h3 hO hp (apart_type h3 h1 (by decide)), h4.keep hO (fun k hk => not_two (by have := (h5.2 k hk).1; omega) (fun e => h7 k e hk))⟩, h5.more hO.size, fun g hg hv => ?_, fun g hg hm => ?_, h8, h9⟩
  · rcases hb with hb | ⟨g', hb, hg'⟩
    · exact h6 g (hb ▸ hg) hv
    · rw [hb] at hg; injection hg with hg; have := (World.ownsRow.lt h2 g hv).2; omega
  · rcases hb with hb | ⟨g', hb, hg'⟩
    · exact h7 g (hb ▸ hg) hm
    · rw [hb] at hg; injection hg with hg; have := (h5.2 g hm).2; omega
theorem GrowP.lock2 {w0 w w' : World} {vv vl vf v' : Value} {P : ProgM} {fp : List Nat} {d : DeclM} {p : Nat} (h : GrowP w0 w vv vl vf P fp) (hp : p < w0.heap.size) (hr : w'.ownsRow w0.heap.size 59 2 v' (P.locks ++ [d]).length (dcells (P.locks ++ [d])))
    (hO : Only (p :: ownL vl) w w') (hb : v'.ownBlock = vl.ownBlock ∨ ∃ g, v'.ownBlock = some g ∧ w.heap.size ≤ g) : GrowP w0 w' vv v' vf { P with locks := P.locks ++ [d] } fp := by
  obtain ⟨h1, h2, ⟨xs, h3, h4⟩, h5, h6, h7, h8, h9⟩ := h
  refine ⟨owns_two h1 hO hp h6, hr, ⟨xs, owns_two h3 hO hp (apart_type h3 h2 (by decide)), h4.keep hO (fun k hk => not_two (by have := (h5.2 k hk).1; omega) (fun e => h8 k e hk))⟩, h5.more hO.size, fun g hg hv => ?_, h7, fun g hg hm => ?_, h9⟩
  · rcases hb with hb | ⟨g', hb, hg'⟩
    · exact h6 g hg (hb ▸ hv)
    · rw [hb] at hv; injection hv with hv; have := (World.ownsRow.lt h1 g hg).2; omega
  · rcases hb with hb | ⟨g', hb, hg'⟩
    · exact h8 g (hb ▸ hg) hm
    · rw [hb] at hg; injection hg with hg; have := (h5.2 g hm).2; omega
theorem GrowP.func2 {w0 w w' : World} {vv vl vf v' va : Value} {P : ProgM} {fp fa : List Nat} {d : FuncM} {p : Nat} (h : GrowP w0 w vv vl vf P fp) (hp : p < w0.heap.size) (h0 : w0.heap.size ≤ w.heap.size)
    {xs : List Value} (hE : EncF w P.funcs xs fp) (hr : w'.ownsRow w0.heap.size 51 3 v' (P.funcs.length + 1) (xs ++ [encStr d.name, .int .i64 d.at_, va])) (ha : BlkAt w' va d.body fa) (hN : NewB w w' fa)
    (hO : Only (p :: ownL vf) w w') (hb : v'.ownBlock = vf.ownBlock ∨ ∃ g, v'.ownBlock = some g ∧ w.heap.size ≤ g ∧ g ∉ fa) : GrowP w0 w' vv vl v' { P with funcs := P.funcs ++ [d] } (fp ++ fa) := by
  obtain ⟨h1, h2, ⟨ys, h3, h4⟩, h5, h6, h7, h8, h9⟩ := h
  have hfo : ∀ g, vf.ownBlock = some g → g < w.heap.size := fun g hg => (World.ownsRow.lt h3 g hg).2
  refine ⟨owns_two h1 hO hp (apart_type h1 h3 (by decide)), owns_two h2 hO hp (apart_type h2 h3 (by decide)), ⟨_, by rw [List.length_append]; exact hr, EncF.snoc ha hN.1 (hE.keep hO (fun k hk => not_two (by have := (h5.2 k hk).1; omega) (fun e => h9 k e hk)))⟩, h5.app hN h0 hO.size, h6, fun g hg hm => ?_, fun g hg hm => ?_, fun g hg hm => ?_⟩
  · rcases List.mem_append.1 hm with hm | hm
    · exact h7 g hg hm
    · have := (World.ownsRow.lt h1 g hg).2; have := (hN.2 g hm).1; omega
  · rcases List.mem_append.1 hm with hm | hm
    · exact h8 g hg hm
    · have := (World.ownsRow.lt h2 g hg).2; have := (hN.2 g hm).1; omega
  · rcases hb with hb | ⟨g', hb, hg', hgf⟩
    · rcases List.mem_append.1 hm with hm | hm
      · exact h9 g (hb ▸ hg) hm
      · have := hfo g (hb ▸ hg); have := (hN.2 g hm).1; omega
    · rw [hb] at hg; injection hg with hg
      rcases List.mem_append.1 hm with hm | hm
      · have := (h5.2 g hm).2; omega
      · exact hgf (hg ▸ hm)

/-- What one operation of a region may turn: the call the reader, the append its row, others nothing old. -/
def RkP (p : Nat) (T : List Nat) (ci ai k : Nat) : World → World → Prop := if k = ci then Only [p] else if k = ai then Only T else Only []
theorem RkP.big {p ci ai k : Nat} {T : List Nat} {u v : World} (h : RkP p T ci ai k u v) : Only (p :: T) u v := by
  unfold RkP at h
  split at h
  · exact h.into (fun i hi => .inl (by simp only [List.mem_singleton] at hi; simp [hi]))
  · split at h
    · exact h.into (fun i hi => .inl (by simp [hi]))
    · exact h.into (by simp)
theorem RkP.pre {p ci ai k : Nat} {T : List Nat} {u v : World} (h : RkP p T ci ai k u v) (hk : k ≠ ci) : Only T u v := by
  unfold RkP at h
  rw [if_neg hk] at h
  split at h
  · exact h
  · exact h.into (by simp)
theorem RkP.oth {p ci ai k : Nat} {T : List Nat} {u v : World} (h : RkP p T ci ai k u v) (hk : k ≠ ai) : Only [p] u v := by
  unfold RkP at h
  split at h
  · exact h
  · first
      | exact h.into (by simp)
      | (rw [if_neg hk] at h; exact h.into (by simp))
/-- What stands while the call, while the append is still to come. -/
def R1P (p : Nat) (T : List Nat) (ci ai k : Nat) : World → World → Prop := if k = ci then Only T else if k = ai then Only [p] else fun _ _ => True
theorem R1P.refl {p ci ai : Nat} {T : List Nat} {w : World} (k : Nat) : R1P p T ci ai k w w := by
  unfold R1P
  split
  · exact Only.refl _ _
  · split
    · exact Only.refl _ _
    · trivial
theorem R1P.call {p ci ai : Nat} {T : List Nat} {u v : World} (h : R1P p T ci ai ci u v) : Only T u v := by unfold R1P at h; rwa [if_pos rfl] at h
theorem R1P.app {p ci ai : Nat} {T : List Nat} {u v : World} (h : R1P p T ci ai ai u v) (hne : ai ≠ ci) : Only [p] u v := by unfold R1P at h; rwa [if_neg hne, if_pos rfl] at h
theorem R1P.step {p ci ai k0 k : Nat} {T : List Nat} {w u v : World} (h : R1P p T ci ai k0 w u) (hk : RkP p T ci ai k u v) (hne : k ≠ k0) : R1P p T ci ai k0 w v := by
  unfold R1P at h ⊢
  split
  · rename_i hc
    subst hc
    rw [if_pos rfl] at h
    exact h.then (hk.pre hne) _ (fun i hi => .inl hi) (fun i hi => .inl hi)
  · rename_i hc
    rw [if_neg hc] at h
    split
    · rename_i ha
      subst ha
      rw [if_pos rfl] at h
      exact h.then (hk.oth hne) _ (fun i hi => .inl hi) (fun i hi => .inl hi)
    · trivial

end Go.Proofs.YtildkedplmjdaaaGreatDoor
