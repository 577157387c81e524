/-
  Blocks: block of the package parse; the two by induction.
-/
import Derived.Test.YtildkedplmjdaaaGreatDoorPaE
namespace Go.Proofs.YtildkedplmjdaaaGreatDoor
set_option maxRecDepth 100000
set_option linter.unusedVariables false
open Go.RowKit Go.Sort

theorem infoS : (Tryz.prog.info? 85).map (fun i => (i.zero, i.size, i.bytes)) = some (some (.agg #[.int .i64 0, .int .i64 0, .string ⟨#[]⟩, .slice none 0 0, .slice none 0 0]), 5, 80) := by kernel_rfl

def ownL (v : Value) : List Nat := match v.ownBlock with
  | some g => [g]
  | none => []
theorem grown_only {w w' : World} {v : Value} (h : w.grownBy w' v.ownBlock) : Only (ownL v) w w' :=
  ⟨h.os, h.tape, h.output, h.size, fun k hk hn => h.block k hk (fun e => hn (by unfold ownL; rw [← e]; simp))⟩
theorem mem_ownL {v : Value} {g : Nat} : g ∈ ownL v ↔ v.ownBlock = some g := by
  unfold ownL
  cases h : v.ownBlock with
  | none => simp
  | some x => simp [eq_comm]

/-- One statement appended to a row that grows. -/
theorem wpList_append_s {w : World} {ops : Array Oper} {rest : List Oper} {o : Oper} {a : Act} {Q : Exit → Act → World → Prop} (hgd : o.guard = none) (s x : Operand)
    (ho : o.op = .call { callee := .builtin .append, args := #[s, x], argTypes := #[48, 48] })
    (w0 w1 : World) (S : List Nat) (v : Value) (b : Blk) (fp : List Nat) (hs : a.eval s = v) (hown : GrowB w0 w1 v b fp) (hO : Only S w1 w) (hS : ∀ k ∈ S, k < w0.heap.size) (h01 : w0.heap.size ≤ w1.heap.size)
    (q c : Nat) (st : StmM) (va vb : Value) (fa fb : List Nat) (hx : a.eval x = .slice (some ⟨q, 0, none⟩) 1 c)
    (hc0 : w.cell? ⟨q, 0, none⟩ = some (.int .i64 st.kind)) (hc1 : w.cell? ⟨q, 1, none⟩ = some (.int .i64 st.at_)) (hc2 : w.cell? ⟨q, 2, none⟩ = some (encStr st.name)) (hc3 : w.cell? ⟨q, 3, none⟩ = some va) (hc4 : w.cell? ⟨q, 4, none⟩ = some vb)
    (hA : BlkAt w va st.a fa) (hB : BlkAt w vb st.b fb) (hN : NewB w1 w (fa ++ fb)) (hsm : b.len ≤ 1000000)
    (h : ∀ v' w', GrowB w0 w' v' (b.app st.one) (fp ++ (fa ++ fb)) → Only (ownL v) w w' → wpList Tryz.prog ops Q rest (a.put o.dst v') w') : wpList Tryz.prog ops Q (o :: rest) a w := by
  obtain ⟨i0, hi, hz0, hz1, hz2⟩ := info_parts infoS
  have hown1 := hown
  obtain ⟨xs, h1, h2, h3, h4⟩ := hown.keep hO hS
  have hsz := hO.size
  refine wpList_append_own_at w hgd s x _ ho w0.heap.size _ i0 _ 5 80 Tryz.underlying48 hi hz0 hz1 hz2 rfl (by decide) v b.len xs hs h1 ⟨q, 0, none⟩ 1 c [.int .i64 st.kind, .int .i64 st.at_, encStr st.name, va, vb] hx rfl (fun j u hu => ?_) (fun u hu => ?_) (by unfold maxLen; omega) (by omega) (Nat.le_trans h01 hsz) (fun v' w' k2 k3 k4 k5 => h v' w' ?_ (grown_only k3))
  · rw [Addr.add_mid]
    match j, hu with
    | 0, hu => simp at hu; rw [← hu]; exact hc0
    | 1, hu => simp at hu; rw [← hu]; exact hc1
    | 2, hu => simp at hu; rw [← hu]; exact hc2
    | 3, hu => simp at hu; rw [← hu]; exact hc3
    | 4, hu => simp at hu; rw [← hu]; exact hc4
    | n + 5, hu => simp at hu
  · simp only [List.mem_cons, List.not_mem_nil, or_false] at hu
    rcases hu with rfl | rfl | rfl | rfl | rfl
    · rfl
    · rfl
    · rfl
    · exact RowE.one hA
    · exact RowE.one hB
  · have hg := grown_only k3
    -- the row's own block is older than what is below the new statement, and other than what is below the row
    obtain ⟨xs1, o1, e1, n1, u1⟩ := hown1
    have hold : ∀ g, v.ownBlock = some g → g < w1.heap.size := fun g hgg => (World.ownsRow.lt o1 g hgg).2
    have hfp : ∀ k ∈ fp, k < w1.heap.size := fun k hk => (n1.2 k hk).2
    have hdf : ∀ k ∈ fp, k ∉ ownL v := fun k hk hm => (h4 k (mem_ownL.1 hm)).1 hk
    have hdn : ∀ k ∈ fa ++ fb, k ∉ ownL v := fun k hk hm => by
      have := hold k (mem_ownL.1 hm); have := (hN.2 k hk).1; omega
    refine ⟨xs ++ [.int .i64 st.kind, .int .i64 st.at_, encStr st.name, va, vb], ?_, ?_, ?_, ?_⟩
    · rw [Blk.len_app]; exact k2
    · refine EncB.app (h2.keep hg hdf) (EncB.one_ st (hA.keep hg (fun k hk => hdn k (by simp [hk]))) (hB.keep hg (fun k hk => hdn k (by simp [hk]))))
    · exact (n1.app (w := w) hN h01 hsz).more hg.size
    · intro g hgg
      refine ⟨fun hm => ?_, by rw [Blk.len_app]; simp [StmM.one, Blk.len]⟩
      rcases k5 with h5 | h5
      · rw [h5] at hgg
        rcases List.mem_append.1 hm with hm | hm
        · exact (h4 g hgg).1 hm
        · exact hdn g hm (mem_ownL.2 hgg)
      · rw [h5] at hgg
        injection hgg with hgg
        rcases List.mem_append.1 hm with hm | hm
        · have := hfp g hm; omega
        · have := (hN.2 g hm).2; omega

def thenB (acc : Blk) : PR (Blk × List Tok) → PR (Blk × List Tok)
  | .ok (b, r) => .ok (acc.app b, r)
  | .error y => .error y
def rdLen (w : World) (p : Nat) : Nat := match w.cell? ⟨p, 0, none⟩ with
  | some (.slice _ n _) => n
  | _ => 0
theorem RdAt.rd {w : World} {p : Nat} {l : List Tok} {e : Nat} (h : RdAt w p l e) : rdLen w p = l.length := by
  obtain ⟨a, c, hb, -⟩ := h
  unfold rdLen
  rw [hb.cell 0]
  rfl
theorem RdAt.short {w : World} {p : Nat} {l : List Tok} {e : Nat} (h : RdAt w p l e) : l.length ≤ 1000000 := by
  obtain ⟨a, c, hb, _, hm, -⟩ := h
  exact hm.1

section
variable {f d e k : Nat} {t : Tok} {l r r1 : List Tok} {acc : Blk} {s : StmM} {y : Nat × Nat}
theorem block_bad (h : (nextT l e).kind ≠ 2) : blockF (f + 1) d e l = .error ((nextT l e).at_, 7) := by
  cases l with
  | nil => simp [blockF, nextT]
  | cons t r => rw [blockF, if_pos (by simpa [nextT] using h)]; rfl
theorem block_deep (h : (nextT l e).kind = 2) (hd : 20 ≤ d) : blockF (f + 1) d e l = .error ((nextT l e).at_, 8) := by
  cases l with
  | nil => simp [nextT] at h
  | cons t r => rw [blockF, if_neg (by simpa [nextT] using h), if_pos hd]; rfl
theorem block_in (h : (nextT l e).kind = 2) (hd : ¬ 20 ≤ d) : blockF (f + 1) d e l = thenB .nil (stmtsF f (d + 1) e l.tail) ∧ l.length = l.tail.length + 1 := by
  cases l with
  | nil => simp [nextT] at h
  | cons t r =>
    refine ⟨?_, rfl⟩
    rw [blockF, if_neg (by simpa [nextT] using h), if_neg hd, List.tail_cons]
    cases stmtsF f (d + 1) e r <;> rfl
theorem stmts_end (h : (nextT r e).kind = 3) : thenB acc (stmtsF (k + 1) d e r) = .ok (acc, r.tail) := by
  cases r with
  | nil => simp [nextT] at h
  | cons t r =>
    simp only [nextT] at h
    rw [stmtsF]
    simp only [List.head?_cons, Option.map_some, h, List.tail_cons, thenB, Blk.app_nil]
theorem stmts_kind (h : (nextT r e).kind ≠ 3) : r.head?.map (·.kind) ≠ some 3 := by
  cases r with
  | nil => simp
  | cons t r => simpa [nextT] using h
theorem stmts_err (h : (nextT r e).kind ≠ 3) (hs : stmtF k d e r = .error y) : thenB acc (stmtsF (k + 1) d e r) = .error y := by
  rw [stmtsF]
  split
  · rename_i h3; exact absurd h3 (stmts_kind h)
  · rw [hs]; rfl
theorem stmts_one (h : (nextT r e).kind ≠ 3) (hs : stmtF k d e r = .ok (s, r1)) : thenB acc (stmtsF (k + 1) d e r) = thenB (acc.app s.one) (stmtsF k d e r1) := by
  rw [stmtsF]
  split
  · rename_i h3; exact absurd h3 (stmts_kind h)
  · rw [hs]
    simp only
    cases stmtsF k d e r1 with
    | error y => rfl
    | ok q => obtain ⟨b, r2⟩ := q; simp only [thenB, Blk.app_assoc]; rfl
theorem stmt_lent (h : stmtF f d e l = .ok (s, r1)) : r1.length < l.length := (parse_len f).2.1 _ _ _ _ _ h
end

set_option maxHeartbeats 8000000 in
theorem block_step (f : Nat) (ih : ∀ f' < f, ∀ (w : World) (p e d : Nat) (l : List Tok), RdAt w p l e → 2 * l.length + 1 ≤ f' → d ≤ 20 → Calls Tryz.prog 102 #[.pointer (some ⟨p, 0, none⟩), .int .i64 d] w (BlockTo w p e (blockF f' d e l)))
    (w : World) (p e d : Nat) (l : List Tok) (h : RdAt w p l e) (hf : 2 * l.length + 1 ≤ f) (hd : d ≤ 20) :
    Calls Tryz.prog 102 #[.pointer (some ⟨p, 0, none⟩), .int .i64 d] w (BlockTo w p e (blockF f d e l)) := by
  have H := Lib.hid h
  have hp := h.lt
  have hl := h.short
  clear h
  obtain ⟨f, rfl⟩ : ∃ g, f = g + 1 := ⟨f - 1, by omega⟩
  have Hbad := Lib.hid (@block_bad f d e l)
  have Hdeep := Lib.hid (@block_deep f d e l)
  have Hin := Lib.hid (@block_in f d e l)
  go_enter Tryz.func102, Tryz.ntmps102
  go_wp2_with fail
  refine (take_any _ p l e H.out).mono ?_
  rintro r w1 ⟨rfl, hR, hO1⟩
  have hq := IsBlk.made w1 (.cells #[.int .i64 (nextT l e).kind, .int .i64 (nextT l e).at_, encStr (nextT l e).s] 93)
  have HR := Lib.hid (hR.more ((Only.refl [] w1).alloc (.cells #[.int .i64 (nextT l e).kind, .int .i64 (nextT l e).at_, encStr (nextT l e).s] 93)))
  have HO := Lib.hid (hO1.then ((Only.refl [] w1).alloc (.cells #[.int .i64 (nextT l e).kind, .int .i64 (nextT l e).at_, encStr (nextT l e).s] 93)) [p] (by simp) (by simp))
  clear hR hO1
  unfold tokV encStr
  unfold encStr at hq HR HO
  go_upto_region 2 with fail
  generalize hW : w1.alloc (.cells #[.int .i64 (nextT l e).kind, .int .i64 (nextT l e).at_, .string ⟨(nextT l e).s.toArray⟩] 93) = w2 at *
  clear hW
  generalize hbf : blockF (f + 1) d e l = X at *
  clear hbf
  generalize (nextT l e).kind = kk at *
  generalize (nextT l e).at_ = aa at *
  generalize (nextT l e).s = ss at *
  have q0 := hq.cell 0
  have q1 := hq.cell 1
  have hq2 := hq.lt
  by_cases hk : kk = 2
  · have hki : (kk : Int) = 2 := by omega
    by_cases hdd : 20 ≤ d
    · have hdi : (20 : Int) ≤ (d : Int) := by omega
      have HX := Lib.hid (Hdeep.out hk hdd)
      clear Hbad Hdeep Hin
      go_wp2
      refine ⟨rfl, ?_⟩
      rw [HX.out]
      exact ⟨rfl, HO.out⟩
    · have hdi : ¬ (20 : Int) ≤ (d : Int) := by omega
      obtain ⟨hX, hlen⟩ := Hin.out hk hdd
      have HX := Lib.hid hX
      have Hlen := Lib.hid hlen
      clear Hbad Hdeep Hin hX hlen
      subst hk
      have hdw : ¬ (20 : Int) ≤ (d : Int) := hdi
      have hwp := HO.out.size
      go_wp2_with fail
      clear hq q0 q1 hq2
      go_loopw [6] (fun v wr => ∃ (acc : Blk) (fp : List Nat) (r : List Tok) (k : Nat), GrowB w wr v acc fp ∧ RdAt wr p r e ∧ Only [p] w wr ∧ 2 * r.length + 2 ≤ k ∧ k ≤ f ∧ acc.len + r.length ≤ 1000000 ∧ Hid (X = thenB acc (stmtsF k (d + 1) e r))) (fun _ wr => rdLen wr p)
      case atStart => exact ⟨.nil, [], l.tail, f, GrowB.nil _ _, HR.out, HO.out, by have := Hlen.out; omega, Nat.le_refl _, by have := Hlen.out; simp only [Blk.len]; omega, HX⟩
      case round =>
        obtain ⟨acc, fp, r, k, hg, hR, hO, hk2, hkf, hal, hX⟩ := hrel
        have Hg := Lib.hid hg
        have HRr := Lib.hid hR
        have HOr := Lib.hid hO
        have hrd := Lib.hid hR.rd
        clear hg hR hO HR HO HX Hlen
        have hpr := HRr.out.lt
        go_wp2_with fail
        refine (next_any _ p r e HRr.out).mono ?_
        rintro r0 w3 ⟨rfl, hO3⟩
        have HR3 := Lib.hid (HRr.out.more hO3)
        have Hg3 := Lib.hid (Hg.out.more hO3)
        have HO3 := Lib.hid (HOr.out.plus hO3)
        clear hO3 HRr Hg HOr
        unfold tokV encStr
        have hfd : ∀ (x y z : Value) (w : World), (Instr.field 93 (.agg #[x, y, z]) 0).run Tryz.prog w = .ok x w := fun _ _ _ _ => by kernel_rfl
        obtain ⟨k, rfl⟩ : ∃ g, k = g + 1 := ⟨k - 1, by omega⟩
        by_cases h3 : (nextT r e).kind = 3
        · have h3i : ((nextT r e).kind : Int) = 3 := by omega
          have HX := Lib.hid (hX.out.trans (stmts_end h3))
          clear hX h3
          generalize (nextT r e).kind = k3 at *
          generalize (nextT r e).at_ = a3 at *
          generalize (nextT r e).s = s3 at *
          go_wp2_with fail
          refine (take_any _ p r e HR3.out).mono ?_
          rintro r0 w4 ⟨rfl, hR4, hO4⟩
          have HR4 := Lib.hid hR4
          have Hg4 := Lib.hid (Hg3.out.keep hO4 (by simp; omega))
          have HO4 := Lib.hid (HO3.out.then hO4 [p] (by simp) (by simp))
          clear hR4 hO4 HR3 Hg3 HO3
          unfold tokV encStr
          go_wp2
          go_ret
          rw [HX.out]
          obtain ⟨fq, hb, hn⟩ := Hg4.out.done
          exact ⟨_, fq, rfl, hb, hn, HR4.out, HO4.out⟩
        · have h3i : ¬ ((nextT r e).kind : Int) = 3 := by omega
          have Herr := Lib.hid (fun (y : Nat × Nat) (h : stmtF k (d + 1) e r = .error y) => hX.out.trans (stmts_err (acc := acc) h3 h))
          have Hone := Lib.hid (fun (s : StmM) (r1 : List Tok) (h : stmtF k (d + 1) e r = .ok (s, r1)) => hX.out.trans (stmts_one (acc := acc) h3 h))
          clear hX h3
          generalize (nextT r e).kind = k3 at *
          generalize (nextT r e).at_ = a3 at *
          generalize (nextT r e).s = s3 at *
          obtain ⟨k, rfl⟩ : ∃ g, k = g + 1 := ⟨k - 1, by omega⟩
          go_wp2_with fail
          have hst := stm_any k (fun w p e d l a b c => ih k (by omega) w p e d l a b c) w3 p e (d + 1) r HR3.out (by omega) (by omega)
          rw [show ((d + 1 : Nat) : Int) = (d : Int) + 1 by omega] at hst
          refine hst.mono ?_
          clear hst
          cases hs : stmtF (k + 1) (d + 1) e r with
          | error y =>
            rintro r0 w4 ⟨rfl, hO4⟩
            refine ⟨rfl, ?_⟩
            rw [Herr.out y hs]
            exact ⟨rfl, HO3.out.then hO4 [p] (by simp) (by simp)⟩
          | ok q =>
            obtain ⟨s, r1⟩ := q
            have HX := Lib.hid (Hone.out s r1 hs)
            have hlt := stmt_lent hs
            rintro r0 w4 ⟨va, vb, fa, fb, rfl, hA, hB, hN, hR4, hO4⟩
            have HA := Lib.hid hA
            have HB := Lib.hid hB
            have HN := Lib.hid hN
            have HR4 := Lib.hid hR4
            have HO4 := Lib.hid hO4
            clear hA hB hN hR4 hO4 Herr Hone hs ih
            unfold stmV encStr
            have hq := IsBlk.made w4 (.cells #[.int .i64 s.kind, .int .i64 s.at_, encStr s.name, va, vb] 85)
            have hOa := Lib.hid ((Only.refl [] w4).alloc (.cells #[.int .i64 s.kind, .int .i64 s.at_, encStr s.name, va, vb] 85))
            have Hq0 := Lib.hid (hq.cell 0)
            have Hq1 := Lib.hid (hq.cell 1)
            have Hq2 := Lib.hid (hq.cell 2)
            have Hq3 := Lib.hid (hq.cell 3)
            have Hq4 := Lib.hid (hq.cell 4)
            have h03 := HO3.out.size
            have hac : acc.len ≤ 1000000 := by omega
            clear hq
            go_wp2_with (at_builtin; refine wpList_append_s rfl _ _ rfl w w3 [p] u6 acc fp rfl Hg3.out (HO4.out.then hOa.out [p] (by simp) (by simp)) (by simp; omega) h03 w4.heap.size 1 s va vb fa fb rfl Hq0.out Hq1.out Hq2.out Hq3.out Hq4.out (HA.out.more hOa.out) (HB.out.more hOa.out) (HN.out.more hOa.out.size) hac ?_; intro v' w5 h5 hg5)
            go_roundw
            case rel =>
              have hvg : ∀ g ∈ ownL u6, p < g := fun g hg => by
                obtain ⟨xs, o1, -⟩ := Hg3.out
                have := (World.ownsRow.lt o1 g (mem_ownL.1 hg)).1
                omega
              refine ⟨acc.app s.one, fp ++ (fa ++ fb), r1, k + 1, h5, (HR4.out.more hOa.out).keep hg5 hvg, (HO3.out.then HO4.out [p] (by simp) (by simp)).then (hOa.out.then hg5 (ownL u6) (by simp) (fun i hi => .inl hi)) [p] (by simp) (fun g hg => .inr (by
                obtain ⟨xs, o1, -⟩ := Hg3.out
                exact (World.ownsRow.lt o1 g (mem_ownL.1 hg)).1)), by omega, by omega, by rw [Blk.len_app]; simp only [StmM.one, Blk.len]; omega, HX⟩
            case measure =>
              have hvg : ∀ g ∈ ownL u6, p < g := fun g hg => by
                obtain ⟨xs, o1, -⟩ := Hg3.out
                have := (World.ownsRow.lt o1 g (mem_ownL.1 hg)).1
                omega
              rw [((HR4.out.more hOa.out).keep hg5 hvg).rd, hrd.out]
              omega
  · have hki : ¬ (kk : Int) = 2 := by omega
    have HX := Lib.hid (Hbad.out hk)
    clear Hbad Hdeep Hin
    go_wp2
    refine ⟨rfl, ?_⟩
    rw [HX.out]
    exact ⟨rfl, HO.out⟩

theorem pblock_any (f : Nat) : ∀ (w : World) (p e d : Nat) (l : List Tok), RdAt w p l e → 2 * l.length + 1 ≤ f → d ≤ 20 → Calls Tryz.prog 102 #[.pointer (some ⟨p, 0, none⟩), .int .i64 d] w (BlockTo w p e (blockF f d e l)) := by
  induction f using Nat.strongRecOn with
  | _ f ih => exact block_step f ih

end Go.Proofs.YtildkedplmjdaaaGreatDoor
