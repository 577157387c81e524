/-
  Rows of files; a set's files by names (list); a set of files (setOf).
-/
import Derived.Test.YtnieaeoijdmheaaStC
namespace Go.Proofs.Ytnieaeoijdmheaa
set_option maxRecDepth 100000
set_option linter.unusedVariables false
open Go.RowKit Go.Sort Go.Maps

def fcells (f : FileM) : List Value := [encStr f.1, encStr f.2]
def lcellsF (l : List FileM) : List Value := l.flatMap fcells
def OwnF (w : World) (base : Nat) (v : Value) (l : List FileM) : Prop := w.ownsRow base 33 2 v l.length (lcellsF l)
theorem length_lcellsF (l : List FileM) : (lcellsF l).length = l.length * 2 := by
  induction l with
  | nil => rfl
  | cons f r ih => simp [lcellsF, fcells] at ih ⊢; omega
theorem lcellsF_snoc (l : List FileM) (f : FileM) : lcellsF (l ++ [f]) = lcellsF l ++ fcells f := by simp [lcellsF]
theorem OwnF.only {w w' : World} {base : Nat} {v : Value} {l : List FileM} (h : OwnF w base v l) (hO : Only [] w w') : OwnF w' base v l := by
  refine ⟨h.1, ?_⟩
  rcases h.2 with hn | ⟨g, cap, cur, rfl, hb, hg, rest⟩
  · exact .inl hn
  · exact .inr ⟨g, cap, cur, rfl, hb, (hO.block g (IsBlk.lt hg) (by simp)).trans hg, rest⟩

theorem infoF : (Try.prog.info? 33).map (fun i => (i.zero, i.size, i.bytes)) = some (some (.agg #[.string ⟨#[]⟩, .string ⟨#[]⟩]), 2, 32) := by kernel_rfl

/-- One file appended to a row of files of one's own. -/
theorem wpList_append_f {w : World} {ops : Array Oper} {rest : List Oper} {o : Oper} {a : Act} {Q : Exit → Act → World → Prop} (hgd : o.guard = none) (s x : Operand)
    (ho : o.op = .call { callee := .builtin .append, args := #[s, x], argTypes := #[34, 34] })
    (base : Nat) (v : Value) (l : List FileM) (hs : a.eval s = v) (hown : OwnF w base v l) (q c : Nat) (f : FileM) (hx : a.eval x = .slice (some ⟨q, 0, none⟩) 1 c)
    (hc0 : w.cell? ⟨q, 0, none⟩ = some (encStr f.1)) (hc1 : w.cell? ⟨q, 1, none⟩ = some (encStr f.2)) (hsm : l.length ≤ 1000000) (hbase : base ≤ w.heap.size)
    (h : ∀ v' w', OwnF w' base v' (l ++ [f]) → w.grownBy w' v.ownBlock → wpList Try.prog ops Q rest (a.put o.dst v') w') : wpList Try.prog ops Q (o :: rest) a w := by
  obtain ⟨i0, hi, hz0, hz1, hz2⟩ := info_parts infoF
  refine wpList_append_own w hgd s x _ ho base _ i0 _ 2 32 Try.underlying34 hi hz0 hz1 hz2 rfl (by decide) v l.length (lcellsF l) hs hown ⟨q, 0, none⟩ 1 c (fcells f) hx rfl (fun j u hu => ?_) (fun u hu => ?_) (by unfold maxLen; omega) (by omega) hbase (fun v' w' h2 h3 h4 => h v' w' ?_ h3)
  · rw [Addr.add_mid]
    match j, hu with
    | 0, hu => simp [fcells] at hu; rw [← hu]; exact hc0
    | 1, hu => simp [fcells] at hu; rw [← hu]; exact hc1
    | n + 2, hu => simp [fcells] at hu
  · simp [fcells] at hu
    rcases hu with rfl | rfl <;> rfl
  · unfold OwnF
    rw [lcellsF_snoc, List.length_append]
    exact h2
theorem own_apart {w : World} {base base' s s' n n' : Nat} {e e' : TypeId} {v v' : Value} {xs xs' : List Value} (h : w.ownsRow base e s v n xs) (h' : w.ownsRow base' e' s' v' n' xs') (hne : e ≠ e') : v.ownBlock = none ∨ v.ownBlock ≠ v'.ownBlock := by
  rcases h.2 with ⟨rfl, _⟩ | ⟨g, cap, cur, rfl, hb, hg, _⟩
  · exact .inl rfl
  · rcases h'.2 with ⟨rfl, _⟩ | ⟨g', cap', cur', rfl, hb', hg', _⟩
    · exact .inr (by simp [Value.ownBlock])
    · refine .inr (fun e0 => ?_)
      have : g = g' := by simpa [Value.ownBlock] using e0
      subst this
      rw [hg] at hg'
      injection hg' with hg'; injection hg' with _ h2
      exact hne h2
theorem OwnS.cell {w : World} {base j : Nat} {v : Value} {ss : List (List UInt8)} (h : OwnS w base v ss) (hj : j < ss.length) : ∃ g cap, v = .slice (some ⟨g, 0, none⟩) ss.length cap ∧ w.cell? ⟨g, j, none⟩ = some (encStr ss[j]) := by
  rcases h.2 with ⟨rfl, h0⟩ | ⟨g, cap, cur, rfl, hb, hg, _⟩
  · omega
  · refine ⟨g, cap, rfl, ?_⟩
    have := World.ownsRow.cells h (g := g) rfl j (encStr ss[j]) (by simp [hj])
    rw [Addr.add_mid, Nat.zero_add] at this
    exact this
theorem OwnS.len {w : World} {base : Nat} {v : Value} {ss : List (List UInt8)} (h : OwnS w base v ss) : ∃ a cap, v = .slice a ss.length cap := by
  rcases h.2 with ⟨rfl, h0⟩ | ⟨g, cap, cur, rfl, hb, hg, _⟩
  · exact ⟨none, 0, by rw [h0]⟩
  · exact ⟨_, cap, rfl⟩
theorem get_mem {F : List FileM} (hR : Rise F) {f : FileM} (hf : f ∈ F) : getS f.1 F = some f := by
  unfold getS
  induction F with
  | nil => cases hf
  | cons g r ih =>
    have hR' := List.pairwise_cons.1 hR
    rw [List.find?_cons]
    rcases List.mem_cons.1 hf with rfl | hm
    · simp
    · have h1 := before_lt (hR'.1 f hm)
      have : (g.1 == f.1) = false := by
        simp only [beq_eq_false_iff_ne]; intro e; rw [e] at h1; exact List.lt_irrefl _ h1
      rw [this]
      exact ih hR'.2 hm

set_option maxHeartbeats 4000000 in
theorem list_any (w : World) (b : Nat) (F : List FileM) (h : SetAt w b F) (hF : F.length ≤ 100000) :
    Calls Try.prog 27 #[.map (some b)] w fun e w' => ∃ v, e = .returned v ∧ OwnF w' w.heap.size v F ∧ Only [] w w' := by
  have hlen := World.ownsMap.len h Try.underlying56
  have hsz : Maps.size (setD F) = F.length := by simp [setD, Maps.size]
  rw [hsz] at hlen
  have hR := Lib.hid h.rise
  have hN := Lib.hid h.names
  have H := Lib.hid h
  clear h hsz
  obtain ⟨i0, hi, hz0, hz1, hz2⟩ := info_parts infoF
  obtain ⟨w1, hmk, hown1, hg1⟩ := run_make_own (P := Try.prog) w w.heap.size 34 33 i0 _ 2 Try.underlying34 hi hz0 hz1 .i64 .i64 F.length (by rw [hz2]; omega) (by unfold maxLen; omega) (Nat.le_refl _)
  have hO1 : Only [] w w1 := ⟨hg1.os, hg1.tape, hg1.output, hg1.size, fun k hk _ => hg1.block k hk (by simp)⟩
  have Hown1 : Hid (OwnF w1 w.heap.size (.slice (some ⟨w.heap.size, 0, none⟩) 0 F.length) []) := Lib.hid hown1
  have HO1 := Lib.hid hO1
  clear hi hz0 hz1 hz2 hown1 hg1 hO1
  go_enter Try.func27, Try.ntmps27
  go_wp2_with fail
  have HO2 := Lib.hid ((Only.refl [] w1).alloc (.cells #[.map (some b)] 56))
  have hg2 := IsBlk.made w1 (.cells #[.map (some b)] 56)
  refine (names_any _ w1.heap.size _ 0 b F [(b, F)] ⟨hg2.lt, fun i x hx => ?hset⟩ rfl (by omega) (fun i x hi => by omega) rfl hF).mono ?_
  case hset =>
    match i, hx with
    | 0, hx => simp at hx; subst hx; exact ⟨hg2.cell 0, (H.out.more HO1.out).more HO2.out⟩
    | n + 1, hx => simp at hx
  rintro e w3 ⟨vN, rfl, hoN, hO3⟩
  have hsz1 : w.heap.size ≤ (w1.alloc (.cells #[.map (some b)] 56)).heap.size := Nat.le_trans HO1.out.size HO2.out.size
  have HoN : Hid (OwnS w3 w.heap.size vN (F.map (·.1))) := Lib.hid (ownsRow_base_a hoN hsz1)
  have HO3 := Lib.hid ((HO1.out.plus HO2.out).plus hO3)
  have Ho3 := Lib.hid ((Hown1.out.only HO2.out).only hO3)
  obtain ⟨aN, cN, rfl⟩ := hoN.len
  clear hoN hO3 hg2 hsz1 Hown1 HO1 HO2
  rw [List.length_map] at *
  go_wp2_with fail
  go_loopw [13, 3] (fun i s3 wr => ∃ j : Nat, j ≤ F.length ∧ i = .int .i64 j ∧ OwnF wr w.heap.size s3 (F.take j) ∧ OwnS wr w.heap.size (.slice aN F.length cN) (F.map (·.1)) ∧ Only [] w wr) (fun i _ _ => F.length - (intOf i).toNat)
  case atStart => exact ⟨0, by omega, rfl, Ho3.out, HoN.out, HO3.out⟩
  case round =>
    obtain ⟨j, hj, rfl, hown, hoN, hO⟩ := hrel
    have Hown := Lib.hid hown
    have HoNj := Lib.hid hoN
    have HO := Lib.hid hO
    clear hown hoN hO
    by_cases hlt : j < F.length
    · have hlti : (j : Int) < (F.length : Int) := by omega
      obtain ⟨gN, cN', e, hcell⟩ := HoNj.out.cell (j := j) (by simpa using hlt)
      rw [List.length_map] at e
      injection e with e1 e2 e3
      subst e1 e3
      rw [List.getElem_map] at hcell
      have hget := run_get _ b F F[j].1 false (H.out.more HO.out) (hN.out _ (List.getElem_mem hlt))
      rw [get_mem hR.out (List.getElem_mem hlt)] at hget
      have htk : Hid (F.take (j + 1) = F.take j ++ [F[j]]) := Lib.hid (by rw [List.take_add_one, List.getElem?_eq_getElem hlt]; rfl)
      have hszj := HO.out.size
      have htl : (F.take j).length ≤ 1000000 := by rw [List.length_take]; omega
      generalize F[j] = fj at *
      simp only [Option.getD_some, Bool.false_eq_true, if_false] at hget
      unfold fileV at hget
      have hq := IsBlk.made wr (.cells #[encStr fj.1, encStr fj.2] 33)
      have hOa := Lib.hid ((Only.refl [] wr).alloc (.cells #[encStr fj.1, encStr fj.2] 33))
      have Hq0 := Lib.hid (hq.cell 0)
      have Hq1 := Lib.hid (hq.cell 1)
      clear hq
      go_wp2_with (at_builtin; refine wpList_append_f rfl _ _ rfl w.heap.size _ _ rfl (Hown.out.only hOa.out) wr.heap.size 1 fj rfl Hq0.out Hq1.out htl (Nat.le_trans hszj hOa.out.size) ?_; intro v' w4 h4 hg4)
      go_roundw
      case rel =>
        have hbl := (Hown.out.only hOa.out)
        refine ⟨j + 1, by omega, by go_num, by rw [htk.out]; exact h4, ?_, ?_⟩
        · exact World.ownsRow.kept (HoNj.out.only hOa.out) hg4 (own_apart (HoNj.out.only hOa.out) hbl (by decide))
        · rcases hb0 : Value.ownBlock _ with _ | g0
          · rw [hb0] at hg4
            exact HO.out.plus (hOa.out.plus ⟨hg4.os, hg4.tape, hg4.output, hg4.size, fun k hk _ => hg4.block k hk (by simp)⟩)
          · rw [hb0] at hg4
            exact only_row (HO.out.plus hOa.out) hg4 (World.ownsRow.lt hbl g0 hb0).1 (Nat.le_refl _)
      case measure => simp [intOf]; omega
    · have hge : ¬ (j : Int) < (F.length : Int) := by omega
      go_wp2
      go_ret
      have hjF : j = F.length := by omega
      have := Hown.out
      rw [hjF, List.take_length] at this
      exact ⟨_, rfl, this, HO.out⟩

end Go.Proofs.Ytnieaeoijdmheaa
