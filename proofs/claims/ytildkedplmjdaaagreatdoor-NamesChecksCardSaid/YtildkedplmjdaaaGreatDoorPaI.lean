/-
  Parse: the deferred function that recovers a fault; Parse itself.
-/
import Derived.Test.YtildkedplmjdaaaGreatDoorPaH
import Derived.Defers
import Derived.Recover
namespace Go.Proofs.YtildkedplmjdaaaGreatDoor
set_option maxRecDepth 100000
set_option linter.unusedVariables false
open Go.RowKit Go.Sort

set_option maxHeartbeats 4000000 in
theorem catch_fault (qp qa qe : Nat) (x : Nat × Nat) (y0 y1 y2 z0 z1 : Value) (w : World) (hp : IsBlk w qp (.cells #[y0, y1, y2] 30)) (ha : IsBlk w qa (.cells #[z0] 3)) (he : IsBlk w qe (.cells #[z1] 37))
    (h1 : qp ≠ qa) (h2 : qp ≠ qe) (h3 : qa ≠ qe) :
    CallsD Tryz.prog 82 #[.pointer (some ⟨qp, 0, none⟩), .pointer (some ⟨qa, 0, none⟩), .pointer (some ⟨qe, 0, none⟩)] (.panicking [{ v := .iface 143 (.agg #[.int .i64 x.1, .int .i64 x.2]), recovered := false }]) w fun e u' w' =>
      e = .returned (.tuple #[]) ∧ u' = .panicking [{ v := .iface 143 (.agg #[.int .i64 x.1, .int .i64 x.2]), recovered := true }] ∧
      IsBlk w' qp (.cells #[.slice none 0 0, .slice none 0 0, .slice none 0 0] 30) ∧ IsBlk w' qa (.cells #[.int .i64 x.1] 3) ∧ IsBlk w' qe (.cells #[.int .i64 x.2] 37) ∧ Only [qp, qa, qe] w w' := by
  refine callsD_of_wpS Tryz.func82 rfl fun c₀ cs hu => ?_
  apply wpS_seq
  apply wpS_region
  simp [wpOpsS, go_sem, recoverD, hu, Tryz.ntmps82, Exit.thenS]
  apply wpS_of_wp
  have hT : (#[Value.pointer (some ⟨qp, 0, none⟩), .pointer (some ⟨qa, 0, none⟩), .pointer (some ⟨qe, 0, none⟩)] ++ ((Array.replicate 19 undef).setIfInBounds 3 (Value.iface 143 (.agg #[.int .i64 x.1, .int .i64 x.2]))).setIfInBounds 0 (Value.iface 143 (.agg #[.int .i64 x.1, .int .i64 x.2])) : Array Value) = #[Value.pointer (some ⟨qp, 0, none⟩), .pointer (some ⟨qa, 0, none⟩), .pointer (some ⟨qe, 0, none⟩), (Value.iface 143 (.agg #[.int .i64 x.1, .int .i64 x.2])), undef, undef, (Value.iface 143 (.agg #[.int .i64 x.1, .int .i64 x.2])), undef, undef, undef, undef, undef, undef, undef, undef, undef, undef, undef, undef, undef, undef, undef] := by kernel_rfl
  rw [hT]
  clear hT
  have hta : ∀ (v : Value) (w : World), (Instr.typeAssert (.iface 143 v) 20 143 true).run Tryz.prog w = .ok (.tuple #[v, .bool true]) w := fun _ _ => by kernel_rfl
  have hnot : ∀ (x : Bool) (w : World), (Op.unary .not (.bool x)).run Tryz.prog w = .ok (.bool (!x)) w := fun _ _ => rfl
  go_upto_region 5 with fail
  have hOa := (Only.refl [] w).alloc (.cells #[.int .i64 x.1, .int .i64 x.2] 143)
  have hf := IsBlk.made w (.cells #[.int .i64 x.1, .int .i64 x.2] 143)
  have hp2 := hp.only hOa (by simp)
  have ha2 := ha.only hOa (by simp)
  have he2 := he.only hOa (by simp)
  have l1 := hp.lt
  have l2 := ha.lt
  have l3 := he.lt
  generalize hW : w.alloc (.cells #[.int .i64 x.1, .int .i64 x.2] 143) = W at *
  clear hW hp ha he
  generalize hg : w.heap.size = g at *
  have a0 := hp2.cell 0
  have a1 := hp2.cell 1
  have a2 := hp2.cell 2
  have b0 := ha2.cell 0
  have c0' := he2.cell 0
  have k0 := hf.cell 0
  have k1 := hf.cell 1
  have f0 := hp2.notFrozen 0
  have f1 := hp2.notFrozen 1
  have f2 := hp2.notFrozen 2
  have g0 := ha2.notFrozen 0
  have e0 := he2.notFrozen 0
  have n1 : ¬ qa = qp := Ne.symm h1
  have n2 : ¬ qe = qp := Ne.symm h2
  have n3 : ¬ qe = qa := Ne.symm h3
  have n4 : ¬ g = qp := by omega
  have n5 : ¬ g = qa := by omega
  have n6 : ¬ g = qe := by omega
  have n7 : ¬ qp = g := by omega
  have n8 : ¬ qa = g := by omega
  have n9 : ¬ qe = g := by omega
  have Hp := Lib.hid hp2
  have Ha := Lib.hid ha2
  have He := Lib.hid he2
  have HO := Lib.hid hOa
  clear hp2 ha2 he2 hOa hf
  go_region
  refine ⟨rfl, _, rfl, .tuple #[], by simp [results, Tryz.results82], rfl, rfl, ?_, ?_, ?_, ?_⟩
  · exact (((((IsBlk.put (IsBlk.put (IsBlk.put Hp.out 0 (.slice none 0 0)) 1 (.slice none 0 0)) 2 (.slice none 0 0)).away (a := ⟨qa, 0, none⟩) h1 _).away (a := ⟨qe, 0, none⟩) h2 _)).drew)
  · exact ((IsBlk.put (((Ha.out.away (a := ⟨qp, 0, none⟩) n1 _).away (a := ⟨qp, 1, none⟩) n1 _).away (a := ⟨qp, 2, none⟩) n1 _) 0 (.int .i64 x.1)).away (a := ⟨qe, 0, none⟩) h3 _).drew
  · exact (IsBlk.put ((((He.out.away (a := ⟨qp, 0, none⟩) n2 _).away (a := ⟨qp, 1, none⟩) n2 _).away (a := ⟨qp, 2, none⟩) n2 _).away (a := ⟨qa, 0, none⟩) n3 _) 0 (.int .i64 x.2)).drew
  · refine HO.out.then ((((((Only.refl [qp, qa, qe] W).setCell (p := ⟨qp, 0, none⟩) (.inl (by simp)) _).setCell (p := ⟨qp, 1, none⟩) (.inl (by simp)) _).setCell (p := ⟨qp, 2, none⟩) (.inl (by simp)) _).setCell (p := ⟨qa, 0, none⟩) (.inl (by simp)) _).setCell (p := ⟨qe, 0, none⟩) (.inl (by simp)) _).drew [qp, qa, qe] (by simp) (fun i hi => .inl hi)

theorem catch_idle (qp qa qe : Nat) (w : World) :
    CallsD Tryz.prog 82 #[.pointer (some ⟨qp, 0, none⟩), .pointer (some ⟨qa, 0, none⟩), .pointer (some ⟨qe, 0, none⟩)] .returning w fun e u' w' => e = .returned (.tuple #[]) ∧ u' = .returning ∧ w' = w := by
  refine callsD_of_wpS Tryz.func82 rfl fun c₀ cs hu => ?_
  apply wpS_seq
  apply wpS_region
  simp [wpOpsS, go_sem, recoverD, hu, Tryz.ntmps82, Exit.thenS]
  apply wpS_of_wp
  have hT : (#[Value.pointer (some ⟨qp, 0, none⟩), .pointer (some ⟨qa, 0, none⟩), .pointer (some ⟨qe, 0, none⟩)] ++ ((Array.replicate 19 undef).setIfInBounds 3 Value.nilIface).setIfInBounds 0 Value.nilIface : Array Value) = #[Value.pointer (some ⟨qp, 0, none⟩), .pointer (some ⟨qa, 0, none⟩), .pointer (some ⟨qe, 0, none⟩), .nilIface, undef, undef, .nilIface, undef, undef, undef, undef, undef, undef, undef, undef, undef, undef, undef, undef, undef, undef, undef] := by kernel_rfl
  rw [hT]
  clear hT
  go_wp2
  exact ⟨rfl, .returning, by cases c₀; simp_all, .tuple #[], by simp [results, Tryz.results82], rfl, rfl, rfl⟩

theorem tokF_short : ∀ (f i : Nat) (s : List UInt8), ∀ t ∈ (tokF f i s).1, t.s.length ≤ s.length
  | 0, i, s => by simp [tokF]
  | f + 1, i, [] => by simp [tokF]
  | f + 1, i, c :: r => by
    have h1 := tokF_short f (i + 1) r
    have h2 := tokF_short f (i + (rowM (c :: r)).length) ((c :: r).drop (rowM (c :: r)).length)
    have h3 := (row_pre (c :: r)).2
    rw [tokF]
    split
    · intro t ht
      rcases List.mem_cons.1 ht with rfl | ht
      · exact h3
      · have := h2 t ht; rw [List.length_drop] at this; omega
    · split
      · intro t ht
        rcases List.mem_cons.1 ht with rfl | ht
        · simp
        · have := h1 t ht; simp only [List.length_cons]; omega
      · split
        · intro t ht
          rcases List.mem_cons.1 ht with rfl | ht
          · simp
          · have := h1 t ht; simp only [List.length_cons]; omega
        · split
          · intro t ht
            have := h1 t ht; simp only [List.length_cons]; omega
          · simp
theorem tokM_short (s : List UInt8) : ∀ t ∈ (tokM s).1, t.s.length ≤ s.length := by
  have h := tokF_short s.length 0 s
  unfold tokM
  split
  · simp
  · generalize tokF s.length 0 s = x at *
    obtain ⟨l, o⟩ := x
    cases o <;> simp_all
theorem ownT_rd {w : World} {base : Nat} {v : Value} {l : List Tok} (h : OwnT w base v l) : ∃ a c, v = .slice a l.length c ∧ l.length ≤ c ∧ (0 < l.length → ∃ g, a = some ⟨g, 0, none⟩ ∧ g < w.heap.size ∧ w.rangeAt g 0 (lcellsT l)) := by
  have h0 := h
  rcases h.2 with ⟨rfl, h1⟩ | ⟨g, cap, cur, rfl, hb, hg, hc, _⟩
  · exact ⟨none, 0, by rw [h1], by omega, fun hp => by omega⟩
  · refine ⟨_, cap, rfl, hc, fun _ => ⟨g, rfl, IsBlk.lt hg, fun j x hx => ?_⟩⟩
    have := World.ownsRow.cells h0 (g := g) rfl j x hx
    rw [Addr.add_mid] at this
    exact this

theorem ret_parse {fn : Func} {p q r : Tmp} (h : fn.results = #[.cell p 30, .cell q 3, .cell r 37]) (tmps : Array Value) (w : World) (g0 g1 g2 : Nat) (x0 x1 x2 a b : Value)
    (hp : tmps.getD p undef = .pointer (some ⟨g0, 0, none⟩)) (hq : tmps.getD q undef = .pointer (some ⟨g1, 0, none⟩)) (hr : tmps.getD r undef = .pointer (some ⟨g2, 0, none⟩))
    (h0 : IsBlk w g0 (.cells #[x0, x1, x2] 30)) (h1 : IsBlk w g1 (.cells #[a] 3)) (h2 : IsBlk w g2 (.cells #[b] 37)) :
    (results fn tmps).run Tryz.prog w = .ok (.tuple #[.agg #[x0, x1, x2], a, b]) w := by
  have hp' : tmps[p]?.getD undef = .pointer (some ⟨g0, 0, none⟩) := by simpa using hp
  have hq' : tmps[q]?.getD undef = .pointer (some ⟨g1, 0, none⟩) := by simpa using hq
  have hr' : tmps[r]?.getD undef = .pointer (some ⟨g2, 0, none⟩) := by simpa using hr
  have k0 : w.cell? ⟨g0, 0, none⟩ = some x0 := h0.cell 0
  have k1 : w.cell? ⟨g0, 1, none⟩ = some x1 := h0.cell 1
  have k2 : w.cell? ⟨g0, 2, none⟩ = some x2 := h0.cell 2
  have c1 : w.cell? ⟨g1, 0, none⟩ = some a := h1.cell 0
  have c2 : w.cell? ⟨g2, 0, none⟩ = some b := h2.cell 0
  simp [results, h, hp', hq', hr', asAddr, k0, k1, k2, c1, c2, go_sem]

/-- What Parse leaves, in memory of its own. -/
def ParseOwn (w : World) (x : ProgM × Nat × Nat) (r : Ending) (w' : World) : Prop :=
  ∃ vv vl vf fp, r = .returned (.tuple #[.agg #[vv, vl, vf], .int .i64 x.2.1, .int .i64 x.2.2]) ∧ GrowP w w' vv vl vf x.1 fp ∧ Only [] w w'
/-- What Parse leaves. -/
def ParseTo (w : World) (x : ProgM × Nat × Nat) (r : Ending) (w' : World) : Prop :=
  ∃ vv vl vf, r = .returned (.tuple #[.agg #[vv, vl, vf], .int .i64 x.2.1, .int .i64 x.2.2]) ∧ ProgAt w' vv vl vf x.1 ∧ Only [] w w'

set_option maxHeartbeats 8000000 in
theorem pparse_own (w : World) (s : List UInt8) (hs : s.length ≤ 100000) : Calls Tryz.prog 58 #[encStr s] w (ParseOwn w (parseM s)) := by
  have hmf : ∀ (fn : Fn) (first cap : Array Value) (w : World), (Instr.makeFunc fn first cap).run Tryz.prog w = .ok (.func fn first cap) w := fun _ _ _ _ => rfl
  have hq0 := Lib.hid (((IsBlk.made w (.cells #[.slice none 0 0, .slice none 0 0, .slice none 0 0] 30)).alloc (.cells #[.int .i64 0] 3)).alloc (.cells #[.int .i64 0] 37))
  have hq1 := Lib.hid ((IsBlk.made (w.alloc (.cells #[.slice none 0 0, .slice none 0 0, .slice none 0 0] 30)) (.cells #[.int .i64 0] 3)).alloc (.cells #[.int .i64 0] 37))
  have hq2 := Lib.hid (IsBlk.made ((w.alloc (.cells #[.slice none 0 0, .slice none 0 0, .slice none 0 0] 30)).alloc (.cells #[.int .i64 0] 3)) (.cells #[.int .i64 0] 37))
  have hO0 := Lib.hid ((((Only.refl [] w).alloc (.cells #[.slice none 0 0, .slice none 0 0, .slice none 0 0] 30)).alloc (.cells #[.int .i64 0] 3)).alloc (.cells #[.int .i64 0] 37))
  have e1 : (w.alloc (.cells #[.slice none 0 0, .slice none 0 0, .slice none 0 0] 30)).heap.size = w.heap.size + 1 := by simp
  have e2 : ((w.alloc (.cells #[.slice none 0 0, .slice none 0 0, .slice none 0 0] 30)).alloc (.cells #[.int .i64 0] 3)).heap.size = w.heap.size + 1 + 1 := by simp
  rw [e1] at hq1
  rw [e2] at hq2
  clear e1 e2
  go_enter_defers Tryz.func58, Tryz.ntmps58
  unfold encStr
  go_upto_region 1 with fail
  generalize hW : ((w.alloc (.cells #[.slice none 0 0, .slice none 0 0, .slice none 0 0] 30)).alloc (.cells #[.int .i64 0] 3)).alloc (.cells #[.int .i64 0] 37) = w1 at *
  clear hW
  go_wp2_with fail
  refine (tokens_any _ s hs).mono ?_
  rintro r w2 ⟨v, rfl, hT, hO2⟩
  have hlen := tokM_len s
  have hsh := Lib.hid (tokM_short s)
  obtain ⟨a, c, rfl, hc, hr⟩ := ownT_rd hT
  have h0 := hq0.out.only hO2 (by simp)
  have h1 := hq1.out.only hO2 (by simp)
  have h2 := hq2.out.only hO2 (by simp)
  have l0 := h0.lt
  have l1 := h1.lt
  have l2 := h2.lt
  have b0 := h1.cell 0
  have b1 := h1.notFrozen 0
  have d0 := h2.cell 0
  have d1 := h2.notFrozen 0
  have hO3 : Only [w.heap.size + 1, w.heap.size + 1 + 1] w2 ((w2.setCell ⟨w.heap.size + 1, 0, none⟩ (.int .i64 (tokM s).2.1)).setCell ⟨w.heap.size + 1 + 1, 0, none⟩ (.int .i64 (tokM s).2.2)) := ((Only.refl _ _).setCell (.inl (by simp)) _).setCell (.inl (by simp)) _
  have Hq0 := Lib.hid (h0.only hO3 (by simp <;> omega))
  have Hq1 := Lib.hid ((IsBlk.put h1 0 (.int .i64 (tokM s).2.1)).away (a := ⟨w.heap.size + 1 + 1, 0, none⟩) (by simp <;> omega) (.int .i64 (tokM s).2.2))
  have Hq2 := Lib.hid (IsBlk.put (h2.away (a := ⟨w.heap.size + 1, 0, none⟩) (by simp <;> omega) (.int .i64 (tokM s).2.1)) 0 (.int .i64 (tokM s).2.2))
  have HO := Lib.hid ((hO0.out.plus hO2).then hO3 [] (by simp) (by simp <;> omega))
  have hsz := hO3.size
  have HT := Lib.hid (fun (hp : 0 < (tokM s).1.length) => show ∃ g, a = some ⟨g, 0, none⟩ ∧ g < w2.heap.size ∧ World.rangeAt _ g 0 (lcellsT (tokM s).1) from by
    obtain ⟨g, e, hg, hra⟩ := hr hp
    have hgb : w1.heap.size ≤ g := by
      rcases hT.2 with ⟨h5, h6⟩ | ⟨g2, cap, cur, h5, hb, -⟩
      · rw [e] at h5; cases h5
      · rw [e] at h5; injection h5 with h5; injection h5 with h5; injection h5 with h5; omega
    have hl2 := hq2.out.lt
    exact ⟨g, e, hg, rangeAt_only hra hO3 hg (by simp <;> omega)⟩)
  clear hr hT hO2 hO3 h0 h1 h2 hq0 hq1 hq2 hO0
  have hpm : Hid (parseM s = if (tokM s).2.2 ≠ 0 then (⟨[], [], []⟩, (tokM s).2.1, (tokM s).2.2)
    else match progF (tokM s).1.length s.length (tokM s).1 ⟨[], [], []⟩ with
      | .ok p => (p, 0, 0)
      | .error (i, k) => (⟨[], [], []⟩, i, k)) := Lib.hid rfl
  generalize parseM s = M at *
  generalize tokM s = x at *
  obtain ⟨l, pos, er⟩ := x
  simp only at *
  go_upto_region 2 with fail
  generalize hW3 : (w2.setCell ⟨w.heap.size + 1, 0, none⟩ (.int .i64 pos)).setCell ⟨w.heap.size + 1 + 1, 0, none⟩ (.int .i64 er) = w3 at *
  clear hW3 b0 b1 d0 d1
  simp only [List.setIfInBounds_toArray, List.set_cons_zero] at Hq1 Hq2
  have y0 := Hq0.out.cell 0
  have y1 := Hq0.out.cell 1
  have y2 := Hq0.out.cell 2
  have b0 := Hq1.out.cell 0
  have d0 := Hq2.out.cell 0
  have f0 := Hq0.out.notFrozen 0
  have f1 := Hq0.out.notFrozen 1
  have f2 := Hq0.out.notFrozen 2
  have f3 := Hq1.out.notFrozen 0
  have f4 := Hq2.out.notFrozen 0
  by_cases he : er = 0
  · subst he
    have hR : RdAt (w3.alloc (.cells #[.slice a l.length c, .int .i64 s.length] 146)) w3.heap.size l s.length := by
      refine ⟨a, c, IsBlk.made _ _, hc, ⟨by omega, fun t ht => Nat.le_trans (hsh.out t ht) hs⟩, fun hp => ?_⟩
      obtain ⟨g, e, hg, hra⟩ := HT.out hp
      exact ⟨g, 0, e, by omega, rangeAt_only hra ((Only.refl [] w3).alloc _) (by omega) (by simp)⟩
    have HR := Lib.hid hR
    have hOa := (Only.refl [] w3).alloc (.cells #[.slice a l.length c, .int .i64 s.length] 146)
    have Ha0 := Lib.hid (Hq0.out.only hOa (by simp))
    have Ha1 := Lib.hid (Hq1.out.only hOa (by simp))
    have Ha2 := Lib.hid (Hq2.out.only hOa (by simp))
    have HOa := Lib.hid (HO.out.plus hOa)
    have hl3 := Hq2.out.lt
    clear hR hOa HT
    go_wp2_with fail
    generalize hW4 : w3.alloc (.cells #[.slice a l.length c, .int .i64 s.length] 146) = w4 at *
    clear hW4
    generalize hg3 : w3.heap.size = g3 at *
    refine (pprog_any _ g3 s.length l HR.out).mono ?_
    cases hpr : progF l.length s.length l ⟨[], [], []⟩ with
    | error y =>
      obtain ⟨yi, yk⟩ := y
      have HM : Hid (M = (⟨[], [], []⟩, yi, yk)) := Lib.hid (by rw [hpm.out, if_neg (by simp), hpr])
      rintro r w5 ⟨rfl, hO5⟩
      have r0 := Ha0.out.only hO5 (by simp; omega)
      have r1 := Ha1.out.only hO5 (by simp; omega)
      have r2 := Ha2.out.only hO5 (by simp; omega)
      have rO := HOa.out.then hO5 [] (by simp) (by simp; omega)
      refine leaves_cons (f := 82) (args := #[.pointer (some ⟨w.heap.size, 0, none⟩), .pointer (some ⟨w.heap.size + 1, 0, none⟩), .pointer (some ⟨w.heap.size + 1 + 1, 0, none⟩)]) (by simp) (by simp [go_sem]) ?_
      refine (catch_fault w.heap.size (w.heap.size + 1) (w.heap.size + 1 + 1) (yi, yk) _ _ _ _ _ _ r0 r1 r2 (by omega) (by omega) (by omega)).mono ?_
      rintro e u' w6 ⟨rfl, rfl, s0, s1, s2, hO6⟩
      refine ⟨_, ret_parse rfl _ _ w.heap.size (w.heap.size + 1) (w.heap.size + 1 + 1) _ _ _ _ _ rfl rfl rfl s0 s1 s2, ?_⟩
      rw [HM.out]
      exact ⟨_, _, _, [], rfl, GrowP.nil _ _, rO.then hO6 [] (by simp) (by simp; omega)⟩
    | ok P =>
      have HM : Hid (M = (P, 0, 0)) := Lib.hid (by rw [hpm.out, if_neg (by simp), hpr])
      rintro r w5 ⟨vv, vl, vf, rfl, hP, ⟨fpg, hG⟩, hO5⟩
      have hP0 := hP [] _ (Only.refl [] _) (by simp)
      obtain ⟨av, cv, rfl, -⟩ := hP0.1
      obtain ⟨al, cl, rfl, -⟩ := hP0.2.1
      obtain ⟨af, cf, rfl, -⟩ := hP0.2.2
      clear hP0
      have r0 := Ha0.out.only hO5 (by simp; omega)
      have r1 := Ha1.out.only hO5 (by simp; omega)
      have r2 := Ha2.out.only hO5 (by simp; omega)
      have rO := Lib.hid (HOa.out.then hO5 [] (by simp) (by simp; omega))
      clear y0 y1 y2 b0 d0 f0 f1 f2 f3 f4 hpm hpr
      have y0 := r0.cell 0
      have y1 := r0.cell 1
      have y2 := r0.cell 2
      have b0 := r1.cell 0
      have d0 := r2.cell 0
      have f0 := r0.notFrozen 0
      have f1 := r0.notFrozen 1
      have f2 := r0.notFrozen 2
      have f3 := r1.notFrozen 0
      have f4 := r2.notFrozen 0
      have R0 := Lib.hid r0
      have R1 := Lib.hid r1
      have R2 := Lib.hid r2
      have HP := Lib.hid hG
      clear r0 r1 r2 hP hG
      go_wp2
      obtain ⟨s0, hE0⟩ := three_world R0.out (.slice av P.vars.length cv) (.slice al P.locks.length cl) (.slice af P.funcs.length cf)
      have hE1 := ((Only.refl [w.heap.size + 1, w.heap.size + 1 + 1] (((w5.setCell ⟨w.heap.size, 0, none⟩ (.slice av P.vars.length cv)).setCell ⟨w.heap.size, 1, none⟩ (.slice al P.locks.length cl)).setCell ⟨w.heap.size, 2, none⟩ (.slice af P.funcs.length cf))).setCell (p := ⟨w.heap.size + 1, 0, none⟩) (.inl (by simp)) (.int .i64 0)).setCell (p := ⟨w.heap.size + 1 + 1, 0, none⟩) (.inl (by simp)) (.int .i64 0)
      have s0' := s0.only hE1 (by simp <;> omega)
      have s1 := ((IsBlk.put (R1.out.only hE0 (by simp <;> omega)) 0 (.int .i64 0)).away (a := ⟨w.heap.size + 1 + 1, 0, none⟩) (by simp <;> omega) (.int .i64 0))
      have s2 := (IsBlk.put ((R2.out.only hE0 (by simp <;> omega)).away (a := ⟨w.heap.size + 1, 0, none⟩) (by simp <;> omega) (.int .i64 0)) 0 (.int .i64 0))
      have hE := hE0.then hE1 [w.heap.size, w.heap.size + 1, w.heap.size + 1 + 1] (by simp) (by simp)
      refine leaves_cons (f := 82) (args := #[.pointer (some ⟨w.heap.size, 0, none⟩), .pointer (some ⟨w.heap.size + 1, 0, none⟩), .pointer (some ⟨w.heap.size + 1 + 1, 0, none⟩)]) (by simp) (by simp [go_sem]) ?_
      refine (catch_idle w.heap.size (w.heap.size + 1) (w.heap.size + 1 + 1) _).mono ?_
      rintro e u' w6 ⟨rfl, rfl, rfl⟩
      refine ⟨_, ret_parse rfl _ _ w.heap.size (w.heap.size + 1) (w.heap.size + 1 + 1) _ _ _ _ _ rfl rfl rfl s0' s1 s2, ?_⟩
      rw [HM.out]
      have hl4 := HR.out.lt
      exact ⟨_, _, _, fpg, rfl, (HP.out.keep hE (by simp; omega)).base (by omega), rO.out.then hE [] (by simp) (by simp; omega)⟩
  · have hei : ¬ (er : Int) = 0 := by omega
    have HM : Hid (M = (⟨[], [], []⟩, pos, er)) := Lib.hid (by rw [hpm.out, if_pos he])
    clear hpm
    go_upto_region 3 with fail
    go_region
    have hE := three_world Hq0.out (.slice none 0 0) (.slice none 0 0) (.slice none 0 0)
    have hE1 : Only [w.heap.size + 1, w.heap.size + 1 + 1] _ _ := ((Only.refl [w.heap.size + 1, w.heap.size + 1 + 1] (((w3.setCell ⟨w.heap.size, 0, none⟩ (.slice none 0 0)).setCell ⟨w.heap.size, 1, none⟩ (.slice none 0 0)).setCell ⟨w.heap.size, 2, none⟩ (.slice none 0 0))).setCell (p := ⟨w.heap.size + 1, 0, none⟩) (.inl (by simp)) (.int .i64 pos)).setCell (p := ⟨w.heap.size + 1 + 1, 0, none⟩) (.inl (by simp)) (.int .i64 er)
    have r0 := (hE.1.only hE1 (by simp <;> omega)).drew
    have r1 := ((IsBlk.put (Hq1.out.only hE.2 (by simp <;> omega)) 0 (.int .i64 pos)).away (a := ⟨w.heap.size + 1 + 1, 0, none⟩) (by simp <;> omega) (.int .i64 er)).drew
    have r2 := (IsBlk.put ((Hq2.out.only hE.2 (by simp <;> omega)).away (a := ⟨w.heap.size + 1, 0, none⟩) (by simp <;> omega) (.int .i64 pos)) 0 (.int .i64 er)).drew
    have rO := (HO.out.then (hE.2.then hE1 [w.heap.size, w.heap.size + 1, w.heap.size + 1 + 1] (by simp) (by simp)) [] (by simp) (by simp <;> omega)).drew
    clear hE hE1
    generalize hWf : (((((w3.setCell ⟨w.heap.size, 0, none⟩ (.slice none 0 0)).setCell ⟨w.heap.size, 1, none⟩ (.slice none 0 0)).setCell ⟨w.heap.size, 2, none⟩ (.slice none 0 0)).setCell ⟨w.heap.size + 1, 0, none⟩ (.int .i64 pos)).setCell ⟨w.heap.size + 1 + 1, 0, none⟩ (.int .i64 er)).drew = wf at *
    clear hWf
    clear y0 y1 y2 b0 d0 f0 f1 f2 f3 f4
    go_wp2
    simp only [List.setIfInBounds_toArray, List.set_cons_zero] at r1 r2
    refine ⟨_, ret_parse rfl _ _ w.heap.size (w.heap.size + 1) (w.heap.size + 1 + 1) _ _ _ _ _ rfl rfl rfl r0 r1 r2, ?_⟩
    rw [HM.out]
    exact ⟨_, _, _, [], rfl, GrowP.nil _ _, rO⟩

theorem pparse_any (w : World) (s : List UInt8) (hs : s.length ≤ 100000) : Calls Tryz.prog 58 #[encStr s] w (ParseTo w (parseM s)) :=
  (pparse_own w s hs).mono fun r w' ⟨vv, vl, vf, fp, h1, h2, h3⟩ => ⟨vv, vl, vf, h1, h2.done, h3⟩

end Go.Proofs.YtildkedplmjdaaaGreatDoor
