/-
  The document's own order of files (Sorted).
-/
import Derived.Test.YtfampoblcielpaaGreatStM
namespace Go.Proofs.YtfampoblcielpaaGreat
set_option maxRecDepth 100000
set_option linter.unusedVariables false
open Go.RowKit Go.Sort Go.Maps

theorem lcells_get : ∀ {l : List FileM} {j : Nat} {u : Value}, (lcellsF l)[j]? = some u → ∃ i f, l[i]? = some f ∧ ((j = i * 2 ∧ u = encStr f.1) ∨ (j = i * 2 + 1 ∧ u = encStr f.2))
  | [], j, u, h => by simp [lcellsF] at h
  | f :: r, j, u, h => by
    have e : lcellsF (f :: r) = encStr f.1 :: encStr f.2 :: lcellsF r := rfl
    rw [e] at h
    match j, h with
    | 0, h => simp at h; exact ⟨0, f, rfl, .inl ⟨rfl, h.symm⟩⟩
    | 1, h => simp at h; exact ⟨0, f, rfl, .inr ⟨rfl, h.symm⟩⟩
    | j + 2, h =>
      simp only [List.getElem?_cons_succ] at h
      obtain ⟨i, g, hg, hc⟩ := lcells_get h
      refine ⟨i + 1, g, by simpa using hg, ?_⟩
      rcases hc with ⟨h1, h2⟩ | ⟨h1, h2⟩
      · exact .inl ⟨by omega, h2⟩
      · exact .inr ⟨by omega, h2⟩
theorem lcellsF_append (l m : List FileM) : lcellsF (l ++ m) = lcellsF l ++ lcellsF m := by simp [lcellsF]
theorem run_append_noneF (w : World) (base : Nat) (v : Value) (l : List FileM) (h : OwnF w base v l) (ty : TypeId) (c : Nat) :
    (Builtin.append_ #[34, 34] ty #[v, .slice none 0 c]).run Tryz.prog w = .ok v w := by
  obtain ⟨i0, hi, hz0, hz1, hz2⟩ := info_parts infoF
  rcases h.2 with ⟨rfl, _⟩ | ⟨g, cap, cur, rfl, _, _, hnc, _⟩
  · simp [Builtin.append_, run_underlying Tryz.underlying34, sizeOf, typeInfo, hi, Builtin.lenOf, Builtin.firstCells]
  · simp [Builtin.append_, run_underlying Tryz.underlying34, sizeOf, typeInfo, hi, Builtin.lenOf, Builtin.firstCells, hnc, storeCells]

/-- Files appended to a row of files of one's own. -/
theorem wp_append_fs {w : World} {o : Oper} {a : Act} {K : Act → World → Prop} {Q : Exit → Act → World → Prop} (s x : Operand)
    (ho : o.op = .call { callee := .builtin .append, args := #[s, x], argTypes := #[34, 34] })
    (base : Nat) (v : Value) (l : List FileM) (hs : a.eval s = v) (hown : OwnF w base v l) (xa : Option Addr) (m c : Nat) (l2 : List FileM) (hx : a.eval x = .slice xa m c) (hsrc : FilesAt w xa m l2) (hsm : l.length + m ≤ 1000000) (hbase : base ≤ w.heap.size)
    (h : ∀ v' w', OwnF w' base v' (l ++ l2) → w.grownBy w' v.ownBlock → K (a.put o.dst v') w') : o.wp Tryz.prog a w K Q := by
  obtain ⟨i0, hi, hz0, hz1, hz2⟩ := info_parts infoF
  have hlen := hsrc.1
  rcases xa with _ | ad
  · have hm : m = 0 := by
      rcases Nat.eq_zero_or_pos m with h0 | h0
      · exact h0
      · obtain ⟨b, o, e, _⟩ := hsrc.2 h0; cases e
    subst hm
    obtain rfl : l2 = [] := List.eq_nil_of_length_eq_zero hlen
    have hrun := run_append_noneF w base v l hown o.type c
    unfold Oper.wp execOp
    simp only [ho, resolve, invoke, builtin, Sem.run_bind, Sem.run_pure, Result.andThen_ok, List.map_toArray, List.map_cons, List.map_nil, hs, hx, hrun]
    exact h v w (by simpa using hown) (World.grownBy.refl _ _)
  · refine wp_append_own w s x _ ho base _ i0 _ 2 32 Tryz.underlying34 hi hz0 hz1 hz2 rfl (by decide) v l.length (lcellsF l) hs hown ad m c (lcellsF l2) hx (by rw [length_lcellsF, hlen])
      (fun j u hu => ?_) (fun u hu => ?_) (by unfold maxLen; omega) (by omega) hbase (fun v' w' h2 h3 h4 => h v' w' ?_ h3)
    · obtain ⟨i, f, hf, hc⟩ := lcells_get hu
      have hi' : i < m := by have := (List.getElem?_eq_some_iff.1 hf).1; omega
      obtain ⟨b, o', e, hb, hr⟩ := hsrc.2 (by omega)
      injection e with e; subst e
      rw [Addr.add_mid]
      rcases hc with ⟨rfl, rfl⟩ | ⟨rfl, rfl⟩
      · exact (hr i f hf).1
      · have := (hr i f hf).2; rwa [Nat.add_assoc] at this
    · obtain ⟨j, hj⟩ := List.mem_iff_getElem?.1 hu
      obtain ⟨i, f, hf, hc⟩ := lcells_get hj
      rcases hc with ⟨_, rfl⟩ | ⟨_, rfl⟩ <;> rfl
    · unfold OwnF
      rw [lcellsF_append, List.length_append, hlen]
      exact h2
theorem wpList_append_fs {w : World} {ops : Array Oper} {rest : List Oper} {o : Oper} {a : Act} {Q : Exit → Act → World → Prop} (hgd : o.guard = none) (s x : Operand)
    (ho : o.op = .call { callee := .builtin .append, args := #[s, x], argTypes := #[34, 34] })
    (base : Nat) (v : Value) (l : List FileM) (hs : a.eval s = v) (hown : OwnF w base v l) (xa : Option Addr) (m c : Nat) (l2 : List FileM) (hx : a.eval x = .slice xa m c) (hsrc : FilesAt w xa m l2) (hsm : l.length + m ≤ 1000000) (hbase : base ≤ w.heap.size)
    (h : ∀ v' w', OwnF w' base v' (l ++ l2) → w.grownBy w' v.ownBlock → wpList Tryz.prog ops Q rest (a.put o.dst v') w') : wpList Tryz.prog ops Q (o :: rest) a w :=
  wpList_plain hgd fun _ hK => wp_append_fs s x ho base v l hs hown xa m c l2 hx hsrc hsm hbase fun v' w' h2 h3 => hK _ _ (h v' w' h2 h3)
theorem OwnF.cut {w : World} {base g n cap k : Nat} {l : List FileM} (h : OwnF w base (.slice (some ⟨g, 0, none⟩) n cap) l) (hn : l.length = n) (hk : k ≤ n) : OwnF w base (.slice (some ⟨g, 0, none⟩) k cap) (l.take k) := by
  rcases h.2 with ⟨h0, _⟩ | ⟨g', cap', cur, e, hb, hg, h1, h2, h3, h4⟩
  · cases h0
  · injection e with e1 e2 e3
    injection e1 with e1; injection e1 with e1 _
    subst e1 e3
    have hl : (l.take k).length = k := by rw [List.length_take]; omega
    refine ⟨by rw [length_lcellsF], .inr ⟨g, cap, cur, by rw [hl], hb, hg, by rw [hl]; omega, h2, h3, ?_⟩⟩
    rw [hl]
    have h5 : lcellsF l = lcellsF (l.take k) ++ lcellsF (l.drop k) := by rw [← lcellsF_append, List.take_append_drop]
    rw [h5] at h4
    have h6 := congrArg (List.take (k * 2)) h4
    rw [List.take_take, Nat.min_eq_left (by omega)] at h6
    rw [h6, List.take_append_of_le_length (by rw [length_lcellsF, hl]; omega)]
    exact List.take_of_length_le (by rw [length_lcellsF, hl]; omega)

/-- A file laid into files by names, as the document's own Sorted does it. -/
def insK (f : FileM) : List FileM → List FileM
  | [] => [f]
  | g :: r => if Op.bytesLess g.1 f.1 then g :: insK f r else f :: g :: r
def sortK (l : List FileM) : List FileM := l.foldl (fun F f => insK f F) []
theorem sortK_snoc (l : List FileM) (f : FileM) : sortK (l ++ [f]) = insK f (sortK l) := by simp [sortK, List.foldl_append]
theorem insK_at {f : FileM} : ∀ {F : List FileM} {k : Nat}, k ≤ F.length → (∀ g ∈ F.take k, Op.bytesLess g.1 f.1 = true) → (∀ g, F[k]? = some g → Op.bytesLess g.1 f.1 = false) → insK f F = F.take k ++ [f] ++ F.drop k
  | [], k, hk, _, _ => by simp at hk; subst hk; rfl
  | g :: r, 0, _, _, h => by
    have := h g rfl
    simp [insK, this]
  | g :: r, k + 1, hk, h1, h2 => by
    have hg := h1 g (by simp)
    unfold insK
    rw [if_pos hg, insK_at (F := r) (k := k) (by simpa using hk) (fun x hx => h1 x (by simp [hx])) (fun x hx => h2 x (by simpa using hx))]
    simp
theorem length_insK (f : FileM) : ∀ F : List FileM, (insK f F).length = F.length + 1
  | [] => rfl
  | g :: r => by unfold insK; split <;> simp [length_insK f r]
theorem length_sortK : ∀ l : List FileM, (sortK l).length = l.length :=
  snoc_cases rfl (fun l f ih => by rw [sortK_snoc, length_insK, ih, List.length_append]; rfl)

theorem FilesAt.drop {w : World} {b o len k : Nat} {l : List FileM} (h : FilesAt w (some ⟨b, o, none⟩) len l) (hk : k ≤ len) : FilesAt w (some ⟨b, o + k * 2, none⟩) (len - k) (l.drop k) :=
  ⟨by rw [List.length_drop, h.1], fun hp => by
    obtain ⟨b', o', e, hb, hc⟩ := h.2 (by omega)
    injection e with e; injection e with e1 e2
    subst e1 e2
    refine ⟨b, o + k * 2, rfl, hb, fun i f hi => ?_⟩
    rw [List.getElem?_drop] at hi
    have := hc (k + i) f hi
    have e3 : o + k * 2 + i * 2 = o + (k + i) * 2 := by omega
    rw [e3]
    exact this⟩
theorem OwnF.caps {w : World} {base n c : Nat} {a : Option Addr} {l : List FileM} (h : OwnF w base (.slice a n c) l) : n ≤ c ∧ (a = none ∧ n = 0 ∧ c = 0 ∨ ∃ g, a = some ⟨g, 0, none⟩ ∧ base ≤ g ∧ g < w.heap.size) := by
  rcases h.2 with ⟨h0, h1⟩ | ⟨g, cap, cur, e, hb, hg, h1, _⟩
  · injection h0 with e1 e2 e3
    subst e1 e2 e3
    exact ⟨Nat.le_refl _, .inl ⟨rfl, rfl, rfl⟩⟩
  · injection e with e1 e2 e3
    subst e1 e2 e3
    exact ⟨h1, .inr ⟨g, rfl, hb, IsBlk.lt hg⟩⟩
theorem OwnF.made (w : World) (base : Nat) (hb : base ≤ w.heap.size) : OwnF (w.alloc (.cells #[] 48)) base (.slice (some ⟨w.heap.size, 0, none⟩) 0 0) [] :=
  World.ownsRow_made w #[] 0 hb (by simp [maxLen]) (by simp)

theorem grown_cell {w w' : World} {v : Value} {base b i : Nat} (hg : w.grownBy w' v.ownBlock) (hl : ∀ k, v.ownBlock = some k → base ≤ k ∧ k < w.heap.size) (hb : b < base) (hs : base ≤ w.heap.size) : w'.cell? ⟨b, i, none⟩ = w.cell? ⟨b, i, none⟩ := by
  have h := hg.block b (by omega) (fun e => by have := (hl b e.symm).1; omega)
  simp only [World.cell?, h]

theorem onlyOwn {w0 w w' : World} {base : Nat} {v : Value} {l : List FileM} (hO : Only [] w0 w) (hown : OwnF w base v l) (hg : w.grownBy w' v.ownBlock) (h0 : w0.heap.size ≤ base) : Only [] w0 w' := by
  rcases hb0 : Value.ownBlock v with _ | g0
  · rw [hb0] at hg
    exact hO.plus ⟨hg.os, hg.tape, hg.output, hg.size, fun k hk _ => hg.block k hk (by simp)⟩
  · rw [hb0] at hg
    exact only_row hO hg (World.ownsRow.lt hown g0 hb0).1 h0

set_option maxHeartbeats 8000000 in
theorem sorted_any (w : World) (a : Option Addr) (len cap : Nat) (l : List FileM) (h : FilesAt w a len l) (hml : len ≤ 1000) :
    Calls Tryz.prog 11 #[.slice a len cap] w fun e w' => ∃ v, e = .returned v ∧ OwnF w' w.heap.size v (sortK l) ∧ Only [] w w' := by
  have H := Lib.hid h
  obtain rfl := h.1
  clear h
  go_enter Tryz.func11, Tryz.ntmps11
  go_wp2_with fail
  go_loopw [4, 3] (fun i s3 wr => ∃ j : Nat, j ≤ l.length ∧ i = .int .i64 j ∧ OwnF wr w.heap.size s3 (sortK (l.take j)) ∧ Only [] w wr) (fun i _ _ => l.length - (intOf i).toNat)
  case atStart => exact ⟨0, by omega, rfl, ⟨rfl, .inl ⟨rfl, rfl⟩⟩, Only.refl _ _⟩
  case round =>
    obtain ⟨j, hj, rfl, hown, hO⟩ := hrel
    obtain ⟨a3, c3, rfl, hfl, hfa⟩ := hown.files
    have Hown := Lib.hid hown
    have Hfl := Lib.hid hfl
    have HO := Lib.hid hO
    clear hown hO hfl
    have hjl : (sortK (l.take j)).length = j := by rw [length_sortK, List.length_take]; omega
    by_cases hlt : j < l.length
    · have hlti : (j : Int) < (l.length : Int) := by omega
      obtain ⟨b0, o0, e0, hb0, -⟩ := H.out.2 (by omega)
      obtain ⟨b, o, rfl, hb, hc⟩ := (H.out.more HO.out).2 (by omega)
      have hbw : b < w.heap.size := by injection e0 with e0; injection e0 with e1 e2; omega
      clear e0 hb0
      obtain ⟨c0, c1⟩ := hc j _ (List.getElem?_eq_getElem hlt)
      have Htk : Hid (sortK (l.take (j + 1)) = insK l[j] (sortK (l.take j))) := Lib.hid (by rw [List.take_add_one, List.getElem?_eq_getElem hlt]; exact sortK_snoc _ _)
      generalize l[j] = f at *
      obtain ⟨fn, ft⟩ := f
      simp only at c0 c1
      clear hc
      generalize sortK (l.take j) = S at *
      have HSl := Lib.hid hjl
      rw [hjl] at Hfl Hown ⊢
      clear hjl
      obtain ⟨hjc, hsh⟩ := Hown.out.caps
      have hjci : (j : Int) ≤ (c3 : Int) := by omega
      go_wp2_with fail
      go_loopw [5] (fun i wx => ∃ k : Nat, k ≤ j ∧ i = .int .i64 k ∧ Hid (∀ g ∈ S.take k, Op.bytesLess g.1 fn = true) ∧ Only [] wr wx) (fun i _ => j - (intOf i).toNat)
      case atStart => exact ⟨0, by omega, rfl, Lib.hid (by simp), Only.refl _ _⟩
      case round =>
        obtain ⟨k, hk, rfl, hall, hOx⟩ := hrel
        rename World => wx
        have HOx := Lib.hid hOx
        clear hOx
        have d0 := (HOx.out.cell (p := ⟨b, _, none⟩) hb (by simp)).trans c0
        have d1 := (HOx.out.cell (p := ⟨b, _, none⟩) hb (by simp)).trans c1
        unfold encStr at d0 d1
        by_cases hkj : k < j
        · have hkji : (k : Int) < (j : Int) := by omega
          obtain ⟨g3, o3, ha3, hg3, hc3⟩ := (Hfl.out.more HOx.out).2 (by omega)
          rcases hsh with ⟨h0, h1, h2⟩ | ⟨g3', h0, hbg, hgw⟩
          · omega
          rw [h0] at ha3
          injection ha3 with ha3; injection ha3 with ha3 ha4
          subst ha3 ha4 h0
          obtain ⟨e0, -⟩ := hc3 k _ (List.getElem?_eq_getElem (by have := HSl.out; omega))
          have hkS : k < S.length := by have := HSl.out; omega
          have Hst : Hid (S.take (k + 1) = S.take k ++ [S[k]]) := Lib.hid (by rw [List.take_add_one, List.getElem?_eq_getElem hkS]; rfl)
          have Hnx : Hid (S[k]? = some S[k]) := Lib.hid (List.getElem?_eq_getElem hkS)
          generalize S[k] = g at *
          obtain ⟨gn, gt⟩ := g
          unfold encStr at e0
          simp only [Nat.zero_add] at e0
          clear hc3
          cases hless : Op.bytesLess gn fn with
          | true =>
            have Hless := Lib.hid hless
            go_wp2_with fail
            go_quiet (fail)
            go_wp2
            go_roundw
            case rel =>
              refine ⟨k + 1, by omega, by go_num, Lib.hid (fun g hg => ?_), HOx.out.plus ((Only.refl [] wx).drewN _)⟩
              rw [Hst.out] at hg
              rcases List.mem_append.1 hg with h1 | h1
              · exact hall.out g h1
              · simp at h1; subst h1; exact Hless.out
            case measure => simp [intOf]; omega
          | false =>
            have HinsE : Hid (insK (fn, ft) S = S.take k ++ [(fn, ft)] ++ S.drop k) := Lib.hid (insK_at (by have := HSl.out; omega) hall.out (fun g hg => by rw [Hnx.out] at hg; injection hg with hg; subst hg; exact hless))
            go_wp2_with fail
            go_quiet (fail)
            have hO8 := Lib.hid (((Only.refl [] wx).alloc (.cells #[] 48)).drew)
            have Hw8 : Hid (OwnF (wx.alloc (.cells #[] 48)).drew wx.heap.size (.slice (some ⟨wx.heap.size, 0, none⟩) 0 0) []) := Lib.hid (OwnF.made wx wx.heap.size (Nat.le_refl _))
            have hsrc8 := Lib.hid (((Hfl.out.more HOx.out).more hO8.out).drop (k := k) (by omega))
            rw [Nat.zero_add] at hsrc8
            go_wp2_with (at_builtin; refine wpList_append_fs rfl _ _ rfl wx.heap.size _ [] rfl Hw8.out _ (j - k) _ (S.drop k) rfl hsrc8.out (by simp; omega) hO8.out.size ?_; intro vR w1 hR hgR)
            rw [List.nil_append] at hR
            have hOx1 : Only [] wx w1 := only_row (((Only.refl [] wx).drewN _).alloc _) (show World.grownBy _ _ (some wx.heap.size) from hgR) (Nat.le_refl wx.heap.size) (Nat.le_refl _)
            have hOr1 := HOx.out.plus hOx1
            obtain ⟨aR, cR, rfl, hRf, hRb⟩ := hR.files
            have f0 := (hOr1.cell (p := ⟨b, _, none⟩) hb (by simp)).trans c0
            have f1 := (hOr1.cell (p := ⟨b, _, none⟩) hb (by simp)).trans c1
            unfold encStr at f0 f1
            have HO1 := Lib.hid hOr1
            have hOz := Lib.hid (((Only.refl [] w1).alloc (.cells #[.string ⟨fn.toArray⟩, .string ⟨ft.toArray⟩] 48)).drew)
            have Hcut : Hid (OwnF (w1.alloc (.cells #[.string ⟨fn.toArray⟩, .string ⟨ft.toArray⟩] 48)).drew w.heap.size (.slice (some ⟨g3', 0, none⟩) k c3) (S.take k)) := Lib.hid (((Hown.out.only hOr1).only hOz.out).cut HSl.out (by omega))
            have Hone : Hid (FilesAt (w1.alloc (.cells #[.string ⟨fn.toArray⟩, .string ⟨ft.toArray⟩] 48)).drew (some ⟨w1.heap.size, 0, none⟩) 1 [(fn, ft)]) := Lib.hid (files_one (fn, ft) _ (IsBlk.made w1 _))
            have hszz : w.heap.size ≤ (w1.alloc (.cells #[.string ⟨fn.toArray⟩, .string ⟨ft.toArray⟩] 48)).drew.heap.size := Nat.le_trans HO.out.size (Nat.le_trans hOr1.size hOz.out.size)
            have hgx : g3' < wx.heap.size := Nat.lt_of_lt_of_le hgw HOx.out.size
            have htl : (S.take k).length = k := by rw [List.length_take]; have := HSl.out; omega
            have hdl : (S.drop k).length = j - k := by rw [List.length_drop, HSl.out]
            have HRf : Hid (FilesAt (w1.alloc (.cells #[.string ⟨fn.toArray⟩, .string ⟨ft.toArray⟩] 48)).drew aR (j - k) (S.drop k)) := Lib.hid (by have h := hRf.more hOz.out; rw [hdl] at h; exact h)
            have hbw1 : b < w1.heap.size := Nat.lt_of_lt_of_le hb hOr1.size
            have HRb := Lib.hid hRb
            have hkc0 : (0 : Int) ≤ (k : Int) := by omega
            have hkci : (k : Int) ≤ (c3 : Int) := by omega
            have hkji2 : (k : Int) ≤ (j : Int) := by omega
            clear hR hgR hRf hOx1 hOr1 Hw8 hO8 hsrc8 d0 d1 hRb
            rw [hdl]
            clear hdl
            go_region_held3 (fun W => W.cell? ⟨b, o + j * 2, none⟩ = some (.string ⟨fn.toArray⟩) ∧ W.cell? ⟨b, o + j * 2 + 1, none⟩ = some (.string ⟨ft.toArray⟩)) (first | exact ⟨f0, f1⟩ | assumption | exact ⟨(hOz.out.cell (p := ⟨b, _, none⟩) hbw1 (by simp)).trans f0, (hOz.out.cell (p := ⟨b, _, none⟩) hbw1 (by simp)).trans f1⟩)
              (first
                | (rw [if_pos (by rfl)]
                   refine wp_append_fs _ _ rfl w.heap.size _ _ rfl h5 aR (j - k) cR (S.drop k) rfl hR5 (by rw [List.length_append, htl]; simp; omega) hsz5 ?_
                   intro v6 w6 h6 hg6
                   have hS6 : w6.cell? ⟨b, o + j * 2, none⟩ = some (.string ⟨fn.toArray⟩) ∧ w6.cell? ⟨b, o + j * 2 + 1, none⟩ = some (.string ⟨ft.toArray⟩) := ⟨(grown_cell hg6 (World.ownsRow.lt h5) hbw hsz5).trans hS5.1, (grown_cell hg6 (World.ownsRow.lt h5) hbw hsz5).trans hS5.2⟩)
                | (rw [if_pos (by rfl)]
                   refine wp_append_fs _ _ rfl w.heap.size _ (S.take k) rfl Hcut.out (some ⟨w1.heap.size, 0, none⟩) 1 1 [(fn, ft)] rfl Hone.out (by rw [htl]; omega) hszz ?_
                   intro v5 w5 h5 hg5
                   have hsz5 : w.heap.size ≤ w5.heap.size := Nat.le_trans hszz hg5.size
                   have hS5 : w5.cell? ⟨b, o + j * 2, none⟩ = some (.string ⟨fn.toArray⟩) ∧ w5.cell? ⟨b, o + j * 2 + 1, none⟩ = some (.string ⟨ft.toArray⟩) := ⟨(grown_cell hg5 (World.ownsRow.lt Hcut.out) hbw hszz).trans ((hOz.out.cell (p := ⟨b, _, none⟩) hbw1 (by simp)).trans f0), (grown_cell hg5 (World.ownsRow.lt Hcut.out) hbw hszz).trans ((hOz.out.cell (p := ⟨b, _, none⟩) hbw1 (by simp)).trans f1)⟩
                   have hR5 : FilesAt w5 aR (j - k) (S.drop k) := HRf.out.keep (S := [g3']) ⟨hg5.os, hg5.tape, hg5.output, hg5.size, fun i hi hn => hg5.block i hi (fun e => hn (by have e' : some i = some g3' := e; simpa using e'))⟩ (fun hp x y e => by have := HRb.out x y e; simp; omega)))
            have Hfin : Hid (OwnF w6 w.heap.size v6 (sortK (l.take (j + 1)))) := Lib.hid (by rw [Htk.out, HinsE.out]; exact h6)
            have HOf := Lib.hid (onlyOwn (onlyOwn ((HO.out.plus HO1.out).plus hOz.out) Hcut.out hg5 (Nat.le_refl _)) h5 hg6 (Nat.le_refl _))
            clear h6 hg6 h5 hg5 hR5 hS5 hsz5
            go_wp2
            go_roundw
            case rel => exact ⟨j + 1, by omega, by go_num, Hfin.out, HOf.out⟩
            case measure => simp [intOf]; omega
        · have hkji : ¬ (k : Int) < (j : Int) := by omega
          have HinsE : Hid (insK (fn, ft) S = S.take k ++ [(fn, ft)] ++ S.drop k) := Lib.hid (insK_at (by have := HSl.out; omega) hall.out (fun g hg => by
            have h1 := (List.getElem?_eq_some_iff.1 hg).1
            have := HSl.out
            omega))
          rcases hsh with ⟨h0, h1, h2⟩ | ⟨g3', h0, hbg, hgw⟩
          · subst h0 h1 h2
            obtain rfl : k = 0 := by omega
            have hS0 : S = [] := List.eq_nil_of_length_eq_zero HSl.out
            go_wp2_with fail
            go_quiet (fail)
            have hO8 := Lib.hid (((Only.refl [] wx).alloc (.cells #[] 48)).drew)
            have Hw8 : Hid (OwnF (wx.alloc (.cells #[] 48)).drew wx.heap.size (.slice (some ⟨wx.heap.size, 0, none⟩) 0 0) []) := Lib.hid (OwnF.made wx wx.heap.size (Nat.le_refl _))
            have hsrc8 : Hid (FilesAt (wx.alloc (.cells #[] 48)).drew none 0 (S.drop 0)) := Lib.hid ⟨by rw [hS0]; rfl, fun hp => by omega⟩
            go_wp2_with (at_builtin; refine wpList_append_fs rfl _ _ rfl wx.heap.size _ [] rfl Hw8.out _ 0 _ (S.drop 0) rfl hsrc8.out (by simp) hO8.out.size ?_; intro vR w1 hR hgR)
            rw [List.nil_append] at hR
            have hOx1 : Only [] wx w1 := only_row (((Only.refl [] wx).drewN _).alloc _) (show World.grownBy _ _ (some wx.heap.size) from hgR) (Nat.le_refl wx.heap.size) (Nat.le_refl _)
            have hOr1 := HOx.out.plus hOx1
            obtain ⟨aR, cR, rfl, hRf, hRb⟩ := hR.files
            have f0 := (hOr1.cell (p := ⟨b, _, none⟩) hb (by simp)).trans c0
            have f1 := (hOr1.cell (p := ⟨b, _, none⟩) hb (by simp)).trans c1
            unfold encStr at f0 f1
            simp only [Nat.zero_mul, Nat.add_zero] at f0 f1
            have HO1 := Lib.hid hOr1
            have hOz := Lib.hid (((Only.refl [] w1).alloc (.cells #[.string ⟨fn.toArray⟩, .string ⟨ft.toArray⟩] 48)).drew)
            have Hcut : Hid (OwnF (w1.alloc (.cells #[.string ⟨fn.toArray⟩, .string ⟨ft.toArray⟩] 48)).drew w.heap.size (.slice none 0 0) (S.take 0)) := Lib.hid ⟨rfl, .inl ⟨rfl, rfl⟩⟩
            have Hone : Hid (FilesAt (w1.alloc (.cells #[.string ⟨fn.toArray⟩, .string ⟨ft.toArray⟩] 48)).drew (some ⟨w1.heap.size, 0, none⟩) 1 [(fn, ft)]) := Lib.hid (files_one (fn, ft) _ (IsBlk.made w1 _))
            have hszz : w.heap.size ≤ (w1.alloc (.cells #[.string ⟨fn.toArray⟩, .string ⟨ft.toArray⟩] 48)).drew.heap.size := Nat.le_trans HO.out.size (Nat.le_trans hOr1.size hOz.out.size)
            have htl : (S.take 0).length = 0 := by simp
            have hdl : (S.drop 0).length = 0 := by rw [List.length_drop, HSl.out]
            have HRf : Hid (FilesAt (w1.alloc (.cells #[.string ⟨fn.toArray⟩, .string ⟨ft.toArray⟩] 48)).drew aR 0 (S.drop 0)) := Lib.hid (by have h := hRf.more hOz.out; rw [hdl] at h; exact h)
            have hbw1 : b < w1.heap.size := Nat.lt_of_lt_of_le hb hOr1.size
            have HRb := Lib.hid hRb
            have hkc0 : (0 : Int) ≤ (0 : Int) := by omega
            have hkci : (0 : Int) ≤ (0 : Int) := by omega
            have hkji2 : (0 : Int) ≤ (0 : Int) := by omega
            clear hR hgR hRf hOx1 hOr1 Hw8 hO8 hsrc8 d0 d1 hRb
            rw [hdl]
            clear hdl
            go_region_held3 (fun W => W.cell? ⟨b, o, none⟩ = some (.string ⟨fn.toArray⟩) ∧ W.cell? ⟨b, o + 1, none⟩ = some (.string ⟨ft.toArray⟩)) (first | exact ⟨f0, f1⟩ | assumption | exact ⟨(hOz.out.cell (p := ⟨b, _, none⟩) hbw1 (by simp)).trans f0, (hOz.out.cell (p := ⟨b, _, none⟩) hbw1 (by simp)).trans f1⟩)
              (first
                | (rw [if_pos (by rfl)]
                   refine wp_append_fs _ _ rfl w.heap.size _ _ rfl h5 aR 0 cR (S.drop 0) rfl hR5 (by rw [List.length_append, htl]; simp) hsz5 ?_
                   intro v6 w6 h6 hg6
                   have hS6 : w6.cell? ⟨b, o, none⟩ = some (.string ⟨fn.toArray⟩) ∧ w6.cell? ⟨b, o + 1, none⟩ = some (.string ⟨ft.toArray⟩) := ⟨(grown_cell hg6 (World.ownsRow.lt h5) hbw hsz5).trans hS5.1, (grown_cell hg6 (World.ownsRow.lt h5) hbw hsz5).trans hS5.2⟩)
                | (rw [if_pos (by rfl)]
                   refine wp_append_fs _ _ rfl w.heap.size _ (S.take 0) rfl Hcut.out (some ⟨w1.heap.size, 0, none⟩) 1 1 [(fn, ft)] rfl Hone.out (by rw [htl]; omega) hszz ?_
                   intro v5 w5 h5 hg5
                   have hsz5 : w.heap.size ≤ w5.heap.size := Nat.le_trans hszz hg5.size
                   have hS5 : w5.cell? ⟨b, o, none⟩ = some (.string ⟨fn.toArray⟩) ∧ w5.cell? ⟨b, o + 1, none⟩ = some (.string ⟨ft.toArray⟩) := ⟨(grown_cell hg5 (World.ownsRow.lt Hcut.out) hbw hszz).trans ((hOz.out.cell (p := ⟨b, _, none⟩) hbw1 (by simp)).trans f0), (grown_cell hg5 (World.ownsRow.lt Hcut.out) hbw hszz).trans ((hOz.out.cell (p := ⟨b, _, none⟩) hbw1 (by simp)).trans f1)⟩
                   have hR5 : FilesAt w5 aR 0 (S.drop 0) := HRf.out.keep (S := []) ⟨hg5.os, hg5.tape, hg5.output, hg5.size, fun i hi hn => hg5.block i hi (fun e => by have e' : some i = none := e; cases e')⟩ (by simp)))
            have Hfin : Hid (OwnF w6 w.heap.size v6 (sortK (l.take (0 + 1)))) := Lib.hid (by rw [Htk.out, HinsE.out]; exact h6)
            have HOf := Lib.hid (onlyOwn (onlyOwn ((HO.out.plus HO1.out).plus hOz.out) Hcut.out hg5 (Nat.le_refl _)) h5 hg6 (Nat.le_refl _))
            clear h6 hg6 h5 hg5 hR5 hS5 hsz5
            go_wp2
            go_roundw
            case rel => exact ⟨0 + 1, by omega, by go_num, Hfin.out, HOf.out⟩
            case measure => simp [intOf]; omega
          · subst h0
            obtain rfl : k = j := by omega
            by_cases hck : c3 = k
            · obtain rfl : k = c3 := hck.symm
              clear hck hjci
              go_wp2_with fail
              go_quiet (fail)
              have hO8 := Lib.hid (((Only.refl [] wx).alloc (.cells #[] 48)).drew)
              have Hw8 : Hid (OwnF (wx.alloc (.cells #[] 48)).drew wx.heap.size (.slice (some ⟨wx.heap.size, 0, none⟩) 0 0) []) := Lib.hid (OwnF.made wx wx.heap.size (Nat.le_refl _))
              have hdr : (S.drop k).length = 0 := by rw [List.length_drop, HSl.out, Nat.sub_self]
              go_wp2_with (at_builtin; refine wpList_append_fs rfl _ _ rfl wx.heap.size _ [] rfl Hw8.out _ 0 _ (S.drop k) rfl ⟨hdr, fun hp => absurd hp (Nat.lt_irrefl 0)⟩ (by simp) hO8.out.size ?_; intro vR w1 hR hgR)
              rw [List.nil_append] at hR
              have hOx1 : Only [] wx w1 := only_row (((Only.refl [] wx).drewN _).alloc _) (show World.grownBy _ _ (some wx.heap.size) from hgR) (Nat.le_refl wx.heap.size) (Nat.le_refl _)
              have hOr1 := HOx.out.plus hOx1
              obtain ⟨aR, cR, rfl, hRf, hRb⟩ := hR.files
              have f0 := (hOr1.cell (p := ⟨b, _, none⟩) hb (by simp)).trans c0
              have f1 := (hOr1.cell (p := ⟨b, _, none⟩) hb (by simp)).trans c1
              unfold encStr at f0 f1
              have HO1 := Lib.hid hOr1
              have hOz := Lib.hid (((Only.refl [] w1).alloc (.cells #[.string ⟨fn.toArray⟩, .string ⟨ft.toArray⟩] 48)).drew)
              have Hcut : Hid (OwnF (w1.alloc (.cells #[.string ⟨fn.toArray⟩, .string ⟨ft.toArray⟩] 48)).drew w.heap.size (.slice (some ⟨g3', 0, none⟩) k k) (S.take k)) := Lib.hid (((Hown.out.only hOr1).only hOz.out).cut HSl.out (by omega))
              have Hone : Hid (FilesAt (w1.alloc (.cells #[.string ⟨fn.toArray⟩, .string ⟨ft.toArray⟩] 48)).drew (some ⟨w1.heap.size, 0, none⟩) 1 [(fn, ft)]) := Lib.hid (files_one (fn, ft) _ (IsBlk.made w1 _))
              have hszz : w.heap.size ≤ (w1.alloc (.cells #[.string ⟨fn.toArray⟩, .string ⟨ft.toArray⟩] 48)).drew.heap.size := Nat.le_trans HO.out.size (Nat.le_trans hOr1.size hOz.out.size)
              have hgx : g3' < wx.heap.size := Nat.lt_of_lt_of_le hgw HOx.out.size
              have htl : (S.take k).length = k := by rw [List.length_take]; have := HSl.out; omega
              have hdl : (S.drop k).length = 0 := by rw [List.length_drop, HSl.out, Nat.sub_self]
              have HRf : Hid (FilesAt (w1.alloc (.cells #[.string ⟨fn.toArray⟩, .string ⟨ft.toArray⟩] 48)).drew aR 0 (S.drop k)) := Lib.hid (by have h := hRf.more hOz.out; rw [hdl] at h; exact h)
              have hbw1 : b < w1.heap.size := Nat.lt_of_lt_of_le hb hOr1.size
              have HRb := Lib.hid hRb
              have hkc0 : (0 : Int) ≤ (k : Int) := by omega
              clear hR hgR hRf hOx1 hOr1 Hw8 hO8 d0 d1 hRb
              rw [hdl]
              clear hdl hkji
              go_region_held3 (fun W => W.cell? ⟨b, o + k * 2, none⟩ = some (.string ⟨fn.toArray⟩) ∧ W.cell? ⟨b, o + k * 2 + 1, none⟩ = some (.string ⟨ft.toArray⟩)) (first | exact ⟨f0, f1⟩ | assumption | exact ⟨(hOz.out.cell (p := ⟨b, _, none⟩) hbw1 (by simp)).trans f0, (hOz.out.cell (p := ⟨b, _, none⟩) hbw1 (by simp)).trans f1⟩)
                (first
                  | (rw [if_pos (by rfl)]
                     refine wp_append_fs _ _ rfl w.heap.size _ _ rfl h5 aR 0 cR (S.drop k) rfl hR5 (by rw [List.length_append, htl]; simp; omega) hsz5 ?_
                     intro v6 w6 h6 hg6
                     have hS6 : w6.cell? ⟨b, o + k * 2, none⟩ = some (.string ⟨fn.toArray⟩) ∧ w6.cell? ⟨b, o + k * 2 + 1, none⟩ = some (.string ⟨ft.toArray⟩) := ⟨(grown_cell hg6 (World.ownsRow.lt h5) hbw hsz5).trans hS5.1, (grown_cell hg6 (World.ownsRow.lt h5) hbw hsz5).trans hS5.2⟩)
                  | (rw [if_pos (by rfl)]
                     refine wp_append_fs _ _ rfl w.heap.size _ (S.take k) rfl Hcut.out (some ⟨w1.heap.size, 0, none⟩) 1 1 [(fn, ft)] rfl Hone.out (by rw [htl]; omega) hszz ?_
                     intro v5 w5 h5 hg5
                     have hsz5 : w.heap.size ≤ w5.heap.size := Nat.le_trans hszz hg5.size
                     have hS5 : w5.cell? ⟨b, o + k * 2, none⟩ = some (.string ⟨fn.toArray⟩) ∧ w5.cell? ⟨b, o + k * 2 + 1, none⟩ = some (.string ⟨ft.toArray⟩) := ⟨(grown_cell hg5 (World.ownsRow.lt Hcut.out) hbw hszz).trans ((hOz.out.cell (p := ⟨b, _, none⟩) hbw1 (by simp)).trans f0), (grown_cell hg5 (World.ownsRow.lt Hcut.out) hbw hszz).trans ((hOz.out.cell (p := ⟨b, _, none⟩) hbw1 (by simp)).trans f1)⟩
                     have hR5 : FilesAt w5 aR 0 (S.drop k) := HRf.out.keep (S := [g3']) ⟨hg5.os, hg5.tape, hg5.output, hg5.size, fun i hi hn => hg5.block i hi (fun e => hn (by have e' : some i = some g3' := e; simpa using e'))⟩ (fun hp x y e => by have := HRb.out x y e; simp; omega)))
              have Hfin : Hid (OwnF w6 w.heap.size v6 (sortK (l.take (k + 1)))) := Lib.hid (by rw [Htk.out, HinsE.out]; exact h6)
              have HOf := Lib.hid (onlyOwn (onlyOwn ((HO.out.plus HO1.out).plus hOz.out) Hcut.out hg5 (Nat.le_refl _)) h5 hg6 (Nat.le_refl _))
              clear h6 hg6 h5 hg5 hR5 hS5 hsz5
              go_wp2
              go_roundw
              case rel => exact ⟨k + 1, by omega, by go_num, Hfin.out, HOf.out⟩
              case measure => simp [intOf]; omega
            · have hck' : k < c3 := by omega
              go_wp2_with fail
              go_quiet (fail)
              have hO8 := Lib.hid (((Only.refl [] wx).alloc (.cells #[] 48)).drew)
              have Hw8 : Hid (OwnF (wx.alloc (.cells #[] 48)).drew wx.heap.size (.slice (some ⟨wx.heap.size, 0, none⟩) 0 0) []) := Lib.hid (OwnF.made wx wx.heap.size (Nat.le_refl _))
              have hdr : (S.drop k).length = 0 := by rw [List.length_drop, HSl.out, Nat.sub_self]
              go_wp2_with (at_builtin; refine wpList_append_fs rfl _ _ rfl wx.heap.size _ [] rfl Hw8.out _ 0 _ (S.drop k) rfl ⟨hdr, fun hp => absurd hp (Nat.lt_irrefl 0)⟩ (by simp) hO8.out.size ?_; intro vR w1 hR hgR)
              rw [List.nil_append] at hR
              have hOx1 : Only [] wx w1 := only_row (((Only.refl [] wx).drewN _).alloc _) (show World.grownBy _ _ (some wx.heap.size) from hgR) (Nat.le_refl wx.heap.size) (Nat.le_refl _)
              have hOr1 := HOx.out.plus hOx1
              obtain ⟨aR, cR, rfl, hRf, hRb⟩ := hR.files
              have f0 := (hOr1.cell (p := ⟨b, _, none⟩) hb (by simp)).trans c0
              have f1 := (hOr1.cell (p := ⟨b, _, none⟩) hb (by simp)).trans c1
              unfold encStr at f0 f1
              have HO1 := Lib.hid hOr1
              have hOz := Lib.hid (((Only.refl [] w1).alloc (.cells #[.string ⟨fn.toArray⟩, .string ⟨ft.toArray⟩] 48)).drew)
              have Hcut : Hid (OwnF (w1.alloc (.cells #[.string ⟨fn.toArray⟩, .string ⟨ft.toArray⟩] 48)).drew w.heap.size (.slice (some ⟨g3', 0, none⟩) k c3) (S.take k)) := Lib.hid (((Hown.out.only hOr1).only hOz.out).cut HSl.out (by omega))
              have Hone : Hid (FilesAt (w1.alloc (.cells #[.string ⟨fn.toArray⟩, .string ⟨ft.toArray⟩] 48)).drew (some ⟨w1.heap.size, 0, none⟩) 1 [(fn, ft)]) := Lib.hid (files_one (fn, ft) _ (IsBlk.made w1 _))
              have hszz : w.heap.size ≤ (w1.alloc (.cells #[.string ⟨fn.toArray⟩, .string ⟨ft.toArray⟩] 48)).drew.heap.size := Nat.le_trans HO.out.size (Nat.le_trans hOr1.size hOz.out.size)
              have hgx : g3' < wx.heap.size := Nat.lt_of_lt_of_le hgw HOx.out.size
              have htl : (S.take k).length = k := by rw [List.length_take]; have := HSl.out; omega
              have hdl : (S.drop k).length = 0 := by rw [List.length_drop, HSl.out, Nat.sub_self]
              have HRf : Hid (FilesAt (w1.alloc (.cells #[.string ⟨fn.toArray⟩, .string ⟨ft.toArray⟩] 48)).drew aR 0 (S.drop k)) := Lib.hid (by have h := hRf.more hOz.out; rw [hdl] at h; exact h)
              have hbw1 : b < w1.heap.size := Nat.lt_of_lt_of_le hb hOr1.size
              have HRb := Lib.hid hRb
              have hkc0 : (0 : Int) ≤ (k : Int) := by omega
              have hkci : (k : Int) ≤ (c3 : Int) := by omega
              clear hR hgR hRf hOx1 hOr1 Hw8 hO8 d0 d1 hRb
              rw [hdl]
              clear hdl hkji
              go_region_held3 (fun W => W.cell? ⟨b, o + k * 2, none⟩ = some (.string ⟨fn.toArray⟩) ∧ W.cell? ⟨b, o + k * 2 + 1, none⟩ = some (.string ⟨ft.toArray⟩)) (first | exact ⟨f0, f1⟩ | assumption | exact ⟨(hOz.out.cell (p := ⟨b, _, none⟩) hbw1 (by simp)).trans f0, (hOz.out.cell (p := ⟨b, _, none⟩) hbw1 (by simp)).trans f1⟩)
                (first
                  | (rw [if_pos (by rfl)]
                     refine wp_append_fs _ _ rfl w.heap.size _ _ rfl h5 aR 0 cR (S.drop k) rfl hR5 (by rw [List.length_append, htl]; simp; omega) hsz5 ?_
                     intro v6 w6 h6 hg6
                     have hS6 : w6.cell? ⟨b, o + k * 2, none⟩ = some (.string ⟨fn.toArray⟩) ∧ w6.cell? ⟨b, o + k * 2 + 1, none⟩ = some (.string ⟨ft.toArray⟩) := ⟨(grown_cell hg6 (World.ownsRow.lt h5) hbw hsz5).trans hS5.1, (grown_cell hg6 (World.ownsRow.lt h5) hbw hsz5).trans hS5.2⟩)
                  | (rw [if_pos (by rfl)]
                     refine wp_append_fs _ _ rfl w.heap.size _ (S.take k) rfl Hcut.out (some ⟨w1.heap.size, 0, none⟩) 1 1 [(fn, ft)] rfl Hone.out (by rw [htl]; omega) hszz ?_
                     intro v5 w5 h5 hg5
                     have hsz5 : w.heap.size ≤ w5.heap.size := Nat.le_trans hszz hg5.size
                     have hS5 : w5.cell? ⟨b, o + k * 2, none⟩ = some (.string ⟨fn.toArray⟩) ∧ w5.cell? ⟨b, o + k * 2 + 1, none⟩ = some (.string ⟨ft.toArray⟩) := ⟨(grown_cell hg5 (World.ownsRow.lt Hcut.out) hbw hszz).trans ((hOz.out.cell (p := ⟨b, _, none⟩) hbw1 (by simp)).trans f0), (grown_cell hg5 (World.ownsRow.lt Hcut.out) hbw hszz).trans ((hOz.out.cell (p := ⟨b, _, none⟩) hbw1 (by simp)).trans f1)⟩
                     have hR5 : FilesAt w5 aR 0 (S.drop k) := HRf.out.keep (S := [g3']) ⟨hg5.os, hg5.tape, hg5.output, hg5.size, fun i hi hn => hg5.block i hi (fun e => hn (by have e' : some i = some g3' := e; simpa using e'))⟩ (fun hp x y e => by have := HRb.out x y e; simp; omega)))
              have Hfin : Hid (OwnF w6 w.heap.size v6 (sortK (l.take (k + 1)))) := Lib.hid (by rw [Htk.out, HinsE.out]; exact h6)
              have HOf := Lib.hid (onlyOwn (onlyOwn ((HO.out.plus HO1.out).plus hOz.out) Hcut.out hg5 (Nat.le_refl _)) h5 hg6 (Nat.le_refl _))
              clear h6 hg6 h5 hg5 hR5 hS5 hsz5
              go_wp2
              go_roundw
              case rel => exact ⟨k + 1, by omega, by go_num, Hfin.out, HOf.out⟩
              case measure => simp [intOf]; omega
    · have hge : ¬ (j : Int) < (l.length : Int) := by omega
      go_wp2
      go_ret
      have hjl2 : j = l.length := by omega
      have h1 := Hown.out
      rw [hjl, hjl2, List.take_length] at h1
      rw [hjl2]
      exact ⟨_, rfl, h1, HO.out⟩

end Go.Proofs.YtfampoblcielpaaGreat
