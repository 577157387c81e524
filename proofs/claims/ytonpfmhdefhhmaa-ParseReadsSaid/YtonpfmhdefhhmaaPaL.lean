/-
  A writer: a strings.Builder within a struct; put, endLine of the package parse.
-/
import Derived.Test.YtonpfmhdefhhmaaPaK
import Derived.Lib.Builder
import Derived.Lib.UnsafeStr
import Derived.Lib.AppendStr
import Derived.Laws.Externs
namespace Go.Proofs.Ytonpfmhdefhhmaa
set_option maxRecDepth 100000
set_option linter.unusedVariables false
open Go.RowKit Go.Sort

/-- A writer that has written L; in a line or not. -/
def WrAt (w0 w : World) (p : Nat) (L : List UInt8) (inl : Bool) : Prop :=
  ∃ a v, IsBlk w p (.cells #[a, v, .bool inl] 86) ∧ (a = .pointer none ∨ a = .pointer (some ⟨p, 0, none⟩)) ∧ w.ownsRow w0.heap.size 5 1 v L.length (bv L) ∧ (L = [] → v = .slice none 0 0) ∧ p < w0.heap.size ∧ w0.heap.size ≤ w.heap.size
theorem WrAt.keep {w0 w w' : World} {S : List Nat} {p : Nat} {L : List UInt8} {inl : Bool} (h : WrAt w0 w p L inl) (hO : Only S w w') (hS : ∀ k ∈ S, k < w0.heap.size ∧ k ≠ p) : WrAt w0 w' p L inl := by
  obtain ⟨a, v, h1, h2, h3, h4, h5, h6⟩ := h
  exact ⟨a, v, h1.only hO (fun hm => (hS p hm).2 rfl), h2, owns_keep h3 hO (fun k hk => (hS k hk).1), h4, h5, Nat.le_trans h6 hO.size⟩
theorem WrAt.more {w0 w w' : World} {p : Nat} {L : List UInt8} {inl : Bool} (h : WrAt w0 w p L inl) (hO : Only [] w w') : WrAt w0 w' p L inl := h.keep hO (by simp)
/-- What has turned is the writer's own, or new. -/
def WrO (w0 : World) (p : Nat) (w w' : World) : Prop := p < w0.heap.size ∧ ∃ T, Only (p :: T) w w' ∧ ∀ k ∈ T, w0.heap.size ≤ k ∧ (k < w.heap.size → ∃ cs, IsBlk w k (.cells cs 5))
theorem WrO.refl {w0 : World} {p : Nat} (hp : p < w0.heap.size) (w : World) : WrO w0 p w w := ⟨hp, [], Only.refl _ _, by simp⟩
theorem WrO.of {w0 w w' : World} {p : Nat} (hp : p < w0.heap.size) (h : Only [] w w') : WrO w0 p w w' := ⟨hp, [], h.into (by simp), by simp⟩
theorem WrO.trans {w0 a b c : World} {p : Nat} (h : WrO w0 p a b) (k : WrO w0 p b c) : WrO w0 p a c := by
  obtain ⟨hp, T, h1, h2⟩ := h
  obtain ⟨-, U, k1, k2⟩ := k
  refine ⟨hp, T ++ U, h1.then k1 _ (fun i hi => .inl (by simp at hi ⊢; rcases hi with h | h <;> simp [h])) (fun i hi => .inl (by simp at hi ⊢; rcases hi with h | h <;> simp [h])), fun i hi => ?_⟩
  rcases List.mem_append.1 hi with h | h
  · exact h2 i h
  · refine ⟨(k2 i h).1, fun hlt => ?_⟩
    by_cases hT : i ∈ T
    · exact (h2 i hT).2 hlt
    · obtain ⟨cs, hb⟩ := (k2 i h).2 (Nat.lt_of_lt_of_le hlt h1.size)
      refine ⟨cs, (h1.block i hlt (fun hm => ?_)).symm.trans hb⟩
      rcases List.mem_cons.1 hm with e | e
      · have := (k2 i h).1; omega
      · exact hT e
theorem WrO.size {w0 a b : World} {p : Nat} (h : WrO w0 p a b) : a.heap.size ≤ b.heap.size := by obtain ⟨-, T, h1, -⟩ := h; exact h1.size
/-- From the world in which the writer was made nothing has turned but it. -/
theorem WrO.only {w0 b : World} {p : Nat} (h : WrO w0 p w0 b) : Only [p] w0 b := by
  obtain ⟨-, T, h1, h2⟩ := h
  exact h1.into (fun i hi => by rcases List.mem_cons.1 hi with h | h; exact .inl (by simp [h]); exact .inr (h2 i h).1)
/-- A block of another type stays. -/
theorem WrO.blk {w0 a b : World} {p g : Nat} {cs : Array Value} {t : TypeId} (h : WrO w0 p a b) (hg : IsBlk a g (.cells cs t)) (hgp : g ≠ p) (ht : t ≠ 5) : IsBlk b g (.cells cs t) := by
  obtain ⟨-, T, h1, h2⟩ := h
  refine hg.only h1 (fun hm => ?_)
  rcases List.mem_cons.1 hm with e | e
  · exact hgp e
  · obtain ⟨cs', hb⟩ := (h2 g e).2 hg.lt
    have := hg.same hb
    injection this with _ h3 _
    exact ht h3
/-- What lies ahead of the writer stays. -/
theorem WrO.old {w0 a b : World} {p : Nat} (h : WrO w0 p a b) : ∀ k, k < w0.heap.size → k ≠ p → k < a.heap.size → b.heap[k]? = a.heap[k]? := by
  obtain ⟨-, T, h1, h2⟩ := h
  intro k hk hkp hka
  exact h1.block k hka (fun hm => by rcases List.mem_cons.1 hm with e | e; exact hkp e; have := (h2 k e).1; omega)
theorem owns_u8 {w : World} {base n : Nat} {v : Value} {xs : List Value} (h : w.ownsRow base 5 1 v n xs) : ∀ k ∈ ownL v, base ≤ k ∧ ∃ cs, IsBlk w k (.cells cs 5) := fun k hk => by
  rcases h.2 with ⟨rfl, -⟩ | ⟨g, cap, cur, rfl, hb, hg, -⟩
  · simp [ownL, Value.ownBlock] at hk
  · have := mem_ownL.1 hk
    simp only [Value.ownBlock, Option.some.injEq] at this
    subst this
    exact ⟨hb, cur, hg⟩

theorem infoBd : (Try.prog.info? 84).map (fun i => i.size) = some 2 := by kernel_rfl
theorem infoU8 : (Try.prog.info? 5).map (fun i => (i.zero, i.size, i.bytes)) = some (some (.int .u8 0), 1, 1) := by kernel_rfl

set_option maxHeartbeats 4000000 in
theorem check_used (w : World) (b : Nat) (h0 : w.cell? ⟨b, 0, none⟩ = some (.pointer (some ⟨b, 0, none⟩))) : Calls Try.prog 79 #[.pointer (some ⟨b, 0, none⟩)] w fun e w' => e = .returned (.tuple #[]) ∧ w = w' := by
  obtain ⟨j, hj, _⟩ := Option.map_eq_some_iff.1 infoBd
  go_enter Try.func79, Try.ntmps79
  go_wp2
  rw [Lib.run_neq_ptr_same w _ Try.underlying82 hj]
  go_wp2
  go_end0
  exact ⟨rfl, rfl⟩

set_option maxHeartbeats 4000000 in
theorem check_fresh (w : World) (b : Nat) (v : Value) (inl : Bool) (hb : IsBlk w b (.cells #[.pointer none, v, .bool inl] 86)) :
    Calls Try.prog 79 #[.pointer (some ⟨b, 0, none⟩)] w fun e w' => e = .returned (.tuple #[]) ∧ w.setCell ⟨b, 0, none⟩ (.pointer (some ⟨b, 0, none⟩)) = w' := by
  obtain ⟨j, hj, hjs⟩ := Option.map_eq_some_iff.1 infoBd
  have h0 := hb.cell 0
  have hfz := hb.notFrozen 0
  have hsh : w.shape? b = some (86, 3) := by unfold IsBlk at hb; simp [World.shape?, hb]
  go_enter Try.func79, Try.ntmps79
  go_wp2
  rw [Lib.run_to_unsafe w ⟨b, 0, none⟩ Try.underlying82 Try.underlying130 hj (by rw [hjs]; decide) hsh (Nat.zero_lt_succ 2)]
  simp only [Result.andThen]
  rw [Oper.upon_value]
  go_wp2
  rw [run_callFunc_extern Try.func86 (by kernel_rfl) (by kernel_rfl) (by kernel_rfl) (e := Extern.AbiNoEscape.same) (by kernel_rfl)]
  rw [Lib.run_noEscape]
  simp only [Result.andThen]
  rw [Oper.upon_value]
  go_wp2
  rw [Lib.run_from_unsafe w ⟨b, 0, none⟩ Try.underlying130 Try.underlying82 hj hsh (by kernel_rfl)]
  simp only [Result.andThen]
  rw [Oper.upon_value]
  go_wp2
  go_end0
  exact ⟨rfl, rfl⟩

/-- copyCheck of a writer: it holds its own address then. -/
theorem check_any (w0 w : World) (p : Nat) (L : List UInt8) (inl : Bool) (h : WrAt w0 w p L inl) :
    Calls Try.prog 79 #[.pointer (some ⟨p, 0, none⟩)] w fun e w' => e = .returned (.tuple #[]) ∧ (∃ v, IsBlk w' p (.cells #[.pointer (some ⟨p, 0, none⟩), v, .bool inl] 86) ∧ w'.ownsRow w0.heap.size 5 1 v L.length (bv L) ∧ (L = [] → v = .slice none 0 0)) ∧ Only [p] w w' := by
  obtain ⟨a, v, h1, h2, h3, h4, h5, h6⟩ := h
  rcases h2 with rfl | rfl
  · refine (check_fresh w p v inl h1).mono ?_
    rintro e w' ⟨rfl, rfl⟩
    have hO : Only [p] w (w.setCell ⟨p, 0, none⟩ (.pointer (some ⟨p, 0, none⟩))) := (Only.refl _ _).setCell (.inl (by simp)) _
    exact ⟨rfl, ⟨v, IsBlk.put h1 0 _, owns_keep h3 hO (by simp; omega), h4⟩, hO⟩
  · refine (check_used w p (h1.cell 0)).mono ?_
    rintro e w' ⟨rfl, rfl⟩
    exact ⟨rfl, ⟨v, h1, h3, h4⟩, Only.refl _ _⟩

theorem bv_snoc (L : List UInt8) (c : UInt8) : bv (L ++ [c]) = bv L ++ [.int .u8 c.toNat] := by simp [bv]
theorem bv_append (L M : List UInt8) : bv (L ++ M) = bv L ++ bv M := by simp [bv]

set_option maxHeartbeats 4000000 in
theorem writeByte_any (w0 w : World) (p : Nat) (L : List UInt8) (inl : Bool) (c : UInt8) (h : WrAt w0 w p L inl) (hL : L.length ≤ 100000000) :
    Calls Try.prog 68 #[.pointer (some ⟨p, 0, none⟩), .int .u8 c.toNat] w fun e w' => e = .returned .nilIface ∧ WrAt w0 w' p (L ++ [c]) inl ∧ WrO w0 p w w' := by
  have hp := h
  obtain ⟨_, _, _, _, _, _, hp5, hp6⟩ := hp
  obtain ⟨i0, hi, hz0, hz1, hz2⟩ := info_parts infoU8
  go_enter Try.func68, Try.ntmps68
  go_wp2_with (go_at_call 79; refine (check_any w0 _ p L inl h).mono ?_)
  rintro e w1 ⟨rfl, ⟨v, hb, hown, hnil⟩, hO1⟩
  obtain ⟨av, cv, rfl⟩ := owns_slice hown
  have hU : ∀ k ∈ ownL (.slice av L.length cv), k < w.heap.size → ∃ cs, IsBlk w k (.cells cs 5) := fun k hk hlt => by
    obtain ⟨hk1, cs, hb⟩ := owns_u8 hown k hk
    exact ⟨cs, (hO1.block k hlt (by simp; omega)).symm.trans hb⟩
  have c0 := hb.cell 0
  have c1 := hb.cell 1
  have hl1 := hb.lt
  have hs1 := hO1.size
  have hOa := (Only.refl [] w1).alloc (.cells #[.int .u8 c.toNat] 5)
  have hqa := IsBlk.made w1 (.cells #[.int .u8 c.toNat] 5)
  have Hq := Lib.hid (hqa.cell 0)
  have Hown := Lib.hid (owns_keep hown hOa (by simp))
  have HOa := Lib.hid (hO1.then hOa [p] (by simp) (by simp))
  have Hb := Lib.hid (hb.only hOa (by simp))
  have hsa := hOa.size
  clear hOa hqa
  go_wp2_with (at_builtin; refine wpList_append_own_at _ rfl _ _ 32 rfl w0.heap.size 5 i0 (.int .u8 0) 1 1 Try.underlying32 hi hz0 hz1 hz2 rfl (by decide) _ _ _ rfl Hown.out ⟨w1.heap.size, 0, none⟩ 1 1 [.int .u8 c.toNat] rfl rfl ?c1 ?c2 ?c3 ?c4 ?c5 ?_)
  case c1 =>
    intro j u hj
    rw [Addr.add_mid]
    match j, hj with
    | 0, hj => simp at hj; subst hj; exact Hq.out
    | n + 1, hj => simp at hj
  case c2 => intro u hu; simp at hu; subst hu; rfl
  case c3 => unfold maxLen; omega
  case c4 => omega
  case c5 => omega
  intro v' w2 hown' hgrow _ _
  have hg := grown_only hgrow
  obtain ⟨a2, c2, rfl⟩ := owns_slice hown'
  have hvp : p ∉ ownL (.slice av L.length cv) := fun hm => by have := (World.ownsRow.lt hown p (mem_ownL.1 hm)).1; omega
  have hb2 := Hb.out.only hg hvp
  have d1 := hb2.cell 1
  have f1 := hb2.notFrozen 1
  have l2 := hb2.lt
  have Hfin : Hid (WrAt w0 (w2.setCell ⟨p, 1, none⟩ (.slice a2 (L.length + 1 : Nat) c2)) p (L ++ [c]) inl ∧ WrO w0 p w (w2.setCell ⟨p, 1, none⟩ (.slice a2 (L.length + 1 : Nat) c2))) := Lib.hid (by
    have o9 : Only [p] w2 (w2.setCell ⟨p, 1, none⟩ (.slice a2 (L.length + 1 : Nat) c2)) := (Only.refl _ _).setCell (.inl (by simp)) _
    refine ⟨⟨_, _, IsBlk.put hb2 1 (.slice a2 (L.length + 1 : Nat) c2), .inr rfl, ?_, fun h => by simp at h, hp5, Nat.le_trans (Nat.le_trans hp6 (Nat.le_trans HOa.out.size hg.size)) o9.size⟩, ⟨hp5, ownL (.slice av L.length cv), ?_, fun k hk => ⟨(owns_u8 hown k hk).1, fun hlt => hU k hk hlt⟩⟩⟩
    · rw [bv_snoc, List.length_append]
      exact owns_keep hown' o9 (by simp; omega)
    · exact (HOa.out.then hg _ (by simp) (fun i hi => .inl (by simp [hi]))).then o9 _ (fun i hi => .inl hi) (by simp))
  clear hown' hgrow hg Hown HOa Hb hb2
  go_wp2
  go_ret
  exact ⟨rfl, Hfin.out.1, Hfin.out.2⟩

set_option maxHeartbeats 4000000 in
theorem writeString_any (w0 w : World) (p : Nat) (L : List UInt8) (inl : Bool) (s : List UInt8) (h : WrAt w0 w p L inl) (hL : L.length + s.length ≤ 100000000) :
    Calls Try.prog 69 #[.pointer (some ⟨p, 0, none⟩), encStr s] w fun e w' => (∃ u, e = .returned u) ∧ WrAt w0 w' p (L ++ s) inl ∧ WrO w0 p w w' := by
  unfold encStr
  have hp := h
  obtain ⟨_, _, _, _, _, _, hp5, hp6⟩ := hp
  obtain ⟨i0, hi, hz0, hz1, hz2⟩ := info_parts infoU8
  have hsz : (⟨s.toArray⟩ : ByteArray).size = s.length := by simp [ByteArray.size]
  go_enter Try.func69, Try.ntmps69
  go_wp2_with (go_at_call 79; refine (check_any w0 _ p L inl h).mono ?_)
  rintro e w1 ⟨rfl, ⟨v, hb, hown, hnil⟩, hO1⟩
  obtain ⟨av, cv, rfl⟩ := owns_slice hown
  have hU : ∀ k ∈ ownL (.slice av L.length cv), k < w.heap.size → ∃ cs, IsBlk w k (.cells cs 5) := fun k hk hlt => by
    obtain ⟨hk1, cs, hb⟩ := owns_u8 hown k hk
    exact ⟨cs, (hO1.block k hlt (by simp; omega)).symm.trans hb⟩
  have c0 := hb.cell 0
  have c1 := hb.cell 1
  have hl1 := hb.lt
  have hs1 := hO1.size
  have Hown := Lib.hid hown
  have Hnil := Lib.hid hnil
  clear hnil
  go_wp2_with (at_builtin; refine Lib.wpList_append_own_string _ rfl _ _ 32 9 rfl w0.heap.size 5 i0 Try.underlying32 Try.underlying9 hi hz0 hz1 hz2 _ _ _ rfl Hown.out ⟨s.toArray⟩ rfl ?c3 ?c4 ?c5 ?_)
  case c3 => rw [hsz]; unfold maxLen; omega
  case c4 => rw [hsz]; omega
  case c5 => omega
  intro v' w2 hown' hgrow hnn
  have hg := grown_only hgrow
  have hown2 : w2.ownsRow w0.heap.size 5 1 v' (L ++ s).length (bv (L ++ s)) := by
    rw [bv_append, List.length_append, ← hsz]; exact hown'
  have hnil2 : L ++ s = [] → v' = .slice none 0 0 := fun hh => by
    obtain ⟨e1, e2⟩ := List.append_eq_nil_iff.1 hh
    have h9 := Hnil.out e1
    injection h9 with h91 h92 h93
    exact hnn.2 ⟨⟨h91, e1, h93⟩, e2⟩
  clear hown' hnn
  obtain ⟨a2, c2, rfl⟩ := owns_slice hown2
  have hvp : p ∉ ownL (.slice av L.length cv) := fun hm => by have := (World.ownsRow.lt hown p (mem_ownL.1 hm)).1; omega
  have hb2 := hb.only hg hvp
  have d1 := hb2.cell 1
  have f1 := hb2.notFrozen 1
  have l2 := hb2.lt
  have Hfin : Hid (WrAt w0 (w2.setCell ⟨p, 1, none⟩ (.slice a2 (L ++ s).length c2)) p (L ++ s) inl ∧ WrO w0 p w (w2.setCell ⟨p, 1, none⟩ (.slice a2 (L ++ s).length c2))) := Lib.hid (by
    have o9 : Only [p] w2 (w2.setCell ⟨p, 1, none⟩ (.slice a2 (L ++ s).length c2)) := (Only.refl _ _).setCell (.inl (by simp)) _
    refine ⟨⟨_, _, IsBlk.put hb2 1 (.slice a2 (L ++ s).length c2), .inr rfl, owns_keep hown2 o9 (by simp; omega), hnil2, hp5, Nat.le_trans (Nat.le_trans hp6 (Nat.le_trans hO1.size hg.size)) o9.size⟩, ⟨hp5, ownL (.slice av L.length cv), ?_, fun k hk => ⟨(owns_u8 hown k hk).1, fun hlt => hU k hk hlt⟩⟩⟩
    exact (hO1.then hg _ (by simp) (fun i hi => .inl (by simp [hi]))).then o9 _ (fun i hi => .inl hi) (by simp))
  clear hown2 hgrow hg hb2 hnil2 Hown Hnil
  generalize hn : (L ++ s).length = n at *
  go_wp2
  go_ret2
  exact ⟨⟨_, rfl⟩, Hfin.out.1, Hfin.out.2⟩

/-- Words written behind L, a blank ahead of each that begins no line. -/
def putM : Bool → List (List UInt8) → List UInt8
  | _, [] => []
  | inl, s :: r => (if inl then [32] else []) ++ s ++ putM true r
def inlM (inl : Bool) (ws : List (List UInt8)) : Bool := inl || decide (0 < ws.length)
theorem putM_snoc : ∀ (ws : List (List UInt8)) (inl : Bool) (s : List UInt8), putM inl (ws ++ [s]) = putM inl ws ++ (if inlM inl ws then [32] else []) ++ s
  | [], inl, s => by cases inl <;> simp [putM, inlM]
  | x :: r, inl, s => by
    rw [List.cons_append, putM, putM_snoc r true s, putM]
    simp [inlM]

theorem putM_append : ∀ (a b : List (List UInt8)) (inl : Bool), putM inl (a ++ b) = putM inl a ++ putM (inlM inl a) b
  | [], b, inl => by cases inl <;> simp [putM, inlM]
  | x :: r, b, inl => by
    rw [List.cons_append, putM, putM_append r b true, putM]
    simp [inlM]
/-- Strings in a block of their own. -/
def strsO (ws : List (List UInt8)) : Obj := .cells (ws.map encStr).toArray 9
theorem strs_cell {w : World} {g : Nat} {ws : List (List UInt8)} (h : IsBlk w g (strsO ws)) {i : Nat} {s : List UInt8} (hs : ws[i]? = some s) : w.cell? ⟨g, i, none⟩ = some (encStr s) := by
  rw [h.cell i]; simp [hs]

set_option maxHeartbeats 8000000 in
theorem put_any (w0 w : World) (p : Nat) (L : List UInt8) (inl : Bool) (ws : List (List UInt8)) (g c : Nat) (hg : IsBlk w g (strsO ws)) (hgp : g ≠ p)
    (h : WrAt w0 w p L inl) (hL : L.length + (putM inl ws).length ≤ 100000000) (hws : ws.length ≤ 1000) :
    Calls Try.prog 43 #[.pointer (some ⟨p, 0, none⟩), .slice (some ⟨g, 0, none⟩) ws.length c] w fun e w' => e = .returned (.tuple #[]) ∧ WrAt w0 w' p (L ++ putM inl ws) (inlM inl ws) ∧ WrO w0 p w w' := by
  have hp5 : p < w0.heap.size := by obtain ⟨_, _, _, _, _, _, hp5, _⟩ := h; exact hp5
  have H := Lib.hid h
  have Hg := Lib.hid hg
  clear h hg
  go_enter Try.func43, Try.ntmps43
  go_wp2_with fail
  go_loopw [8] (fun iv wr => ∃ i : Nat, iv = .int .i64 i ∧ i ≤ ws.length ∧ IsBlk wr g (strsO ws) ∧ WrAt w0 wr p (L ++ putM inl (ws.take i)) (inlM inl (ws.take i)) ∧ WrO w0 p w wr  ) (fun iv _ => ws.length - (intOf iv).toNat)
  case atStart => exact ⟨0, rfl, Nat.zero_le _, Hg.out, by simpa [putM, inlM] using H.out, WrO.refl hp5 w⟩
  case round =>
    obtain ⟨i, rfl, hi, hgr, hW, hO⟩ := hrel
    have HW := Lib.hid hW
    have HO := Lib.hid hO
    have Hgr := Lib.hid hgr
    clear hW hO H Hg
    by_cases hlt : i < ws.length
    · have hlti : (i : Int) < (ws.length : Int) := by omega
      have hget : ws[i]? = some ws[i] := List.getElem?_eq_getElem hlt
      have c0 := strs_cell hgr hget
      have Hcat : Hid (putM inl (ws.take (i + 1)) = putM inl (ws.take i) ++ (if inlM inl (ws.take i) then [32] else []) ++ ws[i] ∧ inlM inl (ws.take (i + 1)) = true) := Lib.hid (by
        refine ⟨by rw [List.take_add_one, hget]; exact putM_snoc _ _ _, ?_⟩
        have h0 : 0 < (ws.take (i + 1)).length := by rw [List.length_take]; omega
        unfold inlM
        rw [decide_eq_true h0, Bool.or_true])
      have Hlen : Hid (L.length + (putM inl (ws.take (i + 1))).length ≤ 100000000) := Lib.hid (by
        have h1 := putM_append (ws.take (i + 1)) (ws.drop (i + 1)) inl
        rw [List.take_append_drop] at h1
        rw [h1, List.length_append] at hL
        omega)
      generalize hX1 : putM inl (ws.take (i + 1)) = X1 at *
      generalize putM inl (ws.take i) = X0 at *
      generalize hb1 : inlM inl (ws.take (i + 1)) = b1 at *
      have HX := Lib.hid (And.intro hX1 hb1)
      clear hX1 hb1
      generalize inlM inl (ws.take i) = b0 at *
      generalize ws[i] = s at *
      have Hget := Lib.hid hget
      have c2 : wr.cell? ⟨p, 2, none⟩ = some (.bool b0) := by
        obtain ⟨a, v, h1, -⟩ := HW.out
        exact h1.cell 2
      have hwl : p < wr.heap.size := by obtain ⟨a, v, h1, -⟩ := HW.out; exact h1.lt
      unfold encStr at c0
      clear hgr hget
      cases b0 with
      | true =>
        go_wp2_with fail
        have hwb := writeByte_any w0 wr p (L ++ X0) true 32 HW.out (by have h1 := Hlen.out; have h2 := congrArg List.length Hcat.out.1; simp at h2; simp; omega)
        rw [show (((32 : UInt8).toNat : Nat) : Int) = 32 from rfl] at hwb
        refine hwb.mono ?_
        clear hwb
        rintro e w1 ⟨rfl, hW1, hO1⟩
        have HW1 := Lib.hid hW1
        have HO1 := Lib.hid hO1
        clear hW1 hO1 c2
        go_wp2_with fail
        refine (writeString_any w0 w1 p (L ++ X0 ++ [32]) true s HW1.out (by have h1 := Hlen.out; have h2 := congrArg List.length Hcat.out.1; simp at h2; simp; omega)).mono ?_
        rintro e w2 ⟨⟨u, rfl⟩, hW2, hO2⟩
        have HO2 := Lib.hid ((HO.out.trans HO1.out).trans hO2)
        have Hg2 := Lib.hid (hO2.blk (HO1.out.blk Hgr.out hgp (by decide)) hgp (by decide))
        obtain ⟨a2, v2, g1, g2, g3, g4, g5, g6⟩ := hW2
        have d2 := g1.cell 2
        have e2 := g1.notFrozen 2
        have l2 := g1.lt
        have o9 : Only [p] w2 (w2.setCell ⟨p, 2, none⟩ (.bool true)) := (Only.refl _ _).setCell (.inl (by simp)) _
        have Hfin := Lib.hid (And.intro (show WrAt w0 (w2.setCell ⟨p, 2, none⟩ (.bool true)) p (L ++ X1) b1 from by
          rw [Hcat.out.1, Hcat.out.2]
          refine ⟨a2, v2, IsBlk.put g1 2 (.bool true), g2, ?_, ?_, g5, Nat.le_trans g6 o9.size⟩
          · have := owns_keep g3 o9 (by simp; omega)
            simpa [List.append_assoc] using this
          · intro h; simp at h) (And.intro (HO2.out.trans ⟨hp5, [], o9, by simp⟩) (Hg2.out.only o9 (by simp; exact hgp))))
        clear g1 g2 g3 g4 hO2 HO1 HW1 o9 Hg2
        go_wp2
        go_roundw
        case rel => exact ⟨i + 1, by go_num, hlt, Hfin.out.2.2, by rw [HX.out.1, HX.out.2]; exact Hfin.out.1, Hfin.out.2.1⟩
        case measure => simp [intOf]; omega
      | false =>
        go_wp2_with fail
        refine (writeString_any w0 wr p (L ++ X0) false s HW.out (by have h1 := Hlen.out; have h2 := congrArg List.length Hcat.out.1; simp at h2; simp; omega)).mono ?_
        rintro e w2 ⟨⟨u, rfl⟩, hW2, hO2⟩
        have HO2 := Lib.hid (HO.out.trans hO2)
        have Hg2 := Lib.hid (hO2.blk Hgr.out hgp (by decide))
        obtain ⟨a2, v2, g1, g2, g3, g4, g5, g6⟩ := hW2
        have d2 := g1.cell 2
        have e2 := g1.notFrozen 2
        have l2 := g1.lt
        have o9 : Only [p] w2 (w2.setCell ⟨p, 2, none⟩ (.bool true)) := (Only.refl _ _).setCell (.inl (by simp)) _
        have Hfin := Lib.hid (And.intro (show WrAt w0 (w2.setCell ⟨p, 2, none⟩ (.bool true)) p (L ++ X1) b1 from by
          rw [Hcat.out.1, Hcat.out.2]
          refine ⟨a2, v2, IsBlk.put g1 2 (.bool true), g2, ?_, ?_, g5, Nat.le_trans g6 o9.size⟩
          · have := owns_keep g3 o9 (by simp; omega)
            simpa [List.append_assoc] using this
          · intro h; exact g4 (by simpa [List.append_assoc] using h)) (And.intro (HO2.out.trans ⟨hp5, [], o9, by simp⟩) (Hg2.out.only o9 (by simp; exact hgp))))
        clear g1 g2 g3 g4 hO2 o9 Hg2 c2
        go_wp2
        go_roundw
        case rel => exact ⟨i + 1, by go_num, hlt, Hfin.out.2.2, by rw [HX.out.1, HX.out.2]; exact Hfin.out.1, Hfin.out.2.1⟩
        case measure => simp [intOf]; omega
    · have hlti : ¬ (i : Int) < (ws.length : Int) := by omega
      have he : ws.take i = ws := List.take_of_length_le (by omega)
      rw [he] at HW
      clear hgr
      go_wp2
      go_end0
      exact ⟨rfl, HW.out, HO.out⟩

set_option maxHeartbeats 4000000 in
theorem endLine_any (w0 w : World) (p : Nat) (L : List UInt8) (inl : Bool) (h : WrAt w0 w p L inl) (hL : L.length + 1 ≤ 100000000) :
    Calls Try.prog 44 #[.pointer (some ⟨p, 0, none⟩)] w fun e w' => e = .returned (.tuple #[]) ∧ WrAt w0 w' p (L ++ [10]) false ∧ WrO w0 p w w' := by
  have hp5 : p < w0.heap.size := by obtain ⟨_, _, _, _, _, _, hp5, _⟩ := h; exact hp5
  go_enter Try.func44, Try.ntmps44
  go_wp2_with fail
  have hwb := writeByte_any w0 w p L inl 10 h (by omega)
  rw [show (((10 : UInt8).toNat : Nat) : Int) = 10 from rfl] at hwb
  refine hwb.mono ?_
  clear hwb
  rintro e w2 ⟨rfl, hW2, hO2⟩
  have HO2 := Lib.hid hO2
  obtain ⟨a2, v2, g1, g2, g3, g4, g5, g6⟩ := hW2
  have d2 := g1.cell 2
  have e2 := g1.notFrozen 2
  have l2 := g1.lt
  have o9 : Only [p] w2 (w2.setCell ⟨p, 2, none⟩ (.bool false)) := (Only.refl _ _).setCell (.inl (by simp)) _
  have Hfin := Lib.hid (And.intro (show WrAt w0 (w2.setCell ⟨p, 2, none⟩ (.bool false)) p (L ++ [10]) false from
    ⟨a2, v2, IsBlk.put g1 2 (.bool false), g2, owns_keep g3 o9 (by simp; omega), g4, g5, Nat.le_trans g6 o9.size⟩) (HO2.out.trans ⟨hp5, [], o9, by simp⟩))
  clear g1 g2 g3 g4 hO2 o9 h
  go_wp2
  go_end0
  exact ⟨rfl, Hfin.out.1, Hfin.out.2⟩

end Go.Proofs.Ytonpfmhdefhhmaa
