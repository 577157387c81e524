/-
  What is written of a block: begin, block of the writer.
-/
import Derived.Test.YtonpfmhdefhhmaaPaL
namespace Go.Proofs.Ytonpfmhdefhhmaa
set_option maxRecDepth 100000
set_option linter.unusedVariables false
open Go.RowKit Go.Sort

def openW : List UInt8 := [123]
def closeW : List UInt8 := [125]
/-- The words of statements. -/
def innerM : Blk → List (List UInt8)
  | .nil => []
  | .cons k _ n a b r =>
    (if k = 7 then [verbM k, openW] ++ innerM a ++ (if b.len = 0 then [] else [closeW, elseM, openW] ++ innerM b) ++ [closeW]
     else if k = 8 then [verbM k, openW] ++ innerM a ++ [closeW]
     else [verbM k, n]) ++ innerM r
def wordsB (b : Blk) : List (List UInt8) := [openW] ++ innerM b ++ [closeW]

/-- Statements in a slice that may begin within a row; their blocks lie ahead of p. -/
def RestAt (w : World) (p : Nat) (v : Value) (b : Blk) : Prop := ∃ a c, v = .slice a b.len c ∧ b.len ≤ c ∧ (0 < b.len → ∃ g o xs fp, a = some ⟨g, o, none⟩ ∧ g < p ∧ g < w.heap.size ∧ w.rangeAt g o xs ∧ EncB w b xs fp ∧ ∀ k ∈ fp, k < p)
theorem RowE.rest {w : World} {p : Nat} {b : Blk} {v : Value} {fp : List Nat} (h : BlkAt w v b fp) (hp : ∀ k ∈ fp, k < p) : RestAt w p v b := by
  rcases h with ⟨rfl, h0, rfl⟩ | ⟨g, c, fq, xs, rfl, hc, hn, rfl, ⟨cs, t, hg⟩, hr, he⟩
  · exact ⟨none, 0, by rw [h0], by omega, fun h => by omega⟩
  · exact ⟨_, c, rfl, hc, fun _ => ⟨g, 0, xs, fq, rfl, hp g (by simp), hg.lt, hr, he, fun k hk => hp k (by simp [hk])⟩⟩
/-- The blocks ahead of p are as they were. -/
def SameTo (p : Nat) (w w' : World) : Prop := ∀ k, k < p → w'.heap[k]? = w.heap[k]?
theorem SameTo.refl (p : Nat) (w : World) : SameTo p w w := fun _ _ => rfl
theorem SameTo.trans {p : Nat} {a b c : World} (h : SameTo p a b) (k : SameTo p b c) : SameTo p a c := fun i hi => (k i hi).trans (h i hi)
theorem SameTo.only {p : Nat} {w w' : World} {S : List Nat} (hO : Only S w w') (hS : ∀ k ∈ S, p ≤ k) (hp : p ≤ w.heap.size) : SameTo p w w' := fun k hk => hO.block k (by omega) (fun hm => by have := hS k hm; omega)
theorem WrO.same {w0 a b : World} {p : Nat} (h : WrO w0 p a b) (hp : p ≤ a.heap.size) : SameTo p a b := fun k hk => h.old k (by have := h.1; omega) (by omega) (by omega)

/-- A statement taken off. -/
theorem rest_cons {w : World} {p k pl : Nat} {nm : List UInt8} {A B r : Blk} {v : Value} (h : RestAt w p v (.cons k pl nm A B r)) : ∃ g o c va vb, v = .slice (some ⟨g, o, none⟩) (r.len + 1) c ∧ r.len + 1 ≤ c ∧ g < p ∧ g < w.heap.size ∧
    w.cell? ⟨g, o, none⟩ = some (.int .i64 k) ∧ w.cell? ⟨g, o + 1, none⟩ = some (.int .i64 pl) ∧ w.cell? ⟨g, o + 2, none⟩ = some (encStr nm) ∧ w.cell? ⟨g, o + 3, none⟩ = some va ∧ w.cell? ⟨g, o + 4, none⟩ = some vb ∧
    RestAt w p va A ∧ RestAt w p vb B ∧ (∀ a' c', (0 < r.len → a' = some ⟨g, o + 5, none⟩) → r.len ≤ c' → RestAt w p (.slice a' r.len c') r) := by
  obtain ⟨a, c, rfl, hc, h⟩ := h
  obtain ⟨g, o, xs, fp, rfl, hg, hgl, hr, he, hfp⟩ := h (by simp [Blk.len])
  obtain ⟨va, vb, fa, fb, fr, xr, rfl, rfl, hA, hB, hE⟩ := he
  refine ⟨g, o, c, va, vb, rfl, hc, hg, hgl, hr 0 _ rfl, hr 1 _ rfl, hr 2 _ rfl, hr 3 _ rfl, hr 4 _ rfl, RowE.rest hA (fun k hk => hfp k (by simp [hk])), RowE.rest hB (fun k hk => hfp k (by simp [hk])), fun a' c' ha hc' => ⟨a', c', rfl, hc', fun hp => ⟨g, o + 5, xr, fr, ha hp, hg, hgl, fun j u hu => ?_, hE, fun k hk => hfp k (by simp [hk])⟩⟩⟩
  have := hr (j + 5) u hu
  rw [show o + (j + 5) = o + 5 + j by omega] at this
  exact this

theorem WrAt.keep2 {w0 w w' : World} {S : List Nat} {p : Nat} {L : List UInt8} {inl : Bool} (h : WrAt w0 w p L inl) (hO : Only S w w') (hS : ∀ k ∈ S, k ≠ p ∧ ∃ cs t, IsBlk w k (.cells cs t) ∧ t ≠ 5) : WrAt w0 w' p L inl := by
  obtain ⟨a, v, h1, h2, h3, h4, h5, h6⟩ := h
  refine ⟨a, v, h1.only hO (fun hm => (hS p hm).1 rfl), h2, ?_, h4, h5, Nat.le_trans h6 hO.size⟩
  refine ⟨h3.1, ?_⟩
  rcases h3.2 with hn | ⟨g, cap, cur, rfl, hb, hg, rest⟩
  · exact .inl hn
  · refine .inr ⟨g, cap, cur, rfl, hb, (hO.block g (IsBlk.lt hg) (fun hm => ?_)).trans hg, rest⟩
    obtain ⟨-, cs, t, hk, ht⟩ := hS g hm
    have := IsBlk.same (b := g) hk hg
    injection this with _ h3 _
    exact ht h3
theorem owns_wr {w0 w w' : World} {base s n p : Nat} {e : TypeId} {v : Value} {xs : List Value} (h : w.ownsRow base e s v n xs) (hO : WrO w0 p w w') (hb : p < base) (he : e ≠ 5) : w'.ownsRow base e s v n xs := by
  refine ⟨h.1, ?_⟩
  rcases h.2 with hn | ⟨g, cap, cur, rfl, hb2, hg, rest⟩
  · exact .inl hn
  · exact .inr ⟨g, cap, cur, rfl, hb2, hO.blk hg (by omega) he, rest⟩
theorem owns_type {w : World} {base s n : Nat} {e : TypeId} {v : Value} {xs : List Value} (h : w.ownsRow base e s v n xs) : ∀ k ∈ ownL v, base ≤ k ∧ ∃ cs, IsBlk w k (.cells cs e) := fun k hk => by
  rcases h.2 with ⟨rfl, -⟩ | ⟨g, cap, cur, rfl, hb, hg, -⟩
  · simp [ownL, Value.ownBlock] at hk
  · have := mem_ownL.1 hk
    simp only [Value.ownBlock, Option.some.injEq] at this
    subst this
    exact ⟨hb, cur, hg⟩

theorem infoOB : (Try.prog.info? 117).map (fun i => (i.zero, i.size, i.bytes)) = some (some (.agg #[.slice none 0 0, .slice none 0 0]), 2, 48) := by kernel_rfl
theorem wpList_append_ob {w : World} {ops : Array Oper} {rest : List Oper} {o : Oper} {a : Act} {Q : Exit → Act → World → Prop} (hgd : o.guard = none) (s x : Operand)
    (ho : o.op = .call { callee := .builtin .append, args := #[s, x], argTypes := #[118, 118] })
    (base : Nat) (v : Value) (n : Nat) (xs : List Value) (hs : a.eval s = v) (hown : w.ownsRow base 117 2 v n xs)
    (q c : Nat) (u1 u2 : Value) (h1 : u1.oneCell' = true) (h2 : u2.oneCell' = true) (hx : a.eval x = .slice (some ⟨q, 0, none⟩) 1 c)
    (hc0 : w.cell? ⟨q, 0, none⟩ = some u1) (hc1 : w.cell? ⟨q, 1, none⟩ = some u2) (hsm : n ≤ 1000000) (hbase : base ≤ w.heap.size)
    (h : ∀ v' w', w'.ownsRow base 117 2 v' (n + 1) (xs ++ [u1, u2]) → Only (ownL v) w w' → wpList Try.prog ops Q rest (a.put o.dst v') w') : wpList Try.prog ops Q (o :: rest) a w := by
  obtain ⟨i0, hi, hz0, hz1, hz2⟩ := info_parts infoOB
  refine wpList_append_own_at w hgd s x _ ho base _ i0 _ 2 48 Try.underlying118 hi hz0 hz1 hz2 rfl (by decide) v n _ hs hown ⟨q, 0, none⟩ 1 c [u1, u2] hx rfl (fun j u hu => ?_) (fun u hu => ?_) (by unfold maxLen; omega) (by omega) hbase (fun v' w' k2 k3 k4 k5 => h v' w' k2 (grown_only k3))
  · rw [Addr.add_mid]
    match j, hu with
    | 0, hu => simp at hu; rw [← hu]; exact hc0
    | 1, hu => simp at hu; rw [← hu]; exact hc1
    | n + 2, hu => simp at hu
  · simp only [List.mem_cons, List.not_mem_nil, or_false] at hu
    rcases hu with rfl | rfl
    · exact h1
    · exact h2

/-- put of words that stand in a new block. -/
theorem put_new (w0 w : World) (p : Nat) (L : List UInt8) (inl : Bool) (ws : List (List UInt8)) (h : WrAt w0 w p L inl) (hL : L.length + (putM inl ws).length ≤ 100000000) (hws : ws.length ≤ 1000) (n : Nat) (hn : n = ws.length) (cs : Array Value) (hcs : cs = (ws.map encStr).toArray) (g : Nat) (hg : g = w.heap.size) :
    Calls Try.prog 43 #[.pointer (some ⟨p, 0, none⟩), .slice (some ⟨g, 0, none⟩) n n] (w.alloc (.cells cs 9)) fun e w' => e = .returned (.tuple #[]) ∧ WrAt w0 w' p (L ++ putM inl ws) (inlM inl ws) ∧ WrO w0 p w w' := by
  subst hn hcs hg
  have hO := (Only.refl [] w).alloc (strsO ws)
  have hp := h
  obtain ⟨_, _, hp1, _, _, _, hp5, _⟩ := hp
  refine (put_any w0 (w.alloc (strsO ws)) p L inl ws w.heap.size ws.length (IsBlk.made _ _) (by have := hp1.lt; omega) (h.more hO) hL hws).mono ?_
  rintro e w' ⟨rfl, h1, h2⟩
  exact ⟨rfl, h1, (WrO.of hp5 hO).trans h2⟩

/-- What has turned is the writer, or new. -/
def WrN (w0 : World) (p : Nat) (w w' : World) : Prop := p < w0.heap.size ∧ ∃ T, Only (p :: T) w w' ∧ ∀ k ∈ T, w0.heap.size ≤ k
theorem WrO.n {w0 a b : World} {p : Nat} (h : WrO w0 p a b) : WrN w0 p a b := by obtain ⟨hp, T, h1, h2⟩ := h; exact ⟨hp, T, h1, fun k hk => (h2 k hk).1⟩
theorem WrN.refl {w0 : World} {p : Nat} (hp : p < w0.heap.size) (w : World) : WrN w0 p w w := ⟨hp, [], Only.refl _ _, by simp⟩
theorem WrN.of {w0 w w' : World} {p : Nat} (hp : p < w0.heap.size) {S : List Nat} (h : Only S w w') (hS : ∀ k ∈ S, w0.heap.size ≤ k) : WrN w0 p w w' := ⟨hp, S, h.into (fun i hi => .inl (by simp [hi])), hS⟩
theorem WrN.trans {w0 a b c : World} {p : Nat} (h : WrN w0 p a b) (k : WrN w0 p b c) : WrN w0 p a c := by
  obtain ⟨hp, T, h1, h2⟩ := h
  obtain ⟨-, U, k1, k2⟩ := k
  exact ⟨hp, T ++ U, h1.then k1 _ (fun i hi => .inl (by simp at hi ⊢; rcases hi with h | h <;> simp [h])) (fun i hi => .inl (by simp at hi ⊢; rcases hi with h | h <;> simp [h])), fun i hi => by rcases List.mem_append.1 hi with h | h; exact h2 i h; exact k2 i h⟩
theorem WrN.size {w0 a b : World} {p : Nat} (h : WrN w0 p a b) : a.heap.size ≤ b.heap.size := by obtain ⟨-, T, h1, -⟩ := h; exact h1.size
theorem WrN.only {w0 b : World} {p : Nat} (h : WrN w0 p w0 b) : Only [p] w0 b := by
  obtain ⟨-, T, h1, h2⟩ := h
  exact h1.into (fun i hi => by rcases List.mem_cons.1 hi with h | h; exact .inl (by simp [h]); exact .inr (h2 i h))
theorem WrN.same {w0 a b : World} {p : Nat} (h : WrN w0 p a b) (hp : p ≤ a.heap.size) : SameTo p a b := by
  obtain ⟨hp0, T, h1, h2⟩ := h
  exact SameTo.only h1 (fun k hk => by rcases List.mem_cons.1 hk with e | e; omega; have := h2 k e; omega) hp

def begW (k : Nat) (nm : List UInt8) : List (List UInt8) := if k = 7 ∨ k = 8 then [verbM k, openW] else [verbM k, nm]
def begX (k : Nat) (va vb : Value) : List Value := if k = 7 then [va, vb] else if k = 8 then [va, .slice none 0 0] else []

set_option maxHeartbeats 8000000 in
theorem begin_any (w0 w : World) (p : Nat) (L : List UInt8) (inl : Bool) (h : WrAt w0 w p L inl) (ov : Value) (n : Nat) (xs : List Value) (base : Nat) (hown : w.ownsRow base 117 2 ov n xs) (hb : w0.heap.size ≤ base) (hbw : base ≤ w.heap.size) (hn : n ≤ 1000000)
    (k pl : Nat) (nm : List UInt8) (aa ab : Option Addr) (la ca lb cb : Nat) (hk : k ≤ 1000000) (hL : L.length + (putM inl (begW k nm)).length ≤ 100000000) :
    Calls Try.prog 71 #[.pointer (some ⟨p, 0, none⟩), ov, .agg #[.int .i64 k, .int .i64 pl, encStr nm, .slice aa la ca, .slice ab lb cb]] w fun e w' =>
      ∃ ov', e = .returned ov' ∧ WrAt w0 w' p (L ++ putM inl (begW k nm)) true ∧ w'.ownsRow base 117 2 ov' (n + (begX k (.slice aa la ca) (.slice ab lb cb)).length / 2) (xs ++ begX k (.slice aa la ca) (.slice ab lb cb)) ∧ WrN w0 p w w' := by
  unfold encStr
  obtain ⟨av, cv, rfl⟩ := owns_slice hown
  have hp5 : p < w0.heap.size := by obtain ⟨_, _, _, _, _, _, hp5, _⟩ := h; exact hp5
  have hpl : p < w.heap.size := by obtain ⟨_, _, h1, _⟩ := h; exact h1.lt
  have hO1 := (Only.refl [] w).alloc (.cells #[.int .i64 k, .int .i64 pl, .string ⟨nm.toArray⟩, .slice aa la ca, .slice ab lb cb] 96)
  have hs1 := IsBlk.made w (.cells #[.int .i64 k, .int .i64 pl, .string ⟨nm.toArray⟩, .slice aa la ca, .slice ab lb cb] 96)
  have H1 := Lib.hid (h.more hO1)
  have Hown1 := Lib.hid (owns_keep hown hO1 (by simp))
  have HN1 := Lib.hid (WrN.of hp5 hO1 (by simp))
  have hsz1 := hO1.size
  clear h hown hO1
  go_enter Try.func71, Try.ntmps71
  go_upto_region 1 with fail
  generalize hW1 : w.alloc (.cells #[.int .i64 k, .int .i64 pl, .string ⟨nm.toArray⟩, .slice aa la ca, .slice ab lb cb] 96) = w1 at *
  clear hW1
  generalize hgs : w.heap.size = gs at *
  have k0 := hs1.cell 0
  go_wp2_with fail
  refine (wordOf_any w1 k hk).mono ?_
  rintro e w2 ⟨rfl, hO2⟩
  have H2 := Lib.hid (H1.out.more hO2)
  have Hown2 := Lib.hid (owns_keep Hown1.out hO2 (by simp))
  have HN2 := Lib.hid (HN1.out.trans (WrN.of hp5 hO2 (by simp)))
  have hs2 := hs1.only hO2 (by simp)
  have hsz2 := hO2.size
  clear hO2 H1 Hown1 HN1 hs1 k0
  unfold encStr
  have hp1 : Hid (L.length + (putM inl [verbM k]).length ≤ 100000000) := Lib.hid (by
    have : putM inl (begW k nm) = putM inl [verbM k] ++ putM true [if k = 7 ∨ k = 8 then openW else nm] := by
      unfold begW
      split <;> simp [putM]
    rw [this, List.length_append] at hL
    omega)
  go_wp2_with fail
  refine (put_new w0 w2 p L inl [verbM k] H2.out hp1.out (by simp) 1 rfl _ rfl _ rfl).mono ?_
  rintro e w3 ⟨rfl, hW3, hO3⟩
  rw [show inlM inl [verbM k] = true from by simp [inlM]] at hW3
  have H3 := Lib.hid hW3
  have Hown3 := Lib.hid (owns_wr Hown2.out hO3 (by omega) (by decide))
  have HN3 := Lib.hid (HN2.out.trans hO3.n)
  have hs3 := hO3.blk hs2 (by omega) (by decide)
  have hsz3 := hO3.size
  clear hW3 hO3 H2 Hown2 HN2 hs2
  have k0 := hs3.cell 0
  have k2 := hs3.cell 2
  have k3 := hs3.cell 3
  have k4 := hs3.cell 4
  have hgl := hs3.lt
  by_cases h7 : k = 7
  · subst h7
    have hpw : putM inl (begW 7 nm) = putM inl [verbM 7] ++ putM true [openW] := by simp [begW, putM]
    go_wp2_with fail
    refine (put_new w0 w3 p (L ++ putM inl [verbM 7]) true [openW] H3.out (by rw [hpw] at hL; simp only [List.length_append] at hL ⊢; omega) (by simp) 1 rfl _ rfl _ rfl).mono ?_
    rintro e w4 ⟨rfl, hW4, hO4⟩
    have hW4' : WrAt w0 w4 p (L ++ putM inl (begW 7 nm)) true := by rw [hpw, ← List.append_assoc]; exact hW4
    have H4 := Lib.hid hW4'
    have Hown4 := Lib.hid (owns_wr Hown3.out hO4 (by omega) (by decide))
    have HN4 := Lib.hid (HN3.out.trans hO4.n)
    have hs4 := hO4.blk hs3 (by omega) (by decide)
    have hsz4 := hO4.size
    clear hW4 hW4' hO4 H3 Hown3 HN3 hs3 k0 k2 k3 k4 hgl
    have k3 := hs4.cell 3
    have k4 := hs4.cell 4
    have hgl := hs4.lt
    have hOa := (Only.refl [] w4).alloc (.cells #[.slice aa la ca, .slice ab lb cb] 117)
    have hqa := IsBlk.made w4 (.cells #[.slice aa la ca, .slice ab lb cb] 117)
    have Hq0 := Lib.hid (hqa.cell 0)
    have Hq1 := Lib.hid (hqa.cell 1)
    have Hown5 := Lib.hid (owns_keep Hown4.out hOa (by simp))
    have H5 := Lib.hid (H4.out.more hOa)
    have HN5 := Lib.hid (HN4.out.trans (WrN.of hp5 hOa (by simp)))
    have hsz5 := hOa.size
    clear hOa hqa hs4
    go_wp2_with (at_builtin; refine wpList_append_ob rfl _ _ rfl base (.slice av n cv) n xs rfl Hown5.out w4.heap.size 1 _ _ rfl rfl rfl Hq0.out Hq1.out hn (by omega) ?_; intro v' w6 h6 hO6)
    go_ret
    have hty := owns_type Hown5.out
    refine ⟨v', rfl, H5.out.keep2 hO6 (fun i hi => ⟨by have := (hty i hi).1; omega, by obtain ⟨-, cs, hb⟩ := hty i hi; exact ⟨cs, _, hb, by decide⟩⟩), ?_, HN5.out.trans (WrN.of hp5 hO6 (fun i hi => by have := (hty i hi).1; omega))⟩
    have h6' : w6.ownsRow base 117 2 v' (n + 1) (xs ++ [.slice aa la ca, .slice ab lb cb]) := h6
    rw [show begX 7 (.slice aa la ca) (.slice ab lb cb) = [.slice aa la ca, .slice ab lb cb] from rfl, show n + [Value.slice aa la ca, .slice ab lb cb].length / 2 = n + 1 from by simp]
    exact h6'
  by_cases h8 : k = 8
  · subst h8
    have hpw : putM inl (begW 8 nm) = putM inl [verbM 8] ++ putM true [openW] := by simp [begW, putM]
    go_wp2_with fail
    refine (put_new w0 w3 p (L ++ putM inl [verbM 8]) true [openW] H3.out (by rw [hpw] at hL; simp only [List.length_append] at hL ⊢; omega) (by simp) 1 rfl _ rfl _ rfl).mono ?_
    rintro e w4 ⟨rfl, hW4, hO4⟩
    have hW4' : WrAt w0 w4 p (L ++ putM inl (begW 8 nm)) true := by rw [hpw, ← List.append_assoc]; exact hW4
    have H4 := Lib.hid hW4'
    have Hown4 := Lib.hid (owns_wr Hown3.out hO4 (by omega) (by decide))
    have HN4 := Lib.hid (HN3.out.trans hO4.n)
    have hs4 := hO4.blk hs3 (by omega) (by decide)
    have hsz4 := hO4.size
    clear hW4 hW4' hO4 H3 Hown3 HN3 hs3 k0 k2 k3 k4 hgl
    have k3 := hs4.cell 3
    have k4 := hs4.cell 4
    have hgl := hs4.lt
    have hOa := (Only.refl [] w4).alloc (.cells #[.slice aa la ca, .slice none 0 0] 117)
    have hqa := IsBlk.made w4 (.cells #[.slice aa la ca, .slice none 0 0] 117)
    have Hq0 := Lib.hid (hqa.cell 0)
    have Hq1 := Lib.hid (hqa.cell 1)
    have Hown5 := Lib.hid (owns_keep Hown4.out hOa (by simp))
    have H5 := Lib.hid (H4.out.more hOa)
    have HN5 := Lib.hid (HN4.out.trans (WrN.of hp5 hOa (by simp)))
    have hsz5 := hOa.size
    clear hOa hqa hs4
    go_wp2_with (at_builtin; refine wpList_append_ob rfl _ _ rfl base (.slice av n cv) n xs rfl Hown5.out w4.heap.size 1 _ _ rfl rfl rfl Hq0.out Hq1.out hn (by omega) ?_; intro v' w6 h6 hO6)
    go_ret
    have hty := owns_type Hown5.out
    refine ⟨v', rfl, H5.out.keep2 hO6 (fun i hi => ⟨by have := (hty i hi).1; omega, by obtain ⟨-, cs, hb⟩ := hty i hi; exact ⟨cs, _, hb, by decide⟩⟩), ?_, HN5.out.trans (WrN.of hp5 hO6 (fun i hi => by have := (hty i hi).1; omega))⟩
    have h6' : w6.ownsRow base 117 2 v' (n + 1) (xs ++ [.slice aa la ca, .slice none 0 0]) := h6
    rw [show begX 8 (.slice aa la ca) (.slice ab lb cb) = [.slice aa la ca, .slice none 0 0] from rfl, show n + [Value.slice aa la ca, .slice none 0 0].length / 2 = n + 1 from by simp]
    exact h6'
  · have h7i : ¬ (k : Int) = 7 := by omega
    have h8i : ¬ (k : Int) = 8 := by omega
    have hpw : putM inl (begW k nm) = putM inl [verbM k] ++ putM true [nm] := by simp [begW, putM, h7, h8]
    have hbx : begX k (.slice aa la ca) (.slice ab lb cb) = [] := by simp [begX, h7, h8]
    have Hbx := Lib.hid hbx
    clear hbx
    go_wp2_with fail
    refine (put_new w0 w3 p (L ++ putM inl [verbM k]) true [nm] H3.out (by rw [hpw] at hL; simp only [List.length_append] at hL ⊢; omega) (by simp) 1 rfl _ rfl _ rfl).mono ?_
    rintro e w4 ⟨rfl, hW4, hO4⟩
    have hW4' : WrAt w0 w4 p (L ++ putM inl (begW k nm)) true := by rw [hpw, ← List.append_assoc]; exact hW4
    have H4 := Lib.hid hW4'
    have Hown4 := Lib.hid (owns_wr Hown3.out hO4 (by omega) (by decide))
    have HN4 := Lib.hid (HN3.out.trans hO4.n)
    clear hW4 hW4' hO4 H3 Hown3 HN3 hs3 k0 k2 k3 k4 hgl
    go_wp2
    go_ret
    refine ⟨_, rfl, H4.out, ?_, HN4.out⟩
    rw [Hbx.out]
    simpa using Hown4.out

end Go.Proofs.Ytonpfmhdefhhmaa
