/-
  A reader of tokens: next, take, name of the package parse.
-/
import Derived.Test.YtildkedplmjdaaaDoorPaB
import Derived.Laws.ResultCell
import Derived.WalkLawsBesides
namespace Go.Proofs.YtildkedplmjdaaaDoor
set_option maxRecDepth 100000
set_option linter.unusedVariables false
open Go.RowKit Go.Sort

def tokV (t : Tok) : Value := .agg #[.int .i64 t.kind, .int .i64 t.at_, encStr t.s]
/-- The token that is read next. -/
def nextT (l : List Tok) (e : Nat) : Tok := match l with
  | [] => ⟨0, e, []⟩
  | t :: _ => t

/-- A reader: what is left, where the text ends. -/
def RdAt (w : World) (p : Nat) (l : List Tok) (e : Nat) : Prop :=
  ∃ a c, IsBlk w p (.cells #[.slice a l.length c, .int .i64 e] 104) ∧ l.length ≤ c ∧ (l.length ≤ 1000000 ∧ ∀ t ∈ l, t.s.length ≤ 100000) ∧ (0 < l.length → ∃ g o, a = some ⟨g, o, none⟩ ∧ g < p ∧ w.rangeAt g o (lcellsT l))
theorem RdAt.keep {w w' : World} {S : List Nat} {p : Nat} {l : List Tok} {e : Nat} (h : RdAt w p l e) (hO : Only S w w') (hS : ∀ k ∈ S, p < k) : RdAt w' p l e := by
  obtain ⟨a, c, h1, h2, hm, h3⟩ := h
  refine ⟨a, c, h1.only hO (fun hk => by have := hS _ hk; omega), h2, hm, fun hp => ?_⟩
  obtain ⟨g, o, rfl, hg, hr⟩ := h3 hp
  exact ⟨g, o, rfl, hg, rangeAt_only hr hO (Nat.lt_trans hg h1.lt) (fun hk => by have := hS _ hk; omega)⟩
theorem RdAt.more {w w' : World} {p : Nat} {l : List Tok} {e : Nat} (h : RdAt w p l e) (hO : Only [] w w') : RdAt w' p l e := h.keep hO (by simp)
theorem RdAt.lt {w : World} {p : Nat} {l : List Tok} {e : Nat} (h : RdAt w p l e) : p < w.heap.size := by
  obtain ⟨a, c, h1, -⟩ := h
  exact h1.lt

/-- A token's three cells. -/
theorem tok_cells {w : World} {g o : Nat} {t : Tok} {r : List Tok} (h : w.rangeAt g o (lcellsT (t :: r))) : w.cell? ⟨g, o, none⟩ = some (.int .i64 t.kind) ∧ w.cell? ⟨g, o + 1, none⟩ = some (.int .i64 t.at_) ∧ w.cell? ⟨g, o + 2, none⟩ = some (encStr t.s) := by
  have e : lcellsT (t :: r) = .int .i64 t.kind :: .int .i64 t.at_ :: encStr t.s :: lcellsT r := by simp [lcellsT, tcells]
  rw [e] at h
  exact ⟨h 0 _ rfl, h 1 _ rfl, h 2 _ rfl⟩
theorem tok_rest {w : World} {g o : Nat} {t : Tok} {r : List Tok} (h : w.rangeAt g o (lcellsT (t :: r))) : w.rangeAt g (o + 3) (lcellsT r) := fun j v hv => by
  have e : lcellsT (t :: r) = .int .i64 t.kind :: .int .i64 t.at_ :: encStr t.s :: lcellsT r := by simp [lcellsT, tcells]
  rw [e] at h
  have := h (j + 3) v hv
  rw [show o + (j + 3) = o + 3 + j by omega] at this
  exact this

theorem sizeTok : (Tryd.prog.info? 128).map (·.size) = some 3 := by kernel_rfl
theorem ret_tok {fn : Func} {p : Tmp} (h : fn.results = #[.cell p 128]) (tmps : Array Value) (w : World) (g : Nat) (cs : Array Value) (hp : tmps.getD p undef = .pointer (some ⟨g, 0, none⟩))
    (hg : IsBlk w g (.cells cs 128)) (h3 : cs.size = 3) : (results fn tmps).run Tryd.prog w = .ok (.agg cs) w :=
  results_cell_row h tmps w g 128 cs (0, 0) _ hp hg Tryd.underlying128 rfl (by rw [h3]; exact sizeTok)

set_option maxHeartbeats 4000000 in
theorem next_any (w : World) (p : Nat) (l : List Tok) (e : Nat) (h : RdAt w p l e) : Calls Tryd.prog 67 #[.pointer (some ⟨p, 0, none⟩)] w fun r w' => r = .returned (tokV (nextT l e)) ∧ Only [] w w' := by
  obtain ⟨a, c, hb, hc, hm, hr⟩ := h
  have c0 := hb.cell 0
  have c1 := hb.cell 1
  have hp := hb.lt
  cases l with
  | nil =>
    go_enter Tryd.func67, Tryd.ntmps67
    go_wp2
    refine bodyPost_ret_by (ret_tok rfl _ _ w.heap.size _ rfl (IsBlk.made _ _) rfl) rfl ?_
    exact ⟨rfl, (Only.refl _ _).alloc _⟩
  | cons t r =>
    obtain ⟨g, o, rfl, hgp, hra⟩ := hr (by simp)
    have hg : g < w.heap.size := Nat.lt_trans hgp hp
    obtain ⟨k0, k1, k2⟩ := tok_cells hra
    unfold encStr at k2
    have hl : ¬ (r.length : Int) + 1 = 0 := by omega
    go_enter Tryd.func67, Tryd.ntmps67
    go_wp2
    refine bodyPost_ret_by (ret_tok rfl _ _ w.heap.size _ rfl (IsBlk.made _ _) rfl) rfl ?_
    exact ⟨rfl, (Only.refl _ _).alloc _⟩

theorem take_world {w1 : World} {p q : Nat} {x0 x1 x2 u0 u1 : Value} {T T' : TypeId} (hq : IsBlk w1 q (.cells #[x0, x1, x2] T)) (hp : IsBlk w1 p (.cells #[u0, u1] T')) (hne : p ≠ q) (v t0 t1 t2 : Value) (o : Obj) :
    IsBlk (((((w1.setCell ⟨p, 0, none⟩ v).setCell ⟨q, 0, none⟩ t0).setCell ⟨q, 1, none⟩ t1).setCell ⟨q, 2, none⟩ t2).alloc o) q (.cells #[t0, t1, t2] T) ∧
    IsBlk (((((w1.setCell ⟨p, 0, none⟩ v).setCell ⟨q, 0, none⟩ t0).setCell ⟨q, 1, none⟩ t1).setCell ⟨q, 2, none⟩ t2).alloc o) p (.cells #[v, u1] T') ∧
    Only [p, q] w1 (((((w1.setCell ⟨p, 0, none⟩ v).setCell ⟨q, 0, none⟩ t0).setCell ⟨q, 1, none⟩ t1).setCell ⟨q, 2, none⟩ t2).alloc o) := by
  refine ⟨?_, ?_, ?_⟩
  · have h0 := IsBlk.away hq (a := ⟨p, 0, none⟩) (Ne.symm hne) v
    have h1 := IsBlk.put h0 0 t0
    have h2 := IsBlk.put h1 1 t1
    have h3 := IsBlk.put h2 2 t2
    exact h3.alloc o
  · have h0 := IsBlk.put hp 0 v
    have h1 := IsBlk.away h0 (a := ⟨q, 0, none⟩) hne t0
    have h2 := IsBlk.away h1 (a := ⟨q, 1, none⟩) hne t1
    have h3 := IsBlk.away h2 (a := ⟨q, 2, none⟩) hne t2
    exact h3.alloc o
  · exact ((((((Only.refl [p, q] w1).setCell (p := ⟨p, 0, none⟩) (.inl (by simp)) v).setCell (p := ⟨q, 0, none⟩) (.inl (by simp)) t0).setCell (p := ⟨q, 1, none⟩) (.inl (by simp)) t1).setCell (p := ⟨q, 2, none⟩) (.inl (by simp)) t2).alloc o)

theorem take_world0 {w1 : World} {p q : Nat} {x0 x1 x2 : Value} {T : TypeId} {ob : Obj} (hq : IsBlk w1 q (.cells #[x0, x1, x2] T)) (hp : IsBlk w1 p ob) (hne : p ≠ q) (t0 t1 t2 : Value) (o : Obj) :
    IsBlk ((((w1.setCell ⟨q, 0, none⟩ t0).setCell ⟨q, 1, none⟩ t1).setCell ⟨q, 2, none⟩ t2).alloc o) q (.cells #[t0, t1, t2] T) ∧
    IsBlk ((((w1.setCell ⟨q, 0, none⟩ t0).setCell ⟨q, 1, none⟩ t1).setCell ⟨q, 2, none⟩ t2).alloc o) p ob ∧
    Only [q] w1 ((((w1.setCell ⟨q, 0, none⟩ t0).setCell ⟨q, 1, none⟩ t1).setCell ⟨q, 2, none⟩ t2).alloc o) := by
  refine ⟨?_, ?_, ?_⟩
  · have h1 := IsBlk.put hq 0 t0
    have h2 := IsBlk.put h1 1 t1
    have h3 := IsBlk.put h2 2 t2
    exact h3.alloc o
  · have h1 := IsBlk.away hp (a := ⟨q, 0, none⟩) hne t0
    have h2 := IsBlk.away h1 (a := ⟨q, 1, none⟩) hne t1
    have h3 := IsBlk.away h2 (a := ⟨q, 2, none⟩) hne t2
    exact h3.alloc o
  · exact (((((Only.refl [q] w1).setCell (p := ⟨q, 0, none⟩) (.inl (by simp)) t0).setCell (p := ⟨q, 1, none⟩) (.inl (by simp)) t1).setCell (p := ⟨q, 2, none⟩) (.inl (by simp)) t2).alloc o)

set_option maxHeartbeats 4000000 in
theorem take_any (w : World) (p : Nat) (l : List Tok) (e : Nat) (h : RdAt w p l e) : Calls Tryd.prog 57 #[.pointer (some ⟨p, 0, none⟩)] w fun r w' => r = .returned (tokV (nextT l e)) ∧ RdAt w' p l.tail e ∧ Only [p] w w' := by
  have H := Lib.hid h
  have hp := h.lt
  go_enter Tryd.func57, Tryd.ntmps57
  have H1 := Lib.hid (H.out.more ((Only.refl [] w).alloc (.cells #[.int .i64 0, .int .i64 0, .string ⟨#[]⟩] 128)))
  clear h
  go_wp2_with fail
  refine (next_any _ p l e H1.out).mono ?_
  rintro r w1 ⟨rfl, hO1⟩
  unfold tokV encStr
  have hO2 := Lib.hid (((Only.refl [] w).alloc (.cells #[.int .i64 0, .int .i64 0, .string ⟨#[]⟩] 128)).plus hO1)
  have hq := Lib.hid (IsBlk.only (IsBlk.made w (.cells #[.int .i64 0, .int .i64 0, .string ⟨#[]⟩] 128)) hO1 (by simp))
  clear hO1 H1
  obtain ⟨a, c, hb0, hc, hm, hr⟩ := H.out
  have hb := hb0.only hO2.out (by simp)
  have c0 := hb.cell 0
  have c1 := hb.cell 1
  have hp1 := hb.lt
  have hq1 := hq.out.lt
  have n0 := hq.out.notFrozen 0
  have n1 := hq.out.notFrozen 1
  have n2 := hq.out.notFrozen 2
  have m0 := hb.notFrozen 0
  have d0 := hq.out.cell 0
  have d1 := hq.out.cell 1
  have d2 := hq.out.cell 2
  have x1 : ¬ w.heap.size = p := by omega
  have x2 : ¬ p = w.heap.size := by omega
  cases l with
  | nil =>
    go_wp2
    refine bodyPost_ret_by (ret_tok rfl _ _ w.heap.size _ rfl (take_world0 hq.out hb x2 _ _ _ _).1 rfl) rfl ?_
    obtain ⟨e1, e2, e3⟩ := take_world0 hq.out hb x2 (.int .i64 (nextT [] e).kind) (.int .i64 (nextT [] e).at_) (.string ⟨(nextT [] e).s.toArray⟩) (.cells #[.int .i64 (nextT [] e).kind, .int .i64 (nextT [] e).at_, .string ⟨(nextT [] e).s.toArray⟩] 128)
    exact ⟨rfl, ⟨_, _, e2, hc, hm, fun h => by simp at h⟩, hO2.out.then e3 [p] (by simp) (by simp)⟩
  | cons t r =>
    obtain ⟨g, o, rfl, hgp, hra0⟩ := hr (by simp)
    have hg0 : g < w.heap.size := Nat.lt_trans hgp hp
    have hne : g ≠ p := Nat.ne_of_lt hgp
    have hra := rangeAt_only hra0 hO2.out hg0 (by simp)
    have hra' := tok_rest hra
    have hg : g < w1.heap.size := Nat.lt_of_lt_of_le hg0 hO2.out.size
    have hl : (0 : Int) < (r.length : Int) + 1 := by omega
    have hcc : (r.length : Int) + 1 ≤ (c : Int) := by simp at hc; omega
    have hgq : g ≠ w.heap.size := by omega
    by_cases hc1 : c = 1
    · have hr0 : r = [] := by simp at hc; exact List.eq_nil_of_length_eq_zero (by omega)
      subst hr0
      go_wp2
      refine bodyPost_ret_by (ret_tok rfl _ _ w.heap.size _ rfl (take_world hq.out hb x2 _ _ _ _ _).1 rfl) rfl ?_
      obtain ⟨e1, e2, e3⟩ := take_world (v := .slice (some ⟨g, o, none⟩) 0 0) hq.out hb x2 (.int .i64 (nextT [t] e).kind) (.int .i64 (nextT [t] e).at_) (.string ⟨(nextT [t] e).s.toArray⟩) (.cells #[.int .i64 (nextT [t] e).kind, .int .i64 (nextT [t] e).at_, .string ⟨(nextT [t] e).s.toArray⟩] 128)
      exact ⟨rfl, ⟨_, _, e2, Nat.le_refl _, by simp, fun h => by simp at h⟩, hO2.out.then e3 [p] (by simp) (by simp)⟩
    · go_wp2
      refine bodyPost_ret_by (ret_tok rfl _ _ w.heap.size _ rfl (take_world hq.out hb x2 _ _ _ _ _).1 rfl) rfl ?_
      obtain ⟨e1, e2, e3⟩ := take_world (v := .slice (some ⟨g, o + 3, none⟩) r.length (c - 1 : Nat)) hq.out hb x2 (.int .i64 (nextT (t :: r) e).kind) (.int .i64 (nextT (t :: r) e).at_) (.string ⟨(nextT (t :: r) e).s.toArray⟩) (.cells #[.int .i64 (nextT (t :: r) e).kind, .int .i64 (nextT (t :: r) e).at_, .string ⟨(nextT (t :: r) e).s.toArray⟩] 128)
      refine ⟨rfl, ⟨_, _, e2, ?_, ?_, fun _ => ⟨g, o + 3, rfl, hgp, rangeAt_only hra' e3 hg (by simp [hne, hgq])⟩⟩, hO2.out.then e3 [p] (by simp) (by simp)⟩
      · simp at hc; simp; omega
      · exact ⟨by have := hm.1; simp at this; simp; omega, fun x hx => hm.2 x (by simp at hx; simp [hx])⟩

/-- A panic of a fault, as it goes up. -/
def faultE (x : Nat × Nat) : Ending := .panicked [{ v := .iface 101 (.agg #[.int .i64 x.1, .int .i64 x.2]), recovered := false }]
/-- What name leaves. -/
def NameTo (w : World) (p e : Nat) (x : PR (List UInt8 × List Tok)) (r : Ending) (w' : World) : Prop :=
  match x with
  | .ok (n, l) => r = .returned (encStr n) ∧ RdAt w' p l e ∧ Only [p] w w'
  | .error y => r = faultE y ∧ Only [p] w w'

set_option maxHeartbeats 4000000 in
theorem pname_any (w : World) (p : Nat) (l : List Tok) (e : Nat) (h : RdAt w p l e) : Calls Tryd.prog 58 #[.pointer (some ⟨p, 0, none⟩)] w (NameTo w p e (nameF e l)) := by
  have H := Lib.hid h
  clear h
  go_enter Tryd.func58, Tryd.ntmps58
  go_wp2_with fail
  refine (take_any _ p l e H.out).mono ?_
  rintro r w1 ⟨rfl, hR, hO1⟩
  have HR := Lib.hid hR
  have HO := Lib.hid (hO1.alloc (.cells #[.int .i64 (nextT l e).kind, .int .i64 (nextT l e).at_, encStr (nextT l e).s] 128))
  have HR2 := Lib.hid (hR.more ((Only.refl [] w1).alloc (.cells #[.int .i64 (nextT l e).kind, .int .i64 (nextT l e).at_, encStr (nextT l e).s] 128)))
  have hq := Lib.hid (IsBlk.made w1 (.cells #[.int .i64 (nextT l e).kind, .int .i64 (nextT l e).at_, encStr (nextT l e).s] 128))
  clear hR hO1
  unfold tokV encStr
  go_wp2_with fail
  have hn : (nextT l e).s.length ≤ 100000 := by
    cases l with
    | nil => simp [nextT]
    | cons t r => obtain ⟨_, _, _, _, hm, _⟩ := H.out; exact hm.2 t (by simp)
  refine (name_any _ (nextT l e).s hn).mono ?_
  rintro r w2 ⟨rfl, hO2⟩
  have HO2 := Lib.hid (HO.out.plus hO2)
  have HR3 := Lib.hid (HR2.out.more hO2)
  have hq2 := hq.out.only hO2 (by simp)
  have q1 := hq2.cell 1
  have q2 := hq2.cell 2
  unfold encStr at q2
  have hnot : ∀ (x : Bool) (w : World), (Op.unary .not (.bool x)).run Tryd.prog w = .ok (.bool (!x)) w := fun _ _ => rfl
  clear hO2 hq hq2 HO HR HR2 H
  cases hnm : nameM (nextT l e).s with
  | true =>
    go_wp2
    go_ret
    cases l with
    | nil => simp [nextT, nameM] at hnm
    | cons t r =>
      simp only [nextT] at hnm
      simp only [NameTo, nameF, hnm, if_true]
      exact ⟨rfl, HR3.out, HO2.out⟩
  | false =>
    go_wp2
    refine ⟨rfl, ?_⟩
    cases l with
    | nil => exact ⟨rfl, HO2.out⟩
    | cons t r =>
      simp only [nextT] at hnm
      simp only [NameTo, nameF, hnm, Bool.false_eq_true, if_false]
      exact ⟨rfl, HO2.out⟩

end Go.Proofs.YtildkedplmjdaaaDoor
