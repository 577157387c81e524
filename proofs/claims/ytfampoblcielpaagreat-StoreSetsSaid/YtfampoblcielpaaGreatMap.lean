/-
  Maps keyed by int, whatever their elements, by their entries: what a look-up, a store and a delete do to the block. No program is named here.
-/
import Derived.Test.YtfampoblcielpaaGreatBase
import Derived.MapKept
import Derived.Tactics
import Derived.WalkKit
namespace Go.Proofs.YtfampoblcielpaaGreat
set_option linter.unusedVariables false
set_option maxRecDepth 100000
open Go.RowKit

/-- An entry: its key, its element, its stamp. -/
def ent (x : Int × Value × Nat) : MapEntry := { key := .int .i64 x.1, val := x.2.1, born := x.2.2 }
def getE (x : Int) : List (Int × Value × Nat) → Option Value
  | [] => none
  | e :: r => if x = e.1 then some e.2.1 else getE x r
def putE (x : Int) (v : Value) (clk : Nat) : List (Int × Value × Nat) → List (Int × Value × Nat)
  | [] => [(x, v, clk)]
  | e :: r => if x = e.1 then (x, v, e.2.2) :: r else e :: putE x v clk r
def delE (x : Int) : List (Int × Value × Nat) → List (Int × Value × Nat)
  | [] => []
  | e :: r => if x = e.1 then r else e :: delE x r
def idxE (x : Int) : List (Int × Value × Nat) → Option Nat
  | [] => none
  | e :: r => if x = e.1 then some 0 else (idxE x r).map (· + 1)

theorem find_ent (x : Int) : ∀ (E : List (Int × Value × Nat)) (i : Nat), Instr.findNow (.int .i64) (.int .i64 x) (E.map ent) i = some (match idxE x E, getE x E with | some j, some v => some (i + j, v) | _, _ => none)
  | [], i => rfl
  | e :: r, i => by
    simp only [List.map_cons, Instr.findNow, Instr.sameNow, ent, if_true, idxE, getE]
    by_cases h : x = e.1
    · simp [h]
    · have hb : (x == e.1) = false := by simpa using h
      simp only [hb, h, if_false]
      have ih := find_ent x r (i + 1)
      rw [ih]
      cases idxE x r <;> cases getE x r <;> simp <;> omega

theorem idx_some {x : Int} : ∀ {E : List (Int × Value × Nat)} {v : Value}, getE x E = some v → ∃ j, idxE x E = some j ∧ j < E.length ∧ (E.map ent).toArray[j]?.map (·.key) = some (.int .i64 x)
  | [], v, h => by simp [getE] at h
  | e :: r, v, h => by
    by_cases hx : x = e.1
    · exact ⟨0, by simp [idxE, hx], by simp, by simp [ent, hx]⟩
    · simp [getE, hx] at h
      obtain ⟨j, h1, h2, h3⟩ := idx_some h
      exact ⟨j + 1, by simp [idxE, hx, h1], by simp; omega, by simpa using h3⟩
theorem idx_none {x : Int} : ∀ {E : List (Int × Value × Nat)}, getE x E = none → idxE x E = none
  | [], _ => rfl
  | e :: r, h => by
    by_cases hx : x = e.1
    · simp [getE, hx] at h
    · simp [getE, hx] at h
      simp [idxE, hx, idx_none h]

theorem put_some {x : Int} {v : Value} {clk : Nat} : ∀ {E : List (Int × Value × Nat)} {j : Nat}, idxE x E = some j → (E.map ent).modify j (fun e => { e with key := .int .i64 x, val := v }) = (putE x v clk E).map ent
  | [], j, h => by simp [idxE] at h
  | e :: r, j, h => by
    by_cases hx : x = e.1
    · simp [idxE, hx] at h; subst h; simp [putE, hx, ent]
    · simp [idxE, hx] at h
      obtain ⟨i, hi, rfl⟩ := h
      simp [putE, hx, put_some (v := v) (clk := clk) hi]
theorem put_none {x : Int} {v : Value} {clk : Nat} : ∀ {E : List (Int × Value × Nat)}, idxE x E = none → E ++ [(x, v, clk)] = putE x v clk E
  | [], _ => rfl
  | e :: r, h => by
    by_cases hx : x = e.1
    · simp [idxE, hx] at h
    · simp [idxE, hx] at h
      simp [putE, hx, put_none (v := v) (clk := clk) h]
theorem del_some {x : Int} : ∀ {E : List (Int × Value × Nat)} {j : Nat}, idxE x E = some j → E.eraseIdx j = delE x E
  | [], j, h => by simp [idxE] at h
  | e :: r, j, h => by
    by_cases hx : x = e.1
    · simp [idxE, hx] at h; subst h; simp [delE, hx]
    · simp [idxE, hx] at h
      obtain ⟨i, hi, rfl⟩ := h
      simp [delE, hx, del_some hi]

theorem del_none {x : Int} : ∀ {E : List (Int × Value × Nat)}, idxE x E = none → delE x E = E
  | [], _ => rfl
  | e :: r, h => by
    by_cases hx : x = e.1
    · simp [idxE, hx] at h
    · simp [idxE, hx] at h
      simp [delE, hx, del_none h]

/-- No key twice. -/
def OneE (E : List (Int × Value × Nat)) : Prop := (E.map (·.1)).Nodup
theorem get_put (x : Int) (v : Value) (clk : Nat) (y : Int) : ∀ E, getE y (putE x v clk E) = if y = x then some v else getE y E
  | [] => by simp [putE, getE]
  | e :: r => by
    by_cases hx : x = e.1
    · by_cases hy : y = x <;> simp [putE, getE, hx, hy] <;> simp_all
    · by_cases hy : y = x
      · subst hy; simp [putE, getE, hx, get_put y v clk y r]
      · simp [putE, getE, hx, get_put x v clk y r, hy]
theorem get_not {y : Int} : ∀ {E : List (Int × Value × Nat)}, y ∉ E.map (·.1) → getE y E = none
  | [], _ => rfl
  | e :: r, h => by
    simp only [List.map_cons, List.mem_cons, not_or] at h
    simp [getE, h.1, get_not h.2]
theorem get_del (x y : Int) : ∀ E, OneE E → getE y (delE x E) = if y = x then none else getE y E
  | [], _ => by simp [delE, getE]
  | e :: r, h => by
    simp only [OneE, List.map_cons, List.nodup_cons] at h
    by_cases hx : x = e.1
    · by_cases hy : y = x
      · subst hy; simp [delE, hx]; exact get_not h.1
      · have : ¬ y = e.1 := by rw [← hx]; exact hy
        simp [delE, getE, hx, this]
    · have ih := get_del x y r h.2
      by_cases hy : y = x
      · subst hy; simp [delE, getE, hx]; simpa using ih
      · simp [delE, getE, hx, hy]; simp [hy] at ih; rw [ih]
theorem keys_put (x : Int) (v : Value) (clk : Nat) : ∀ E k, k ∈ (putE x v clk E).map (·.1) → k = x ∨ k ∈ E.map (·.1)
  | [], k, h => by simp [putE] at h; exact .inl h
  | e :: r, k, h => by
    by_cases hx : x = e.1
    · simp only [putE, hx, if_true, List.map_cons, List.mem_cons] at h ⊢; rcases h with h | h; exact .inl h; exact .inr (.inr h)
    · simp only [putE, hx, if_false, List.map_cons, List.mem_cons] at h ⊢
      rcases h with h | h
      · exact .inr (.inl h)
      · rcases keys_put x v clk r k h with h | h; exact .inl h; exact .inr (.inr h)
theorem one_put (x : Int) (v : Value) (clk : Nat) : ∀ E, OneE E → OneE (putE x v clk E)
  | [], _ => by simp [putE, OneE]
  | e :: r, h => by
    simp only [OneE, List.map_cons, List.nodup_cons] at h
    by_cases hx : x = e.1
    · simp only [putE, hx, if_true, OneE, List.map_cons, List.nodup_cons]; exact h
    · simp only [putE, hx, if_false, OneE, List.map_cons, List.nodup_cons]
      refine ⟨fun hm => ?_, one_put x v clk r h.2⟩
      rcases keys_put x v clk r _ hm with h1 | h1
      · exact hx h1.symm
      · exact h.1 h1
theorem keys_del (x : Int) : ∀ E k, k ∈ (delE x E).map (·.1) → k ∈ E.map (·.1)
  | [], k, h => by simp [delE] at h
  | e :: r, k, h => by
    by_cases hx : x = e.1
    · simp only [delE, hx, if_true] at h; simp only [List.map_cons, List.mem_cons]; exact .inr h
    · simp only [delE, hx, if_false, List.map_cons, List.mem_cons] at h ⊢
      rcases h with h | h; exact .inl h; exact .inr (keys_del x r k h)
theorem one_del (x : Int) : ∀ E, OneE E → OneE (delE x E)
  | [], _ => by simp [delE, OneE]
  | e :: r, h => by
    simp only [OneE, List.map_cons, List.nodup_cons] at h
    by_cases hx : x = e.1
    · simp only [delE, hx, if_true]; exact h.2
    · simp only [delE, hx, if_false, OneE, List.map_cons, List.nodup_cons]
      exact ⟨fun hm => h.1 (keys_del x r _ hm), one_del x r h.2⟩

variable {P : Program}
def mapObj (E : List (Int × Value × Nat)) (clk : Nat) : Obj := .map (E.map ent).toArray clk

theorem isKey_int (x : Int) : MapKept.IsKey (.int .i64) (.int .i64 x) := by
  first | exact ⟨_, rfl⟩ | exact rfl | trivial | simp [MapKept.IsKey]

theorem map_erase {α β : Type} (f : α → β) : ∀ (l : List α) (j : Nat), (l.map f).eraseIdx j = (l.eraseIdx j).map f
  | [], _ => rfl
  | _ :: _, 0 => rfl
  | _ :: r, j + 1 => by simp [map_erase f r j]

/-- A look-up with 'ok'. -/
theorem run_look (w : World) (t kt et : TypeId) (b : Nat) (E : List (Int × Value × Nat)) (clk : Nat) (x : Int) (z : Value) (ht : P.underlying t = some (.map kt et)) (hk : P.underlying kt = some (.int .i64))
    (hz : (zeroValue et).run P w = .ok z w) (hb : IsBlk w b (mapObj E clk)) :
    (Instr.lookup t (.map (some b)) (.int .i64 x) true).run P w = .ok (.tuple #[(getE x E).getD z, .bool (getE x E).isSome]) w := by
  have hf := find_ent x E 0
  have hfind := MapKept.run_findKey (P := P) (w := w) (l := E.map ent) hk hf
  have hck := fun e => MapKept.run_checkKey (P := P) (w := w) hk (isKey_int x) e 9999
  have hget : w.heap[b]? = some (.map (E.map ent).toArray clk) := hb
  cases hg : getE x E with
  | none =>
    rw [idx_none hg, hg] at hfind
    simp [Instr.lookup, run_underlying ht, MapKept.run_getObj_map hget, hck, hfind, hz, Result.andThen]
  | some v =>
    obtain ⟨j, h1, _, _⟩ := idx_some hg
    rw [h1, hg] at hfind
    simp [Instr.lookup, run_underlying ht, MapKept.run_getObj_map hget, hck, hfind, Result.andThen]

/-- A store. -/
theorem run_put (w : World) (t kt et : TypeId) (b : Nat) (E : List (Int × Value × Nat)) (clk : Nat) (x : Int) (v : Value) (ht : P.underlying t = some (.map kt et)) (hk : P.underlying kt = some (.int .i64))
    (hb : IsBlk w b (mapObj E clk)) :
    ∃ clk', (Instr.mapUpdate t (.map (some b)) (.int .i64 x) v).run P w = .ok () (withObj w b (mapObj (putE x v clk E) clk')) := by
  have hf := find_ent x E 0
  have hfind := MapKept.run_findKey (P := P) (w := w) (l := E.map ent) hk hf
  have hck := fun e => MapKept.run_checkKey (P := P) (w := w) hk (isKey_int x) e 9999
  have hget : w.heap[b]? = some (.map (E.map ent).toArray clk) := hb
  cases hg : getE x E with
  | none =>
    have hi := idx_none hg
    rw [hi, hg] at hfind
    refine ⟨clk + 1, ?_⟩
    have hp := put_none (v := v) (clk := clk) hi
    simp [Instr.mapUpdate, run_underlying ht, MapKept.run_getObj_map hget, hck, hfind, Result.andThen, MapKept.run_setObj_map _ hget, withObj, mapObj, ← hp, ent]
  | some u =>
    obtain ⟨j, h1, hj, hkey⟩ := idx_some hg
    rw [h1, hg] at hfind
    refine ⟨clk, ?_⟩
    have hp := put_some (v := v) (clk := clk) h1
    have hkey' : Option.map ((fun x => x.key) ∘ ent) E[j]? = some (.int .i64 x) := by simpa using hkey
    have hst : (Instr.keyThatStays (.int .i64 x) (.int .i64 x)).run P w = .ok (.int .i64 x) w := by simp [Instr.keyThatStays, Instr.sameBits]
    simp only [Nat.zero_add] at hfind
    simp [Instr.mapUpdate, run_underlying ht, MapKept.run_getObj_map hget, hck, hfind, Result.andThen, MapKept.run_setObj_map _ hget, withObj, mapObj, ← hp, hkey', hst]

/-- A delete. -/
theorem run_del (w : World) (t kt et ty : TypeId) (b : Nat) (E : List (Int × Value × Nat)) (clk : Nat) (x : Int) (ht : P.underlying t = some (.map kt et)) (hk : P.underlying kt = some (.int .i64))
    (hb : IsBlk w b (mapObj E clk)) :
    (Builtin.delete_ #[t, kt] ty #[.map (some b), .int .i64 x]).run P w = .ok (.tuple #[]) (withObj w b (mapObj (delE x E) clk)) := by
  have hf := find_ent x E 0
  have hfind := MapKept.run_findKey (P := P) (w := w) (l := E.map ent) hk hf
  have hck := fun e => MapKept.run_checkKey (P := P) (w := w) hk (isKey_int x) e 9999
  have hget : w.heap[b]? = some (.map (E.map ent).toArray clk) := hb
  cases hg : getE x E with
  | none =>
    have hi := idx_none hg
    rw [hi, hg] at hfind
    have hd := del_none hi
    simp [Builtin.delete_, run_underlying ht, MapKept.run_getObj_map hget, hck, hfind, Result.andThen, MapKept.run_setObj_map _ hget, withObj, mapObj, hd]
  | some u =>
    obtain ⟨j, h1, hj, hkey⟩ := idx_some hg
    rw [h1, hg] at hfind
    have hd := del_some h1
    have he : (E.map ent).eraseIdx j = (delE x E).map ent := by rw [← hd]; exact map_erase ent E j
    simp only [Nat.zero_add] at hfind
    simp [Builtin.delete_, run_underlying ht, MapKept.run_getObj_map hget, hck, hfind, Result.andThen, MapKept.run_setObj_map _ hget, withObj, mapObj, he]

section
variable {ops : Array Oper} {rest : List Oper} {op : Oper} {a : Act} {w : World} {Q : Exit → Act → World → Prop}
/-- The store as the walk meets it. -/
theorem wpList_put (t kt et : TypeId) (b : Nat) (E : List (Int × Value × Nat)) (clk : Nat) (x : Int) (v : Value) (ht : P.underlying t = some (.map kt et)) (hk : P.underlying kt = some (.int .i64)) (hb : IsBlk w b (mapObj E clk))
    (hgd : op.guard = none) (m k y : Operand) (ho : op.op = .mapUpdate t m k y) (hm : a.eval m = .map (some b)) (hx : a.eval k = .int .i64 x) (hy : a.eval y = v)
    (h : ∀ clk', wpList P ops Q rest (a.put op.dst undef) (withObj w b (mapObj (putE x v clk E) clk'))) : wpList P ops Q (op :: rest) a w := by
  refine wpList_plain hgd fun K hK => ?_
  obtain ⟨clk', hr⟩ := run_put (P := P) w t kt et b E clk x v ht hk hb
  unfold Oper.wp
  simp [execOp, ho, hm, hx, hy, hr, Result.andThen]
  exact hK _ _ (h clk')
/-- The delete as the walk meets it. -/
theorem wpList_del (t kt et : TypeId) (b : Nat) (E : List (Int × Value × Nat)) (clk : Nat) (x : Int) (ht : P.underlying t = some (.map kt et)) (hk : P.underlying kt = some (.int .i64)) (hb : IsBlk w b (mapObj E clk))
    (hgd : op.guard = none) (m k : Operand) (ho : op.op = .call { callee := .builtin .delete, args := #[m, k], argTypes := #[t, kt] }) (hm : a.eval m = .map (some b)) (hx : a.eval k = .int .i64 x)
    (h : wpList P ops Q rest (a.put op.dst (.tuple #[])) (withObj w b (mapObj (delE x E) clk))) : wpList P ops Q (op :: rest) a w := by
  refine wpList_plain hgd fun K hK => ?_
  have hr := run_del (P := P) w t kt et op.type b E clk x ht hk hb
  unfold Oper.wp
  simp [execOp, ho, resolve, invoke, builtin, hm, hx, hr, Result.andThen]
  exact hK _ _ h
end

end Go.Proofs.YtfampoblcielpaaGreat
