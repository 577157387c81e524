/-
  errors.As at two targets: what is read of a target, what is stored there.
-/
import Derived.Test.YtildkedplmjdaaaDoorNaF
namespace Go.Proofs.YtildkedplmjdaaaDoor
set_option maxRecDepth 100000
set_option linter.unusedVariables false
open Go.RowKit Go.Extern.Stop Go.Stop Go.Extern

theorem rlm (z : Sem Value) (f : TypeId → Addr → Nat → Nat → Sem Value) (v : Value) :
    ReflectliteValue.method z f #[v] = (do match ← ReflectliteValue.parts v with | none => z | some (t, a, fl) => f t a fl (fl % 32)) := rfl
theorem rls (v x : Value) : ReflectliteValue.set #[v, x] = (do
    let (some (dst, a, fl), some (src, b, _)) := (← ReflectliteValue.parts v, ← ReflectliteValue.parts x)
      | unsupported (.noEntry "extern/(internal/reflectlite.Value).Set.zeroValue")
    if fl / ReflectliteValue.flagAddr % 2 == 0 then unsupported (.noEntry "extern/(internal/reflectlite.Value).Set.unaddressable")
    let val ← loadVar src b
    if ← Rtype.directlyAssignable dst src then storeVar dst a val
    else if ← Rtype.implements dst src then
      if (← Rtype.kind src) == 20 then
        match val with
        | .nilIface => unsupported (.noEntry "extern/reflectlite: a nil value of one interface type handed on as a value of another")
        | _ => storeVar dst a val
      else storeVar dst a (.iface src val)
    else panicString ("reflectlite.Set: value of type " ++ (← Rtype.spelt src) ++ " is not assignable to type " ++ (← Rtype.spelt dst))
    pure (.tuple #[])) := rfl
theorem ptP (a : Addr) (w : World) : (ReflectliteValue.parts (.agg #[.pointer (some ⟨2, 59, none⟩), .pointer (some a), .int .u64 150])).run Tryd.prog w = .ok (some (59, a, 150)) w := by kernel_rfl
theorem ptE (a : Addr) (w : World) : (ReflectliteValue.parts (.agg #[.pointer (some ⟨2, 60, none⟩), .pointer (some a), .int .u64 150])).run Tryd.prog w = .ok (some (60, a, 150)) w := by kernel_rfl
theorem ptPd (a : Addr) (w : World) : (ReflectliteValue.parts (.agg #[.pointer (some ⟨2, 57, none⟩), .pointer (some a), .int .u64 409])).run Tryd.prog w = .ok (some (57, a, 409)) w := by kernel_rfl
theorem ptEd (a : Addr) (w : World) : (ReflectliteValue.parts (.agg #[.pointer (some ⟨2, 36, none⟩), .pointer (some a), .int .u64 386])).run Tryd.prog w = .ok (some (36, a, 386)) w := by kernel_rfl
theorem ptPs (a : Addr) (w : World) : (ReflectliteValue.parts (.agg #[.pointer (some ⟨2, 57, none⟩), .pointer (some a), .int .u64 153])).run Tryd.prog w = .ok (some (57, a, 153)) w := by kernel_rfl
theorem ptEs (a : Addr) (w : World) : (ReflectliteValue.parts (.agg #[.pointer (some ⟨2, 36, none⟩), .pointer (some a), .int .u64 130])).run Tryd.prog w = .ok (some (36, a, 130)) w := by kernel_rfl
theorem nilP (a p : Addr) (W : World) (ha : W.cell? a = some (.pointer (some p))) :
    (ReflectliteValue.method (ReflectliteValue.valueError "reflectlite.Value.IsNil" 0) ReflectliteValue.isNil #[.agg #[.pointer (some ⟨2, 59, none⟩), .pointer (some a), .int .u64 150]]).run Tryd.prog W = .ok (.bool false) W := by
  rw [rlm]
  simp only [Sem.run_bind, ptP, Result.andThen]
  simp [ReflectliteValue.isNil, loadVar, isAgg, underlying, Tryd.underlying59, ha, Result.andThen]
theorem nilE (a p : Addr) (W : World) (ha : W.cell? a = some (.pointer (some p))) :
    (ReflectliteValue.method (ReflectliteValue.valueError "reflectlite.Value.IsNil" 0) ReflectliteValue.isNil #[.agg #[.pointer (some ⟨2, 60, none⟩), .pointer (some a), .int .u64 150]]).run Tryd.prog W = .ok (.bool false) W := by
  rw [rlm]
  simp only [Sem.run_bind, ptE, Result.andThen]
  simp [ReflectliteValue.isNil, loadVar, isAgg, underlying, Tryd.underlying60, ha, Result.andThen]
theorem eoP (w : World) : (Rtype.elem? 59).run Tryd.prog w = .ok (some 57) w := by kernel_rfl
theorem eoE (w : World) : (Rtype.elem? 60).run Tryd.prog w = .ok (some 36) w := by kernel_rfl
theorem mkPd (p : Addr) (w : World) : (ReflectliteValue.mk 57 p ReflectliteValue.flagAddr).run Tryd.prog w = .ok (.agg #[.pointer (some ⟨2, 57, none⟩), .pointer (some p), .int .u64 409]) w := by kernel_rfl
theorem mkEd (p : Addr) (w : World) : (ReflectliteValue.mk 36 p ReflectliteValue.flagAddr).run Tryd.prog w = .ok (.agg #[.pointer (some ⟨2, 36, none⟩), .pointer (some p), .int .u64 386]) w := by kernel_rfl
theorem elVP (a p : Addr) (W : World) (ha : W.cell? a = some (.pointer (some p))) :
    (ReflectliteValue.method (ReflectliteValue.valueError "reflectlite.Value.Elem" 0) ReflectliteValue.elem #[.agg #[.pointer (some ⟨2, 59, none⟩), .pointer (some a), .int .u64 150]]).run Tryd.prog W
      = .ok (.agg #[.pointer (some ⟨2, 57, none⟩), .pointer (some p), .int .u64 409]) W := by
  rw [rlm]
  simp only [Sem.run_bind, ptP, Result.andThen]
  simp [ReflectliteValue.elem, loadVar, isAgg, underlying, Tryd.underlying59, ha, Result.andThen, eoP, mkPd]
theorem elVE (a p : Addr) (W : World) (ha : W.cell? a = some (.pointer (some p))) :
    (ReflectliteValue.method (ReflectliteValue.valueError "reflectlite.Value.Elem" 0) ReflectliteValue.elem #[.agg #[.pointer (some ⟨2, 60, none⟩), .pointer (some a), .int .u64 150]]).run Tryd.prog W
      = .ok (.agg #[.pointer (some ⟨2, 36, none⟩), .pointer (some p), .int .u64 386]) W := by
  rw [rlm]
  simp only [Sem.run_bind, ptE, Result.andThen]
  simp [ReflectliteValue.elem, loadVar, isAgg, underlying, Tryd.underlying60, ha, Result.andThen, eoE, mkEd]
theorem daP (w : World) : (Rtype.directlyAssignable 57 57).run Tryd.prog w = .ok true w := by kernel_rfl
theorem daE (w : World) : (Rtype.directlyAssignable 36 36).run Tryd.prog w = .ok true w := by kernel_rfl
theorem agP (w : World) : (isAgg 57).run Tryd.prog w = .ok true w := by kernel_rfl
theorem szP (w : World) : (sizeOf 57).run Tryd.prog w = .ok 2 w := by kernel_rfl
theorem agE (w : World) : (isAgg 36).run Tryd.prog w = .ok false w := by kernel_rfl
theorem setE (q b : Nat) (n : Int) (old : Value) (W : World) (hb : W.cell? ⟨b, 0, none⟩ = some (.int .i64 n)) (ht : W.cell? ⟨q, 0, none⟩ = some old) (hf : W.frozen? ⟨q, 0, none⟩ = false) :
    (ReflectliteValue.set #[.agg #[.pointer (some ⟨2, 36, none⟩), .pointer (some ⟨q, 0, none⟩), .int .u64 386], .agg #[.pointer (some ⟨2, 36, none⟩), .pointer (some ⟨b, 0, none⟩), .int .u64 130]]).run Tryd.prog W
      = .ok (.tuple #[]) (W.setCell ⟨q, 0, none⟩ (.int .i64 n)) := by
  rw [rls]
  simp only [Sem.run_bind, ptEd, ptEs, Result.andThen]
  simp [ReflectliteValue.flagAddr, loadVar, hb, Result.andThen, daE, storeVar, Value.cells, storeCells, Addr.add]
  rw [run_store Tryd.prog W ⟨q, 0, none⟩ _ _ (by rfl)]
  simp [ht, hf]
theorem setP (q b : Nat) (u v x0 x1 : Value) (W : World) (hu : u.oneCell' = true) (hv : v.oneCell' = true) (hb0 : W.cell? ⟨b, 0, none⟩ = some u) (hb1 : W.cell? ⟨b, 1, none⟩ = some v) (hq : IsBlk W q (.cells #[x0, x1] 57)) :
    (ReflectliteValue.set #[.agg #[.pointer (some ⟨2, 57, none⟩), .pointer (some ⟨q, 0, none⟩), .int .u64 409], .agg #[.pointer (some ⟨2, 57, none⟩), .pointer (some ⟨b, 0, none⟩), .int .u64 153]]).run Tryd.prog W
      = .ok (.tuple #[]) ((W.setCell ⟨q, 0, none⟩ u).setCell ⟨q, 1, none⟩ v) := by
  rw [rls]
  simp only [Sem.run_bind, ptPd, ptPs, Result.andThen]
  have h0 := hq.cell 0
  have h1 := (IsBlk.put hq 0 u).cell 1
  have f0 := hq.notFrozen 0
  have f1 := (IsBlk.put hq 0 u).notFrozen 1
  have hl : (loadCells ⟨b, 0, none⟩ 2).run Tryd.prog W = .ok #[u, v] W := run_loadCells_list W ⟨b, 0, none⟩ [u, v] (fun j x hx => by
    rw [Addr.add_mid, Nat.zero_add]
    match j, hx with
    | 0, hx => simp at hx; rw [← hx]; exact hb0
    | 1, hx => simp at hx; rw [← hx]; exact hb1
    | n + 2, hx => simp at hx)
  have hs : (storeCells ⟨q, 0, none⟩ [u, v]).run Tryd.prog W = .ok () ((W.setCell ⟨q, 0, none⟩ u).setCell ⟨q, 1, none⟩ v) := by
    simp only [storeCells, Sem.run_bind, Addr.add_mid, Nat.zero_add]
    rw [run_store Tryd.prog W ⟨q, 0, none⟩ _ _ hu]
    simp only [h0, f0, Result.andThen]
    simp
    rw [run_store Tryd.prog _ ⟨q, 1, none⟩ _ _ hv]
    simp only [h1, f1]
    simp
  simp only [ReflectliteValue.flagAddr, loadVar]
  simp [hl, Result.andThen, daP, storeVar, Value.cells, hs]

end Go.Proofs.YtildkedplmjdaaaDoor
