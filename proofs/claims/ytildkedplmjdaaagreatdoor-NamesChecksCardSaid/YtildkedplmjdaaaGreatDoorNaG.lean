/-
  errors.As at two targets: what is read of a target, what is stored there.
-/
import Derived.Test.YtildkedplmjdaaaGreatDoorNaB
import Derived.WalkKit
import Derived.LaidEql
import Derived.Stop.Asserts
import Derived.RowKitTokens
namespace Go.Proofs.YtildkedplmjdaaaGreatDoor
set_option maxRecDepth 100000
set_option linter.unusedVariables false
open Go.RowKit Go.Extern.Stop Go.Stop Go.Extern

/-- errors.As(nil, target). -/
theorem as_nil (t : Value) (w : World) : Calls Tryz.prog 49 #[.nilIface, t] w fun e w' => e = .returned (.bool false) ∧ w' = w := by
  go_enter Tryz.func49, Tryz.ntmps49
  go_wp2
  go_ret
  exact ⟨rfl, rfl⟩

/-- The variable errors.errorType. -/
def ErrT (w : World) : Prop := w.cell? ⟨0, 0, none⟩ = some (.iface 150 (.agg #[.pointer (some ⟨2, 76, none⟩)]))
theorem ErrT.lt {w : World} (h : ErrT w) : 0 < w.heap.size := by
  rcases Nat.lt_or_ge 0 w.heap.size with h1 | h1
  · exact h1
  · unfold ErrT at h
    simp [World.cell?, Array.getElem?_eq_none h1] at h
theorem ErrT.only {w w' : World} {S : List Nat} (h : ErrT w) (hO : Only S w w') (hS : 0 ∉ S) : ErrT w' := (hO.cell (p := ⟨0, 0, none⟩) h.lt hS).trans h

/-! ### A target that points to a fault with a place (P), to a number (E) -/
theorem rfUnP (t : Addr) (w : World) : (ReflectliteValue.unpack (.iface 100 (.pointer (some t)))).run Tryz.prog w
    = .ok (.agg #[.pointer (some ⟨2, 100, none⟩), .pointer (some ⟨w.heap.size, 0, none⟩), .int .u64 150]) (w.alloc (.cells #[.pointer (some t)] 100)) := by kernel_rfl
theorem rfTyP (a : Addr) (w : World) : (ReflectliteValue.methodAny (ReflectliteValue.valueError "reflectlite.Value.Type" 0) (fun t _ _ _ => ReflectliteType.toType t) #[.agg #[.pointer (some ⟨2, 100, none⟩), .pointer (some a), .int .u64 150]]).run Tryz.prog w
    = .ok (.iface 150 (.agg #[.pointer (some ⟨2, 100, none⟩)])) w := by kernel_rfl
theorem rfKindM (h : Value) (w : World) : (Go.method 327 150 (.agg #[h]) "Kind").run Tryz.prog w = .ok (144, h) w := by kernel_rfl
theorem rfKindP (w : World) : ((ReflectliteType.abiMethod fun t => (fun a : Nat => Value.int IntKind.u8 (a : Int)) <$> Rtype.kind t) #[.pointer (some ⟨2, 100, none⟩)]).run Tryz.prog w = .ok (.int .u8 22) w := by kernel_rfl
theorem rfKindPl (w : World) : ((ReflectliteType.abiMethod fun t => (fun a : Nat => Value.int IntKind.u8 (a : Int)) <$> Rtype.kind t) #[.pointer (some ⟨2, 98, none⟩)]).run Tryz.prog w = .ok (.int .u8 25) w := by kernel_rfl
theorem rfElemM (h : Value) (w : World) : (Go.method 327 150 (.agg #[h]) "Elem").run Tryz.prog w = .ok (156, .agg #[h]) w := by kernel_rfl
theorem rfImplM (h : Value) (w : World) : (Go.method 327 150 (.agg #[h]) "Implements").run Tryz.prog w = .ok (157, .agg #[h]) w := by kernel_rfl
theorem rfAssM (h : Value) (w : World) : (Go.method 327 150 (.agg #[h]) "AssignableTo").run Tryz.prog w = .ok (154, .agg #[h]) w := by kernel_rfl
theorem rfElP (w : World) : (ReflectliteType.method ReflectliteType.elem #[.agg #[.pointer (some ⟨2, 100, none⟩)]]).run Tryz.prog w = .ok (.iface 150 (.agg #[.pointer (some ⟨2, 98, none⟩)])) w := by kernel_rfl
theorem rfImpl (w : World) : (ReflectliteType.relation "Implements" ReflectliteType.implements_ #[.agg #[.pointer (some ⟨2, 98, none⟩)], .iface 150 (.agg #[.pointer (some ⟨2, 76, none⟩)])]).run Tryz.prog w = .ok (.bool true) w := by kernel_rfl
theorem rfTypeOfPl (v : Value) (w : World) : (ReflectliteType.typeOf #[.iface 98 v]).run Tryz.prog w = .ok (.iface 150 (.agg #[.pointer (some ⟨2, 98, none⟩)])) w := by kernel_rfl
theorem rfTypeOfE (v : Value) (w : World) : (ReflectliteType.typeOf #[.iface 37 v]).run Tryz.prog w = .ok (.iface 150 (.agg #[.pointer (some ⟨2, 37, none⟩)])) w := by kernel_rfl
theorem rfAssPP (w : World) : (ReflectliteType.relation "AssignableTo" ReflectliteType.assignableTo #[.agg #[.pointer (some ⟨2, 98, none⟩)], .iface 150 (.agg #[.pointer (some ⟨2, 98, none⟩)])]).run Tryz.prog w = .ok (.bool true) w := by kernel_rfl
theorem rfAssEP (w : World) : (ReflectliteType.relation "AssignableTo" ReflectliteType.assignableTo #[.agg #[.pointer (some ⟨2, 37, none⟩)], .iface 150 (.agg #[.pointer (some ⟨2, 98, none⟩)])]).run Tryz.prog w = .ok (.bool false) w := by kernel_rfl
theorem rfAssPE (w : World) : (ReflectliteType.relation "AssignableTo" ReflectliteType.assignableTo #[.agg #[.pointer (some ⟨2, 98, none⟩)], .iface 150 (.agg #[.pointer (some ⟨2, 37, none⟩)])]).run Tryz.prog w = .ok (.bool false) w := by kernel_rfl
theorem rfAssEE (w : World) : (ReflectliteType.relation "AssignableTo" ReflectliteType.assignableTo #[.agg #[.pointer (some ⟨2, 37, none⟩)], .iface 150 (.agg #[.pointer (some ⟨2, 37, none⟩)])]).run Tryz.prog w = .ok (.bool true) w := by kernel_rfl
theorem rfUnE (t : Addr) (w : World) : (ReflectliteValue.unpack (.iface 101 (.pointer (some t)))).run Tryz.prog w
    = .ok (.agg #[.pointer (some ⟨2, 101, none⟩), .pointer (some ⟨w.heap.size, 0, none⟩), .int .u64 150]) (w.alloc (.cells #[.pointer (some t)] 101)) := by kernel_rfl
theorem rfTyE (a : Addr) (w : World) : (ReflectliteValue.methodAny (ReflectliteValue.valueError "reflectlite.Value.Type" 0) (fun t _ _ _ => ReflectliteType.toType t) #[.agg #[.pointer (some ⟨2, 101, none⟩), .pointer (some a), .int .u64 150]]).run Tryz.prog w
    = .ok (.iface 150 (.agg #[.pointer (some ⟨2, 101, none⟩)])) w := by kernel_rfl
theorem rfKindE (w : World) : ((ReflectliteType.abiMethod fun t => (fun a : Nat => Value.int IntKind.u8 (a : Int)) <$> Rtype.kind t) #[.pointer (some ⟨2, 101, none⟩)]).run Tryz.prog w = .ok (.int .u8 22) w := by kernel_rfl
theorem rfKindEr (w : World) : ((ReflectliteType.abiMethod fun t => (fun a : Nat => Value.int IntKind.u8 (a : Int)) <$> Rtype.kind t) #[.pointer (some ⟨2, 37, none⟩)]).run Tryz.prog w = .ok (.int .u8 2) w := by kernel_rfl
theorem rfElE (w : World) : (ReflectliteType.method ReflectliteType.elem #[.agg #[.pointer (some ⟨2, 101, none⟩)]]).run Tryz.prog w = .ok (.iface 150 (.agg #[.pointer (some ⟨2, 37, none⟩)])) w := by kernel_rfl
theorem rfImplE (w : World) : (ReflectliteType.relation "Implements" ReflectliteType.implements_ #[.agg #[.pointer (some ⟨2, 37, none⟩)], .iface 150 (.agg #[.pointer (some ⟨2, 76, none⟩)])]).run Tryz.prog w = .ok (.bool true) w := by kernel_rfl
theorem rfUnVP (u v : Value) (w : World) : (ReflectliteValue.unpack (.iface 98 (.agg #[u, v]))).run Tryz.prog w
    = .ok (.agg #[.pointer (some ⟨2, 98, none⟩), .pointer (some ⟨w.heap.size, 0, none⟩), .int .u64 153]) (w.alloc (.cells #[u, v] 98)) := by kernel_rfl
theorem rfUnVE (n : Int) (w : World) : (ReflectliteValue.unpack (.iface 37 (.int .i64 n))).run Tryz.prog w
    = .ok (.agg #[.pointer (some ⟨2, 37, none⟩), .pointer (some ⟨w.heap.size, 0, none⟩), .int .u64 130]) (w.alloc (.cells #[.int .i64 n] 37)) := by kernel_rfl
/-! ### Method sets -/
theorem rfNoAsP (v : Value) (xT : TypeId) (w : World) : (Instr.typeAssert (.iface 98 v) xT 155 true).run Tryz.prog w = .ok (.tuple #[.nilIface, .bool false]) w := run_typeAssert_lacksB Tryz.underlying155 (by kernel_rfl) (by kernel_rfl) v xT w
theorem rfNoAsE (v : Value) (xT : TypeId) (w : World) : (Instr.typeAssert (.iface 37 v) xT 155 true).run Tryz.prog w = .ok (.tuple #[.nilIface, .bool false]) w := run_typeAssert_lacksB Tryz.underlying155 (by kernel_rfl) (by kernel_rfl) v xT w
theorem rfUwP (v : Value) (xT : TypeId) (w : World) : (Instr.typeAssert (.iface 98 v) xT 158 true).run Tryz.prog w = .ok (.tuple #[.iface 98 v, .bool true]) w := run_typeAssert_hasB Tryz.underlying158 (by kernel_rfl) v xT w
theorem rfUwE (v : Value) (xT : TypeId) (w : World) : (Instr.typeAssert (.iface 37 v) xT 158 true).run Tryz.prog w = .ok (.tuple #[.nilIface, .bool false]) w := run_typeAssert_lacksB Tryz.underlying158 (by kernel_rfl) (by kernel_rfl) v xT w
theorem rfUwsE (v : Value) (xT : TypeId) (w : World) : (Instr.typeAssert (.iface 37 v) xT 160 true).run Tryz.prog w = .ok (.tuple #[.nilIface, .bool false]) w := run_typeAssert_lacksB Tryz.underlying160 (by kernel_rfl) (by kernel_rfl) v xT w
theorem rfUwM (v : Value) (w : World) : (Go.method 327 98 v "Unwrap").run Tryz.prog w = .ok (149, v) w := by kernel_rfl

theorem unwrap_any (w : World) (u v : Value) : Calls Tryz.prog 149 #[.agg #[u, v]] w fun e w' => e = .returned v ∧ w' = w.alloc (.cells #[u, v] 98) := by
  go_enter Tryz.func149, Tryz.ntmps149
  go_wp2
  go_ret
  exact ⟨rfl, rfl⟩

end Go.Proofs.YtildkedplmjdaaaGreatDoor
namespace Go.Proofs.YtildkedplmjdaaaGreatDoor
set_option maxRecDepth 100000
set_option linter.unusedVariables false
open Go.RowKit Go.Extern.Stop Go.Stop Go.Extern

theorem rlm (z : Sem Value) (f : TypeId → Addr → Nat → Nat → Sem Value) (v : Value) :
    ReflectliteValue.method z f #[v] = (do match ← ReflectliteValue.parts v with | none => z | some (t, a, fl) => f t a fl (fl % 32)) := rfl
theorem rls (v x : Value) : ReflectliteValue.set #[v, x] = (do
    let (some (dst, a, fl), some (src, b, _)) := (← ReflectliteValue.parts v, ← ReflectliteValue.parts x)
      | unsupported (.noEntry "extern/(internal/reflectlite.Value).Set.zeroValue")
    if fl / ReflectliteValue.flagAddr % 2 == 0 then unsupported (.noEntry "extern/(internal/reflectlite.Value).Set.unaddressable")
    let val ← loadVar src b
    if ← Rtype.directlyAssignable dst src then storeVar dst a val
    else if ← Rtype.implements dst src then
      if (← Rtype.kind src) == 20 then
        match val with
        | .nilIface => unsupported (.noEntry "extern/reflectlite: a nil value of one interface type handed on as a value of another")
        | _ => storeVar dst a val
      else storeVar dst a (.iface src val)
    else panicString ("reflectlite.Set: value of type " ++ (← Rtype.spelt src) ++ " is not assignable to type " ++ (← Rtype.spelt dst))
    pure (.tuple #[])) := rfl
theorem ptP (a : Addr) (w : World) : (ReflectliteValue.parts (.agg #[.pointer (some ⟨2, 100, none⟩), .pointer (some a), .int .u64 150])).run Tryz.prog w = .ok (some (100, a, 150)) w := by kernel_rfl
theorem ptE (a : Addr) (w : World) : (ReflectliteValue.parts (.agg #[.pointer (some ⟨2, 101, none⟩), .pointer (some a), .int .u64 150])).run Tryz.prog w = .ok (some (101, a, 150)) w := by kernel_rfl
theorem ptPd (a : Addr) (w : World) : (ReflectliteValue.parts (.agg #[.pointer (some ⟨2, 98, none⟩), .pointer (some a), .int .u64 409])).run Tryz.prog w = .ok (some (98, a, 409)) w := by kernel_rfl
theorem ptEd (a : Addr) (w : World) : (ReflectliteValue.parts (.agg #[.pointer (some ⟨2, 37, none⟩), .pointer (some a), .int .u64 386])).run Tryz.prog w = .ok (some (37, a, 386)) w := by kernel_rfl
theorem ptPs (a : Addr) (w : World) : (ReflectliteValue.parts (.agg #[.pointer (some ⟨2, 98, none⟩), .pointer (some a), .int .u64 153])).run Tryz.prog w = .ok (some (98, a, 153)) w := by kernel_rfl
theorem ptEs (a : Addr) (w : World) : (ReflectliteValue.parts (.agg #[.pointer (some ⟨2, 37, none⟩), .pointer (some a), .int .u64 130])).run Tryz.prog w = .ok (some (37, a, 130)) w := by kernel_rfl
theorem nilP (a p : Addr) (W : World) (ha : W.cell? a = some (.pointer (some p))) :
    (ReflectliteValue.method (ReflectliteValue.valueError "reflectlite.Value.IsNil" 0) ReflectliteValue.isNil #[.agg #[.pointer (some ⟨2, 100, none⟩), .pointer (some a), .int .u64 150]]).run Tryz.prog W = .ok (.bool false) W := by
  rw [rlm]
  simp only [Sem.run_bind, ptP, Result.andThen]
  simp [ReflectliteValue.isNil, loadVar, isAgg, underlying, Tryz.underlying100, ha, Result.andThen]
theorem nilE (a p : Addr) (W : World) (ha : W.cell? a = some (.pointer (some p))) :
    (ReflectliteValue.method (ReflectliteValue.valueError "reflectlite.Value.IsNil" 0) ReflectliteValue.isNil #[.agg #[.pointer (some ⟨2, 101, none⟩), .pointer (some a), .int .u64 150]]).run Tryz.prog W = .ok (.bool false) W := by
  rw [rlm]
  simp only [Sem.run_bind, ptE, Result.andThen]
  simp [ReflectliteValue.isNil, loadVar, isAgg, underlying, Tryz.underlying101, ha, Result.andThen]
theorem eoP (w : World) : (Rtype.elem? 100).run Tryz.prog w = .ok (some 98) w := by kernel_rfl
theorem eoE (w : World) : (Rtype.elem? 101).run Tryz.prog w = .ok (some 37) w := by kernel_rfl
theorem mkPd (p : Addr) (w : World) : (ReflectliteValue.mk 98 p ReflectliteValue.flagAddr).run Tryz.prog w = .ok (.agg #[.pointer (some ⟨2, 98, none⟩), .pointer (some p), .int .u64 409]) w := by kernel_rfl
theorem mkEd (p : Addr) (w : World) : (ReflectliteValue.mk 37 p ReflectliteValue.flagAddr).run Tryz.prog w = .ok (.agg #[.pointer (some ⟨2, 37, none⟩), .pointer (some p), .int .u64 386]) w := by kernel_rfl
theorem elVP (a p : Addr) (W : World) (ha : W.cell? a = some (.pointer (some p))) :
    (ReflectliteValue.method (ReflectliteValue.valueError "reflectlite.Value.Elem" 0) ReflectliteValue.elem #[.agg #[.pointer (some ⟨2, 100, none⟩), .pointer (some a), .int .u64 150]]).run Tryz.prog W
      = .ok (.agg #[.pointer (some ⟨2, 98, none⟩), .pointer (some p), .int .u64 409]) W := by
  rw [rlm]
  simp only [Sem.run_bind, ptP, Result.andThen]
  simp [ReflectliteValue.elem, loadVar, isAgg, underlying, Tryz.underlying100, ha, Result.andThen, eoP, mkPd]
theorem elVE (a p : Addr) (W : World) (ha : W.cell? a = some (.pointer (some p))) :
    (ReflectliteValue.method (ReflectliteValue.valueError "reflectlite.Value.Elem" 0) ReflectliteValue.elem #[.agg #[.pointer (some ⟨2, 101, none⟩), .pointer (some a), .int .u64 150]]).run Tryz.prog W
      = .ok (.agg #[.pointer (some ⟨2, 37, none⟩), .pointer (some p), .int .u64 386]) W := by
  rw [rlm]
  simp only [Sem.run_bind, ptE, Result.andThen]
  simp [ReflectliteValue.elem, loadVar, isAgg, underlying, Tryz.underlying101, ha, Result.andThen, eoE, mkEd]
theorem daP (w : World) : (Rtype.directlyAssignable 98 98).run Tryz.prog w = .ok true w := by kernel_rfl
theorem daE (w : World) : (Rtype.directlyAssignable 37 37).run Tryz.prog w = .ok true w := by kernel_rfl
theorem agP (w : World) : (isAgg 98).run Tryz.prog w = .ok true w := by kernel_rfl
theorem szP (w : World) : (sizeOf 98).run Tryz.prog w = .ok 2 w := by kernel_rfl
theorem agE (w : World) : (isAgg 37).run Tryz.prog w = .ok false w := by kernel_rfl
theorem setE (q b : Nat) (n : Int) (old : Value) (W : World) (hb : W.cell? ⟨b, 0, none⟩ = some (.int .i64 n)) (ht : W.cell? ⟨q, 0, none⟩ = some old) (hf : W.frozen? ⟨q, 0, none⟩ = false) :
    (ReflectliteValue.set #[.agg #[.pointer (some ⟨2, 37, none⟩), .pointer (some ⟨q, 0, none⟩), .int .u64 386], .agg #[.pointer (some ⟨2, 37, none⟩), .pointer (some ⟨b, 0, none⟩), .int .u64 130]]).run Tryz.prog W
      = .ok (.tuple #[]) (W.setCell ⟨q, 0, none⟩ (.int .i64 n)) := by
  rw [rls]
  simp only [Sem.run_bind, ptEd, ptEs, Result.andThen]
  simp [ReflectliteValue.flagAddr, loadVar, hb, Result.andThen, daE, storeVar, Value.cells, storeCells, Addr.add]
  rw [run_store Tryz.prog W ⟨q, 0, none⟩ _ _ (by rfl)]
  simp [ht, hf]
theorem setP (q b : Nat) (u v x0 x1 : Value) (W : World) (hu : u.oneCell' = true) (hv : v.oneCell' = true) (hb0 : W.cell? ⟨b, 0, none⟩ = some u) (hb1 : W.cell? ⟨b, 1, none⟩ = some v) (hq : IsBlk W q (.cells #[x0, x1] 98)) :
    (ReflectliteValue.set #[.agg #[.pointer (some ⟨2, 98, none⟩), .pointer (some ⟨q, 0, none⟩), .int .u64 409], .agg #[.pointer (some ⟨2, 98, none⟩), .pointer (some ⟨b, 0, none⟩), .int .u64 153]]).run Tryz.prog W
      = .ok (.tuple #[]) ((W.setCell ⟨q, 0, none⟩ u).setCell ⟨q, 1, none⟩ v) := by
  rw [rls]
  simp only [Sem.run_bind, ptPd, ptPs, Result.andThen]
  have h0 := hq.cell 0
  have h1 := (IsBlk.put hq 0 u).cell 1
  have f0 := hq.notFrozen 0
  have f1 := (IsBlk.put hq 0 u).notFrozen 1
  have hl : (loadCells ⟨b, 0, none⟩ 2).run Tryz.prog W = .ok #[u, v] W := run_loadCells_list W ⟨b, 0, none⟩ [u, v] (fun j x hx => by
    rw [Addr.add_mid, Nat.zero_add]
    match j, hx with
    | 0, hx => simp at hx; rw [← hx]; exact hb0
    | 1, hx => simp at hx; rw [← hx]; exact hb1
    | n + 2, hx => simp at hx)
  have hs : (storeCells ⟨q, 0, none⟩ [u, v]).run Tryz.prog W = .ok () ((W.setCell ⟨q, 0, none⟩ u).setCell ⟨q, 1, none⟩ v) := by
    simp only [storeCells, Sem.run_bind, Addr.add_mid, Nat.zero_add]
    rw [run_store Tryz.prog W ⟨q, 0, none⟩ _ _ hu]
    simp only [h0, f0, Result.andThen]
    simp
    rw [run_store Tryz.prog _ ⟨q, 1, none⟩ _ _ hv]
    simp only [h1, f1]
    simp
  simp only [ReflectliteValue.flagAddr, loadVar]
  simp [hl, Result.andThen, daP, storeVar, Value.cells, hs]

end Go.Proofs.YtildkedplmjdaaaGreatDoor
