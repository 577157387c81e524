/-
  errors.Is by its contracts: a number, a fault with a place, asked for a number; isFault of the package names.
-/
import Derived.Test.YtildkedplmjdaaaDoorNaH
import Derived.Lib.IfaceEq
namespace Go.Proofs.YtildkedplmjdaaaDoor
set_option maxRecDepth 100000
set_option linter.unusedVariables false
open Go.RowKit Go.Extern.Stop Go.Stop Go.Extern

theorem rfComp (w : World) : ((ReflectliteType.method fun t => do Rtype.noPackHeld "Comparable" t; pure (.bool (← typeInfo t).comparable)) #[.agg #[.pointer (some ⟨2, 36, none⟩)]]).run Tryd.prog w = .ok (.bool true) w := by kernel_rfl
theorem rfCompM (v : Value) (w : World) : (Go.method 292 108 v "Comparable").run Tryd.prog w = .ok (112, v) w := by kernel_rfl
theorem rfNoIsE (v : Value) (xT : TypeId) (w : World) : (Instr.typeAssert (.iface 36 v) xT 139 true).run Tryd.prog w = .ok (.tuple #[.nilIface, .bool false]) w := run_typeAssert_lacksB Tryd.underlying139 (by kernel_rfl) (by kernel_rfl) v xT w
theorem rfNoIsP (v : Value) (xT : TypeId) (w : World) : (Instr.typeAssert (.iface 57 v) xT 139 true).run Tryd.prog w = .ok (.tuple #[.nilIface, .bool false]) w := run_typeAssert_lacksB Tryd.underlying139 (by kernel_rfl) (by kernel_rfl) v xT w
theorem rfCmpE : (Tryd.prog.info? 36).map (·.comparable) = some true := by kernel_rfl

set_option maxHeartbeats 4000000 in
theorem is_errno (n m : Int) (w : World) : Calls Tryd.prog 46 #[.iface 36 (.int .i64 n), .iface 36 (.int .i64 m)] w fun e w' => e = .returned (.bool (n == m)) ∧ w' = w := by
  have h8 := @run_callFunc_extern Tryd.prog 43 _ ReflectliteType.typeOf Tryd.func43 (by kernel_rfl) (by kernel_rfl) (by kernel_rfl) (by kernel_rfl)
  have h32 := fun w => @run_callFunc_extern Tryd.prog 112 _ (ReflectliteType.method fun t => do Rtype.noPackHeld "Comparable" t; pure (.bool (← typeInfo t).comparable)) Tryd.func112 (by kernel_rfl) (by kernel_rfl) (by kernel_rfl) (by kernel_rfl) #[.agg #[.pointer (some ⟨2, 36, none⟩)]] w
  simp only [rfComp] at h32
  have g1 := rfTypeOfE
  have g3 := rfCompM
  have g4 := rfNoIsE
  have g5 := rfUwE
  have g6 := rfUwsE
  by_cases hnm : n = m
  · subst hnm
    have heq : ∀ w, (binOp .eql 52 (.iface 36 (.int .i64 n)) (.iface 36 (.int .i64 n))).run Tryd.prog w = .ok (.bool true) w := fun w => by
      rw [Go.Lib.run_eql_iface_int w n n Tryd.underlying52 rfCmpE Tryd.underlying36]; simp
    simp only [beq_self_eq_true]
    go_enter Tryd.func46, Tryd.ntmps46
    go_wp2
    refine wp_loop_rounds 1 ?_
    rw [rounds_succ]
    go_wp2
    go_ret
    exact ⟨rfl, rfl⟩
  · have heq : ∀ w, (binOp .eql 52 (.iface 36 (.int .i64 n)) (.iface 36 (.int .i64 m))).run Tryd.prog w = .ok (.bool false) w := fun w => by
      rw [Go.Lib.run_eql_iface_int w n m Tryd.underlying52 rfCmpE Tryd.underlying36]; simp [hnm]
    have hb : (n == m) = false := by simp [hnm]
    rw [hb]
    clear hb hnm
    go_enter Tryd.func46, Tryd.ntmps46
    go_wp2
    refine wp_loop_rounds 1 ?_
    rw [rounds_succ]
    go_wp2
    go_ret
    exact ⟨rfl, rfl⟩

set_option maxHeartbeats 4000000 in
theorem is_placed (p n m : Int) (w : World) : Calls Tryd.prog 46 #[.iface 57 (.agg #[.int .i64 p, .iface 36 (.int .i64 n)]), .iface 36 (.int .i64 m)] w fun e w' => e = .returned (.bool (n == m)) ∧ Only [] w w' := by
  have h8 := @run_callFunc_extern Tryd.prog 43 _ ReflectliteType.typeOf Tryd.func43 (by kernel_rfl) (by kernel_rfl) (by kernel_rfl) (by kernel_rfl)
  have h32 := fun w => @run_callFunc_extern Tryd.prog 112 _ (ReflectliteType.method fun t => do Rtype.noPackHeld "Comparable" t; pure (.bool (← typeInfo t).comparable)) Tryd.func112 (by kernel_rfl) (by kernel_rfl) (by kernel_rfl) (by kernel_rfl) #[.agg #[.pointer (some ⟨2, 36, none⟩)]] w
  simp only [rfComp] at h32
  have g1 := rfTypeOfE
  have g3 := rfCompM
  have g4 := rfNoIsE
  have g5 := rfUwE
  have g6 := rfUwsE
  have g7 := rfNoIsP
  have g8 := rfUwP
  have g9 := rfUwM
  have hty := fun w => run_eql_iface_types (P := Tryd.prog) 57 36 (.agg #[.int .i64 p, .iface 36 (.int .i64 n)]) (.int .i64 m) Tryd.underlying52 (by decide) w
  have hO := (Only.refl [] w).alloc (.cells #[.int .i64 p, .iface 36 (.int .i64 n)] 57)
  by_cases hnm : n = m
  · subst hnm
    have heq : ∀ w, (binOp .eql 52 (.iface 36 (.int .i64 n)) (.iface 36 (.int .i64 n))).run Tryd.prog w = .ok (.bool true) w := fun w => by
      rw [Go.Lib.run_eql_iface_int w n n Tryd.underlying52 rfCmpE Tryd.underlying36]; simp
    simp only [beq_self_eq_true]
    go_enter Tryd.func46, Tryd.ntmps46
    go_wp2
    refine wp_loop_rounds 2 ?_
    rw [rounds_succ]
    go_wp2
    rw [rounds_succ]
    go_wp2
    go_ret
    exact ⟨rfl, hO⟩
  · have heq : ∀ w, (binOp .eql 52 (.iface 36 (.int .i64 n)) (.iface 36 (.int .i64 m))).run Tryd.prog w = .ok (.bool false) w := fun w => by
      rw [Go.Lib.run_eql_iface_int w n m Tryd.underlying52 rfCmpE Tryd.underlying36]; simp [hnm]
    have hb : (n == m) = false := by simp [hnm]
    rw [hb]
    clear hb hnm
    go_enter Tryd.func46, Tryd.ntmps46
    go_wp2
    refine wp_loop_rounds 2 ?_
    rw [rounds_succ]
    go_wp2
    rw [rounds_succ]
    go_wp2
    go_ret
    exact ⟨rfl, hO⟩

end Go.Proofs.YtildkedplmjdaaaDoor
