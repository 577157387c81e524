/-
  isFault, caught of the package names: a fault that was thrown is what is answered.
-/
import Derived.Test.YtildkedplmjdaaaDoorNaI
import Derived.Defers
import Derived.Recover
import Derived.Stop.IfaceNil
namespace Go.Proofs.YtildkedplmjdaaaDoor
set_option maxRecDepth 100000
set_option linter.unusedVariables false
open Go.RowKit Go.Sort Go.Stop

/-- A fault, as a value: its number alone, or with a place. -/
def faultV (x : Nat × Nat) : Value := if x.2 = 9 ∨ x.2 = 10 then .iface 57 (placedV x) else .iface 36 (.int .i64 x.2)
def FaultOk (x : Nat × Nat) : Prop := x.2 = 9 ∨ x.2 = 10 ∨ x.1 = 0 ∧ (x.2 = 2 ∨ x.2 = 11)

theorem is_fault (x : Nat × Nat) (m : Int) (w : World) : Calls Tryd.prog 46 #[faultV x, .iface 36 (.int .i64 m)] w fun e w' => e = .returned (.bool ((x.2 : Int) == m)) ∧ Only [] w w' := by
  unfold faultV
  split
  · exact is_placed x.1 x.2 m w
  · exact (is_errno x.2 m w).mono fun e w' h => ⟨h.1, by rw [h.2]; exact Only.refl _ _⟩

set_option maxHeartbeats 4000000 in
theorem isFault_any (x : Nat × Nat) (hx : FaultOk x) (w : World) : Calls Tryd.prog 28 #[faultV x] w fun e w' => e = .returned (.bool true) ∧ Only [] w w' := by
  have his := is_fault x
  have hn : x.2 = 2 ∨ x.2 = 9 ∨ x.2 = 10 ∨ x.2 = 11 := by unfold FaultOk at hx; omega
  obtain ⟨p, n⟩ := x
  simp only at hn his
  clear hx
  generalize hv : faultV (p, n) = v at *
  clear hv
  rcases hn with rfl | rfl | rfl | rfl
  · go_enter Tryd.func28, Tryd.ntmps28
    go_wp2_with fail
    refine (his 2 _).mono ?_
    rintro e w1 ⟨rfl, hO1⟩
    go_wp2
    go_ret
    exact ⟨rfl, hO1⟩
  · go_enter Tryd.func28, Tryd.ntmps28
    go_wp2_with fail
    refine (his 2 _).mono ?_
    rintro e w1 ⟨rfl, hO1⟩
    go_wp2_with fail
    refine (his 9 _).mono ?_
    rintro e w2 ⟨rfl, hO2⟩
    go_wp2
    go_ret
    exact ⟨rfl, hO1.plus hO2⟩
  · go_enter Tryd.func28, Tryd.ntmps28
    go_wp2_with fail
    refine (his 2 _).mono ?_
    rintro e w1 ⟨rfl, hO1⟩
    go_wp2_with fail
    refine (his 9 _).mono ?_
    rintro e w2 ⟨rfl, hO2⟩
    go_wp2_with fail
    refine (his 10 _).mono ?_
    rintro e w3 ⟨rfl, hO3⟩
    go_wp2
    go_ret
    exact ⟨rfl, (hO1.plus hO2).plus hO3⟩
  · go_enter Tryd.func28, Tryd.ntmps28
    go_wp2_with fail
    refine (his 2 _).mono ?_
    rintro e w1 ⟨rfl, hO1⟩
    go_wp2_with fail
    refine (his 9 _).mono ?_
    rintro e w2 ⟨rfl, hO2⟩
    go_wp2_with fail
    refine (his 10 _).mono ?_
    rintro e w3 ⟨rfl, hO3⟩
    go_wp2_with fail
    refine (his 11 _).mono ?_
    rintro e w4 ⟨rfl, hO4⟩
    go_wp2
    go_ret
    exact ⟨rfl, ((hO1.plus hO2).plus hO3).plus hO4⟩

theorem fault_error (x : Nat × Nat) (xT : TypeId) (w : World) : (Instr.typeAssert (faultV x) xT 52 true).run Tryd.prog w = .ok (.tuple #[faultV x, .bool true]) w := by
  unfold faultV
  split
  · exact run_typeAssert_hasB Tryd.underlying52 (by kernel_rfl) _ xT w
  · exact run_typeAssert_hasB Tryd.underlying52 (by kernel_rfl) _ xT w
theorem fault_some (x : Nat × Nat) (w : World) : (binOp .eql 20 (faultV x) .nilIface).run Tryd.prog w = .ok (.bool false) w := by
  unfold faultV
  split
  · exact run_eql_iface_nil w _ (by kernel_rfl) _ _
  · exact run_eql_iface_nil w _ (by kernel_rfl) _ _

set_option maxHeartbeats 4000000 in
theorem caught_fault (q : Nat) (x : Nat × Nat) (hx : FaultOk x) (y : Value) (w : World) (hq : IsBlk w q (.cells #[y] 52)) :
    CallsD Tryd.prog 27 #[.pointer (some ⟨q, 0, none⟩)] (.panicking [{ v := faultV x, recovered := false }]) w fun e u' w' =>
      e = .returned (.tuple #[]) ∧ u' = .panicking [{ v := faultV x, recovered := true }] ∧ IsBlk w' q (.cells #[faultV x] 52) ∧ Only [q] w w' := by
  have h1 := fault_error x
  have h2 := fault_some x
  have h3 := isFault_any x hx
  obtain ⟨T, z, hv⟩ : ∃ T z, faultV x = .iface T z := by unfold faultV; split <;> exact ⟨_, _, rfl⟩
  rw [hv] at h1 h2 h3 ⊢
  clear hv
  refine callsD_of_wpS Tryd.func27 rfl fun c₀ cs hu => ?_
  apply wpS_seq
  apply wpS_region
  simp [wpOpsS, go_sem, recoverD, hu, Tryd.ntmps27, Exit.thenS]
  apply wpS_of_wp
  have hT : (#[Value.pointer (some ⟨q, 0, none⟩)] ++ ((Array.replicate 18 undef).setIfInBounds 3 (.iface T z)).setIfInBounds 0 (.iface T z) : Array Value) = #[Value.pointer (some ⟨q, 0, none⟩), .iface T z, undef, undef, .iface T z, undef, undef, undef, undef, undef, undef, undef, undef, undef, undef, undef, undef, undef, undef] := by kernel_rfl
  rw [hT]
  clear hT
  have c0 := hq.cell 0
  have f0 := hq.notFrozen 0
  have Hq := Lib.hid hq
  clear hq
  go_wp2_with fail
  refine (h3 _).mono ?_
  rintro e w1 ⟨rfl, hO1⟩
  have hq1 := Hq.out.only hO1 (by simp)
  clear c0 f0
  have c0 := hq1.cell 0
  have f0 := hq1.notFrozen 0
  have Hq1 := Lib.hid hq1
  have HO1 := Lib.hid hO1
  clear hq1 hO1
  go_wp2
  refine ⟨rfl, _, rfl, .tuple #[], by simp [results, Tryd.results27], rfl, rfl, IsBlk.put Hq1.out 0 _, (HO1.out.into (by simp)).setCell (p := ⟨q, 0, none⟩) (.inl (by simp)) _⟩

theorem caught_idle (q : Nat) (w : World) :
    CallsD Tryd.prog 27 #[.pointer (some ⟨q, 0, none⟩)] .returning w fun e u' w' => e = .returned (.tuple #[]) ∧ u' = .returning ∧ w' = w := by
  refine callsD_of_wpS Tryd.func27 rfl fun c₀ cs hu => ?_
  apply wpS_seq
  apply wpS_region
  simp [wpOpsS, go_sem, recoverD, hu, Tryd.ntmps27, Exit.thenS]
  apply wpS_of_wp
  have hT : (#[Value.pointer (some ⟨q, 0, none⟩)] ++ ((Array.replicate 18 undef).setIfInBounds 3 Value.nilIface).setIfInBounds 0 Value.nilIface : Array Value) = #[Value.pointer (some ⟨q, 0, none⟩), .nilIface, undef, undef, .nilIface, undef, undef, undef, undef, undef, undef, undef, undef, undef, undef, undef, undef, undef, undef] := by kernel_rfl
  rw [hT]
  clear hT
  go_wp2
  exact ⟨rfl, .returning, by cases c₀; simp_all, .tuple #[], by simp [results, Tryd.results27], rfl, rfl, rfl⟩

end Go.Proofs.YtildkedplmjdaaaDoor
