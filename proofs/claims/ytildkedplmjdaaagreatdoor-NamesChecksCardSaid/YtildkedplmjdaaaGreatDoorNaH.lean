/-
  errors.As by its contracts: a fault with a place, a number, at a target for each.
-/
import Derived.Test.YtildkedplmjdaaaGreatDoorNaG
namespace Go.Proofs.YtildkedplmjdaaaGreatDoor
set_option maxRecDepth 100000
set_option linter.unusedVariables false
open Go.RowKit Go.Extern.Stop Go.Stop Go.Extern

theorem IsBlk.alloc' {w : World} {b : Nat} {o : Obj} (h : IsBlk w b o) (o' : Obj) : IsBlk (w.alloc o') b o := h.alloc o'

set_option maxHeartbeats 4000000 in
theorem as_placed_placed (p n : Int) (x0 x1 : Value) (q : Nat) (w : World) (hg : ErrT w) (hq : IsBlk w q (.cells #[x0, x1] 98)) :
    Calls Tryz.prog 49 #[.iface 98 (.agg #[.int .i64 p, .iface 37 (.int .i64 n)]), .iface 100 (.pointer (some ⟨q, 0, none⟩))] w fun e w' => e = .returned (.bool true) ∧ IsBlk w' q (.cells #[.int .i64 p, .iface 37 (.int .i64 n)] 98) ∧ Only [q] w w' := by
  have h6 := @run_callFunc_extern Tryz.prog 65 _ (fun args => ReflectliteValue.unpack (args.getD 0 (.tuple #[]))) Tryz.func65 (by kernel_rfl) (by kernel_rfl) (by kernel_rfl) (by kernel_rfl)
  have h7 := @run_callFunc_extern Tryz.prog 66 _ (ReflectliteValue.methodAny (ReflectliteValue.valueError "reflectlite.Value.Type" 0) (fun t _ _ _ => ReflectliteType.toType t)) Tryz.func66 (by kernel_rfl) (by kernel_rfl) (by kernel_rfl) (by kernel_rfl)
  have h8 := @run_callFunc_extern Tryz.prog 67 _ (ReflectliteValue.method (ReflectliteValue.valueError "reflectlite.Value.IsNil" 0) ReflectliteValue.isNil) Tryz.func67 (by kernel_rfl) (by kernel_rfl) (by kernel_rfl) (by kernel_rfl)
  have h27 := @run_callFunc_extern Tryz.prog 144 _ (ReflectliteType.abiMethod fun t => do pure (.int .u8 (← Rtype.kind t))) Tryz.func144 (by kernel_rfl) (by kernel_rfl) (by kernel_rfl) (by kernel_rfl)
  have h37 := @run_callFunc_extern Tryz.prog 156 _ (ReflectliteType.method ReflectliteType.elem) Tryz.func156 (by kernel_rfl) (by kernel_rfl) (by kernel_rfl) (by kernel_rfl)
  have h38 := @run_callFunc_extern Tryz.prog 157 _ (ReflectliteType.relation "Implements" ReflectliteType.implements_) Tryz.func157 (by kernel_rfl) (by kernel_rfl) (by kernel_rfl) (by kernel_rfl)
  have h10 := @run_callFunc_extern Tryz.prog 86 _ ReflectliteType.typeOf Tryz.func86 (by kernel_rfl) (by kernel_rfl) (by kernel_rfl) (by kernel_rfl)
  have h35 := @run_callFunc_extern Tryz.prog 154 _ (ReflectliteType.relation "AssignableTo" ReflectliteType.assignableTo) Tryz.func154 (by kernel_rfl) (by kernel_rfl) (by kernel_rfl) (by kernel_rfl)
  have h11 := @run_callFunc_extern Tryz.prog 87 _ (ReflectliteValue.method (ReflectliteValue.valueError "reflectlite.Value.Elem" 0) ReflectliteValue.elem) Tryz.func87 (by kernel_rfl) (by kernel_rfl) (by kernel_rfl) (by kernel_rfl)
  have h12 := @run_callFunc_extern Tryz.prog 88 _ ReflectliteValue.set Tryz.func88 (by kernel_rfl) (by kernel_rfl) (by kernel_rfl) (by kernel_rfl)
  have g0 := rfUnP
  have g1 := rfTyP
  have g2 := rfKindM
  have g3 := rfKindP
  have g4 := rfKindPl
  have g5 := rfElemM
  have g6 := rfImplM
  have g7 := rfAssM
  have g8 := rfElP
  have g9 := rfImpl
  have g10 := rfTypeOfPl
  have g11 := rfTypeOfE
  have g12 := rfAssPP
  have g13 := rfAssEP
  have g14 := rfAssPE
  have g15 := rfAssEE
  have g16 := rfUnE
  have g17 := rfTyE
  have g18 := rfKindE
  have g19 := rfKindEr
  have g20 := rfElE
  have g21 := rfImplE
  have g22 := rfUnVP
  have g23 := rfUnVE
  have g24 := rfNoAsP
  have g25 := rfNoAsE
  have g26 := rfUwP
  have g27 := rfUwE
  have g28 := rfUwsE
  have g29 := rfUwM
  have hql := hq.lt
  have hlt := hg.lt
  have n8 := nilP ⟨w.heap.size, 0, none⟩ ⟨q, 0, none⟩ ((w.alloc (.cells #[.pointer (some ⟨q, 0, none⟩)] 100)).alloc (.cells #[.pointer (some ⟨2, 100, none⟩), .pointer (some ⟨w.heap.size, 0, none⟩), .int .u64 150] 118)) (by simp)
  have hg2 : ((w.alloc (.cells #[.pointer (some ⟨q, 0, none⟩)] 100)).alloc (.cells #[.pointer (some ⟨2, 100, none⟩), .pointer (some ⟨w.heap.size, 0, none⟩), .int .u64 150] 118)).cell? ⟨0, 0, none⟩ = some (.iface 150 (.agg #[.pointer (some ⟨2, 76, none⟩)])) := by
    rw [World.cell?_alloc_lt _ _ ⟨0, 0, none⟩ (by simp), World.cell?_alloc_lt _ _ ⟨0, 0, none⟩ hlt]; exact hg
  have hsz : (((w.alloc (.cells #[.pointer (some ⟨q, 0, none⟩)] 100)).alloc (.cells #[.pointer (some ⟨2, 100, none⟩), .pointer (some ⟨w.heap.size, 0, none⟩), .int .u64 150] 118)).alloc (.cells #[.pointer (some ⟨2, 100, none⟩), .pointer (some ⟨w.heap.size, 0, none⟩), .int .u64 150] 118)).heap.size = w.heap.size + 3 := by simp
  have hcv : (((w.alloc (.cells #[.pointer (some ⟨q, 0, none⟩)] 100)).alloc (.cells #[.pointer (some ⟨2, 100, none⟩), .pointer (some ⟨w.heap.size, 0, none⟩), .int .u64 150] 118)).alloc (.cells #[.pointer (some ⟨2, 100, none⟩), .pointer (some ⟨w.heap.size, 0, none⟩), .int .u64 150] 118)).cell? ⟨w.heap.size, 0, none⟩ = some (.pointer (some ⟨q, 0, none⟩)) := by
    have h0 := ((IsBlk.made w (.cells #[.pointer (some ⟨q, 0, none⟩)] 100)).alloc (.cells #[.pointer (some ⟨2, 100, none⟩), .pointer (some ⟨w.heap.size, 0, none⟩), .int .u64 150] 118)).alloc (.cells #[.pointer (some ⟨2, 100, none⟩), .pointer (some ⟨w.heap.size, 0, none⟩), .int .u64 150] 118)
    exact h0.cell 0
  have el := elVP ⟨w.heap.size, 0, none⟩ ⟨q, 0, none⟩ (((w.alloc (.cells #[.pointer (some ⟨q, 0, none⟩)] 100)).alloc (.cells #[.pointer (some ⟨2, 100, none⟩), .pointer (some ⟨w.heap.size, 0, none⟩), .int .u64 150] 118)).alloc (.cells #[.pointer (some ⟨2, 100, none⟩), .pointer (some ⟨w.heap.size, 0, none⟩), .int .u64 150] 118)) hcv
  have hqf : IsBlk ((((w.alloc (.cells #[.pointer (some ⟨q, 0, none⟩)] 100)).alloc (.cells #[.pointer (some ⟨2, 100, none⟩), .pointer (some ⟨w.heap.size, 0, none⟩), .int .u64 150] 118)).alloc (.cells #[.pointer (some ⟨2, 100, none⟩), .pointer (some ⟨w.heap.size, 0, none⟩), .int .u64 150] 118)).alloc (.cells #[.int .i64 p, .iface 37 (.int .i64 n)] 98)) q (.cells #[x0, x1] 98) := (((hq.alloc (.cells #[.pointer (some ⟨q, 0, none⟩)] 100)).alloc (.cells #[.pointer (some ⟨2, 100, none⟩), .pointer (some ⟨w.heap.size, 0, none⟩), .int .u64 150] 118)).alloc (.cells #[.pointer (some ⟨2, 100, none⟩), .pointer (some ⟨w.heap.size, 0, none⟩), .int .u64 150] 118)).alloc (.cells #[.int .i64 p, .iface 37 (.int .i64 n)] 98)
  have hsf := IsBlk.made (((w.alloc (.cells #[.pointer (some ⟨q, 0, none⟩)] 100)).alloc (.cells #[.pointer (some ⟨2, 100, none⟩), .pointer (some ⟨w.heap.size, 0, none⟩), .int .u64 150] 118)).alloc (.cells #[.pointer (some ⟨2, 100, none⟩), .pointer (some ⟨w.heap.size, 0, none⟩), .int .u64 150] 118)) (.cells #[.int .i64 p, .iface 37 (.int .i64 n)] 98)
  rw [hsz] at hsf
  have hsf2 : IsBlk ((((w.alloc (.cells #[.pointer (some ⟨q, 0, none⟩)] 100)).alloc (.cells #[.pointer (some ⟨2, 100, none⟩), .pointer (some ⟨w.heap.size, 0, none⟩), .int .u64 150] 118)).alloc (.cells #[.pointer (some ⟨2, 100, none⟩), .pointer (some ⟨w.heap.size, 0, none⟩), .int .u64 150] 118)).alloc (.cells #[.int .i64 p, .iface 37 (.int .i64 n)] 98)) (w.heap.size + 1 + 1 + 1) (.cells #[.int .i64 p, .iface 37 (.int .i64 n)] 98) := hsf
  have st := setP q (w.heap.size + 1 + 1 + 1) (.int .i64 p) (.iface 37 (.int .i64 n)) x0 x1 ((((w.alloc (.cells #[.pointer (some ⟨q, 0, none⟩)] 100)).alloc (.cells #[.pointer (some ⟨2, 100, none⟩), .pointer (some ⟨w.heap.size, 0, none⟩), .int .u64 150] 118)).alloc (.cells #[.pointer (some ⟨2, 100, none⟩), .pointer (some ⟨w.heap.size, 0, none⟩), .int .u64 150] 118)).alloc (.cells #[.int .i64 p, .iface 37 (.int .i64 n)] 98)) rfl rfl (hsf2.cell 0) (hsf2.cell 1) hqf
  have hO : Only [q] w ((((((w.alloc (.cells #[.pointer (some ⟨q, 0, none⟩)] 100)).alloc (.cells #[.pointer (some ⟨2, 100, none⟩), .pointer (some ⟨w.heap.size, 0, none⟩), .int .u64 150] 118)).alloc (.cells #[.pointer (some ⟨2, 100, none⟩), .pointer (some ⟨w.heap.size, 0, none⟩), .int .u64 150] 118)).alloc (.cells #[.int .i64 p, .iface 37 (.int .i64 n)] 98)).setCell ⟨q, 0, none⟩ (.int .i64 p)).setCell ⟨q, 1, none⟩ (.iface 37 (.int .i64 n))) := ((((((Only.refl [q] w).alloc (.cells #[.pointer (some ⟨q, 0, none⟩)] 100)).alloc (.cells #[.pointer (some ⟨2, 100, none⟩), .pointer (some ⟨w.heap.size, 0, none⟩), .int .u64 150] 118)).alloc (.cells #[.pointer (some ⟨2, 100, none⟩), .pointer (some ⟨w.heap.size, 0, none⟩), .int .u64 150] 118)).alloc (.cells #[.int .i64 p, .iface 37 (.int .i64 n)] 98)).setCell (p := ⟨q, 0, none⟩) (.inl (by simp)) _).setCell (p := ⟨q, 1, none⟩) (.inl (by simp)) _
  have hend := IsBlk.put (IsBlk.put hqf 0 (.int .i64 p)) 1 (.iface 37 (.int .i64 n))
  have Hend := Lib.hid (And.intro hend hO)
  clear hend hO hqf hsf hsf2 hcv hsz
  clear hq hg
  go_enter Tryz.func49, Tryz.ntmps49
  go_wp2
  refine wp_loop_rounds 1 ?_
  rw [rounds_succ]
  go_wp2
  go_ret
  exact ⟨rfl, Hend.out.1, Hend.out.2⟩

set_option maxHeartbeats 4000000 in
theorem as_errno_placed (n : Int) (x0 x1 : Value) (q : Nat) (w : World) (hg : ErrT w) (hq : IsBlk w q (.cells #[x0, x1] 98)) :
    Calls Tryz.prog 49 #[.iface 37 (.int .i64 n), .iface 100 (.pointer (some ⟨q, 0, none⟩))] w fun e w' => e = .returned (.bool false) ∧ Only [] w w' := by
  have h6 := @run_callFunc_extern Tryz.prog 65 _ (fun args => ReflectliteValue.unpack (args.getD 0 (.tuple #[]))) Tryz.func65 (by kernel_rfl) (by kernel_rfl) (by kernel_rfl) (by kernel_rfl)
  have h7 := @run_callFunc_extern Tryz.prog 66 _ (ReflectliteValue.methodAny (ReflectliteValue.valueError "reflectlite.Value.Type" 0) (fun t _ _ _ => ReflectliteType.toType t)) Tryz.func66 (by kernel_rfl) (by kernel_rfl) (by kernel_rfl) (by kernel_rfl)
  have h8 := @run_callFunc_extern Tryz.prog 67 _ (ReflectliteValue.method (ReflectliteValue.valueError "reflectlite.Value.IsNil" 0) ReflectliteValue.isNil) Tryz.func67 (by kernel_rfl) (by kernel_rfl) (by kernel_rfl) (by kernel_rfl)
  have h27 := @run_callFunc_extern Tryz.prog 144 _ (ReflectliteType.abiMethod fun t => do pure (.int .u8 (← Rtype.kind t))) Tryz.func144 (by kernel_rfl) (by kernel_rfl) (by kernel_rfl) (by kernel_rfl)
  have h37 := @run_callFunc_extern Tryz.prog 156 _ (ReflectliteType.method ReflectliteType.elem) Tryz.func156 (by kernel_rfl) (by kernel_rfl) (by kernel_rfl) (by kernel_rfl)
  have h38 := @run_callFunc_extern Tryz.prog 157 _ (ReflectliteType.relation "Implements" ReflectliteType.implements_) Tryz.func157 (by kernel_rfl) (by kernel_rfl) (by kernel_rfl) (by kernel_rfl)
  have h10 := @run_callFunc_extern Tryz.prog 86 _ ReflectliteType.typeOf Tryz.func86 (by kernel_rfl) (by kernel_rfl) (by kernel_rfl) (by kernel_rfl)
  have h35 := @run_callFunc_extern Tryz.prog 154 _ (ReflectliteType.relation "AssignableTo" ReflectliteType.assignableTo) Tryz.func154 (by kernel_rfl) (by kernel_rfl) (by kernel_rfl) (by kernel_rfl)
  have h11 := @run_callFunc_extern Tryz.prog 87 _ (ReflectliteValue.method (ReflectliteValue.valueError "reflectlite.Value.Elem" 0) ReflectliteValue.elem) Tryz.func87 (by kernel_rfl) (by kernel_rfl) (by kernel_rfl) (by kernel_rfl)
  have h12 := @run_callFunc_extern Tryz.prog 88 _ ReflectliteValue.set Tryz.func88 (by kernel_rfl) (by kernel_rfl) (by kernel_rfl) (by kernel_rfl)
  have g0 := rfUnP
  have g1 := rfTyP
  have g2 := rfKindM
  have g3 := rfKindP
  have g4 := rfKindPl
  have g5 := rfElemM
  have g6 := rfImplM
  have g7 := rfAssM
  have g8 := rfElP
  have g9 := rfImpl
  have g10 := rfTypeOfPl
  have g11 := rfTypeOfE
  have g12 := rfAssPP
  have g13 := rfAssEP
  have g14 := rfAssPE
  have g15 := rfAssEE
  have g16 := rfUnE
  have g17 := rfTyE
  have g18 := rfKindE
  have g19 := rfKindEr
  have g20 := rfElE
  have g21 := rfImplE
  have g22 := rfUnVP
  have g23 := rfUnVE
  have g24 := rfNoAsP
  have g25 := rfNoAsE
  have g26 := rfUwP
  have g27 := rfUwE
  have g28 := rfUwsE
  have g29 := rfUwM
  have hql := hq.lt
  have hlt := hg.lt
  have n8 := nilP ⟨w.heap.size, 0, none⟩ ⟨q, 0, none⟩ ((w.alloc (.cells #[.pointer (some ⟨q, 0, none⟩)] 100)).alloc (.cells #[.pointer (some ⟨2, 100, none⟩), .pointer (some ⟨w.heap.size, 0, none⟩), .int .u64 150] 118)) (by simp)
  have hg2 : ((w.alloc (.cells #[.pointer (some ⟨q, 0, none⟩)] 100)).alloc (.cells #[.pointer (some ⟨2, 100, none⟩), .pointer (some ⟨w.heap.size, 0, none⟩), .int .u64 150] 118)).cell? ⟨0, 0, none⟩ = some (.iface 150 (.agg #[.pointer (some ⟨2, 76, none⟩)])) := by
    rw [World.cell?_alloc_lt _ _ ⟨0, 0, none⟩ (by simp), World.cell?_alloc_lt _ _ ⟨0, 0, none⟩ hlt]; exact hg
  have hO := Lib.hid ((((Only.refl [] w).alloc (.cells #[.pointer (some ⟨q, 0, none⟩)] 100)).alloc (.cells #[.pointer (some ⟨2, 100, none⟩), .pointer (some ⟨w.heap.size, 0, none⟩), .int .u64 150] 118)).alloc (.cells #[.pointer (some ⟨2, 100, none⟩), .pointer (some ⟨w.heap.size, 0, none⟩), .int .u64 150] 118))
  clear hq hg
  go_enter Tryz.func49, Tryz.ntmps49
  go_wp2
  refine wp_loop_rounds 1 ?_
  rw [rounds_succ]
  go_wp2
  go_ret
  exact ⟨rfl, hO.out⟩

set_option maxHeartbeats 4000000 in
theorem as_errno_errno (n : Int) (x0 : Value) (q : Nat) (w : World) (hg : ErrT w) (hq : IsBlk w q (.cells #[x0] 37)) :
    Calls Tryz.prog 49 #[.iface 37 (.int .i64 n), .iface 101 (.pointer (some ⟨q, 0, none⟩))] w fun e w' => e = .returned (.bool true) ∧ IsBlk w' q (.cells #[.int .i64 n] 37) ∧ Only [q] w w' := by
  have h6 := @run_callFunc_extern Tryz.prog 65 _ (fun args => ReflectliteValue.unpack (args.getD 0 (.tuple #[]))) Tryz.func65 (by kernel_rfl) (by kernel_rfl) (by kernel_rfl) (by kernel_rfl)
  have h7 := @run_callFunc_extern Tryz.prog 66 _ (ReflectliteValue.methodAny (ReflectliteValue.valueError "reflectlite.Value.Type" 0) (fun t _ _ _ => ReflectliteType.toType t)) Tryz.func66 (by kernel_rfl) (by kernel_rfl) (by kernel_rfl) (by kernel_rfl)
  have h8 := @run_callFunc_extern Tryz.prog 67 _ (ReflectliteValue.method (ReflectliteValue.valueError "reflectlite.Value.IsNil" 0) ReflectliteValue.isNil) Tryz.func67 (by kernel_rfl) (by kernel_rfl) (by kernel_rfl) (by kernel_rfl)
  have h27 := @run_callFunc_extern Tryz.prog 144 _ (ReflectliteType.abiMethod fun t => do pure (.int .u8 (← Rtype.kind t))) Tryz.func144 (by kernel_rfl) (by kernel_rfl) (by kernel_rfl) (by kernel_rfl)
  have h37 := @run_callFunc_extern Tryz.prog 156 _ (ReflectliteType.method ReflectliteType.elem) Tryz.func156 (by kernel_rfl) (by kernel_rfl) (by kernel_rfl) (by kernel_rfl)
  have h38 := @run_callFunc_extern Tryz.prog 157 _ (ReflectliteType.relation "Implements" ReflectliteType.implements_) Tryz.func157 (by kernel_rfl) (by kernel_rfl) (by kernel_rfl) (by kernel_rfl)
  have h10 := @run_callFunc_extern Tryz.prog 86 _ ReflectliteType.typeOf Tryz.func86 (by kernel_rfl) (by kernel_rfl) (by kernel_rfl) (by kernel_rfl)
  have h35 := @run_callFunc_extern Tryz.prog 154 _ (ReflectliteType.relation "AssignableTo" ReflectliteType.assignableTo) Tryz.func154 (by kernel_rfl) (by kernel_rfl) (by kernel_rfl) (by kernel_rfl)
  have h11 := @run_callFunc_extern Tryz.prog 87 _ (ReflectliteValue.method (ReflectliteValue.valueError "reflectlite.Value.Elem" 0) ReflectliteValue.elem) Tryz.func87 (by kernel_rfl) (by kernel_rfl) (by kernel_rfl) (by kernel_rfl)
  have h12 := @run_callFunc_extern Tryz.prog 88 _ ReflectliteValue.set Tryz.func88 (by kernel_rfl) (by kernel_rfl) (by kernel_rfl) (by kernel_rfl)
  have g0 := rfUnP
  have g1 := rfTyP
  have g2 := rfKindM
  have g3 := rfKindP
  have g4 := rfKindPl
  have g5 := rfElemM
  have g6 := rfImplM
  have g7 := rfAssM
  have g8 := rfElP
  have g9 := rfImpl
  have g10 := rfTypeOfPl
  have g11 := rfTypeOfE
  have g12 := rfAssPP
  have g13 := rfAssEP
  have g14 := rfAssPE
  have g15 := rfAssEE
  have g16 := rfUnE
  have g17 := rfTyE
  have g18 := rfKindE
  have g19 := rfKindEr
  have g20 := rfElE
  have g21 := rfImplE
  have g22 := rfUnVP
  have g23 := rfUnVE
  have g24 := rfNoAsP
  have g25 := rfNoAsE
  have g26 := rfUwP
  have g27 := rfUwE
  have g28 := rfUwsE
  have g29 := rfUwM
  have hql := hq.lt
  have hlt := hg.lt
  have n8 := nilE ⟨w.heap.size, 0, none⟩ ⟨q, 0, none⟩ ((w.alloc (.cells #[.pointer (some ⟨q, 0, none⟩)] 101)).alloc (.cells #[.pointer (some ⟨2, 101, none⟩), .pointer (some ⟨w.heap.size, 0, none⟩), .int .u64 150] 118)) (by simp)
  have hg2 : ((w.alloc (.cells #[.pointer (some ⟨q, 0, none⟩)] 101)).alloc (.cells #[.pointer (some ⟨2, 101, none⟩), .pointer (some ⟨w.heap.size, 0, none⟩), .int .u64 150] 118)).cell? ⟨0, 0, none⟩ = some (.iface 150 (.agg #[.pointer (some ⟨2, 76, none⟩)])) := by
    rw [World.cell?_alloc_lt _ _ ⟨0, 0, none⟩ (by simp), World.cell?_alloc_lt _ _ ⟨0, 0, none⟩ hlt]; exact hg
  have hsz : (((w.alloc (.cells #[.pointer (some ⟨q, 0, none⟩)] 101)).alloc (.cells #[.pointer (some ⟨2, 101, none⟩), .pointer (some ⟨w.heap.size, 0, none⟩), .int .u64 150] 118)).alloc (.cells #[.pointer (some ⟨2, 101, none⟩), .pointer (some ⟨w.heap.size, 0, none⟩), .int .u64 150] 118)).heap.size = w.heap.size + 3 := by simp
  have hcv : (((w.alloc (.cells #[.pointer (some ⟨q, 0, none⟩)] 101)).alloc (.cells #[.pointer (some ⟨2, 101, none⟩), .pointer (some ⟨w.heap.size, 0, none⟩), .int .u64 150] 118)).alloc (.cells #[.pointer (some ⟨2, 101, none⟩), .pointer (some ⟨w.heap.size, 0, none⟩), .int .u64 150] 118)).cell? ⟨w.heap.size, 0, none⟩ = some (.pointer (some ⟨q, 0, none⟩)) := by
    have h0 := ((IsBlk.made w (.cells #[.pointer (some ⟨q, 0, none⟩)] 101)).alloc (.cells #[.pointer (some ⟨2, 101, none⟩), .pointer (some ⟨w.heap.size, 0, none⟩), .int .u64 150] 118)).alloc (.cells #[.pointer (some ⟨2, 101, none⟩), .pointer (some ⟨w.heap.size, 0, none⟩), .int .u64 150] 118)
    exact h0.cell 0
  have el := elVE ⟨w.heap.size, 0, none⟩ ⟨q, 0, none⟩ (((w.alloc (.cells #[.pointer (some ⟨q, 0, none⟩)] 101)).alloc (.cells #[.pointer (some ⟨2, 101, none⟩), .pointer (some ⟨w.heap.size, 0, none⟩), .int .u64 150] 118)).alloc (.cells #[.pointer (some ⟨2, 101, none⟩), .pointer (some ⟨w.heap.size, 0, none⟩), .int .u64 150] 118)) hcv
  have hqf : IsBlk ((((w.alloc (.cells #[.pointer (some ⟨q, 0, none⟩)] 101)).alloc (.cells #[.pointer (some ⟨2, 101, none⟩), .pointer (some ⟨w.heap.size, 0, none⟩), .int .u64 150] 118)).alloc (.cells #[.pointer (some ⟨2, 101, none⟩), .pointer (some ⟨w.heap.size, 0, none⟩), .int .u64 150] 118)).alloc (.cells #[.int .i64 n] 37)) q (.cells #[x0] 37) := (((hq.alloc (.cells #[.pointer (some ⟨q, 0, none⟩)] 101)).alloc (.cells #[.pointer (some ⟨2, 101, none⟩), .pointer (some ⟨w.heap.size, 0, none⟩), .int .u64 150] 118)).alloc (.cells #[.pointer (some ⟨2, 101, none⟩), .pointer (some ⟨w.heap.size, 0, none⟩), .int .u64 150] 118)).alloc (.cells #[.int .i64 n] 37)
  have hsf := IsBlk.made (((w.alloc (.cells #[.pointer (some ⟨q, 0, none⟩)] 101)).alloc (.cells #[.pointer (some ⟨2, 101, none⟩), .pointer (some ⟨w.heap.size, 0, none⟩), .int .u64 150] 118)).alloc (.cells #[.pointer (some ⟨2, 101, none⟩), .pointer (some ⟨w.heap.size, 0, none⟩), .int .u64 150] 118)) (.cells #[.int .i64 n] 37)
  rw [hsz] at hsf
  have hsf2 : IsBlk ((((w.alloc (.cells #[.pointer (some ⟨q, 0, none⟩)] 101)).alloc (.cells #[.pointer (some ⟨2, 101, none⟩), .pointer (some ⟨w.heap.size, 0, none⟩), .int .u64 150] 118)).alloc (.cells #[.pointer (some ⟨2, 101, none⟩), .pointer (some ⟨w.heap.size, 0, none⟩), .int .u64 150] 118)).alloc (.cells #[.int .i64 n] 37)) (w.heap.size + 1 + 1 + 1) (.cells #[.int .i64 n] 37) := hsf
  have st := setE q (w.heap.size + 1 + 1 + 1) n x0 ((((w.alloc (.cells #[.pointer (some ⟨q, 0, none⟩)] 101)).alloc (.cells #[.pointer (some ⟨2, 101, none⟩), .pointer (some ⟨w.heap.size, 0, none⟩), .int .u64 150] 118)).alloc (.cells #[.pointer (some ⟨2, 101, none⟩), .pointer (some ⟨w.heap.size, 0, none⟩), .int .u64 150] 118)).alloc (.cells #[.int .i64 n] 37)) (hsf2.cell 0) (hqf.cell 0) (hqf.notFrozen 0)
  have hO : Only [q] w (((((w.alloc (.cells #[.pointer (some ⟨q, 0, none⟩)] 101)).alloc (.cells #[.pointer (some ⟨2, 101, none⟩), .pointer (some ⟨w.heap.size, 0, none⟩), .int .u64 150] 118)).alloc (.cells #[.pointer (some ⟨2, 101, none⟩), .pointer (some ⟨w.heap.size, 0, none⟩), .int .u64 150] 118)).alloc (.cells #[.int .i64 n] 37)).setCell ⟨q, 0, none⟩ (.int .i64 n)) := (((((Only.refl [q] w).alloc (.cells #[.pointer (some ⟨q, 0, none⟩)] 101)).alloc (.cells #[.pointer (some ⟨2, 101, none⟩), .pointer (some ⟨w.heap.size, 0, none⟩), .int .u64 150] 118)).alloc (.cells #[.pointer (some ⟨2, 101, none⟩), .pointer (some ⟨w.heap.size, 0, none⟩), .int .u64 150] 118)).alloc (.cells #[.int .i64 n] 37)).setCell (p := ⟨q, 0, none⟩) (.inl (by simp)) _
  have hend := IsBlk.put hqf 0 (.int .i64 n)
  have Hend := Lib.hid (And.intro hend hO)
  clear hend hO hqf hsf hsf2 hcv hsz
  clear hq hg
  go_enter Tryz.func49, Tryz.ntmps49
  go_wp2
  refine wp_loop_rounds 1 ?_
  rw [rounds_succ]
  go_wp2
  go_ret
  exact ⟨rfl, Hend.out.1, Hend.out.2⟩

set_option maxHeartbeats 4000000 in
theorem as_placed_errno (p n : Int) (x0 : Value) (q : Nat) (w : World) (hg : ErrT w) (hq : IsBlk w q (.cells #[x0] 37)) :
    Calls Tryz.prog 49 #[.iface 98 (.agg #[.int .i64 p, .iface 37 (.int .i64 n)]), .iface 101 (.pointer (some ⟨q, 0, none⟩))] w fun e w' => e = .returned (.bool true) ∧ IsBlk w' q (.cells #[.int .i64 n] 37) ∧ Only [q] w w' := by
  have h6 := @run_callFunc_extern Tryz.prog 65 _ (fun args => ReflectliteValue.unpack (args.getD 0 (.tuple #[]))) Tryz.func65 (by kernel_rfl) (by kernel_rfl) (by kernel_rfl) (by kernel_rfl)
  have h7 := @run_callFunc_extern Tryz.prog 66 _ (ReflectliteValue.methodAny (ReflectliteValue.valueError "reflectlite.Value.Type" 0) (fun t _ _ _ => ReflectliteType.toType t)) Tryz.func66 (by kernel_rfl) (by kernel_rfl) (by kernel_rfl) (by kernel_rfl)
  have h8 := @run_callFunc_extern Tryz.prog 67 _ (ReflectliteValue.method (ReflectliteValue.valueError "reflectlite.Value.IsNil" 0) ReflectliteValue.isNil) Tryz.func67 (by kernel_rfl) (by kernel_rfl) (by kernel_rfl) (by kernel_rfl)
  have h27 := @run_callFunc_extern Tryz.prog 144 _ (ReflectliteType.abiMethod fun t => do pure (.int .u8 (← Rtype.kind t))) Tryz.func144 (by kernel_rfl) (by kernel_rfl) (by kernel_rfl) (by kernel_rfl)
  have h37 := @run_callFunc_extern Tryz.prog 156 _ (ReflectliteType.method ReflectliteType.elem) Tryz.func156 (by kernel_rfl) (by kernel_rfl) (by kernel_rfl) (by kernel_rfl)
  have h38 := @run_callFunc_extern Tryz.prog 157 _ (ReflectliteType.relation "Implements" ReflectliteType.implements_) Tryz.func157 (by kernel_rfl) (by kernel_rfl) (by kernel_rfl) (by kernel_rfl)
  have h10 := @run_callFunc_extern Tryz.prog 86 _ ReflectliteType.typeOf Tryz.func86 (by kernel_rfl) (by kernel_rfl) (by kernel_rfl) (by kernel_rfl)
  have h35 := @run_callFunc_extern Tryz.prog 154 _ (ReflectliteType.relation "AssignableTo" ReflectliteType.assignableTo) Tryz.func154 (by kernel_rfl) (by kernel_rfl) (by kernel_rfl) (by kernel_rfl)
  have h11 := @run_callFunc_extern Tryz.prog 87 _ (ReflectliteValue.method (ReflectliteValue.valueError "reflectlite.Value.Elem" 0) ReflectliteValue.elem) Tryz.func87 (by kernel_rfl) (by kernel_rfl) (by kernel_rfl) (by kernel_rfl)
  have h12 := @run_callFunc_extern Tryz.prog 88 _ ReflectliteValue.set Tryz.func88 (by kernel_rfl) (by kernel_rfl) (by kernel_rfl) (by kernel_rfl)
  have g0 := rfUnP
  have g1 := rfTyP
  have g2 := rfKindM
  have g3 := rfKindP
  have g4 := rfKindPl
  have g5 := rfElemM
  have g6 := rfImplM
  have g7 := rfAssM
  have g8 := rfElP
  have g9 := rfImpl
  have g10 := rfTypeOfPl
  have g11 := rfTypeOfE
  have g12 := rfAssPP
  have g13 := rfAssEP
  have g14 := rfAssPE
  have g15 := rfAssEE
  have g16 := rfUnE
  have g17 := rfTyE
  have g18 := rfKindE
  have g19 := rfKindEr
  have g20 := rfElE
  have g21 := rfImplE
  have g22 := rfUnVP
  have g23 := rfUnVE
  have g24 := rfNoAsP
  have g25 := rfNoAsE
  have g26 := rfUwP
  have g27 := rfUwE
  have g28 := rfUwsE
  have g29 := rfUwM
  have hql := hq.lt
  have hlt := hg.lt
  have n8 := nilE ⟨w.heap.size, 0, none⟩ ⟨q, 0, none⟩ ((w.alloc (.cells #[.pointer (some ⟨q, 0, none⟩)] 101)).alloc (.cells #[.pointer (some ⟨2, 101, none⟩), .pointer (some ⟨w.heap.size, 0, none⟩), .int .u64 150] 118)) (by simp)
  have hg2 : ((w.alloc (.cells #[.pointer (some ⟨q, 0, none⟩)] 101)).alloc (.cells #[.pointer (some ⟨2, 101, none⟩), .pointer (some ⟨w.heap.size, 0, none⟩), .int .u64 150] 118)).cell? ⟨0, 0, none⟩ = some (.iface 150 (.agg #[.pointer (some ⟨2, 76, none⟩)])) := by
    rw [World.cell?_alloc_lt _ _ ⟨0, 0, none⟩ (by simp), World.cell?_alloc_lt _ _ ⟨0, 0, none⟩ hlt]; exact hg
  have hsz : ((((w.alloc (.cells #[.pointer (some ⟨q, 0, none⟩)] 101)).alloc (.cells #[.pointer (some ⟨2, 101, none⟩), .pointer (some ⟨w.heap.size, 0, none⟩), .int .u64 150] 118)).alloc (.cells #[.pointer (some ⟨2, 101, none⟩), .pointer (some ⟨w.heap.size, 0, none⟩), .int .u64 150] 118)).alloc (.cells #[.int .i64 p, .iface 37 (.int .i64 n)] 98)).heap.size = w.heap.size + 4 := by simp
  have hcv : ((((w.alloc (.cells #[.pointer (some ⟨q, 0, none⟩)] 101)).alloc (.cells #[.pointer (some ⟨2, 101, none⟩), .pointer (some ⟨w.heap.size, 0, none⟩), .int .u64 150] 118)).alloc (.cells #[.pointer (some ⟨2, 101, none⟩), .pointer (some ⟨w.heap.size, 0, none⟩), .int .u64 150] 118)).alloc (.cells #[.int .i64 p, .iface 37 (.int .i64 n)] 98)).cell? ⟨w.heap.size, 0, none⟩ = some (.pointer (some ⟨q, 0, none⟩)) := by
    have h0 := ((IsBlk.made w (.cells #[.pointer (some ⟨q, 0, none⟩)] 101)).alloc (.cells #[.pointer (some ⟨2, 101, none⟩), .pointer (some ⟨w.heap.size, 0, none⟩), .int .u64 150] 118)).alloc (.cells #[.pointer (some ⟨2, 101, none⟩), .pointer (some ⟨w.heap.size, 0, none⟩), .int .u64 150] 118)
    have h0 := h0.alloc (.cells #[.int .i64 p, .iface 37 (.int .i64 n)] 98)
    exact h0.cell 0
  have el := elVE ⟨w.heap.size, 0, none⟩ ⟨q, 0, none⟩ ((((w.alloc (.cells #[.pointer (some ⟨q, 0, none⟩)] 101)).alloc (.cells #[.pointer (some ⟨2, 101, none⟩), .pointer (some ⟨w.heap.size, 0, none⟩), .int .u64 150] 118)).alloc (.cells #[.pointer (some ⟨2, 101, none⟩), .pointer (some ⟨w.heap.size, 0, none⟩), .int .u64 150] 118)).alloc (.cells #[.int .i64 p, .iface 37 (.int .i64 n)] 98)) hcv
  have hqf : IsBlk (((((w.alloc (.cells #[.pointer (some ⟨q, 0, none⟩)] 101)).alloc (.cells #[.pointer (some ⟨2, 101, none⟩), .pointer (some ⟨w.heap.size, 0, none⟩), .int .u64 150] 118)).alloc (.cells #[.pointer (some ⟨2, 101, none⟩), .pointer (some ⟨w.heap.size, 0, none⟩), .int .u64 150] 118)).alloc (.cells #[.int .i64 p, .iface 37 (.int .i64 n)] 98)).alloc (.cells #[.int .i64 n] 37)) q (.cells #[x0] 37) := ((((hq.alloc (.cells #[.pointer (some ⟨q, 0, none⟩)] 101)).alloc (.cells #[.pointer (some ⟨2, 101, none⟩), .pointer (some ⟨w.heap.size, 0, none⟩), .int .u64 150] 118)).alloc (.cells #[.pointer (some ⟨2, 101, none⟩), .pointer (some ⟨w.heap.size, 0, none⟩), .int .u64 150] 118)).alloc (.cells #[.int .i64 p, .iface 37 (.int .i64 n)] 98)).alloc (.cells #[.int .i64 n] 37)
  have hsf := IsBlk.made ((((w.alloc (.cells #[.pointer (some ⟨q, 0, none⟩)] 101)).alloc (.cells #[.pointer (some ⟨2, 101, none⟩), .pointer (some ⟨w.heap.size, 0, none⟩), .int .u64 150] 118)).alloc (.cells #[.pointer (some ⟨2, 101, none⟩), .pointer (some ⟨w.heap.size, 0, none⟩), .int .u64 150] 118)).alloc (.cells #[.int .i64 p, .iface 37 (.int .i64 n)] 98)) (.cells #[.int .i64 n] 37)
  rw [hsz] at hsf
  have hsf2 : IsBlk (((((w.alloc (.cells #[.pointer (some ⟨q, 0, none⟩)] 101)).alloc (.cells #[.pointer (some ⟨2, 101, none⟩), .pointer (some ⟨w.heap.size, 0, none⟩), .int .u64 150] 118)).alloc (.cells #[.pointer (some ⟨2, 101, none⟩), .pointer (some ⟨w.heap.size, 0, none⟩), .int .u64 150] 118)).alloc (.cells #[.int .i64 p, .iface 37 (.int .i64 n)] 98)).alloc (.cells #[.int .i64 n] 37)) (w.heap.size + 1 + 1 + 1 + 1) (.cells #[.int .i64 n] 37) := hsf
  have st := setE q (w.heap.size + 1 + 1 + 1 + 1) n x0 (((((w.alloc (.cells #[.pointer (some ⟨q, 0, none⟩)] 101)).alloc (.cells #[.pointer (some ⟨2, 101, none⟩), .pointer (some ⟨w.heap.size, 0, none⟩), .int .u64 150] 118)).alloc (.cells #[.pointer (some ⟨2, 101, none⟩), .pointer (some ⟨w.heap.size, 0, none⟩), .int .u64 150] 118)).alloc (.cells #[.int .i64 p, .iface 37 (.int .i64 n)] 98)).alloc (.cells #[.int .i64 n] 37)) (hsf2.cell 0) (hqf.cell 0) (hqf.notFrozen 0)
  have hO : Only [q] w ((((((w.alloc (.cells #[.pointer (some ⟨q, 0, none⟩)] 101)).alloc (.cells #[.pointer (some ⟨2, 101, none⟩), .pointer (some ⟨w.heap.size, 0, none⟩), .int .u64 150] 118)).alloc (.cells #[.pointer (some ⟨2, 101, none⟩), .pointer (some ⟨w.heap.size, 0, none⟩), .int .u64 150] 118)).alloc (.cells #[.int .i64 p, .iface 37 (.int .i64 n)] 98)).alloc (.cells #[.int .i64 n] 37)).setCell ⟨q, 0, none⟩ (.int .i64 n)) := ((((((Only.refl [q] w).alloc (.cells #[.pointer (some ⟨q, 0, none⟩)] 101)).alloc (.cells #[.pointer (some ⟨2, 101, none⟩), .pointer (some ⟨w.heap.size, 0, none⟩), .int .u64 150] 118)).alloc (.cells #[.pointer (some ⟨2, 101, none⟩), .pointer (some ⟨w.heap.size, 0, none⟩), .int .u64 150] 118)).alloc (.cells #[.int .i64 p, .iface 37 (.int .i64 n)] 98)).alloc (.cells #[.int .i64 n] 37)).setCell (p := ⟨q, 0, none⟩) (.inl (by simp)) _
  have hend := IsBlk.put hqf 0 (.int .i64 n)
  have Hend := Lib.hid (And.intro hend hO)
  clear hend hO hqf hsf hsf2 hcv hsz
  have uw := fun W => unwrap_any W (.int .i64 p) (.iface 37 (.int .i64 n))
  clear hq hg
  go_enter Tryz.func49, Tryz.ntmps49
  go_wp2
  refine wp_loop_rounds 2 ?_
  rw [rounds_succ]
  go_wp2
  rw [rounds_succ]
  go_wp2
  go_ret
  exact ⟨rfl, Hend.out.1, Hend.out.2⟩

end Go.Proofs.YtildkedplmjdaaaGreatDoor
