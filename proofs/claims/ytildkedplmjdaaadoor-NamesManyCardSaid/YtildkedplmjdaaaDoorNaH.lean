/-
  errors.As by its contracts: a fault with a place, a number, at a target for each.
-/
import Derived.Test.YtildkedplmjdaaaDoorNaG
namespace Go.Proofs.YtildkedplmjdaaaDoor
set_option maxRecDepth 100000
set_option linter.unusedVariables false
open Go.RowKit Go.Extern.Stop Go.Stop Go.Extern

theorem IsBlk.alloc' {w : World} {b : Nat} {o : Obj} (h : IsBlk w b o) (o' : Obj) : IsBlk (w.alloc o') b o := h.alloc o'

set_option maxHeartbeats 4000000 in
theorem as_placed_placed (p n : Int) (x0 x1 : Value) (q : Nat) (w : World) (hg : ErrT w) (hq : IsBlk w q (.cells #[x0, x1] 57)) :
    Calls Tryd.prog 13 #[.iface 57 (.agg #[.int .i64 p, .iface 36 (.int .i64 n)]), .iface 59 (.pointer (some ⟨q, 0, none⟩))] w fun e w' => e = .returned (.bool true) ∧ IsBlk w' q (.cells #[.int .i64 p, .iface 36 (.int .i64 n)] 57) ∧ Only [q] w w' := by
  have h6 := @run_callFunc_extern Tryd.prog 23 _ (fun args => ReflectliteValue.unpack (args.getD 0 (.tuple #[]))) Tryd.func23 (by kernel_rfl) (by kernel_rfl) (by kernel_rfl) (by kernel_rfl)
  have h7 := @run_callFunc_extern Tryd.prog 24 _ (ReflectliteValue.methodAny (ReflectliteValue.valueError "reflectlite.Value.Type" 0) (fun t _ _ _ => ReflectliteType.toType t)) Tryd.func24 (by kernel_rfl) (by kernel_rfl) (by kernel_rfl) (by kernel_rfl)
  have h8 := @run_callFunc_extern Tryd.prog 25 _ (ReflectliteValue.method (ReflectliteValue.valueError "reflectlite.Value.IsNil" 0) ReflectliteValue.isNil) Tryd.func25 (by kernel_rfl) (by kernel_rfl) (by kernel_rfl) (by kernel_rfl)
  have h27 := @run_callFunc_extern Tryd.prog 101 _ (ReflectliteType.abiMethod fun t => do pure (.int .u8 (← Rtype.kind t))) Tryd.func101 (by kernel_rfl) (by kernel_rfl) (by kernel_rfl) (by kernel_rfl)
  have h37 := @run_callFunc_extern Tryd.prog 113 _ (ReflectliteType.method ReflectliteType.elem) Tryd.func113 (by kernel_rfl) (by kernel_rfl) (by kernel_rfl) (by kernel_rfl)
  have h38 := @run_callFunc_extern Tryd.prog 114 _ (ReflectliteType.relation "Implements" ReflectliteType.implements_) Tryd.func114 (by kernel_rfl) (by kernel_rfl) (by kernel_rfl) (by kernel_rfl)
  have h10 := @run_callFunc_extern Tryd.prog 43 _ ReflectliteType.typeOf Tryd.func43 (by kernel_rfl) (by kernel_rfl) (by kernel_rfl) (by kernel_rfl)
  have h35 := @run_callFunc_extern Tryd.prog 111 _ (ReflectliteType.relation "AssignableTo" ReflectliteType.assignableTo) Tryd.func111 (by kernel_rfl) (by kernel_rfl) (by kernel_rfl) (by kernel_rfl)
  have h11 := @run_callFunc_extern Tryd.prog 44 _ (ReflectliteValue.method (ReflectliteValue.valueError "reflectlite.Value.Elem" 0) ReflectliteValue.elem) Tryd.func44 (by kernel_rfl) (by kernel_rfl) (by kernel_rfl) (by kernel_rfl)
  have h12 := @run_callFunc_extern Tryd.prog 45 _ ReflectliteValue.set Tryd.func45 (by kernel_rfl) (by kernel_rfl) (by kernel_rfl) (by kernel_rfl)
  have g0 := rfUnP
  have g1 := rfTyP
  have g2 := rfKindM
  have g3 := rfKindP
  have g4 := rfKindPl
  have g5 := rfElemM
  have g6 := rfImplM
  have g7 := rfAssM
  have g8 := rfElP
  have g9 := rfImpl
  have g10 := rfTypeOfPl
  have g11 := rfTypeOfE
  have g12 := rfAssPP
  have g13 := rfAssEP
  have g14 := rfAssPE
  have g15 := rfAssEE
  have g16 := rfUnE
  have g17 := rfTyE
  have g18 := rfKindE
  have g19 := rfKindEr
  have g20 := rfElE
  have g21 := rfImplE
  have g22 := rfUnVP
  have g23 := rfUnVE
  have g24 := rfNoAsP
  have g25 := rfNoAsE
  have g26 := rfUwP
  have g27 := rfUwE
  have g28 := rfUwsE
  have g29 := rfUwM
  have hql := hq.lt
  have hlt := hg.lt
  have n8 := nilP ⟨w.heap.size, 0, none⟩ ⟨q, 0, none⟩ ((w.alloc (.cells #[.pointer (some ⟨q, 0, none⟩)] 59)).alloc (.cells #[.pointer (some ⟨2, 59, none⟩), .pointer (some ⟨w.heap.size, 0, none⟩), .int .u64 150] 74)) (by simp)
  have hg2 : ((w.alloc (.cells #[.pointer (some ⟨q, 0, none⟩)] 59)).alloc (.cells #[.pointer (some ⟨2, 59, none⟩), .pointer (some ⟨w.heap.size, 0, none⟩), .int .u64 150] 74)).cell? ⟨0, 0, none⟩ = some (.iface 108 (.agg #[.pointer (some ⟨2, 52, none⟩)])) := by
    rw [World.cell?_alloc_lt _ _ ⟨0, 0, none⟩ (by simp), World.cell?_alloc_lt _ _ ⟨0, 0, none⟩ hlt]; exact hg
  have hsz : (((w.alloc (.cells #[.pointer (some ⟨q, 0, none⟩)] 59)).alloc (.cells #[.pointer (some ⟨2, 59, none⟩), .pointer (some ⟨w.heap.size, 0, none⟩), .int .u64 150] 74)).alloc (.cells #[.pointer (some ⟨2, 59, none⟩), .pointer (some ⟨w.heap.size, 0, none⟩), .int .u64 150] 74)).heap.size = w.heap.size + 3 := by simp
  have hcv : (((w.alloc (.cells #[.pointer (some ⟨q, 0, none⟩)] 59)).alloc (.cells #[.pointer (some ⟨2, 59, none⟩), .pointer (some ⟨w.heap.size, 0, none⟩), .int .u64 150] 74)).alloc (.cells #[.pointer (some ⟨2, 59, none⟩), .pointer (some ⟨w.heap.size, 0, none⟩), .int .u64 150] 74)).cell? ⟨w.heap.size, 0, none⟩ = some (.pointer (some ⟨q, 0, none⟩)) := by
    have h0 := ((IsBlk.made w (.cells #[.pointer (some ⟨q, 0, none⟩)] 59)).alloc (.cells #[.pointer (some ⟨2, 59, none⟩), .pointer (some ⟨w.heap.size, 0, none⟩), .int .u64 150] 74)).alloc (.cells #[.pointer (some ⟨2, 59, none⟩), .pointer (some ⟨w.heap.size, 0, none⟩), .int .u64 150] 74)
    exact h0.cell 0
  have el := elVP ⟨w.heap.size, 0, none⟩ ⟨q, 0, none⟩ (((w.alloc (.cells #[.pointer (some ⟨q, 0, none⟩)] 59)).alloc (.cells #[.pointer (some ⟨2, 59, none⟩), .pointer (some ⟨w.heap.size, 0, none⟩), .int .u64 150] 74)).alloc (.cells #[.pointer (some ⟨2, 59, none⟩), .pointer (some ⟨w.heap.size, 0, none⟩), .int .u64 150] 74)) hcv
  have hqf : IsBlk ((((w.alloc (.cells #[.pointer (some ⟨q, 0, none⟩)] 59)).alloc (.cells #[.pointer (some ⟨2, 59, none⟩), .pointer (some ⟨w.heap.size, 0, none⟩), .int .u64 150] 74)).alloc (.cells #[.pointer (some ⟨2, 59, none⟩), .pointer (some ⟨w.heap.size, 0, none⟩), .int .u64 150] 74)).alloc (.cells #[.int .i64 p, .iface 36 (.int .i64 n)] 57)) q (.cells #[x0, x1] 57) := (((hq.alloc (.cells #[.pointer (some ⟨q, 0, none⟩)] 59)).alloc (.cells #[.pointer (some ⟨2, 59, none⟩), .pointer (some ⟨w.heap.size, 0, none⟩), .int .u64 150] 74)).alloc (.cells #[.pointer (some ⟨2, 59, none⟩), .pointer (some ⟨w.heap.size, 0, none⟩), .int .u64 150] 74)).alloc (.cells #[.int .i64 p, .iface 36 (.int .i64 n)] 57)
  have hsf := IsBlk.made (((w.alloc (.cells #[.pointer (some ⟨q, 0, none⟩)] 59)).alloc (.cells #[.pointer (some ⟨2, 59, none⟩), .pointer (some ⟨w.heap.size, 0, none⟩), .int .u64 150] 74)).alloc (.cells #[.pointer (some ⟨2, 59, none⟩), .pointer (some ⟨w.heap.size, 0, none⟩), .int .u64 150] 74)) (.cells #[.int .i64 p, .iface 36 (.int .i64 n)] 57)
  rw [hsz] at hsf
  have hsf2 : IsBlk ((((w.alloc (.cells #[.pointer (some ⟨q, 0, none⟩)] 59)).alloc (.cells #[.pointer (some ⟨2, 59, none⟩), .pointer (some ⟨w.heap.size, 0, none⟩), .int .u64 150] 74)).alloc (.cells #[.pointer (some ⟨2, 59, none⟩), .pointer (some ⟨w.heap.size, 0, none⟩), .int .u64 150] 74)).alloc (.cells #[.int .i64 p, .iface 36 (.int .i64 n)] 57)) (w.heap.size + 1 + 1 + 1) (.cells #[.int .i64 p, .iface 36 (.int .i64 n)] 57) := hsf
  have st := setP q (w.heap.size + 1 + 1 + 1) (.int .i64 p) (.iface 36 (.int .i64 n)) x0 x1 ((((w.alloc (.cells #[.pointer (some ⟨q, 0, none⟩)] 59)).alloc (.cells #[.pointer (some ⟨2, 59, none⟩), .pointer (some ⟨w.heap.size, 0, none⟩), .int .u64 150] 74)).alloc (.cells #[.pointer (some ⟨2, 59, none⟩), .pointer (some ⟨w.heap.size, 0, none⟩), .int .u64 150] 74)).alloc (.cells #[.int .i64 p, .iface 36 (.int .i64 n)] 57)) rfl rfl (hsf2.cell 0) (hsf2.cell 1) hqf
  have hO : Only [q] w ((((((w.alloc (.cells #[.pointer (some ⟨q, 0, none⟩)] 59)).alloc (.cells #[.pointer (some ⟨2, 59, none⟩), .pointer (some ⟨w.heap.size, 0, none⟩), .int .u64 150] 74)).alloc (.cells #[.pointer (some ⟨2, 59, none⟩), .pointer (some ⟨w.heap.size, 0, none⟩), .int .u64 150] 74)).alloc (.cells #[.int .i64 p, .iface 36 (.int .i64 n)] 57)).setCell ⟨q, 0, none⟩ (.int .i64 p)).setCell ⟨q, 1, none⟩ (.iface 36 (.int .i64 n))) := ((((((Only.refl [q] w).alloc (.cells #[.pointer (some ⟨q, 0, none⟩)] 59)).alloc (.cells #[.pointer (some ⟨2, 59, none⟩), .pointer (some ⟨w.heap.size, 0, none⟩), .int .u64 150] 74)).alloc (.cells #[.pointer (some ⟨2, 59, none⟩), .pointer (some ⟨w.heap.size, 0, none⟩), .int .u64 150] 74)).alloc (.cells #[.int .i64 p, .iface 36 (.int .i64 n)] 57)).setCell (p := ⟨q, 0, none⟩) (.inl (by simp)) _).setCell (p := ⟨q, 1, none⟩) (.inl (by simp)) _
  have hend := IsBlk.put (IsBlk.put hqf 0 (.int .i64 p)) 1 (.iface 36 (.int .i64 n))
  have Hend := Lib.hid (And.intro hend hO)
  clear hend hO hqf hsf hsf2 hcv hsz
  clear hq hg
  go_enter Tryd.func13, Tryd.ntmps13
  go_wp2
  refine wp_loop_rounds 1 ?_
  rw [rounds_succ]
  go_wp2
  go_ret
  exact ⟨rfl, Hend.out.1, Hend.out.2⟩

set_option maxHeartbeats 4000000 in
theorem as_errno_placed (n : Int) (x0 x1 : Value) (q : Nat) (w : World) (hg : ErrT w) (hq : IsBlk w q (.cells #[x0, x1] 57)) :
    Calls Tryd.prog 13 #[.iface 36 (.int .i64 n), .iface 59 (.pointer (some ⟨q, 0, none⟩))] w fun e w' => e = .returned (.bool false) ∧ Only [] w w' := by
  have h6 := @run_callFunc_extern Tryd.prog 23 _ (fun args => ReflectliteValue.unpack (args.getD 0 (.tuple #[]))) Tryd.func23 (by kernel_rfl) (by kernel_rfl) (by kernel_rfl) (by kernel_rfl)
  have h7 := @run_callFunc_extern Tryd.prog 24 _ (ReflectliteValue.methodAny (ReflectliteValue.valueError "reflectlite.Value.Type" 0) (fun t _ _ _ => ReflectliteType.toType t)) Tryd.func24 (by kernel_rfl) (by kernel_rfl) (by kernel_rfl) (by kernel_rfl)
  have h8 := @run_callFunc_extern Tryd.prog 25 _ (ReflectliteValue.method (ReflectliteValue.valueError "reflectlite.Value.IsNil" 0) ReflectliteValue.isNil) Tryd.func25 (by kernel_rfl) (by kernel_rfl) (by kernel_rfl) (by kernel_rfl)
  have h27 := @run_callFunc_extern Tryd.prog 101 _ (ReflectliteType.abiMethod fun t => do pure (.int .u8 (← Rtype.kind t))) Tryd.func101 (by kernel_rfl) (by kernel_rfl) (by kernel_rfl) (by kernel_rfl)
  have h37 := @run_callFunc_extern Tryd.prog 113 _ (ReflectliteType.method ReflectliteType.elem) Tryd.func113 (by kernel_rfl) (by kernel_rfl) (by kernel_rfl) (by kernel_rfl)
  have h38 := @run_callFunc_extern Tryd.prog 114 _ (ReflectliteType.relation "Implements" ReflectliteType.implements_) Tryd.func114 (by kernel_rfl) (by kernel_rfl) (by kernel_rfl) (by kernel_rfl)
  have h10 := @run_callFunc_extern Tryd.prog 43 _ ReflectliteType.typeOf Tryd.func43 (by kernel_rfl) (by kernel_rfl) (by kernel_rfl) (by kernel_rfl)
  have h35 := @run_callFunc_extern Tryd.prog 111 _ (ReflectliteType.relation "AssignableTo" ReflectliteType.assignableTo) Tryd.func111 (by kernel_rfl) (by kernel_rfl) (by kernel_rfl) (by kernel_rfl)
  have h11 := @run_callFunc_extern Tryd.prog 44 _ (ReflectliteValue.method (ReflectliteValue.valueError "reflectlite.Value.Elem" 0) ReflectliteValue.elem) Tryd.func44 (by kernel_rfl) (by kernel_rfl) (by kernel_rfl) (by kernel_rfl)
  have h12 := @run_callFunc_extern Tryd.prog 45 _ ReflectliteValue.set Tryd.func45 (by kernel_rfl) (by kernel_rfl) (by kernel_rfl) (by kernel_rfl)
  have g0 := rfUnP
  have g1 := rfTyP
  have g2 := rfKindM
  have g3 := rfKindP
  have g4 := rfKindPl
  have g5 := rfElemM
  have g6 := rfImplM
  have g7 := rfAssM
  have g8 := rfElP
  have g9 := rfImpl
  have g10 := rfTypeOfPl
  have g11 := rfTypeOfE
  have g12 := rfAssPP
  have g13 := rfAssEP
  have g14 := rfAssPE
  have g15 := rfAssEE
  have g16 := rfUnE
  have g17 := rfTyE
  have g18 := rfKindE
  have g19 := rfKindEr
  have g20 := rfElE
  have g21 := rfImplE
  have g22 := rfUnVP
  have g23 := rfUnVE
  have g24 := rfNoAsP
  have g25 := rfNoAsE
  have g26 := rfUwP
  have g27 := rfUwE
  have g28 := rfUwsE
  have g29 := rfUwM
  have hql := hq.lt
  have hlt := hg.lt
  have n8 := nilP ⟨w.heap.size, 0, none⟩ ⟨q, 0, none⟩ ((w.alloc (.cells #[.pointer (some ⟨q, 0, none⟩)] 59)).alloc (.cells #[.pointer (some ⟨2, 59, none⟩), .pointer (some ⟨w.heap.size, 0, none⟩), .int .u64 150] 74)) (by simp)
  have hg2 : ((w.alloc (.cells #[.pointer (some ⟨q, 0, none⟩)] 59)).alloc (.cells #[.pointer (some ⟨2, 59, none⟩), .pointer (some ⟨w.heap.size, 0, none⟩), .int .u64 150] 74)).cell? ⟨0, 0, none⟩ = some (.iface 108 (.agg #[.pointer (some ⟨2, 52, none⟩)])) := by
    rw [World.cell?_alloc_lt _ _ ⟨0, 0, none⟩ (by simp), World.cell?_alloc_lt _ _ ⟨0, 0, none⟩ hlt]; exact hg
  have hO := Lib.hid ((((Only.refl [] w).alloc (.cells #[.pointer (some ⟨q, 0, none⟩)] 59)).alloc (.cells #[.pointer (some ⟨2, 59, none⟩), .pointer (some ⟨w.heap.size, 0, none⟩), .int .u64 150] 74)).alloc (.cells #[.pointer (some ⟨2, 59, none⟩), .pointer (some ⟨w.heap.size, 0, none⟩), .int .u64 150] 74))
  clear hq hg
  go_enter Tryd.func13, Tryd.ntmps13
  go_wp2
  refine wp_loop_rounds 1 ?_
  rw [rounds_succ]
  go_wp2
  go_ret
  exact ⟨rfl, hO.out⟩

set_option maxHeartbeats 4000000 in
theorem as_errno_errno (n : Int) (x0 : Value) (q : Nat) (w : World) (hg : ErrT w) (hq : IsBlk w q (.cells #[x0] 36)) :
    Calls Tryd.prog 13 #[.iface 36 (.int .i64 n), .iface 60 (.pointer (some ⟨q, 0, none⟩))] w fun e w' => e = .returned (.bool true) ∧ IsBlk w' q (.cells #[.int .i64 n] 36) ∧ Only [q] w w' := by
  have h6 := @run_callFunc_extern Tryd.prog 23 _ (fun args => ReflectliteValue.unpack (args.getD 0 (.tuple #[]))) Tryd.func23 (by kernel_rfl) (by kernel_rfl) (by kernel_rfl) (by kernel_rfl)
  have h7 := @run_callFunc_extern Tryd.prog 24 _ (ReflectliteValue.methodAny (ReflectliteValue.valueError "reflectlite.Value.Type" 0) (fun t _ _ _ => ReflectliteType.toType t)) Tryd.func24 (by kernel_rfl) (by kernel_rfl) (by kernel_rfl) (by kernel_rfl)
  have h8 := @run_callFunc_extern Tryd.prog 25 _ (ReflectliteValue.method (ReflectliteValue.valueError "reflectlite.Value.IsNil" 0) ReflectliteValue.isNil) Tryd.func25 (by kernel_rfl) (by kernel_rfl) (by kernel_rfl) (by kernel_rfl)
  have h27 := @run_callFunc_extern Tryd.prog 101 _ (ReflectliteType.abiMethod fun t => do pure (.int .u8 (← Rtype.kind t))) Tryd.func101 (by kernel_rfl) (by kernel_rfl) (by kernel_rfl) (by kernel_rfl)
  have h37 := @run_callFunc_extern Tryd.prog 113 _ (ReflectliteType.method ReflectliteType.elem) Tryd.func113 (by kernel_rfl) (by kernel_rfl) (by kernel_rfl) (by kernel_rfl)
  have h38 := @run_callFunc_extern Tryd.prog 114 _ (ReflectliteType.relation "Implements" ReflectliteType.implements_) Tryd.func114 (by kernel_rfl) (by kernel_rfl) (by kernel_rfl) (by kernel_rfl)
  have h10 := @run_callFunc_extern Tryd.prog 43 _ ReflectliteType.typeOf Tryd.func43 (by kernel_rfl) (by kernel_rfl) (by kernel_rfl) (by kernel_rfl)
  have h35 := @run_callFunc_extern Tryd.prog 111 _ (ReflectliteType.relation "AssignableTo" ReflectliteType.assignableTo) Tryd.func111 (by kernel_rfl) (by kernel_rfl) (by kernel_rfl) (by kernel_rfl)
  have h11 := @run_callFunc_extern Tryd.prog 44 _ (ReflectliteValue.method (ReflectliteValue.valueError "reflectlite.Value.Elem" 0) ReflectliteValue.elem) Tryd.func44 (by kernel_rfl) (by kernel_rfl) (by kernel_rfl) (by kernel_rfl)
  have h12 := @run_callFunc_extern Tryd.prog 45 _ ReflectliteValue.set Tryd.func45 (by kernel_rfl) (by kernel_rfl) (by kernel_rfl) (by kernel_rfl)
  have g0 := rfUnP
  have g1 := rfTyP
  have g2 := rfKindM
  have g3 := rfKindP
  have g4 := rfKindPl
  have g5 := rfElemM
  have g6 := rfImplM
  have g7 := rfAssM
  have g8 := rfElP
  have g9 := rfImpl
  have g10 := rfTypeOfPl
  have g11 := rfTypeOfE
  have g12 := rfAssPP
  have g13 := rfAssEP
  have g14 := rfAssPE
  have g15 := rfAssEE
  have g16 := rfUnE
  have g17 := rfTyE
  have g18 := rfKindE
  have g19 := rfKindEr
  have g20 := rfElE
  have g21 := rfImplE
  have g22 := rfUnVP
  have g23 := rfUnVE
  have g24 := rfNoAsP
  have g25 := rfNoAsE
  have g26 := rfUwP
  have g27 := rfUwE
  have g28 := rfUwsE
  have g29 := rfUwM
  have hql := hq.lt
  have hlt := hg.lt
  have n8 := nilE ⟨w.heap.size, 0, none⟩ ⟨q, 0, none⟩ ((w.alloc (.cells #[.pointer (some ⟨q, 0, none⟩)] 60)).alloc (.cells #[.pointer (some ⟨2, 60, none⟩), .pointer (some ⟨w.heap.size, 0, none⟩), .int .u64 150] 74)) (by simp)
  have hg2 : ((w.alloc (.cells #[.pointer (some ⟨q, 0, none⟩)] 60)).alloc (.cells #[.pointer (some ⟨2, 60, none⟩), .pointer (some ⟨w.heap.size, 0, none⟩), .int .u64 150] 74)).cell? ⟨0, 0, none⟩ = some (.iface 108 (.agg #[.pointer (some ⟨2, 52, none⟩)])) := by
    rw [World.cell?_alloc_lt _ _ ⟨0, 0, none⟩ (by simp), World.cell?_alloc_lt _ _ ⟨0, 0, none⟩ hlt]; exact hg
  have hsz : (((w.alloc (.cells #[.pointer (some ⟨q, 0, none⟩)] 60)).alloc (.cells #[.pointer (some ⟨2, 60, none⟩), .pointer (some ⟨w.heap.size, 0, none⟩), .int .u64 150] 74)).alloc (.cells #[.pointer (some ⟨2, 60, none⟩), .pointer (some ⟨w.heap.size, 0, none⟩), .int .u64 150] 74)).heap.size = w.heap.size + 3 := by simp
  have hcv : (((w.alloc (.cells #[.pointer (some ⟨q, 0, none⟩)] 60)).alloc (.cells #[.pointer (some ⟨2, 60, none⟩), .pointer (some ⟨w.heap.size, 0, none⟩), .int .u64 150] 74)).alloc (.cells #[.pointer (some ⟨2, 60, none⟩), .pointer (some ⟨w.heap.size, 0, none⟩), .int .u64 150] 74)).cell? ⟨w.heap.size, 0, none⟩ = some (.pointer (some ⟨q, 0, none⟩)) := by
    have h0 := ((IsBlk.made w (.cells #[.pointer (some ⟨q, 0, none⟩)] 60)).alloc (.cells #[.pointer (some ⟨2, 60, none⟩), .pointer (some ⟨w.heap.size, 0, none⟩), .int .u64 150] 74)).alloc (.cells #[.pointer (some ⟨2, 60, none⟩), .pointer (some ⟨w.heap.size, 0, none⟩), .int .u64 150] 74)
    exact h0.cell 0
  have el := elVE ⟨w.heap.size, 0, none⟩ ⟨q, 0, none⟩ (((w.alloc (.cells #[.pointer (some ⟨q, 0, none⟩)] 60)).alloc (.cells #[.pointer (some ⟨2, 60, none⟩), .pointer (some ⟨w.heap.size, 0, none⟩), .int .u64 150] 74)).alloc (.cells #[.pointer (some ⟨2, 60, none⟩), .pointer (some ⟨w.heap.size, 0, none⟩), .int .u64 150] 74)) hcv
  have hqf : IsBlk ((((w.alloc (.cells #[.pointer (some ⟨q, 0, none⟩)] 60)).alloc (.cells #[.pointer (some ⟨2, 60, none⟩), .pointer (some ⟨w.heap.size, 0, none⟩), .int .u64 150] 74)).alloc (.cells #[.pointer (some ⟨2, 60, none⟩), .pointer (some ⟨w.heap.size, 0, none⟩), .int .u64 150] 74)).alloc (.cells #[.int .i64 n] 36)) q (.cells #[x0] 36) := (((hq.alloc (.cells #[.pointer (some ⟨q, 0, none⟩)] 60)).alloc (.cells #[.pointer (some ⟨2, 60, none⟩), .pointer (some ⟨w.heap.size, 0, none⟩), .int .u64 150] 74)).alloc (.cells #[.pointer (some ⟨2, 60, none⟩), .pointer (some ⟨w.heap.size, 0, none⟩), .int .u64 150] 74)).alloc (.cells #[.int .i64 n] 36)
  have hsf := IsBlk.made (((w.alloc (.cells #[.pointer (some ⟨q, 0, none⟩)] 60)).alloc (.cells #[.pointer (some ⟨2, 60, none⟩), .pointer (some ⟨w.heap.size, 0, none⟩), .int .u64 150] 74)).alloc (.cells #[.pointer (some ⟨2, 60, none⟩), .pointer (some ⟨w.heap.size, 0, none⟩), .int .u64 150] 74)) (.cells #[.int .i64 n] 36)
  rw [hsz] at hsf
  have hsf2 : IsBlk ((((w.alloc (.cells #[.pointer (some ⟨q, 0, none⟩)] 60)).alloc (.cells #[.pointer (some ⟨2, 60, none⟩), .pointer (some ⟨w.heap.size, 0, none⟩), .int .u64 150] 74)).alloc (.cells #[.pointer (some ⟨2, 60, none⟩), .pointer (some ⟨w.heap.size, 0, none⟩), .int .u64 150] 74)).alloc (.cells #[.int .i64 n] 36)) (w.heap.size + 1 + 1 + 1) (.cells #[.int .i64 n] 36) := hsf
  have st := setE q (w.heap.size + 1 + 1 + 1) n x0 ((((w.alloc (.cells #[.pointer (some ⟨q, 0, none⟩)] 60)).alloc (.cells #[.pointer (some ⟨2, 60, none⟩), .pointer (some ⟨w.heap.size, 0, none⟩), .int .u64 150] 74)).alloc (.cells #[.pointer (some ⟨2, 60, none⟩), .pointer (some ⟨w.heap.size, 0, none⟩), .int .u64 150] 74)).alloc (.cells #[.int .i64 n] 36)) (hsf2.cell 0) (hqf.cell 0) (hqf.notFrozen 0)
  have hO : Only [q] w (((((w.alloc (.cells #[.pointer (some ⟨q, 0, none⟩)] 60)).alloc (.cells #[.pointer (some ⟨2, 60, none⟩), .pointer (some ⟨w.heap.size, 0, none⟩), .int .u64 150] 74)).alloc (.cells #[.pointer (some ⟨2, 60, none⟩), .pointer (some ⟨w.heap.size, 0, none⟩), .int .u64 150] 74)).alloc (.cells #[.int .i64 n] 36)).setCell ⟨q, 0, none⟩ (.int .i64 n)) := (((((Only.refl [q] w).alloc (.cells #[.pointer (some ⟨q, 0, none⟩)] 60)).alloc (.cells #[.pointer (some ⟨2, 60, none⟩), .pointer (some ⟨w.heap.size, 0, none⟩), .int .u64 150] 74)).alloc (.cells #[.pointer (some ⟨2, 60, none⟩), .pointer (some ⟨w.heap.size, 0, none⟩), .int .u64 150] 74)).alloc (.cells #[.int .i64 n] 36)).setCell (p := ⟨q, 0, none⟩) (.inl (by simp)) _
  have hend := IsBlk.put hqf 0 (.int .i64 n)
  have Hend := Lib.hid (And.intro hend hO)
  clear hend hO hqf hsf hsf2 hcv hsz
  clear hq hg
  go_enter Tryd.func13, Tryd.ntmps13
  go_wp2
  refine wp_loop_rounds 1 ?_
  rw [rounds_succ]
  go_wp2
  go_ret
  exact ⟨rfl, Hend.out.1, Hend.out.2⟩

set_option maxHeartbeats 4000000 in
theorem as_placed_errno (p n : Int) (x0 : Value) (q : Nat) (w : World) (hg : ErrT w) (hq : IsBlk w q (.cells #[x0] 36)) :
    Calls Tryd.prog 13 #[.iface 57 (.agg #[.int .i64 p, .iface 36 (.int .i64 n)]), .iface 60 (.pointer (some ⟨q, 0, none⟩))] w fun e w' => e = .returned (.bool true) ∧ IsBlk w' q (.cells #[.int .i64 n] 36) ∧ Only [q] w w' := by
  have h6 := @run_callFunc_extern Tryd.prog 23 _ (fun args => ReflectliteValue.unpack (args.getD 0 (.tuple #[]))) Tryd.func23 (by kernel_rfl) (by kernel_rfl) (by kernel_rfl) (by kernel_rfl)
  have h7 := @run_callFunc_extern Tryd.prog 24 _ (ReflectliteValue.methodAny (ReflectliteValue.valueError "reflectlite.Value.Type" 0) (fun t _ _ _ => ReflectliteType.toType t)) Tryd.func24 (by kernel_rfl) (by kernel_rfl) (by kernel_rfl) (by kernel_rfl)
  have h8 := @run_callFunc_extern Tryd.prog 25 _ (ReflectliteValue.method (ReflectliteValue.valueError "reflectlite.Value.IsNil" 0) ReflectliteValue.isNil) Tryd.func25 (by kernel_rfl) (by kernel_rfl) (by kernel_rfl) (by kernel_rfl)
  have h27 := @run_callFunc_extern Tryd.prog 101 _ (ReflectliteType.abiMethod fun t => do pure (.int .u8 (← Rtype.kind t))) Tryd.func101 (by kernel_rfl) (by kernel_rfl) (by kernel_rfl) (by kernel_rfl)
  have h37 := @run_callFunc_extern Tryd.prog 113 _ (ReflectliteType.method ReflectliteType.elem) Tryd.func113 (by kernel_rfl) (by kernel_rfl) (by kernel_rfl) (by kernel_rfl)
  have h38 := @run_callFunc_extern Tryd.prog 114 _ (ReflectliteType.relation "Implements" ReflectliteType.implements_) Tryd.func114 (by kernel_rfl) (by kernel_rfl) (by kernel_rfl) (by kernel_rfl)
  have h10 := @run_callFunc_extern Tryd.prog 43 _ ReflectliteType.typeOf Tryd.func43 (by kernel_rfl) (by kernel_rfl) (by kernel_rfl) (by kernel_rfl)
  have h35 := @run_callFunc_extern Tryd.prog 111 _ (ReflectliteType.relation "AssignableTo" ReflectliteType.assignableTo) Tryd.func111 (by kernel_rfl) (by kernel_rfl) (by kernel_rfl) (by kernel_rfl)
  have h11 := @run_callFunc_extern Tryd.prog 44 _ (ReflectliteValue.method (ReflectliteValue.valueError "reflectlite.Value.Elem" 0) ReflectliteValue.elem) Tryd.func44 (by kernel_rfl) (by kernel_rfl) (by kernel_rfl) (by kernel_rfl)
  have h12 := @run_callFunc_extern Tryd.prog 45 _ ReflectliteValue.set Tryd.func45 (by kernel_rfl) (by kernel_rfl) (by kernel_rfl) (by kernel_rfl)
  have g0 := rfUnP
  have g1 := rfTyP
  have g2 := rfKindM
  have g3 := rfKindP
  have g4 := rfKindPl
  have g5 := rfElemM
  have g6 := rfImplM
  have g7 := rfAssM
  have g8 := rfElP
  have g9 := rfImpl
  have g10 := rfTypeOfPl
  have g11 := rfTypeOfE
  have g12 := rfAssPP
  have g13 := rfAssEP
  have g14 := rfAssPE
  have g15 := rfAssEE
  have g16 := rfUnE
  have g17 := rfTyE
  have g18 := rfKindE
  have g19 := rfKindEr
  have g20 := rfElE
  have g21 := rfImplE
  have g22 := rfUnVP
  have g23 := rfUnVE
  have g24 := rfNoAsP
  have g25 := rfNoAsE
  have g26 := rfUwP
  have g27 := rfUwE
  have g28 := rfUwsE
  have g29 := rfUwM
  have hql := hq.lt
  have hlt := hg.lt
  have n8 := nilE ⟨w.heap.size, 0, none⟩ ⟨q, 0, none⟩ ((w.alloc (.cells #[.pointer (some ⟨q, 0, none⟩)] 60)).alloc (.cells #[.pointer (some ⟨2, 60, none⟩), .pointer (some ⟨w.heap.size, 0, none⟩), .int .u64 150] 74)) (by simp)
  have hg2 : ((w.alloc (.cells #[.pointer (some ⟨q, 0, none⟩)] 60)).alloc (.cells #[.pointer (some ⟨2, 60, none⟩), .pointer (some ⟨w.heap.size, 0, none⟩), .int .u64 150] 74)).cell? ⟨0, 0, none⟩ = some (.iface 108 (.agg #[.pointer (some ⟨2, 52, none⟩)])) := by
    rw [World.cell?_alloc_lt _ _ ⟨0, 0, none⟩ (by simp), World.cell?_alloc_lt _ _ ⟨0, 0, none⟩ hlt]; exact hg
  have hsz : ((((w.alloc (.cells #[.pointer (some ⟨q, 0, none⟩)] 60)).alloc (.cells #[.pointer (some ⟨2, 60, none⟩), .pointer (some ⟨w.heap.size, 0, none⟩), .int .u64 150] 74)).alloc (.cells #[.pointer (some ⟨2, 60, none⟩), .pointer (some ⟨w.heap.size, 0, none⟩), .int .u64 150] 74)).alloc (.cells #[.int .i64 p, .iface 36 (.int .i64 n)] 57)).heap.size = w.heap.size + 4 := by simp
  have hcv : ((((w.alloc (.cells #[.pointer (some ⟨q, 0, none⟩)] 60)).alloc (.cells #[.pointer (some ⟨2, 60, none⟩), .pointer (some ⟨w.heap.size, 0, none⟩), .int .u64 150] 74)).alloc (.cells #[.pointer (some ⟨2, 60, none⟩), .pointer (some ⟨w.heap.size, 0, none⟩), .int .u64 150] 74)).alloc (.cells #[.int .i64 p, .iface 36 (.int .i64 n)] 57)).cell? ⟨w.heap.size, 0, none⟩ = some (.pointer (some ⟨q, 0, none⟩)) := by
    have h0 := ((IsBlk.made w (.cells #[.pointer (some ⟨q, 0, none⟩)] 60)).alloc (.cells #[.pointer (some ⟨2, 60, none⟩), .pointer (some ⟨w.heap.size, 0, none⟩), .int .u64 150] 74)).alloc (.cells #[.pointer (some ⟨2, 60, none⟩), .pointer (some ⟨w.heap.size, 0, none⟩), .int .u64 150] 74)
    have h0 := h0.alloc (.cells #[.int .i64 p, .iface 36 (.int .i64 n)] 57)
    exact h0.cell 0
  have el := elVE ⟨w.heap.size, 0, none⟩ ⟨q, 0, none⟩ ((((w.alloc (.cells #[.pointer (some ⟨q, 0, none⟩)] 60)).alloc (.cells #[.pointer (some ⟨2, 60, none⟩), .pointer (some ⟨w.heap.size, 0, none⟩), .int .u64 150] 74)).alloc (.cells #[.pointer (some ⟨2, 60, none⟩), .pointer (some ⟨w.heap.size, 0, none⟩), .int .u64 150] 74)).alloc (.cells #[.int .i64 p, .iface 36 (.int .i64 n)] 57)) hcv
  have hqf : IsBlk (((((w.alloc (.cells #[.pointer (some ⟨q, 0, none⟩)] 60)).alloc (.cells #[.pointer (some ⟨2, 60, none⟩), .pointer (some ⟨w.heap.size, 0, none⟩), .int .u64 150] 74)).alloc (.cells #[.pointer (some ⟨2, 60, none⟩), .pointer (some ⟨w.heap.size, 0, none⟩), .int .u64 150] 74)).alloc (.cells #[.int .i64 p, .iface 36 (.int .i64 n)] 57)).alloc (.cells #[.int .i64 n] 36)) q (.cells #[x0] 36) := ((((hq.alloc (.cells #[.pointer (some ⟨q, 0, none⟩)] 60)).alloc (.cells #[.pointer (some ⟨2, 60, none⟩), .pointer (some ⟨w.heap.size, 0, none⟩), .int .u64 150] 74)).alloc (.cells #[.pointer (some ⟨2, 60, none⟩), .pointer (some ⟨w.heap.size, 0, none⟩), .int .u64 150] 74)).alloc (.cells #[.int .i64 p, .iface 36 (.int .i64 n)] 57)).alloc (.cells #[.int .i64 n] 36)
  have hsf := IsBlk.made ((((w.alloc (.cells #[.pointer (some ⟨q, 0, none⟩)] 60)).alloc (.cells #[.pointer (some ⟨2, 60, none⟩), .pointer (some ⟨w.heap.size, 0, none⟩), .int .u64 150] 74)).alloc (.cells #[.pointer (some ⟨2, 60, none⟩), .pointer (some ⟨w.heap.size, 0, none⟩), .int .u64 150] 74)).alloc (.cells #[.int .i64 p, .iface 36 (.int .i64 n)] 57)) (.cells #[.int .i64 n] 36)
  rw [hsz] at hsf
  have hsf2 : IsBlk (((((w.alloc (.cells #[.pointer (some ⟨q, 0, none⟩)] 60)).alloc (.cells #[.pointer (some ⟨2, 60, none⟩), .pointer (some ⟨w.heap.size, 0, none⟩), .int .u64 150] 74)).alloc (.cells #[.pointer (some ⟨2, 60, none⟩), .pointer (some ⟨w.heap.size, 0, none⟩), .int .u64 150] 74)).alloc (.cells #[.int .i64 p, .iface 36 (.int .i64 n)] 57)).alloc (.cells #[.int .i64 n] 36)) (w.heap.size + 1 + 1 + 1 + 1) (.cells #[.int .i64 n] 36) := hsf
  have st := setE q (w.heap.size + 1 + 1 + 1 + 1) n x0 (((((w.alloc (.cells #[.pointer (some ⟨q, 0, none⟩)] 60)).alloc (.cells #[.pointer (some ⟨2, 60, none⟩), .pointer (some ⟨w.heap.size, 0, none⟩), .int .u64 150] 74)).alloc (.cells #[.pointer (some ⟨2, 60, none⟩), .pointer (some ⟨w.heap.size, 0, none⟩), .int .u64 150] 74)).alloc (.cells #[.int .i64 p, .iface 36 (.int .i64 n)] 57)).alloc (.cells #[.int .i64 n] 36)) (hsf2.cell 0) (hqf.cell 0) (hqf.notFrozen 0)
  have hO : Only [q] w ((((((w.alloc (.cells #[.pointer (some ⟨q, 0, none⟩)] 60)).alloc (.cells #[.pointer (some ⟨2, 60, none⟩), .pointer (some ⟨w.heap.size, 0, none⟩), .int .u64 150] 74)).alloc (.cells #[.pointer (some ⟨2, 60, none⟩), .pointer (some ⟨w.heap.size, 0, none⟩), .int .u64 150] 74)).alloc (.cells #[.int .i64 p, .iface 36 (.int .i64 n)] 57)).alloc (.cells #[.int .i64 n] 36)).setCell ⟨q, 0, none⟩ (.int .i64 n)) := ((((((Only.refl [q] w).alloc (.cells #[.pointer (some ⟨q, 0, none⟩)] 60)).alloc (.cells #[.pointer (some ⟨2, 60, none⟩), .pointer (some ⟨w.heap.size, 0, none⟩), .int .u64 150] 74)).alloc (.cells #[.pointer (some ⟨2, 60, none⟩), .pointer (some ⟨w.heap.size, 0, none⟩), .int .u64 150] 74)).alloc (.cells #[.int .i64 p, .iface 36 (.int .i64 n)] 57)).alloc (.cells #[.int .i64 n] 36)).setCell (p := ⟨q, 0, none⟩) (.inl (by simp)) _
  have hend := IsBlk.put hqf 0 (.int .i64 n)
  have Hend := Lib.hid (And.intro hend hO)
  clear hend hO hqf hsf hsf2 hcv hsz
  have uw := fun W => unwrap_any W (.int .i64 p) (.iface 36 (.int .i64 n))
  clear hq hg
  go_enter Tryd.func13, Tryd.ntmps13
  go_wp2
  refine wp_loop_rounds 2 ?_
  rw [rounds_succ]
  go_wp2
  rw [rounds_succ]
  go_wp2
  go_ret
  exact ⟨rfl, Hend.out.1, Hend.out.2⟩

end Go.Proofs.YtildkedplmjdaaaDoor
