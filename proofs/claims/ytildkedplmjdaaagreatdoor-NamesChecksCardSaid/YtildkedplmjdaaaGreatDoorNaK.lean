/-
  What a program's faults come to: the look itself, caught, told.
-/
import Derived.Test.YtildkedplmjdaaaGreatDoorNaH
import Derived.Lib.IfaceEq
import Derived.Defers
import Derived.Recover
import Derived.Stop.IfaceNil
import Derived.Test.YtildkedplmjdaaaGreatDoorNaE
namespace Go.Proofs.YtildkedplmjdaaaGreatDoor
set_option maxRecDepth 100000
set_option linter.unusedVariables false
open Go.RowKit Go.Extern.Stop Go.Stop Go.Extern

theorem rfComp (w : World) : ((ReflectliteType.method fun t => do Rtype.noPackHeld "Comparable" t; pure (.bool (← typeInfo t).comparable)) #[.agg #[.pointer (some ⟨2, 37, none⟩)]]).run Tryz.prog w = .ok (.bool true) w := by kernel_rfl
theorem rfCompM (v : Value) (w : World) : (Go.method 327 150 v "Comparable").run Tryz.prog w = .ok (155, v) w := by kernel_rfl
theorem rfNoIsE (v : Value) (xT : TypeId) (w : World) : (Instr.typeAssert (.iface 37 v) xT 177 true).run Tryz.prog w = .ok (.tuple #[.nilIface, .bool false]) w := run_typeAssert_lacksB Tryz.underlying177 (by kernel_rfl) (by kernel_rfl) v xT w
theorem rfNoIsP (v : Value) (xT : TypeId) (w : World) : (Instr.typeAssert (.iface 98 v) xT 177 true).run Tryz.prog w = .ok (.tuple #[.nilIface, .bool false]) w := run_typeAssert_lacksB Tryz.underlying177 (by kernel_rfl) (by kernel_rfl) v xT w
theorem rfCmpE : (Tryz.prog.info? 37).map (·.comparable) = some true := by kernel_rfl

set_option maxHeartbeats 4000000 in
theorem is_errno (n m : Int) (w : World) : Calls Tryz.prog 89 #[.iface 37 (.int .i64 n), .iface 37 (.int .i64 m)] w fun e w' => e = .returned (.bool (n == m)) ∧ w' = w := by
  have h8 := @run_callFunc_extern Tryz.prog 86 _ ReflectliteType.typeOf Tryz.func86 (by kernel_rfl) (by kernel_rfl) (by kernel_rfl) (by kernel_rfl)
  have h32 := fun w => @run_callFunc_extern Tryz.prog 155 _ (ReflectliteType.method fun t => do Rtype.noPackHeld "Comparable" t; pure (.bool (← typeInfo t).comparable)) Tryz.func155 (by kernel_rfl) (by kernel_rfl) (by kernel_rfl) (by kernel_rfl) #[.agg #[.pointer (some ⟨2, 37, none⟩)]] w
  simp only [rfComp] at h32
  have g1 := rfTypeOfE
  have g3 := rfCompM
  have g4 := rfNoIsE
  have g5 := rfUwE
  have g6 := rfUwsE
  by_cases hnm : n = m
  · subst hnm
    have heq : ∀ w, (binOp .eql 76 (.iface 37 (.int .i64 n)) (.iface 37 (.int .i64 n))).run Tryz.prog w = .ok (.bool true) w := fun w => by
      rw [Go.Lib.run_eql_iface_int w n n Tryz.underlying76 rfCmpE Tryz.underlying37]; simp
    simp only [beq_self_eq_true]
    go_enter Tryz.func89, Tryz.ntmps89
    go_wp2
    refine wp_loop_rounds 1 ?_
    rw [rounds_succ]
    go_wp2
    go_ret
    exact ⟨rfl, rfl⟩
  · have heq : ∀ w, (binOp .eql 76 (.iface 37 (.int .i64 n)) (.iface 37 (.int .i64 m))).run Tryz.prog w = .ok (.bool false) w := fun w => by
      rw [Go.Lib.run_eql_iface_int w n m Tryz.underlying76 rfCmpE Tryz.underlying37]; simp [hnm]
    have hb : (n == m) = false := by simp [hnm]
    rw [hb]
    clear hb hnm
    go_enter Tryz.func89, Tryz.ntmps89
    go_wp2
    refine wp_loop_rounds 1 ?_
    rw [rounds_succ]
    go_wp2
    go_ret
    exact ⟨rfl, rfl⟩

set_option maxHeartbeats 4000000 in
theorem is_placed (p n m : Int) (w : World) : Calls Tryz.prog 89 #[.iface 98 (.agg #[.int .i64 p, .iface 37 (.int .i64 n)]), .iface 37 (.int .i64 m)] w fun e w' => e = .returned (.bool (n == m)) ∧ Only [] w w' := by
  have h8 := @run_callFunc_extern Tryz.prog 86 _ ReflectliteType.typeOf Tryz.func86 (by kernel_rfl) (by kernel_rfl) (by kernel_rfl) (by kernel_rfl)
  have h32 := fun w => @run_callFunc_extern Tryz.prog 155 _ (ReflectliteType.method fun t => do Rtype.noPackHeld "Comparable" t; pure (.bool (← typeInfo t).comparable)) Tryz.func155 (by kernel_rfl) (by kernel_rfl) (by kernel_rfl) (by kernel_rfl) #[.agg #[.pointer (some ⟨2, 37, none⟩)]] w
  simp only [rfComp] at h32
  have g1 := rfTypeOfE
  have g3 := rfCompM
  have g4 := rfNoIsE
  have g5 := rfUwE
  have g6 := rfUwsE
  have g7 := rfNoIsP
  have g8 := rfUwP
  have g9 := rfUwM
  have hty := fun w => run_eql_iface_types (P := Tryz.prog) 98 37 (.agg #[.int .i64 p, .iface 37 (.int .i64 n)]) (.int .i64 m) Tryz.underlying76 (by decide) w
  have hO := (Only.refl [] w).alloc (.cells #[.int .i64 p, .iface 37 (.int .i64 n)] 98)
  by_cases hnm : n = m
  · subst hnm
    have heq : ∀ w, (binOp .eql 76 (.iface 37 (.int .i64 n)) (.iface 37 (.int .i64 n))).run Tryz.prog w = .ok (.bool true) w := fun w => by
      rw [Go.Lib.run_eql_iface_int w n n Tryz.underlying76 rfCmpE Tryz.underlying37]; simp
    simp only [beq_self_eq_true]
    go_enter Tryz.func89, Tryz.ntmps89
    go_wp2
    refine wp_loop_rounds 2 ?_
    rw [rounds_succ]
    go_wp2
    rw [rounds_succ]
    go_wp2
    go_ret
    exact ⟨rfl, hO⟩
  · have heq : ∀ w, (binOp .eql 76 (.iface 37 (.int .i64 n)) (.iface 37 (.int .i64 m))).run Tryz.prog w = .ok (.bool false) w := fun w => by
      rw [Go.Lib.run_eql_iface_int w n m Tryz.underlying76 rfCmpE Tryz.underlying37]; simp [hnm]
    have hb : (n == m) = false := by simp [hnm]
    rw [hb]
    clear hb hnm
    go_enter Tryz.func89, Tryz.ntmps89
    go_wp2
    refine wp_loop_rounds 2 ?_
    rw [rounds_succ]
    go_wp2
    rw [rounds_succ]
    go_wp2
    go_ret
    exact ⟨rfl, hO⟩

end Go.Proofs.YtildkedplmjdaaaGreatDoor
namespace Go.Proofs.YtildkedplmjdaaaGreatDoor
set_option maxRecDepth 100000
set_option linter.unusedVariables false
open Go.RowKit Go.Sort Go.Stop

/-- A fault, as a value: its number alone, or with a place. -/
def faultV (x : Nat × Nat) : Value := if x.2 = 9 ∨ x.2 = 10 then .iface 98 (placedV x) else .iface 37 (.int .i64 x.2)
def FaultOk (x : Nat × Nat) : Prop := x.2 = 9 ∨ x.2 = 10 ∨ x.1 = 0 ∧ (x.2 = 2 ∨ x.2 = 11)

theorem is_fault (x : Nat × Nat) (m : Int) (w : World) : Calls Tryz.prog 89 #[faultV x, .iface 37 (.int .i64 m)] w fun e w' => e = .returned (.bool ((x.2 : Int) == m)) ∧ Only [] w w' := by
  unfold faultV
  split
  · exact is_placed x.1 x.2 m w
  · exact (is_errno x.2 m w).mono fun e w' h => ⟨h.1, by rw [h.2]; exact Only.refl _ _⟩

set_option maxHeartbeats 4000000 in
theorem isFault_any (x : Nat × Nat) (hx : FaultOk x) (w : World) : Calls Tryz.prog 70 #[faultV x] w fun e w' => e = .returned (.bool true) ∧ Only [] w w' := by
  have his := is_fault x
  have hn : x.2 = 2 ∨ x.2 = 9 ∨ x.2 = 10 ∨ x.2 = 11 := by unfold FaultOk at hx; omega
  obtain ⟨p, n⟩ := x
  simp only at hn his
  clear hx
  generalize hv : faultV (p, n) = v at *
  clear hv
  rcases hn with rfl | rfl | rfl | rfl
  · go_enter Tryz.func70, Tryz.ntmps70
    go_wp2_with fail
    refine (his 2 _).mono ?_
    rintro e w1 ⟨rfl, hO1⟩
    go_wp2
    go_ret
    exact ⟨rfl, hO1⟩
  · go_enter Tryz.func70, Tryz.ntmps70
    go_wp2_with fail
    refine (his 2 _).mono ?_
    rintro e w1 ⟨rfl, hO1⟩
    go_wp2_with fail
    refine (his 9 _).mono ?_
    rintro e w2 ⟨rfl, hO2⟩
    go_wp2
    go_ret
    exact ⟨rfl, hO1.plus hO2⟩
  · go_enter Tryz.func70, Tryz.ntmps70
    go_wp2_with fail
    refine (his 2 _).mono ?_
    rintro e w1 ⟨rfl, hO1⟩
    go_wp2_with fail
    refine (his 9 _).mono ?_
    rintro e w2 ⟨rfl, hO2⟩
    go_wp2_with fail
    refine (his 10 _).mono ?_
    rintro e w3 ⟨rfl, hO3⟩
    go_wp2
    go_ret
    exact ⟨rfl, (hO1.plus hO2).plus hO3⟩
  · go_enter Tryz.func70, Tryz.ntmps70
    go_wp2_with fail
    refine (his 2 _).mono ?_
    rintro e w1 ⟨rfl, hO1⟩
    go_wp2_with fail
    refine (his 9 _).mono ?_
    rintro e w2 ⟨rfl, hO2⟩
    go_wp2_with fail
    refine (his 10 _).mono ?_
    rintro e w3 ⟨rfl, hO3⟩
    go_wp2_with fail
    refine (his 11 _).mono ?_
    rintro e w4 ⟨rfl, hO4⟩
    go_wp2
    go_ret
    exact ⟨rfl, ((hO1.plus hO2).plus hO3).plus hO4⟩

theorem fault_error (x : Nat × Nat) (xT : TypeId) (w : World) : (Instr.typeAssert (faultV x) xT 76 true).run Tryz.prog w = .ok (.tuple #[faultV x, .bool true]) w := by
  unfold faultV
  split
  · exact run_typeAssert_hasB Tryz.underlying76 (by kernel_rfl) _ xT w
  · exact run_typeAssert_hasB Tryz.underlying76 (by kernel_rfl) _ xT w
theorem fault_some (x : Nat × Nat) (w : World) : (binOp .eql 20 (faultV x) .nilIface).run Tryz.prog w = .ok (.bool false) w := by
  unfold faultV
  split
  · exact run_eql_iface_nil w _ (by kernel_rfl) _ _
  · exact run_eql_iface_nil w _ (by kernel_rfl) _ _

set_option maxHeartbeats 4000000 in
theorem caught_fault (q : Nat) (x : Nat × Nat) (hx : FaultOk x) (y : Value) (w : World) (hq : IsBlk w q (.cells #[y] 76)) :
    CallsD Tryz.prog 69 #[.pointer (some ⟨q, 0, none⟩)] (.panicking [{ v := faultV x, recovered := false }]) w fun e u' w' =>
      e = .returned (.tuple #[]) ∧ u' = .panicking [{ v := faultV x, recovered := true }] ∧ IsBlk w' q (.cells #[faultV x] 76) ∧ Only [q] w w' := by
  have h1 := fault_error x
  have h2 := fault_some x
  have h3 := isFault_any x hx
  obtain ⟨T, z, hv⟩ : ∃ T z, faultV x = .iface T z := by unfold faultV; split <;> exact ⟨_, _, rfl⟩
  rw [hv] at h1 h2 h3 ⊢
  clear hv
  refine callsD_of_wpS Tryz.func69 rfl fun c₀ cs hu => ?_
  apply wpS_seq
  apply wpS_region
  simp [wpOpsS, go_sem, recoverD, hu, Tryz.ntmps69, Exit.thenS]
  apply wpS_of_wp
  have hT : (#[Value.pointer (some ⟨q, 0, none⟩)] ++ ((Array.replicate 18 undef).setIfInBounds 3 (.iface T z)).setIfInBounds 0 (.iface T z) : Array Value) = #[Value.pointer (some ⟨q, 0, none⟩), .iface T z, undef, undef, .iface T z, undef, undef, undef, undef, undef, undef, undef, undef, undef, undef, undef, undef, undef, undef] := by kernel_rfl
  rw [hT]
  clear hT
  have c0 := hq.cell 0
  have f0 := hq.notFrozen 0
  have Hq := Lib.hid hq
  clear hq
  go_wp2_with fail
  refine (h3 _).mono ?_
  rintro e w1 ⟨rfl, hO1⟩
  have hq1 := Hq.out.only hO1 (by simp)
  clear c0 f0
  have c0 := hq1.cell 0
  have f0 := hq1.notFrozen 0
  have Hq1 := Lib.hid hq1
  have HO1 := Lib.hid hO1
  clear hq1 hO1
  go_wp2
  refine ⟨rfl, _, rfl, .tuple #[], by simp [results, Tryz.results69], rfl, rfl, IsBlk.put Hq1.out 0 _, (HO1.out.into (by simp)).setCell (p := ⟨q, 0, none⟩) (.inl (by simp)) _⟩

theorem caught_idle (q : Nat) (w : World) :
    CallsD Tryz.prog 69 #[.pointer (some ⟨q, 0, none⟩)] .returning w fun e u' w' => e = .returned (.tuple #[]) ∧ u' = .returning ∧ w' = w := by
  refine callsD_of_wpS Tryz.func69 rfl fun c₀ cs hu => ?_
  apply wpS_seq
  apply wpS_region
  simp [wpOpsS, go_sem, recoverD, hu, Tryz.ntmps69, Exit.thenS]
  apply wpS_of_wp
  have hT : (#[Value.pointer (some ⟨q, 0, none⟩)] ++ ((Array.replicate 18 undef).setIfInBounds 3 Value.nilIface).setIfInBounds 0 Value.nilIface : Array Value) = #[Value.pointer (some ⟨q, 0, none⟩), .nilIface, undef, undef, .nilIface, undef, undef, undef, undef, undef, undef, undef, undef, undef, undef, undef, undef, undef, undef] := by kernel_rfl
  rw [hT]
  clear hT
  go_wp2
  exact ⟨rfl, .returning, by cases c₀; simp_all, .tuple #[], by simp [results, Tryz.results69], rfl, rfl, rfl⟩

end Go.Proofs.YtildkedplmjdaaaGreatDoor
namespace Go.Proofs.YtildkedplmjdaaaGreatDoor
set_option maxRecDepth 100000
set_option linter.unusedVariables false
open Go.RowKit Go.Sort Go.Stop

def throwE (x : Nat × Nat) : Ending := .panicked [{ v := faultV x, recovered := false }]
/-- The fault that there is. -/
def faultX (P : ProgM) : Option (Nat × Nat) := if (checkM P).2 = 0 then none else some (checkM P)
def lookE : Option (Nat × Nat) → Ending
  | none => .returned (.tuple #[])
  | some x => throwE x
def errV : Option (Nat × Nat) → Value
  | none => .nilIface
  | some x => faultV x
theorem check_ok (P : ProgM) : (checkM P).2 = 0 ∨ FaultOk (checkM P) := by
  unfold checkM FaultOk
  split
  · simp
  · split
    · simp
    · split
      · simp
      · split <;> simp
theorem fault_ok {P : ProgM} {x : Nat × Nat} (h : faultX P = some x) : FaultOk x := by
  unfold faultX at h
  split at h
  · cases h
  · rename_i h1
    injection h with h
    subst h
    exact (check_ok P).resolve_left h1

set_option maxHeartbeats 16000000 in
theorem look_all (w : World) (bp : Nat) (vv vl vf : Value) (P : ProgM) (hbp : IsBlk w bp (.cells #[vv, vl, vf] 30)) (h : ProgAt w vv vl vf P) (hbig : cntF P.funcs ≤ 1000000) (hsh : ShortP 1000000 P) :
    Calls Tryz.prog 51 #[.pointer (some ⟨bp, 0, none⟩)] w fun r w' => r = lookE (faultX P) ∧ Only [] w w' := by
  have z0 := hbp.cell 0
  have z1 := hbp.cell 1
  have z2 := hbp.cell 2
  have zl := hbp.lt
  have Hb := Lib.hid hbp
  have H := Lib.hid h
  have Hsh := Lib.hid hsh
  obtain ⟨⟨av, cv, rfl, -⟩, ⟨al, cl, rfl, -⟩, hf⟩ := h
  obtain ⟨af, cf, xs, fp, rfl, hE, hra⟩ := funcs_open hf
  have HE := Lib.hid (And.intro hE hra)
  clear hbp hsh hf hE hra
  go_enter Tryz.func51, Tryz.ntmps51
  go_wp2_with fail
  refine (bound_any w _ _ _ P H.out hbig).mono ?_
  rintro r w1 ⟨⟨hL, rfl⟩ | ⟨hL, rfl⟩, hO1⟩
  · have hl3 : P.vars.length ≤ 20 ∧ P.locks.length ≤ 20 ∧ P.funcs.length ≤ 20 := by
      unfold longM at hL
      simp at hL
      omega
    have HL := Lib.hid hL
    have HO1 := Lib.hid hO1
    have Hb1 := Lib.hid (Hb.out.only hO1 (by simp))
    have hP1 := H.out.more hO1
    clear z0 z1 z2 zl hL hO1
    have z0 := Hb1.out.cell 0
    have z1 := Hb1.out.cell 1
    have z2 := Hb1.out.cell 2
    have zl := Hb1.out.lt
    go_wp2_with fail
    refine (declare_any w1 _ _ _ P hP1 hl3.1 hl3.2.1 hl3.2.2 Hsh.out).mono ?_
    clear hP1
    rintro r w2 (⟨pp, h2, rfl, hO2⟩ | ⟨h2, mb, tn, rfl, hT, hmb, hO2⟩)
    · refine ⟨rfl, ?_, HO1.out.plus hO2⟩
      have e : checkM P = (pp, 9) := by unfold checkM; rw [if_neg (by rw [HL.out]; simp), h2]
      unfold faultX
      rw [e]
      rfl
    · have H2 := Lib.hid h2
      have HT := Lib.hid hT
      have HO2 := Lib.hid (HO1.out.plus hO2)
      have Hb2 := Lib.hid (Hb1.out.only hO2 (by simp))
      have Hmb := Lib.hid hmb
      clear z0 z1 z2 zl h2 hT hO2 hmb
      have z0 := Hb2.out.cell 0
      have z1 := Hb2.out.cell 1
      have z2 := Hb2.out.cell 2
      have zl := Hb2.out.lt
      have hkm : ∀ W : World, Only [] w2 W → (Instr.lookup 105 (.map (some mb)) (.string ⟨#[109, 97, 105, 110]⟩) false).run Tryz.prog W = .ok (.int .i64 ((kindOf (dclsM P) main7 : Nat) : Int)) W := fun W hW => (HT.out.keep hW (by simp)).look main7 (by decide)
      go_wp2_with fail
      go_loopw [11] (fun iv wr => ∃ (j : Nat) (rs : List FuncM) (xr : List Value) (fr : List Nat), iv = .int .i64 j ∧ j + rs.length = P.funcs.length ∧ (∀ d ∈ rs, d ∈ P.funcs) ∧ EncF w rs xr fr ∧
          (0 < rs.length → ∃ g, af = some ⟨g, 0, none⟩ ∧ g < w.heap.size ∧ w.rangeAt g (j * 3) xr) ∧ lookF (kindOf (dclsM P)) P.funcs = lookF (kindOf (dclsM P)) rs ∧ Only [] w2 wr) (fun iv _ => P.funcs.length - (intOf iv).toNat)
      case atStart => exact ⟨0, P.funcs, xs, fp, rfl, by omega, fun _ h => h, HE.out.1, HE.out.2, rfl, Only.refl _ _⟩
      case round =>
        obtain ⟨j, rs, xr, fr, rfl, hjl, hmem, hE, hra, htw, hO⟩ := hrel
        have HO := Lib.hid hO
        have HOz := Lib.hid (HO2.out.plus hO)
        have Htw := Lib.hid htw
        clear hO htw
        cases rs with
        | nil =>
          have hji : ¬ (j : Int) < (P.funcs.length : Int) := by simp only [List.length_nil] at hjl; omega
          have hkw := hkm wr HO.out
          have e1 : ∀ k, kindOf (dclsM P) main7 = k → faultX P = if k = 3 then none else some (0, 11) := fun k hk => by
            have e : checkM P = if k = 3 then (0, 0) else (0, 11) := by
              unfold checkM
              rw [if_neg (by rw [HL.out]; simp), H2.out, Htw.out]
              simp only [lookF, hk]
            unfold faultX
            rw [e]
            by_cases h3 : k = 3
            · rw [if_pos h3, if_pos h3, if_pos rfl]
            · rw [if_neg h3, if_neg h3, if_neg (by decide)]
          clear hkm
          by_cases hk3 : kindOf (dclsM P) main7 = 3
          · have e2 := e1 3 hk3
            rw [hk3] at hkw
            go_wp2_with fail
            go_end0
            exact ⟨rfl, HOz.out⟩
          · have e2 := e1 _ rfl
            rw [if_neg hk3] at e2
            have hk3i : ¬ ((kindOf (dclsM P) main7 : Nat) : Int) = 3 := by omega
            clear e1
            generalize kindOf (dclsM P) main7 = km at *
            go_wp2_with fail
            exact ⟨rfl, rfl, HOz.out⟩
        | cons d rr =>
          obtain ⟨va, fa, fr', xr', rfl, rfl, hA, -, hE'⟩ := hE
          have hA' := hA
          obtain ⟨aa, ca, rfl, hca⟩ := RowE.slice hA
          obtain ⟨gx, hxa, hgx, hrx⟩ := hra (by simp)
          have hrz := rangeAt_only hrx HOz.out hgx (by simp)
          have k0 : wr.cell? ⟨gx, j * 3, none⟩ = some (.string ⟨d.name.toArray⟩) := hrz 0 _ rfl
          have k1 : wr.cell? ⟨gx, j * 3 + 1, none⟩ = some (.int .i64 d.at_) := hrz 1 _ rfl
          have k2 : wr.cell? ⟨gx, j * 3 + 2, none⟩ = some (.slice aa d.body.len ca) := hrz 2 _ rfl
          have hgxz : gx < wr.heap.size := Nat.lt_of_lt_of_le hgx HOz.out.size
          have hji : (j : Int) < (P.funcs.length : Int) := by simp only [List.length_cons] at hjl; omega
          have Hjl : Hid (j + (rr.length + 1) = P.funcs.length) := Lib.hid hjl
          have hdm := hmem d (by simp)
          have hcb := len_cntF 1000000 P.funcs hbig d hdm
          have hds := (Hsh.out.2.2 d hdm).2
          have HF := Lib.hid (And.intro hA' (And.intro hE' (And.intro hrx hmem)))
          clear hE' hA hA' hrz hrx hra hjl hmem hdm
          have hOa := (Only.refl [] wr).alloc (.cells #[.string ⟨d.name.toArray⟩, .int .i64 d.at_, .slice aa d.body.len ca] 51)
          have HO3 := Lib.hid (HO.out.plus hOa)
          have HOz3 := Lib.hid (HOz.out.plus hOa)
          clear hOa
          rw [hxa]
          go_wp2_with fail
          generalize hWa : wr.alloc (.cells #[.string ⟨d.name.toArray⟩, .int .i64 d.at_, .slice aa d.body.len ca] 51) = wa at *
          clear hWa
          refine (look_any mb tn (kindOf (dclsM P)) _ d.body (Nat.lt_succ_self _) wa _ fa (HF.out.1.more HOz3.out) hcb hds (HT.out.keep HO3.out (by simp))).mono ?_
          rintro r W2 ⟨h3, hO4⟩
          have HO4 := Lib.hid (HO3.out.plus hO4)
          have HOz4 := Lib.hid (HOz3.out.plus hO4)
          clear hO4
          rcases h3 with ⟨h3, rfl⟩ | ⟨pp, h3, rfl⟩
          · have H3 := Lib.hid h3
            clear h3
            go_wp2
            rw [← hxa]
            go_roundw
            case rel =>
              refine ⟨j + 1, rr, xr', fr', by go_num, by have := Hjl.out; omega, fun x hx => HF.out.2.2.2 x (by simp [hx]), HF.out.2.1, fun h => ⟨gx, hxa, hgx, ?_⟩, ?_, HO4.out⟩
              · intro i u hu
                have := HF.out.2.2.1 (i + 3) u hu
                rw [show j * 3 + (i + 3) = (j + 1) * 3 + i by omega] at this
                exact this
              · rw [Htw.out, lookF, H3.out]; rfl
            case measure => have h9 := Hjl.out; simp [intOf]; omega
          · refine ⟨rfl, ?_, HOz4.out⟩
            have e : checkM P = (pp, 10) := by
              unfold checkM
              rw [if_neg (by rw [HL.out]; simp), H2.out, Htw.out, lookF, h3]; rfl
            unfold faultX
            rw [e]
            rfl
  · refine ⟨rfl, ?_, hO1⟩
    have e : checkM P = (0, 2) := by unfold checkM; rw [if_pos hL]
    unfold faultX
    rw [e]
    rfl


theorem ret_err {fn : Func} {p : Tmp} (h : fn.results = #[.cell p 76]) (tmps : Array Value) (w : World) (g : Nat) (x : Value)
    (hp : tmps.getD p undef = .pointer (some ⟨g, 0, none⟩)) (h0 : IsBlk w g (.cells #[x] 76)) :
    (results fn tmps).run Tryz.prog w = .ok x w := by
  have hp' : tmps[p]?.getD undef = .pointer (some ⟨g, 0, none⟩) := by simpa using hp
  have k0 : w.cell? ⟨g, 0, none⟩ = some x := h0.cell 0
  simp [results, h, hp', asAddr, k0, go_sem]

set_option maxHeartbeats 8000000 in
theorem caught_any (w : World) (f : FuncId) (caps : Array Value) (X : Option (Nat × Nat)) (hX : ∀ x, X = some x → FaultOk x) (henter : ∀ W : World, (callFunc f caps).run Tryz.prog W = .ok (.enter f caps) W)
    (hf : ∀ w1, Only [] w w1 → Calls Tryz.prog f caps w1 fun r w' => r = lookE X ∧ Only [] w1 w') :
    Calls Tryz.prog 50 #[.func (.func f) #[] caps] w fun r w' => r = .returned (errV X) ∧ Only [] w w' := by
  have hmf : ∀ (fn : Fn) (first cap : Array Value) (w : World), (Instr.makeFunc fn first cap).run Tryz.prog w = .ok (.func fn first cap) w := fun _ _ _ _ => rfl
  have hq0 := Lib.hid (IsBlk.made w (.cells #[.nilIface] 76))
  have hOa := (Only.refl [] w).alloc (.cells #[.nilIface] 76)
  have hO0 := Lib.hid hOa
  clear hOa
  go_enter_defers Tryz.func50, Tryz.ntmps50
  go_upto_region 2 with fail
  generalize hW : w.alloc (.cells #[.nilIface] 76) = w1 at *
  clear hW
  go_wp2_with fail
  refine (hf w1 hO0.out).mono ?_
  rintro r w2 ⟨rfl, hO2⟩
  have hq2 := hq0.out.only hO2 (by simp)
  have HO2 := Lib.hid (hO0.out.plus hO2)
  cases X with
  | none =>
    simp only [lookE]
    have f0 := hq2.notFrozen 0
    have c0 := hq2.cell 0
    have Hq2 := Lib.hid hq2
    clear hO2 hq2
    go_wp2
    refine leaves_cons (f := 69) (args := #[.pointer (some ⟨w.heap.size, 0, none⟩)]) (by simp) (by simp [go_sem]) ?_
    refine (caught_idle w.heap.size _).mono ?_
    rintro e u' w6 ⟨rfl, rfl, rfl⟩
    exact ⟨_, ret_err rfl _ _ w.heap.size _ rfl (IsBlk.put Hq2.out 0 .nilIface), rfl, HO2.out.then ((Only.refl [w.heap.size] _).setCell (p := ⟨w.heap.size, 0, none⟩) (.inl (by simp)) _) [] (by simp) (by simp)⟩
  | some x =>
    refine leaves_cons (f := 69) (args := #[.pointer (some ⟨w.heap.size, 0, none⟩)]) (by simp) (by simp [go_sem]) ?_
    refine (caught_fault w.heap.size x (hX x rfl) _ _ hq2).mono ?_
    rintro e u' w6 ⟨rfl, rfl, s0, hO6⟩
    exact ⟨_, ret_err rfl _ _ w.heap.size _ rfl s0, rfl, HO2.out.then hO6 [] (by simp) (by simp)⟩

end Go.Proofs.YtildkedplmjdaaaGreatDoor
