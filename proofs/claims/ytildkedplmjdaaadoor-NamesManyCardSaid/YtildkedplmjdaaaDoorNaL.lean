/-
  faultOf, told, Check of the package names.
-/
import Derived.Test.YtildkedplmjdaaaDoorNaK
namespace Go.Proofs.YtildkedplmjdaaaDoor
set_option maxRecDepth 100000
set_option linter.unusedVariables false
open Go.RowKit Go.Sort Go.Stop

set_option maxHeartbeats 4000000 in
theorem faultOf_any (w : World) (vv vl vf : Value) (P : ProgM) (h : ProgAt w vv vl vf P) (hbig : cntF P.funcs ≤ 1000000) (hsh : ShortP 1000000 P) :
    Calls Tryd.prog 11 #[.agg #[vv, vl, vf]] w fun r w' => r = .returned (errV (faultX P)) ∧ Only [] w w' := by
  have hmf : ∀ (fn : Fn) (first cap : Array Value) (w : World), (Instr.makeFunc fn first cap).run Tryd.prog w = .ok (.func fn first cap) w := fun _ _ _ _ => rfl
  have hb := Lib.hid (IsBlk.made w (.cells #[vv, vl, vf] 27))
  have hOa := (Only.refl [] w).alloc (.cells #[vv, vl, vf] 27)
  have HO := Lib.hid hOa
  have HP := Lib.hid (h.more hOa)
  clear hOa h
  go_enter Tryd.func11, Tryd.ntmps11
  go_wp2_with fail
  generalize hW : w.alloc (.cells #[vv, vl, vf] 27) = w1 at *
  clear hW
  refine (caught_any w1 15 #[.pointer (some ⟨w.heap.size, 0, none⟩)] (faultX P) (fun x hx => fault_ok hx) (fun W => by kernel_rfl) (fun W hW => ?_)).mono ?_
  · exact look_all W w.heap.size vv vl vf P (hb.out.only hW (by simp)) (HP.out.more hW) hbig hsh
  · rintro r w2 ⟨rfl, hO2⟩
    go_wp2
    go_ret
    exact ⟨rfl, HO.out.plus hO2⟩

/-- An error, as a face tells it: none; a number alone; one with a place. -/
inductive ErrIs : Value → Nat × Nat → Prop
  | none : ErrIs .nilIface (0, 0)
  | alone (n : Nat) : ErrIs (.iface 36 (.int .i64 n)) (0, n)
  | placed (p n : Nat) : ErrIs (.iface 57 (.agg #[.int .i64 p, .iface 36 (.int .i64 n)])) (p, n)
theorem fault_is {x : Nat × Nat} (h : FaultOk x) : ErrIs (faultV x) x := by
  obtain ⟨p, n⟩ := x
  unfold faultV
  by_cases hn : n = 9 ∨ n = 10
  · rw [if_pos hn]; exact .placed p n
  · rw [if_neg hn]
    have : p = 0 := by unfold FaultOk at h; simp only at h; omega
    subst this
    exact .alone n
theorem errV_is (P : ProgM) : ErrIs (errV (faultX P)) (checkM P) := by
  have h := check_ok P
  unfold faultX
  by_cases h0 : (checkM P).2 = 0
  · rw [if_pos h0]
    have : checkM P = (0, 0) := by
      unfold checkM at h0 ⊢
      split at h0
      · simp at h0
      · rename_i hl
        rw [if_neg hl]
        split at h0
        · simp at h0
        · rename_i ht
          try rw [ht]
          split at h0
          · simp at h0
          · rename_i hk
            try rw [hk]
            split at h0
            · rename_i hm; rw [if_pos hm]
            · simp at h0
    rw [this]
    exact .none
  · rw [if_neg h0]
    exact fault_is (h.resolve_left h0)

theorem ret_told {fn : Func} {p q : Tmp} (h : fn.results = #[.tmp p, .cell q 36]) (tmps : Array Value) (w : World) (g : Nat) (x y : Value)
    (hp : tmps.getD p undef = x) (hq : tmps.getD q undef = .pointer (some ⟨g, 0, none⟩)) (h0 : IsBlk w g (.cells #[y] 36)) :
    (results fn tmps).run Tryd.prog w = .ok (.tuple #[x, y]) w := by
  have hp' : tmps[p]?.getD undef = x := by simpa using hp
  have hq' : tmps[q]?.getD undef = .pointer (some ⟨g, 0, none⟩) := by simpa using hq
  have k0 : w.cell? ⟨g, 0, none⟩ = some y := h0.cell 0
  simp [results, h, hp', hq', asAddr, k0, go_sem]

set_option maxHeartbeats 8000000 in
theorem told_any (w : World) (v : Value) (x : Nat × Nat) (h : ErrIs v x) (hg : ErrT w) :
    Calls Tryd.prog 10 #[v] w fun r w' => r = .returned (.tuple #[.int .i64 x.1, .int .i64 x.2]) ∧ Only [] w w' := by
  have hE := Lib.hid ((IsBlk.made w (.cells #[.int .i64 0] 36)).alloc (.cells #[.int .i64 0, .nilIface] 57))
  have hP := Lib.hid (IsBlk.made (w.alloc (.cells #[.int .i64 0] 36)) (.cells #[.int .i64 0, .nilIface] 57))
  have hOa := ((Only.refl [] w).alloc (.cells #[.int .i64 0] 36)).alloc (.cells #[.int .i64 0, .nilIface] 57)
  have HO := Lib.hid hOa
  have HG := Lib.hid (hg.only hOa (by simp))
  have e1 : (w.alloc (.cells #[.int .i64 0] 36)).heap.size = w.heap.size + 1 := by simp
  rw [e1] at hP
  have hgl := hg.lt
  clear hOa hg e1
  go_enter Tryd.func10, Tryd.ntmps10
  go_upto_region 2 with fail
  generalize hW : (w.alloc (.cells #[.int .i64 0] 36)).alloc (.cells #[.int .i64 0, .nilIface] 57) = w1 at *
  clear hW
  go_wp2_with fail
  cases h with
  | none =>
    refine (as_nil _ _).mono ?_
    rintro e w2 ⟨rfl, rfl⟩
    go_wp2_with fail
    refine (as_nil _ _).mono ?_
    rintro e w2 ⟨rfl, rfl⟩
    have HE := hE
    have HOz := HO
    have c0 := HE.out.cell 0
    have f0 := HE.out.notFrozen 0
    go_upto_region 5 with fail
    go_region
    have hs := (IsBlk.put HE.out 0 (.int .i64 0)).drew
    have hO := ((HOz.out.into (T := [w.heap.size]) (by simp)).setCell (p := ⟨w.heap.size, 0, none⟩) (.inl (by simp)) (.int .i64 0)).drew
    go_wp2
    refine bodyPost_ret_by (ret_told rfl _ _ w.heap.size _ _ rfl rfl hs) rfl ?_
    exact ⟨rfl, (Only.refl [] w).then hO [] (by simp) (by simp)⟩
  | alone n =>
    refine (as_errno_placed n _ _ _ _ HG.out hP.out).mono ?_
    rintro e w2 ⟨rfl, hO2⟩
    have HG2 := HG.out.only hO2 (by simp)
    have hE2 := hE.out.only hO2 (by simp)
    go_wp2_with fail
    refine (as_errno_errno n _ _ _ HG2 hE2).mono ?_
    rintro e w3 ⟨rfl, hE3, hO3⟩
    have HE := Lib.hid hE3
    have HOz := Lib.hid ((HO.out.plus hO2).then hO3 [] (by simp) (by simp))
    clear HG2 hE2 hE3 hO2 hO3
    have c0 := HE.out.cell 0
    have f0 := HE.out.notFrozen 0
    go_upto_region 5 with fail
    go_region
    have hs := (IsBlk.put HE.out 0 (.int .i64 n)).drew
    have hO := ((HOz.out.into (T := [w.heap.size]) (by simp)).setCell (p := ⟨w.heap.size, 0, none⟩) (.inl (by simp)) (.int .i64 n)).drew
    go_wp2
    refine bodyPost_ret_by (ret_told rfl _ _ w.heap.size _ _ rfl rfl hs) rfl ?_
    exact ⟨rfl, (Only.refl [] w).then hO [] (by simp) (by simp)⟩
  | placed p n =>
    refine (as_placed_placed p n _ _ _ _ HG.out hP.out).mono ?_
    rintro e w2 ⟨rfl, hP2, hO2⟩
    have HG2 := HG.out.only hO2 (by simp)
    have hE2 := hE.out.only hO2 (by simp)
    have p0 := hP2.cell 0
    have HOy := Lib.hid (HO.out.then hO2 [] (by simp) (by simp))
    clear hO2
    go_wp2_with fail
    refine (as_placed_errno p n _ _ _ HG2 hE2).mono ?_
    rintro e w3 ⟨rfl, hE3, hO3⟩
    have HE := Lib.hid hE3
    have HOz := Lib.hid (HOy.out.then hO3 [] (by simp) (by simp))
    clear HG2 hE2 hE3 hO3 p0 hP2
    have c0 := HE.out.cell 0
    have f0 := HE.out.notFrozen 0
    go_upto_region 5 with fail
    go_region
    have hs := (IsBlk.put HE.out 0 (.int .i64 n)).drew
    have hO := ((HOz.out.into (T := [w.heap.size]) (by simp)).setCell (p := ⟨w.heap.size, 0, none⟩) (.inl (by simp)) (.int .i64 n)).drew
    go_wp2
    refine bodyPost_ret_by (ret_told rfl _ _ w.heap.size _ _ rfl rfl hs) rfl ?_
    exact ⟨rfl, (Only.refl [] w).then hO [] (by simp) (by simp)⟩

set_option maxHeartbeats 4000000 in
theorem check_any (w : World) (vv vl vf : Value) (P : ProgM) (h : ProgAt w vv vl vf P) (hbig : cntF P.funcs ≤ 1000000) (hsh : ShortP 1000000 P) (hg : ErrT w) :
    Calls Tryd.prog 8 #[.agg #[vv, vl, vf]] w fun r w' => r = .returned (.tuple #[.int .i64 (checkM P).1, .int .i64 (checkM P).2]) ∧ Only [] w w' := by
  have hb := Lib.hid (IsBlk.made w (.cells #[vv, vl, vf] 27))
  have hOa := (Only.refl [] w).alloc (.cells #[vv, vl, vf] 27)
  have HO := Lib.hid hOa
  have HG := Lib.hid (hg.only hOa (by simp))
  have hP := h.more hOa
  have z0 := hb.out.cell 0
  have z1 := hb.out.cell 1
  have z2 := hb.out.cell 2
  clear hOa h hg
  go_enter Tryd.func8, Tryd.ntmps8
  go_wp2_with fail
  generalize hW : w.alloc (.cells #[vv, vl, vf] 27) = w1 at *
  clear hW
  refine (faultOf_any w1 vv vl vf P hP hbig hsh).mono ?_
  rintro r w2 ⟨rfl, hO2⟩
  have HG2 := HG.out.only hO2 (by simp)
  go_wp2_with fail
  refine (told_any w2 _ _ (errV_is P) HG2).mono ?_
  rintro r w3 ⟨rfl, hO3⟩
  go_wp2
  go_ret2
  exact ⟨rfl, (HO.out.plus hO2).plus hO3⟩

end Go.Proofs.YtildkedplmjdaaaDoor
