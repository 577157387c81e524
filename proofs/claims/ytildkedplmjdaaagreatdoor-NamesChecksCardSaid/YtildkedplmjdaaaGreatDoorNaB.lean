/-
  wanted of the package names; names' table as a map; add.
-/
import Derived.Test.YtildkedplmjdaaaGreatDoorNaA
import Derived.Test.YtildkedplmjdaaaGreatDoorPaI
import Derived.Maps.Own
import Derived.Maps.OwnSet
import Derived.Maps.Views
namespace Go.Proofs.YtildkedplmjdaaaGreatDoor
set_option maxRecDepth 100000
set_option linter.unusedVariables false
open Go.RowKit Go.Sort Go.Maps

set_option maxHeartbeats 4000000 in
theorem wanted_any (w : World) (k : Nat) : Calls Tryz.prog 73 #[.int .i64 k] w fun e w' => e = .returned (.int .i64 (wantM k)) ∧ w' = w := by
  by_cases h1 : k = 1
  · subst h1
    go_enter Tryz.func73, Tryz.ntmps73
    go_wp2
    go_ret
    exact ⟨rfl, rfl⟩
  · by_cases h2 : k = 2
    · subst h2
      go_enter Tryz.func73, Tryz.ntmps73
      go_wp2
      go_ret
      exact ⟨rfl, rfl⟩
    · by_cases h3 : k = 3
      · subst h3
        go_enter Tryz.func73, Tryz.ntmps73
        go_wp2
        go_ret
        exact ⟨rfl, rfl⟩
      · by_cases h4 : k = 4
        · subst h4
          go_enter Tryz.func73, Tryz.ntmps73
          go_wp2
          go_ret
          exact ⟨rfl, rfl⟩
        · by_cases h5 : k = 5
          · subst h5
            go_enter Tryz.func73, Tryz.ntmps73
            go_wp2
            go_ret
            exact ⟨rfl, rfl⟩
          · by_cases h6 : k = 6
            · subst h6
              go_enter Tryz.func73, Tryz.ntmps73
              go_wp2
              go_ret
              exact ⟨rfl, rfl⟩
            · have e : wantM k = 0 := by unfold wantM; simp [h1, h2, h3, h4, h5, h6]
              have i1 : ¬ (k : Int) = 1 := by omega
              have i2 : ¬ (k : Int) = 2 := by omega
              have i3 : ¬ (k : Int) = 3 := by omega
              have i4 : ¬ (k : Int) = 4 := by omega
              have i5 : ¬ (k : Int) = 5 := by omega
              have i6 : ¬ (k : Int) = 6 := by omega
              rw [e]
              clear h1 h2 h3 h4 h5 h6 e
              go_enter Tryz.func73, Tryz.ntmps73
              go_wp2
              go_ret
              exact ⟨rfl, rfl⟩

theorem grown_one {w w' : World} {b : Nat} (h : w.grownBy w' (some b)) : Only [b] w w' :=
  ⟨h.os, h.tape, h.output, h.size, fun k hk hn => h.block k hk (fun e => hn (by injection e with e; simp [e]))⟩

/-- A fault with a place, as it goes up; one without. -/
def placedV (x : Nat × Nat) : Value := .agg #[.int .i64 x.1, .iface 37 (.int .i64 x.2)]
def placedE (x : Nat × Nat) : Ending := .panicked [{ v := .iface 98 (placedV x), recovered := false }]
def errnoE (n : Nat) : Ending := .panicked [{ v := .iface 37 (.int .i64 n), recovered := false }]

/-- A table of names. -/
def TblAt (w : World) (b n : Nat) (f : List UInt8 → Nat) : Prop :=
  ∃ D : DataW Unit, w.ownsMap Tryz.prog 9 (plainElem Tryz.prog 3) b n D ∧ ∀ x, D.atKey (.string x) (.lit (.int .i64 0)) = .lit (.int .i64 (f x))
theorem TblAt.keep {w w' : World} {b n : Nat} {f : List UInt8 → Nat} {S : List Nat} (h : TblAt w b n f) (hO : Only S w w') (hb : b ∉ S) : TblAt w' b n f := by
  obtain ⟨D, ⟨es, clock, h1, h2⟩, h3⟩ := h
  exact ⟨D, ⟨es, clock, (hO.block b (World.ownsMap.lt ⟨es, clock, h1, h2⟩) hb).trans h1, h2⟩, h3⟩
theorem TblAt.lt {w : World} {b n : Nat} {f : List UInt8 → Nat} (h : TblAt w b n f) : b < w.heap.size := by
  obtain ⟨D, h1, h3⟩ := h
  exact World.ownsMap.lt h1
theorem TblAt.made (w : World) : TblAt (w.alloc (.map #[] 0)) w.heap.size 0 (fun _ => 0) := ⟨_, World.ownsMap_made w _ _ _, fun _ => rfl⟩
theorem keyT {n : List UInt8} (h : n.length ≤ maxLen) : keyOf Tryz.prog 9 (encStr n) = some (.string n) := by
  simp [keyOf, Tryz.underlying9, mapKey, encStr, ByteArray.size, h]
theorem TblAt.look {w : World} {b n : Nat} {f : List UInt8 → Nat} (h : TblAt w b n f) (x : List UInt8) (hx : x.length ≤ maxLen) :
    (Instr.lookup 105 (.map (some b)) (encStr x) false).run Tryz.prog w = .ok (.int .i64 (f x)) w := by
  obtain ⟨D, h1, h3⟩ := h
  obtain ⟨c, hrun, hat, -⟩ := h1.lookup_int (string_keyed Tryz.underlying9) Tryz.underlying105 Tryz.underlying3 (Tryz.zeroValue3 w) (keyT hx)
  rw [h3 x] at hat
  injection hat with hat
  injection hat with _ hat
  rw [hrun, ← hat]
theorem TblAt.put {w w' : World} {b n : Nat} {f : List UInt8 → Nat} {D : DataW Unit} (h1 : w.ownsMap Tryz.prog 9 (plainElem Tryz.prog 3) b n D) (h3 : ∀ x, D.atKey (.string x) (.lit (.int .i64 0)) = .lit (.int .i64 (f x))) (x : List UInt8) (k : Nat)
    (h : w'.ownsMap Tryz.prog 9 (plainElem Tryz.prog 3) b (n + 1) (D.put (.string x) (.lit (.int .i64 k)))) : TblAt w' b (n + 1) (fun y => if y = x then k else f y) := by
  refine ⟨_, h, fun y => ?_⟩
  by_cases hy : y = x
  · subst hy
    show _ = DataW.lit (Lit.int IntKind.i64 ((if y = y then k else f y : Nat) : Int))
    rw [if_pos rfl]
    exact atKey_put_same h1.isMap (by simp [WideAt.IsKeyLit]) _ _
  · show _ = DataW.lit (Lit.int IntKind.i64 ((if y = x then k else f y : Nat) : Int))
    rw [if_neg hy, atKey_put_other (by simpa using hy), h3]

set_option maxHeartbeats 4000000 in
theorem add_any (w : World) (b n : Nat) (f : List UInt8 → Nat) (h : TblAt w b n f) (hn : n < 1000) (x : List UInt8) (hx : x.length ≤ 1000000) (p k : Nat) (hk : k ≤ 3) :
    Calls Tryz.prog 72 #[.map (some b), encStr x, .int .i64 p, .int .i64 k] w fun e w' =>
      (f x ≠ 0 ∧ e = placedE (p, 9) ∧ Only [] w w') ∨ (f x = 0 ∧ e = .returned (.tuple #[]) ∧ TblAt w' b (n + 1) (fun y => if y = x then k else f y) ∧ Only [b] w w') := by
  have hl := h.look x (by unfold maxLen; omega)
  have hkey := keyT (n := x) (by unfold maxLen; omega)
  have hw : (Lit.int .i64 (k : Int)).wf = true := by
    have : k = 0 ∨ k = 1 ∨ k = 2 ∨ k = 3 := by omega
    rcases this with rfl | rfl | rfl | rfl <;> decide
  obtain ⟨D, h1, h3⟩ := h
  by_cases h0 : f x = 0
  · have hi : (((f x : Nat) : Int)) = 0 := by omega
    rw [hi] at hl
    go_enter Tryz.func72, Tryz.ntmps72
    unfold encStr at hl hkey ⊢
    go_wp2_with (first | (at_mapUpdate; refine wpList_mapUpdate_own _ rfl _ _ _ 105 rfl 9 3 (string_keyed Tryz.underlying9) Tryz.underlying105 _ b n D rfl h1 (by unfold maxLen; omega) _ _ (.string x) rfl rfl hkey (.lit (.int .i64 k)) [] (plainElem_int Tryz.underlying3 hw) ?_; intro w1 hown1 hgrow1) | go_in)
    go_end0
    exact ⟨rfl, TblAt.put h1 h3 x k hown1, grown_one hgrow1⟩
  · have hi : ¬ (((f x : Nat) : Int)) = 0 := by omega
    go_enter Tryz.func72, Tryz.ntmps72
    unfold encStr at hl hkey ⊢
    go_wp2
    exact ⟨rfl, .inl ⟨h0, rfl, Only.refl _ _⟩⟩

end Go.Proofs.YtildkedplmjdaaaGreatDoor
