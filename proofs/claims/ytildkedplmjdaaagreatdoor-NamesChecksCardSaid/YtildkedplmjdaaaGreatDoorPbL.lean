/-
  The document's decls: two rows of declarations held against each other.
-/
import Derived.Test.YtildkedplmjdaaaGreatDoorPbK
namespace Go.Proofs.YtildkedplmjdaaaGreatDoor
set_option maxRecDepth 100000
set_option linter.unusedVariables false
open Go.RowKit Go.Sort

set_option maxHeartbeats 8000000 in
theorem rdecls_any (w : World) (va vb : Value) (l m : List DeclM) (ha : DeclsAt w va l) (hb : DeclsAt w vb m) (hl : l.length ≤ 1000000) :
    Calls Tryz.prog 63 #[va, vb] w fun e w' => e = .returned (.bool (sameD l m)) ∧ Only [] w w' := by
  obtain ⟨av, cv, rfl, hcv, hv⟩ := ha
  obtain ⟨bv, dv, rfl, hdv, hu⟩ := hb
  have Hv := Lib.hid hv
  have Hu := Lib.hid hu
  clear hv hu
  by_cases hll : l.length = m.length
  · have Hll := Lib.hid hll
    have hnb : ((l.length : Int) != (m.length : Int)) = false := by simp; omega
    clear hll
    go_enter Tryz.func63, Tryz.ntmps63
    go_wp2_with fail
    clear hnb
    go_loopg [5] 10000000 (fun gk iv wr => ∃ i : Nat, iv = .int .i64 i ∧ i ≤ l.length ∧ l.length - i ≤ gk ∧ Hid (sameD l m = sameD (l.drop i) (m.drop i)) ∧ Only [] w wr)
    case atStart => exact ⟨0, rfl, Nat.zero_le _, by omega, Lib.hid rfl, Only.refl _ _⟩
    case round =>
      obtain ⟨i, rfl, hi, hgk, hR, hO⟩ := hrel
      have HO := Lib.hid hO
      clear hO
      by_cases hlt : i < l.length
      · have hlti : (i : Int) < (l.length : Int) := by omega
        have hltm : (i : Int) < (m.length : Int) := by have := Hll.out; omega
        have hi0 : (0 : Int) ≤ (i : Int) := by omega
        have hgx : l[i]? = some l[i] := List.getElem?_eq_getElem hlt
        have hgy : m[i]? = some (m[i]'(by have := Hll.out; omega)) := List.getElem?_eq_getElem (by have := Hll.out; omega)
        obtain ⟨g, hag, hg, hra⟩ := Hv.out (by omega)
        obtain ⟨k, hbg, hk, hrb⟩ := Hu.out (by omega)
        obtain ⟨e1, e2⟩ := dcells_get _ _ _ hgx
        obtain ⟨d1, d2⟩ := dcells_get _ _ _ hgy
        have r1 := hra _ _ e1
        have s1 := hrb _ _ d1
        rw [Nat.zero_add] at r1 s1
        have hdr : Only [] wr wr.drew := (Only.refl [] wr).drew
        have c0 := (HO.out.cell (p := ⟨g, i * 2, none⟩) hg (by simp)).trans r1
        have b0 := (HO.out.cell (p := ⟨k, i * 2, none⟩) hk (by simp)).trans s1
        have Hdr := Lib.hid (sameD_drop l m i _ _ hgx hgy)
        have hgw : g < wr.heap.size := Nat.lt_of_lt_of_le hg HO.out.size
        have hkw : k < wr.heap.size := Nat.lt_of_lt_of_le hk HO.out.size
        clear e1 e2 d1 d2 r1 s1 hra hrb hgx hgy
        generalize l[i] = x at *
        generalize m[i]'(by have := Hll.out; omega) = y at *
        subst hag hbg
        unfold encStr at c0 b0
        by_cases hn : x.name = y.name
        · have Hn := Lib.hid hn
          rw [hn] at c0
          have hnn : (y.name == y.name) = true := beq_self_eq_true _
          clear hn
          go_upto_region 6 with fail
          go_region
          go_wp2
          go_roundg (l.length - (i + 1))
          case measure => omega
          case rel => exact ⟨i + 1, by go_num, hlt, by omega, Lib.hid (by rw [hR.out, Hdr.out, show decide (x.name = y.name) = true from by simp [Hn.out], Bool.true_and]), HO.out.drew⟩
        · have Hn := Lib.hid hn
          have hnn : (x.name == y.name) = false := by simp [hn]
          clear hn
          go_upto_region 6 with fail
          go_region
          go_wp2
          go_ret
          exact ⟨by rw [hR.out, Hdr.out, show decide (x.name = y.name) = false from by simp [Hn.out], Bool.false_and]; rfl, HO.out.drew⟩
      · have hlti : ¬ (i : Int) < (l.length : Int) := by omega
        go_wp2
        go_ret
        refine ⟨?_, HO.out⟩
        rw [hR.out, List.drop_of_length_le (by omega), List.drop_of_length_le (by have := Hll.out; omega)]
        rfl
  · have hnb : ((l.length : Int) != (m.length : Int)) = true := by simp; omega
    have HR := Lib.hid (sameD_len l m hll)
    clear hll
    go_enter Tryz.func63, Tryz.ntmps63
    go_wp2
    go_ret
    exact ⟨by rw [HR.out]; rfl, Only.refl _ _⟩

end Go.Proofs.YtildkedplmjdaaaGreatDoor
