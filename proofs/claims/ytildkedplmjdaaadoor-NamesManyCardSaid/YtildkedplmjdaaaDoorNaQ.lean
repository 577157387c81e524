/-
  The comparison of files by their names; a set of files that is sound: sound of the package names.
-/
import Derived.Test.YtildkedplmjdaaaDoorNaP
import Derived.Test.YtildkedplmjdaaaDoorNaL
import Derived.Lib.Bytealg
import Derived.Deep.RegionHeld3
namespace Go.Proofs.YtildkedplmjdaaaDoor
set_option maxRecDepth 100000
set_option linter.unusedVariables false
open Go.RowKit Go.Sort

theorem compare_any (w : World) (a b : List UInt8) : Calls Tryd.prog 38 #[encStr a, encStr b] w fun e w' => e = .returned (.int .i64 (Lib.compareBytes a b)) ∧ w' = w := by
  have h65 := @run_callFunc_extern Tryd.prog 65 _ Extern.BytealgCompare.compare Tryd.func65 (by kernel_rfl) (by kernel_rfl) (by kernel_rfl) (by kernel_rfl)
  have hc := fun W => Lib.run_compareString (P := Tryd.prog) ⟨a.toArray⟩ ⟨b.toArray⟩ W
  unfold encStr
  go_enter Tryd.func38, Tryd.ntmps38
  go_wp2
  go_ret
  exact ⟨rfl, rfl⟩

/-- sound$1: are two files' names the same? -/
theorem twice_any (w : World) (q : Nat) (f g : FilM) (hq : IsBlk w q (.cells #[encStr g.1, encStr g.2] 41)) :
    Calls Tryd.prog 33 #[filV f, .pointer (some ⟨q, 0, none⟩)] w fun e w' => e = .returned (.bool (f.1 == g.1)) ∧ Only [] w w' := by
  have q0 := hq.cell 0
  have hql := hq.lt
  have hO := (Only.refl [] w).alloc (.cells #[encStr f.1, encStr f.2] 41)
  unfold filV encStr at *
  go_enter Tryd.func33, Tryd.ntmps33
  go_wp2
  go_ret
  exact ⟨rfl, hO⟩

/-- Files of a slice. -/
def FilAt (w : World) (a : Option Addr) (zs : List FilM) : Prop :=
  0 < zs.length → ∃ b off, a = some ⟨b, off, none⟩ ∧ b < w.heap.size ∧ ∀ j f, zs[j]? = some f → w.cell? ⟨b, off + j * 2, none⟩ = some (encStr f.1) ∧ w.cell? ⟨b, off + j * 2 + 1, none⟩ = some (encStr f.2)
theorem FilAt.more {w w' : World} {a : Option Addr} {zs : List FilM} (h : FilAt w a zs) (hO : Only [] w w') : FilAt w' a zs := fun h0 => by
  obtain ⟨b, off, e, hl, hc⟩ := h h0
  exact ⟨b, off, e, Nat.lt_of_lt_of_le hl hO.size, fun j f hf => ⟨(hO.cell (p := ⟨b, off + j * 2, none⟩) hl (by simp)).trans (hc j f hf).1, (hO.cell (p := ⟨b, off + j * 2 + 1, none⟩) hl (by simp)).trans (hc j f hf).2⟩⟩
theorem FilAt.take {w : World} {a : Option Addr} {zs : List FilM} (h : FilAt w a zs) (k : Nat) : FilAt w a (zs.take k) := fun h0 => by
  have h1 : 0 < zs.length := by rw [List.length_take] at h0; omega
  obtain ⟨b, off, e, hl, hc⟩ := h h1
  refine ⟨b, off, e, hl, fun j f hf => hc j f ?_⟩
  rw [List.getElem?_take] at hf
  split at hf
  · exact hf
  · cases hf

set_option maxHeartbeats 4000000 in
theorem indexF_any (w : World) (a : Option Addr) (c q : Nat) (zs : List FilM) (g : FilM) (h : FilAt w a zs) (hz : zs.length ≤ 1000000) (hq : IsBlk w q (.cells #[encStr g.1, encStr g.2] 41)) :
    Calls Tryd.prog 47 #[.slice a zs.length c, .func (.func 33) #[] #[.pointer (some ⟨q, 0, none⟩)]] w fun e w' =>
      (∃ k : Int, e = .returned (.int .i64 k) ∧ (0 ≤ k ↔ zs.any (fun f => f.1 == g.1) = true)) ∧ Only [] w w' := by
  have H := Lib.hid h
  have Hq := Lib.hid hq
  clear h hq
  go_enter Tryd.func47, Tryd.ntmps47
  go_wp2_with fail
  go_loopw [8] (fun iv wr => ∃ j : Nat, iv = .int .i64 j ∧ j ≤ zs.length ∧ (zs.take j).any (fun f => f.1 == g.1) = false ∧ Only [] w wr) (fun iv _ => zs.length - (intOf iv).toNat)
  case atStart => exact ⟨0, rfl, Nat.zero_le _, by simp, Only.refl _ _⟩
  case round =>
    obtain ⟨j, rfl, hj, hno, hO⟩ := hrel
    have HO := Lib.hid hO
    clear hO
    by_cases hlt : j < zs.length
    · obtain ⟨f, hf⟩ : ∃ f, zs[j]? = some f := ⟨_, List.getElem?_eq_getElem hlt⟩
      obtain ⟨b, off, rfl, hb, hc⟩ := (H.out.more HO.out) (by omega)
      obtain ⟨k0, k1⟩ := hc j f hf
      have hji : (j : Int) < (zs.length : Int) := by omega
      have htk : zs.take (j + 1) = zs.take j ++ [f] := by rw [List.take_add_one, hf]; rfl
      have Hs : Hid ((zs.take (j + 1)).any (fun f => f.1 == g.1) = (f.1 == g.1)) := Lib.hid (by rw [htk, List.any_append, hno]; simp)
      have Hall : Hid ((f.1 == g.1) = true → zs.any (fun f => f.1 == g.1) = true) := Lib.hid (fun h => by
        rw [List.any_eq_true]
        exact ⟨f, List.mem_of_getElem? hf, h⟩)
      clear hc hno htk
      unfold encStr at k0 k1
      go_wp2_with fail
      refine (twice_any wr q f g (Hq.out.only HO.out (by simp))).mono ?_
      rintro e w2 ⟨rfl, hO2⟩
      have HO2 := Lib.hid (HO.out.plus hO2)
      clear hO2 k0 k1
      cases hfg : (f.1 == g.1) with
      | true =>
        have hA := Hall.out hfg
        go_wp2
        go_ret
        exact ⟨⟨_, rfl, by constructor <;> intro _ <;> first | exact hA | omega⟩, HO2.out⟩
      | false =>
        go_wp2
        go_roundw
        case rel => exact ⟨j + 1, by go_num, by omega, by rw [Hs.out, hfg], HO2.out⟩
        case measure => simp [intOf]; omega
    · obtain rfl : j = zs.length := by omega
      have hji : ¬ ((zs.length : Nat) : Int) < (zs.length : Int) := by omega
      rw [List.take_length] at hno
      go_wp2_with fail
      go_ret
      exact ⟨⟨_, rfl, by first | omega | (rw [hno]; simp) | simp⟩, HO.out⟩

theorem containsF_any (w : World) (a : Option Addr) (c q : Nat) (zs : List FilM) (g : FilM) (h : FilAt w a zs) (hz : zs.length ≤ 1000000) (hq : IsBlk w q (.cells #[encStr g.1, encStr g.2] 41)) :
    Calls Tryd.prog 32 #[.slice a zs.length c, .func (.func 33) #[] #[.pointer (some ⟨q, 0, none⟩)]] w fun e w' =>
      e = .returned (.bool (zs.any (fun f => f.1 == g.1))) ∧ Only [] w w' := by
  have hi := indexF_any w a c q zs g h hz hq
  clear h hq
  generalize zs.any (fun f => f.1 == g.1) = r at *
  go_enter Tryd.func32, Tryd.ntmps32
  go_wp2_with fail
  refine hi.mono ?_
  rintro e w2 ⟨⟨k, rfl, hk⟩, hO2⟩
  cases r with
  | true =>
    have hk0 : 0 ≤ k := hk.2 rfl
    clear hk
    go_wp2
    go_ret
    exact ⟨by simp, hO2⟩
  | false =>
    have hk0 : ¬ 0 ≤ k := fun h => by have := hk.1 h; cases this
    clear hk
    go_wp2
    go_ret
    exact ⟨by simp [hk0], hO2⟩

end Go.Proofs.YtildkedplmjdaaaDoor
