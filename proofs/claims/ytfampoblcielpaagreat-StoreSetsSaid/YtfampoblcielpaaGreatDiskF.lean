/-
  The function settle of the package disk: a sector's not being lasting ends, kept or forgotten.
-/
import Derived.Test.YtfampoblcielpaaGreatDiskE
namespace Go.Proofs.YtfampoblcielpaaGreat
set_option linter.unusedVariables false
set_option maxRecDepth 100000
open Go.RowKit

theorem store_disk (w : World) (p bl bm : Nat) (D : DS) (x : Nat) (b : List UInt8) (hb : b.length = 64) (h : DiskAt w p bl bm D) (hx : x < D.n) :
    DiskAt (w.setCells bl (64 * x) (bv b)) p bl bm { D with last := fun i => if i = x then b else D.last i } := by
  have hO : Only [bl] w (w.setCells bl (64 * x) (bv b)) := (Only.refl _ w).setCells _ _ _ (by simp)
  have hth : w.there bl (64 * x) (bv b).length := fun j hj => by
    rw [length_bv, hb] at hj
    have := h.room (64 * x + j) (by omega)
    simpa using this
  refine ⟨IsBlk.only h.blk hO (by simp; exact h.pl), fun i hi => ?_, fun i hi => ?_, World.there_setCells h.room _ _ _, Nat.lt_of_lt_of_le h.blt hO.size, ?_, h.flen, h.pl, h.pm, h.lm, h.small, h.fin⟩
  · by_cases e : i = x
    · subst e; simp only [if_true]; exact World.rangeAt_setCells_same _ _ _ _ hth
    · simp only [e, if_false]
      refine World.rangeAt_setCells_apart (h.rows i hi) _ _ _ (.inr ?_)
      rw [length_bv, length_bv, hb, h.lens i hi]; omega
  · by_cases e : i = x
    · simp only [e, if_true]; exact hb
    · simp only [e, if_false]; exact h.lens i hi
  · obtain ⟨E, clk, hE, hr⟩ := h.map
    exact ⟨E, clk, hE.only hO (by simp; exact h.lm.symm), hr⟩

theorem del_disk (w : World) (p bl bm : Nat) (D : DS) (x : Int) (h : DiskAt w p bl bm D) (E : List (Int × Value × Nat)) (clk : Nat) (hE : IsBlk w bm (mapObj E clk)) (hone : OneE E) (hg : ∀ x, getE x E = (D.fresh x).map sec) :
    DiskAt (withObj w bm (mapObj (delE x E) clk)) p bl bm { D with fresh := fun y => if y = x then none else D.fresh y } := by
  have hO : Only [bm] w (withObj w bm (mapObj (delE x E) clk)) := (Only.refl _ w).withObj _ _ (by simp)
  refine ⟨IsBlk.only h.blk hO (by simp; exact h.pm), fun i hi => rangeAt_only (h.rows i hi) hO h.blt (by simp; exact h.lm), h.lens, there_only h.room hO h.blt (by simp; exact h.lm), Nat.lt_of_lt_of_le h.blt hO.size,
    ⟨_, clk, withObj_same hE _, one_del _ _ hone, fun y => ?_⟩, fun y c hc => ?_, h.pl, h.pm, h.lm, h.small, fun y hy => by have := h.fin y hy; by_cases e : y = x <;> simp [e]; simpa [e] using this⟩
  · rw [get_del _ _ _ hone, hg y]
    by_cases e : y = x <;> simp [e]
  · by_cases e : y = x
    · simp [e] at hc
    · simp [e] at hc; exact h.flen y c hc

/-- What settle leaves. -/
def DS.settle (D : DS) (x : Nat) (keep : Bool) : DS :=
  { D with last := fun i => if i = x ∧ keep = true then (D.fresh x).getD (D.last i) else D.last i, fresh := fun y => if y = (x : Int) then none else D.fresh y }

def Settled (w : World) (p bl bm : Nat) (D : DS) (r : Bool) (e : Ending) (w' : World) : Prop :=
  e = .returned (.bool r) ∧ DiskAt w' p bl bm D ∧ Only [bl, bm] w w'

theorem settle_same {D : DS} {x : Nat} (keep : Bool) (hf : D.fresh x = none) : D.settle x keep = D := by
  have h1 : (fun i => if i = x ∧ keep = true then (D.fresh x).getD (D.last i) else D.last i) = D.last := by funext i; split <;> simp [hf]
  have h2 : (fun y => if y = (x : Int) then none else D.fresh y) = D.fresh := by funext y; by_cases e : y = (x : Int) <;> simp [e, hf]
  simp [DS.settle, h1, h2]

theorem settle_yes {D : DS} {x : Nat} {b : List UInt8} (hf : D.fresh x = some b) :
    D.settle x true = { D with last := fun i => if i = x then b else D.last i, fresh := fun y => if y = (x : Int) then none else D.fresh y } := by
  simp [DS.settle, hf]
theorem settle_no {D : DS} {x : Nat} : D.settle x false = { D with fresh := fun y => if y = (x : Int) then none else D.fresh y } := by
  simp [DS.settle]

set_option maxHeartbeats 1000000 in
theorem settle_none (w : World) (p bl bm : Nat) (D : DS) (x : Nat) (keep : Bool) (h : DiskAt w p bl bm D) (hf : D.fresh x = none) :
    Calls Tryz.prog 78 #[.pointer (some ⟨p, 0, none⟩), .int .i64 x, .bool keep] w (Settled w p bl bm (D.settle x keep) false) := by
  have c1 := h.blk.c1
  have hl := look_ok w p bl bm D h x
  rw [hf] at hl
  have hl' : (Instr.lookup 70 (.map (some bm)) (.int .i64 x) true).run Tryz.prog w = .ok (.tuple #[sec zeros, .bool false]) w := hl
  have H := Lib.hid h
  have Hf := Lib.hid hf
  clear hl h hf
  go_enter Tryz.func78, Tryz.ntmps78
  go_wp2_with (refine st_sec zeros (by rfl) rfl _ _ rfl _ rfl _ rfl rfl rfl ?_)
  go_ret
  have hO : Only [] w (w.alloc (.cells (bv zeros).toArray 133)) := (Only.refl _ w).alloc _
  exact ⟨rfl, by rw [settle_same keep Hf.out]; exact H.out.more hO, hO.into (by simp)⟩

set_option maxHeartbeats 1000000 in
theorem settle_lose (w : World) (p bl bm : Nat) (D : DS) (x : Nat) (b : List UInt8) (h : DiskAt w p bl bm D) (hf : D.fresh x = some b) :
    Calls Tryz.prog 78 #[.pointer (some ⟨p, 0, none⟩), .int .i64 x, .bool false] w (Settled w p bl bm (D.settle x false) true) := by
  have c1 := h.blk.c1
  have hl := look_ok w p bl bm D h x
  have hbl := h.flen x b hf
  rw [hf] at hl
  have hl' : (Instr.lookup 70 (.map (some bm)) (.int .i64 x) true).run Tryz.prog w = .ok (.tuple #[sec b, .bool true]) w := hl
  have hplt := h.plt
  have hO : Only [bl, bm] w (w.alloc (.cells (bv b).toArray 133)) := (Only.refl _ w).alloc _
  have hD1 : DiskAt (w.alloc (.cells (bv b).toArray 133)) p bl bm D := h.more ((Only.refl _ w).alloc _)
  have Hbl := Lib.hid hbl
  obtain ⟨E, clk, hE, hone, hge⟩ := hD1.map
  have hD2 := del_disk _ p bl bm D x hD1 E clk hE hone hge
  have hO2 := hO.withObj bm (mapObj (delE x E) clk) (by simp)
  have HD2 := Lib.hid hD2
  have HE := Lib.hid hE
  clear hl hf hbl hD1 hge hD2 hE h
  go_enter Tryz.func78, Tryz.ntmps78
  go_wp2_with (first
    | (refine st_sec b Hbl.out rfl _ _ rfl _ rfl _ rfl rfl rfl ?_)
    | (refine wpList_del _ _ _ bm E clk x Tryz.underlying70 Tryz.underlying3 HE.out rfl _ _ rfl rfl rfl ?_))
  go_ret
  exact ⟨rfl, by rw [settle_no]; exact HD2.out, hO2⟩

set_option maxHeartbeats 1000000 in
theorem settle_keep (w : World) (p bl bm : Nat) (D : DS) (x : Nat) (b : List UInt8) (h : DiskAt w p bl bm D) (hx : x < D.n) (hf : D.fresh x = some b) :
    Calls Tryz.prog 78 #[.pointer (some ⟨p, 0, none⟩), .int .i64 x, .bool true] w (Settled w p bl bm (D.settle x true) true) := by
  have c1 := h.blk.c1
  have hl := look_ok w p bl bm D h x
  have hbl := h.flen x b hf
  rw [hf] at hl
  have hl' : (Instr.lookup 70 (.map (some bm)) (.int .i64 x) true).run Tryz.prog w = .ok (.tuple #[sec b, .bool true]) w := hl
  have hplt := h.plt
  have hxi : (x : Int) < (D.n : Int) := by omega
  have hsm := h.small
  have Hbl := Lib.hid hbl
  have H := Lib.hid h
  have Hf := Lib.hid hf
  clear hl hf hbl h
  go_enter Tryz.func78, Tryz.ntmps78
  go_wp2_with (refine st_sec b Hbl.out rfl _ _ rfl _ rfl _ rfl rfl rfl ?_)
  have hO2 : Only [bl, bm] w (w.alloc (.cells (bv b).toArray 133)).drew := ((Only.refl _ w).alloc _).drew
  have hD2 : DiskAt (w.alloc (.cells (bv b).toArray 133)).drew p bl bm D := H.out.more ((Only.refl _ w).alloc _).drew
  have hr2 : (w.alloc (.cells (bv b).toArray 133)).drew.rangeAt w.heap.size 0 (bv b) := (World.rangeAt_drew _ _ _ _).2 (range_new w b _)
  refine still_tail 7 (by kernel_rfl) (by kernel_rfl) ?_
  simp only [List.take_succ_cons, List.take_zero, List.drop_succ_cons, List.drop_zero]
  clear hl' c1
  generalize (w.alloc (.cells (bv b).toArray 133)).drew = w2 at *
  have c0 := hD2.blk.c0
  have HD2 := Lib.hid hD2
  have Hr2 := Lib.hid hr2
  clear hD2 hr2
  iterate 5 still_step
  refine still_sec b Hbl.out rfl _ rfl _ _ rfl Hr2.out ?_
  still_step
  refine wpStill_nil ?_
  have hth : w2.there bl (x * 64) (bv b).toArray.size := fun j hj => by
    have hb := Hbl.out
    have hj' : j < 64 := by simpa [length_bv, hb] using hj
    have := HD2.out.room (x * 64 + j) (by omega)
    simpa using this
  refine wpList_store_mid rfl _ _ _ rfl bl (x * 64) (bv b).toArray rfl rfl hth (by have hb := Hbl.out; simp only [List.size_toArray, length_bv, hb]; exact size71) (all_oneCell_toArray (bv_one b)) ?_
  have hD3 := store_disk w2 p bl bm D x b Hbl.out HD2.out hx
  rw [Nat.mul_comm 64 x] at hD3
  have hO3 := hO2.setCells bl (x * 64) (bv b) (by simp)
  have ew : w2.setCells bl (x * 64) (bv b).toArray.toList = w2.setCells bl (x * 64) (bv b) := rfl
  rw [ew]
  clear ew hth c0
  generalize w2.setCells bl (x * 64) (bv b) = w3 at *
  have c1 := hD3.blk.c1
  obtain ⟨E, clk, hE, hone, hge⟩ := hD3.map
  have hD4 := del_disk _ p bl bm _ x hD3 E clk hE hone hge
  have hO4 := hO3.withObj bm (mapObj (delE x E) clk) (by simp)
  have HD4 := Lib.hid hD4
  have HE := Lib.hid hE
  clear hD3 hge hD4 hE hO3 hO2 HD2 Hr2 H
  go_wp2_with (refine wpList_del _ _ _ bm E clk x Tryz.underlying70 Tryz.underlying3 HE.out rfl _ _ rfl rfl rfl ?_)
  go_ret
  exact ⟨rfl, by rw [settle_yes Hf.out]; exact HD4.out, hO4⟩

theorem settle_any (w : World) (p bl bm : Nat) (D : DS) (x : Nat) (keep : Bool) (h : DiskAt w p bl bm D) (hx : x < D.n) :
    Calls Tryz.prog 78 #[.pointer (some ⟨p, 0, none⟩), .int .i64 x, .bool keep] w (Settled w p bl bm (D.settle x keep) (D.fresh x).isSome) := by
  cases hf : D.fresh x with
  | none => exact settle_none w p bl bm D x keep h hf
  | some b =>
    cases keep with
    | true => exact settle_keep w p bl bm D x b h hx hf
    | false => exact settle_lose w p bl bm D x b h hf

end Go.Proofs.YtfampoblcielpaaGreat
