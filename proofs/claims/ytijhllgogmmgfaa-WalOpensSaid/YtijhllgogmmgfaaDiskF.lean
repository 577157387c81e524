/-
  The function settle of the package disk: a sector's not being lasting ends, kept or forgotten.
-/
import Derived.Test.YtijhllgogmmgfaaDiskC
namespace Go.Proofs.Ytijhllgogmmgfaa
set_option linter.unusedVariables false
set_option maxRecDepth 100000
open Go.RowKit

set_option maxHeartbeats 1000000 in
theorem read_ok (w : World) (p bl bm : Nat) (D : DS) (x : Nat) (h : DiskAt w p bl bm D) (hd : D.dead = false) (hx : x < D.n) :
    Calls Try.prog 45 #[.pointer (some ⟨p, 0, none⟩), .int .i64 x] w (Made w (D.now x) 0) := by
  cases hf : D.fresh x with
  | none => have := read_last w p bl bm D x h hd hx hf; rwa [show D.now x = D.last x by simp [DS.now, hf]]
  | some b => have := read_fresh w p bl bm D x b h hd hx hf; rwa [show D.now x = b by simp [DS.now, hf]]

set_option maxHeartbeats 400000 in
theorem write_dead (w : World) (p bl bm : Nat) (D : DS) (x : Int) (s : Value) (h : DiskAt w p bl bm D) (hd : D.dead = true) :
    Calls Try.prog 25 #[.pointer (some ⟨p, 0, none⟩), .int .i64 x, s] w fun e w' => e = .returned (.int .i64 3) ∧ w = w' := by
  have c3 := h.blk.c3
  rw [hd] at c3
  clear hd
  go_enter Try.func25, Try.ntmps25
  go_wp2
  go_ret
  exact ⟨rfl, rfl⟩

def badW (x : Int) (n m : Nat) : Bool := !hasB x n || decide (m ≠ 64)

set_option maxHeartbeats 400000 in
theorem write_bad (w : World) (p bl bm : Nat) (D : DS) (x : Int) (a : Option Addr) (m c : Nat) (h : DiskAt w p bl bm D) (hd : D.dead = false) (hbad : badW x D.n m = true) :
    Calls Try.prog 25 #[.pointer (some ⟨p, 0, none⟩), .int .i64 x, .slice a m c] w fun e w' => e = .returned (.int .i64 1) ∧ w = w' := by
  have hb := h.blk
  have c3 := h.blk.c3
  rw [hd] at c3
  clear hd
  by_cases hh : hasB x D.n = true
  · have hm : ((m : Int) != 64) = true := by simp [badW, hh] at hbad; simp; omega
    clear hbad
    go_enter Try.func25, Try.ntmps25
    go_wp2_with (go_at_call 48; refine (has_any _ p bl _ bm _ _ _ x hb).mono ?_; rintro e w' ⟨rfl, rfl⟩)
    go_ret
    exact ⟨rfl, rfl⟩
  · have hh' : hasB x D.n = false := by simpa using hh
    clear hbad hh
    go_enter Try.func25, Try.ntmps25
    go_wp2_with (go_at_call 48; refine (has_any _ p bl _ bm _ _ _ x hb).mono ?_; rintro e w' ⟨rfl, rfl⟩)
    go_ret
    exact ⟨rfl, rfl⟩

set_option maxHeartbeats 400000 in
/-- The fuse has burnt down: the disk dies. -/
theorem write_spent (w : World) (p bl bm : Nat) (D : DS) (x : Nat) (a : Option Addr) (c : Nat) (h : DiskAt w p bl bm D) (hd : D.dead = false) (hx : x < D.n) (hf : D.fuse = 0) :
    Calls Try.prog 25 #[.pointer (some ⟨p, 0, none⟩), .int .i64 x, .slice a 64 c] w fun e w' => e = .returned (.int .i64 3) ∧ DiskAt w' p bl bm { D with fuse := 0, dead := true, ops := D.ops } ∧ Only [p] w w' := by
  have hb := h.blk
  have hb2 := h.blk
  have c3 := h.blk.c3
  rw [hd] at c3
  rw [hf] at hb2
  have hh : hasB x D.n = true := by simp [hasB]; omega
  clear hd hf
  go_enter Try.func25, Try.ntmps25
  go_wp2_with (first
    | (go_at_call 48; refine (has_any _ p bl _ bm _ _ _ x hb).mono ?_; rintro e w' ⟨rfl, rfl⟩)
    | (go_at_call 49; refine (burn_spent _ p bl _ bm _ _ hb2).mono ?_; rintro e w1 ⟨rfl, hb1, hO⟩))
  go_ret
  exact ⟨rfl, h.reblk hO 0 true D.ops hb1, hO⟩

/-- What a write leaves. -/
def DS.put (D : DS) (f k : Int) (x : Nat) (b : List UInt8) : DS := { D with fuse := f, ops := k, fresh := fun y => if y = (x : Int) then some b else D.fresh y }

theorem put_disk (w : World) (p bl bm : Nat) (D : DS) (x : Nat) (b : List UInt8) (hb : b.length = 64) (hx : x < D.n) (h : DiskAt w p bl bm D) (E : List (Int × Value × Nat)) (clk clk' : Nat) (hE : IsBlk w bm (mapObj E clk)) (hone : OneE E) (hg : ∀ x, getE x E = (D.fresh x).map sec) :
    DiskAt (withObj w bm (mapObj (putE x (sec b) clk E) clk')) p bl bm (D.put D.fuse D.ops x b) := by
  have hO : Only [bm] w (withObj w bm (mapObj (putE x (sec b) clk E) clk')) := (Only.refl _ w).withObj _ _ (by simp)
  refine ⟨IsBlk.only h.blk hO (by simp; exact h.pm), fun i hi => rangeAt_only (h.rows i hi) hO h.blt (by simp; exact h.lm), h.lens, there_only h.room hO h.blt (by simp; exact h.lm), Nat.lt_of_lt_of_le h.blt hO.size,
    ⟨_, clk', withObj_same hE _, one_put _ _ _ _ hone, fun y => ?_⟩, fun y c hc => ?_, h.pl, h.pm, h.lm, h.small, fun y hy => by
      have := h.fin y hy
      have hyn : (y < 0 ∨ (D.n : Int) ≤ y) := hy
      have e : ¬ y = (x : Int) := by omega
      simp [DS.put, e]; exact this⟩
  · rw [get_put, hg y]
    by_cases e : y = (x : Int) <;> simp [DS.put, e]
  · by_cases e : y = (x : Int)
    · simp [DS.put, e] at hc; rw [← hc]; exact hb
    · simp [DS.put, e] at hc; exact h.flen y c hc

/-- What Write answers where it writes. -/
def Wrote (w : World) (p bl bm : Nat) (D : DS) (e : Ending) (w' : World) : Prop :=
  e = .returned (.int .i64 0) ∧ DiskAt w' p bl bm D ∧ Only [p, bm] w w'

set_option maxHeartbeats 1000000 in
theorem write_ok (w : World) (p bl bm : Nat) (D : DS) (x : Nat) (g o c : Nat) (b : List UInt8) (h : DiskAt w p bl bm D) (hd : D.dead = false) (hx : x < D.n) (hf : D.fuse ≠ 0) (hf1 : -1 ≤ D.fuse) (hf2 : D.fuse < 1000000000000) (hk0 : 0 ≤ D.ops) (hk : D.ops < 1000000000000)
    (hb : b.length = 64) (hr : w.rangeAt g o (bv b)) (hg : g < w.heap.size) (hgp : g ≠ p) :
    Calls Try.prog 25 #[.pointer (some ⟨p, 0, none⟩), .int .i64 x, .slice (some ⟨g, o, none⟩) 64 c] w (Wrote w p bl bm (D.put (burnt D.fuse) (D.ops + 1) x b)) := by
  have hb0 := h.blk
  have c3 := h.blk.c3
  rw [hd] at c3
  have Hf := Lib.hid hf
  have hh : hasB x D.n = true := by simp [hasB]; omega
  have Hb := Lib.hid hb
  have Hr := Lib.hid hr
  have Hgp := Lib.hid hgp
  have H := Lib.hid h
  clear hd hf hb hr hgp h
  go_enter Try.func25, Try.ntmps25
  go_wp2_with (first
    | (go_at_call 48; refine (has_any _ p bl _ bm _ _ _ x hb0).mono ?_; rintro e w' ⟨rfl, rfl⟩)
    | (go_at_call 49; refine (burn_ok _ p bl _ bm _ _ _ hb0 Hf.out hf1 hf2 hk0 hk).mono ?_; rintro e w1 ⟨rfl, hb1, hO⟩)
    | (refine cp_sec b Hb.out rfl _ _ rfl _ _ ?_ _ _ rfl ?_ _ _ _ rfl ?_ ?_; (rfl); (simp); exact World.rangeAt_alloc (rangeAt_only Hr.out hO hg (by simpa using Hgp.out)) _))
  have hD1 := (H.out).reblk hO (burnt D.fuse) D.dead (D.ops + 1) hb1
  have hD2 : DiskAt (w1.alloc (.cells (bv b).toArray 102)).drew p bl bm _ := hD1.keep (S := []) ((Only.refl [] w1).alloc _).drew (by simp) (by simp) (by simp)
  have hO2 : Only [p, bm] w (w1.alloc (.cells (bv b).toArray 102)).drew := ((hO.into (T := [p, bm]) (by simp)).alloc _).drew
  have hr2 : (w1.alloc (.cells (bv b).toArray 102)).drew.rangeAt w1.heap.size 0 (bv b) := (World.rangeAt_drew _ _ _ _).2 (range_new w1 b _)
  refine still_tail 6 (by kernel_rfl) (by kernel_rfl) ?_
  simp only [List.take_succ_cons, List.take_zero, List.drop_succ_cons, List.drop_zero]
  generalize (w1.alloc (.cells (bv b).toArray 102)).drew = w2 at *
  have c1 := hD2.blk.c1
  have HD2 := Lib.hid hD2
  have Hr2 := Lib.hid hr2
  clear hD1 hD2 hr2 hb1 hO hb0 c3
  iterate 5 still_step
  refine still_sec b Hb.out rfl _ rfl _ _ rfl Hr2.out ?_
  refine wpStill_nil ?_
  obtain ⟨E, clk, hE, hone, hge⟩ := HD2.out.map
  refine wpList_put _ _ _ bm E clk x (sec b) Try.underlying85 Try.underlying3 hE rfl _ _ _ rfl rfl rfl rfl fun clk' => ?_
  have hD3 := put_disk _ p bl bm _ x b Hb.out (by exact hx) HD2.out E clk clk' hE hone hge
  have hO3 := hO2.withObj bm (mapObj (putE x (sec b) clk E) clk') (by simp)
  generalize withObj w2 bm (mapObj (putE x (sec b) clk E) clk') = w3 at *
  clear hge hE hone
  go_wp2
  go_ret
  exact ⟨rfl, hD3, hO3⟩

end Go.Proofs.Ytijhllgogmmgfaa
namespace Go.Proofs.Ytijhllgogmmgfaa
set_option linter.unusedVariables false
set_option maxRecDepth 100000
open Go.RowKit

set_option maxHeartbeats 400000 in
theorem flush_dead (w : World) (p bl bm : Nat) (D : DS) (h : DiskAt w p bl bm D) (hd : D.dead = true) :
    Calls Try.prog 27 #[.pointer (some ⟨p, 0, none⟩)] w fun e w' => e = .returned (.int .i64 3) ∧ w = w' := by
  have c3 := h.blk.c3
  rw [hd] at c3
  clear hd
  go_enter Try.func27, Try.ntmps27
  go_wp2
  go_ret
  exact ⟨rfl, rfl⟩

set_option maxHeartbeats 400000 in
theorem flush_spent (w : World) (p bl bm : Nat) (D : DS) (h : DiskAt w p bl bm D) (hd : D.dead = false) (hf : D.fuse = 0) :
    Calls Try.prog 27 #[.pointer (some ⟨p, 0, none⟩)] w fun e w' => e = .returned (.int .i64 3) ∧ DiskAt w' p bl bm { D with fuse := 0, dead := true, ops := D.ops } ∧ Only [p] w w' := by
  have hb2 := h.blk
  have c3 := h.blk.c3
  rw [hd] at c3
  rw [hf] at hb2
  clear hd hf
  go_enter Try.func27, Try.ntmps27
  go_wp2_with (go_at_call 49; refine (burn_spent _ p bl _ bm _ _ hb2).mono ?_; rintro e w1 ⟨rfl, hb1, hO⟩)
  go_ret
  exact ⟨rfl, h.reblk hO 0 true D.ops hb1, hO⟩

end Go.Proofs.Ytijhllgogmmgfaa
namespace Go.Proofs.Ytijhllgogmmgfaa
set_option linter.unusedVariables false
set_option maxRecDepth 100000
open Go.RowKit

theorem store_disk (w : World) (p bl bm : Nat) (D : DS) (x : Nat) (b : List UInt8) (hb : b.length = 64) (h : DiskAt w p bl bm D) (hx : x < D.n) :
    DiskAt (w.setCells bl (64 * x) (bv b)) p bl bm { D with last := fun i => if i = x then b else D.last i } := by
  have hO : Only [bl] w (w.setCells bl (64 * x) (bv b)) := (Only.refl _ w).setCells _ _ _ (by simp)
  have hth : w.there bl (64 * x) (bv b).length := fun j hj => by
    rw [length_bv, hb] at hj
    have := h.room (64 * x + j) (by omega)
    simpa using this
  refine ⟨IsBlk.only h.blk hO (by simp; exact h.pl), fun i hi => ?_, fun i hi => ?_, World.there_setCells h.room _ _ _, Nat.lt_of_lt_of_le h.blt hO.size, ?_, h.flen, h.pl, h.pm, h.lm, h.small, h.fin⟩
  · by_cases e : i = x
    · subst e; simp only [if_true]; exact World.rangeAt_setCells_same _ _ _ _ hth
    · simp only [e, if_false]
      refine World.rangeAt_setCells_apart (h.rows i hi) _ _ _ (.inr ?_)
      rw [length_bv, length_bv, hb, h.lens i hi]; omega
  · by_cases e : i = x
    · simp only [e, if_true]; exact hb
    · simp only [e, if_false]; exact h.lens i hi
  · obtain ⟨E, clk, hE, hr⟩ := h.map
    exact ⟨E, clk, hE.only hO (by simp; exact h.lm.symm), hr⟩

theorem del_disk (w : World) (p bl bm : Nat) (D : DS) (x : Int) (h : DiskAt w p bl bm D) (E : List (Int × Value × Nat)) (clk : Nat) (hE : IsBlk w bm (mapObj E clk)) (hone : OneE E) (hg : ∀ x, getE x E = (D.fresh x).map sec) :
    DiskAt (withObj w bm (mapObj (delE x E) clk)) p bl bm { D with fresh := fun y => if y = x then none else D.fresh y } := by
  have hO : Only [bm] w (withObj w bm (mapObj (delE x E) clk)) := (Only.refl _ w).withObj _ _ (by simp)
  refine ⟨IsBlk.only h.blk hO (by simp; exact h.pm), fun i hi => rangeAt_only (h.rows i hi) hO h.blt (by simp; exact h.lm), h.lens, there_only h.room hO h.blt (by simp; exact h.lm), Nat.lt_of_lt_of_le h.blt hO.size,
    ⟨_, clk, withObj_same hE _, one_del _ _ hone, fun y => ?_⟩, fun y c hc => ?_, h.pl, h.pm, h.lm, h.small, fun y hy => by have := h.fin y hy; by_cases e : y = x <;> simp [e]; simpa [e] using this⟩
  · rw [get_del _ _ _ hone, hg y]
    by_cases e : y = x <;> simp [e]
  · by_cases e : y = x
    · simp [e] at hc
    · simp [e] at hc; exact h.flen y c hc

/-- What settle leaves. -/
def DS.settle (D : DS) (x : Nat) (keep : Bool) : DS :=
  { D with last := fun i => if i = x ∧ keep = true then (D.fresh x).getD (D.last i) else D.last i, fresh := fun y => if y = (x : Int) then none else D.fresh y }

def Settled (w : World) (p bl bm : Nat) (D : DS) (r : Bool) (e : Ending) (w' : World) : Prop :=
  e = .returned (.bool r) ∧ DiskAt w' p bl bm D ∧ Only [bl, bm] w w'

theorem settle_same {D : DS} {x : Nat} (keep : Bool) (hf : D.fresh x = none) : D.settle x keep = D := by
  have h1 : (fun i => if i = x ∧ keep = true then (D.fresh x).getD (D.last i) else D.last i) = D.last := by funext i; split <;> simp [hf]
  have h2 : (fun y => if y = (x : Int) then none else D.fresh y) = D.fresh := by funext y; by_cases e : y = (x : Int) <;> simp [e, hf]
  simp [DS.settle, h1, h2]

theorem settle_yes {D : DS} {x : Nat} {b : List UInt8} (hf : D.fresh x = some b) :
    D.settle x true = { D with last := fun i => if i = x then b else D.last i, fresh := fun y => if y = (x : Int) then none else D.fresh y } := by
  simp [DS.settle, hf]
theorem settle_no {D : DS} {x : Nat} : D.settle x false = { D with fresh := fun y => if y = (x : Int) then none else D.fresh y } := by
  simp [DS.settle]

set_option maxHeartbeats 1000000 in
theorem settle_none (w : World) (p bl bm : Nat) (D : DS) (x : Nat) (keep : Bool) (h : DiskAt w p bl bm D) (hf : D.fresh x = none) :
    Calls Try.prog 51 #[.pointer (some ⟨p, 0, none⟩), .int .i64 x, .bool keep] w (Settled w p bl bm (D.settle x keep) false) := by
  have c1 := h.blk.c1
  have hl := look_ok w p bl bm D h x
  rw [hf] at hl
  have hl' : (Instr.lookup 85 (.map (some bm)) (.int .i64 x) true).run Try.prog w = .ok (.tuple #[sec zeros, .bool false]) w := hl
  have H := Lib.hid h
  have Hf := Lib.hid hf
  clear hl h hf
  go_enter Try.func51, Try.ntmps51
  go_wp2_with (refine st_sec zeros (by rfl) rfl _ _ rfl _ rfl _ rfl rfl rfl ?_)
  go_ret
  have hO : Only [] w (w.alloc (.cells (bv zeros).toArray 102)) := (Only.refl _ w).alloc _
  exact ⟨rfl, by rw [settle_same keep Hf.out]; exact H.out.more hO, hO.into (by simp)⟩

set_option maxHeartbeats 1000000 in
theorem settle_lose (w : World) (p bl bm : Nat) (D : DS) (x : Nat) (b : List UInt8) (h : DiskAt w p bl bm D) (hf : D.fresh x = some b) :
    Calls Try.prog 51 #[.pointer (some ⟨p, 0, none⟩), .int .i64 x, .bool false] w (Settled w p bl bm (D.settle x false) true) := by
  have c1 := h.blk.c1
  have hl := look_ok w p bl bm D h x
  have hbl := h.flen x b hf
  rw [hf] at hl
  have hl' : (Instr.lookup 85 (.map (some bm)) (.int .i64 x) true).run Try.prog w = .ok (.tuple #[sec b, .bool true]) w := hl
  have hplt := h.plt
  have hO : Only [bl, bm] w (w.alloc (.cells (bv b).toArray 102)) := (Only.refl _ w).alloc _
  have hD1 : DiskAt (w.alloc (.cells (bv b).toArray 102)) p bl bm D := h.more ((Only.refl _ w).alloc _)
  have Hbl := Lib.hid hbl
  obtain ⟨E, clk, hE, hone, hge⟩ := hD1.map
  have hD2 := del_disk _ p bl bm D x hD1 E clk hE hone hge
  have hO2 := hO.withObj bm (mapObj (delE x E) clk) (by simp)
  have HD2 := Lib.hid hD2
  have HE := Lib.hid hE
  clear hl hf hbl hD1 hge hD2 hE h
  go_enter Try.func51, Try.ntmps51
  go_wp2_with (first
    | (refine st_sec b Hbl.out rfl _ _ rfl _ rfl _ rfl rfl rfl ?_)
    | (refine wpList_del _ _ _ bm E clk x Try.underlying85 Try.underlying3 HE.out rfl _ _ rfl rfl rfl ?_))
  go_ret
  exact ⟨rfl, by rw [settle_no]; exact HD2.out, hO2⟩

set_option maxHeartbeats 1000000 in
theorem settle_keep (w : World) (p bl bm : Nat) (D : DS) (x : Nat) (b : List UInt8) (h : DiskAt w p bl bm D) (hx : x < D.n) (hf : D.fresh x = some b) :
    Calls Try.prog 51 #[.pointer (some ⟨p, 0, none⟩), .int .i64 x, .bool true] w (Settled w p bl bm (D.settle x true) true) := by
  have c1 := h.blk.c1
  have hl := look_ok w p bl bm D h x
  have hbl := h.flen x b hf
  rw [hf] at hl
  have hl' : (Instr.lookup 85 (.map (some bm)) (.int .i64 x) true).run Try.prog w = .ok (.tuple #[sec b, .bool true]) w := hl
  have hplt := h.plt
  have hxi : (x : Int) < (D.n : Int) := by omega
  have hsm := h.small
  have Hbl := Lib.hid hbl
  have H := Lib.hid h
  have Hf := Lib.hid hf
  clear hl hf hbl h
  go_enter Try.func51, Try.ntmps51
  go_wp2_with (refine st_sec b Hbl.out rfl _ _ rfl _ rfl _ rfl rfl rfl ?_)
  have hO2 : Only [bl, bm] w (w.alloc (.cells (bv b).toArray 102)).drew := ((Only.refl _ w).alloc _).drew
  have hD2 : DiskAt (w.alloc (.cells (bv b).toArray 102)).drew p bl bm D := H.out.more ((Only.refl _ w).alloc _).drew
  have hr2 : (w.alloc (.cells (bv b).toArray 102)).drew.rangeAt w.heap.size 0 (bv b) := (World.rangeAt_drew _ _ _ _).2 (range_new w b _)
  refine still_tail 7 (by kernel_rfl) (by kernel_rfl) ?_
  simp only [List.take_succ_cons, List.take_zero, List.drop_succ_cons, List.drop_zero]
  clear hl' c1
  generalize (w.alloc (.cells (bv b).toArray 102)).drew = w2 at *
  have c0 := hD2.blk.c0
  have HD2 := Lib.hid hD2
  have Hr2 := Lib.hid hr2
  clear hD2 hr2
  iterate 5 still_step
  refine still_sec b Hbl.out rfl _ rfl _ _ rfl Hr2.out ?_
  still_step
  refine wpStill_nil ?_
  have hth : w2.there bl (x * 64) (bv b).toArray.size := fun j hj => by
    have hb := Hbl.out
    have hj' : j < 64 := by simpa [length_bv, hb] using hj
    have := HD2.out.room (x * 64 + j) (by omega)
    simpa using this
  refine wpList_store_mid rfl _ _ _ rfl bl (x * 64) (bv b).toArray rfl rfl hth (by have hb := Hbl.out; simp only [List.size_toArray, length_bv, hb]; exact size71) (all_oneCell_toArray (bv_one b)) ?_
  have hD3 := store_disk w2 p bl bm D x b Hbl.out HD2.out hx
  rw [Nat.mul_comm 64 x] at hD3
  have hO3 := hO2.setCells bl (x * 64) (bv b) (by simp)
  have ew : w2.setCells bl (x * 64) (bv b).toArray.toList = w2.setCells bl (x * 64) (bv b) := rfl
  rw [ew]
  clear ew hth c0
  generalize w2.setCells bl (x * 64) (bv b) = w3 at *
  have c1 := hD3.blk.c1
  obtain ⟨E, clk, hE, hone, hge⟩ := hD3.map
  have hD4 := del_disk _ p bl bm _ x hD3 E clk hE hone hge
  have hO4 := hO3.withObj bm (mapObj (delE x E) clk) (by simp)
  have HD4 := Lib.hid hD4
  have HE := Lib.hid hE
  clear hD3 hge hD4 hE hO3 hO2 HD2 Hr2 H
  go_wp2_with (refine wpList_del _ _ _ bm E clk x Try.underlying85 Try.underlying3 HE.out rfl _ _ rfl rfl rfl ?_)
  go_ret
  exact ⟨rfl, by rw [settle_yes Hf.out]; exact HD4.out, hO4⟩

theorem settle_any (w : World) (p bl bm : Nat) (D : DS) (x : Nat) (keep : Bool) (h : DiskAt w p bl bm D) (hx : x < D.n) :
    Calls Try.prog 51 #[.pointer (some ⟨p, 0, none⟩), .int .i64 x, .bool keep] w (Settled w p bl bm (D.settle x keep) (D.fresh x).isSome) := by
  cases hf : D.fresh x with
  | none => exact settle_none w p bl bm D x keep h hf
  | some b =>
    cases keep with
    | true => exact settle_keep w p bl bm D x b h hx hf
    | false => exact settle_lose w p bl bm D x b h hf

end Go.Proofs.Ytijhllgogmmgfaa
