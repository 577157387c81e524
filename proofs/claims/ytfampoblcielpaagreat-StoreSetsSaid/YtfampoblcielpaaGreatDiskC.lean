/-
  The functions Read and Write of the package disk, by contracts over what a disk holds.
-/
import Derived.Test.YtfampoblcielpaaGreatDiskB
import Derived.Test.YtfampoblcielpaaGreatLaws
import Derived.StillTailTactics
namespace Go.Proofs.YtfampoblcielpaaGreat
set_option linter.unusedVariables false
set_option maxRecDepth 100000
open Go.RowKit

theorem size71 : (Tryz.prog.info? 133).map (·.size) = some 64 := by kernel_rfl
theorem size5 : (Tryz.prog.info? 5).map (·.size) = some 1 := by kernel_rfl
theorem zero71 (w : World) : (zeroValue 133).run Tryz.prog w = .ok (sec zeros) w := by kernel_rfl

/-- What a sector is now. -/
def DS.now (D : DS) (i : Nat) : List UInt8 := (D.fresh i).getD (D.last i)

/-- A slice in new memory. -/
def Made (w : World) (b : List UInt8) (x : Int) (e : Ending) (w' : World) : Prop :=
  ∃ g, e = .returned (.tuple #[.slice (some ⟨g, 0, none⟩) 64 64, .int .i64 x]) ∧ IsBlk w' g (.cells (bv b).toArray 5) ∧ w.heap.size ≤ g ∧ Only [] w w'

theorem look_ok (w : World) (p bl bm : Nat) (D : DS) (h : DiskAt w p bl bm D) (x : Int) :
    (Instr.lookup 70 (.map (some bm)) (.int .i64 x) true).run Tryz.prog w = .ok (.tuple #[((D.fresh x).map sec).getD (sec zeros), .bool (D.fresh x).isSome]) w := by
  obtain ⟨E, clk, hb, _, hg⟩ := h.map
  have := run_look (P := Tryz.prog) w 70 3 133 bm E clk x (sec zeros) Tryz.underlying70 Tryz.underlying3 (zero71 w) hb
  rw [this, hg x]
  cases D.fresh x <;> rfl

section
variable {ops : Array Oper} {rest : List Oper} {op : Oper} {a : Act} {W : World} {Q : Exit → Act → World → Prop}
/-- A sector stored into the newest block. -/
theorem st_sec (b : List UInt8) (hb : b.length = 64) (hgd : op.guard = none) (x y : Operand) (ho : op.op = .store 133 x y) (c : Array Value) (hc : c.size = 64) (g : Nat) (hx : a.eval x = .pointer (some ⟨g, 0, none⟩)) (hg : g = W.heap.size) (hy : a.eval y = sec b)
    (h : wpList Tryz.prog ops Q rest (a.put op.dst undef) (W.alloc (.cells (bv b).toArray 133))) : wpList Tryz.prog ops Q (op :: rest) a (W.alloc (.cells c 133)) := by
  have hs : (bv b).toArray.size = 64 := by simp [length_bv, hb]
  exact wpList_store_new hgd _ x y ho c (bv b).toArray g hg hx hy (by rw [hs]; exact size71) (by rw [hs, hc]) (all_oneCell_toArray (bv_one b)) h
/-- A sector's bytes copied into the newest block of bytes. -/
theorem cp_sec (b : List UInt8) (hb : b.length = 64) (hgd : op.guard = none) (d s : Operand) (ho : op.op = .call { callee := .builtin .copy, args := #[d, s], argTypes := #[37, 37] })
    (c : Array Value) (e : TypeId) (hc : c.size = 64) (g dCap : Nat) (hd : a.eval d = .slice (some ⟨g, 0, none⟩) 64 dCap) (hg : g = W.heap.size) (g' off sCap : Nat) (hs : a.eval s = .slice (some ⟨g', off, none⟩) 64 sCap)
    (hsrc : (W.alloc (.cells c e)).rangeAt g' off (bv b)) (h : wpList Tryz.prog ops Q rest (a.put op.dst (goInt 64)) (W.alloc (.cells (bv b).toArray e))) : wpList Tryz.prog ops Q (op :: rest) a (W.alloc (.cells c e)) :=
  wpList_copy_new hgd d s _ _ ho 5 Tryz.underlying37 size5 c e g 64 dCap hg hd g' off sCap hs (bv b) (by rw [length_bv, hb]) hc hsrc (bv_one b) (by rw [length_bv, hb]; exact h)
/-- A sector loaded. -/
theorem ld_sec (b : List UInt8) (hb : b.length = 64) (hgd : op.guard = none) (x : Operand) (ho : op.op = .load 133 x) (g o : Nat) (hx : a.eval x = .pointer (some ⟨g, o, none⟩)) (hc : W.rangeAt g o (bv b))
    (h : wpList Tryz.prog ops Q rest (a.put op.dst (sec b)) W) : wpList Tryz.prog ops Q (op :: rest) a W :=
  wpList_load_mid hgd _ x ho g o hx (bv b) _ hc Tryz.underlying133 rfl (by rw [length_bv, hb]; exact size71) h
/-- A sector loaded, in a region that draws its order. -/
theorem still_sec {Qs : Act → Prop} (b : List UInt8) (hb : b.length = 64) (hgd : op.guard = none) (x : Operand) (ho : op.op = .load 133 x) (g o : Nat) (hx : a.eval x = .pointer (some ⟨g, o, none⟩)) (hc : W.rangeAt g o (bv b))
    (h : wpStill Tryz.prog ops W Qs rest (a.put op.dst (sec b))) : wpStill Tryz.prog ops W Qs (op :: rest) a := by
  refine wpStill_step fun K hK => ?_
  have hw : Region.wanted op (yielded ops a.tmps) = true := by simp [Region.wanted, hgd]
  rw [if_pos hw]
  have hr := run_loadAt_mid (P := Tryz.prog) W g o 133 (bv b) _ hc Tryz.underlying133 rfl (by rw [length_bv, hb]; exact size71)
  unfold Oper.still execOp
  simp only [ho, hx, Sem.run_bind, hr, Result.andThen_ok, Sem.run_pure]
  exact ⟨rfl, hK _ h⟩
end
theorem range_new (w : World) (b : List UInt8) (t : TypeId) : (w.alloc (.cells (bv b).toArray t)).rangeAt w.heap.size 0 (bv b) := fun j v hv => by
  rw [Nat.zero_add, (IsBlk.made w (.cells (bv b).toArray t)).cell]; simpa using hv
theorem range_new2 (w : World) (b : List UInt8) (t : TypeId) (o : Obj) : ((w.alloc (.cells (bv b).toArray t)).alloc o).rangeAt w.heap.size 0 (bv b) := World.rangeAt_alloc (range_new w b t) o

set_option maxHeartbeats 400000 in
theorem read_dead (w : World) (p bl bm : Nat) (D : DS) (x : Int) (h : DiskAt w p bl bm D) (hd : D.dead = true) :
    Calls Tryz.prog 46 #[.pointer (some ⟨p, 0, none⟩), .int .i64 x] w fun e w' => e = .returned (.tuple #[.slice none 0 0, .int .i64 3]) ∧ w = w' := by
  have c3 := h.blk.c3
  rw [hd] at c3
  clear hd
  go_enter Tryz.func46, Tryz.ntmps46
  go_wp2
  go_ret2
  exact ⟨rfl, rfl⟩

set_option maxHeartbeats 400000 in
theorem read_none (w : World) (p bl bm : Nat) (D : DS) (x : Int) (h : DiskAt w p bl bm D) (hd : D.dead = false) (hx : hasB x D.n = false) :
    Calls Tryz.prog 46 #[.pointer (some ⟨p, 0, none⟩), .int .i64 x] w fun e w' => e = .returned (.tuple #[.slice none 0 0, .int .i64 1]) ∧ w = w' := by
  have hb := h.blk
  have c3 := h.blk.c3
  rw [hd] at c3
  clear hd
  go_enter Tryz.func46, Tryz.ntmps46
  go_wp2_with (go_at_call 70; refine (has_any _ p bl _ bm _ _ _ x hb).mono ?_; rintro e w' ⟨rfl, rfl⟩)
  go_ret2
  exact ⟨rfl, rfl⟩

set_option maxHeartbeats 1000000 in
theorem read_fresh (w : World) (p bl bm : Nat) (D : DS) (x : Nat) (b : List UInt8) (h : DiskAt w p bl bm D) (hd : D.dead = false) (hx : x < D.n) (hf : D.fresh x = some b) :
    Calls Tryz.prog 46 #[.pointer (some ⟨p, 0, none⟩), .int .i64 x] w (Made w b 0) := by
  have hb := h.blk
  have c3 := h.blk.c3
  rw [hd] at c3
  have c1 := h.blk.c1
  have hl := look_ok w p bl bm D h x
  have hbl := h.flen x b hf
  rw [hf] at hl
  have hl' : (Instr.lookup 70 (.map (some bm)) (.int .i64 x) true).run Tryz.prog w = .ok (.tuple #[sec b, .bool true]) w := hl
  have hh : hasB x D.n = true := by simp [hasB]; omega
  have hmk : ∀ W : World, (Instr.makeSlice 37 (.int .i64 64) (.int .i64 64)).run Tryz.prog W = .ok (.slice (some ⟨W.heap.size, 0, none⟩) 64 64) (W.alloc (.cells (bv zeros).toArray 5)) := fun _ => by kernel_rfl
  have Hbl := Lib.hid hbl
  have Hx := Lib.hid hx
  clear hd hl hf hbl hx
  go_enter Tryz.func46, Tryz.ntmps46
  go_wp2_with (first
    | (go_at_call 70; refine (has_any _ p bl _ bm _ _ _ x hb).mono ?_; rintro e w' ⟨rfl, rfl⟩)
    | (refine st_sec b Hbl.out rfl _ _ rfl _ rfl _ rfl rfl rfl ?_)
    | (refine cp_sec b Hbl.out rfl _ _ rfl _ _ ?_ _ _ rfl ?_ _ _ _ rfl ?_ ?_; (simp [length_bv, zeros]); (simp); exact range_new2 _ _ _ _))
  go_ret2
  exact ⟨_, rfl, by
    have := IsBlk.made (w.alloc (.cells (bv b).toArray 133)) (.cells (bv b).toArray 5)
    simpa using this, by omega, ((Only.refl [] w).alloc _).alloc _⟩

set_option maxHeartbeats 1000000 in
theorem read_last (w : World) (p bl bm : Nat) (D : DS) (x : Nat) (h : DiskAt w p bl bm D) (hd : D.dead = false) (hx : x < D.n) (hf : D.fresh x = none) :
    Calls Tryz.prog 46 #[.pointer (some ⟨p, 0, none⟩), .int .i64 x] w (Made w (D.last x) 0) := by
  have hb := h.blk
  have c3 := h.blk.c3
  rw [hd] at c3
  have c1 := h.blk.c1
  have c0 := h.blk.c0
  have hl := look_ok w p bl bm D h x
  have hbl := h.lens x hx
  rw [hf] at hl
  have hl' : (Instr.lookup 70 (.map (some bm)) (.int .i64 x) true).run Tryz.prog w = .ok (.tuple #[sec zeros, .bool false]) w := hl
  have hh : hasB x D.n = true := by simp [hasB]; omega
  have hmk : ∀ W : World, (Instr.makeSlice 37 (.int .i64 64) (.int .i64 64)).run Tryz.prog W = .ok (.slice (some ⟨W.heap.size, 0, none⟩) 64 64) (W.alloc (.cells (bv zeros).toArray 5)) := fun _ => by kernel_rfl
  have hr := h.rows x hx
  have hsm := h.small
  have hplt := h.plt
  generalize D.last x = b at *
  have Hbl := Lib.hid hbl
  have Hr := Lib.hid hr
  have hxi : (x : Int) < (D.n : Int) := by omega
  clear hd hl hf hbl hr
  go_enter Tryz.func46, Tryz.ntmps46
  go_wp2_with (first
    | (go_at_call 70; refine (has_any _ p bl _ bm _ _ _ x hb).mono ?_; rintro e w' ⟨rfl, rfl⟩)
    | (refine ld_sec b Hbl.out rfl _ rfl _ _ rfl ?_ ?_; (rw [Nat.mul_comm]; exact World.rangeAt_alloc Hr.out _))
    | (refine st_sec b Hbl.out rfl _ _ rfl _ ?_ _ rfl ?_ rfl ?_; (simp [length_bv, zeros]); (simp))
    | (refine st_sec zeros (by rfl) rfl _ _ rfl _ rfl _ rfl rfl rfl ?_)
    | (refine cp_sec b Hbl.out rfl _ _ rfl _ _ ?_ _ _ rfl ?_ _ _ _ rfl ?_ ?_; (simp [length_bv, zeros]); (simp); exact range_new2 _ _ _ _))
  go_ret2
  exact ⟨_, rfl, by
    have := IsBlk.made (w.alloc (.cells (bv b).toArray 133)) (.cells (bv b).toArray 5)
    simpa using this, by omega, ((Only.refl [] w).alloc _).alloc _⟩

end Go.Proofs.YtfampoblcielpaaGreat
