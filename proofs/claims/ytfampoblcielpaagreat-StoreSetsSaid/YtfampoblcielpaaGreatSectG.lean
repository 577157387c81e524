/-
  The function Bytes of the package sect, by contracts.
-/
import Derived.Test.YtfampoblcielpaaGreatSectF
namespace Go.Proofs.YtfampoblcielpaaGreat
set_option linter.unusedVariables false
set_option maxRecDepth 100000
open Go.RowKit

set_option maxHeartbeats 1000000 in
theorem bytes_bad (w : World) (g r n o : Int) (a : Option Addr) (k cap : Nat) (d : List UInt8) (hd : d.length = k) (hm : okB ⟨g, r, n, o, d⟩ = false) :
    Calls Tryz.prog 58 #[.agg #[.int .i64 g, .int .i64 r, .int .i64 n, .int .i64 o, .slice a k cap]] w fun e w' => e = .returned (.tuple #[.slice none 0 0, .int .i64 1]) ∧ Only [] w w' := by
  have Hd := Lib.hid hd
  clear hd
  go_enter Tryz.func58, Tryz.ntmps58
  go_wp2_with fail
  refine (isPart_any _ g r n o a k cap d Hd.out).mono ?_
  rw [hm]
  rintro e w1 ⟨rfl, hO⟩
  go_wp2
  go_ret2
  exact ⟨rfl, ((Only.refl [] w).alloc _).then hO [] (by simp) (by simp)⟩

/-- What Bytes leaves where it may: a new block. -/
def BytesTo (w : World) (p : PartM) (e : Ending) (w' : World) : Prop :=
  ∃ gb, e = .returned (.tuple #[.slice (some ⟨gb, 0, none⟩) 64 64, .int .i64 0]) ∧ IsBlk w' gb (.cells (bv (bytesB p)).toArray 5) ∧ w.heap.size ≤ gb ∧ Only [] w w'

/-- The boxed Part. -/
def PBox (w : World) (q : Nat) (g r n o : Int) (a : Option Addr) (k cap : Nat) (t : TypeId) : Prop := IsBlk w q (.cells #[.int .i64 g, .int .i64 r, .int .i64 n, .int .i64 o, .slice a k cap] t)

/-- So many noughts. -/
def nul (n : Nat) : List UInt8 := List.replicate n 0
theorem length_nul (n : Nat) : (nul n).length = n := by simp [nul]
/-- On the way: the Part's box, the block that is being laid. -/
structure BS (w W : World) (q gb : Nat) (g r n o : Int) (a : Option Addr) (k cap : Nat) (t : TypeId) (L : List UInt8) : Prop where
  box : PBox W q g r n o a k cap t
  blk : IsBlk W gb (.cells (bv L).toArray 5)
  only : Only [] w W
  lt : q < gb
  old : w.heap.size ≤ q
section
variable {w W W' : World} {q gb : Nat} {g r n o : Int} {a : Option Addr} {k cap : Nat} {t : TypeId} {L L' : List UInt8}
theorem BS.drew (h : BS w W q gb g r n o a k cap t L) : BS w W.drew q gb g r n o a k cap t L := ⟨h.box, h.blk, h.only.drew, h.lt, h.old⟩
theorem BS.step (h : BS w W q gb g r n o a k cap t L) (hO : Only [gb] W W') (hb : IsBlk W' gb (.cells (bv L').toArray 5)) : BS w W' q gb g r n o a k cap t L' :=
  ⟨IsBlk.only h.box hO (by have := h.lt; simp; omega), hb, h.only.then hO [] (by simp) (by simp; have := h.lt; have := h.old; omega), h.lt, h.old⟩
theorem BS.same (h : BS w W q gb g r n o a k cap t L) (hO : Only [] W W') : BS w W' q gb g r n o a k cap t L :=
  ⟨IsBlk.only h.box hO (by simp), IsBlk.only h.blk hO (by simp), h.only.then hO [] (by simp) (by simp), h.lt, h.old⟩
theorem BS.c0 (h : BS w W q gb g r n o a k cap t L) : W.cell? ⟨q, 0, none⟩ = some (.int .i64 g) := IsBlk.cell h.box 0
theorem BS.c1 (h : BS w W q gb g r n o a k cap t L) : W.cell? ⟨q, 1, none⟩ = some (.int .i64 r) := IsBlk.cell h.box 1
theorem BS.c2 (h : BS w W q gb g r n o a k cap t L) : W.cell? ⟨q, 2, none⟩ = some (.int .i64 n) := IsBlk.cell h.box 2
theorem BS.c3 (h : BS w W q gb g r n o a k cap t L) : W.cell? ⟨q, 3, none⟩ = some (.int .i64 o) := IsBlk.cell h.box 3
theorem BS.c4 (h : BS w W q gb g r n o a k cap t L) : W.cell? ⟨q, 4, none⟩ = some (.slice a k cap) := IsBlk.cell h.box 4
theorem BS.src {d : List UInt8} (h : BS w W q gb g r n o a k cap t L) (hs : Src w a k d) : Src W a k d := hs.more h.only
end

/-- An append that grows: new memory. -/
theorem wpList_append_new {w : World} {ops : Array Oper} {rest : List Oper} {op : Oper} {a : Act} {Q : Exit → Act → World → Prop} (hgd : op.guard = none) (s x : Operand)
    (ho : op.op = .call { callee := .builtin .append, args := #[s, x], argTypes := #[37, 37] })
    (b o n c : Nat) (hs : a.eval s = .slice (some ⟨b, o, none⟩) n c) (xa : Option Addr) (m xc : Nat) (hx : a.eval x = .slice xa m xc) (L l : List UInt8) (hL : Src w (some ⟨b, o, none⟩) n L) (hl : Src w xa m l)
    (hg : c < n + m) (hm : 0 < m) (hn : n + m ≤ 1000000)
    (h : ∀ w' cap, Src w' (some ⟨w.heap.size, 0, none⟩) (n + m) (L ++ l) → Only [] w w' → wpList Tryz.prog ops Q rest (a.put op.dst (.slice (some ⟨w.heap.size, 0, none⟩) (n + m) cap)) w') : wpList Tryz.prog ops Q (op :: rest) a w := by
  obtain ⟨i0, hi, hz0, hz1, hz2⟩ := info_parts info5
  obtain ⟨b', o', rfl, hb', hr'⟩ := hl.2 hm
  have hl1 := hl.1
  have hL1 := hL.1
  refine wpList_plain hgd fun K hK => ?_
  have hrun := run_append_grow (P := Tryz.prog) w 37 op.type 5 i0 _ Tryz.underlying37 hi hz0 ⟨b, o, none⟩ n c (bv L) (by rw [length_bv, hL1, hz1, Nat.mul_one]) (fun j v hv => by
      have hj : j < n := by have := (List.getElem?_eq_some_iff.1 hv).1; rw [length_bv] at this; omega
      obtain ⟨b2, o2, e, _, hr⟩ := hL.2 (by omega)
      injection e with e; injection e with e1 e2; subst e1; subst e2
      rw [Addr.add_mid]; exact hr j v hv) ⟨b', o', none⟩ m xc (bv l) (by rw [length_bv, hl1, hz1, Nat.mul_one]) (fun j v hv => by rw [Addr.add_mid]; exact hr' j v hv) hg (by omega) (growslice_fits hg (by rw [hz2]; omega))
  unfold Oper.wp execOp
  simp only [ho, resolve, invoke, builtin, Sem.run_bind, Sem.run_pure, Result.andThen_ok, List.map_toArray, List.map_cons, List.map_nil, hs, hx, hrun]
  refine hK _ _ (h _ _ ⟨by simp; omega, fun _ => ⟨_, _, rfl, by simp, fun j v hv => ?_⟩⟩ ((Only.refl [] w).drew.alloc _))
  refine (cell_of_row _ w.heap.size (0 + j) _ 5 (0, 0) (heap_alloc_new w.drew _)).trans ?_
  rw [Nat.zero_add]
  have hj : j < (bv (L ++ l)).length := (List.getElem?_eq_some_iff.1 hv).1
  rw [bv_append] at hv hj
  have e1 : ((bv L).toArray ++ (bv l).toArray) = (bv L ++ bv l).toArray := by simp
  rw [e1, Array.getElem?_append_left (by simpa using hj)]
  simpa using hv

theorem blk_put8 {w : World} {g i : Nat} {L : List UInt8} (h : IsBlk w g (.cells (bv L).toArray 5)) (m : Nat) (hm : m < 256) :
    IsBlk (w.setCell ⟨g, i, none⟩ (.int .u8 (m : Int))) g (.cells (bv (L.set i (UInt8.ofNat m))).toArray 5) := by
  have := blk_put (i := i) h m
  rwa [show ((m : Int) % 256) = (m : Int) by omega] at this
theorem lay4 (g r n o : Nat) (d : List UInt8) : ((putB (putB (nul 64) 0 (leB 4 g)) 4 (leB 2 r)).set 6 (UInt8.ofNat n)).set 7 (UInt8.ofNat o) = headB ⟨g, r, n, o, d⟩ ++ nul 56 := by
  simp [nul, putB, headB, leB, List.range_succ]
theorem head_take (g r n o : Nat) (d : List UInt8) : ((headB ⟨g, r, n, o, d⟩ ++ nul 56).drop 0).take 8 = headB ⟨g, r, n, o, d⟩ := by
  have := length_headB ⟨g, r, n, o, d⟩
  rw [List.drop_zero, List.take_append_of_le_length (by omega), List.take_of_length_le (by omega)]
theorem lay_crc (p : PartM) (h : p.d.length = 52) : putB (putB (headB p ++ nul 56) 8 (leB 4 (crcN (headB p ++ p.d)))) 12 p.d = bytesB p := by
  have h8 := length_headB p
  have e4 := length_leB 4 (crcN (headB p ++ p.d))
  have e1 : putB (headB p ++ nul 56) 8 (leB 4 (crcN (headB p ++ p.d))) = (headB p ++ leB 4 (crcN (headB p ++ p.d))) ++ nul 52 := by
    unfold putB nul
    rw [e4, List.take_append_of_le_length (by omega), List.take_of_length_le (by omega), List.drop_append, List.drop_of_length_le (by omega), List.drop_replicate, h8]
    simp
  rw [e1]
  unfold putB nul
  rw [h, List.take_append_of_le_length (by simp; omega), List.take_of_length_le (by simp; omega), List.drop_append, List.drop_of_length_le (by simp; omega), List.drop_replicate]
  simp only [bytesB, List.length_append, h8, e4]
  simp

set_option maxHeartbeats 4000000 in
theorem bytes_ok (w : World) (g r n o : Nat) (a : Option Addr) (k cap : Nat) (d : List UInt8) (hm : okB ⟨g, r, n, o, d⟩ = true) (hs : Src w a k d) :
    Calls Tryz.prog 58 #[.agg #[.int .i64 g, .int .i64 r, .int .i64 n, .int .i64 o, .slice a k cap]] w (BytesTo w ⟨g, r, n, o, d⟩) := by
  obtain ⟨⟨h1, h2, h3, h4⟩, h5, h6, h7, h8, h9⟩ := okB_iff.1 hm
  simp only at h1 h2 h3 h4 h5 h6 h7 h8 h9
  have Hd := Lib.hid hs.1
  have h52 : k = 52 := by rw [← hs.1]; exact h9
  have Hs := Lib.hid hs
  have Hm := Lib.hid hm
  have hmk : ∀ W : World, (Instr.makeSlice 37 (.int .i64 64) (.int .i64 64)).run Tryz.prog W = .ok (.slice (some ⟨W.heap.size, 0, none⟩) 64 64) (W.alloc (.cells (bv (nul 64)).toArray 5)) := fun W => make_bytes W 64 (by omega)
  subst h52
  clear hs hm h9
  go_enter Tryz.func58, Tryz.ntmps58
  go_wp2_with fail
  refine (isPart_any _ g r n o a 52 cap d Hd.out).mono ?_
  rw [Hm.out]
  rintro e w1 ⟨rfl, hO1⟩
  have hB : BS w (w1.alloc (.cells (bv (nul 64)).toArray 5)).drew w.heap.size w1.heap.size g r n o a 52 cap 102 (nul 64) :=
    BS.drew ⟨IsBlk.alloc (IsBlk.only (IsBlk.made w _) hO1 (by simp)) _, IsBlk.made w1 _, (((Only.refl [] w).alloc _).then hO1 [] (by simp) (by simp)).alloc _, by have := hO1.size; simp at this; omega, Nat.le_refl _⟩
  have hgq := hB.lt
  clear hO1
  go_wp2_with fail
  refine still_tail 5 (by kernel_rfl) (by kernel_rfl) ?_
  simp only [List.take_succ_cons, List.take_zero, List.drop_succ_cons, List.drop_zero]
  generalize (w1.alloc (.cells (bv (nul 64)).toArray 5)).drew = W at *
  generalize w1.heap.size = gb at *
  have c0 := hB.c0
  have HB := Lib.hid hB
  clear hB
  iterate 5 still_step
  refine wpStill_nil ?_
  go_wp2_with fail
  refine (lay_any _ gb 0 4 _ g _ HB.out.blk (by rw [length_nul]; omega) (by omega) (by omega)).mono ?_
  rintro e w2 ⟨rfl, hb2, hO2⟩
  have hB2 := HB.out.step hO2 hb2
  clear HB hb2 hO2 c0
  have hB2' := hB2.drew
  go_wp2_with fail
  refine still_tail 5 (by kernel_rfl) (by kernel_rfl) ?_
  simp only [List.take_succ_cons, List.take_zero, List.drop_succ_cons, List.drop_zero]
  clear hB2
  generalize w2.drew = W2 at *
  have c1 := hB2'.c1
  have HB2 := Lib.hid hB2'
  clear hB2'
  iterate 5 still_step
  refine wpStill_nil ?_
  go_wp2_with fail
  refine (lay_any _ gb 4 2 _ r _ HB2.out.blk (by rw [length_putB _ _ _ (by rw [length_leB, length_nul]; omega), length_nul]; omega) (by omega) (by omega)).mono ?_
  rintro e w3 ⟨rfl, hb3, hO3⟩
  have hB3 := HB2.out.step hO3 hb3
  clear HB2 hb3 hO3 c1
  have hlen3 : (putB (putB (nul 64) 0 (leB 4 g)) 4 (leB 2 r)).length = 64 := by
    rw [length_putB _ _ _ (by rw [length_leB, length_putB _ _ _ (by rw [length_leB, length_nul]; omega), length_nul]; omega), length_putB _ _ _ (by rw [length_leB, length_nul]; omega), length_nul]
  have c2 := hB3.c2
  have c3 := hB3.c3
  have hc6 : w3.cell? ⟨gb, 6, none⟩ = some _ := (hB3.blk.cell 6).trans (bv_getElem _ 6 (by omega))
  have hc7 : w3.cell? ⟨gb, 7, none⟩ = some _ := (hB3.blk.cell 7).trans (bv_getElem _ 7 (by omega))
  have hf6 := hB3.blk.notFrozen 6
  have hf7 := hB3.blk.notFrozen 7
  have HB3 := Lib.hid hB3
  clear hB3
  have hB4 : BS w ((w3.setCell ⟨gb, 6, none⟩ (.int .u8 n)).setCell ⟨gb, 7, none⟩ (.int .u8 o)).drew w.heap.size gb g r n o a 52 cap 102 (headB ⟨g, r, n, o, d⟩ ++ nul 56) :=
    BS.drew (HB3.out.step (((Only.refl [gb] w3).setCell (by simp) _).setCell (by simp) _) (by
      rw [← lay4 g r n o d]; exact blk_put8 (blk_put8 HB3.out.blk n (by omega)) o (by omega)))
  go_wp2_with fail
  refine still_tail 4 (by kernel_rfl) (by kernel_rfl) ?_
  simp only [List.take_succ_cons, List.take_zero, List.drop_succ_cons, List.drop_zero]
  clear c2 c3 hc6 hc7 hf6 hf7 HB3
  generalize ((w3.setCell ⟨gb, 6, none⟩ (.int .u8 n)).setCell ⟨gb, 7, none⟩ (.int .u8 o)).drew = W4 at *
  have c4 := hB4.c4
  have HB4 := Lib.hid hB4
  clear hB4 hlen3
  have hh8 := length_headB ⟨g, r, n, o, d⟩
  iterate 4 still_step
  refine wpStill_nil ?_
  refine wpList_append_new rfl _ _ rfl gb 0 8 8 rfl a 52 cap rfl _ d (src_blk HB4.out.blk 0 8 (by rw [List.length_append, hh8, length_nul]; omega)) (HB4.out.src Hs.out) (by omega) (by omega) (by omega) fun W5 cap5 hs5 hO5 => ?_
  rw [head_take] at hs5
  have hB5 := HB4.out.same hO5
  generalize W4.heap.size = gs at *
  clear HB4 hO5 c4
  have hB5' := hB5.drew
  have hs5' := Lib.hid (hs5.more (Only.refl [] W5).drew)
  go_wp2_with fail
  refine still_tail 4 (by kernel_rfl) (by kernel_rfl) ?_
  simp only [List.take_succ_cons, List.take_zero, List.drop_succ_cons, List.drop_zero]
  clear hB5 hs5
  generalize W5.drew = W6 at *
  have HB6 := Lib.hid hB5'
  clear hB5'
  iterate 3 still_step
  still_call ((crc_any _ (some ⟨gs, 0, none⟩) 60 cap5 _ hs5'.out (by omega)).mono (fun e w' ⟨h1, h2⟩ => ⟨h1, h2.symm⟩))
  refine wpStill_nil ?_
  go_wp2_with fail
  refine (lay_any _ gb 8 4 _ (crcN (headB ⟨g, r, n, o, d⟩ ++ d)) _ HB6.out.blk (by rw [List.length_append, hh8, length_nul]; omega) (by omega) (crcN_lt _)).mono ?_
  rintro e w7 ⟨rfl, hb7, hO7⟩
  have hB7 := (HB6.out.step hO7 hb7).drew
  clear HB6 hb7 hO7 hs5'
  go_wp2_with fail
  refine still_tail 4 (by kernel_rfl) (by kernel_rfl) ?_
  simp only [List.take_succ_cons, List.take_zero, List.drop_succ_cons, List.drop_zero]
  generalize w7.drew = W8 at *
  have c4 := hB7.c4
  have HB7 := Lib.hid hB7
  clear hB7
  iterate 4 still_step
  refine wpStill_nil ?_
  refine wpList_copy_b rfl _ _ rfl gb 12 52 _ rfl a 52 cap rfl _ d HB7.out.blk (HB7.out.src Hs.out) (by rw [length_putB _ _ _ (by rw [length_leB, List.length_append, hh8, length_nul]; omega), List.length_append, hh8, length_nul]; omega) fun W9 nn hb9 hO9 => ?_
  rw [List.take_of_length_le (by rw [Hd.out]; omega), show putB (putB (headB ⟨g, r, n, o, d⟩ ++ nul 56) 8 (leB 4 (crcN (headB ⟨g, r, n, o, d⟩ ++ d)))) 12 d = bytesB ⟨g, r, n, o, d⟩ from lay_crc ⟨g, r, n, o, d⟩ Hd.out] at hb9
  have hB9 := HB7.out.step hO9 hb9
  clear HB7 hb9 hO9 c4
  go_wp2
  go_ret2
  exact ⟨gb, rfl, hB9.blk, by have := hB9.lt; omega, hB9.only⟩

end Go.Proofs.YtfampoblcielpaaGreat
