/-
  How bytes are cut: what chapter 2 says by itself, and the function Cut of the package sect.
-/
import Derived.Test.YtfampoblcielpaaGreatDiskC
import Derived.Test.YtfampoblcielpaaGreatSectD
namespace Go.Proofs.YtfampoblcielpaaGreat
set_option linter.unusedVariables false
set_option maxRecDepth 100000
open Go.RowKit

/-- How many Parts so many bytes are cut into. -/
def partsN (n : Nat) : Nat := (n + 55) / 52
theorem partsN_le (n : Nat) : 4 + n ≤ partsN n * 52 := by unfold partsN; omega
/-- The bytes that are cut: how many, they, noughts. -/
def wholeB (b : List UInt8) : List UInt8 := leB 4 b.length ++ (b ++ List.replicate (partsN b.length * 52 - (4 + b.length)) 0)
theorem length_wholeB (b : List UInt8) : (wholeB b).length = partsN b.length * 52 := by
  have := partsN_le b.length
  simp [wholeB, length_leB]; omega
theorem whole_put (b : List UInt8) : putB (putB (List.replicate (partsN b.length * 52) 0) 0 (leB 4 b.length)) 4 b = wholeB b := by
  have := partsN_le b.length
  have e4 := length_leB 4 b.length
  have e1 : putB (List.replicate (partsN b.length * 52) 0) 0 (leB 4 b.length) = leB 4 b.length ++ List.replicate (partsN b.length * 52 - 4) 0 := by
    simp [putB, e4]
  rw [e1]
  unfold putB wholeB
  rw [List.take_append_of_le_length (by omega), List.take_of_length_le (by omega), List.drop_append, List.drop_of_length_le (by omega), List.drop_replicate, List.nil_append, e4,
    show partsN b.length * 52 - 4 - (4 + b.length - 4) = partsN b.length * 52 - (4 + b.length) by omega]
/-- The bytes that Part i carries. -/
def pieceB (t : List UInt8) (i : Nat) : List UInt8 := (t.drop (i * 52)).take 52
theorem length_pieceB (t : List UInt8) (i : Nat) (h : (i + 1) * 52 ≤ t.length) : (pieceB t i).length = 52 := by simp [pieceB]; omega
def cutP (g r : Int) (b : List UInt8) : List PartM := (List.range (partsN b.length)).map fun i : Nat => ⟨g, r, (i : Int), (partsN b.length : Int), pieceB (wholeB b) i⟩
theorem length_cutP (g r : Int) (b : List UInt8) : (cutP g r b).length = partsN b.length := by simp [cutP]

/-- The five cells of a Part. -/
def partC (g r n o : Int) (a : Option Addr) (len cap : Nat) : List Value := [.int .i64 g, .int .i64 r, .int .i64 n, .int .i64 o, .slice a len cap]
/-- A Part that lies somewhere. -/
def PartAt (w : World) (b o : Nat) (p : PartM) : Prop := ∃ a cap, w.rangeAt b o (partC p.g p.r p.n p.o a p.d.length cap) ∧ Src w a p.d.length p.d
/-- Parts that lie somewhere. -/
def PartsAt (w : World) (a : Option Addr) (len : Nat) (ps : List PartM) : Prop :=
  ps.length = len ∧ (0 < len → ∃ b o, a = some ⟨b, o, none⟩ ∧ b < w.heap.size ∧ ∀ i p, ps[i]? = some p → PartAt w b (o + i * 5) p)

theorem rangeAt_below {B : Nat} {a b : World} {g o : Nat} {cs : List Value} (h : a.rangeAt g o cs) (ho : Below B a b) (hg : g < B) : b.rangeAt g o cs :=
  fun j v hv => (ho.cell (p := ⟨g, o + j, none⟩) hg).trans (h j v hv)
theorem Src.below {B : Nat} {w w' : World} {a : Option Addr} {len : Nat} {l : List UInt8} (h : Src w a len l) (ho : Below B w w') (hs : 0 < len → ∀ b o, a = some ⟨b, o, none⟩ → b < B) : Src w' a len l :=
  ⟨h.1, fun hp => by obtain ⟨b, o, rfl, hb, hr⟩ := h.2 hp; exact ⟨b, o, rfl, Nat.lt_of_lt_of_le hb ho.size, rangeAt_below hr ho (hs hp b o rfl)⟩⟩

theorem setRow_same {w : World} {g : Nat} {c : Array Value} {t : TypeId} (h : IsBlk w g (.cells c t)) (c' : Array Value) : IsBlk (w.setRow g c') g (.cells c' t) := by
  have hl := h.lt
  unfold IsBlk at h ⊢
  rw [Array.getElem?_eq_getElem hl] at h
  injection h with h
  simp [World.setRow, Array.getElem?_modify, Array.getElem?_eq_getElem hl, h]
theorem Only.setRow {S : List Nat} {a b : World} (h : Only S a b) (g : Nat) (c : Array Value) (hp : g ∈ S ∨ a.heap.size ≤ g) : Only S a (b.setRow g c) :=
  ⟨h.os, h.tape, h.output, by rw [size_setRow]; exact h.size, fun i hi hn => (setRow_other b g i c (fun e => by subst e; rcases hp with hp | hp; exact hn hp; omega)).trans (h.block i hi hn)⟩

/-- A copy of bytes into a block of bytes. -/
theorem wpList_copy_b {w : World} {ops : Array Oper} {rest : List Oper} {op : Oper} {a : Act} {Q : Exit → Act → World → Prop} (hgd : op.guard = none) (d s : Operand)
    (ho : op.op = .call { callee := .builtin .copy, args := #[d, s], argTypes := #[37, 37] })
    (g off m dCap : Nat) (hd : a.eval d = .slice (some ⟨g, off, none⟩) m dCap) (sa : Option Addr) (len sCap : Nat) (hs : a.eval s = .slice sa len sCap)
    (L l : List UInt8) (hb : IsBlk w g (.cells (bv L).toArray 5)) (hsrc : Src w sa len l) (hm : off + m ≤ L.length)
    (h : ∀ w' n, IsBlk w' g (.cells (bv (putB L off (l.take m))).toArray 5) → Only [g] w w' → wpList Tryz.prog ops Q rest (a.put op.dst n) w') : wpList Tryz.prog ops Q (op :: rest) a w := by
  have hl := hsrc.1
  by_cases h0 : Nat.min len m = 0
  · refine wpList_copy_nothing hgd d s _ _ ho 5 Tryz.underlying37 size5 _ _ m dCap len sCap hd hs h0 (h w _ ?_ (Only.refl _ _))
    have : l.take m = [] := by
      rcases Nat.min_eq_zero_iff.1 h0 with h1 | h1
      · rw [List.eq_nil_of_length_eq_zero (by omega : l.length = 0)]; simp
      · simp [h1]
    rw [this, putB_nil]
    exact hb
  · have h00 : ¬ min len m = 0 := h0
    obtain ⟨b, o, rfl, hbb, hr⟩ := hsrc.2 (by omega)
    refine wpList_copy_own hgd d s _ _ ho 5 Tryz.underlying37 size5 g off m dCap ⟨b, o, none⟩ len sCap hd hs (bv L).toArray 5 hb (bv (l.take m))
      (by rw [length_bv, List.length_take, hl, Nat.min_comm]) (fun j v hv => ?_) (by rw [length_bv, List.length_take]; simp [length_bv]; omega) (bv_one _) (h _ _ ?_ ((Only.refl _ _).setRow g _ (by simp)))
    · rw [Addr.add_mid]
      rw [bv_take, List.getElem?_take] at hv
      split at hv
      · exact hr j v hv
      · cases hv
    · have := setRow_same hb ((bv L).toArray.toList.take off ++ (bv (l.take m) ++ (bv L).toArray.toList.drop (off + (bv (l.take m)).length))).toArray
      have e1 : (bv L).toArray.toList.take off ++ (bv (l.take m) ++ (bv L).toArray.toList.drop (off + (bv (l.take m)).length)) = bv (putB L off (l.take m)) := by
        simp only [putB, bv_append, bv_take, bv_drop, length_bv, List.length_take]
      rw [e1] at this ⊢
      exact this

theorem make_bytes (w : World) (n : Nat) (hn : n ≤ 1000000) : (Instr.makeSlice 37 (.int .i64 n) (.int .i64 n)).run Tryz.prog w =
    .ok (.slice (some ⟨w.heap.size, 0, none⟩) n n) (w.alloc (.cells (bv (List.replicate n 0)).toArray 5)) := by
  obtain ⟨i0, hi, hz0, hz1, hz2⟩ := info_parts info5
  have := run_make (P := Tryz.prog) w 37 5 i0 _ Tryz.underlying37 hi hz0 .i64 .i64 n n (by omega) (by omega) (by rw [hz2]; omega) (by omega)
  rw [this, hz1]
  have e1 : madeCells (Value.int .u8 0).cells n = (bv (List.replicate n 0)).toArray := by
    apply Array.ext
    · simp [madeCells, bv]
    · intro i h1 h2
      simp [madeCells, bv, Value.cells, Nat.mod_one]
  simp [e1]

theorem infoPart : (Tryz.prog.info? 102).map (fun i => (i.zero, i.size, i.bytes)) = some (some (.agg #[.int .i64 0, .int .i64 0, .int .i64 0, .int .i64 0, .slice none 0 0]), 5, 56) := by kernel_rfl
theorem sizePart : (Tryz.prog.info? 102).map (·.size) = some 5 := by kernel_rfl
theorem make_parts (w : World) (n : Nat) (hn : n ≤ 1000000) : ∃ C : Array Value, C.size = n * 5 ∧ (Instr.makeSlice 79 (.int .i64 n) (.int .i64 n)).run Tryz.prog w =
    .ok (.slice (some ⟨w.heap.size, 0, none⟩) n n) (w.alloc (.cells C 102)) := by
  obtain ⟨i0, hi, hz0, hz1, hz2⟩ := info_parts infoPart
  have := run_make (P := Tryz.prog) w 79 102 i0 _ Tryz.underlying79 hi hz0 .i64 .i64 n n (by omega) (by omega) (by rw [hz2]; omega) (by omega)
  rw [hz1] at this
  exact ⟨_, size_madeCells _ _, by simpa using this⟩
theorem there_blk {w : World} {g : Nat} {C : Array Value} {t : TypeId} (h : IsBlk w g (.cells C t)) (o n : Nat) (hn : o + n ≤ C.size) : w.there g o n := fun j hj => by
  rw [h.cell, h.notFrozen]; exact ⟨by simp; omega, rfl⟩

theorem partsFor_N (w : World) (n : Nat) (hn : n < 1000000000000) :
    Calls Tryz.prog 56 #[.int .i64 n] w fun e w' => e = .returned (.int .i64 (partsN n : Nat)) ∧ w = w' := partsFor_any w n hn

set_option maxHeartbeats 1000000 in
theorem cut_bad (w : World) (g r : Int) (a : Option Addr) (len cap : Nat) (hm : mayB g r = false) :
    Calls Tryz.prog 35 #[.int .i64 g, .int .i64 r, .slice a len cap] w fun e w' => e = .returned (.tuple #[.slice none 0 0, .int .i64 1]) ∧ w = w' := by
  go_enter Tryz.func35, Tryz.ntmps35
  go_wp2_with fail
  refine (mayMark_any _ g r).mono ?_
  rw [hm]
  rintro e w' ⟨rfl, rfl⟩
  go_wp2
  go_ret2
  exact ⟨rfl, rfl⟩

set_option maxHeartbeats 1000000 in
theorem cut_long (w : World) (g r : Int) (a : Option Addr) (len cap : Nat) (hm : mayB g r = true) (hl : 255 < partsN len) (hl2 : len < 100000000) :
    Calls Tryz.prog 35 #[.int .i64 g, .int .i64 r, .slice a len cap] w fun e w' => e = .returned (.tuple #[.slice none 0 0, .int .i64 2]) ∧ w = w' := by
  go_enter Tryz.func35, Tryz.ntmps35
  go_wp2_with fail
  refine (mayMark_any _ g r).mono ?_
  rw [hm]
  rintro e w' ⟨rfl, rfl⟩
  go_wp2_with fail
  refine (partsFor_N _ len (by omega)).mono ?_
  rintro e w' ⟨rfl, rfl⟩
  generalize partsN len = k at *
  have hki : (255 : Int) < (k : Int) := by omega
  go_wp2
  go_ret2
  exact ⟨rfl, rfl⟩

/-- What Cut leaves where it may: the Parts in one new block, what they carry in another one. -/
def CutTo (w : World) (g r : Int) (b : List UInt8) (k : Nat) (e : Ending) (w' : World) : Prop :=
  ∃ gl gw, e = .returned (.tuple #[.slice (some ⟨gl, 0, none⟩) k k, .int .i64 0]) ∧
    (∀ i, i < k → w'.rangeAt gl (i * 5) (partC g r (i : Nat) (k : Nat) (some ⟨gw, i * 52, none⟩) 52 52)) ∧
    IsBlk w' gw (.cells (bv (wholeB b)).toArray 5) ∧ w.heap.size ≤ gw ∧ gw < gl ∧ gl < w'.heap.size ∧ Only [] w w'

theorem part_one (g r n o : Int) (a : Option Addr) (l c : Nat) : (#[.int .i64 g, .int .i64 r, .int .i64 n, .int .i64 o, .slice a l c] : Array Value).all (·.oneCell') = true := by simp [Value.oneCell']
theorem wpList_store_part {ops : Array Oper} {rest : List Oper} {op : Oper} {a : Act} {w : World} {Q : Exit → Act → World → Prop} (hgd : op.guard = none) (ty : TypeId) (hty : (Tryz.prog.info? ty).map (·.size) = some 5) (x y : Operand) (ho : op.op = .store ty x y)
    (b o : Nat) (g r n of : Int) (ad : Option Addr) (l c : Nat) (hx : a.eval x = .pointer (some ⟨b, o, none⟩)) (hy : a.eval y = .agg #[.int .i64 g, .int .i64 r, .int .i64 n, .int .i64 of, .slice ad l c])
    (ht : w.there b o 5) (h : ∀ w', Hid (w' = w.setCells b o (partC g r n of ad l c)) → wpList Tryz.prog ops Q rest (a.put op.dst undef) w') : wpList Tryz.prog ops Q (op :: rest) a w :=
  wpList_store_mid hgd ty x y ho b o _ hx hy ht hty (part_one g r n of ad l c) (h _ (Lib.hid rfl))
theorem parts_step (wr : World) (gl gw j : Nat) (g r : Int) (k : Nat) (hps : ∀ x, x < j → wr.rangeAt gl (x * 5) (partC g r (x : Nat) (k : Nat) (some ⟨gw, x * 52, none⟩) 52 52)) (hth : wr.there gl (j * 5) 5) :
    ∀ x, x < j + 1 → (wr.setCells gl (j * 5) [.int .i64 g, .int .i64 r, .int .i64 j, .int .i64 k, .slice (some ⟨gw, j * 52, none⟩) 52 52]).rangeAt gl (x * 5) (partC g r (x : Nat) (k : Nat) (some ⟨gw, x * 52, none⟩) 52 52) := by
  intro x hx
  by_cases h : x = j
  · subst h; exact World.rangeAt_setCells_same wr gl (x * 5) _ hth
  · exact World.rangeAt_setCells_apart (hps x (by omega)) _ _ _ (.inr (.inl (by simp [partC]; omega)))

set_option maxHeartbeats 4000000 in
theorem cut_ok (w : World) (g r : Int) (a : Option Addr) (cap : Nat) (b : List UInt8) (hsrc : Src w a b.length b) (hm : mayB g r = true) (hl : partsN b.length ≤ 255) :
    Calls Tryz.prog 35 #[.int .i64 g, .int .i64 r, .slice a b.length cap] w (CutTo w g r b (partsN b.length)) := by
  have hle := partsN_le b.length
  have hpos : 0 < partsN b.length := by omega
  have Hwp := Lib.hid (whole_put b)
  have hlen : b.length < 100000 := by omega
  have HW := Lib.hid (show wholeB b = wholeB b from rfl)
  have Hpn : Hid (partsN b.length = partsN b.length) := Lib.hid rfl
  go_enter Tryz.func35, Tryz.ntmps35
  go_wp2_with fail
  refine (mayMark_any _ g r).mono ?_
  rw [hm]
  rintro e w' ⟨rfl, rfl⟩
  go_wp2_with fail
  refine (partsFor_N _ b.length (by omega)).mono ?_
  rintro e w' ⟨rfl, rfl⟩
  generalize hk : partsN b.length = k at *
  have Hk := Lib.hid hk
  have hki : ¬ (255 : Int) < (k : Int) := by omega
  have hmk := fun W => make_bytes W (k * 52) (by omega)
  have hmkc : ((k * 52 : Nat) : Int) = (k : Int) * 52 := by omega
  rw [hmkc] at hmk
  clear hk
  go_wp2_with fail
  refine (lay_any _ w.heap.size 0 4 _ b.length (List.replicate (k * 52) 0) (IsBlk.made _ _) (by simp; omega) (by omega) (by omega)).mono ?_
  rintro e w1 ⟨rfl, hb1, hO1⟩
  have hO1' : Only [] w w1 := ((Only.refl [] w).alloc _).then hO1 [] (by simp) (by simp)
  have hsrc1 := Lib.hid (hsrc.more hO1')
  have Hb1 := Lib.hid hb1
  have hlt1 := hb1.lt
  clear hb1 hO1 hmk
  have HO1 := Lib.hid hO1'
  clear hO1'
  go_wp2_with ((refine wpList_copy_b rfl _ _ rfl w.heap.size 4 (k * 52 - 4) _ rfl a b.length cap rfl _ b Hb1.out hsrc1.out (by rw [length_putB _ _ _ (by rw [length_leB]; simp; omega)]; simp; omega) ?_; intro w2 nn hb2 hO2; obtain ⟨C, hC, hmk2⟩ := make_parts w2 k (by omega)))

  rw [List.take_of_length_le (by omega), Hwp.out] at hb2
  have hO2' : Only [] w w2 := HO1.out.then hO2 [] (by simp) (by simp)
  have hlt2 := hb2.lt
  have hsz2 := hO2'.size
  have Hb2 := Lib.hid hb2
  have HO2 := Lib.hid hO2'
  have HC := Lib.hid hC
  clear hb2 hO2 hO2' hC hmk2 HO1 Hb1
  generalize hgl : w2.heap.size = gl at *
  go_loopw [40] (fun i wr => ∃ j : Nat, j ≤ k ∧ i = .int .i64 j ∧ (∀ x, x < j → wr.rangeAt gl (x * 5) (partC g r (x : Nat) (k : Nat) (some ⟨w.heap.size, x * 52, none⟩) 52 52)) ∧ wr.there gl 0 (k * 5) ∧
      IsBlk wr w.heap.size (.cells (bv (wholeB b)).toArray 5) ∧ gl < wr.heap.size ∧ Only [] w wr) (fun i _ => k - (intOf i).toNat)
  case atStart =>
    refine ⟨0, Nat.zero_le _, rfl, fun x hx => by omega, ?_, Hb2.out.alloc _, by simp [hgl], HO2.out.alloc _⟩
    have := IsBlk.made w2 (.cells C 102)
    rw [hgl] at this
    exact there_blk this 0 _ (by rw [HC.out]; omega)
  case round =>
    obtain ⟨j, hj, rfl, hps, hth, hbw, hgl2, hOr⟩ := hrel
    have Hps := Lib.hid hps
    have Hbw := Lib.hid hbw
    have HOr := Lib.hid hOr
    clear hps hbw hOr
    by_cases hlt : j < k
    · have hlti : (j : Int) < (k : Int) := by omega
      have hthj : wr.there gl (j * 5) 5 := fun x hx => by have := hth (j * 5 + x) (by omega); simpa using this
      have Hth := Lib.hid hth
      have Hthj := Lib.hid hthj
      clear hth hthj
      have e52 : Hid ((j + 1) * 52 - j * 52 = 52) := Lib.hid (by omega)
      go_wp2_with (refine wpList_store_part rfl _ sizePart _ _ rfl gl (j * 5) g r j k (some ⟨w.heap.size, j * 52, none⟩) ((j + 1) * 52 - j * 52) ((j + 1) * 52 - j * 52) rfl rfl Hthj.out ?_; intro w3 Hw3)
      rw [e52.out] at Hw3
      go_roundw
      case rel =>
        exact ⟨j + 1, by omega, by go_num, by rw [Hw3.out]; exact parts_step wr gl w.heap.size j g r k Hps.out Hthj.out, by rw [Hw3.out]; exact World.there_setCells Hth.out _ _ _,
          by rw [Hw3.out]; exact (heap_setCells_other gl _ _ _ w.heap.size (by omega)).trans Hbw.out, by rw [Hw3.out, size_setCells]; exact hgl2, by rw [Hw3.out]; exact HOr.out.setCells _ _ _ (by omega)⟩
      case measure => simp [intOf]; omega
    · have hge : ¬ (j : Int) < (k : Int) := by omega
      obtain rfl : j = k := by omega
      go_wp2
      go_ret2
      exact ⟨gl, w.heap.size, rfl, Hps.out, Hbw.out, Nat.le_refl _, by omega, hgl2, HOr.out⟩

end Go.Proofs.YtfampoblcielpaaGreat
