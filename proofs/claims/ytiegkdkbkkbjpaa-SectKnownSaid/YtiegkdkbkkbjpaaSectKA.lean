/-
  Facts for the law SectKnown: its sums, Parts and calls.
-/
import Derived.Test.YtiegkdkbkkbjpaaSectM
import Derived.Test.YtiegkdkbkkbjpaaStab
import Derived.Test.YtiegkdkbkkbjpaaSectR
namespace Go.Proofs.Ytiegkdkbkkbjpaa
open Go.RowKit

theorem crc_digits : crcN [49, 50, 51, 52, 53, 54, 55, 56, 57] = 3421780262 := by decide +kernel
theorem crc_nought : crcN [0] = 3523407757 := by decide +kernel
theorem parse_nul : parseB (nul 64) = none := parse_no (.inl (by decide +kernel))
theorem join_nil : joinB [] = none := join_none (fun h => by have := h.1; simp [oneRec] at this)
theorem head_known (d : List UInt8) : headB ⟨(16909060 : Nat), (1286 : Nat), (1 : Nat), (2 : Nat), d⟩ = [4, 3, 2, 1, 6, 5, 1, 2] := by
  unfold headB; simp only []; decide +kernel
theorem whole_none : wholeB [] = nul 52 := by decide +kernel
theorem whole49 : (wholeB (nul 49))[0]? = some 49 := by decide +kernel
theorem known_ok : okB ⟨(16909060 : Nat), (1286 : Nat), (1 : Nat), (2 : Nat), nul 52⟩ = true := by decide +kernel
theorem src_nul (W : World) (n : Nat) (t : TypeId) : Src (W.alloc (.cells (bv (nul n)).toArray t)) (some ⟨W.heap.size, 0, none⟩) n (nul n) := by
  have := src_new W (nul n) t W.heap.size rfl
  rwa [length_nul] at this
theorem bytes_known (W : World) : Calls Try.prog 16 #[.agg #[.int .i64 16909060, .int .i64 1286, .int .i64 1, .int .i64 2, .slice (some ⟨W.heap.size, 0, none⟩) 52 52]] (W.alloc (.cells (bv (nul 52)).toArray 5))
    (BytesTo (W.alloc (.cells (bv (nul 52)).toArray 5)) ⟨(16909060 : Nat), (1286 : Nat), (1 : Nat), (2 : Nat), nul 52⟩) :=
  bytes_ok _ 16909060 1286 1 2 _ 52 52 (nul 52) known_ok (src_nul W 52 _)
theorem cut_49 (W : World) : Calls Try.prog 22 #[.int .i64 7, .int .i64 9, .slice (some ⟨W.heap.size, 0, none⟩) 49 49] (W.alloc (.cells (bv (nul 49)).toArray 5)) (CutTo (W.alloc (.cells (bv (nul 49)).toArray 5)) 7 9 (nul 49) 2) :=
  cut_ok _ 7 9 _ 49 (nul 49) (src_nul W 49 _) rfl (by decide)
theorem cut_none (W : World) : Calls Try.prog 22 #[.int .i64 1, .int .i64 0, .slice none 0 0] W (CutTo W 1 0 [] 1) :=
  cut_ok _ 1 0 none 0 [] ⟨rfl, fun h => by simp at h⟩ rfl (by decide)

theorem crc_call9 (W : World) (g : Nat) (hg : g = W.heap.size) : Calls Try.prog 13 #[.slice (some ⟨g, 0, none⟩) 9 9] (W.alloc (.cells #[.int .u8 49, .int .u8 50, .int .u8 51, .int .u8 52, .int .u8 53, .int .u8 54, .int .u8 55, .int .u8 56, .int .u8 57] 5 (9, 10)))
    fun e w' => e = .returned (.int .u32 3421780262) ∧ W.alloc (.cells #[.int .u8 49, .int .u8 50, .int .u8 51, .int .u8 52, .int .u8 53, .int .u8 54, .int .u8 55, .int .u8 56, .int .u8 57] 5 (9, 10)) = w' := by
  subst hg
  have := crc_any _ _ 9 9 _ (src_const W [49, 50, 51, 52, 53, 54, 55, 56, 57] 5 (9, 10)) (by omega)
  rw [crc_digits] at this
  exact this
theorem crc_call1 (W : World) (g : Nat) (hg : g = W.heap.size) : Calls Try.prog 13 #[.slice (some ⟨g, 0, none⟩) 1 1] (W.alloc (.cells #[.int .u8 0] 5))
    fun e w' => e = .returned (.int .u32 3523407757) ∧ W.alloc (.cells #[.int .u8 0] 5) = w' := by
  subst hg
  have := crc_any _ _ 1 1 _ (src_new W [0] 5 _ rfl) (by omega)
  rw [crc_nought] at this
  exact this


/-- A constant's bytes get a mark: of their block alone. -/
theorem mark_heap {W : World} {g : Nat} {C : Array Value} (hb : IsBlk W g (.cells C 5)) (k : Nat) : (W.freeze ⟨g, k, none⟩ 1).heap = W.heap.setIfInBounds g (.cells C 5 (k, k + 1)) := by
  unfold World.freeze
  rw [if_neg (by decide)]
  apply Array.ext_getElem?
  intro i
  have hlt := hb.lt
  have hg : W.heap[g]? = some (.cells C 5) := hb
  simp only [Array.getElem?_modify]
  by_cases h : g = i
  · subst h
    rw [Array.getElem?_setIfInBounds_self_of_lt hlt, if_pos rfl, hg]
    rfl
  · rw [Array.getElem?_setIfInBounds_ne h, if_neg h]
theorem mark_only {W : World} {g : Nat} (hb : IsBlk W g (.cells #[.int .u8 49, .int .u8 50, .int .u8 51, .int .u8 52, .int .u8 53, .int .u8 54, .int .u8 55, .int .u8 56, .int .u8 57] 5)) : Only [g] W (W.freeze ⟨g, 9, none⟩ 1) ∧ Src (W.freeze ⟨g, 9, none⟩ 1) (some ⟨g, 0, none⟩) 9 [49, 50, 51, 52, 53, 54, 55, 56, 57] := by
  have hh := mark_heap hb 9
  have hlt := hb.lt
  have hrest : (W.freeze ⟨g, 9, none⟩ 1).os = W.os ∧ (W.freeze ⟨g, 9, none⟩ 1).tape = W.tape ∧ (W.freeze ⟨g, 9, none⟩ 1).output = W.output := by
    unfold World.freeze; rw [if_neg (by decide)]; exact ⟨rfl, rfl, rfl⟩
  refine ⟨⟨hrest.1, hrest.2.1, hrest.2.2, by rw [hh]; simp, fun k hk hn => by rw [hh]; exact Array.getElem?_setIfInBounds_ne (fun e => hn (by simp [e]))⟩, rfl, fun _ => ⟨g, 0, rfl, by rw [hh]; simpa using hlt, fun j v hv => ?_⟩⟩
  rw [cell_of_row _ _ _ #[.int .u8 49, .int .u8 50, .int .u8 51, .int .u8 52, .int .u8 53, .int .u8 54, .int .u8 55, .int .u8 56, .int .u8 57] 5 (9, 9 + 1) (by rw [hh]; exact Array.getElem?_setIfInBounds_self_of_lt hlt), Nat.zero_add]
  simpa [bv] using hv
theorem conv_mark {W : World} {g : Nat} {C : Array Value} (hb : IsBlk W g (.cells C 5)) (n c : Nat) :
    (convert 22 22 (.slice (some ⟨g, 0, none⟩) n c)).run Try.prog W = .ok (.slice (some ⟨g, 0, none⟩) n c) (W.freeze ⟨g, C.size, none⟩ 1) := by
  have hsh : W.shape? g = some (5, C.size) := by
    unfold World.shape?
    have hg : W.heap[g]? = some (.cells C 5) := hb
    rw [hg]
  simp [convert, run_underlying Try.underlying22, run_underlying Try.underlying5, markStringish, hsh]

/-- What the mark may turn: a block of the nine digits. -/
def Marks (B : Nat) (w w' : World) : Prop := ∃ g, IsBlk w g (.cells #[.int .u8 49, .int .u8 50, .int .u8 51, .int .u8 52, .int .u8 53, .int .u8 54, .int .u8 55, .int .u8 56, .int .u8 57] 5) ∧ B ≤ g ∧ Only [g] w w'
theorem marks_not {B : Nat} {w w' : World} (h : Marks B w w') {g : Nat} {C : Array Value} (hg : IsBlk w g (.cells C 5)) (hs : C.size ≠ 9) : IsBlk w' g (.cells C 5) := by
  obtain ⟨x, hb, _, hO⟩ := h
  refine hg.only hO ?_
  simp only [List.mem_singleton]
  intro e
  subst e
  have hsame := IsBlk.same hb hg
  injection hsame with h1 _ _
  exact hs (by rw [← h1]; rfl)

set_option maxRecDepth 100000 in
set_option maxHeartbeats 8000000 in
theorem known_walk (which : Int) (w : World) :
    Calls Try.prog 8 #[.int .i64 which] w fun e w' => e = .returned (.bool true) ∧ Only [] w w' := by
  have hmk52 : ∀ W : World, (Instr.makeSlice 22 (.int .i64 52) (.int .i64 52)).run Try.prog W = .ok (.slice (some ⟨W.heap.size, 0, none⟩) 52 52) (W.alloc (.cells (bv (nul 52)).toArray 5)) := fun W => make_bytes W 52 (by omega)
  have hmk49 : ∀ W : World, (Instr.makeSlice 22 (.int .i64 49) (.int .i64 49)).run Try.prog W = .ok (.slice (some ⟨W.heap.size, 0, none⟩) 49 49) (W.alloc (.cells (bv (nul 49)).toArray 5)) := fun W => make_bytes W 49 (by omega)
  have hmk64 : ∀ W : World, (Instr.makeSlice 22 (.int .i64 64) (.int .i64 64)).run Try.prog W = .ok (.slice (some ⟨W.heap.size, 0, none⟩) 64 64) (W.alloc (.cells (bv (nul 64)).toArray 5)) := fun W => make_bytes W 64 (by omega)
  have hi0 := Int.emod_nonneg which (show (7 : Int) ≠ 0 by omega)
  have hi1 := Int.emod_lt_of_pos which (show (0 : Int) < 7 by omega)
  go_enter Try.func8, Try.ntmps8
  go_wp2_with fail
  refine (known_any _).mono ?_
  rintro e w1 ⟨rfl, hO1⟩
  go_wp2_with fail
  refine (bytes_known w1).mono ?_
  rintro e w2 ⟨gb, rfl, hb2, hg2, hO2⟩
  have hO2' : Only [] w w2 := (hO1.alloc _).then hO2 [] (by simp) (by simp)
  have hs2 := src_blk hb2 0 8 (by rw [length_bytesB (length_nul 52)]; omega)
  have he2 : ((bytesB ⟨(16909060 : Nat), (1286 : Nat), (1 : Nat), (2 : Nat), nul 52⟩).drop 0).take 8 = [4, 3, 2, 1, 6, 5, 1, 2] := by
    rw [List.drop_zero, bytesB, List.append_assoc, List.take_append_of_le_length (by rw [length_headB]; omega), List.take_of_length_le (by rw [length_headB]; omega), head_known]
  rw [he2] at hs2
  clear hO1 hO2 hb2 he2
  go_wp2_with fail
  refine (cut_49 w2).mono ?_
  rintro e w3 ⟨gl, gw, rfl, hps, hbw, hw1, hw2, hw3, hO3⟩
  have hO3' : Only [] w2 w3 := ((Only.refl [] w2).alloc _).then hO3 [] (by simp) (by simp)
  have hs3 := hs2.more hO3'
  have hO3'' : Only [] w w3 := hO2'.then hO3' [] (by simp) (by simp)
  have r0 : w3.cell? ⟨gl, 0, none⟩ = some (.int .i64 7) := hps 0 (by omega) 0 _ rfl
  have r1 : w3.cell? ⟨gl, 1, none⟩ = some (.int .i64 9) := hps 0 (by omega) 1 _ rfl
  have r4 : w3.cell? ⟨gl, 4, none⟩ = some (.slice (some ⟨gw, 0, none⟩) 52 52) := hps 0 (by omega) 4 _ rfl
  have r7 : w3.cell? ⟨gl, 7, none⟩ = some (.int .i64 1) := hps 1 (by omega) 2 _ rfl
  have r8 : w3.cell? ⟨gl, 8, none⟩ = some (.int .i64 2) := hps 1 (by omega) 3 _ rfl
  have rw0 : w3.cell? ⟨gw, 0, none⟩ = some (.int .u8 49) := by rw [hbw.cell]; simp [bv, whole49]
  have hgw3 := hbw.lt
  clear hps hbw hO3 hO3' hs2 hO2'
  go_wp2_with fail
  refine (cut_bad _ 0 0 _ _ _ (by decide)).mono ?_
  rintro e w' ⟨rfl, rfl⟩
  go_wp2_with fail
  refine (cut_bad _ 1 65536 _ _ _ (by decide)).mono ?_
  rintro e w' ⟨rfl, rfl⟩
  go_wp2_with fail
  refine (cut_none _).mono ?_
  rintro e w4 ⟨ml, mw, rfl, mps, mbw, mw1, mw2, mw3, hO4⟩
  have q4 : w4.cell? ⟨ml, 4, none⟩ = some (.slice (some ⟨mw, 0, none⟩) 52 52) := mps 0 (by omega) 4 _ rfl
  rw [whole_none] at mbw
  have hms := src_blk mbw 0 52 (by rw [length_nul]; omega)
  rw [List.drop_zero, List.take_of_length_le (by rw [length_nul]; omega)] at hms
  go_wp2_with fail
  refine (join_any _ none 0 0 [] ⟨rfl, fun h => by omega⟩ (by omega)).mono ?_
  rw [join_nil]
  rintro e w5 ⟨rfl, hO5⟩
  go_wp2_with fail
  refine (parse_any _ w5.heap.size 0 64 (by omega) (nul 64) (src_nul w5 64 _)).mono ?_
  rw [parse_nul]
  rintro e w6 ⟨rfl, hO6⟩
  have hO46 : Only [] w4 w6 := (hO5.alloc _).then hO6 [] (by simp) (by simp)
  have hO36 : Only [] w3 w6 := hO4.then hO46 [] (by simp) (by simp)
  have HO36 := Lib.hid (hO36.alloc (.cells #[.int .i64 0, .int .i64 0, .int .i64 0, .int .i64 0, .slice none 0 0] 33))
  have HO46 := Lib.hid (hO46.alloc (.cells #[.int .i64 0, .int .i64 0, .int .i64 0, .int .i64 0, .slice none 0 0] 33))
  have HO3 := Lib.hid hO3''
  have Hs3 := Lib.hid hs3
  have Hms := Lib.hid hms
  clear mps mbw hO4 hO5 hO6 hO46 hO36 hO3'' hs3 hms
  unfold part0
  go_wp2_with fail
  generalize w6.alloc (.cells #[.int .i64 0, .int .i64 0, .int .i64 0, .int .i64 0, .slice none 0 0] 33) = w7 at *
  refine wp_region_stabK (P := Try.prog) 93 (by kernel_rfl) (by kernel_rfl) (fun i => i == 3 || i == 6 || i == 19 || i == 63 || i == 69 || i == 86 || i == 92) (Only []) (Only []) (Only.refl _ _) (fun _ _ _ h k => h.then k [] (by simp) (by simp)) 1 (Marks w7.heap.size)
      (fun u v hu ⟨g, _, hg, hO⟩ => hu.then hO [] (by simp) (fun i hi => by simp only [List.mem_singleton] at hi; subst hi; right; exact hg))
      [⟨fun v W => ∃ g, v = .slice (some ⟨g, 0, none⟩) 9 9 ∧ w7.heap.size ≤ g ∧ IsBlk W g (.cells #[.int .u8 49, .int .u8 50, .int .u8 51, .int .u8 52, .int .u8 53, .int .u8 54, .int .u8 55, .int .u8 56, .int .u8 57] 5), fun _ _ _ ⟨g, e, k, h⟩ hO => ⟨g, e, k, h.only hO (by simp)⟩⟩,
       ⟨fun v W => ∃ g, v = .slice (some ⟨g, 0, none⟩) 9 9 ∧ Src W (some ⟨g, 0, none⟩) 9 [49, 50, 51, 52, 53, 54, 55, 56, 57], fun _ _ _ ⟨g, e, h⟩ hO => ⟨g, e, h.more hO⟩⟩,
       SP.is (.int .u32 3421780262),
       SP.is (.bool true),
       ⟨fun v W => ∃ g, v = .slice (some ⟨g, 0, none⟩) 1 1 ∧ IsBlk W g (.cells #[.int .u8 0] 5), fun _ _ _ ⟨g, e, h⟩ hO => ⟨g, e, h.only hO (by simp)⟩⟩,
       SP.is (.int .u32 3523407757),
       SP.is (.bool true),
       SP.is (.int .i64 0),
       SP.is (.bool true),
       SP.is (.bool true),
       SP.is (.slice (some ⟨gb, 0, none⟩) 64 64),
       SP.is (.int .i64 64),
       SP.is (.bool true),
       SP.is (.bool true),
       SP.is (.bool true),
       SP.is (.slice (some ⟨gb, 0, none⟩) 64 64),
       SP.is (.slice (some ⟨gb, 0, none⟩) 8 64),
       SP.is (.string (strB [4, 3, 2, 1, 6, 5, 1, 2])),
       SP.is (.bool true),
       SP.is (.bool true),
       SP.is (.int .i64 0),
       SP.is (.bool true),
       SP.is (.bool true),
       SP.is (.slice (some ⟨gl, 0, none⟩) 2 2),
       SP.is (.int .i64 2),
       SP.is (.bool true),
       SP.is (.bool true),
       SP.is (.bool true),
       SP.is (.slice (some ⟨gl, 0, none⟩) 2 2),
       SP.is (.pointer (some ⟨gl, 0, none⟩)),
       SP.is (.pointer (some ⟨gl, 0, none⟩)),
       SP.is (.int .i64 7),
       SP.is (.bool true),
       SP.is (.bool true),
       SP.is (.bool true),
       SP.is (.slice (some ⟨gl, 0, none⟩) 2 2),
       SP.is (.pointer (some ⟨gl, 0, none⟩)),
       SP.is (.pointer (some ⟨gl, 1, none⟩)),
       SP.is (.int .i64 9),
       SP.is (.bool true),
       SP.is (.bool true),
       SP.is (.bool true),
       SP.is (.slice (some ⟨gl, 0, none⟩) 2 2),
       SP.is (.pointer (some ⟨gl, 5, none⟩)),
       SP.is (.pointer (some ⟨gl, 7, none⟩)),
       SP.is (.int .i64 1),
       SP.is (.bool true),
       SP.is (.bool true),
       SP.is (.bool true),
       SP.is (.slice (some ⟨gl, 0, none⟩) 2 2),
       SP.is (.pointer (some ⟨gl, 5, none⟩)),
       SP.is (.pointer (some ⟨gl, 8, none⟩)),
       SP.is (.int .i64 2),
       SP.is (.bool true),
       SP.is (.bool true),
       SP.is (.bool true),
       SP.is (.slice (some ⟨gl, 0, none⟩) 2 2),
       SP.is (.pointer (some ⟨gl, 0, none⟩)),
       SP.is (.pointer (some ⟨gl, 4, none⟩)),
       SP.is (.slice (some ⟨gw, 0, none⟩) 52 52),
       SP.is (.pointer (some ⟨gw, 0, none⟩)),
       SP.is (.int .u8 49),
       SP.is (.bool true),
       SP.is (.bool true),
       SP.is (.int .i64 1),
       SP.is (.bool true),
       SP.is (.bool true),
       SP.is (.int .i64 1),
       SP.is (.bool true),
       SP.is (.bool true),
       SP.is (.int .i64 0),
       SP.is (.bool true),
       SP.is (.bool true),
       SP.is (.slice (some ⟨ml, 0, none⟩) 1 1),
       SP.is (.int .i64 1),
       SP.is (.bool true),
       SP.is (.bool true),
       SP.is (.bool true),
       SP.is (.slice (some ⟨ml, 0, none⟩) 1 1),
       SP.is (.pointer (some ⟨ml, 0, none⟩)),
       SP.is (.pointer (some ⟨ml, 4, none⟩)),
       SP.is (.slice (some ⟨mw, 0, none⟩) 52 52),
       SP.is (.string (strB (nul 52))),
       ⟨fun v W => ∃ g, v = .slice (some ⟨g, 0, none⟩) 52 52 ∧ IsBlk W g (.cells (bv (nul 52)).toArray 5), fun _ _ _ ⟨g, e, h⟩ hO => ⟨g, e, h.only hO (by simp)⟩⟩,
       SP.is (.string (strB (nul 52))),
       SP.is (.bool true),
       SP.is (.bool true),
       SP.is (.bool false),
       SP.is (.bool true),
       SP.is (.bool true),
       SP.is (.bool false),
       SP.is (.bool true),
       SP.is (.bool true)] (AllBear.st ?_) ?_ ?_
  · exact AllBear.past rfl (by kernel_rfl) (AllBear.own rfl (AllBear.cons bears_is (AllBear.cons bears_is (AllBear.cons (fun v u u' ⟨g, e, hb⟩ hm => ⟨g, e, marks_not hm hb (by simp [length_bv, length_nul])⟩) (AllBear.cons bears_is (AllBear.cons bears_is (AllBear.cons bears_is (AllBear.cons bears_is (AllBear.cons bears_is (AllBear.cons bears_is (AllBear.cons bears_is (AllBear.cons bears_is (AllBear.cons bears_is (AllBear.cons bears_is (AllBear.cons bears_is (AllBear.cons bears_is (AllBear.cons bears_is (AllBear.cons bears_is (AllBear.cons bears_is (AllBear.cons bears_is (AllBear.cons bears_is (AllBear.cons bears_is (AllBear.cons bears_is (AllBear.cons bears_is (AllBear.cons bears_is (AllBear.cons bears_is (AllBear.cons bears_is (AllBear.cons bears_is (AllBear.cons bears_is (AllBear.cons bears_is (AllBear.cons bears_is (AllBear.cons bears_is (AllBear.cons bears_is (AllBear.cons bears_is (AllBear.cons bears_is (AllBear.cons bears_is (AllBear.cons bears_is (AllBear.cons bears_is (AllBear.cons bears_is (AllBear.cons bears_is (AllBear.cons bears_is (AllBear.cons bears_is (AllBear.cons bears_is (AllBear.cons bears_is (AllBear.cons bears_is (AllBear.cons bears_is (AllBear.cons bears_is (AllBear.cons bears_is (AllBear.cons bears_is (AllBear.cons bears_is (AllBear.cons bears_is (AllBear.cons bears_is (AllBear.cons bears_is (AllBear.cons bears_is (AllBear.cons bears_is (AllBear.cons bears_is (AllBear.cons bears_is (AllBear.cons bears_is (AllBear.cons bears_is (AllBear.cons bears_is (AllBear.cons bears_is (AllBear.cons bears_is (AllBear.cons bears_is (AllBear.cons bears_is (AllBear.cons bears_is (AllBear.cons bears_is (AllBear.cons bears_is (AllBear.cons bears_is (AllBear.cons bears_is (AllBear.cons bears_is (AllBear.cons bears_is (AllBear.cons bears_is (AllBear.cons bears_is (AllBear.cons bears_is (AllBear.cons bears_is (AllBear.cons bears_is (AllBear.cons bears_is (AllBear.cons bears_is (AllBear.cons bears_is (AllBear.cons bears_is (AllBear.cons bears_is (AllBear.cons bears_is (AllBear.cons (fun v u u' ⟨g, e, hb⟩ hm => ⟨g, e, marks_not hm hb (by simp [length_bv, length_nul])⟩) (AllBear.cons bears_is (AllBear.cons bears_is (AllBear.cons bears_is (AllBear.cons bears_is (AllBear.cons bears_is (AllBear.cons bears_is (AllBear.cons bears_is (AllBear.cons bears_is (AllBear.cons bears_is (AllBear.nil)))))))))))))))))))))))))))))))))))))))))))))))))))))))))))))))))))))))))))))))))))))))))))))
  · simp only [List.take_succ_cons, List.take_zero]
    refine StepsOK.cons ?_ (StepsOK.cons ?_ (StepsOK.cons ?_ (StepsOK.cons ?_ (StepsOK.cons ?_ (StepsOK.cons ?_ (StepsOK.cons ?_ (StepsOK.cons ?_ (StepsOK.cons ?_ (StepsOK.cons ?_ (StepsOK.cons ?_ (StepsOK.cons ?_ (StepsOK.cons ?_ (StepsOK.cons ?_ (StepsOK.cons ?_ (StepsOK.cons ?_ (StepsOK.cons ?_ (StepsOK.cons ?_ (StepsOK.cons ?_ (StepsOK.cons ?_ (StepsOK.cons ?_ (StepsOK.cons ?_ (StepsOK.cons ?_ (StepsOK.cons ?_ (StepsOK.cons ?_ (StepsOK.cons ?_ (StepsOK.cons ?_ (StepsOK.cons ?_ (StepsOK.cons ?_ (StepsOK.cons ?_ (StepsOK.cons ?_ (StepsOK.cons ?_ (StepsOK.cons ?_ (StepsOK.cons ?_ (StepsOK.cons ?_ (StepsOK.cons ?_ (StepsOK.cons ?_ (StepsOK.cons ?_ (StepsOK.cons ?_ (StepsOK.cons ?_ (StepsOK.cons ?_ (StepsOK.cons ?_ (StepsOK.cons ?_ (StepsOK.cons ?_ (StepsOK.cons ?_ (StepsOK.cons ?_ (StepsOK.cons ?_ (StepsOK.cons ?_ (StepsOK.cons ?_ (StepsOK.cons ?_ (StepsOK.cons ?_ (StepsOK.cons ?_ (StepsOK.cons ?_ (StepsOK.cons ?_ (StepsOK.cons ?_ (StepsOK.cons ?_ (StepsOK.cons ?_ (StepsOK.cons ?_ (StepsOK.cons ?_ (StepsOK.cons ?_ (StepsOK.cons ?_ (StepsOK.cons ?_ (StepsOK.cons ?_ (StepsOK.cons ?_ (StepsOK.cons ?_ (StepsOK.cons ?_ (StepsOK.cons ?_ (StepsOK.cons ?_ (StepsOK.cons ?_ (StepsOK.cons ?_ (StepsOK.cons ?_ (StepsOK.cons ?_ (StepsOK.cons ?_ (StepsOK.cons ?_ (StepsOK.cons ?_ (StepsOK.cons ?_ (StepsOK.cons ?_ (StepsOK.cons ?_ (StepsOK.cons ?_ (StepsOK.cons ?_ (StepsOK.cons ?_ (StepsOK.cons ?_ (StepsOK.cons ?_ (StepsOK.cons ?_ (StepsOK.cons ?_ (StepsOK.cons ?_ (StepsOK.cons ?_ (StepsOK.cons ?_ (StepsOK.cons ?_ (StepsOK.cons ?_ (StepsOK.cons ?_ (StepsOK.cons ?_ (StepsOK.cons ?_ StepsOK.nil))))))))))))))))))))))))))))))))))))))))))))))))))))))))))))))))))))))))))))))))))))))))))))
    · intro a W L N hR hold hφ hcl hkp hd K hK
      clear hold hφ hcl hkp hd
      rw [if_pos (by rfl)]
      go_simp
      exact hK _ _ ((Only.refl _ _).alloc _) ⟨_, rfl, hR.size, IsBlk.made _ _⟩
    · intro a W L N hR hold hφ hcl hkp hd K hK
      obtain ⟨u52, e52, g52, p52, k52, b52⟩ := gotP hφ (hd 0 (by kernel_rfl)) rfl rfl rfl
      have p52 : u52 = .slice (some ⟨g52, 0, none⟩) 9 9 := p52
      subst p52
      have hcv := conv_mark b52 9 9
      clear hold hφ hcl hkp hd
      rw [if_pos (by rfl)]
      go_simp
      exact hK _ _ ⟨g52, b52, k52, (mark_only b52).1⟩ ⟨_, rfl, (mark_only b52).2⟩
    · intro a W L N hR hold hφ hcl hkp hd K hK
      obtain ⟨u53, e53, g53, p53, s53⟩ := gotP hφ (hd 1 (by kernel_rfl)) rfl rfl rfl
      have p53 : u53 = .slice (some ⟨g53, 0, none⟩) 9 9 := p53
      subst p53
      clear hold hφ hcl hkp hd
      rw [if_pos (by rfl)]
      go_simp
      refine (crc_any _ _ 9 9 _ s53 (by omega)).mono ?_
      rintro e w' ⟨rfl, rfl⟩
      rw [crc_digits]
      exact hK _ _ (Only.refl _ _) rfl
    · intro a W L N hR hold hφ hcl hkp hd K hK
      have e54 := got hφ (hd 2 (by kernel_rfl)) rfl rfl rfl
      clear hold hφ hcl hkp hd
      rw [if_pos (by rfl)]
      go_simp
      exact hK _ _ (Only.refl _ _) rfl
    · intro a W L N hR hold hφ hcl hkp hd K hK
      clear hold hφ hcl hkp hd
      rw [if_pos (by rfl)]
      go_simp
      exact hK _ _ ((Only.refl _ _).alloc _) ⟨_, rfl, IsBlk.made _ _⟩
    · intro a W L N hR hold hφ hcl hkp hd K hK
      obtain ⟨u56, e56, g56, p56, b56⟩ := gotP hφ (hd 4 (by kernel_rfl)) rfl rfl rfl
      have p56 : u56 = .slice (some ⟨g56, 0, none⟩) 1 1 := p56
      subst p56
      clear hold hφ hcl hkp hd
      rw [if_pos (by rfl)]
      go_simp
      refine (crc_any _ _ 1 1 _ (src_all (l := [0]) b56 rfl) (by omega)).mono ?_
      rintro e w' ⟨rfl, rfl⟩
      rw [crc_nought]
      exact hK _ _ (Only.refl _ _) rfl
    · intro a W L N hR hold hφ hcl hkp hd K hK
      have e57 := got hφ (hd 5 (by kernel_rfl)) rfl rfl rfl
      clear hold hφ hcl hkp hd
      rw [if_pos (by rfl)]
      go_simp
      exact hK _ _ (Only.refl _ _) rfl
    · intro a W L N hR hold hφ hcl hkp hd K hK
      have e4 := hold 4 (by kernel_rfl)
      clear hold hφ hcl hkp hd
      rw [if_pos (by rfl)]
      go_simp
      exact hK _ _ (Only.refl _ _) rfl
    · intro a W L N hR hold hφ hcl hkp hd K hK
      have e59 := got hφ (hd 7 (by kernel_rfl)) rfl rfl rfl
      clear hold hφ hcl hkp hd
      rw [if_pos (by rfl)]
      go_simp
      exact hK _ _ (Only.refl _ _) rfl
    · intro a W L N hR hold hφ hcl hkp hd K hK
      have e60 := got hφ (hd 8 (by kernel_rfl)) rfl rfl rfl
      clear hold hφ hcl hkp hd
      rw [if_pos (by rfl)]
      go_simp
      exact hK _ _ (Only.refl _ _) rfl
    · intro a W L N hR hold hφ hcl hkp hd K hK
      have e3 := hold 3 (by kernel_rfl)
      have e61 := got hφ (hd 9 (by kernel_rfl)) rfl rfl rfl
      clear hold hφ hcl hkp hd
      rw [if_pos (by simp [Region.wanted, yielded, e61])]
      go_simp
      exact hK _ _ (Only.refl _ _) rfl
    · intro a W L N hR hold hφ hcl hkp hd K hK
      have e62 := got hφ (hd 10 (by kernel_rfl)) rfl rfl rfl
      have e61 := got hφ (hd 9 (by kernel_rfl)) rfl rfl rfl
      clear hold hφ hcl hkp hd
      rw [if_pos (by simp [Region.wanted, yielded, e61])]
      go_simp
      exact hK _ _ (Only.refl _ _) rfl
    · intro a W L N hR hold hφ hcl hkp hd K hK
      have e63 := got hφ (hd 11 (by kernel_rfl)) rfl rfl rfl
      have e61 := got hφ (hd 9 (by kernel_rfl)) rfl rfl rfl
      clear hold hφ hcl hkp hd
      rw [if_pos (by simp [Region.wanted, yielded, e61])]
      go_simp
      exact hK _ _ (Only.refl _ _) rfl
    · intro a W L N hR hold hφ hcl hkp hd K hK
      have e61 := got hφ (hd 9 (by kernel_rfl)) rfl rfl rfl
      have e64 := got hφ (hd 12 (by kernel_rfl)) rfl rfl rfl
      clear hold hφ hcl hkp hd
      rw [if_pos (by rfl)]
      go_simp
      exact hK _ _ (Only.refl _ _) rfl
    · intro a W L N hR hold hφ hcl hkp hd K hK
      have e65 := got hφ (hd 13 (by kernel_rfl)) rfl rfl rfl
      clear hold hφ hcl hkp hd
      rw [if_pos (by rfl)]
      go_simp
      exact hK _ _ (Only.refl _ _) rfl
    · intro a W L N hR hold hφ hcl hkp hd K hK
      have e3 := hold 3 (by kernel_rfl)
      have e66 := got hφ (hd 14 (by kernel_rfl)) rfl rfl rfl
      clear hold hφ hcl hkp hd
      rw [if_pos (by simp [Region.wanted, yielded, e66])]
      go_simp
      exact hK _ _ (Only.refl _ _) rfl
    · intro a W L N hR hold hφ hcl hkp hd K hK
      have e67 := got hφ (hd 15 (by kernel_rfl)) rfl rfl rfl
      have e66 := got hφ (hd 14 (by kernel_rfl)) rfl rfl rfl
      clear hold hφ hcl hkp hd
      rw [if_pos (by simp [Region.wanted, yielded, e66])]
      go_simp
      exact hK _ _ (Only.refl _ _) rfl
    · intro a W L N hR hold hφ hcl hkp hd K hK
      have e68 := got hφ (hd 16 (by kernel_rfl)) rfl rfl rfl
      have e66 := got hφ (hd 14 (by kernel_rfl)) rfl rfl rfl
      have hcv := conv_src W (some ⟨gb, 0, none⟩) 8 64 _ (Hs3.out.more (HO36.out.drew.then hR [] (by simp) (by simp)))
      clear hold hφ hcl hkp hd
      rw [if_pos (by simp [Region.wanted, yielded, e66])]
      go_simp
      exact hK _ _ (Only.refl _ _) rfl
    · intro a W L N hR hold hφ hcl hkp hd K hK
      have e69 := got hφ (hd 17 (by kernel_rfl)) rfl rfl rfl
      have e66 := got hφ (hd 14 (by kernel_rfl)) rfl rfl rfl
      clear hold hφ hcl hkp hd
      rw [if_pos (by simp [Region.wanted, yielded, e66])]
      have hh : Value.bool ((strB [4, 3, 2, 1, 6, 5, 1, 2]).toList == [4, 3, 2, 1, 6, 5, 1, 2]) = .bool true := congrArg Value.bool (by rw [strB_list]; rfl)
      go_simp
      exact hK _ _ (Only.refl _ _) rfl
    · intro a W L N hR hold hφ hcl hkp hd K hK
      have e66 := got hφ (hd 14 (by kernel_rfl)) rfl rfl rfl
      have e70 := got hφ (hd 18 (by kernel_rfl)) rfl rfl rfl
      clear hold hφ hcl hkp hd
      rw [if_pos (by rfl)]
      go_simp
      exact hK _ _ (Only.refl _ _) rfl
    · intro a W L N hR hold hφ hcl hkp hd K hK
      have e6 := hold 6 (by kernel_rfl)
      clear hold hφ hcl hkp hd
      rw [if_pos (by rfl)]
      go_simp
      exact hK _ _ (Only.refl _ _) rfl
    · intro a W L N hR hold hφ hcl hkp hd K hK
      have e72 := got hφ (hd 20 (by kernel_rfl)) rfl rfl rfl
      clear hold hφ hcl hkp hd
      rw [if_pos (by rfl)]
      go_simp
      exact hK _ _ (Only.refl _ _) rfl
    · intro a W L N hR hold hφ hcl hkp hd K hK
      have e73 := got hφ (hd 21 (by kernel_rfl)) rfl rfl rfl
      clear hold hφ hcl hkp hd
      rw [if_pos (by rfl)]
      go_simp
      exact hK _ _ (Only.refl _ _) rfl
    · intro a W L N hR hold hφ hcl hkp hd K hK
      have e5 := hold 5 (by kernel_rfl)
      have e74 := got hφ (hd 22 (by kernel_rfl)) rfl rfl rfl
      clear hold hφ hcl hkp hd
      rw [if_pos (by simp [Region.wanted, yielded, e74])]
      go_simp
      exact hK _ _ (Only.refl _ _) rfl
    · intro a W L N hR hold hφ hcl hkp hd K hK
      have e75 := got hφ (hd 23 (by kernel_rfl)) rfl rfl rfl
      have e74 := got hφ (hd 22 (by kernel_rfl)) rfl rfl rfl
      clear hold hφ hcl hkp hd
      rw [if_pos (by simp [Region.wanted, yielded, e74])]
      go_simp
      exact hK _ _ (Only.refl _ _) rfl
    · intro a W L N hR hold hφ hcl hkp hd K hK
      have e76 := got hφ (hd 24 (by kernel_rfl)) rfl rfl rfl
      have e74 := got hφ (hd 22 (by kernel_rfl)) rfl rfl rfl
      clear hold hφ hcl hkp hd
      rw [if_pos (by simp [Region.wanted, yielded, e74])]
      go_simp
      exact hK _ _ (Only.refl _ _) rfl
    · intro a W L N hR hold hφ hcl hkp hd K hK
      have e74 := got hφ (hd 22 (by kernel_rfl)) rfl rfl rfl
      have e77 := got hφ (hd 25 (by kernel_rfl)) rfl rfl rfl
      clear hold hφ hcl hkp hd
      rw [if_pos (by rfl)]
      go_simp
      exact hK _ _ (Only.refl _ _) rfl
    · intro a W L N hR hold hφ hcl hkp hd K hK
      have e78 := got hφ (hd 26 (by kernel_rfl)) rfl rfl rfl
      clear hold hφ hcl hkp hd
      rw [if_pos (by rfl)]
      go_simp
      exact hK _ _ (Only.refl _ _) rfl
    · intro a W L N hR hold hφ hcl hkp hd K hK
      have e5 := hold 5 (by kernel_rfl)
      have e79 := got hφ (hd 27 (by kernel_rfl)) rfl rfl rfl
      clear hold hφ hcl hkp hd
      rw [if_pos (by simp [Region.wanted, yielded, e79])]
      go_simp
      exact hK _ _ (Only.refl _ _) rfl
    · intro a W L N hR hold hφ hcl hkp hd K hK
      have e80 := got hφ (hd 28 (by kernel_rfl)) rfl rfl rfl
      have e79 := got hφ (hd 27 (by kernel_rfl)) rfl rfl rfl
      clear hold hφ hcl hkp hd
      rw [if_pos (by simp [Region.wanted, yielded, e79])]
      go_simp
      exact hK _ _ (Only.refl _ _) rfl
    · intro a W L N hR hold hφ hcl hkp hd K hK
      have e81 := got hφ (hd 29 (by kernel_rfl)) rfl rfl rfl
      have e79 := got hφ (hd 27 (by kernel_rfl)) rfl rfl rfl
      clear hold hφ hcl hkp hd
      rw [if_pos (by simp [Region.wanted, yielded, e79])]
      go_simp
      exact hK _ _ (Only.refl _ _) rfl
    · intro a W L N hR hold hφ hcl hkp hd K hK
      have e82 := got hφ (hd 30 (by kernel_rfl)) rfl rfl rfl
      have e79 := got hφ (hd 27 (by kernel_rfl)) rfl rfl rfl
      have hc := only_cell (HO36.out.drew.then hR [] (by simp) (by simp)) hw3 r0
      clear hold hφ hcl hkp hd
      rw [if_pos (by simp [Region.wanted, yielded, e79])]
      go_simp
      exact hK _ _ (Only.refl _ _) rfl
    · intro a W L N hR hold hφ hcl hkp hd K hK
      have e83 := got hφ (hd 31 (by kernel_rfl)) rfl rfl rfl
      have e79 := got hφ (hd 27 (by kernel_rfl)) rfl rfl rfl
      clear hold hφ hcl hkp hd
      rw [if_pos (by simp [Region.wanted, yielded, e79])]
      go_simp
      exact hK _ _ (Only.refl _ _) rfl
    · intro a W L N hR hold hφ hcl hkp hd K hK
      have e79 := got hφ (hd 27 (by kernel_rfl)) rfl rfl rfl
      have e84 := got hφ (hd 32 (by kernel_rfl)) rfl rfl rfl
      clear hold hφ hcl hkp hd
      rw [if_pos (by rfl)]
      go_simp
      exact hK _ _ (Only.refl _ _) rfl
    · intro a W L N hR hold hφ hcl hkp hd K hK
      have e85 := got hφ (hd 33 (by kernel_rfl)) rfl rfl rfl
      clear hold hφ hcl hkp hd
      rw [if_pos (by rfl)]
      go_simp
      exact hK _ _ (Only.refl _ _) rfl
    · intro a W L N hR hold hφ hcl hkp hd K hK
      have e5 := hold 5 (by kernel_rfl)
      have e86 := got hφ (hd 34 (by kernel_rfl)) rfl rfl rfl
      clear hold hφ hcl hkp hd
      rw [if_pos (by simp [Region.wanted, yielded, e86])]
      go_simp
      exact hK _ _ (Only.refl _ _) rfl
    · intro a W L N hR hold hφ hcl hkp hd K hK
      have e87 := got hφ (hd 35 (by kernel_rfl)) rfl rfl rfl
      have e86 := got hφ (hd 34 (by kernel_rfl)) rfl rfl rfl
      clear hold hφ hcl hkp hd
      rw [if_pos (by simp [Region.wanted, yielded, e86])]
      go_simp
      exact hK _ _ (Only.refl _ _) rfl
    · intro a W L N hR hold hφ hcl hkp hd K hK
      have e88 := got hφ (hd 36 (by kernel_rfl)) rfl rfl rfl
      have e86 := got hφ (hd 34 (by kernel_rfl)) rfl rfl rfl
      clear hold hφ hcl hkp hd
      rw [if_pos (by simp [Region.wanted, yielded, e86])]
      go_simp
      exact hK _ _ (Only.refl _ _) rfl
    · intro a W L N hR hold hφ hcl hkp hd K hK
      have e89 := got hφ (hd 37 (by kernel_rfl)) rfl rfl rfl
      have e86 := got hφ (hd 34 (by kernel_rfl)) rfl rfl rfl
      have hc := only_cell (HO36.out.drew.then hR [] (by simp) (by simp)) hw3 r1
      clear hold hφ hcl hkp hd
      rw [if_pos (by simp [Region.wanted, yielded, e86])]
      go_simp
      exact hK _ _ (Only.refl _ _) rfl
    · intro a W L N hR hold hφ hcl hkp hd K hK
      have e90 := got hφ (hd 38 (by kernel_rfl)) rfl rfl rfl
      have e86 := got hφ (hd 34 (by kernel_rfl)) rfl rfl rfl
      clear hold hφ hcl hkp hd
      rw [if_pos (by simp [Region.wanted, yielded, e86])]
      go_simp
      exact hK _ _ (Only.refl _ _) rfl
    · intro a W L N hR hold hφ hcl hkp hd K hK
      have e86 := got hφ (hd 34 (by kernel_rfl)) rfl rfl rfl
      have e91 := got hφ (hd 39 (by kernel_rfl)) rfl rfl rfl
      clear hold hφ hcl hkp hd
      rw [if_pos (by rfl)]
      go_simp
      exact hK _ _ (Only.refl _ _) rfl
    · intro a W L N hR hold hφ hcl hkp hd K hK
      have e92 := got hφ (hd 40 (by kernel_rfl)) rfl rfl rfl
      clear hold hφ hcl hkp hd
      rw [if_pos (by rfl)]
      go_simp
      exact hK _ _ (Only.refl _ _) rfl
    · intro a W L N hR hold hφ hcl hkp hd K hK
      have e5 := hold 5 (by kernel_rfl)
      have e93 := got hφ (hd 41 (by kernel_rfl)) rfl rfl rfl
      clear hold hφ hcl hkp hd
      rw [if_pos (by simp [Region.wanted, yielded, e93])]
      go_simp
      exact hK _ _ (Only.refl _ _) rfl
    · intro a W L N hR hold hφ hcl hkp hd K hK
      have e94 := got hφ (hd 42 (by kernel_rfl)) rfl rfl rfl
      have e93 := got hφ (hd 41 (by kernel_rfl)) rfl rfl rfl
      clear hold hφ hcl hkp hd
      rw [if_pos (by simp [Region.wanted, yielded, e93])]
      go_simp
      exact hK _ _ (Only.refl _ _) rfl
    · intro a W L N hR hold hφ hcl hkp hd K hK
      have e95 := got hφ (hd 43 (by kernel_rfl)) rfl rfl rfl
      have e93 := got hφ (hd 41 (by kernel_rfl)) rfl rfl rfl
      clear hold hφ hcl hkp hd
      rw [if_pos (by simp [Region.wanted, yielded, e93])]
      go_simp
      exact hK _ _ (Only.refl _ _) rfl
    · intro a W L N hR hold hφ hcl hkp hd K hK
      have e96 := got hφ (hd 44 (by kernel_rfl)) rfl rfl rfl
      have e93 := got hφ (hd 41 (by kernel_rfl)) rfl rfl rfl
      have hc := only_cell (HO36.out.drew.then hR [] (by simp) (by simp)) hw3 r7
      clear hold hφ hcl hkp hd
      rw [if_pos (by simp [Region.wanted, yielded, e93])]
      go_simp
      exact hK _ _ (Only.refl _ _) rfl
    · intro a W L N hR hold hφ hcl hkp hd K hK
      have e97 := got hφ (hd 45 (by kernel_rfl)) rfl rfl rfl
      have e93 := got hφ (hd 41 (by kernel_rfl)) rfl rfl rfl
      clear hold hφ hcl hkp hd
      rw [if_pos (by simp [Region.wanted, yielded, e93])]
      go_simp
      exact hK _ _ (Only.refl _ _) rfl
    · intro a W L N hR hold hφ hcl hkp hd K hK
      have e93 := got hφ (hd 41 (by kernel_rfl)) rfl rfl rfl
      have e98 := got hφ (hd 46 (by kernel_rfl)) rfl rfl rfl
      clear hold hφ hcl hkp hd
      rw [if_pos (by rfl)]
      go_simp
      exact hK _ _ (Only.refl _ _) rfl
    · intro a W L N hR hold hφ hcl hkp hd K hK
      have e99 := got hφ (hd 47 (by kernel_rfl)) rfl rfl rfl
      clear hold hφ hcl hkp hd
      rw [if_pos (by rfl)]
      go_simp
      exact hK _ _ (Only.refl _ _) rfl
    · intro a W L N hR hold hφ hcl hkp hd K hK
      have e5 := hold 5 (by kernel_rfl)
      have e100 := got hφ (hd 48 (by kernel_rfl)) rfl rfl rfl
      clear hold hφ hcl hkp hd
      rw [if_pos (by simp [Region.wanted, yielded, e100])]
      go_simp
      exact hK _ _ (Only.refl _ _) rfl
    · intro a W L N hR hold hφ hcl hkp hd K hK
      have e101 := got hφ (hd 49 (by kernel_rfl)) rfl rfl rfl
      have e100 := got hφ (hd 48 (by kernel_rfl)) rfl rfl rfl
      clear hold hφ hcl hkp hd
      rw [if_pos (by simp [Region.wanted, yielded, e100])]
      go_simp
      exact hK _ _ (Only.refl _ _) rfl
    · intro a W L N hR hold hφ hcl hkp hd K hK
      have e102 := got hφ (hd 50 (by kernel_rfl)) rfl rfl rfl
      have e100 := got hφ (hd 48 (by kernel_rfl)) rfl rfl rfl
      clear hold hφ hcl hkp hd
      rw [if_pos (by simp [Region.wanted, yielded, e100])]
      go_simp
      exact hK _ _ (Only.refl _ _) rfl
    · intro a W L N hR hold hφ hcl hkp hd K hK
      have e103 := got hφ (hd 51 (by kernel_rfl)) rfl rfl rfl
      have e100 := got hφ (hd 48 (by kernel_rfl)) rfl rfl rfl
      have hc := only_cell (HO36.out.drew.then hR [] (by simp) (by simp)) hw3 r8
      clear hold hφ hcl hkp hd
      rw [if_pos (by simp [Region.wanted, yielded, e100])]
      go_simp
      exact hK _ _ (Only.refl _ _) rfl
    · intro a W L N hR hold hφ hcl hkp hd K hK
      have e104 := got hφ (hd 52 (by kernel_rfl)) rfl rfl rfl
      have e100 := got hφ (hd 48 (by kernel_rfl)) rfl rfl rfl
      clear hold hφ hcl hkp hd
      rw [if_pos (by simp [Region.wanted, yielded, e100])]
      go_simp
      exact hK _ _ (Only.refl _ _) rfl
    · intro a W L N hR hold hφ hcl hkp hd K hK
      have e100 := got hφ (hd 48 (by kernel_rfl)) rfl rfl rfl
      have e105 := got hφ (hd 53 (by kernel_rfl)) rfl rfl rfl
      clear hold hφ hcl hkp hd
      rw [if_pos (by rfl)]
      go_simp
      exact hK _ _ (Only.refl _ _) rfl
    · intro a W L N hR hold hφ hcl hkp hd K hK
      have e106 := got hφ (hd 54 (by kernel_rfl)) rfl rfl rfl
      clear hold hφ hcl hkp hd
      rw [if_pos (by rfl)]
      go_simp
      exact hK _ _ (Only.refl _ _) rfl
    · intro a W L N hR hold hφ hcl hkp hd K hK
      have e5 := hold 5 (by kernel_rfl)
      have e107 := got hφ (hd 55 (by kernel_rfl)) rfl rfl rfl
      clear hold hφ hcl hkp hd
      rw [if_pos (by simp [Region.wanted, yielded, e107])]
      go_simp
      exact hK _ _ (Only.refl _ _) rfl
    · intro a W L N hR hold hφ hcl hkp hd K hK
      have e108 := got hφ (hd 56 (by kernel_rfl)) rfl rfl rfl
      have e107 := got hφ (hd 55 (by kernel_rfl)) rfl rfl rfl
      clear hold hφ hcl hkp hd
      rw [if_pos (by simp [Region.wanted, yielded, e107])]
      go_simp
      exact hK _ _ (Only.refl _ _) rfl
    · intro a W L N hR hold hφ hcl hkp hd K hK
      have e109 := got hφ (hd 57 (by kernel_rfl)) rfl rfl rfl
      have e107 := got hφ (hd 55 (by kernel_rfl)) rfl rfl rfl
      clear hold hφ hcl hkp hd
      rw [if_pos (by simp [Region.wanted, yielded, e107])]
      go_simp
      exact hK _ _ (Only.refl _ _) rfl
    · intro a W L N hR hold hφ hcl hkp hd K hK
      have e110 := got hφ (hd 58 (by kernel_rfl)) rfl rfl rfl
      have e107 := got hφ (hd 55 (by kernel_rfl)) rfl rfl rfl
      have hc := only_cell (HO36.out.drew.then hR [] (by simp) (by simp)) hw3 r4
      clear hold hφ hcl hkp hd
      rw [if_pos (by simp [Region.wanted, yielded, e107])]
      go_simp
      exact hK _ _ (Only.refl _ _) rfl
    · intro a W L N hR hold hφ hcl hkp hd K hK
      have e111 := got hφ (hd 59 (by kernel_rfl)) rfl rfl rfl
      have e107 := got hφ (hd 55 (by kernel_rfl)) rfl rfl rfl
      clear hold hφ hcl hkp hd
      rw [if_pos (by simp [Region.wanted, yielded, e107])]
      go_simp
      exact hK _ _ (Only.refl _ _) rfl
    · intro a W L N hR hold hφ hcl hkp hd K hK
      have e112 := got hφ (hd 60 (by kernel_rfl)) rfl rfl rfl
      have e107 := got hφ (hd 55 (by kernel_rfl)) rfl rfl rfl
      have hc := only_cell (HO36.out.drew.then hR [] (by simp) (by simp)) hgw3 rw0
      clear hold hφ hcl hkp hd
      rw [if_pos (by simp [Region.wanted, yielded, e107])]
      go_simp
      exact hK _ _ (Only.refl _ _) rfl
    · intro a W L N hR hold hφ hcl hkp hd K hK
      have e113 := got hφ (hd 61 (by kernel_rfl)) rfl rfl rfl
      have e107 := got hφ (hd 55 (by kernel_rfl)) rfl rfl rfl
      clear hold hφ hcl hkp hd
      rw [if_pos (by simp [Region.wanted, yielded, e107])]
      go_simp
      exact hK _ _ (Only.refl _ _) rfl
    · intro a W L N hR hold hφ hcl hkp hd K hK
      have e107 := got hφ (hd 55 (by kernel_rfl)) rfl rfl rfl
      have e114 := got hφ (hd 62 (by kernel_rfl)) rfl rfl rfl
      clear hold hφ hcl hkp hd
      rw [if_pos (by rfl)]
      go_simp
      exact hK _ _ (Only.refl _ _) rfl
    · intro a W L N hR hold hφ hcl hkp hd K hK
      have e8 := hold 8 (by kernel_rfl)
      clear hold hφ hcl hkp hd
      rw [if_pos (by rfl)]
      go_simp
      exact hK _ _ (Only.refl _ _) rfl
    · intro a W L N hR hold hφ hcl hkp hd K hK
      have e116 := got hφ (hd 64 (by kernel_rfl)) rfl rfl rfl
      clear hold hφ hcl hkp hd
      rw [if_pos (by rfl)]
      go_simp
      exact hK _ _ (Only.refl _ _) rfl
    · intro a W L N hR hold hφ hcl hkp hd K hK
      have e117 := got hφ (hd 65 (by kernel_rfl)) rfl rfl rfl
      clear hold hφ hcl hkp hd
      rw [if_pos (by rfl)]
      go_simp
      exact hK _ _ (Only.refl _ _) rfl
    · intro a W L N hR hold hφ hcl hkp hd K hK
      have e10 := hold 10 (by kernel_rfl)
      have e118 := got hφ (hd 66 (by kernel_rfl)) rfl rfl rfl
      clear hold hφ hcl hkp hd
      rw [if_pos (by simp [Region.wanted, yielded, e118])]
      go_simp
      exact hK _ _ (Only.refl _ _) rfl
    · intro a W L N hR hold hφ hcl hkp hd K hK
      have e119 := got hφ (hd 67 (by kernel_rfl)) rfl rfl rfl
      have e118 := got hφ (hd 66 (by kernel_rfl)) rfl rfl rfl
      clear hold hφ hcl hkp hd
      rw [if_pos (by simp [Region.wanted, yielded, e118])]
      go_simp
      exact hK _ _ (Only.refl _ _) rfl
    · intro a W L N hR hold hφ hcl hkp hd K hK
      have e118 := got hφ (hd 66 (by kernel_rfl)) rfl rfl rfl
      have e120 := got hφ (hd 68 (by kernel_rfl)) rfl rfl rfl
      clear hold hφ hcl hkp hd
      rw [if_pos (by rfl)]
      go_simp
      exact hK _ _ (Only.refl _ _) rfl
    · intro a W L N hR hold hφ hcl hkp hd K hK
      have e12 := hold 12 (by kernel_rfl)
      clear hold hφ hcl hkp hd
      rw [if_pos (by rfl)]
      go_simp
      exact hK _ _ (Only.refl _ _) rfl
    · intro a W L N hR hold hφ hcl hkp hd K hK
      have e122 := got hφ (hd 70 (by kernel_rfl)) rfl rfl rfl
      clear hold hφ hcl hkp hd
      rw [if_pos (by rfl)]
      go_simp
      exact hK _ _ (Only.refl _ _) rfl
    · intro a W L N hR hold hφ hcl hkp hd K hK
      have e123 := got hφ (hd 71 (by kernel_rfl)) rfl rfl rfl
      clear hold hφ hcl hkp hd
      rw [if_pos (by rfl)]
      go_simp
      exact hK _ _ (Only.refl _ _) rfl
    · intro a W L N hR hold hφ hcl hkp hd K hK
      have e11 := hold 11 (by kernel_rfl)
      have e124 := got hφ (hd 72 (by kernel_rfl)) rfl rfl rfl
      clear hold hφ hcl hkp hd
      rw [if_pos (by simp [Region.wanted, yielded, e124])]
      go_simp
      exact hK _ _ (Only.refl _ _) rfl
    · intro a W L N hR hold hφ hcl hkp hd K hK
      have e125 := got hφ (hd 73 (by kernel_rfl)) rfl rfl rfl
      have e124 := got hφ (hd 72 (by kernel_rfl)) rfl rfl rfl
      clear hold hφ hcl hkp hd
      rw [if_pos (by simp [Region.wanted, yielded, e124])]
      go_simp
      exact hK _ _ (Only.refl _ _) rfl
    · intro a W L N hR hold hφ hcl hkp hd K hK
      have e126 := got hφ (hd 74 (by kernel_rfl)) rfl rfl rfl
      have e124 := got hφ (hd 72 (by kernel_rfl)) rfl rfl rfl
      clear hold hφ hcl hkp hd
      rw [if_pos (by simp [Region.wanted, yielded, e124])]
      go_simp
      exact hK _ _ (Only.refl _ _) rfl
    · intro a W L N hR hold hφ hcl hkp hd K hK
      have e124 := got hφ (hd 72 (by kernel_rfl)) rfl rfl rfl
      have e127 := got hφ (hd 75 (by kernel_rfl)) rfl rfl rfl
      clear hold hφ hcl hkp hd
      rw [if_pos (by rfl)]
      go_simp
      exact hK _ _ (Only.refl _ _) rfl
    · intro a W L N hR hold hφ hcl hkp hd K hK
      have e128 := got hφ (hd 76 (by kernel_rfl)) rfl rfl rfl
      clear hold hφ hcl hkp hd
      rw [if_pos (by rfl)]
      go_simp
      exact hK _ _ (Only.refl _ _) rfl
    · intro a W L N hR hold hφ hcl hkp hd K hK
      have e11 := hold 11 (by kernel_rfl)
      have e129 := got hφ (hd 77 (by kernel_rfl)) rfl rfl rfl
      clear hold hφ hcl hkp hd
      rw [if_pos (by simp [Region.wanted, yielded, e129])]
      go_simp
      exact hK _ _ (Only.refl _ _) rfl
    · intro a W L N hR hold hφ hcl hkp hd K hK
      have e130 := got hφ (hd 78 (by kernel_rfl)) rfl rfl rfl
      have e129 := got hφ (hd 77 (by kernel_rfl)) rfl rfl rfl
      clear hold hφ hcl hkp hd
      rw [if_pos (by simp [Region.wanted, yielded, e129])]
      go_simp
      exact hK _ _ (Only.refl _ _) rfl
    · intro a W L N hR hold hφ hcl hkp hd K hK
      have e131 := got hφ (hd 79 (by kernel_rfl)) rfl rfl rfl
      have e129 := got hφ (hd 77 (by kernel_rfl)) rfl rfl rfl
      clear hold hφ hcl hkp hd
      rw [if_pos (by simp [Region.wanted, yielded, e129])]
      go_simp
      exact hK _ _ (Only.refl _ _) rfl
    · intro a W L N hR hold hφ hcl hkp hd K hK
      have e132 := got hφ (hd 80 (by kernel_rfl)) rfl rfl rfl
      have e129 := got hφ (hd 77 (by kernel_rfl)) rfl rfl rfl
      have hc := only_cell (HO46.out.drew.then hR [] (by simp) (by simp)) mw3 q4
      clear hold hφ hcl hkp hd
      rw [if_pos (by simp [Region.wanted, yielded, e129])]
      go_simp
      exact hK _ _ (Only.refl _ _) rfl
    · intro a W L N hR hold hφ hcl hkp hd K hK
      have e133 := got hφ (hd 81 (by kernel_rfl)) rfl rfl rfl
      have e129 := got hφ (hd 77 (by kernel_rfl)) rfl rfl rfl
      have hcv := conv_src W (some ⟨mw, 0, none⟩) 52 52 _ (Hms.out.more (HO46.out.drew.then hR [] (by simp) (by simp)))
      clear hold hφ hcl hkp hd
      rw [if_pos (by simp [Region.wanted, yielded, e129])]
      go_simp
      exact hK _ _ (Only.refl _ _) rfl
    · intro a W L N hR hold hφ hcl hkp hd K hK
      have e129 := got hφ (hd 77 (by kernel_rfl)) rfl rfl rfl
      clear hold hφ hcl hkp hd
      rw [if_pos (by simp [Region.wanted, yielded, e129])]
      go_simp
      exact hK _ _ ((Only.refl _ _).alloc _) ⟨_, rfl, IsBlk.made _ _⟩
    · intro a W L N hR hold hφ hcl hkp hd K hK
      obtain ⟨u135, e135, g135, p135, b135⟩ := gotP hφ (hd 83 (by kernel_rfl)) rfl rfl rfl
      have p135 : u135 = .slice (some ⟨g135, 0, none⟩) 52 52 := p135
      subst p135
      have hcv := conv_src W (some ⟨g135, 0, none⟩) 52 52 _ (src_all b135 (length_nul 52))
      have e129 := got hφ (hd 77 (by kernel_rfl)) rfl rfl rfl
      clear hold hφ hcl hkp hd
      rw [if_pos (by simp [Region.wanted, yielded, e129])]
      go_simp
      exact hK _ _ (Only.refl _ _) rfl
    · intro a W L N hR hold hφ hcl hkp hd K hK
      have e134 := got hφ (hd 82 (by kernel_rfl)) rfl rfl rfl
      have e136 := got hφ (hd 84 (by kernel_rfl)) rfl rfl rfl
      have e129 := got hφ (hd 77 (by kernel_rfl)) rfl rfl rfl
      clear hold hφ hcl hkp hd
      rw [if_pos (by simp [Region.wanted, yielded, e129])]
      go_simp
      exact hK _ _ (Only.refl _ _) rfl
    · intro a W L N hR hold hφ hcl hkp hd K hK
      have e129 := got hφ (hd 77 (by kernel_rfl)) rfl rfl rfl
      have e137 := got hφ (hd 85 (by kernel_rfl)) rfl rfl rfl
      clear hold hφ hcl hkp hd
      rw [if_pos (by rfl)]
      go_simp
      exact hK _ _ (Only.refl _ _) rfl
    · intro a W L N hR hold hφ hcl hkp hd K hK
      have e14 := hold 14 (by kernel_rfl)
      clear hold hφ hcl hkp hd
      rw [if_pos (by rfl)]
      go_simp
      exact hK _ _ (Only.refl _ _) rfl
    · intro a W L N hR hold hφ hcl hkp hd K hK
      have e139 := got hφ (hd 87 (by kernel_rfl)) rfl rfl rfl
      clear hold hφ hcl hkp hd
      rw [if_pos (by rfl)]
      go_simp
      exact hK _ _ (Only.refl _ _) rfl
    · intro a W L N hR hold hφ hcl hkp hd K hK
      have e140 := got hφ (hd 88 (by kernel_rfl)) rfl rfl rfl
      clear hold hφ hcl hkp hd
      rw [if_pos (by rfl)]
      go_simp
      exact hK _ _ (Only.refl _ _) rfl
    · intro a W L N hR hold hφ hcl hkp hd K hK
      have e16 := hold 16 (by kernel_rfl)
      have e141 := got hφ (hd 89 (by kernel_rfl)) rfl rfl rfl
      clear hold hφ hcl hkp hd
      rw [if_pos (by simp [Region.wanted, yielded, e141])]
      go_simp
      exact hK _ _ (Only.refl _ _) rfl
    · intro a W L N hR hold hφ hcl hkp hd K hK
      have e142 := got hφ (hd 90 (by kernel_rfl)) rfl rfl rfl
      have e141 := got hφ (hd 89 (by kernel_rfl)) rfl rfl rfl
      clear hold hφ hcl hkp hd
      rw [if_pos (by simp [Region.wanted, yielded, e141])]
      go_simp
      exact hK _ _ (Only.refl _ _) rfl
    · intro a W L N hR hold hφ hcl hkp hd K hK
      have e141 := got hφ (hd 89 (by kernel_rfl)) rfl rfl rfl
      have e143 := got hφ (hd 91 (by kernel_rfl)) rfl rfl rfl
      clear hold hφ hcl hkp hd
      rw [if_pos (by rfl)]
      go_simp
      exact hK _ _ (Only.refl _ _) rfl
  · intro us W hO hus
    have p3 : us 3 = .bool true := hus 3 _ 55 (by omega) rfl rfl rfl
    have p6 : us 6 = .bool true := hus 6 _ 58 (by omega) rfl rfl rfl
    have p19 : us 19 = .bool true := hus 19 _ 71 (by omega) rfl rfl rfl
    have p63 : us 63 = .bool true := hus 63 _ 115 (by omega) rfl rfl rfl
    have p69 : us 69 = .bool true := hus 69 _ 121 (by omega) rfl rfl rfl
    have p86 : us 86 = .bool true := hus 86 _ 138 (by omega) rfl rfl rfl
    have p92 : us 92 = .bool true := hus 92 _ 144 (by omega) rfl rfl rfl
    clear hus
    simp only [List.append_eq, List.cons_append, List.nil_append, List.take_succ_cons, List.take_zero, List.drop_succ_cons, List.drop_zero, fillAct, Act.put, List.setIfInBounds_toArray, List.set_cons_zero, List.set_cons_succ, Nat.reduceAdd, p3, p6, p19, p63, p69, p86, p92]
    obtain ⟨t, ht⟩ := Int.eq_ofNat_of_zero_le (Int.emod_nonneg which (show (7 : Int) ≠ 0 by omega))
    have ht7 : t < 7 := by omega
    have hOw := HO3.out.then (HO36.out.drew.then hO [] (by simp) (by simp)) [] (by simp) (by simp)
    have HOw := Lib.hid hOw
    have Ht := Lib.hid ht
    clear hO hOw ht
    go_wp2_with fail
    refine (within_any _ which 7 (by omega) (by omega)).mono ?_
    rintro e w' ⟨rfl, rfl⟩
    rw [Ht.out]
    have hct : (W.alloc (.cells #[.bool true, .bool true, .bool true, .bool true, .bool true, .bool true, .bool true] 4)).cell? ⟨W.heap.size, t, none⟩ = some (.bool true) := by
      rw [(IsBlk.made W _).cell t]
      obtain rfl | rfl | rfl | rfl | rfl | rfl | rfl : t = 0 ∨ t = 1 ∨ t = 2 ∨ t = 3 ∨ t = 4 ∨ t = 5 ∨ t = 6 := by omega
      all_goals rfl
    have hti : (t : Int) < 7 := by omega
    go_wp2
    go_ret
    exact ⟨rfl, HOw.out.alloc _⟩

end Go.Proofs.Ytiegkdkbkkbjpaa
