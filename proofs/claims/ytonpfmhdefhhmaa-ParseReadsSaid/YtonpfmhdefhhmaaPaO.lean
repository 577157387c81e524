/-
  Text and Body of the package parse.
-/
import Derived.Test.YtonpfmhdefhhmaaPaN
namespace Go.Proofs.Ytonpfmhdefhhmaa
set_option maxRecDepth 100000
set_option linter.unusedVariables false
open Go.RowKit Go.Sort

set_option maxHeartbeats 4000000 in
theorem string_none (w : World) (p : Nat) (a u : Value) (h : IsBlk w p (.cells #[a, .slice none 0 0, u] 86)) :
    Calls Try.prog 46 #[.pointer (some ⟨p, 0, none⟩)] w fun e w' => e = .returned (encStr []) ∧ Only [] w w' := by
  have c1 := h.drew.cell 1
  have hUS := fun (W : World) => Lib.run_unsafeString_none (P := Try.prog) W 121 3 9 none
  have hSD := Lib.run_unsafeSliceData_nil (P := Try.prog) w.drew #[32] 121 0 0
  go_enter Try.func46, Try.ntmps46
  go_wp2
  go_region
  all_goals
    go_wp2
    go_ret
    exact ⟨rfl, (Only.refl [] w).drew⟩

set_option maxHeartbeats 4000000 in
theorem string_some (w : World) (p g cap base : Nat) (a u : Value) (L : List UInt8) (hL : L ≠ []) (h : IsBlk w p (.cells #[a, .slice (some ⟨g, 0, none⟩) L.length cap, u] 86)) (hown : w.ownsRow base 5 1 (.slice (some ⟨g, 0, none⟩) L.length cap) L.length (bv L)) :
    Calls Try.prog 46 #[.pointer (some ⟨p, 0, none⟩)] w fun e w' => e = .returned (encStr L) ∧ Below base w w' := by
  have hl0 : 0 < L.length := List.length_pos_iff.2 hL
  obtain ⟨cur, hbg, hg, hnc, hcm, hcs⟩ : ∃ cur, base ≤ g ∧ IsBlk w g (.cells cur 5) ∧ L.length ≤ cap ∧ cap ≤ maxLen ∧ cur.size = cap * 1 := by
    rcases hown.2 with ⟨h1, _⟩ | ⟨g', cap', cur, h1, r1, r2, r3, r4, r5, -⟩
    · cases h1
    · injection h1 with h1 h2 h3
      injection h1 with h1
      injection h1 with h1
      subst h1
      subst h3
      exact ⟨cur, r1, r2, r3, r4, r5⟩
  have c1 := h.drew.cell 1
  have hSD : (Builtin.unsafeSliceData_ #[32] 121 #[.slice (some ⟨g, 0, none⟩) L.length cap]).run Try.prog w.drew = .ok (.pointer (some ⟨g, 0, none⟩)) w.drew := Lib.run_unsafeSliceData_row _ _ _ _ _ _ (by omega)
  have hUS : (Builtin.unsafeString_ #[121, 3] 9 #[.pointer (some ⟨g, 0, none⟩), .int .i64 L.length]).run Try.prog w.drew = .ok (.string ⟨L.toArray⟩) (w.drew.freeze ⟨g, 0, none⟩ L.length) := by
    refine Lib.run_unsafeString_row w.drew 121 3 9 5 Try.underlying121 (by kernel_rfl) g cur.size (by have hg' : w.drew.heap[g]? = some (.cells cur 5 (0, 0)) := hg; simp [World.shape?, hg']) L hL (by omega) (by unfold maxLen at hcm; omega) ?_
    intro j x hx
    exact World.ownsRow.cells hown (g := g) rfl j (.int .u8 x.toNat) (by simp [bv, hx])
  go_enter Try.func46, Try.ntmps46
  go_wp2
  go_region
  all_goals
    go_wp2
    go_ret
    exact ⟨rfl, Lib.below_freeze (Below.drew (Below.refl base w)) (p := ⟨g, 0, none⟩) hbg _⟩

/-- What a writer hands out. -/
theorem string_any (w0 w : World) (p : Nat) (L : List UInt8) (inl : Bool) (h : WrAt w0 w p L inl) :
    Calls Try.prog 46 #[.pointer (some ⟨p, 0, none⟩)] w fun e w' => e = .returned (encStr L) ∧ Below w0.heap.size w w' := by
  obtain ⟨a, v, h1, h2, h3, h4, h5, h6⟩ := h
  by_cases hL : L = []
  · have := h4 hL
    subst this
    subst hL
    refine (string_none w p a _ h1).mono ?_
    rintro e w' ⟨rfl, hO⟩
    exact ⟨rfl, hO.os, hO.tape, hO.output, hO.size, fun k hk => hO.block k (by omega) (by simp)⟩
  · rcases h3.2 with ⟨-, h0⟩ | ⟨g, cap, cur, rfl, -⟩
    · exact absurd (List.eq_nil_of_length_eq_zero h0) hL
    · exact string_some w p g cap _ a _ L hL h1 h3

/-- The text of a program. -/
def lineD (W : List UInt8) (d : DeclM) : List UInt8 := putM false [W, d.name] ++ [10]
def lineF (f : FuncM) : List UInt8 := putM false ([funcW, f.name] ++ wordsB f.body) ++ [10]
def progT (P : ProgM) : List UInt8 := P.vars.flatMap (lineD varW) ++ P.locks.flatMap (lineD lockW) ++ P.funcs.flatMap lineF

theorem dcells_get : ∀ (l : List DeclM) (i : Nat) (d : DeclM), l[i]? = some d → (dcells l)[i * 2]? = some (encStr d.name) ∧ (dcells l)[i * 2 + 1]? = some (.int .i64 d.at_)
  | [], i, d, h => by simp at h
  | x :: r, 0, d, h => by simp at h; subst h; exact ⟨rfl, rfl⟩
  | x :: r, i + 1, d, h => by
    have ih := dcells_get r i d (by simpa using h)
    have e : dcells (x :: r) = encStr x.name :: .int .i64 x.at_ :: dcells r := by simp [dcells]
    rw [e, show (i + 1) * 2 = i * 2 + 1 + 1 by omega, show i * 2 + 1 + 1 + 1 = (i * 2 + 1) + 1 + 1 by omega]
    simpa using ih
theorem EncF.get {w : World} : ∀ {l : List FuncM} {xs : List Value} {fp : List Nat}, EncF w l xs fp → ∀ (i : Nat) (f : FuncM), l[i]? = some f → ∃ va fa, xs[i * 3]? = some (encStr f.name) ∧ xs[i * 3 + 1]? = some (.int .i64 f.at_) ∧ xs[i * 3 + 2]? = some va ∧ BlkAt w va f.body fa ∧ fa.Nodup
  | [], xs, fp, h, i, f, hf => by simp at hf
  | g :: r, xs, fp, h, i, f, hf => by
    obtain ⟨va, fa, fr, xr, rfl, rfl, h1, hn, h3⟩ := h
    cases i with
    | zero => simp at hf; subst hf; exact ⟨va, fa, rfl, rfl, rfl, h1, hn⟩
    | succ i =>
      obtain ⟨vb, fb, e1, e2, e3, e4, e5⟩ := EncF.get h3 i f (by simpa using hf)
      refine ⟨vb, fb, ?_, ?_, ?_, e4, e5⟩
      · rw [show (i + 1) * 3 = i * 3 + 1 + 1 + 1 by omega]; simpa using e1
      · rw [show (i + 1) * 3 + 1 = (i * 3 + 1) + 1 + 1 + 1 by omega]; simpa using e2
      · rw [show (i + 1) * 3 + 2 = (i * 3 + 2) + 1 + 1 + 1 by omega]; simpa using e3
theorem flat_len {α : Type} (f : α → List UInt8) (l : List α) (i : Nat) : ((l.take i).flatMap f).length ≤ (l.flatMap f).length := by
  conv => rhs; rw [← List.take_append_drop i l, List.flatMap_append, List.length_append]
  omega
theorem flat_snoc {α : Type} (f : α → List UInt8) (l : List α) (i : Nat) (x : α) (h : l[i]? = some x) : (l.take (i + 1)).flatMap f = (l.take i).flatMap f ++ f x := by
  rw [List.take_add_one, h, List.flatMap_append]; simp

/-- What Text asks of a program's bodies. -/
def BodyOk (f : FuncM) : Prop := f.body.cnt ≤ 100000 ∧ KOk f.body

set_option maxHeartbeats 16000000 in
theorem ptext_any (w : World) (vv vl vf : Value) (P : ProgM) (h : ProgAt w vv vl vf P) (hL : (progT P).length ≤ 10000000) (hB : ∀ f ∈ P.funcs, BodyOk f) (hn : P.vars.length ≤ 1000000 ∧ P.locks.length ≤ 1000000 ∧ P.funcs.length ≤ 1000000) :
    Calls Try.prog 22 #[.agg #[vv, vl, vf]] w fun e w' => e = .returned (encStr (progT P)) ∧ Only [] w w' := by
  obtain ⟨hv, hl, hf⟩ := h
  obtain ⟨av, cv, rfl, hcv, hv⟩ := hv
  obtain ⟨al, cl, rfl, hcl, hl⟩ := hl
  obtain ⟨af, cf, rfl, hcf, hf⟩ := hf
  have Hv := Lib.hid hv
  have Hl := Lib.hid hl
  have Hf := Lib.hid hf
  clear hv hl hf
  have hO1 := (Only.refl [] w).alloc (.cells #[.slice av P.vars.length cv, .slice al P.locks.length cl, .slice af P.funcs.length cf] 30)
  have hO2 := hO1.alloc (.cells #[.pointer none, .slice none 0 0, .bool false] 86)
  have hp1 := (IsBlk.made w (.cells #[.slice av P.vars.length cv, .slice al P.locks.length cl, .slice af P.funcs.length cf] 30)).alloc (.cells #[.pointer none, .slice none 0 0, .bool false] 86)
  have hp2 := IsBlk.made (w.alloc (.cells #[.slice av P.vars.length cv, .slice al P.locks.length cl, .slice af P.funcs.length cf] 30)) (.cells #[.pointer none, .slice none 0 0, .bool false] 86)
  have hs : (w.alloc (.cells #[.slice av P.vars.length cv, .slice al P.locks.length cl, .slice af P.funcs.length cf] 30)).heap.size = w.heap.size + 1 := by simp
  rw [hs] at hp2
  have hs2 : ((w.alloc (.cells #[.slice av P.vars.length cv, .slice al P.locks.length cl, .slice af P.funcs.length cf] 30)).alloc (.cells #[.pointer none, .slice none 0 0, .bool false] 86)).heap.size = w.heap.size + 2 := by simp
  go_enter Try.func22, Try.ntmps22
  go_upto_region 2 with fail
  generalize hW0 : (w.alloc (.cells #[.slice av P.vars.length cv, .slice al P.locks.length cl, .slice af P.funcs.length cf] 30)).alloc (.cells #[.pointer none, .slice none 0 0, .bool false] 86) = w0 at *
  clear hW0
  have HO0 := Lib.hid hO2
  have Hp1 := Lib.hid hp1
  have HW0 : Hid (WrAt w0 w0 (w.heap.size + 1) [] false) := Lib.hid ⟨_, _, hp2, .inl rfl, ⟨rfl, .inl ⟨rfl, rfl⟩⟩, fun _ => rfl, by omega, Nat.le_refl _⟩
  clear hO1 hO2 hp1 hp2 hs
  have hpp : w.heap.size + 1 < w0.heap.size := by omega
  generalize hp : w.heap.size + 1 = p at *
  have q0 := Hp1.out.cell 0
  have q1 := Hp1.out.cell 1
  have q2 := Hp1.out.cell 2
  have hq := Hp1.out.lt
  have Htl := Lib.hid hL
  unfold progT at hL
  simp only [List.length_append] at hL
  go_wp2_with fail
  go_loopw [13] (fun iv wr => ∃ i : Nat, iv = .int .i64 i ∧ i ≤ P.vars.length ∧ WrAt w0 wr p ([] ++ (P.vars.take i).flatMap (lineD varW)) false ∧ WrN w0 p w0 wr) (fun iv _ => P.vars.length - (intOf iv).toNat)
  case atStart => exact ⟨0, rfl, Nat.zero_le _, by simpa using HW0.out, WrN.refl hpp w0⟩
  case round =>
    obtain ⟨i, rfl, hi, hW, hN⟩ := hrel
    have HWr := Lib.hid hW
    have HNr := Lib.hid hN
    clear hW hN
    by_cases hlt : i < P.vars.length
    · have hlti : (i : Int) < (P.vars.length : Int) := by omega
      have hget : P.vars[i]? = some P.vars[i] := List.getElem?_eq_getElem hlt
      obtain ⟨g, hag, hg, hra⟩ := Hv.out (by omega)
      have hgw0 : g < w0.heap.size := by omega
      have hOr := HNr.out.only
      have hcell : ∀ j, wr.cell? ⟨g, j, none⟩ = w.cell? ⟨g, j, none⟩ := fun j => ((hOr.cell (p := ⟨g, j, none⟩) hgw0 (by simp; omega))).trans (HO0.out.cell (p := ⟨g, j, none⟩) hg (by simp))
      obtain ⟨e1, e2⟩ := dcells_get _ _ _ hget
      have c0 := hra _ _ e1
      have c1 := hra _ _ e2
      rw [Nat.zero_add, ← hcell] at c0 c1
      have hgr : g < wr.heap.size := Nat.lt_of_lt_of_le hgw0 hOr.size
      have hfl := flat_len (lineD varW) P.vars (i + 1)
      have hfs := flat_snoc (lineD varW) P.vars i _ hget
      have Hfs := Lib.hid hfs
      rw [hfs, List.length_append] at hfl
      have hln : (lineD varW P.vars[i]).length = (putM false [varW, P.vars[i].name]).length + 1 := by simp [lineD]
      clear hfs hget hra e1 e2 hcell hOr
      generalize P.vars[i] = d at *
      unfold encStr at c0
      have hOa := (Only.refl [] wr).alloc (.cells #[.string ⟨d.name.toArray⟩, .int .i64 d.at_] 59)
      have hb := IsBlk.made wr (.cells #[.string ⟨d.name.toArray⟩, .int .i64 d.at_] 59)
      have HW1 := Lib.hid (HWr.out.more hOa)
      have HN1 := Lib.hid (HNr.out.trans (WrN.of hpp hOa (by simp)))
      have hs1 := hOa.size
      clear hOa
      rw [hag]
      go_upto_region 5 with fail
      generalize hW1 : wr.alloc (.cells #[.string ⟨d.name.toArray⟩, .int .i64 d.at_] 59) = w1 at *
      clear hW1
      have d0 := hb.cell 0
      have d1 := hb.lt
      generalize wr.heap.size = gd at *
      go_wp2_with fail
      refine (put_new w0 w1 p _ false [varW, d.name] HW1.out (by simp only [List.length_append, List.length_nil]; omega) (by simp) 2 rfl _ rfl _ rfl).mono ?_
      rintro e w2 ⟨rfl, hW2, hO2⟩
      rw [show inlM false [varW, d.name] = true from by simp [inlM]] at hW2
      have HW2 := Lib.hid hW2
      have HN2 := Lib.hid (HN1.out.trans hO2.n)
      clear hW2 hO2 d0 hb
      go_wp2_with fail
      refine (endLine_any w0 w2 p _ true HW2.out (by simp only [List.length_append, List.length_nil]; omega)).mono ?_
      rintro e w3 ⟨rfl, hW3, hO3⟩
      have HW3 := Lib.hid hW3
      have HN3 := Lib.hid (HN2.out.trans hO3.n)
      clear hW3 hO3
      go_wp2
      go_roundw
      case rel =>
        refine ⟨i + 1, by go_num, hlt, ?_, HN3.out⟩
        rw [Hfs.out]
        have := HW3.out
        simpa [lineD, List.append_assoc] using this
      case measure => simp [intOf]; omega
    · have hlti : ¬ (i : Int) < (P.vars.length : Int) := by omega
      have he : P.vars.take i = P.vars := List.take_of_length_le (by omega)
      rw [he] at HWr
      have HWa := Lib.hid (show WrAt w0 wr p (P.vars.flatMap (lineD varW)) false from by simpa using HWr.out)
      have HNa := Lib.hid HNr.out
      have hqr := HNr.out.only
      have q1 := (Hp1.out.only hqr (by simp; omega)).cell 1
      have q2 := (Hp1.out.only hqr (by simp; omega)).cell 2
      have hq := (Hp1.out.only hqr (by simp; omega)).lt
      clear hqr HWr HNr
      go_wp2_with fail
      go_loopw [26] (fun iv wr => ∃ i : Nat, iv = .int .i64 i ∧ i ≤ P.locks.length ∧ WrAt w0 wr p (P.vars.flatMap (lineD varW) ++ (P.locks.take i).flatMap (lineD lockW)) false ∧ WrN w0 p w0 wr) (fun iv _ => P.locks.length - (intOf iv).toNat)
      case atStart => exact ⟨0, rfl, Nat.zero_le _, by simpa using HWa.out, HNa.out⟩
      case round =>
        obtain ⟨i, rfl, hi, hW, hN⟩ := hrel
        have HWr := Lib.hid hW
        have HNr := Lib.hid hN
        clear hW hN
        by_cases hlt : i < P.locks.length
        · have hlti : (i : Int) < (P.locks.length : Int) := by omega
          have hget : P.locks[i]? = some P.locks[i] := List.getElem?_eq_getElem hlt
          obtain ⟨g, hag, hg, hra⟩ := Hl.out (by omega)
          have hgw0 : g < w0.heap.size := by omega
          have hOr := HNr.out.only
          have hcell : ∀ j, wr.cell? ⟨g, j, none⟩ = w.cell? ⟨g, j, none⟩ := fun j => ((hOr.cell (p := ⟨g, j, none⟩) hgw0 (by simp; omega))).trans (HO0.out.cell (p := ⟨g, j, none⟩) hg (by simp))
          obtain ⟨e1, e2⟩ := dcells_get _ _ _ hget
          have c0 := hra _ _ e1
          have c1 := hra _ _ e2
          rw [Nat.zero_add, ← hcell] at c0 c1
          have hgr : g < wr.heap.size := Nat.lt_of_lt_of_le hgw0 hOr.size
          have hfl := flat_len (lineD lockW) P.locks (i + 1)
          have hfs := flat_snoc (lineD lockW) P.locks i _ hget
          have Hfs := Lib.hid hfs
          rw [hfs, List.length_append] at hfl
          have hln : (lineD lockW P.locks[i]).length = (putM false [lockW, P.locks[i].name]).length + 1 := by simp [lineD]
          clear hfs hget hra e1 e2 hcell hOr
          generalize P.locks[i] = d at *
          unfold encStr at c0
          have hOa := (Only.refl [] wr).alloc (.cells #[.string ⟨d.name.toArray⟩, .int .i64 d.at_] 59)
          have hb := IsBlk.made wr (.cells #[.string ⟨d.name.toArray⟩, .int .i64 d.at_] 59)
          have HW1 := Lib.hid (HWr.out.more hOa)
          have HN1 := Lib.hid (HNr.out.trans (WrN.of hpp hOa (by simp)))
          have hs1 := hOa.size
          clear hOa
          rw [hag]
          go_upto_region 11 with fail
          generalize hW1 : wr.alloc (.cells #[.string ⟨d.name.toArray⟩, .int .i64 d.at_] 59) = w1 at *
          clear hW1
          have d0 := hb.cell 0
          have d1 := hb.lt
          generalize wr.heap.size = gd at *
          go_wp2_with fail
          refine (put_new w0 w1 p _ false [lockW, d.name] HW1.out (by simp only [List.length_append]; omega) (by simp) 2 rfl _ rfl _ rfl).mono ?_
          rintro e w2 ⟨rfl, hW2, hO2⟩
          rw [show inlM false [lockW, d.name] = true from by simp [inlM]] at hW2
          have HW2 := Lib.hid hW2
          have HN2 := Lib.hid (HN1.out.trans hO2.n)
          clear hW2 hO2 d0 hb
          go_wp2_with fail
          refine (endLine_any w0 w2 p _ true HW2.out (by simp only [List.length_append]; omega)).mono ?_
          rintro e w3 ⟨rfl, hW3, hO3⟩
          have HW3 := Lib.hid hW3
          have HN3 := Lib.hid (HN2.out.trans hO3.n)
          clear hW3 hO3
          go_wp2
          go_roundw
          case rel =>
            refine ⟨i + 1, by go_num, hlt, ?_, HN3.out⟩
            rw [Hfs.out]
            have := HW3.out
            simpa [lineD, List.append_assoc] using this
          case measure => simp [intOf]; omega
        · have hlti : ¬ (i : Int) < (P.locks.length : Int) := by omega
          have he : P.locks.take i = P.locks := List.take_of_length_le (by omega)
          rw [he] at HWr
          have HWb := Lib.hid (show WrAt w0 wr p (P.vars.flatMap (lineD varW) ++ P.locks.flatMap (lineD lockW)) false from by simpa using HWr.out)
          have HNa := Lib.hid HNr.out
          have hqr := HNr.out.only
          have q2 := (Hp1.out.only hqr (by simp; omega)).cell 2
          have hq := (Hp1.out.only hqr (by simp; omega)).lt
          clear hqr HWr HNr
          go_wp2_with fail
          go_loopw [39] (fun iv wr => ∃ i : Nat, iv = .int .i64 i ∧ i ≤ P.funcs.length ∧ WrAt w0 wr p (P.vars.flatMap (lineD varW) ++ P.locks.flatMap (lineD lockW) ++ (P.funcs.take i).flatMap lineF) false ∧ WrN w0 p w0 wr) (fun iv _ => P.funcs.length - (intOf iv).toNat)
          case atStart => exact ⟨0, rfl, Nat.zero_le _, by simpa using HWb.out, HNa.out⟩
          case round =>
            obtain ⟨i, rfl, hi, hW, hN⟩ := hrel
            have HWr := Lib.hid hW
            have HNr := Lib.hid hN
            clear hW hN
            by_cases hlt : i < P.funcs.length
            · have hlti : (i : Int) < (P.funcs.length : Int) := by omega
              have hget : P.funcs[i]? = some P.funcs[i] := List.getElem?_eq_getElem hlt
              obtain ⟨g, xs, fp, hag, hg, hra, hef⟩ := Hf.out (by omega)
              have hgw0 : g < w0.heap.size := by omega
              have hOr := HNr.out.only
              have hcell : ∀ j, wr.cell? ⟨g, j, none⟩ = w.cell? ⟨g, j, none⟩ := fun j => ((hOr.cell (p := ⟨g, j, none⟩) hgw0 (by simp; omega))).trans (HO0.out.cell (p := ⟨g, j, none⟩) hg (by simp))
              obtain ⟨va, fa, e1, e2, e3, hbk, hnd⟩ := hef.get i _ hget
              have c0 := hra _ _ e1
              have c1 := hra _ _ e2
              have c2 := hra _ _ e3
              rw [Nat.zero_add, ← hcell] at c0 c1 c2
              have hgr : g < wr.heap.size := Nat.lt_of_lt_of_le hgw0 hOr.size
              have hfl := flat_len lineF P.funcs (i + 1)
              have hfs := flat_snoc lineF P.funcs i _ hget
              have Hfs := Lib.hid hfs
              rw [hfs, List.length_append] at hfl
              have Hbo := Lib.hid (hB _ (List.getElem_mem hlt))
              have hln : (lineF P.funcs[i]).length = (putM false [funcW, P.funcs[i].name]).length + (putM true (wordsB P.funcs[i].body)).length + 1 := by
                unfold lineF
                rw [putM_append]
                simp [inlM]
                omega
              have hfpl : ∀ k ∈ fa, k < p := fun k hk => by have := hbk.lt k hk; omega
              have Hbk := Lib.hid (And.intro (hbk.keep (HO0.out.into (T := [p]) (by simp)) (fun k hk => by have := hfpl k hk; simp; omega)) (And.intro hnd hfpl))
              have Hbk2 := Lib.hid (Hbk.out.1.keep hOr (fun k hk => by have := hfpl k hk; simp; omega))
              obtain ⟨ba, bc, rfl, hbc⟩ := hbk.slice
              clear hfs hget hra e1 e2 e3 hcell hOr hef hbk hnd hfpl
              generalize P.funcs[i] = d at *
              unfold encStr at c0
              have hOa := (Only.refl [] wr).alloc (.cells #[.string ⟨d.name.toArray⟩, .int .i64 d.at_, .slice ba d.body.len bc] 47)
              have hb := IsBlk.made wr (.cells #[.string ⟨d.name.toArray⟩, .int .i64 d.at_, .slice ba d.body.len bc] 47)
              have HW1 := Lib.hid (HWr.out.more hOa)
              have HN1 := Lib.hid (HNr.out.trans (WrN.of hpp hOa (by simp)))
              have Hbk3 := Lib.hid (Hbk2.out.more hOa)
              have hs1 := hOa.size
              clear hOa
              rw [hag]
              go_upto_region 17 with fail
              generalize hW1 : wr.alloc (.cells #[.string ⟨d.name.toArray⟩, .int .i64 d.at_, .slice ba d.body.len bc] 47) = w1 at *
              clear hW1
              have d0 := hb.cell 0
              have d1 := hb.lt
              have Hb := Lib.hid hb
              have hwz := HNr.out.size
              generalize wr.heap.size = gd at *
              go_wp2_with fail
              refine (put_new w0 w1 p _ false [funcW, d.name] HW1.out (by simp only [List.length_append]; omega) (by simp) 2 rfl _ rfl _ rfl).mono ?_
              rintro e w2 ⟨rfl, hW2, hO2⟩
              rw [show inlM false [funcW, d.name] = true from by simp [inlM]] at hW2
              have HW2 := Lib.hid hW2
              have HN2 := Lib.hid (HN1.out.trans hO2.n)
              have hb2 := hO2.blk Hb.out (by omega) (by decide)
              have d2 := hb2.cell 2
              have d3 := hb2.lt
              clear hW2 hO2 d0 hb hb2
              go_wp2_with fail
              refine (wblock_any w0 w2 p _ true _ _ fa (Hbk.out.1.keep HN2.out.only (fun k hk => by have := Hbk.out.2.2 k hk; simp; omega)) Hbk.out.2.1 Hbk.out.2.2 Hbo.out.1 Hbo.out.2 HW2.out (by simp only [List.length_append]; omega)).mono ?_
              rintro e w3 ⟨rfl, hW3, hO3⟩
              have HW3 := Lib.hid hW3
              have HN3 := Lib.hid (HN2.out.trans hO3)
              clear hW3 hO3
              go_wp2_with fail
              refine (endLine_any w0 w3 p _ true HW3.out (by simp only [List.length_append]; omega)).mono ?_
              rintro e w4 ⟨rfl, hW4, hO4⟩
              have HW4 := Lib.hid hW4
              have HN4 := Lib.hid (HN3.out.trans hO4.n)
              clear hW4 hO4
              go_wp2
              go_roundw
              case rel =>
                refine ⟨i + 1, by go_num, hlt, ?_, HN4.out⟩
                rw [Hfs.out]
                have := HW4.out
                unfold lineF
                rw [putM_append, show inlM false [funcW, d.name] = true from by simp [inlM]]
                simp only [List.append_assoc] at this ⊢
                exact this
              case measure => simp [intOf]; omega
            · have hlti : ¬ (i : Int) < (P.funcs.length : Int) := by omega
              have he : P.funcs.take i = P.funcs := List.take_of_length_le (by omega)
              rw [he] at HWr
              have HNa := Lib.hid HNr.out
              have HWc := Lib.hid HWr.out
              clear HWr HNr
              have hq := HNa.out.only
              go_wp2_with fail
              refine (string_any w0 wr p _ false HWc.out).mono ?_
              rintro e w5 ⟨rfl, hO5⟩
              go_wp2
              go_ret
              refine ⟨?_, ?_⟩
              · show Ending.returned (encStr _) = _
                unfold progT
                rw [List.append_assoc]
              · have A : Only [] w wr := HO0.out.then hq [] (by simp) (fun i hi => .inr (by simp at hi; omega))
                exact ⟨hO5.os.trans A.os, hO5.tape.trans A.tape, hO5.output.trans A.output, Nat.le_trans A.size hO5.size, fun k hk _ => (hO5.block k (by omega)).trans (A.block k hk (by simp))⟩

set_option maxHeartbeats 16000000 in
/-- Body writes a function's block. -/
theorem pbody_any (w : World) (nm at_ v : Value) (b : Blk) (fp : List Nat) (h : BlkAt w v b fp) (hnd : fp.Nodup) (hN : b.cnt ≤ 100000) (hko : KOk b) (hL : (putM false (wordsB b)).length ≤ 10000000) :
    Calls Try.prog 23 #[.agg #[nm, at_, v]] w fun e w' => e = .returned (encStr (putM false (wordsB b))) ∧ Only [] w w' := by
  obtain ⟨a, c, rfl, hc⟩ := h.slice
  have H := Lib.hid h
  clear h
  have hO1 := (Only.refl [] w).alloc (.cells #[nm, at_, .slice a b.len c] 47)
  have hO2 := hO1.alloc (.cells #[.pointer none, .slice none 0 0, .bool false] 86)
  have hp1 := (IsBlk.made w (.cells #[nm, at_, .slice a b.len c] 47)).alloc (.cells #[.pointer none, .slice none 0 0, .bool false] 86)
  have hp2 := IsBlk.made (w.alloc (.cells #[nm, at_, .slice a b.len c] 47)) (.cells #[.pointer none, .slice none 0 0, .bool false] 86)
  have hs : (w.alloc (.cells #[nm, at_, .slice a b.len c] 47)).heap.size = w.heap.size + 1 := by simp
  rw [hs] at hp2
  have hs2 : ((w.alloc (.cells #[nm, at_, .slice a b.len c] 47)).alloc (.cells #[.pointer none, .slice none 0 0, .bool false] 86)).heap.size = w.heap.size + 2 := by simp
  go_enter Try.func23, Try.ntmps23
  go_upto_region 2 with fail
  generalize hW0 : (w.alloc (.cells #[nm, at_, .slice a b.len c] 47)).alloc (.cells #[.pointer none, .slice none 0 0, .bool false] 86) = w0 at *
  clear hW0
  have HO0 := Lib.hid hO2
  have HW0 : Hid (WrAt w0 w0 (w.heap.size + 1) [] false) := Lib.hid ⟨_, _, hp2, .inl rfl, ⟨rfl, .inl ⟨rfl, rfl⟩⟩, fun _ => rfl, by omega, Nat.le_refl _⟩
  have Hb := Lib.hid (H.out.keep (HO0.out.into (T := []) (by simp)) (by simp))
  have hlt := H.out.lt
  clear hO1 hO2 hp2 hs
  have hpp : w.heap.size + 1 < w0.heap.size := by omega
  generalize hp : w.heap.size + 1 = p at *
  have q2 := hp1.cell 2
  have hq := hp1.lt
  clear hp1
  go_wp2_with fail
  refine (wblock_any w0 w0 p [] false _ b fp Hb.out hnd (fun k hk => by have := hlt k hk; omega) hN hko HW0.out (by simp; omega)).mono ?_
  rintro e w3 ⟨rfl, hW3, hO3⟩
  have HW3 := Lib.hid hW3
  have HN3 := Lib.hid hO3
  clear hW3 hO3
  go_wp2_with fail
  refine (string_any w0 w3 p _ true HW3.out).mono ?_
  rintro e w5 ⟨rfl, hO5⟩
  go_wp2
  go_ret
  refine ⟨by simp [Array.getD], ?_⟩
  have A : Only [] w w3 := HO0.out.then HN3.out.only [] (by simp) (fun i hi => .inr (by simp at hi; omega))
  exact ⟨hO5.os.trans A.os, hO5.tape.trans A.tape, hO5.output.trans A.output, Nat.le_trans A.size hO5.size, fun k hk _ => (hO5.block k (by omega)).trans (A.block k hk (by simp))⟩

end Go.Proofs.Ytonpfmhdefhhmaa
