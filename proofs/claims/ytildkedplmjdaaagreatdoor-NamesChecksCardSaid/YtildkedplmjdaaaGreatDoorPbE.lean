/-
  The walk of the law ParsePlaces.
-/
import Derived.Test.YtildkedplmjdaaaGreatDoorPbB
import Derived.Test.YtildkedplmjdaaaGreatDoorStab
namespace Go.Proofs.YtildkedplmjdaaaGreatDoor
set_option maxRecDepth 100000
set_option linter.unusedVariables false
open Go.RowKit Go.Sort

theorem lineD_eq (W : List UInt8) (d : DeclM) : lineD W d = W ++ 32 :: (d.name ++ [10]) := by
  unfold lineD
  rw [putM, if_neg (by simp), putM, if_pos rfl, putM]
  simp
theorem lineF_eq (f : FuncM) : lineF f = funcW ++ 32 :: (f.name ++ 32 :: (putM false (wordsB f.body) ++ [10])) := by
  unfold lineF
  have h : putM true (wordsB f.body) = 32 :: putM false (wordsB f.body) := putM_true (by simp [wordsB])
  rw [List.cons_append, List.singleton_append, putM, if_neg (by simp), putM, if_pos rfl, h]
  simp
theorem ba4 (a b c d : List UInt8) : ((⟨a.toArray⟩ : ByteArray) ++ ⟨b.toArray⟩) ++ ⟨c.toArray⟩ ++ ⟨d.toArray⟩ = ⟨(a ++ b ++ c ++ d).toArray⟩ := by rw [append_list, append_list, append_list]

theorem ba6 (a b c d e f : List UInt8) : ((((⟨a.toArray⟩ : ByteArray) ++ ⟨b.toArray⟩) ++ ⟨c.toArray⟩ ++ ⟨d.toArray⟩) ++ ⟨e.toArray⟩) ++ ⟨f.toArray⟩ = ⟨(a ++ b ++ c ++ d ++ e ++ f).toArray⟩ := by rw [ba4, append_list, append_list]

set_option maxHeartbeats 16000000 in
theorem rtext_any (w : World) (vv vl vf : Value) (P : ProgM) (h : ProgAt w vv vl vf P) (hL : (progT P).length ≤ 10000000) (hB : ∀ f ∈ P.funcs, KOk f.body) (hn : P.vars.length ≤ 1000000 ∧ P.locks.length ≤ 1000000 ∧ P.funcs.length ≤ 1000000) :
    Calls Tryz.prog 8 #[.agg #[vv, vl, vf]] w fun e w' => e = .returned (encStr (progT P)) ∧ Only [] w w' := by
  obtain ⟨hv, hl, hf⟩ := h
  obtain ⟨av, cv, rfl, hcv, hv⟩ := hv
  obtain ⟨al, cl, rfl, hcl, hl⟩ := hl
  obtain ⟨af, cf, rfl, hcf, hf⟩ := hf
  have Hv := Lib.hid hv
  have Hl := Lib.hid hl
  have Hf := Lib.hid hf
  have HB := Lib.hid hB
  clear hv hl hf hB
  have hO1 := (Only.refl [] w).alloc (.cells #[.slice av P.vars.length cv, .slice al P.locks.length cl, .slice af P.funcs.length cf] 30)
  have hp1 := IsBlk.made w (.cells #[.slice av P.vars.length cv, .slice al P.locks.length cl, .slice af P.funcs.length cf] 30)
  unfold progT at hL ⊢
  simp only [List.length_append] at hL
  unfold encStr
  go_enter Tryz.func8, Tryz.ntmps8
  go_upto_region 1 with fail
  generalize hW0 : w.alloc (.cells #[.slice av P.vars.length cv, .slice al P.locks.length cl, .slice af P.funcs.length cf] 30) = w0 at *
  clear hW0
  have HO0 := Lib.hid hO1
  have Hp1 := Lib.hid hp1
  clear hO1 hp1
  have hpw := Hp1.out.lt
  have q0 := Hp1.out.cell 0
  go_wp2_with fail
  go_loopw [3, 4] (fun sv iv wr => ∃ i : Nat, iv = .int .i64 i ∧ i ≤ P.vars.length ∧ sv = .string ⟨((P.vars.take i).flatMap (lineD varW)).toArray⟩ ∧ Only [] w0 wr) (fun _ iv _ => P.vars.length - (intOf iv).toNat)
  case atStart => exact ⟨0, rfl, Nat.zero_le _, rfl, Only.refl _ _⟩
  case round =>
    obtain ⟨i, rfl, hi, rfl, hO⟩ := hrel
    have HO := Lib.hid hO
    have hp2 := (Hp1.out.only hO (by simp)).cell 0
    have hp3 := Nat.lt_of_lt_of_le hpw hO.size
    clear hO
    by_cases hlt : i < P.vars.length
    · have hlti : (i : Int) < (P.vars.length : Int) := by omega
      have hget : P.vars[i]? = some P.vars[i] := List.getElem?_eq_getElem hlt
      obtain ⟨g, hag, hg, hra⟩ := Hv.out (by omega)
      obtain ⟨e1, e2⟩ := dcells_get _ _ _ hget
      have c0 := hra _ _ e1
      rw [Nat.zero_add] at c0
      have c0 := ((HO0.out.plus HO.out).cell (p := ⟨g, i * 2, none⟩) hg (by simp)).trans c0
      have hgr : g < wr.heap.size := Nat.lt_of_lt_of_le hg (HO0.out.plus HO.out).size
      have hfl := flat_len (lineD varW) P.vars (i + 1)
      have hfs := flat_snoc (lineD varW) P.vars i _ hget
      have Hfs := Lib.hid hfs
      rw [hfs, List.length_append, lineD_eq] at hfl
      simp only [List.length_append, List.length_cons] at hfl
      clear hfs hget hra e1 e2
      generalize P.vars[i] = d at *
      unfold encStr at c0
      have Htx : Hid ((P.vars.take (i + 1)).flatMap (lineD varW) = ((P.vars.take i).flatMap (lineD varW)) ++ [118, 97, 114, 32] ++ d.name ++ [10]) := Lib.hid (by rw [Hfs.out, lineD_eq]; simp [varW])
      have htl : ((P.vars.take i).flatMap (lineD varW)).length ≤ 10000000 := by omega
      generalize (P.vars.take i).flatMap (lineD varW) = tx at *
      have hz1 : (tx.length : Int) + 4 ≤ 9223372036854775807 := by omega
      rw [hag]
      go_wp2
      go_roundw
      case rel =>
        refine ⟨i + 1, by go_num, hlt, ?_, HO.out⟩
        rw [Htx.out]
        exact congrArg Value.string (ba4 tx [118, 97, 114, 32] d.name [10])
      case measure => simp [intOf]; omega
    · have hlti : ¬ (i : Int) < (P.vars.length : Int) := by omega
      have he : P.vars.take i = P.vars := List.take_of_length_le (by omega)
      rw [he]
      have HOv := Lib.hid HO.out
      clear HO he hi
      generalize hT1 : P.vars.flatMap (lineD varW) = T1 at *
      have HT1 := Lib.hid hT1
      clear hT1
      have q1 := Hp1.out.cell 1
      go_wp2_with fail
      go_loopw [3, 5] (fun sv iv wr => ∃ i : Nat, iv = .int .i64 i ∧ i ≤ P.locks.length ∧ sv = .string ⟨(T1 ++ (P.locks.take i).flatMap (lineD lockW)).toArray⟩ ∧ Only [] w0 wr) (fun _ iv _ => P.locks.length - (intOf iv).toNat)
      case atStart => exact ⟨0, rfl, Nat.zero_le _, by rw [List.take_zero, List.flatMap_nil, List.append_nil], HOv.out⟩
      case round =>
        obtain ⟨i, rfl, hi, rfl, hO⟩ := hrel
        have HO := Lib.hid hO
        have hp2 := (Hp1.out.only hO (by simp)).cell 1
        have hp3 := Nat.lt_of_lt_of_le hpw hO.size
        clear hO
        by_cases hlt : i < P.locks.length
        · have hlti : (i : Int) < (P.locks.length : Int) := by omega
          have hget : P.locks[i]? = some P.locks[i] := List.getElem?_eq_getElem hlt
          obtain ⟨g, hag, hg, hra⟩ := Hl.out (by omega)
          obtain ⟨e1, e2⟩ := dcells_get _ _ _ hget
          have c0 := hra _ _ e1
          rw [Nat.zero_add] at c0
          have c0 := ((HO0.out.plus HO.out).cell (p := ⟨g, i * 2, none⟩) hg (by simp)).trans c0
          have hgr : g < wr.heap.size := Nat.lt_of_lt_of_le hg (HO0.out.plus HO.out).size
          have hfl := flat_len (lineD lockW) P.locks (i + 1)
          have hfs := flat_snoc (lineD lockW) P.locks i _ hget
          have Hfs := Lib.hid hfs
          rw [hfs, List.length_append, lineD_eq] at hfl
          simp only [List.length_append, List.length_cons] at hfl
          clear hfs hget hra e1 e2
          generalize P.locks[i] = d at *
          unfold encStr at c0
          have Htx : Hid (T1 ++ (P.locks.take (i + 1)).flatMap (lineD lockW) = (T1 ++ (P.locks.take i).flatMap (lineD lockW)) ++ [108, 111, 99, 107, 32] ++ d.name ++ [10]) := Lib.hid (by rw [Hfs.out, lineD_eq]; simp [lockW])
          have htl : (T1 ++ (P.locks.take i).flatMap (lineD lockW)).length ≤ 10000000 := by rw [List.length_append]; omega
          generalize T1 ++ (P.locks.take i).flatMap (lineD lockW) = tx at *
          have hz1 : (tx.length : Int) + 5 ≤ 9223372036854775807 := by omega
          rw [hag]
          go_wp2
          go_roundw
          case rel =>
            refine ⟨i + 1, by go_num, hlt, ?_, HO.out⟩
            rw [Htx.out]
            exact congrArg Value.string (ba4 tx [108, 111, 99, 107, 32] d.name [10])
          case measure => simp [intOf]; omega
        · have hlti : ¬ (i : Int) < (P.locks.length : Int) := by omega
          have he : P.locks.take i = P.locks := List.take_of_length_le (by omega)
          rw [he]
          have HOv := Lib.hid HO.out
          clear HO he hi
          have hTl2 : (T1 ++ P.locks.flatMap (lineD lockW)).length = _ := List.length_append
          generalize hT2 : T1 ++ P.locks.flatMap (lineD lockW) = T2 at *
          have HT2 := Lib.hid hT2
          clear hT2
          have q2 := Hp1.out.cell 2
          go_wp2_with fail
          go_loopw [3, 6] (fun sv iv wr => ∃ i : Nat, iv = .int .i64 i ∧ i ≤ P.funcs.length ∧ sv = .string ⟨(T2 ++ (P.funcs.take i).flatMap lineF).toArray⟩ ∧ Only [] w0 wr) (fun _ iv _ => P.funcs.length - (intOf iv).toNat)
          case atStart => exact ⟨0, rfl, Nat.zero_le _, by rw [List.take_zero, List.flatMap_nil, List.append_nil], HOv.out⟩
          case round =>
            obtain ⟨i, rfl, hi, rfl, hO⟩ := hrel
            have HO := Lib.hid hO
            have hp2 := (Hp1.out.only hO (by simp)).cell 2
            have hp3 := Nat.lt_of_lt_of_le hpw hO.size
            clear hO
            by_cases hlt : i < P.funcs.length
            · have hlti : (i : Int) < (P.funcs.length : Int) := by omega
              have hget : P.funcs[i]? = some P.funcs[i] := List.getElem?_eq_getElem hlt
              obtain ⟨g, xs, fp, hag, hg, hra, hef⟩ := Hf.out (by omega)
              obtain ⟨va, fa, e1, e2, e3, hbk, hnd⟩ := hef.get _ _ hget
              have hkk := HB.out _ (List.getElem_mem hlt)
              have hgr : g < wr.heap.size := Nat.lt_of_lt_of_le hg (HO0.out.plus HO.out).size
              have hfl := flat_len lineF P.funcs (i + 1)
              have hfs := flat_snoc lineF P.funcs i _ hget
              have Hfs := Lib.hid hfs
              rw [hfs, List.length_append, lineF_eq] at hfl
              simp only [List.length_append, List.length_cons] at hfl
              have r1 := hra _ _ e1
              have r2 := hra _ _ e2
              have r3 := hra _ _ e3
              rw [Nat.zero_add] at r1 r2 r3
              have hcl : ∀ W, Only [] wr W → W.cell? ⟨w.heap.size, 2, none⟩ = some (.slice af P.funcs.length cf) ∧ W.cell? ⟨g, i * 3, none⟩ = some (encStr P.funcs[i].name) ∧ W.cell? ⟨g, i * 3 + 1, none⟩ = some (.int .i64 P.funcs[i].at_) ∧ W.cell? ⟨g, i * 3 + 2, none⟩ = some va := fun W hW =>
                ⟨(Hp1.out.only (HO.out.plus hW) (by simp)).cell 2, ((HO0.out.plus (HO.out.plus hW)).cell (p := ⟨g, i * 3, none⟩) hg (by simp)).trans r1,
                  ((HO0.out.plus (HO.out.plus hW)).cell (p := ⟨g, i * 3 + 1, none⟩) hg (by simp)).trans r2, ((HO0.out.plus (HO.out.plus hW)).cell (p := ⟨g, i * 3 + 2, none⟩) hg (by simp)).trans r3⟩
              have Hcl := Lib.hid hcl
              have Hbk := Lib.hid hbk
              obtain ⟨ba, bc, rfl, -⟩ := hbk.slice
              clear r1 r2 r3 hfs hget hra e1 e2 e3 hcl hbk hnd hef
              generalize P.funcs[i] = d at *
              have HR : Hid (∀ W, Only [] wr W → Calls Tryz.prog 16 #[.agg #[encStr d.name, .int .i64 d.at_, .slice ba d.body.len bc]] W fun e w' => e = .returned (encStr (putM false (wordsB d.body))) ∧ Only [] W w') :=
                Lib.hid (fun W hW => rbody_any W _ _ _ d.body fa (Hbk.out.more (HO0.out.plus (HO.out.plus hW))) hkk (by omega))
              have Htx : Hid (T2 ++ (P.funcs.take (i + 1)).flatMap lineF = (T2 ++ (P.funcs.take i).flatMap lineF) ++ [102, 117, 110, 99, 32] ++ d.name ++ [32] ++ putM false (wordsB d.body) ++ [10]) := Lib.hid (by rw [Hfs.out, lineF_eq]; simp [funcW])
              have htl : (T2 ++ (P.funcs.take i).flatMap lineF).length + d.name.length + (putM false (wordsB d.body)).length ≤ 10000000 := by rw [List.length_append]; omega
              clear hkk hfl Hfs Hbk
              generalize T2 ++ (P.funcs.take i).flatMap lineF = tx at *
              generalize putM false (wordsB d.body) = tb at *
              have hz1 : (tx.length : Int) + 5 ≤ 9223372036854775807 := by omega
              unfold encStr at Hcl HR
              subst hag
              clear hz1
              have hadd0 : ∀ W : World, (Op.stringOp .add ((⟨tx.toArray⟩ : ByteArray)) ⟨#[102, 117, 110, 99, 32]⟩).run Tryz.prog W = .ok (.string ((⟨tx.toArray⟩ : ByteArray) ++ ⟨#[102, 117, 110, 99, 32]⟩)) W := fun W => run_string_add_sum (P := Tryz.prog) W _ _ (by simp [ByteArray.size]; omega)
              have hadd1 : ∀ W : World, (Op.stringOp .add (((⟨tx.toArray⟩ : ByteArray) ++ ⟨#[102, 117, 110, 99, 32]⟩)) ⟨d.name.toArray⟩).run Tryz.prog W = .ok (.string (((⟨tx.toArray⟩ : ByteArray) ++ ⟨#[102, 117, 110, 99, 32]⟩) ++ ⟨d.name.toArray⟩)) W := fun W => run_string_add_sum (P := Tryz.prog) W _ _ (by simp [ByteArray.size]; omega)
              have hadd2 : ∀ W : World, (Op.stringOp .add ((((⟨tx.toArray⟩ : ByteArray) ++ ⟨#[102, 117, 110, 99, 32]⟩) ++ ⟨d.name.toArray⟩)) ⟨#[32]⟩).run Tryz.prog W = .ok (.string ((((⟨tx.toArray⟩ : ByteArray) ++ ⟨#[102, 117, 110, 99, 32]⟩) ++ ⟨d.name.toArray⟩) ++ ⟨#[32]⟩)) W := fun W => run_string_add_sum (P := Tryz.prog) W _ _ (by simp [ByteArray.size]; omega)
              have hadd3 : ∀ W : World, (Op.stringOp .add (((((⟨tx.toArray⟩ : ByteArray) ++ ⟨#[102, 117, 110, 99, 32]⟩) ++ ⟨d.name.toArray⟩) ++ ⟨#[32]⟩)) ⟨tb.toArray⟩).run Tryz.prog W = .ok (.string (((((⟨tx.toArray⟩ : ByteArray) ++ ⟨#[102, 117, 110, 99, 32]⟩) ++ ⟨d.name.toArray⟩) ++ ⟨#[32]⟩) ++ ⟨tb.toArray⟩)) W := fun W => run_string_add_sum (P := Tryz.prog) W _ _ (by simp [ByteArray.size]; omega)
              have hadd4 : ∀ W : World, (Op.stringOp .add ((((((⟨tx.toArray⟩ : ByteArray) ++ ⟨#[102, 117, 110, 99, 32]⟩) ++ ⟨d.name.toArray⟩) ++ ⟨#[32]⟩) ++ ⟨tb.toArray⟩)) ⟨#[10]⟩).run Tryz.prog W = .ok (.string ((((((⟨tx.toArray⟩ : ByteArray) ++ ⟨#[102, 117, 110, 99, 32]⟩) ++ ⟨d.name.toArray⟩) ++ ⟨#[32]⟩) ++ ⟨tb.toArray⟩) ++ ⟨#[10]⟩)) W := fun W => run_string_add_sum (P := Tryz.prog) W _ _ (by simp [ByteArray.size]; omega)
              go_upto_region 13 with fail
              have hdr : Only [] wr wr.drew := (Only.refl [] wr).drew
              have hall := Hcl.out _ hdr
              go_region_held3 (fun W => W.cell? ⟨w.heap.size, 2, none⟩ = some (.slice (some ⟨g, 0, none⟩) P.funcs.length cf) ∧ W.cell? ⟨g, i * 3, none⟩ = some (.string ⟨d.name.toArray⟩) ∧ W.cell? ⟨g, i * 3 + 1, none⟩ = some (.int .i64 d.at_) ∧ W.cell? ⟨g, i * 3 + 2, none⟩ = some (.slice ba d.body.len bc)) (first | exact hall | exact hall5 | assumption)
                (first
                  | (go_at_call 16
                     with_reducible refine (HR.out _ ?_).mono ?_
                     · assumption
                     rintro e w5 ⟨rfl, hO5⟩
                     have hOw5 : Only [] wr w5 := Only.plus (by assumption) hO5
                     have hall5 := Hcl.out w5 hOw5
                     have HOw5 := Lib.hid hOw5))
              all_goals
                go_wp2
                go_roundw
                case rel =>
                  refine ⟨i + 1, by go_num, hlt, ?_, HO.out.plus HOw5.out⟩
                  rw [Htx.out]
                  exact congrArg Value.string (ba6 tx [102, 117, 110, 99, 32] d.name [32] tb [10])
                case measure => simp [intOf]; omega
            · have hlti : ¬ (i : Int) < (P.funcs.length : Int) := by omega
              have he : P.funcs.take i = P.funcs := List.take_of_length_le (by omega)
              rw [he]
              go_wp2
              go_ret
              exact ⟨by rw [← HT2.out, ← HT1.out, List.append_assoc]; rfl, HO0.out.plus HO.out⟩

end Go.Proofs.YtildkedplmjdaaaGreatDoor
namespace Go.Proofs.YtildkedplmjdaaaGreatDoor
set_option maxRecDepth 100000
set_option linter.unusedVariables false
open Go.RowKit Go.Sort

theorem callM_len (k : Nat) (n : List UInt8) (h1 : 1 ≤ k) (h8 : k ≤ 8) : 0 < (callM k n).length := by
  have : ∀ i : Fin 9, 1 ≤ i.1 → 0 < (verbM i.1).length := by decide
  have h := this ⟨k, by omega⟩ h1
  simp only at h
  unfold callM
  split
  · exact h
  · simp; omega
theorem reads_cut {s : List UInt8} {p : Nat} {w : List UInt8} (h : Reads s p w) : (⟨s.toArray⟩ : ByteArray).extract p (p + w.length) = ⟨w.toArray⟩ := by
  rw [ByteArray.extract_mk]
  rw [show p + w.length - p = w.length by omega, h.2]

end Go.Proofs.YtildkedplmjdaaaGreatDoor
namespace Go.Proofs.YtildkedplmjdaaaGreatDoor
set_option maxRecDepth 100000
set_option linter.unusedVariables false
open Go.RowKit Go.Sort

theorem cnt_erase : ∀ (b : Blk), (eraseB b).cnt = b.cnt
  | .nil => rfl
  | .cons k p n a b r => by rw [eraseB, Blk.cnt, Blk.cnt, cnt_erase a, cnt_erase b, cnt_erase r]
theorem parse_long (s : List UInt8) (h : 2000 < s.length) : parseM s = (⟨[], [], []⟩, 0, 2) := by
  have ht : tokM s = ([], 0, 2) := by unfold tokM; rw [if_pos h]
  unfold parseM
  rw [ht]
  rfl
/-- What is read of a written program. -/
theorem parse_back (P : ProgM) (hI : ∀ x ∈ itemsP P, GoodI x) (hl : (progT P).length ≤ 2000) : ∃ Q, parseM (progT P) = (Q, 0, 0) ∧ eraseP Q = eraseP P ∧ ∀ f ∈ Q.funcs, FuncOk (progT P) f := by
  rw [text_items] at hl ⊢
  refine ⟨_, parse_items (itemsP P) hI hl, ?_, ?_⟩
  · rw [erase_new, progI_items]
  · exact funcs_stand _ (itemsP P) 0 ⟨[], [], []⟩ hI rfl (by simp)
theorem erase_funcs {P Q : ProgM} (h : eraseP Q = eraseP P) : Q.funcs.length = P.funcs.length ∧ ∀ f ∈ Q.funcs, ∃ f0 ∈ P.funcs, f.name = f0.name ∧ eraseB f.body = eraseB f0.body := by
  have h1 : eraseF Q.funcs = eraseF P.funcs := congrArg ProgM.funcs h
  refine ⟨by simpa [eraseF] using congrArg List.length h1, fun f hf => ?_⟩
  have h2 : (⟨f.name, 0, eraseB f.body⟩ : FuncM) ∈ eraseF P.funcs := by rw [← h1]; exact List.mem_map.2 ⟨f, hf, rfl⟩
  obtain ⟨f0, h3, h4⟩ := List.mem_map.1 h2
  injection h4 with h5 h6 h7
  exact ⟨f0, h3, h5.symm, h7.symm⟩
theorem few_nil : FewR .nil := by unfold FewR sizeM; decide

end Go.Proofs.YtildkedplmjdaaaGreatDoor
