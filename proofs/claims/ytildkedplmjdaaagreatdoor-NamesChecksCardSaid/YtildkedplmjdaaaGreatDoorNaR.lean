/-
  slices.SortFunc of files, by their names: the library's contract at a struct of two cells, paid by the program's comparison; byNames.
-/
import Derived.Test.YtildkedplmjdaaaGreatDoorNaK
import Derived.Test.YtildkedplmjdaaaGreatDoorNaP
import Derived.Lib.Bytealg
import Derived.Deep.RegionHeld3
import Derived.Test.YtildkedplmjdaaaGreatDoorShelf
import Derived.Shelf.SlSortCmp.SmallK
namespace Go.Proofs.YtildkedplmjdaaaGreatDoor
set_option maxRecDepth 100000
set_option linter.unusedVariables false
open Go.RowKit Go.Sort Go.Stop

set_option maxHeartbeats 4000000 in
theorem faultOf_any (w : World) (vv vl vf : Value) (P : ProgM) (h : ProgAt w vv vl vf P) (hbig : cntF P.funcs ≤ 1000000) (hsh : ShortP 1000000 P) :
    Calls Tryz.prog 32 #[.agg #[vv, vl, vf]] w fun r w' => r = .returned (errV (faultX P)) ∧ Only [] w w' := by
  have hmf : ∀ (fn : Fn) (first cap : Array Value) (w : World), (Instr.makeFunc fn first cap).run Tryz.prog w = .ok (.func fn first cap) w := fun _ _ _ _ => rfl
  have hb := Lib.hid (IsBlk.made w (.cells #[vv, vl, vf] 30))
  have hOa := (Only.refl [] w).alloc (.cells #[vv, vl, vf] 30)
  have HO := Lib.hid hOa
  have HP := Lib.hid (h.more hOa)
  clear hOa h
  go_enter Tryz.func32, Tryz.ntmps32
  go_wp2_with fail
  generalize hW : w.alloc (.cells #[vv, vl, vf] 30) = w1 at *
  clear hW
  refine (caught_any w1 51 #[.pointer (some ⟨w.heap.size, 0, none⟩)] (faultX P) (fun x hx => fault_ok hx) (fun W => by kernel_rfl) (fun W hW => ?_)).mono ?_
  · exact look_all W w.heap.size vv vl vf P (hb.out.only hW (by simp)) (HP.out.more hW) hbig hsh
  · rintro r w2 ⟨rfl, hO2⟩
    go_wp2
    go_ret
    exact ⟨rfl, HO.out.plus hO2⟩

/-- An error, as a face tells it: none; a number alone; one with a place. -/
inductive ErrIs : Value → Nat × Nat → Prop
  | none : ErrIs .nilIface (0, 0)
  | alone (n : Nat) : ErrIs (.iface 37 (.int .i64 n)) (0, n)
  | placed (p n : Nat) : ErrIs (.iface 98 (.agg #[.int .i64 p, .iface 37 (.int .i64 n)])) (p, n)
theorem fault_is {x : Nat × Nat} (h : FaultOk x) : ErrIs (faultV x) x := by
  obtain ⟨p, n⟩ := x
  unfold faultV
  by_cases hn : n = 9 ∨ n = 10
  · rw [if_pos hn]; exact .placed p n
  · rw [if_neg hn]
    have : p = 0 := by unfold FaultOk at h; simp only at h; omega
    subst this
    exact .alone n
theorem errV_is (P : ProgM) : ErrIs (errV (faultX P)) (checkM P) := by
  have h := check_ok P
  unfold faultX
  by_cases h0 : (checkM P).2 = 0
  · rw [if_pos h0]
    have : checkM P = (0, 0) := by
      unfold checkM at h0 ⊢
      split at h0
      · simp at h0
      · rename_i hl
        rw [if_neg hl]
        split at h0
        · simp at h0
        · rename_i ht
          try rw [ht]
          split at h0
          · simp at h0
          · rename_i hk
            try rw [hk]
            split at h0
            · rename_i hm; rw [if_pos hm]
            · simp at h0
    rw [this]
    exact .none
  · rw [if_neg h0]
    exact fault_is (h.resolve_left h0)

theorem ret_told {fn : Func} {p q : Tmp} (h : fn.results = #[.tmp p, .cell q 37]) (tmps : Array Value) (w : World) (g : Nat) (x y : Value)
    (hp : tmps.getD p undef = x) (hq : tmps.getD q undef = .pointer (some ⟨g, 0, none⟩)) (h0 : IsBlk w g (.cells #[y] 37)) :
    (results fn tmps).run Tryz.prog w = .ok (.tuple #[x, y]) w := by
  have hp' : tmps[p]?.getD undef = x := by simpa using hp
  have hq' : tmps[q]?.getD undef = .pointer (some ⟨g, 0, none⟩) := by simpa using hq
  have k0 : w.cell? ⟨g, 0, none⟩ = some y := h0.cell 0
  simp [results, h, hp', hq', asAddr, k0, go_sem]

set_option maxHeartbeats 8000000 in
theorem told_any (w : World) (v : Value) (x : Nat × Nat) (h : ErrIs v x) (hg : ErrT w) :
    Calls Tryz.prog 31 #[v] w fun r w' => r = .returned (.tuple #[.int .i64 x.1, .int .i64 x.2]) ∧ Only [] w w' := by
  have hE := Lib.hid ((IsBlk.made w (.cells #[.int .i64 0] 37)).alloc (.cells #[.int .i64 0, .nilIface] 98))
  have hP := Lib.hid (IsBlk.made (w.alloc (.cells #[.int .i64 0] 37)) (.cells #[.int .i64 0, .nilIface] 98))
  have hOa := ((Only.refl [] w).alloc (.cells #[.int .i64 0] 37)).alloc (.cells #[.int .i64 0, .nilIface] 98)
  have HO := Lib.hid hOa
  have HG := Lib.hid (hg.only hOa (by simp))
  have e1 : (w.alloc (.cells #[.int .i64 0] 37)).heap.size = w.heap.size + 1 := by simp
  rw [e1] at hP
  have hgl := hg.lt
  clear hOa hg e1
  go_enter Tryz.func31, Tryz.ntmps31
  go_upto_region 2 with fail
  generalize hW : (w.alloc (.cells #[.int .i64 0] 37)).alloc (.cells #[.int .i64 0, .nilIface] 98) = w1 at *
  clear hW
  go_wp2_with fail
  cases h with
  | none =>
    refine (as_nil _ _).mono ?_
    rintro e w2 ⟨rfl, rfl⟩
    go_wp2_with fail
    refine (as_nil _ _).mono ?_
    rintro e w2 ⟨rfl, rfl⟩
    have HE := hE
    have HOz := HO
    have c0 := HE.out.cell 0
    have f0 := HE.out.notFrozen 0
    go_upto_region 5 with fail
    go_region
    have hs := (IsBlk.put HE.out 0 (.int .i64 0)).drew
    have hO := ((HOz.out.into (T := [w.heap.size]) (by simp)).setCell (p := ⟨w.heap.size, 0, none⟩) (.inl (by simp)) (.int .i64 0)).drew
    go_wp2
    refine bodyPost_ret_by (ret_told rfl _ _ w.heap.size _ _ rfl rfl hs) rfl ?_
    exact ⟨rfl, (Only.refl [] w).then hO [] (by simp) (by simp)⟩
  | alone n =>
    refine (as_errno_placed n _ _ _ _ HG.out hP.out).mono ?_
    rintro e w2 ⟨rfl, hO2⟩
    have HG2 := HG.out.only hO2 (by simp)
    have hE2 := hE.out.only hO2 (by simp)
    go_wp2_with fail
    refine (as_errno_errno n _ _ _ HG2 hE2).mono ?_
    rintro e w3 ⟨rfl, hE3, hO3⟩
    have HE := Lib.hid hE3
    have HOz := Lib.hid ((HO.out.plus hO2).then hO3 [] (by simp) (by simp))
    clear HG2 hE2 hE3 hO2 hO3
    have c0 := HE.out.cell 0
    have f0 := HE.out.notFrozen 0
    go_upto_region 5 with fail
    go_region
    have hs := (IsBlk.put HE.out 0 (.int .i64 n)).drew
    have hO := ((HOz.out.into (T := [w.heap.size]) (by simp)).setCell (p := ⟨w.heap.size, 0, none⟩) (.inl (by simp)) (.int .i64 n)).drew
    go_wp2
    refine bodyPost_ret_by (ret_told rfl _ _ w.heap.size _ _ rfl rfl hs) rfl ?_
    exact ⟨rfl, (Only.refl [] w).then hO [] (by simp) (by simp)⟩
  | placed p n =>
    refine (as_placed_placed p n _ _ _ _ HG.out hP.out).mono ?_
    rintro e w2 ⟨rfl, hP2, hO2⟩
    have HG2 := HG.out.only hO2 (by simp)
    have hE2 := hE.out.only hO2 (by simp)
    have p0 := hP2.cell 0
    have HOy := Lib.hid (HO.out.then hO2 [] (by simp) (by simp))
    clear hO2
    go_wp2_with fail
    refine (as_placed_errno p n _ _ _ HG2 hE2).mono ?_
    rintro e w3 ⟨rfl, hE3, hO3⟩
    have HE := Lib.hid hE3
    have HOz := Lib.hid (HOy.out.then hO3 [] (by simp) (by simp))
    clear HG2 hE2 hE3 hO3 p0 hP2
    have c0 := HE.out.cell 0
    have f0 := HE.out.notFrozen 0
    go_upto_region 5 with fail
    go_region
    have hs := (IsBlk.put HE.out 0 (.int .i64 n)).drew
    have hO := ((HOz.out.into (T := [w.heap.size]) (by simp)).setCell (p := ⟨w.heap.size, 0, none⟩) (.inl (by simp)) (.int .i64 n)).drew
    go_wp2
    refine bodyPost_ret_by (ret_told rfl _ _ w.heap.size _ _ rfl rfl hs) rfl ?_
    exact ⟨rfl, (Only.refl [] w).then hO [] (by simp) (by simp)⟩

set_option maxHeartbeats 4000000 in
theorem check_any (w : World) (vv vl vf : Value) (P : ProgM) (h : ProgAt w vv vl vf P) (hbig : cntF P.funcs ≤ 1000000) (hsh : ShortP 1000000 P) (hg : ErrT w) :
    Calls Tryz.prog 13 #[.agg #[vv, vl, vf]] w fun r w' => r = .returned (.tuple #[.int .i64 (checkM P).1, .int .i64 (checkM P).2]) ∧ Only [] w w' := by
  have hb := Lib.hid (IsBlk.made w (.cells #[vv, vl, vf] 30))
  have hOa := (Only.refl [] w).alloc (.cells #[vv, vl, vf] 30)
  have HO := Lib.hid hOa
  have HG := Lib.hid (hg.only hOa (by simp))
  have hP := h.more hOa
  have z0 := hb.out.cell 0
  have z1 := hb.out.cell 1
  have z2 := hb.out.cell 2
  clear hOa h hg
  go_enter Tryz.func13, Tryz.ntmps13
  go_wp2_with fail
  generalize hW : w.alloc (.cells #[vv, vl, vf] 30) = w1 at *
  clear hW
  refine (faultOf_any w1 vv vl vf P hP hbig hsh).mono ?_
  rintro r w2 ⟨rfl, hO2⟩
  have HG2 := HG.out.only hO2 (by simp)
  go_wp2_with fail
  refine (told_any w2 _ _ (errV_is P) HG2).mono ?_
  rintro r w3 ⟨rfl, hO3⟩
  go_wp2
  go_ret2
  exact ⟨rfl, (HO.out.plus hO2).plus hO3⟩

end Go.Proofs.YtildkedplmjdaaaGreatDoor
namespace Go.Proofs.YtildkedplmjdaaaGreatDoor
set_option maxRecDepth 100000
set_option linter.unusedVariables false
open Go.RowKit Go.Sort

theorem compare_any (w : World) (a b : List UInt8) : Calls Tryz.prog 80 #[encStr a, encStr b] w fun e w' => e = .returned (.int .i64 (Lib.compareBytes a b)) ∧ w' = w := by
  have h65 := @run_callFunc_extern Tryz.prog 108 _ Extern.BytealgCompare.compare Tryz.func108 (by kernel_rfl) (by kernel_rfl) (by kernel_rfl) (by kernel_rfl)
  have hc := fun W => Lib.run_compareString (P := Tryz.prog) ⟨a.toArray⟩ ⟨b.toArray⟩ W
  unfold encStr
  go_enter Tryz.func80, Tryz.ntmps80
  go_wp2
  go_ret
  exact ⟨rfl, rfl⟩

/-- sound$1: are two files' names the same? -/
theorem twice_any (w : World) (q : Nat) (f g : FilM) (hq : IsBlk w q (.cells #[encStr g.1, encStr g.2] 46)) :
    Calls Tryz.prog 75 #[filV f, .pointer (some ⟨q, 0, none⟩)] w fun e w' => e = .returned (.bool (f.1 == g.1)) ∧ Only [] w w' := by
  have q0 := hq.cell 0
  have hql := hq.lt
  have hO := (Only.refl [] w).alloc (.cells #[encStr f.1, encStr f.2] 46)
  unfold filV encStr at *
  go_enter Tryz.func75, Tryz.ntmps75
  go_wp2
  go_ret
  exact ⟨rfl, hO⟩

/-- Files of a slice. -/
def FilAt (w : World) (a : Option Addr) (zs : List FilM) : Prop :=
  0 < zs.length → ∃ b off, a = some ⟨b, off, none⟩ ∧ b < w.heap.size ∧ ∀ j f, zs[j]? = some f → w.cell? ⟨b, off + j * 2, none⟩ = some (encStr f.1) ∧ w.cell? ⟨b, off + j * 2 + 1, none⟩ = some (encStr f.2)
theorem FilAt.more {w w' : World} {a : Option Addr} {zs : List FilM} (h : FilAt w a zs) (hO : Only [] w w') : FilAt w' a zs := fun h0 => by
  obtain ⟨b, off, e, hl, hc⟩ := h h0
  exact ⟨b, off, e, Nat.lt_of_lt_of_le hl hO.size, fun j f hf => ⟨(hO.cell (p := ⟨b, off + j * 2, none⟩) hl (by simp)).trans (hc j f hf).1, (hO.cell (p := ⟨b, off + j * 2 + 1, none⟩) hl (by simp)).trans (hc j f hf).2⟩⟩
theorem FilAt.take {w : World} {a : Option Addr} {zs : List FilM} (h : FilAt w a zs) (k : Nat) : FilAt w a (zs.take k) := fun h0 => by
  have h1 : 0 < zs.length := by rw [List.length_take] at h0; omega
  obtain ⟨b, off, e, hl, hc⟩ := h h1
  refine ⟨b, off, e, hl, fun j f hf => hc j f ?_⟩
  rw [List.getElem?_take] at hf
  split at hf
  · exact hf
  · cases hf

set_option maxHeartbeats 4000000 in
theorem indexF_any (w : World) (a : Option Addr) (c q : Nat) (zs : List FilM) (g : FilM) (h : FilAt w a zs) (hz : zs.length ≤ 1000000) (hq : IsBlk w q (.cells #[encStr g.1, encStr g.2] 46)) :
    Calls Tryz.prog 90 #[.slice a zs.length c, .func (.func 75) #[] #[.pointer (some ⟨q, 0, none⟩)]] w fun e w' =>
      (∃ k : Int, e = .returned (.int .i64 k) ∧ (0 ≤ k ↔ zs.any (fun f => f.1 == g.1) = true)) ∧ Only [] w w' := by
  have H := Lib.hid h
  have Hq := Lib.hid hq
  clear h hq
  go_enter Tryz.func90, Tryz.ntmps90
  go_wp2_with fail
  go_loopw [8] (fun iv wr => ∃ j : Nat, iv = .int .i64 j ∧ j ≤ zs.length ∧ (zs.take j).any (fun f => f.1 == g.1) = false ∧ Only [] w wr) (fun iv _ => zs.length - (intOf iv).toNat)
  case atStart => exact ⟨0, rfl, Nat.zero_le _, by simp, Only.refl _ _⟩
  case round =>
    obtain ⟨j, rfl, hj, hno, hO⟩ := hrel
    have HO := Lib.hid hO
    clear hO
    by_cases hlt : j < zs.length
    · obtain ⟨f, hf⟩ : ∃ f, zs[j]? = some f := ⟨_, List.getElem?_eq_getElem hlt⟩
      obtain ⟨b, off, rfl, hb, hc⟩ := (H.out.more HO.out) (by omega)
      obtain ⟨k0, k1⟩ := hc j f hf
      have hji : (j : Int) < (zs.length : Int) := by omega
      have htk : zs.take (j + 1) = zs.take j ++ [f] := by rw [List.take_add_one, hf]; rfl
      have Hs : Hid ((zs.take (j + 1)).any (fun f => f.1 == g.1) = (f.1 == g.1)) := Lib.hid (by rw [htk, List.any_append, hno]; simp)
      have Hall : Hid ((f.1 == g.1) = true → zs.any (fun f => f.1 == g.1) = true) := Lib.hid (fun h => by
        rw [List.any_eq_true]
        exact ⟨f, List.mem_of_getElem? hf, h⟩)
      clear hc hno htk
      unfold encStr at k0 k1
      go_wp2_with fail
      refine (twice_any wr q f g (Hq.out.only HO.out (by simp))).mono ?_
      rintro e w2 ⟨rfl, hO2⟩
      have HO2 := Lib.hid (HO.out.plus hO2)
      clear hO2 k0 k1
      cases hfg : (f.1 == g.1) with
      | true =>
        have hA := Hall.out hfg
        go_wp2
        go_ret
        exact ⟨⟨_, rfl, by constructor <;> intro _ <;> first | exact hA | omega⟩, HO2.out⟩
      | false =>
        go_wp2
        go_roundw
        case rel => exact ⟨j + 1, by go_num, by omega, by rw [Hs.out, hfg], HO2.out⟩
        case measure => simp [intOf]; omega
    · obtain rfl : j = zs.length := by omega
      have hji : ¬ ((zs.length : Nat) : Int) < (zs.length : Int) := by omega
      rw [List.take_length] at hno
      go_wp2_with fail
      go_ret
      exact ⟨⟨_, rfl, by first | omega | (rw [hno]; simp) | simp⟩, HO.out⟩

theorem containsF_any (w : World) (a : Option Addr) (c q : Nat) (zs : List FilM) (g : FilM) (h : FilAt w a zs) (hz : zs.length ≤ 1000000) (hq : IsBlk w q (.cells #[encStr g.1, encStr g.2] 46)) :
    Calls Tryz.prog 74 #[.slice a zs.length c, .func (.func 75) #[] #[.pointer (some ⟨q, 0, none⟩)]] w fun e w' =>
      e = .returned (.bool (zs.any (fun f => f.1 == g.1))) ∧ Only [] w w' := by
  have hi := indexF_any w a c q zs g h hz hq
  clear h hq
  generalize zs.any (fun f => f.1 == g.1) = r at *
  go_enter Tryz.func74, Tryz.ntmps74
  go_wp2_with fail
  refine hi.mono ?_
  rintro e w2 ⟨⟨k, rfl, hk⟩, hO2⟩
  cases r with
  | true =>
    have hk0 : 0 ≤ k := hk.2 rfl
    clear hk
    go_wp2
    go_ret
    exact ⟨by simp, hO2⟩
  | false =>
    have hk0 : ¬ 0 ≤ k := fun h => by have := hk.1 h; cases this
    clear hk
    go_wp2
    go_ret
    exact ⟨by simp [hk0], hO2⟩

end Go.Proofs.YtildkedplmjdaaaGreatDoor
namespace Go.Proofs.YtildkedplmjdaaaGreatDoor
set_option maxRecDepth 100000
set_option linter.unusedVariables false
open Go.RowKit Go.Sort Go.Shelf Go.Lib

theorem compare_lt : ∀ a b : List UInt8, Lib.compareBytes a b < 0 ↔ a < b
  | [], [] => by simp [Lib.compareBytes]
  | [], b :: bs => by simp [Lib.compareBytes]
  | a :: l, [] => by simp [Lib.compareBytes]
  | a :: l, b :: bs => by
    have ih := compare_lt l bs
    rw [List.cons_lt_cons_iff]
    unfold Lib.compareBytes
    by_cases h1 : a < b
    · simp [h1]
    · by_cases h2 : b < a
      · have h3 : ¬ a = b := fun e => by subst e; exact h1 h2
        simp [h1, h2, h3]
      · have h3 : a = b := UInt8.le_antisymm (UInt8.not_lt.1 h2) (UInt8.not_lt.1 h1)
        subst h3
        simp [ih]

def cfF (x y : FilM) : Int := Lib.compareBytes x.1 y.1
theorem lt_cfF (x y : FilM) : ltOf cfF x y = decide (x.1 < y.1) := by
  unfold ltOf cfF
  by_cases h : x.1 < y.1
  · simp [h, (compare_lt x.1 y.1).2 h]
  · have := mt (compare_lt x.1 y.1).1 h
    simp [h]
    omega
theorem swo_cfF : SWO (ltOf cfF) := by
  refine ⟨fun x => ?_, fun x y z h1 h2 => ?_, fun x y z h1 h2 => ?_⟩
  · rw [lt_cfF]; simp [List.lt_irrefl]
  · rw [lt_cfF] at *; simp at *; exact List.lt_trans h1 h2
  · rw [lt_cfF] at *; simp at *; exact List.le_trans h2 h1

def encF2 (f : FilM) : List Value := [encStr f.1, encStr f.2]
theorem flat_encF (zs : List FilM) : (flatK encF2 2 zs.toArray).toList = filCells zs := by
  apply List.ext_getElem?
  intro t
  by_cases ht : t < zs.length * 2
  · have h1 := get_flatK encF2 2 zs.toArray t (by simpa using ht)
    have hs : (flatK encF2 2 zs.toArray).size = zs.length * 2 := by simp
    rw [Array.getElem?_toList, Array.getElem?_eq_getElem (by omega), ← getElem!_pos _ t (by omega), h1]
    have hj : t / 2 < zs.length := by omega
    have hf : zs[t / 2]? = some zs[t / 2] := List.getElem?_eq_getElem hj
    have hd : (zs.toArray)[t / 2]! = zs[t / 2] := by rw [getElem!_pos _ _ (by simpa using hj)]; simp
    obtain ⟨a1, a2⟩ := filCells_at zs (t / 2) _ hf
    rw [hd]
    clear hd hf h1
    generalize zs[t / 2] = f at *
    rcases Nat.mod_two_eq_zero_or_one t with h | h
    · have et : t / 2 * 2 = t := by omega
      rw [et] at a1
      rw [h, a1]; rfl
    · have et : t / 2 * 2 + 1 = t := by omega
      rw [et] at a2
      rw [h, a2]; rfl
  · rw [List.getElem?_eq_none (by simp; omega), List.getElem?_eq_none (by rw [length_filCells]; omega)]

theorem take_putCellsV (cur : Array Value) (F : Array Value) (h : F.size ≤ cur.size) : (putCells id 0 F cur).toList.take F.size = F.toList := by
  apply List.ext_getElem?
  intro j
  by_cases hj : j < F.size
  · rw [List.getElem?_take_of_lt hj, Array.getElem?_toList]
    simp [putCells, hj, show j < cur.size by omega]
  · rw [List.getElem?_take_eq_none (by omega), List.getElem?_eq_none (by simp; omega)]
theorem grownBy_sortedV {w : World} {g n : Nat} {os : Array Obj} (F : Array Value) : w.grownBy (grow (putRow id (Sort.ahead w n) g 0 F) os) (some g) := by
  refine ⟨rfl, rfl, rfl, by simp, fun k hk hne => ?_⟩
  rw [heap_grow_old _ _ (by simpa using hk)]
  have : g ≠ k := fun e => hne (by rw [e])
  simp [putRow, mapBlock, Sort.ahead, Array.getElem?_modify, this]
theorem heap_sortedV {w : World} {g n : Nat} {os : Array Obj} {cur : Array Value} {e : TypeId} {fr : Nat × Nat} (F : Array Value) (hb : w.heap[g]? = some (.cells cur e fr)) :
    (grow (putRow id (Sort.ahead w n) g 0 F) os).heap[g]? = some (.cells (putCells id 0 F cur) e fr) := by
  have hg : g < w.heap.size := (Array.getElem?_eq_some_iff.1 hb).1
  rw [heap_grow_old _ _ (by simpa using hg)]
  simp [putRow, mapBlock, Sort.ahead, Array.getElem?_modify, hb, onCells]

set_option maxHeartbeats 1000000 in
theorem cmpF_any (x y : FilM) (W : World) : Calls Tryz.prog 79 #[.agg (encF2 x).toArray, .agg (encF2 y).toArray] W fun e w' => e = .returned (.int .i64 (cfF x y)) ∧ ∃ q os', w' = grow (W.drewN q) os' := by
  have hcon := fun W' => compare_any W' x.1 y.1
  show Calls Tryz.prog 79 #[.agg #[encStr x.1, encStr x.2], .agg #[encStr y.1, encStr y.2]] W _
  unfold cfF
  generalize Lib.compareBytes x.1 y.1 = r at hcon ⊢
  unfold encStr at *
  go_enter Tryz.func79, Tryz.ntmps79
  go_wp2_with fail
  refine (hcon _).mono ?_
  rintro e w' ⟨rfl, rfl⟩
  go_wp2
  go_ret
  exact ⟨rfl, 0, _, by rw [alloc_eq_grow, alloc_eq_grow, grow_grow]; rfl⟩


theorem lenB_any (n : Nat) (W : World) (h : n ≤ 12) : Calls Tryz.prog 107 #[.int .u64 n] W fun e w' => (∃ l : Int, e = .returned (.int .i64 l)) ∧ w' = W :=
  (Tryz.bits_Len n W (by omega) (by omega)).mono fun _ _ ⟨he, hw⟩ => ⟨⟨_, he⟩, hw⟩

/-- Files in order. -/
def OrdF (zs : List FilM) : Prop := zs.Pairwise (fun f g => ¬ g.1 < f.1)
theorem ord_of {zs : List FilM} {d : Array FilM} (hd : d.toList = zs) (h : SortedIn (ltOf cfF) 0 d.size d) : OrdF zs := by
  subst hd
  unfold OrdF
  rw [List.pairwise_iff_getElem]
  intro i j hi hj hij
  have := h i j (Nat.zero_le _) hij (by simpa using hj)
  rw [lt_cfF] at this
  have h1 : d[i]! = d.toList[i] := by rw [getElem!_pos _ _ (by simpa using hi)]; simp
  have h2 : d[j]! = d.toList[j] := by rw [getElem!_pos _ _ (by simpa using hj)]; simp
  rw [h1, h2] at this
  simpa using this

theorem ins_none (a : Option Addr) (c : Nat) (w : World) : Calls Tryz.prog 112 #[.slice a 0 c, .int .i64 0, .int .i64 0, .func (.func 79) #[] #[]] w fun e w' => e = .returned (.tuple #[]) ∧ w' = w := by
  go_enter Tryz.func112, Tryz.ntmps112
  go_wp2
  refine wp_loop_rounds 1 ?_
  rw [rounds_succ]
  go_wp2
  go_end0
  exact ⟨rfl, rfl⟩
set_option maxHeartbeats 2000000 in
theorem pdq_none (a : Option Addr) (c : Nat) (l : Int) (w : World) : Calls Tryz.prog 106 #[.slice a 0 c, .int .i64 0, .int .i64 0, .int .i64 l, .func (.func 79) #[] #[]] w fun e w' => e = .returned (.tuple #[]) ∧ w' = w := by
  go_enter Tryz.func106, Tryz.ntmps106
  go_wp2
  refine wp_loop_rounds 1 ?_
  rw [rounds_succ]
  go_wp2_with fail
  refine (ins_none a c _).mono ?_
  rintro e w2 ⟨rfl, rfl⟩
  go_wp2
  refine bodyPost_ret (results_none rfl _ _ _) rfl ?_
  exact ⟨rfl, rfl⟩

/-- What the sort leaves. -/
def SortTo (w : World) (base : Nat) (v : Value) (zs : List FilM) (r : Ending) (w' : World) : Prop :=
  r = .returned (.tuple #[]) ∧ ∃ zs', zs'.Perm zs ∧ OrdF zs' ∧ w'.ownsRow base 46 2 v zs.length (filCells zs') ∧ Only (ownL v) w w'

set_option maxHeartbeats 4000000 in
theorem sortF_any (w : World) (base : Nat) (v : Value) (zs : List FilM) (h : w.ownsRow base 46 2 v zs.length (filCells zs)) (hz : zs.length ≤ 8) :
    Calls Tryz.prog 94 #[v, .func (.func 79) #[] #[]] w (SortTo w base v zs) := by
  by_cases h0 : zs.length = 0
  · have hzs : zs = [] := List.length_eq_zero_iff.1 h0
    subst hzs
    obtain ⟨a, c, rfl⟩ := owns_slice h
    have H := Lib.hid h
    clear h
    simp only [List.length_nil] at *
    go_enter Tryz.func94, Tryz.ntmps94
    go_wp2_with fail
    refine (lenB_any 0 w (by omega)).mono ?_
    rintro e w1 ⟨⟨l, rfl⟩, rfl⟩
    go_wp2_with fail
    refine (pdq_none a c l _).mono ?_
    rintro e w2 ⟨rfl, rfl⟩
    go_wp2
    go_end0
    exact ⟨rfl, [], List.Perm.refl _, List.Pairwise.nil, H.out, Only.refl _ _⟩
  · have hh := h
    rcases h.2 with ⟨h1, h2⟩ | ⟨g, cap, cur, rfl, hb, hg, hc, hm, hsz, ht⟩
    · exact absurd h2 h0
    · have hH : HoldsK encF2 2 w g 0 zs.toArray := fun j hj => by
        have hj2 : j < zs.length * 2 := by simpa using hj
        have h1 : (flatK encF2 2 zs.toArray).toList[j]? = (filCells zs)[j]? := by rw [flat_encF]
        rw [Array.getElem?_toList, Array.getElem?_eq_getElem hj, ← getElem!_pos _ j hj] at h1
        have h2 := World.ownsRow.cells hh (g := g) rfl j _ h1.symm
        rw [Addr.add_mid] at h2
        exact ⟨h2, IsBlk.notFrozen (cs := cur) (t := 46) hg (0 + j)⟩
      have hcon := AnyQ.slices_SortFunc_small_sorted Tryz.sortF 2 Tryz.isAgg46 Tryz.sizeOf46 encF2 (fun _ => rfl) (fun x v hv => by simp [encF2] at hv; rcases hv with rfl | rfl <;> rfl) cfF 79 #[] swo_cfF g 0 cap zs.toArray w
        (enters_of Tryz.func79 (by kernel_rfl) rfl) (fun _ _ _ _ x y => cmpF_any x y _) hH (IsBlk.lt hg) (by simpa using (show zs.length ≤ 12 by omega)) lenB_any
      refine (show Calls Tryz.prog 94 #[.slice (some ⟨g, 0, none⟩) zs.length cap, .func (.func 79) #[] #[]] w _ from hcon).mono ?_
      rintro e w' ⟨rfl, d', n, os, hP, hS, rfl⟩
      have hds : d'.size = zs.length := hP.1
      have hperm : d'.toList.Perm zs := by
        have h3 := hP.2.2
        have e1 : d'.extract 0 zs.toArray.size = d' := by rw [show zs.toArray.size = d'.size by simp [hds]]; exact Array.extract_size
        have e2 : zs.toArray.extract 0 zs.toArray.size = zs.toArray := Array.extract_size
        rw [e1, e2] at h3
        simpa using h3
      have hfl : (flatK encF2 2 d').toList = filCells d'.toList := by have := flat_encF d'.toList; simpa using this
      have hfs : (flatK encF2 2 d').size = zs.length * 2 := by simp [hds]
      refine ⟨rfl, d'.toList, hperm, ord_of rfl (by rw [hds]; simpa using hS), ⟨by rw [length_filCells]; simp [hds], .inr ⟨g, cap, _, rfl, hb, heap_sortedV _ hg, hc, hm, by simp [putCells, hsz], ?_⟩⟩, grown_only (v := .slice (some ⟨g, 0, none⟩) zs.length cap) (grownBy_sortedV _)⟩
      rw [← hfl, ← hfs]
      exact take_putCellsV cur _ (by rw [hfs, hsz]; exact Nat.mul_le_mul_right 2 hc)

end Go.Proofs.YtildkedplmjdaaaGreatDoor
