/-
  Rows of files; a set's files by names (list); a set of files (setOf).
-/
import Derived.Test.YtfampoblcielpaaGreatWalK
import Derived.Sort.KeysCollected
import Derived.Maps.Own
import Derived.Maps.OwnSet
import Derived.Test.YtfampoblcielpaaGreatShelf
import Derived.Sort.OwnSorted
namespace Go.Proofs.YtfampoblcielpaaGreat
set_option maxRecDepth 100000
set_option linter.unusedVariables false
open Go.RowKit Go.Sort

/-- A file: its name, its text. -/
abbrev FileM := List UInt8 × List UInt8

def letB (c : UInt8) : Bool := decide (97 ≤ c.toNat) && decide (c.toNat ≤ 122)
def digB (c : UInt8) : Bool := decide (48 ≤ c.toNat) && decide (c.toNat ≤ 57)
def wordsM : List (List UInt8) := [[118, 97, 114], [108, 111, 99, 107], [102, 117, 110, 99], [117, 115, 101], [115, 101, 116], [117, 110, 108, 111, 99, 107], [99, 97, 108, 108], [115, 112, 97, 119, 110], [105, 102], [101, 108, 115, 101], [108, 111, 111, 112]]
def wordM (s : List UInt8) : Bool := wordsM.contains s
def nameM (s : List UInt8) : Bool := decide (1 ≤ s.length) && decide (s.length ≤ 12) && letB (s.head?.getD 0) && !wordM s && s.all (fun c => letB c || digB c)

theorem letter_any (w : World) (c : UInt8) : Calls Tryz.prog 62 #[.int .u8 c.toNat] w fun e w' => e = .returned (.bool (letB c)) ∧ w = w' := by
  go_enter Tryz.func62, Tryz.ntmps62
  have h := c.toNat_lt
  by_cases h1 : (97 : Int) ≤ (c.toNat : Int)
  · go_wp2
    go_ret
    refine ⟨?_, rfl⟩
    have : 97 ≤ c.toNat := by omega
    by_cases h2 : c.toNat ≤ 122 <;> simp [letB, this, h2] <;> omega
  · go_wp2
    go_ret
    refine ⟨?_, rfl⟩
    have : ¬ 97 ≤ c.toNat := by omega
    simp [letB, this]

theorem digit_any (w : World) (c : UInt8) : Calls Tryz.prog 64 #[.int .u8 c.toNat] w fun e w' => e = .returned (.bool (digB c)) ∧ w = w' := by
  go_enter Tryz.func64, Tryz.ntmps64
  have h := c.toNat_lt
  by_cases h1 : (48 : Int) ≤ (c.toNat : Int)
  · go_wp2
    go_ret
    refine ⟨?_, rfl⟩
    have : 48 ≤ c.toNat := by omega
    by_cases h2 : c.toNat ≤ 57 <;> simp [digB, this, h2] <;> omega
  · go_wp2
    go_ret
    refine ⟨?_, rfl⟩
    have : ¬ 48 ≤ c.toNat := by omega
    simp [digB, this]

theorem word_any (w : World) (s : List UInt8) : Calls Tryz.prog 63 #[encStr s] w fun e w' => e = .returned (.bool (wordM s)) ∧ w = w' := by
  unfold encStr
  go_enter Tryz.func63, Tryz.ntmps63
  go_wp2
  all_goals
    go_ret
    refine ⟨?_, rfl⟩
    simp_all [wordM, wordsM]

theorem name_any (w : World) (s : List UInt8) (hs : s.length ≤ maxLen) : Calls Tryz.prog 40 #[encStr s] w fun e w' => e = .returned (.bool (nameM s)) ∧ w = w' := by
  unfold maxLen at hs
  unfold encStr
  go_enter Tryz.func40, Tryz.ntmps40
  by_cases h1 : (s.length : Int) < 1
  · have h0 : s.length = 0 := by omega
    go_wp2
    go_ret
    exact ⟨by simp [nameM, h0], rfl⟩
  by_cases h2 : (12 : Int) < (s.length : Int)
  · go_wp2
    go_ret
    exact ⟨by have : ¬ s.length ≤ 12 := by omega
              simp [nameM, this], rfl⟩
  have hpos : 0 < s.length := by omega
  have hhd : (⟨s.toArray⟩ : ByteArray)[0]'(by simpa [ByteArray.size] using hpos) = s.head?.getD 0 := by
    cases s with
    | nil => simp at hpos
    | cons a r => rfl
  go_wp2_with fail
  refine (letter_any _ _).mono ?_
  rintro e w' ⟨rfl, rfl⟩
  clear hhd
  cases hl : letB (s.head?.getD 0) with
  | false =>
    go_wp2
    go_ret
    exact ⟨by simp [nameM, hl], rfl⟩
  | true =>
    go_wp2_with fail
    refine (word_any _ s).mono ?_
    rintro e w' ⟨rfl, rfl⟩
    cases hw : wordM s with
    | true =>
      go_wp2
      go_ret
      exact ⟨by simp [nameM, hw], rfl⟩
    | false =>
      have Hl := Lib.hid hl
      have Hw := Lib.hid hw
      clear hl hw
      go_wp2_with fail
      go_loop [24] (fun i => ∃ k : Nat, k ≤ s.length ∧ i = .int .i64 k ∧ Hid ((s.take k).all (fun c => letB c || digB c) = true)) (fun i => s.length - (intOf i).toNat)
      case atStart => exact ⟨0, Nat.zero_le _, rfl, Lib.hid rfl⟩
      case round =>
        obtain ⟨k, hk, rfl, hall⟩ := hrel
        by_cases hlt : k < s.length
        · have hlti : (k : Int) < (s.length : Int) := by omega
          have hget : (⟨s.toArray⟩ : ByteArray)[k]'(by simpa [ByteArray.size] using hlt) = s[k] := rfl
          have Hst : Hid (s.take (k + 1) = s.take k ++ [s[k]]) := Lib.hid (by rw [List.take_add_one, List.getElem?_eq_getElem hlt]; rfl)
          have Hall : Hid (∀ b : Bool, (letB s[k] || digB s[k]) = b → (s.take (k + 1)).all (fun c => letB c || digB c) = b) := Lib.hid (fun b hb => by
            rw [Hst.out, List.all_append, hall.out]; simp [hb])
          have Hbad : Hid ((letB s[k] || digB s[k]) = false → nameM s = false) := Lib.hid (fun hb => by
            have : s.all (fun c => letB c || digB c) = false := by
              rw [List.all_eq_false]; exact ⟨s[k], List.getElem_mem hlt, by simp [hb]⟩
            simp [nameM, this])
          go_wp2_with fail
          refine (letter_any _ _).mono ?_
          rintro e w' ⟨rfl, rfl⟩
          cases hlk : letB s[k] with
          | true =>
            have Hlk := Lib.hid hlk
            clear hlk
            go_wp2
            go_round
            case rel => exact ⟨k + 1, by omega, by go_num, Lib.hid (Hall.out _ (by rw [Hlk.out]; rfl))⟩
            case measure => simp [intOf]; omega
          | false =>
            have Hlk := Lib.hid hlk
            clear hlk
            go_wp2_with fail
            refine (digit_any _ _).mono ?_
            rintro e w' ⟨rfl, rfl⟩
            cases hdk : digB s[k] with
            | true =>
              have Hdk := Lib.hid hdk
              clear hdk
              go_wp2
              go_round
              case rel => exact ⟨k + 1, by omega, by go_num, Lib.hid (Hall.out _ (by rw [Hlk.out, Hdk.out]; rfl))⟩
              case measure => simp [intOf]; omega
            | false =>
              have Hdk := Lib.hid hdk
              clear hdk
              go_wp2
              go_ret
              have hb := Hbad.out (by rw [Hlk.out, Hdk.out]; rfl)
              exact ⟨by rw [hb]; rfl, rfl⟩
        · have hge : ¬ (k : Int) < (s.length : Int) := by omega
          go_wp2
          go_ret
          have hk' : k = s.length := by omega
          refine ⟨?_, rfl⟩
          have := hall.out
          rw [hk', List.take_length] at this
          have q1 := Hl.out
          have q2 := Hw.out
          simp only [nameM, q1, q2, this]
          simp; omega

end Go.Proofs.YtfampoblcielpaaGreat
namespace Go.Proofs.YtfampoblcielpaaGreat
set_option maxRecDepth 100000
set_option linter.unusedVariables false
open Go.RowKit Go.Sort Go.Maps

def fileV (f : FileM) : Value := .agg #[encStr f.1, encStr f.2]
def fileD (f : FileM) : DataW Unit := .agg [.lit (.string f.1), .lit (.string f.2)]
def RF (v : Value) : Option (DataW Unit × List MemPlace) :=
  match v with
  | .agg xs => match xs.toList with
    | [.string a, .string b] => some (.agg [.lit (.string a.data.toList), .lit (.string b.data.toList)], [])
    | _ => none
  | _ => none
theorem RF_file (f : FileM) : RF (fileV f) = some (fileD f, []) := rfl
theorem RF_inv {v : Value} {d : DataW Unit} {ps : List MemPlace} (h : RF v = some (d, ps)) : ∃ f, v = fileV f ∧ d = fileD f ∧ ps = [] := by
  unfold RF at h
  split at h
  · rename_i xs
    split at h
    · rename_i a b hx
      injection h with h
      injection h with h1 h2
      refine ⟨(a.data.toList, b.data.toList), ?_, h1.symm, h2.symm⟩
      unfold fileV encStr
      simp only
      have : xs = #[.string a, .string b] := by rw [← Array.toArray_toList (xs := xs), hx]
      rw [this]
    · cases h
  · cases h
theorem fileD_inj {f g : FileM} (h : fileD f = fileD g) : f = g := by
  unfold fileD at h
  injection h with h
  injection h with h1 h2
  injection h1 with h1
  injection h1 with h1
  injection h2 with h2 _
  injection h2 with h2
  injection h2 with h2
  exact Prod.ext h1 h2

def entD (f : FileM) : Lit × DataW Unit := (.string f.1, fileD f)
def setD (F : List FileM) : DataW Unit := .map (F.map entD)
def SetAt (w : World) (b : Nat) (F : List FileM) : Prop := w.ownsMap Tryz.prog 9 RF b F.length (setD F)
/-- Files in rising order of their names. -/
def Rise (F : List FileM) : Prop := F.Pairwise (fun f g => bytesBefore f.1 g.1 = true)
def getS (n : List UInt8) (F : List FileM) : Option FileM := F.find? (fun f => f.1 == n)
def insS (f : FileM) : List FileM → List FileM
  | [] => [f]
  | g :: r => if bytesBefore f.1 g.1 then f :: g :: r else g :: insS f r
def delS (n : List UInt8) (F : List FileM) : List FileM := F.filter (fun g => !(g.1 == n))
def putS (f : FileM) (F : List FileM) : List FileM := insS f (delS f.1 F)

theorem ins_ent (f : FileM) : ∀ F : List FileM, DataW.insert (entD f) (F.map entD) = (insS f F).map entD
  | [] => rfl
  | g :: r => by
    simp only [List.map_cons, DataW.insert, insS]
    have : (entD f).1.before (entD g).1 = bytesBefore f.1 g.1 := rfl
    rw [this]
    split
    · rfl
    · rw [ins_ent f r]; rfl
theorem del_ent (n : List UInt8) : ∀ F : List FileM, (F.map entD).filter (fun p => !p.1.sameKey (.string n)) = (delS n F).map entD
  | [] => rfl
  | g :: r => by
    have ih := del_ent n r
    unfold delS at ih ⊢
    have : (entD g).1.sameKey (.string n) = (g.1 == n) := rfl
    simp only [List.map_cons, List.filter_cons, this, ih]
    split <;> simp
theorem put_setD (f : FileM) (F : List FileM) : (setD F).put (.string f.1) (fileD f) = setD (putS f F) := by
  show DataW.map (DataW.insert (entD f) _) = _
  rw [del_ent, ins_ent]; rfl
theorem del_setD (n : List UInt8) (F : List FileM) : (setD F).del (.string n) = setD (delS n F) := by
  show DataW.map _ = _
  rw [del_ent]; rfl
theorem find_ent_map (n : List UInt8) : ∀ F : List FileM, (F.map entD).find? (fun p => p.1.sameKey (.string n)) = (getS n F).map entD
  | [] => rfl
  | g :: r => by
    have ih := find_ent_map n r
    unfold getS at ih ⊢
    have : (entD g).1.sameKey (.string n) = (g.1 == n) := rfl
    simp only [List.map_cons, List.find?_cons, this]
    split
    · rfl
    · exact ih
theorem at_setD (n : List UInt8) (F : List FileM) (z : DataW Unit) : (setD F).atKey (.string n) z = match getS n F with | some f => fileD f | none => z := by
  unfold setD DataW.atKey
  simp only
  rw [find_ent_map]
  cases getS n F <;> rfl
theorem get_name {n : List UInt8} {F : List FileM} {f : FileM} (h : getS n F = some f) : f.1 = n := by
  have := List.find?_some h
  simpa using this

theorem SetAt.lt {w : World} {b : Nat} {F : List FileM} (h : SetAt w b F) : b < w.heap.size := World.ownsMap.lt h
theorem SetAt.keep {w w' : World} {b : Nat} {F : List FileM} {S : List Nat} (h : SetAt w b F) (hO : Only S w w') (hb : b ∉ S) : SetAt w' b F := by
  have hlt := h.lt
  obtain ⟨es, clock, h1, h2⟩ := h
  exact ⟨es, clock, (hO.block b hlt hb).trans h1, h2⟩
theorem SetAt.more {w w' : World} {b : Nat} {F : List FileM} (h : SetAt w b F) (hO : Only [] w w') : SetAt w' b F := h.keep hO (by simp)
theorem SetAt.tight {w : World} {b n : Nat} {F : List FileM} (h : w.ownsMap Tryz.prog 9 RF b n (setD F)) : SetAt w b F := by
  obtain ⟨es, clock, h1, h2, h3, h4⟩ := h
  refine ⟨es, clock, h1, h2, ?_, h4⟩
  injection h4 with h4
  have := congrArg List.length h4
  rw [length_sorted] at this
  simp at this
  omega
theorem SetAt.rise {w : World} {b : Nat} {F : List FileM} (h : SetAt w b F) : Rise F := by
  obtain ⟨es, clock, h1, h2, h3, h4⟩ := h
  injection h4 with h4
  have := sorted_sorted (string_keyed Tryz.underlying9).one _ (fit_keys h2) (fit_apart (string_keyed Tryz.underlying9) h2)
  rw [← h4, List.pairwise_map] at this
  exact this
theorem SetAt.names {w : World} {b : Nat} {F : List FileM} (h : SetAt w b F) : ∀ f ∈ F, f.1.length ≤ maxLen := by
  intro f hf
  obtain ⟨es, hD, hk⟩ := World.ownsMap.keysOf h
  injection hD with hD
  obtain ⟨v, hv⟩ := hk (entD f) (by rw [← hD]; exact List.mem_map.2 ⟨f, hf, rfl⟩)
  obtain ⟨x, -, hx, hl⟩ := Maps.keyOf_str Tryz.underlying9 hv
  have : f.1 = x := by injection hx
  rw [this]; exact hl
theorem set_made (w : World) : SetAt (w.alloc (.map #[] 0)) w.heap.size [] := World.ownsMap_made w _ _ _
theorem key_str {n : List UInt8} (h : n.length ≤ maxLen) : keyOf Tryz.prog 9 (encStr n) = some (.string n) := by
  simp [keyOf, Tryz.underlying9, mapKey, encStr, ByteArray.size, h]

/-- A look-up. -/
theorem run_get (w : World) (b : Nat) (F : List FileM) (n : List UInt8) (c : Bool) (h : SetAt w b F) (hn : n.length ≤ maxLen) :
    (Instr.lookup 57 (.map (some b)) (encStr n) c).run Tryz.prog w = .ok (if c then .tuple #[fileV ((getS n F).getD ([], [])), .bool (getS n F).isSome] else fileV ((getS n F).getD ([], []))) w := by
  obtain ⟨es, clock, hb, hF, hs, hD⟩ := h
  rcases Maps.fit_look (z := fileV ([], [])) c (string_keyed Tryz.underlying9) Tryz.underlying57 (Tryz.zeroValue48 w) hb hF (key_str hn) with ⟨hrun, _, hat⟩ | ⟨e0, y, _, _, hrun, hRv, hat, _⟩
  · have h1 := hat .nil
    rw [← hD, at_setD] at h1
    cases hg : getS n F with
    | none => rw [hrun]; rfl
    | some f => rw [hg] at h1; cases h1
  · have h1 := hat .nil
    rw [← hD, at_setD] at h1
    obtain ⟨f, hf, hfd, _⟩ := RF_inv (v := e0.val) (d := y.1) (ps := y.2) hRv
    cases hg : getS n F with
    | none => rw [hg] at h1; rw [hfd] at h1; cases h1
    | some f' =>
      rw [hg] at h1
      simp only at h1
      rw [hfd] at h1
      have := fileD_inj h1
      subst this
      rw [hrun, hf]; rfl

end Go.Proofs.YtfampoblcielpaaGreat
namespace Go.Proofs.YtfampoblcielpaaGreat
set_option maxRecDepth 100000
set_option linter.unusedVariables false
open Go.RowKit Go.Sort Go.Maps

theorem onlyBelow {w w' : World} (hb : Below w.heap.size w w') : Only [] w w' :=
  ⟨hb.os, hb.tape, hb.output, hb.size, fun k hk _ => hb.block k hk⟩

/-- Rows of texts of one's own. -/
def OwnS (w : World) (base : Nat) (v : Value) (ss : List (List UInt8)) : Prop := w.ownsRow base 9 1 v ss.length (ss.map encStr)

theorem keys_call (w : World) (b : Nat) : Calls Tryz.prog 67 #[.map (some b)] w fun e w' => e = .returned (.func (.func 79) #[] #[.pointer (some ⟨w.heap.size, 0, none⟩)]) ∧ w' = w.alloc (.cells #[.map (some b)] 57) :=
  (callsIn_wide (n := 5)).1 (AnyZ.keys_in Tryz.keysA Fence.wide 5 trivial rfl (some b) w)

/-- AppendSeq of no row and of a set's names. -/
theorem appseq_nil (w : World) (b q : Nat) (F : List FileM) (h : SetAt w b F) (hF : F.length ≤ 100000) (hq : q < w.heap.size) (hc : w.cell? ⟨q, 0, none⟩ = some (.map (some b))) :
    Calls Tryz.prog 66 #[.slice none 0 0, .func (.func 79) #[] #[.pointer (some ⟨q, 0, none⟩)]] w
      fun e w' => ∃ v ss, e = .returned v ∧ ss.Perm (F.map (·.1)) ∧ OwnS w' w.heap.size v ss ∧ (v = .slice none 0 0 ↔ ss = []) ∧ Only [] w w' := by
  have hsz : Maps.size (setD F) = F.length := by simp [setD, Maps.size]
  have hseq : SeqGives Fence.wide 5 Tryz.prog 79 #[.pointer (some ⟨q, 0, none⟩)] encStr (fun ss => ss.Perm (strKeys (setD F))) (Maps.size (setD F)) w :=
    AnyZ.keys_gives (ρ := Tryz.keysA_ren) { Tryz.keysA with } Fence.wide _ trivial rfl (by omega) q b F.length (setD F) w hq hc h
  have hk : strKeys (setD F) = F.map (·.1) := by simp [strKeys, setD, entD, strOf]
  have hmax : F.length ≤ maxLen := by unfold maxLen; omega
  refine ((callsIn_wide (n := 6)).1 (AnyZ.appendSeq_in Tryz.appA Fence.wide 6 trivial rfl (by omega) 79 #[.pointer (some ⟨q, 0, none⟩)] trivial (enters_of Tryz.func79 (by kernel_rfl) rfl) _ _ (by rw [hsz]; exact hmax) (by rw [hsz]; omega) w hseq)).mono ?_
  rintro e w' ⟨v, ss, rfl, hS, hrow, hnil, hb⟩
  exact ⟨v, ss, rfl, by rw [← hk]; exact hS, hrow, hnil, onlyBelow hb⟩

theorem before_lt : ∀ {a b : List UInt8}, bytesBefore a b = true → a < b
  | [], [], h => by cases h
  | [], _ :: _, _ => by simp
  | _ :: _, [], h => by cases h
  | a :: r, b :: s, h => by
    simp only [bytesBefore, Bool.or_eq_true, Bool.and_eq_true, decide_eq_true_eq, beq_iff_eq] at h
    rw [List.cons_lt_cons_iff]
    rcases h with h | ⟨h1, h2⟩
    · exact .inl h
    · exact .inr ⟨h1, before_lt h2⟩
theorem Rise.names {F : List FileM} (h : Rise F) : (F.map (·.1)).Pairwise (· < ·) := by
  rw [List.pairwise_map]
  exact h.imp before_lt
theorem sorted_names {F : List FileM} (h : Rise F) {ss : List (List UInt8)} (hp : ss.Perm (F.map (·.1))) : (ss.mergeSort fun x y => decide (x ≤ y)) = F.map (·.1) := by
  have e := mergeSort_of_perm hp
  have e2 : (F.map (·.1)).mergeSort (fun x y => decide (x ≤ y)) = F.map (·.1) := by
    apply List.mergeSort_of_pairwise
    exact h.names.imp (fun hab => by simp only [decide_eq_true_eq]; exact List.le_of_lt hab)
  exact e.trans e2
theorem compact_nodup {zs : List (List UInt8)} (h : zs.Nodup) : Lib.compact zs = zs := by
  apply Lib.compact_all
  intro j hj'
  unfold Lib.keeps
  by_cases h0 : j = 0
  · simp [h0]
  · have hne : zs[j] ≠ zs[j - 1] := fun e => by
      have := (List.getElem_inj (h₀ := hj') (h₁ := by omega) h).1 e
      omega
    simp [h0, hj', show j - 1 < zs.length by omega, hne]

/-- Sets in a row. -/
def SetsAt (w : World) (g : Nat) (Ls : List (Nat × List FileM)) : Prop := g < w.heap.size ∧ ∀ (i : Nat) (x : Nat × List FileM), Ls[i]? = some x → w.cell? ⟨g, i, none⟩ = some (.map (some x.1)) ∧ SetAt w x.1 x.2
theorem SetsAt.more {w w' : World} {g : Nat} {Ls : List (Nat × List FileM)} (h : SetsAt w g Ls) (hO : Only [] w w') : SetsAt w' g Ls :=
  ⟨Nat.lt_of_lt_of_le h.1 hO.size, fun i x hx => ⟨(hO.cell (p := ⟨g, i, none⟩) h.1 (by simp)).trans (h.2 i x hx).1, (h.2 i x hx).2.more hO⟩⟩

/-- Sort and Compact of a row of one's own of a set's names. -/
theorem OwnS.only {w w' : World} {base : Nat} {v : Value} {ss : List (List UInt8)} (h : OwnS w base v ss) (hO : Only [] w w') : OwnS w' base v ss := by
  refine ⟨h.1, ?_⟩
  rcases h.2 with hn | ⟨g, cap, cur, rfl, hb, hg, rest⟩
  · exact .inl hn
  · exact .inr ⟨g, cap, cur, rfl, hb, (hO.block g (IsBlk.lt hg) (by simp)).trans hg, rest⟩

def OwnTo (w : World) (base : Nat) (v r : Value) (ss : List (List UInt8)) (e : Ending) (w' : World) : Prop :=
  e = .returned r ∧ OwnS w' base v ss ∧ ∀ w0, Only [] w0 w → w0.heap.size ≤ base → Only [] w0 w'
theorem only_row {w0 w w' : World} {g base : Nat} (hO : Only [] w0 w) (hg : w.grownBy w' (some g)) (hb : base ≤ g) (h0 : w0.heap.size ≤ base) : Only [] w0 w' :=
  ⟨hg.os.trans hO.os, hg.tape.trans hO.tape, hg.output.trans hO.output, Nat.le_trans hO.size hg.size, fun k hk hm => (hg.block k (Nat.lt_of_lt_of_le hk hO.size) (fun e => by injection e with e; omega)).trans (hO.block k hk hm)⟩
theorem sort_own (w : World) (base : Nat) (v : Value) (ss : List (List UInt8)) (h : OwnS w base v ss) (hl : ss.length ≤ 100000) :
    Calls Tryz.prog 68 #[v] w (OwnTo w base v (.tuple #[]) (ss.mergeSort fun x y => decide (x ≤ y))) := by
  have h' := h
  rcases h.2 with ⟨rfl, hz⟩ | ⟨g, cap, cur, rfl, hbase, hb, r1, r2, r3, r4⟩
  · have hss : ss = [] := List.eq_nil_of_length_eq_zero hz
    subst hss
    refine (Tryz.slices_Sort_string_none none 0 w).mono ?_
    rintro e w' ⟨rfl, rfl⟩
    exact ⟨rfl, by simpa using h', fun w0 hO _ => hO⟩
  · refine (Tryz.slices_Sort_string g 0 cap ss w (holds_of_block hb (by simpa using r4)) (IsBlk.lt hb) (by omega)).mono ?_
    rintro e w' ⟨rfl, n, os, rfl⟩
    refine ⟨rfl, ?_, fun w0 hO h0 => only_row hO (grownBy_sorted _) hbase h0⟩
    have := ownsRow_sorted (n := n) (os := os) (ts := ss.mergeSort fun x y => decide (x ≤ y)) (by simp) hbase hb r1 r2 r3
    unfold OwnS
    rw [List.length_mergeSort]
    exact this
theorem compact_own (w : World) (base : Nat) (v : Value) (ss : List (List UInt8)) (h : OwnS w base v ss) (hn : ss.Nodup) (hl : ss.length ≤ 100000) :
    Calls Tryz.prog 69 #[v] w (OwnTo w base v v ss) := by
  have h' := h
  rcases h.2 with ⟨rfl, hz⟩ | ⟨g, cap, cur, rfl, hbase, hb, r1, r2, r3, r4⟩
  · refine (Tryz.slices_Compact_string_empty none 0 w).mono ?_
    rintro e w' ⟨rfl, rfl⟩
    exact ⟨rfl, h', fun w0 hO _ => hO⟩
  · have hm : ss.length ≤ 9223372036854775807 := by omega
    refine (Tryz.slices_Compact_string g 0 cap ss w (holds_of_block hb (by simpa using r4)) hm r1).mono ?_
    rw [compact_nodup hn]
    rintro e w' ⟨rfl, n, rfl⟩
    have e0 : (ss ++ List.replicate (ss.length - ss.length) []).toArray = ss.toArray := by simp
    rw [e0, ← grow_empty (putRow encStr (Sort.ahead w n) g 0 ss.toArray)]
    exact ⟨rfl, ownsRow_sorted rfl hbase hb r1 r2 r3, fun w0 hO h0 => only_row hO (grownBy_sorted _) hbase h0⟩

set_option maxHeartbeats 4000000 in
theorem names_any (w : World) (g cap k b : Nat) (F : List FileM) (Ls : List (Nat × List FileM)) (h : SetsAt w g Ls) (hk : Ls.length = k + 1) (hk9 : k ≤ 9) (hpre : ∀ (i : Nat) (x : Nat × List FileM), i < k → Ls[i]? = some x → x.2 = []) (hlast : Ls[k]? = some (b, F)) (hF : F.length ≤ 100000) :
    Calls Tryz.prog 45 #[.slice (some ⟨g, 0, none⟩) (k + 1) cap] w fun e w' => ∃ v, e = .returned v ∧ OwnS w' w.heap.size v (F.map (·.1)) ∧ Only [] w w' := by
  have hR : Hid (Rise F) := Lib.hid (h.2 k _ hlast).2.rise
  have H := Lib.hid h
  have Hp := Lib.hid hpre
  have Hl := Lib.hid hlast
  clear h hpre hlast
  go_enter Tryz.func45, Tryz.ntmps45
  go_wp2_with fail
  go_loopw [8, 3] (fun i s3 wr => ∃ j : Nat, j ≤ k + 1 ∧ i = .int .i64 j ∧ (j ≤ k → s3 = .slice none 0 0) ∧ (j = k + 1 → ∃ ss, ss.Perm (F.map (·.1)) ∧ OwnS wr w.heap.size s3 ss) ∧ Only [] w wr) (fun i _ _ => k + 1 - (intOf i).toNat)
  case atStart => exact ⟨0, by omega, rfl, fun _ => rfl, fun h => by omega, Only.refl _ _⟩
  case round =>
    obtain ⟨j, hj, rfl, hnil, hown, hO⟩ := hrel
    have HO := Lib.hid hO
    clear hO
    by_cases hlt : j < k + 1
    · have hlti : (j : Int) < ((k : Int) + 1) := by omega
      obtain rfl := hnil (by omega)
      clear hnil hown
      have hS := H.out.more HO.out
      obtain ⟨⟨bj, Fj⟩, hx⟩ : ∃ x, Ls[j]? = some x := ⟨_, List.getElem?_eq_getElem (by omega)⟩
      obtain ⟨hc, hs⟩ := hS.2 j _ hx
      simp only at hc hs
      have Hs := Lib.hid hs
      have Hx := Lib.hid hx
      have hFj : Fj.length ≤ 100000 := by
        by_cases e : j = k
        · have h2 := Hl.out; rw [← e, hx] at h2; injection h2 with h2; injection h2 with h2 h3; rw [h3]; exact hF
        · have := Hp.out j _ (by omega) hx; simp only at this; rw [this]; simp
      clear hS hs hx
      go_wp2_with fail
      refine (keys_call _ bj).mono ?_
      rintro e w1 ⟨rfl, hw1⟩
      have hO1 : Only [] wr w1 := by rw [hw1]; exact (Only.refl _ _).alloc _
      have hc1 : w1.cell? ⟨wr.heap.size, 0, none⟩ = some (.map (some bj)) := by rw [hw1]; exact IsBlk.cell (IsBlk.made wr _) 0
      have hq1 : wr.heap.size < w1.heap.size := by rw [hw1]; simp
      have Hc1 := Lib.hid hc1
      have HO1 := Lib.hid hO1
      clear hw1 hc1 hO1
      go_wp2_with fail
      refine (appseq_nil _ bj wr.heap.size Fj (Hs.out.more HO1.out) hFj hq1 Hc1.out).mono ?_
      rintro e w2 ⟨v, ss, rfl, hp, how, hn, hO2⟩
      have HO2 := Lib.hid (HO.out.plus (HO1.out.plus hO2))
      have How := Lib.hid how
      have hsz : w.heap.size ≤ w1.heap.size := Nat.le_trans HO.out.size HO1.out.size
      clear how hO2
      go_wp2
      go_roundw
      case rel =>
        refine ⟨j + 1, by omega, by go_num, fun h => ?_, fun h => ?_, HO2.out⟩
        · have := Hp.out j _ (by omega) Hx.out
          simp only at this
          rw [this] at hp
          exact hn.2 (by simpa using hp)
        · have hjk : j = k := by omega
          have h2 := Hl.out
          rw [← hjk, Hx.out] at h2
          injection h2 with h2; injection h2 with h2 h3
          rw [← h3]
          exact ⟨ss, hp, ownsRow_base_a How.out hsz⟩
      case measure => simp [intOf]; omega
    · have hge : ¬ (j : Int) < ((k : Int) + 1) := by omega
      obtain ⟨ss, hp, how⟩ := hown (by omega)
      have How := Lib.hid how
      clear hnil hown how
      have hlen : ss.length ≤ 100000 := by rw [hp.length_eq]; simpa using hF
      have Hsort := Lib.hid (sorted_names hR.out hp)
      go_wp2_with fail
      refine (sort_own _ w.heap.size _ ss How.out hlen).mono ?_
      rintro e w1 ⟨rfl, ho1, hO1⟩
      rw [Hsort.out] at ho1
      have HO1 := Lib.hid (hO1 w HO.out (Nat.le_refl _))
      have Ho1 := Lib.hid ho1
      have hnd : (F.map (·.1)).Nodup := hR.out.names.imp (fun h e => by subst e; exact List.lt_irrefl _ h)
      have Hnd := Lib.hid hnd
      clear ho1 hO1 hnd hp
      go_wp2_with fail
      refine (compact_own _ w.heap.size _ _ Ho1.out Hnd.out (by simpa using hF)).mono ?_
      rintro e w2 ⟨rfl, ho2, hO2⟩
      have HO2 := Lib.hid (hO2 w HO1.out (Nat.le_refl _))
      have Ho2 := Lib.hid ho2
      clear ho2 hO2
      go_wp2
      go_ret
      exact ⟨_, rfl, Ho2.out, HO2.out⟩

end Go.Proofs.YtfampoblcielpaaGreat
namespace Go.Proofs.YtfampoblcielpaaGreat
set_option maxRecDepth 100000
set_option linter.unusedVariables false
open Go.RowKit Go.Sort Go.Maps

def fcells (f : FileM) : List Value := [encStr f.1, encStr f.2]
def lcellsF (l : List FileM) : List Value := l.flatMap fcells
def OwnF (w : World) (base : Nat) (v : Value) (l : List FileM) : Prop := w.ownsRow base 48 2 v l.length (lcellsF l)
theorem length_lcellsF (l : List FileM) : (lcellsF l).length = l.length * 2 := by
  induction l with
  | nil => rfl
  | cons f r ih => simp [lcellsF, fcells] at ih ⊢; omega
theorem lcellsF_snoc (l : List FileM) (f : FileM) : lcellsF (l ++ [f]) = lcellsF l ++ fcells f := by simp [lcellsF]
theorem OwnF.only {w w' : World} {base : Nat} {v : Value} {l : List FileM} (h : OwnF w base v l) (hO : Only [] w w') : OwnF w' base v l := by
  refine ⟨h.1, ?_⟩
  rcases h.2 with hn | ⟨g, cap, cur, rfl, hb, hg, rest⟩
  · exact .inl hn
  · exact .inr ⟨g, cap, cur, rfl, hb, (hO.block g (IsBlk.lt hg) (by simp)).trans hg, rest⟩

theorem infoF : (Tryz.prog.info? 48).map (fun i => (i.zero, i.size, i.bytes)) = some (some (.agg #[.string ⟨#[]⟩, .string ⟨#[]⟩]), 2, 32) := by kernel_rfl

/-- One file appended to a row of files of one's own. -/
theorem wpList_append_f {w : World} {ops : Array Oper} {rest : List Oper} {o : Oper} {a : Act} {Q : Exit → Act → World → Prop} (hgd : o.guard = none) (s x : Operand)
    (ho : o.op = .call { callee := .builtin .append, args := #[s, x], argTypes := #[34, 34] })
    (base : Nat) (v : Value) (l : List FileM) (hs : a.eval s = v) (hown : OwnF w base v l) (q c : Nat) (f : FileM) (hx : a.eval x = .slice (some ⟨q, 0, none⟩) 1 c)
    (hc0 : w.cell? ⟨q, 0, none⟩ = some (encStr f.1)) (hc1 : w.cell? ⟨q, 1, none⟩ = some (encStr f.2)) (hsm : l.length ≤ 1000000) (hbase : base ≤ w.heap.size)
    (h : ∀ v' w', OwnF w' base v' (l ++ [f]) → w.grownBy w' v.ownBlock → wpList Tryz.prog ops Q rest (a.put o.dst v') w') : wpList Tryz.prog ops Q (o :: rest) a w := by
  obtain ⟨i0, hi, hz0, hz1, hz2⟩ := info_parts infoF
  refine wpList_append_own w hgd s x _ ho base _ i0 _ 2 32 Tryz.underlying34 hi hz0 hz1 hz2 rfl (by decide) v l.length (lcellsF l) hs hown ⟨q, 0, none⟩ 1 c (fcells f) hx rfl (fun j u hu => ?_) (fun u hu => ?_) (by unfold maxLen; omega) (by omega) hbase (fun v' w' h2 h3 h4 => h v' w' ?_ h3)
  · rw [Addr.add_mid]
    match j, hu with
    | 0, hu => simp [fcells] at hu; rw [← hu]; exact hc0
    | 1, hu => simp [fcells] at hu; rw [← hu]; exact hc1
    | n + 2, hu => simp [fcells] at hu
  · simp [fcells] at hu
    rcases hu with rfl | rfl <;> rfl
  · unfold OwnF
    rw [lcellsF_snoc, List.length_append]
    exact h2
theorem own_apart {w : World} {base base' s s' n n' : Nat} {e e' : TypeId} {v v' : Value} {xs xs' : List Value} (h : w.ownsRow base e s v n xs) (h' : w.ownsRow base' e' s' v' n' xs') (hne : e ≠ e') : v.ownBlock = none ∨ v.ownBlock ≠ v'.ownBlock := by
  rcases h.2 with ⟨rfl, _⟩ | ⟨g, cap, cur, rfl, hb, hg, _⟩
  · exact .inl rfl
  · rcases h'.2 with ⟨rfl, _⟩ | ⟨g', cap', cur', rfl, hb', hg', _⟩
    · exact .inr (by simp [Value.ownBlock])
    · refine .inr (fun e0 => ?_)
      have : g = g' := by simpa [Value.ownBlock] using e0
      subst this
      rw [hg] at hg'
      injection hg' with hg'; injection hg' with _ h2
      exact hne h2
theorem OwnS.cell {w : World} {base j : Nat} {v : Value} {ss : List (List UInt8)} (h : OwnS w base v ss) (hj : j < ss.length) : ∃ g cap, v = .slice (some ⟨g, 0, none⟩) ss.length cap ∧ w.cell? ⟨g, j, none⟩ = some (encStr ss[j]) := by
  rcases h.2 with ⟨rfl, h0⟩ | ⟨g, cap, cur, rfl, hb, hg, _⟩
  · omega
  · refine ⟨g, cap, rfl, ?_⟩
    have := World.ownsRow.cells h (g := g) rfl j (encStr ss[j]) (by simp [hj])
    rw [Addr.add_mid, Nat.zero_add] at this
    exact this
theorem OwnS.len {w : World} {base : Nat} {v : Value} {ss : List (List UInt8)} (h : OwnS w base v ss) : ∃ a cap, v = .slice a ss.length cap := by
  rcases h.2 with ⟨rfl, h0⟩ | ⟨g, cap, cur, rfl, hb, hg, _⟩
  · exact ⟨none, 0, by rw [h0]⟩
  · exact ⟨_, cap, rfl⟩
theorem get_mem {F : List FileM} (hR : Rise F) {f : FileM} (hf : f ∈ F) : getS f.1 F = some f := by
  unfold getS
  induction F with
  | nil => cases hf
  | cons g r ih =>
    have hR' := List.pairwise_cons.1 hR
    rw [List.find?_cons]
    rcases List.mem_cons.1 hf with rfl | hm
    · simp
    · have h1 := before_lt (hR'.1 f hm)
      have : (g.1 == f.1) = false := by
        simp only [beq_eq_false_iff_ne]; intro e; rw [e] at h1; exact List.lt_irrefl _ h1
      rw [this]
      exact ih hR'.2 hm

set_option maxHeartbeats 4000000 in
theorem list_any (w : World) (b : Nat) (F : List FileM) (h : SetAt w b F) (hF : F.length ≤ 100000) :
    Calls Tryz.prog 27 #[.map (some b)] w fun e w' => ∃ v, e = .returned v ∧ OwnF w' w.heap.size v F ∧ Only [] w w' := by
  have hlen := World.ownsMap.len h Tryz.underlying57
  have hsz : Maps.size (setD F) = F.length := by simp [setD, Maps.size]
  rw [hsz] at hlen
  have hR := Lib.hid h.rise
  have hN := Lib.hid h.names
  have H := Lib.hid h
  clear h hsz
  obtain ⟨i0, hi, hz0, hz1, hz2⟩ := info_parts infoF
  obtain ⟨w1, hmk, hown1, hg1⟩ := run_make_own (P := Tryz.prog) w w.heap.size 34 48 i0 _ 2 Tryz.underlying34 hi hz0 hz1 .i64 .i64 F.length (by rw [hz2]; omega) (by unfold maxLen; omega) (Nat.le_refl _)
  have hO1 : Only [] w w1 := ⟨hg1.os, hg1.tape, hg1.output, hg1.size, fun k hk _ => hg1.block k hk (by simp)⟩
  have Hown1 : Hid (OwnF w1 w.heap.size (.slice (some ⟨w.heap.size, 0, none⟩) 0 F.length) []) := Lib.hid hown1
  have HO1 := Lib.hid hO1
  clear hi hz0 hz1 hz2 hown1 hg1 hO1
  go_enter Tryz.func27, Tryz.ntmps27
  go_wp2_with fail
  have HO2 := Lib.hid ((Only.refl [] w1).alloc (.cells #[.map (some b)] 57))
  have hg2 := IsBlk.made w1 (.cells #[.map (some b)] 57)
  refine (names_any _ w1.heap.size _ 0 b F [(b, F)] ⟨hg2.lt, fun i x hx => ?hset⟩ rfl (by omega) (fun i x hi => by omega) rfl hF).mono ?_
  case hset =>
    match i, hx with
    | 0, hx => simp at hx; subst hx; exact ⟨hg2.cell 0, (H.out.more HO1.out).more HO2.out⟩
    | n + 1, hx => simp at hx
  rintro e w3 ⟨vN, rfl, hoN, hO3⟩
  have hsz1 : w.heap.size ≤ (w1.alloc (.cells #[.map (some b)] 57)).heap.size := Nat.le_trans HO1.out.size HO2.out.size
  have HoN : Hid (OwnS w3 w.heap.size vN (F.map (·.1))) := Lib.hid (ownsRow_base_a hoN hsz1)
  have HO3 := Lib.hid ((HO1.out.plus HO2.out).plus hO3)
  have Ho3 := Lib.hid ((Hown1.out.only HO2.out).only hO3)
  obtain ⟨aN, cN, rfl⟩ := hoN.len
  clear hoN hO3 hg2 hsz1 Hown1 HO1 HO2
  rw [List.length_map] at *
  go_wp2_with fail
  go_loopw [13, 3] (fun i s3 wr => ∃ j : Nat, j ≤ F.length ∧ i = .int .i64 j ∧ OwnF wr w.heap.size s3 (F.take j) ∧ OwnS wr w.heap.size (.slice aN F.length cN) (F.map (·.1)) ∧ Only [] w wr) (fun i _ _ => F.length - (intOf i).toNat)
  case atStart => exact ⟨0, by omega, rfl, Ho3.out, HoN.out, HO3.out⟩
  case round =>
    obtain ⟨j, hj, rfl, hown, hoN, hO⟩ := hrel
    have Hown := Lib.hid hown
    have HoNj := Lib.hid hoN
    have HO := Lib.hid hO
    clear hown hoN hO
    by_cases hlt : j < F.length
    · have hlti : (j : Int) < (F.length : Int) := by omega
      obtain ⟨gN, cN', e, hcell⟩ := HoNj.out.cell (j := j) (by simpa using hlt)
      rw [List.length_map] at e
      injection e with e1 e2 e3
      subst e1 e3
      rw [List.getElem_map] at hcell
      have hget := run_get _ b F F[j].1 false (H.out.more HO.out) (hN.out _ (List.getElem_mem hlt))
      rw [get_mem hR.out (List.getElem_mem hlt)] at hget
      have htk : Hid (F.take (j + 1) = F.take j ++ [F[j]]) := Lib.hid (by rw [List.take_add_one, List.getElem?_eq_getElem hlt]; rfl)
      have hszj := HO.out.size
      have htl : (F.take j).length ≤ 1000000 := by rw [List.length_take]; omega
      generalize F[j] = fj at *
      simp only [Option.getD_some, Bool.false_eq_true, if_false] at hget
      unfold fileV at hget
      have hq := IsBlk.made wr (.cells #[encStr fj.1, encStr fj.2] 48)
      have hOa := Lib.hid ((Only.refl [] wr).alloc (.cells #[encStr fj.1, encStr fj.2] 48))
      have Hq0 := Lib.hid (hq.cell 0)
      have Hq1 := Lib.hid (hq.cell 1)
      clear hq
      go_wp2_with (at_builtin; refine wpList_append_f rfl _ _ rfl w.heap.size _ _ rfl (Hown.out.only hOa.out) wr.heap.size 1 fj rfl Hq0.out Hq1.out htl (Nat.le_trans hszj hOa.out.size) ?_; intro v' w4 h4 hg4)
      go_roundw
      case rel =>
        have hbl := (Hown.out.only hOa.out)
        refine ⟨j + 1, by omega, by go_num, by rw [htk.out]; exact h4, ?_, ?_⟩
        · exact World.ownsRow.kept (HoNj.out.only hOa.out) hg4 (own_apart (HoNj.out.only hOa.out) hbl (by decide))
        · rcases hb0 : Value.ownBlock _ with _ | g0
          · rw [hb0] at hg4
            exact HO.out.plus (hOa.out.plus ⟨hg4.os, hg4.tape, hg4.output, hg4.size, fun k hk _ => hg4.block k hk (by simp)⟩)
          · rw [hb0] at hg4
            exact only_row (HO.out.plus hOa.out) hg4 (World.ownsRow.lt hbl g0 hb0).1 (Nat.le_refl _)
      case measure => simp [intOf]; omega
    · have hge : ¬ (j : Int) < (F.length : Int) := by omega
      go_wp2
      go_ret
      have hjF : j = F.length := by omega
      have := Hown.out
      rw [hjF, List.take_length] at this
      exact ⟨_, rfl, this, HO.out⟩

end Go.Proofs.YtfampoblcielpaaGreat
