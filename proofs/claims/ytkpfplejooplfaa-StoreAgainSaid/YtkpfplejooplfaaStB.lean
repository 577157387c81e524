/-
  Sets of files, as maps by names: what a look-up, a store, a delete and the length say of them.
-/
import Derived.Test.YtkpfplejooplfaaWalK
import Derived.Sort.KeysCollected
import Derived.Maps.Own
import Derived.Maps.OwnSet
namespace Go.Proofs.Ytkpfplejooplfaa
set_option maxRecDepth 100000
set_option linter.unusedVariables false
open Go.RowKit Go.Sort

/-- A file: its name, its text. -/
abbrev FileM := List UInt8 × List UInt8

def letB (c : UInt8) : Bool := decide (97 ≤ c.toNat) && decide (c.toNat ≤ 122)
def digB (c : UInt8) : Bool := decide (48 ≤ c.toNat) && decide (c.toNat ≤ 57)
def wordsM : List (List UInt8) := [[118, 97, 114], [108, 111, 99, 107], [102, 117, 110, 99], [117, 115, 101], [115, 101, 116], [117, 110, 108, 111, 99, 107], [99, 97, 108, 108], [115, 112, 97, 119, 110], [105, 102], [101, 108, 115, 101], [108, 111, 111, 112]]
def wordM (s : List UInt8) : Bool := wordsM.contains s
def nameM (s : List UInt8) : Bool := decide (1 ≤ s.length) && decide (s.length ≤ 12) && letB (s.head?.getD 0) && !wordM s && s.all (fun c => letB c || digB c)

theorem letter_any (w : World) (c : UInt8) : Calls Try.prog 63 #[.int .u8 c.toNat] w fun e w' => e = .returned (.bool (letB c)) ∧ w = w' := by
  go_enter Try.func63, Try.ntmps63
  have h := c.toNat_lt
  by_cases h1 : (97 : Int) ≤ (c.toNat : Int)
  · go_wp2
    go_ret
    refine ⟨?_, rfl⟩
    have : 97 ≤ c.toNat := by omega
    by_cases h2 : c.toNat ≤ 122 <;> simp [letB, this, h2] <;> omega
  · go_wp2
    go_ret
    refine ⟨?_, rfl⟩
    have : ¬ 97 ≤ c.toNat := by omega
    simp [letB, this]

theorem digit_any (w : World) (c : UInt8) : Calls Try.prog 65 #[.int .u8 c.toNat] w fun e w' => e = .returned (.bool (digB c)) ∧ w = w' := by
  go_enter Try.func65, Try.ntmps65
  have h := c.toNat_lt
  by_cases h1 : (48 : Int) ≤ (c.toNat : Int)
  · go_wp2
    go_ret
    refine ⟨?_, rfl⟩
    have : 48 ≤ c.toNat := by omega
    by_cases h2 : c.toNat ≤ 57 <;> simp [digB, this, h2] <;> omega
  · go_wp2
    go_ret
    refine ⟨?_, rfl⟩
    have : ¬ 48 ≤ c.toNat := by omega
    simp [digB, this]

theorem word_any (w : World) (s : List UInt8) : Calls Try.prog 64 #[encStr s] w fun e w' => e = .returned (.bool (wordM s)) ∧ w = w' := by
  unfold encStr
  go_enter Try.func64, Try.ntmps64
  go_wp2
  all_goals
    go_ret
    refine ⟨?_, rfl⟩
    simp_all [wordM, wordsM]

theorem name_any (w : World) (s : List UInt8) (hs : s.length ≤ maxLen) : Calls Try.prog 41 #[encStr s] w fun e w' => e = .returned (.bool (nameM s)) ∧ w = w' := by
  unfold maxLen at hs
  unfold encStr
  go_enter Try.func41, Try.ntmps41
  by_cases h1 : (s.length : Int) < 1
  · have h0 : s.length = 0 := by omega
    go_wp2
    go_ret
    exact ⟨by simp [nameM, h0], rfl⟩
  by_cases h2 : (12 : Int) < (s.length : Int)
  · go_wp2
    go_ret
    exact ⟨by have : ¬ s.length ≤ 12 := by omega
              simp [nameM, this], rfl⟩
  have hpos : 0 < s.length := by omega
  have hhd : (⟨s.toArray⟩ : ByteArray)[0]'(by simpa [ByteArray.size] using hpos) = s.head?.getD 0 := by
    cases s with
    | nil => simp at hpos
    | cons a r => rfl
  go_wp2_with fail
  refine (letter_any _ _).mono ?_
  rintro e w' ⟨rfl, rfl⟩
  clear hhd
  cases hl : letB (s.head?.getD 0) with
  | false =>
    go_wp2
    go_ret
    exact ⟨by simp [nameM, hl], rfl⟩
  | true =>
    go_wp2_with fail
    refine (word_any _ s).mono ?_
    rintro e w' ⟨rfl, rfl⟩
    cases hw : wordM s with
    | true =>
      go_wp2
      go_ret
      exact ⟨by simp [nameM, hw], rfl⟩
    | false =>
      have Hl := Lib.hid hl
      have Hw := Lib.hid hw
      clear hl hw
      go_wp2_with fail
      go_loop [24] (fun i => ∃ k : Nat, k ≤ s.length ∧ i = .int .i64 k ∧ Hid ((s.take k).all (fun c => letB c || digB c) = true)) (fun i => s.length - (intOf i).toNat)
      case atStart => exact ⟨0, Nat.zero_le _, rfl, Lib.hid rfl⟩
      case round =>
        obtain ⟨k, hk, rfl, hall⟩ := hrel
        by_cases hlt : k < s.length
        · have hlti : (k : Int) < (s.length : Int) := by omega
          have hget : (⟨s.toArray⟩ : ByteArray)[k]'(by simpa [ByteArray.size] using hlt) = s[k] := rfl
          have Hst : Hid (s.take (k + 1) = s.take k ++ [s[k]]) := Lib.hid (by rw [List.take_add_one, List.getElem?_eq_getElem hlt]; rfl)
          have Hall : Hid (∀ b : Bool, (letB s[k] || digB s[k]) = b → (s.take (k + 1)).all (fun c => letB c || digB c) = b) := Lib.hid (fun b hb => by
            rw [Hst.out, List.all_append, hall.out]; simp [hb])
          have Hbad : Hid ((letB s[k] || digB s[k]) = false → nameM s = false) := Lib.hid (fun hb => by
            have : s.all (fun c => letB c || digB c) = false := by
              rw [List.all_eq_false]; exact ⟨s[k], List.getElem_mem hlt, by simp [hb]⟩
            simp [nameM, this])
          go_wp2_with fail
          refine (letter_any _ _).mono ?_
          rintro e w' ⟨rfl, rfl⟩
          cases hlk : letB s[k] with
          | true =>
            have Hlk := Lib.hid hlk
            clear hlk
            go_wp2
            go_round
            case rel => exact ⟨k + 1, by omega, by go_num, Lib.hid (Hall.out _ (by rw [Hlk.out]; rfl))⟩
            case measure => simp [intOf]; omega
          | false =>
            have Hlk := Lib.hid hlk
            clear hlk
            go_wp2_with fail
            refine (digit_any _ _).mono ?_
            rintro e w' ⟨rfl, rfl⟩
            cases hdk : digB s[k] with
            | true =>
              have Hdk := Lib.hid hdk
              clear hdk
              go_wp2
              go_round
              case rel => exact ⟨k + 1, by omega, by go_num, Lib.hid (Hall.out _ (by rw [Hlk.out, Hdk.out]; rfl))⟩
              case measure => simp [intOf]; omega
            | false =>
              have Hdk := Lib.hid hdk
              clear hdk
              go_wp2
              go_ret
              have hb := Hbad.out (by rw [Hlk.out, Hdk.out]; rfl)
              exact ⟨by rw [hb]; rfl, rfl⟩
        · have hge : ¬ (k : Int) < (s.length : Int) := by omega
          go_wp2
          go_ret
          have hk' : k = s.length := by omega
          refine ⟨?_, rfl⟩
          have := hall.out
          rw [hk', List.take_length] at this
          have q1 := Hl.out
          have q2 := Hw.out
          simp only [nameM, q1, q2, this]
          simp; omega

end Go.Proofs.Ytkpfplejooplfaa
namespace Go.Proofs.Ytkpfplejooplfaa
set_option maxRecDepth 100000
set_option linter.unusedVariables false
open Go.RowKit Go.Sort Go.Maps

def fileV (f : FileM) : Value := .agg #[encStr f.1, encStr f.2]
def fileD (f : FileM) : DataW Unit := .agg [.lit (.string f.1), .lit (.string f.2)]
def RF (v : Value) : Option (DataW Unit × List MemPlace) :=
  match v with
  | .agg xs => match xs.toList with
    | [.string a, .string b] => some (.agg [.lit (.string a.data.toList), .lit (.string b.data.toList)], [])
    | _ => none
  | _ => none
theorem RF_file (f : FileM) : RF (fileV f) = some (fileD f, []) := rfl
theorem RF_inv {v : Value} {d : DataW Unit} {ps : List MemPlace} (h : RF v = some (d, ps)) : ∃ f, v = fileV f ∧ d = fileD f ∧ ps = [] := by
  unfold RF at h
  split at h
  · rename_i xs
    split at h
    · rename_i a b hx
      injection h with h
      injection h with h1 h2
      refine ⟨(a.data.toList, b.data.toList), ?_, h1.symm, h2.symm⟩
      unfold fileV encStr
      simp only
      have : xs = #[.string a, .string b] := by rw [← Array.toArray_toList (xs := xs), hx]
      rw [this]
    · cases h
  · cases h
theorem fileD_inj {f g : FileM} (h : fileD f = fileD g) : f = g := by
  unfold fileD at h
  injection h with h
  injection h with h1 h2
  injection h1 with h1
  injection h1 with h1
  injection h2 with h2 _
  injection h2 with h2
  injection h2 with h2
  exact Prod.ext h1 h2

def entD (f : FileM) : Lit × DataW Unit := (.string f.1, fileD f)
def setD (F : List FileM) : DataW Unit := .map (F.map entD)
def SetAt (w : World) (b : Nat) (F : List FileM) : Prop := w.ownsMap Try.prog 9 RF b F.length (setD F)
/-- Files in rising order of their names. -/
def Rise (F : List FileM) : Prop := F.Pairwise (fun f g => bytesBefore f.1 g.1 = true)
def getS (n : List UInt8) (F : List FileM) : Option FileM := F.find? (fun f => f.1 == n)
def insS (f : FileM) : List FileM → List FileM
  | [] => [f]
  | g :: r => if bytesBefore f.1 g.1 then f :: g :: r else g :: insS f r
def delS (n : List UInt8) (F : List FileM) : List FileM := F.filter (fun g => !(g.1 == n))
def putS (f : FileM) (F : List FileM) : List FileM := insS f (delS f.1 F)

theorem ins_ent (f : FileM) : ∀ F : List FileM, DataW.insert (entD f) (F.map entD) = (insS f F).map entD
  | [] => rfl
  | g :: r => by
    simp only [List.map_cons, DataW.insert, insS]
    have : (entD f).1.before (entD g).1 = bytesBefore f.1 g.1 := rfl
    rw [this]
    split
    · rfl
    · rw [ins_ent f r]; rfl
theorem del_ent (n : List UInt8) : ∀ F : List FileM, (F.map entD).filter (fun p => !p.1.sameKey (.string n)) = (delS n F).map entD
  | [] => rfl
  | g :: r => by
    have ih := del_ent n r
    unfold delS at ih ⊢
    have : (entD g).1.sameKey (.string n) = (g.1 == n) := rfl
    simp only [List.map_cons, List.filter_cons, this, ih]
    split <;> simp
theorem put_setD (f : FileM) (F : List FileM) : (setD F).put (.string f.1) (fileD f) = setD (putS f F) := by
  show DataW.map (DataW.insert (entD f) _) = _
  rw [del_ent, ins_ent]; rfl
theorem del_setD (n : List UInt8) (F : List FileM) : (setD F).del (.string n) = setD (delS n F) := by
  show DataW.map _ = _
  rw [del_ent]; rfl
theorem find_ent_map (n : List UInt8) : ∀ F : List FileM, (F.map entD).find? (fun p => p.1.sameKey (.string n)) = (getS n F).map entD
  | [] => rfl
  | g :: r => by
    have ih := find_ent_map n r
    unfold getS at ih ⊢
    have : (entD g).1.sameKey (.string n) = (g.1 == n) := rfl
    simp only [List.map_cons, List.find?_cons, this]
    split
    · rfl
    · exact ih
theorem at_setD (n : List UInt8) (F : List FileM) (z : DataW Unit) : (setD F).atKey (.string n) z = match getS n F with | some f => fileD f | none => z := by
  unfold setD DataW.atKey
  simp only
  rw [find_ent_map]
  cases getS n F <;> rfl
theorem get_name {n : List UInt8} {F : List FileM} {f : FileM} (h : getS n F = some f) : f.1 = n := by
  have := List.find?_some h
  simpa using this

theorem SetAt.lt {w : World} {b : Nat} {F : List FileM} (h : SetAt w b F) : b < w.heap.size := World.ownsMap.lt h
theorem SetAt.keep {w w' : World} {b : Nat} {F : List FileM} {S : List Nat} (h : SetAt w b F) (hO : Only S w w') (hb : b ∉ S) : SetAt w' b F := by
  have hlt := h.lt
  obtain ⟨es, clock, h1, h2⟩ := h
  exact ⟨es, clock, (hO.block b hlt hb).trans h1, h2⟩
theorem SetAt.more {w w' : World} {b : Nat} {F : List FileM} (h : SetAt w b F) (hO : Only [] w w') : SetAt w' b F := h.keep hO (by simp)
theorem SetAt.tight {w : World} {b n : Nat} {F : List FileM} (h : w.ownsMap Try.prog 9 RF b n (setD F)) : SetAt w b F := by
  obtain ⟨es, clock, h1, h2, h3, h4⟩ := h
  refine ⟨es, clock, h1, h2, ?_, h4⟩
  injection h4 with h4
  have := congrArg List.length h4
  rw [length_sorted] at this
  simp at this
  omega
theorem SetAt.rise {w : World} {b : Nat} {F : List FileM} (h : SetAt w b F) : Rise F := by
  obtain ⟨es, clock, h1, h2, h3, h4⟩ := h
  injection h4 with h4
  have := sorted_sorted (string_keyed Try.underlying9).one _ (fit_keys h2) (fit_apart (string_keyed Try.underlying9) h2)
  rw [← h4, List.pairwise_map] at this
  exact this
theorem SetAt.names {w : World} {b : Nat} {F : List FileM} (h : SetAt w b F) : ∀ f ∈ F, f.1.length ≤ maxLen := by
  intro f hf
  obtain ⟨es, hD, hk⟩ := World.ownsMap.keysOf h
  injection hD with hD
  obtain ⟨v, hv⟩ := hk (entD f) (by rw [← hD]; exact List.mem_map.2 ⟨f, hf, rfl⟩)
  obtain ⟨x, -, hx, hl⟩ := Maps.keyOf_str Try.underlying9 hv
  have : f.1 = x := by injection hx
  rw [this]; exact hl
theorem set_made (w : World) : SetAt (w.alloc (.map #[] 0)) w.heap.size [] := World.ownsMap_made w _ _ _
theorem key_str {n : List UInt8} (h : n.length ≤ maxLen) : keyOf Try.prog 9 (encStr n) = some (.string n) := by
  simp [keyOf, Try.underlying9, mapKey, encStr, ByteArray.size, h]

/-- A look-up. -/
theorem run_get (w : World) (b : Nat) (F : List FileM) (n : List UInt8) (c : Bool) (h : SetAt w b F) (hn : n.length ≤ maxLen) :
    (Instr.lookup 56 (.map (some b)) (encStr n) c).run Try.prog w = .ok (if c then .tuple #[fileV ((getS n F).getD ([], [])), .bool (getS n F).isSome] else fileV ((getS n F).getD ([], []))) w := by
  obtain ⟨es, clock, hb, hF, hs, hD⟩ := h
  rcases Maps.fit_look (z := fileV ([], [])) c (string_keyed Try.underlying9) Try.underlying56 (Try.zeroValue33 w) hb hF (key_str hn) with ⟨hrun, _, hat⟩ | ⟨e0, y, _, _, hrun, hRv, hat, _⟩
  · have h1 := hat .nil
    rw [← hD, at_setD] at h1
    cases hg : getS n F with
    | none => rw [hrun]; rfl
    | some f => rw [hg] at h1; cases h1
  · have h1 := hat .nil
    rw [← hD, at_setD] at h1
    obtain ⟨f, hf, hfd, _⟩ := RF_inv (v := e0.val) (d := y.1) (ps := y.2) hRv
    cases hg : getS n F with
    | none => rw [hg] at h1; rw [hfd] at h1; cases h1
    | some f' =>
      rw [hg] at h1
      simp only at h1
      rw [hfd] at h1
      have := fileD_inj h1
      subst this
      rw [hrun, hf]; rfl

end Go.Proofs.Ytkpfplejooplfaa
