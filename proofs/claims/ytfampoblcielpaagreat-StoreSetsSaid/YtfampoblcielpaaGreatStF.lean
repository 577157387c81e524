/-
  Numbers, texts, files laid behind bytes (layNumber, layText, layFile).
-/
import Derived.Test.YtfampoblcielpaaGreatStD
import Derived.Lib.AppendStr
namespace Go.Proofs.YtfampoblcielpaaGreat
set_option maxRecDepth 100000
set_option linter.unusedVariables false
open Go.RowKit Go.Sort Go.Maps

/-- Files in a row. -/
def FilesAt (w : World) (a : Option Addr) (len : Nat) (l : List FileM) : Prop :=
  l.length = len ∧ (0 < len → ∃ b o, a = some ⟨b, o, none⟩ ∧ b < w.heap.size ∧ ∀ (i : Nat) (f : FileM), l[i]? = some f → w.cell? ⟨b, o + i * 2, none⟩ = some (encStr f.1) ∧ w.cell? ⟨b, o + i * 2 + 1, none⟩ = some (encStr f.2))
theorem FilesAt.keep {w w' : World} {a : Option Addr} {len : Nat} {l : List FileM} {S : List Nat} (h : FilesAt w a len l) (hO : Only S w w') (hS : 0 < len → ∀ b o, a = some ⟨b, o, none⟩ → b ∉ S) : FilesAt w' a len l :=
  ⟨h.1, fun hp => by
    obtain ⟨b, o, rfl, hb, hc⟩ := h.2 hp
    have hn := hS hp b o rfl
    exact ⟨b, o, rfl, Nat.lt_of_lt_of_le hb hO.size, fun i f hf => ⟨(hO.cell (p := ⟨b, _, none⟩) hb hn).trans (hc i f hf).1, (hO.cell (p := ⟨b, _, none⟩) hb hn).trans (hc i f hf).2⟩⟩⟩
theorem FilesAt.more {w w' : World} {a : Option Addr} {len : Nat} {l : List FileM} (h : FilesAt w a len l) (hO : Only [] w w') : FilesAt w' a len l := h.keep hO (by simp)

/-- Files that are sound, one by one. -/
def goodM (l : List FileM) : Prop := (∀ f ∈ l, nameM f.1 = true ∧ f.2.length ≤ 2000) ∧ (l.map (·.1)).Nodup
instance (l : List FileM) : Decidable (goodM l) := by unfold goodM; infer_instance
def soundM (l : List FileM) : Bool := decide (l.length ≤ 8) && decide (goodM l)
/-- The set of files, by names. -/
def buildF (l : List FileM) : List FileM := l.foldl (fun F f => putS f F) []
theorem build_snoc (l : List FileM) (f : FileM) : buildF (l ++ [f]) = putS f (buildF l) := by simp [buildF, List.foldl_append]
theorem ins_perm (f : FileM) : ∀ F : List FileM, (insS f F).Perm (f :: F)
  | [] => List.Perm.refl _
  | g :: r => by
    unfold insS
    split
    · exact List.Perm.refl _
    · exact ((ins_perm f r).cons g).trans (List.Perm.swap f g r)
theorem del_none_S {n : List UInt8} {F : List FileM} (h : n ∉ F.map (·.1)) : delS n F = F := by
  unfold delS
  rw [List.filter_eq_self]
  intro g hg
  have : g.1 ≠ n := fun e => h (List.mem_map.2 ⟨g, hg, e⟩)
  simp [this]
theorem put_perm {f : FileM} {F : List FileM} (h : f.1 ∉ F.map (·.1)) : (putS f F).Perm (f :: F) := by
  unfold putS; rw [del_none_S h]; exact ins_perm f F
theorem snoc_cases {P : List FileM → Prop} (h0 : P []) (h1 : ∀ l f, P l → P (l ++ [f])) : ∀ l, P l := by
  intro l
  have : ∀ r : List FileM, P r.reverse := fun r => by
    induction r with
    | nil => exact h0
    | cons f r ih => rw [List.reverse_cons]; exact h1 _ f ih
  have := this l.reverse
  rwa [List.reverse_reverse] at this
theorem build_perm : ∀ l : List FileM, (l.map (·.1)).Nodup → (buildF l).Perm l := by
  refine snoc_cases (fun _ => List.Perm.refl _) (fun l f ih h => ?_)
  rw [build_snoc]
  rw [List.map_append, List.nodup_append] at h
  have ih' := ih h.1
  have hn : f.1 ∉ (buildF l).map (·.1) := fun hm => by
    have := (ih'.map (·.1)).mem_iff.1 hm
    exact h.2.2 _ this f.1 (by simp) rfl
  exact (put_perm hn).trans ((ih'.cons f).trans (List.perm_append_comm (l₁ := [f])))
theorem get_build {l : List FileM} (h : (l.map (·.1)).Nodup) (n : List UInt8) : (getS n (buildF l)).isSome = decide (n ∈ l.map (·.1)) := by
  have hp := build_perm l h
  unfold getS
  rw [List.isSome_find?]
  have : (buildF l).any (fun f => f.1 == n) = decide (n ∈ (buildF l).map (·.1)) := by
    rw [Bool.eq_iff_iff]; simp
  rw [this]
  exact decide_eq_decide.2 (hp.map (·.1)).mem_iff

theorem strclone_any (w : World) (s : List UInt8) (h : s.length ≤ 100000) : Calls Tryz.prog 41 #[encStr s] w fun e w' => e = .returned (encStr s) ∧ Only [] w w' := by
  go_enter Tryz.func41, Tryz.ntmps41
  go_wp2_with fail
  refine (Tryz.stringslite_Clone ⟨s.toArray⟩ w (by simp [ByteArray.size]; omega)).mono ?_
  rintro e w' ⟨rfl, hb⟩
  have HO := Lib.hid (onlyBelow hb)
  clear hb
  go_wp2
  go_ret
  exact ⟨rfl, HO.out⟩

def SetOfTo (w : World) (l : List FileM) (e : Ending) (w' : World) : Prop :=
  (soundM l = true → ∃ b, e = .returned (.tuple #[.map (some b), .bool true]) ∧ SetAt w' b (buildF l) ∧ w.heap.size ≤ b) ∧ (soundM l = false → e = .returned (.tuple #[.map none, .bool false])) ∧ Only [] w w'

set_option maxHeartbeats 8000000 in
theorem setOf_any (w : World) (a : Option Addr) (len cap : Nat) (l : List FileM) (h : FilesAt w a len l) (hm : ∀ f ∈ l, f.1.length ≤ maxLen ∧ f.2.length ≤ maxLen) (hlen : len ≤ maxLen) :
    Calls Tryz.prog 23 #[.slice a len cap] w (SetOfTo w l) := by
  unfold maxLen at hlen
  have H := Lib.hid h
  have Hm := Lib.hid hm
  obtain rfl := h.1
  clear h hm
  go_enter Tryz.func23, Tryz.ntmps23
  by_cases h8 : (8 : Int) < (l.length : Int)
  · go_wp2
    go_ret2
    refine ⟨fun hs => ?_, fun _ => rfl, Only.refl _ _⟩
    have : ¬ l.length ≤ 8 := by omega
    simp [soundM, this] at hs
  have hmk : ∀ W : World, (Instr.makeMap 57 none).run Tryz.prog W = .ok (.map (some W.heap.size)) (W.alloc (.map #[] 0)) := fun W => run_makeMap _ W
  have HO1 := Lib.hid ((Only.refl [] w).alloc (.map #[] 0))
  have HS1 := Lib.hid (set_made w)
  have h8' : l.length ≤ 8 := by omega
  go_wp2_with fail
  generalize hw1 : w.alloc (.map #[] 0) = w1 at *
  generalize hb : w.heap.size = b at *
  have Hb := Lib.hid hb
  clear hw1 hb
  go_loopw [16] (fun i wr => ∃ j : Nat, j ≤ l.length ∧ i = .int .i64 j ∧ SetAt wr b (buildF (l.take j)) ∧ goodM (l.take j) ∧ Only [] w wr) (fun i _ => l.length - (intOf i).toNat)
  case atStart => exact ⟨0, by omega, rfl, HS1.out, ⟨by simp, by simp⟩, HO1.out⟩
  case round =>
    obtain ⟨j, hj, rfl, hS, hgd, hO⟩ := hrel
    have HS := Lib.hid hS
    have Hgd := Lib.hid hgd
    have HO := Lib.hid hO
    clear hS hgd hO
    by_cases hlt : j < l.length
    · have hlti : (j : Int) < (l.length : Int) := by omega
      obtain ⟨q, o, rfl, hq, hc⟩ := (H.out.more HO.out).2 (by omega)
      obtain ⟨hc0, hc1⟩ := hc j _ (List.getElem?_eq_getElem hlt)
      have Htk : Hid (l.take (j + 1) = l.take j ++ [l[j]]) := Lib.hid (by rw [List.take_add_one, List.getElem?_eq_getElem hlt]; rfl)
      have hbig := Hm.out l[j] (List.getElem_mem hlt)
      have Hno : Hid (¬ (nameM l[j].1 = true ∧ l[j].2.length ≤ 2000) → soundM l = false) := Lib.hid (fun hn => by
        have : ¬ goodM l := fun hg => hn (hg.1 _ (List.getElem_mem hlt))
        simp [soundM, this])
      have Htw : Hid (l[j].1 ∈ (l.take j).map (·.1) → soundM l = false) := Lib.hid (fun hn => by
        have : ¬ goodM l := fun hg => by
          have h2 := hg.2
          have h3 : l = (l.take j ++ [l[j]]) ++ l.drop (j + 1) := by rw [← Htk.out, List.take_append_drop]
          rw [h3, List.map_append, List.nodup_append, List.map_append, List.nodup_append] at h2
          exact h2.1.2.2 _ hn l[j].1 (by simp) rfl
        simp [soundM, this])
      clear hc
      generalize l[j] = f at *
      obtain ⟨fn, ft⟩ := f
      simp only at hc0 hc1 hbig Hno Htw
      obtain ⟨hb1, hb2⟩ := hbig
      have hmade := IsBlk.made wr (.cells #[.string ⟨fn.toArray⟩, .string ⟨ft.toArray⟩] 48)
      have hOa := (Only.refl [] wr).alloc (.cells #[.string ⟨fn.toArray⟩, .string ⟨ft.toArray⟩] 48)
      go_wp2_with fail
      refine (name_any _ fn hb1).mono ?_
      rintro e w' ⟨rfl, rfl⟩
      generalize wr.alloc (.cells #[.string ⟨fn.toArray⟩, .string ⟨ft.toArray⟩] 48) = W1 at *
      generalize wr.heap.size = p at *
      have g0 : W1.cell? ⟨p, 0, none⟩ = some (.string ⟨fn.toArray⟩) := hmade.cell 0
      have g1 : W1.cell? ⟨p, 1, none⟩ = some (.string ⟨ft.toArray⟩) := hmade.cell 1
      have hpl := hmade.lt
      have HO1' := Lib.hid (HO.out.plus hOa)
      have HSa := Lib.hid (HS.out.more hOa)
      clear hmade hOa hc0 hc1 HS HO hq
      cases hnm : nameM fn with
      | false =>
        go_wp2
        go_ret2
        exact ⟨fun hs => (by rw [Hno.out (by simp [hnm])] at hs; cases hs), fun _ => rfl, HO1'.out⟩
      | true =>
        have Hnm := Lib.hid hnm
        clear hnm
        by_cases h2000 : (2000 : Int) < (ft.length : Int)
        · go_wp2
          go_ret2
          exact ⟨fun hs => (by rw [Hno.out (by simp; omega)] at hs; cases hs), fun _ => rfl, HO1'.out⟩
        · have hget := run_get W1 b _ fn true HSa.out hb1
          have Hin := Lib.hid (get_build Hgd.out.2 fn)
          generalize getS fn (buildF (l.take j)) = gg at *
          rw [if_pos rfl] at hget
          generalize gg.getD ([], []) = gv at hget
          obtain ⟨vn, vt⟩ := gv
          unfold fileV encStr at hget
          simp only at hget
          have hmade := IsBlk.made W1 (.cells #[.string ⟨vn.toArray⟩, .string ⟨vt.toArray⟩] 48)
          have hOa := (Only.refl [] W1).alloc (.cells #[.string ⟨vn.toArray⟩, .string ⟨vt.toArray⟩] 48)
          cases hgg : gg.isSome with
          | true =>
            rw [hgg] at hget
            go_wp2
            go_ret2
            exact ⟨fun hs => (by rw [Htw.out (by have := Hin.out; rw [hgg] at this; simpa using this.symm)] at hs; cases hs), fun _ => rfl, HO1'.out.plus hOa⟩
          | false =>
            rw [hgg] at hget
            have Hnew : Hid (fn ∉ (l.take j).map (·.1)) := Lib.hid (by have := Hin.out; rw [hgg] at this; simpa using this.symm)
            have h2 : ft.length ≤ 2000 := by omega
            have hn12 : fn.length ≤ 12 := by
              have := Hnm.out
              simp only [nameM, Bool.and_eq_true, decide_eq_true_eq] at this
              omega
            have hp0 := (hOa.cell (p := ⟨p, 0, none⟩) hpl (by simp)).trans g0
            have hp1 := (hOa.cell (p := ⟨p, 1, none⟩) hpl (by simp)).trans g1
            have HSb := Lib.hid (HSa.out.more hOa)
            have HOb := Lib.hid (HO1'.out.plus hOa)
            have hplb : p < (W1.alloc (.cells #[.string ⟨vn.toArray⟩, .string ⟨vt.toArray⟩] 48)).heap.size := Nat.lt_of_lt_of_le hpl hOa.size
            clear hOa hmade HSa HO1' hgg Hin
            go_wp2_with fail
            clear g0 g1
            generalize W1.alloc (.cells #[.string ⟨vn.toArray⟩, .string ⟨vt.toArray⟩] 48) = W2 at *
            clear hget
            refine (strclone_any _ fn (by omega)).mono ?_
            rintro e W3 ⟨rfl, hO3⟩
            have hp0' := (hO3.cell (p := ⟨p, 0, none⟩) hplb (by simp)).trans hp0
            have hp1' := (hO3.cell (p := ⟨p, 1, none⟩) hplb (by simp)).trans hp1
            have HS3 := Lib.hid (HSb.out.more hO3)
            have HO3 := Lib.hid (HOb.out.plus hO3)
            clear hp0 hp1 hO3 HSb HOb
            go_wp2_with fail
            refine (strclone_any _ ft (by omega)).mono ?_
            rintro e W4 ⟨rfl, hO4⟩
            have HS4 := Lib.hid (HS3.out.more hO4)
            have HO4 := Lib.hid (HO3.out.plus hO4)
            clear hp0' hp1' hO4 HS3 HO3
            have hsm : (buildF (l.take j)).length < maxLen := by
              rw [(build_perm _ Hgd.out.2).length_eq, List.length_take]; unfold maxLen; omega
            go_wp2_with (refine wpList_mapUpdate_own _ rfl _ _ _ _ rfl 9 48 (string_keyed Tryz.underlying9) Tryz.underlying57 RF b _ _ rfl HS4.out hsm (encStr fn) (fileV (fn, ft)) (.string fn) rfl rfl (key_str hb1) (fileD (fn, ft)) [] (RF_file _) ?_; intro W5 h5 hg5)
            go_roundw
            case rel =>
              refine ⟨j + 1, by omega, by go_num, ?_, ?_, only_row HO4.out hg5 (Nat.le_refl b) (Nat.le_of_eq Hb.out)⟩
              · rw [Htk.out, build_snoc]
                have := put_setD (fn, ft) (buildF (l.take j))
                simp only at this
                rw [this] at h5
                exact SetAt.tight h5
              · rw [Htk.out]
                refine ⟨fun x hx => ?_, ?_⟩
                · rcases List.mem_append.1 hx with h1 | h1
                  · exact Hgd.out.1 x h1
                  · simp at h1; subst h1; exact ⟨Hnm.out, h2⟩
                · rw [List.map_append, List.nodup_append]
                  refine ⟨Hgd.out.2, by simp, fun x hx y hy e => ?_⟩
                  simp at hy
                  subst hy e
                  exact Hnew.out hx
            case measure => simp [intOf]; omega
    · have hge : ¬ (j : Int) < (l.length : Int) := by omega
      go_wp2
      go_ret2
      have hjl : j = l.length := by omega
      have h1 := HS.out
      have h2 := Hgd.out
      rw [hjl, List.take_length] at h1 h2
      refine ⟨fun _ => ⟨b, rfl, h1, by have := Hb.out; omega⟩, fun hs => ?_, HO.out⟩
      simp [soundM, h8', h2] at hs

end Go.Proofs.YtfampoblcielpaaGreat
namespace Go.Proofs.YtfampoblcielpaaGreat
set_option maxRecDepth 100000
set_option linter.unusedVariables false
open Go.RowKit Go.Sort Go.Maps

/-- Nothing old has turned but rows of bytes from base on. -/
structure OnlyB (base : Nat) (w w' : World) : Prop where
  os : w'.os = w.os
  tape : w'.tape = w.tape
  output : w'.output = w.output
  size : w.heap.size ≤ w'.heap.size
  low : ∀ k, k < w.heap.size → k < base → w'.heap[k]? = w.heap[k]?
  other : ∀ (k : Nat) (o : Obj), w.heap[k]? = some o → (∀ cur, o ≠ .cells cur 5 (0, 0)) → w'.heap[k]? = some o
theorem OnlyB.refl (base : Nat) (w : World) : OnlyB base w w := ⟨rfl, rfl, rfl, Nat.le_refl _, fun _ _ _ => rfl, fun _ _ h _ => h⟩
theorem OnlyB.trans {base : Nat} {a b c : World} (h : OnlyB base a b) (k : OnlyB base b c) : OnlyB base a c :=
  ⟨k.os.trans h.os, k.tape.trans h.tape, k.output.trans h.output, Nat.le_trans h.size k.size, fun i hi hb => (k.low i (Nat.lt_of_lt_of_le hi h.size) hb).trans (h.low i hi hb), fun i o ho hn => k.other i o (h.other i o ho hn) hn⟩
theorem OnlyB.of_only {base : Nat} {w w' : World} (h : Only [] w w') : OnlyB base w w' :=
  ⟨h.os, h.tape, h.output, h.size, fun k hk _ => h.block k hk (by simp), fun k o ho _ => (h.block k (Array.getElem?_eq_some_iff.1 ho).1 (by simp)).trans ho⟩
theorem OnlyB.of_grown {base : Nat} {w w' : World} {v : Value} {L : List UInt8} (h : OwnB w base v L) (hg : w.grownBy w' v.ownBlock) : OnlyB base w w' := by
  refine ⟨hg.os, hg.tape, hg.output, hg.size, fun k hk hb => hg.block k hk (fun e => by have := (h.lt k e.symm).1; omega), fun k o ho hn => (hg.block k (Array.getElem?_eq_some_iff.1 ho).1 (fun e => ?_)).trans ho⟩
  rcases h.2 with ⟨rfl, _⟩ | ⟨g, cap, cur, rfl, _, hgg, _⟩
  · simp [Value.ownBlock] at e
  · have : k = g := by simpa [Value.ownBlock] using e
    subst this
    rw [hgg] at ho
    injection ho with ho
    exact hn cur ho.symm
theorem OnlyB.only {w0 w w' : World} {base : Nat} (h : OnlyB base w w') (hO : Only [] w0 w) (hb : w0.heap.size ≤ base) : Only [] w0 w' :=
  ⟨h.os.trans hO.os, h.tape.trans hO.tape, h.output.trans hO.output, Nat.le_trans hO.size h.size, fun k hk hm => (h.low k (Nat.lt_of_lt_of_le hk hO.size) (by omega)).trans (hO.block k hk hm)⟩
theorem OnlyB.blk {base : Nat} {w w' : World} {k : Nat} {cs : Array Value} {t : TypeId} (h : OnlyB base w w') (hk : IsBlk w k (.cells cs t)) (ht : t ≠ 5) : IsBlk w' k (.cells cs t) :=
  h.other k _ hk (fun cur e => by injection e with _ e2; exact ht e2)
theorem OnlyB.set {base b : Nat} {w w' : World} {F : List FileM} (h : OnlyB base w w') (hs : SetAt w b F) : SetAt w' b F := by
  obtain ⟨es, clock, h1, h2⟩ := hs
  exact ⟨es, clock, h.other b _ h1 (fun cur e => by cases e), h2⟩
theorem OnlyB.row {base base' s n : Nat} {w w' : World} {e : TypeId} {v : Value} {xs : List Value} (h : OnlyB base w w') (ho : w.ownsRow base' e s v n xs) (ht : e ≠ 5) : w'.ownsRow base' e s v n xs := by
  refine ⟨ho.1, ?_⟩
  rcases ho.2 with hn | ⟨g, cap, cur, rfl, hb, hg, rest⟩
  · exact .inl hn
  · exact .inr ⟨g, cap, cur, rfl, hb, h.other g _ hg (fun cur' e0 => by injection e0 with _ e2; exact ht e2), rest⟩

theorem rowOnly {base s n : Nat} {w w' : World} {e : TypeId} {v : Value} {xs : List Value} (h : w.ownsRow base e s v n xs) (hO : Only [] w w') : w'.ownsRow base e s v n xs :=
  World.ownsRow.kept h (row := none) ⟨hO.os, hO.tape, hO.output, hO.size, fun k hk _ => hO.block k hk (by simp)⟩ (by rcases Value.ownBlock v with _ | g; exact .inl rfl; exact .inr (by simp))

theorem wpList_append_bo {w : World} {ops : Array Oper} {rest : List Oper} {o : Oper} {a : Act} {Q : Exit → Act → World → Prop} (hgd : o.guard = none) (s x : Operand)
    (ho : o.op = .call { callee := .builtin .append, args := #[s, x], argTypes := #[37, 37] })
    (base : Nat) (v : Value) (L : List UInt8) (hs : a.eval s = v) (hown : OwnB w base v L)
    (xa : Option Addr) (m c : Nat) (l : List UInt8) (hx : a.eval x = .slice xa m c) (hsrc : Src w xa m l) (hsm : L.length + m ≤ 100000000) (hbase : base ≤ w.heap.size)
    (h : ∀ v' w', OwnB w' base v' (L ++ l) → OnlyB base w w' → wpList Tryz.prog ops Q rest (a.put o.dst v') w') : wpList Tryz.prog ops Q (o :: rest) a w := by
  obtain ⟨i0, hi, hz0, hz1, hz2⟩ := info_parts info5
  have hlen := hsrc.1
  rcases xa with _ | ad
  · have hm : m = 0 := by
      rcases Nat.eq_zero_or_pos m with h0 | h0
      · exact h0
      · obtain ⟨b, o, e, _⟩ := hsrc.2 h0; cases e
    subst hm
    obtain rfl : l = [] := List.eq_nil_of_length_eq_zero hlen
    have hrun := run_append_none w base v L hown o.type c
    refine wpList_plain hgd fun K hK => ?_
    unfold Oper.wp execOp
    simp only [ho, resolve, invoke, builtin, Sem.run_bind, Sem.run_pure, Result.andThen_ok, List.map_toArray, List.map_cons, List.map_nil, hs, hx, hrun]
    exact hK _ _ (h v w (by simpa using hown) (OnlyB.refl _ _))
  · refine wpList_append_own w hgd s x _ ho base _ i0 (.int .u8 0) 1 1 Tryz.underlying37 hi hz0 hz1 hz2 rfl (by decide) v L.length (bv L) hs hown ad m c (bv l) hx (by rw [length_bv, hlen, Nat.mul_one])
      (fun j u hu => ?_) (bv_one l) (by unfold maxLen; omega) (by omega) hbase ?_
    · have hj : j < m := by have := (List.getElem?_eq_some_iff.1 hu).1; rw [length_bv] at this; omega
      obtain ⟨b, o', e, hb, hr⟩ := hsrc.2 (by omega)
      injection e with e; subst e
      rw [Addr.add_mid]; exact hr j u hu
    · intro v' w' h2 h3 h4
      refine h v' w' ?_ (OnlyB.of_grown hown h3)
      unfold OwnB
      rw [List.length_append, hlen, bv_append]
      exact h2

def LayTo (w : World) (base : Nat) (L : List UInt8) (e : Ending) (w' : World) : Prop := ∃ v', e = .returned v' ∧ OwnB w' base v' L ∧ OnlyB base w w'

set_option maxHeartbeats 2000000 in
theorem layNumber_any (w : World) (base : Nat) (v : Value) (n k : Nat) (L : List UInt8) (h : OwnB w base v L) (hb : base ≤ w.heap.size) (hL : L.length ≤ 1000000) (hn : n < 4611686018427387904) (hk : k ≤ 2) :
    Calls Tryz.prog 38 #[v, .int .i64 k, .int .i64 n] w (LayTo w base (L ++ leB k n)) := by
  have H := Lib.hid h
  clear h
  go_enter Tryz.func38, Tryz.ntmps38
  go_wp2_with fail
  go_loopw [0, 2, 8] (fun v s2 i wr => ∃ j : Nat, j ≤ k ∧ i = .int .i64 j ∧ s2 = .int .i64 ((n / 256 ^ j : Nat) : Int) ∧ OwnB wr base v (L ++ leB j n) ∧ OnlyB base w wr) (fun _ _ i _ => k - (intOf i).toNat)
  case atStart => exact ⟨0, Nat.zero_le _, rfl, by simp, by simpa [leB] using H.out, OnlyB.refl _ _⟩
  case round =>
    obtain ⟨j, hj, rfl, rfl, hown, hbel⟩ := hrel
    have hsz := hbel.size
    by_cases hlt : j < k
    · have hlti : (j : Int) < (k : Int) := by omega
      have hle : (L ++ leB (j + 1) n) = (L ++ leB j n) ++ [UInt8.ofNat (n / 256 ^ j)] := by rw [leB_succ, List.append_assoc]
      have Hle := Lib.hid hle
      have hlen : (L ++ leB j n).length ≤ 1000004 := by rw [List.length_append, length_leB]; omega
      have Hdiv : Hid (n / 256 ^ j / 256 = n / 256 ^ (j + 1)) := Lib.hid (by rw [Nat.div_div_eq_div_mul, Nat.pow_succ])
      have hm : n / 256 ^ j < 4611686018427387904 := Nat.lt_of_le_of_lt (Nat.div_le_self _ _) hn
      clear hle
      generalize n / 256 ^ j = m at *
      have hown1 := fun o => Lib.hid (hown.alloc o)
      go_wp2_with (at_builtin; refine wpList_append_bo rfl _ _ rfl base _ _ rfl (hown1 _).out (some ⟨wr.heap.size, 0, none⟩) 1 1 [UInt8.ofNat m] rfl (src_one _ _ _ (by simp) _) (by omega) (by simp; omega) ?_; intro v' w' h2 h3)
      go_roundw
      case rel =>
        have hbel2 := hbel.trans ((OnlyB.of_only ((Only.refl [] wr).alloc _)).trans h3)
        rw [← Hle.out] at h2
        refine ⟨j + 1, by omega, by go_num, ?_, h2, hbel2⟩
        rw [← Hdiv.out]
        first | rfl | (congr 1; omega) | skip
      case measure => simp [intOf]; omega
    · have hge : ¬ (j : Int) < (k : Int) := by omega
      obtain rfl : j = k := by omega
      go_wp2
      go_ret
      exact ⟨_, rfl, hown, hbel⟩

theorem strCells_bv (s : List UInt8) : Lib.strCells ⟨s.toArray⟩ = bv s := by simp [Lib.strCells, bv]
/-- A text appended to bytes of one's own. -/
theorem wpList_append_s {w : World} {ops : Array Oper} {rest : List Oper} {o : Oper} {a : Act} {Q : Exit → Act → World → Prop} (hgd : o.guard = none) (sl x : Operand)
    (ho : o.op = .call { callee := .builtin .append, args := #[sl, x], argTypes := #[37, 9] })
    (base : Nat) (v : Value) (L : List UInt8) (hs : a.eval sl = v) (hown : OwnB w base v L) (s : List UInt8) (hx : a.eval x = .string ⟨s.toArray⟩) (hsm : L.length + s.length ≤ 100000000) (hbase : base ≤ w.heap.size)
    (h : ∀ v' w', OwnB w' base v' (L ++ s) → OnlyB base w w' → wpList Tryz.prog ops Q rest (a.put o.dst v') w') : wpList Tryz.prog ops Q (o :: rest) a w := by
  obtain ⟨i0, hi, hz0, hz1, hz2⟩ := info_parts info5
  have hsz : (⟨s.toArray⟩ : ByteArray).size = s.length := by simp [ByteArray.size]
  refine Lib.wpList_append_own_string w hgd sl x _ _ ho base _ i0 Tryz.underlying37 Tryz.underlying9 hi hz0 hz1 hz2 v L.length (bv L) hs hown ⟨s.toArray⟩ hx (by rw [hsz]; unfold maxLen; omega) (by rw [hsz]; omega) hbase (fun v' w' h2 h3 h4 => h v' w' ?_ (OnlyB.of_grown hown h3))
  unfold OwnB
  rw [List.length_append, bv_append, ← strCells_bv, ← hsz]
  exact h2

set_option maxHeartbeats 2000000 in
theorem layText_any (w : World) (base : Nat) (v : Value) (s : List UInt8) (k : Nat) (L : List UInt8) (h : OwnB w base v L) (hb : base ≤ w.heap.size) (hL : L.length ≤ 900000) (hs : s.length ≤ 3000) (hk : k ≤ 2) :
    Calls Tryz.prog 61 #[v, .int .i64 k, encStr s] w (LayTo w base (L ++ leB k s.length ++ s)) := by
  have H := Lib.hid h
  clear h
  unfold encStr
  go_enter Tryz.func61, Tryz.ntmps61
  go_wp2_with fail
  refine (layNumber_any _ base v s.length k L H.out hb (by omega) (by omega) hk).mono ?_
  rintro e w1 ⟨v1, rfl, h1, hb1⟩
  have hb1s : base ≤ w1.heap.size := Nat.le_trans hb hb1.size
  have hlen : (L ++ leB k s.length).length + s.length ≤ 100000000 := by rw [List.length_append, length_leB]; omega
  go_wp2_with (at_builtin; refine wpList_append_s rfl _ _ rfl base _ _ rfl h1 s rfl hlen hb1s ?_; intro v2 w2 h2 hb2)
  go_ret
  exact ⟨v2, rfl, h2, hb1.trans hb2⟩

def fileB (f : FileM) : List UInt8 := leB 1 f.1.length ++ f.1 ++ (leB 2 f.2.length ++ f.2)
theorem length_fileB (f : FileM) : (fileB f).length = 3 + f.1.length + f.2.length := by simp [fileB, length_leB]; omega

set_option maxHeartbeats 2000000 in
theorem layFile_any (w : World) (base : Nat) (v : Value) (f : FileM) (L : List UInt8) (h : OwnB w base v L) (hb : base ≤ w.heap.size) (hL : L.length ≤ 850000) (hs1 : f.1.length ≤ 3000) (hs2 : f.2.length ≤ 3000) :
    Calls Tryz.prog 39 #[v, fileV f] w (LayTo w base (L ++ fileB f)) := by
  have H := Lib.hid h
  obtain ⟨fn, ft⟩ := f
  unfold fileV encStr
  simp only at hs1 hs2
  clear h
  go_enter Tryz.func39, Tryz.ntmps39
  have hmade := IsBlk.made w (.cells #[.string ⟨fn.toArray⟩, .string ⟨ft.toArray⟩] 48)
  have hOa := (Only.refl [] w).alloc (.cells #[.string ⟨fn.toArray⟩, .string ⟨ft.toArray⟩] 48)
  go_wp2_with fail
  generalize w.alloc (.cells #[.string ⟨fn.toArray⟩, .string ⟨ft.toArray⟩] 48) = wA at *
  generalize w.heap.size = p at *
  have g0 : wA.cell? ⟨p, 0, none⟩ = some (.string ⟨fn.toArray⟩) := hmade.cell 0
  have g1 : wA.cell? ⟨p, 1, none⟩ = some (.string ⟨ft.toArray⟩) := hmade.cell 1
  have Hmade := Lib.hid hmade
  have HOa := Lib.hid hOa
  have hbA : base ≤ wA.heap.size := Nat.le_trans hb (Nat.le_of_lt hmade.lt)
  have HoA := Lib.hid (rowOnly (w' := wA.drew) H.out hOa.drew)
  clear hmade hOa
  go_region_held3 (fun W => W.cell? ⟨p, 0, none⟩ = some (.string ⟨fn.toArray⟩) ∧ W.cell? ⟨p, 1, none⟩ = some (.string ⟨ft.toArray⟩)) (first | exact ⟨g0, g1⟩ | assumption)
    (first
      | (go_at_call 61
         refine (layText_any _ base v1 ft 2 _ h1 hb1 hL1 (by omega) (by omega)).mono ?_
         rintro e w2 ⟨v2, rfl, h2, hB2⟩
         have hS2 : w2.cell? ⟨p, 0, none⟩ = some (.string ⟨fn.toArray⟩) ∧ w2.cell? ⟨p, 1, none⟩ = some (.string ⟨ft.toArray⟩) := ⟨(hB2.blk hm1 (by decide)).cell 0, (hB2.blk hm1 (by decide)).cell 1⟩)
      | (go_at_call 61
         refine (layText_any _ base v fn 1 L HoA.out hbA (by omega) (by omega) (by omega)).mono ?_
         rintro e w1 ⟨v1, rfl, h1, hB1⟩
         have hm1 : IsBlk w1 p (.cells #[.string ⟨fn.toArray⟩, .string ⟨ft.toArray⟩] 48) := hB1.blk (IsBlk.drew Hmade.out) (by decide)
         have hS1 : w1.cell? ⟨p, 0, none⟩ = some (.string ⟨fn.toArray⟩) ∧ w1.cell? ⟨p, 1, none⟩ = some (.string ⟨ft.toArray⟩) := ⟨hm1.cell 0, hm1.cell 1⟩
         have hb1 : base ≤ w1.heap.size := Nat.le_trans hbA hB1.size
         have hL1 : (L ++ leB 1 fn.length ++ fn).length ≤ 900000 := by rw [List.length_append, List.length_append, length_leB]; omega))
  all_goals
    go_wp2
    go_ret
    refine ⟨v2, rfl, ?_, (OnlyB.of_only HOa.out.drew).trans (hB1.trans hB2)⟩
    have e : L ++ fileB (fn, ft) = L ++ leB 1 fn.length ++ fn ++ leB 2 ft.length ++ ft := by simp [fileB]
    rw [e]
    exact h2

/-- The bytes of a set. -/
def setB (F : List FileM) : List UInt8 := leB 1 F.length ++ F.flatMap fileB
/-- Files of modest sizes, and how many bytes they are. -/
def Modest (F : List FileM) : Prop := F.length ≤ 255 ∧ ∀ f ∈ F, f.1.length ≤ 255 ∧ f.2.length ≤ 3000
theorem flat_len {F : List FileM} (h : ∀ f ∈ F, f.1.length ≤ 255 ∧ f.2.length ≤ 3000) : (F.flatMap fileB).length ≤ 3300 * F.length := by
  induction F with
  | nil => simp
  | cons f r ih =>
    have h1 := h f (by simp)
    have h2 := ih (fun g hg => h g (by simp [hg]))
    rw [List.flatMap_cons, List.length_append, length_fileB, List.length_cons]
    omega
theorem OwnF.cells {w : World} {base j : Nat} {v : Value} {l : List FileM} (h : OwnF w base v l) (hj : j < l.length) : ∃ g cap, v = .slice (some ⟨g, 0, none⟩) l.length cap ∧ w.cell? ⟨g, j * 2, none⟩ = some (encStr l[j].1) ∧ w.cell? ⟨g, j * 2 + 1, none⟩ = some (encStr l[j].2) := by
  rcases h.2 with ⟨rfl, h0⟩ | ⟨g, cap, cur, rfl, hb, hg, _⟩
  · omega
  · have key : ∀ (m : List FileM) (i : Nat) (hi : i < m.length), (lcellsF m)[i * 2]? = some (encStr m[i].1) ∧ (lcellsF m)[i * 2 + 1]? = some (encStr m[i].2) := by
      intro m
      induction m with
      | nil => intro i hi; simp at hi
      | cons f r ih =>
        intro i hi
        cases i with
        | zero => simp [lcellsF, fcells]
        | succ i =>
          have := ih i (by simpa using hi)
          have e1 : (i + 1) * 2 = i * 2 + 2 := by omega
          rw [e1]
          simpa [lcellsF, fcells] using this
    obtain ⟨k0, k1⟩ := key l j hj
    have c0 := World.ownsRow.cells h (g := g) rfl (j * 2) _ k0
    have c1 := World.ownsRow.cells h (g := g) rfl (j * 2 + 1) _ k1
    rw [Addr.add_mid, Nat.zero_add] at c0 c1
    exact ⟨g, cap, rfl, c0, c1⟩
theorem OwnF.len {w : World} {base : Nat} {v : Value} {l : List FileM} (h : OwnF w base v l) : ∃ a cap, v = .slice a l.length cap := by
  rcases h.2 with ⟨rfl, h0⟩ | ⟨g, cap, cur, rfl, hb, hg, _⟩
  · exact ⟨none, 0, by rw [h0]⟩
  · exact ⟨_, cap, rfl⟩

set_option maxHeartbeats 4000000 in
theorem whole_any (w : World) (b : Nat) (F : List FileM) (h : SetAt w b F) (hM : Modest F) :
    Calls Tryz.prog 21 #[.map (some b)] w fun e w' => ∃ v, e = .returned v ∧ OwnB w' w.heap.size v (setB F) ∧ Only [] w w' := by
  have hlen := World.ownsMap.len h Tryz.underlying57
  have hsz : Maps.size (setD F) = F.length := by simp [setD, Maps.size]
  rw [hsz] at hlen
  have H := Lib.hid h
  have hF := hM.1
  have HM := Lib.hid hM.2
  clear h hsz hM
  go_enter Tryz.func21, Tryz.ntmps21
  go_wp2_with fail
  refine (layNumber_any _ w.heap.size _ F.length 1 [] (OwnB.nil _ _) (Nat.le_refl _) (by simp) (by omega) (by omega)).mono ?_
  rintro e w1 ⟨v1, rfl, h1, hB1⟩
  rw [List.nil_append] at h1
  have hO1 := hB1.only (Only.refl [] w) (Nat.le_refl _)
  have H1 := Lib.hid h1
  have HO1 := Lib.hid hO1
  clear h1 hB1 hO1
  go_wp2_with fail
  refine (list_any _ b F (H.out.more HO1.out) (by omega)).mono ?_
  rintro e w2 ⟨vL, rfl, hL, hO2⟩
  obtain ⟨aL, cL, rfl⟩ := hL.len
  have HL := Lib.hid hL
  have H2 : Hid (OwnB w2 w.heap.size v1 (leB 1 F.length)) := Lib.hid (rowOnly H1.out hO2)
  have HO2 := Lib.hid (HO1.out.plus hO2)
  have hs2 := HO2.out.size
  clear hL hO2 H1 HO1
  go_wp2_with fail
  go_loopw [12, 3] (fun i s3 wr => ∃ j : Nat, j ≤ F.length ∧ i = .int .i64 j ∧ OwnB wr w.heap.size s3 (leB 1 F.length ++ (F.take j).flatMap fileB) ∧ OwnF wr w1.heap.size (.slice aL F.length cL) F ∧ Only [] w wr) (fun i _ _ => F.length - (intOf i).toNat)
  case atStart => exact ⟨0, by omega, rfl, by simpa using H2.out, HL.out, HO2.out⟩
  case round =>
    obtain ⟨j, hj, rfl, hown, hL, hO⟩ := hrel
    have Hown := Lib.hid hown
    have HLj := Lib.hid hL
    have HO := Lib.hid hO
    clear hown hL hO
    by_cases hlt : j < F.length
    · have hlti : (j : Int) < (F.length : Int) := by omega
      obtain ⟨g, c', e, c0, c1⟩ := HLj.out.cells hlt
      injection e with e1 e2 e3
      subst e1 e3
      have Htk : Hid ((F.take (j + 1)).flatMap fileB = (F.take j).flatMap fileB ++ fileB F[j]) := Lib.hid (by rw [List.take_add_one, List.getElem?_eq_getElem hlt, List.flatMap_append]; simp only [Option.toList_some, List.flatMap_cons, List.flatMap_nil, List.append_nil])
      have hfl : ((F.take j).flatMap fileB).length ≤ 3300 * 255 := by
        have := flat_len (F := F.take j) (fun f hf => HM.out f (List.mem_of_mem_take hf))
        rw [List.length_take] at this
        have h2 : 3300 * min j F.length ≤ 3300 * 255 := Nat.mul_le_mul_left _ (by omega)
        omega
      have hfs := HM.out _ (List.getElem_mem hlt)
      generalize F[j] = f at *
      obtain ⟨fn, ft⟩ := f
      simp only at hfs c0 c1
      have hOa := Lib.hid ((Only.refl [] wr).alloc (.cells #[.string ⟨fn.toArray⟩, .string ⟨ft.toArray⟩] 48))
      have hll : (leB 1 F.length ++ (F.take j).flatMap fileB).length ≤ 850000 := by rw [List.length_append, length_leB]; omega
      have hszr := HO.out.size
      go_wp2_with fail
      refine (layFile_any _ w.heap.size _ (fn, ft) _ (rowOnly Hown.out hOa.out) (Nat.le_trans hszr hOa.out.size) hll (by simp only; omega) (by simp only; omega)).mono ?_
      rintro e w3 ⟨v3, rfl, h3, hB3⟩
      have H3 := Lib.hid h3
      have HL3 := Lib.hid (hB3.row (HLj.out.only hOa.out) (by decide))
      have HO3 := Lib.hid (hB3.only (HO.out.plus hOa.out) (Nat.le_refl _))
      clear h3 hB3 c0 c1
      go_wp2
      go_roundw
      case rel =>
        refine ⟨j + 1, by omega, by go_num, ?_, HL3.out, HO3.out⟩
        have := H3.out
        rw [List.append_assoc] at this
        rw [Htk.out]
        exact this
      case measure => simp [intOf]; omega
    · have hge : ¬ (j : Int) < (F.length : Int) := by omega
      go_wp2
      go_ret
      have hjF : j = F.length := by omega
      have := Hown.out
      rw [hjF, List.take_length] at this
      exact ⟨_, rfl, this, HO.out⟩

end Go.Proofs.YtfampoblcielpaaGreat
